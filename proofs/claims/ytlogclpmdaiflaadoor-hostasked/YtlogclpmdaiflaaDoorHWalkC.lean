/-
  Walks: exactnessOf, Order.
-/
import Derived.Test.YtlogclpmdaiflaaDoorHWalkB
import Derived.Deep.RegionHeld3
namespace Go.Proofs.YtlogclpmdaiflaaDoor
open Go Go.RowKit Go.Shelf

set_option maxHeartbeats 400000 in
theorem exactness_any (s : ByteArray) (w : World) (hs : s.size ≤ maxLen) :
    Calls Tryd.prog 36 #[.string s] w fun e w' => e = .returned (.agg #[.int .i64 (fm s.data.toList), .int .i64 (sz s.data.toList)]) ∧ Below w.heap.size w w' := by
  have hsl : s.data.toList.length = s.size := Array.length_toList
  cases h : s.toList.isEmpty
  · cases hw : isW s.data.toList
    · have HF : Hid (fm s.data.toList = 2) := by unfold Hid fm; rw [empty_iff, h, hw]; rfl
      have HZ : Hid (sz s.data.toList = 0) := by unfold Hid sz; rw [empty_iff, h, hw]; rfl
      have HW := hide hw
      clear hw hsl
      go_enter Tryd.func36, Tryd.ntmps36
      go_wp2_with fail
      refine (hasPrefix_any _ _ _ hs star_len).mono ?_
      rintro e x ⟨rfl, rfl⟩
      rw [isWB, HW.out]
      go_wp2_with fail
      rw [HF.out, HZ.out]
      exact bodyPost_ret (v := .agg #[.int .i64 2, .int .i64 0]) (by simp [results, Tryd.results36, go_sem]) rfl ⟨rfl, (Below.refl _ _).alloc (Nat.le_refl _) _⟩
    · have HF : Hid (fm s.data.toList = 1) := by unfold Hid fm; rw [empty_iff, h, hw]; rfl
      have HZ : Hid (sz s.data.toList = s.size) := by unfold Hid sz; rw [empty_iff, h, hw, ← hsl]; rfl
      have HW := hide hw
      clear hw hsl
      go_enter Tryd.func36, Tryd.ntmps36
      go_wp2_with fail
      refine (hasPrefix_any _ _ _ hs star_len).mono ?_
      rintro e x ⟨rfl, rfl⟩
      rw [isWB, HW.out]
      go_wp2_with fail
      rw [HF.out, HZ.out]
      exact bodyPost_ret (v := .agg #[.int .i64 1, .int .i64 s.size]) (by simp [results, Tryd.results36, go_sem]) rfl ⟨rfl, (Below.refl _ _).alloc (Nat.le_refl _) _⟩
  · have HF : Hid (fm s.data.toList = 0) := by unfold Hid fm; rw [empty_iff, h]; rfl
    have HZ : Hid (sz s.data.toList = 0) := by unfold Hid sz; rw [empty_iff, h]; rfl
    clear hsl
    go_enter Tryd.func36, Tryd.ntmps36
    go_wp2_with fail
    rw [HF.out, HZ.out]
    exact bodyPost_ret (v := .agg #[.int .i64 0, .int .i64 0]) (by simp [results, Tryd.results36, go_sem]) rfl ⟨rfl, (Below.refl _ _).alloc (Nat.le_refl _) _⟩

/-- cmp.Or of two that have just been laid -/
theorem or_at (w2 : World) (o1 o2 : Obj) (x y : Int) : Calls Tryd.prog 38 #[.slice (some ⟨w2.heap.size + 1 + 1, 0, none⟩) 2 2] (((w2.alloc o1).alloc o2).alloc (.cells #[.int .i64 x, .int .i64 y] 3)).drew
    fun e w' => e = .returned (.int .i64 (orI x y)) ∧ w' = (((w2.alloc o1).alloc o2).alloc (.cells #[.int .i64 x, .int .i64 y] 3)).drew := by
  have h := World.alloc_heap_new ((w2.alloc o1).alloc o2) (.cells #[.int .i64 x, .int .i64 y] 3)
  simp only [World.size_alloc] at h
  have h' : (((w2.alloc o1).alloc o2).alloc (.cells #[.int .i64 x, .int .i64 y] 3)).drew.heap[w2.heap.size + 1 + 1]? = some (.cells #[.int .i64 x, .int .i64 y] 3) := h
  exact cmpOr_any x y _ _ (by simp only [World.cell?]; rw [h']; rfl) (by simp only [World.cell?]; rw [h']; rfl)

/-- Order by form and size -/
theorem ord_same {a b : List UInt8} (h1 : fm a = fm b) (h2 : sz a = sz b) : ord a b = Lib.compareBytes a b := by
  rw [fm_kd, fm_kd] at h1
  have e : kd a = kd b := by omega
  unfold ord
  rw [e, h2]
  simp
theorem ord_other {a b : List UInt8} (h : ¬ (fm a = fm b ∧ sz a = sz b)) : ord a b = orI (cmpI (fm b) (fm a)) (cmpI (sz b) (sz a)) := by
  rw [fm_kd, fm_kd] at *
  unfold ord orI cmpI
  by_cases h1 : kd a < kd b
  · have : 2 - kd b < 2 - kd a := by omega
    simp [h1, this]
  · by_cases h2 : kd b < kd a
    · have e1 : ¬ 2 - kd b < 2 - kd a := by omega
      have e2 : 2 - kd a < 2 - kd b := by omega
      simp [h1, h2, e1, e2]
    · have e1 : ¬ 2 - kd b < 2 - kd a := by omega
      have e2 : ¬ 2 - kd a < 2 - kd b := by omega
      simp only [h1, h2, e1, e2, if_false, if_true]
      by_cases h3 : sz b < sz a
      · simp [h3]
      · by_cases h4 : sz a < sz b
        · simp [h3, h4]
        · exact absurd ⟨by omega, by omega⟩ h

set_option maxHeartbeats 1600000 in
theorem horder_any (a b : ByteArray) (w : World) (ha : a.size ≤ maxLen) (hb : b.size ≤ maxLen) :
    Calls Tryd.prog 21 #[.string a, .string b] w fun e w' => e = .returned (.int .i64 (ord a.data.toList b.data.toList)) ∧ Below w.heap.size w w' := by
  by_cases hq : fm a.data.toList = fm b.data.toList ∧ sz a.data.toList = sz b.data.toList
  · have HE := hide (ord_same hq.1 hq.2)
    have h1 : (fm a.data.toList == fm b.data.toList) = true := by rw [hq.1]; simp
    have h2 : (sz a.data.toList == sz b.data.toList) = true := by rw [hq.2]; simp
    clear hq
    go_enter Tryd.func21, Tryd.ntmps21
    go_wp2_with fail
    refine (exactness_any _ _ ha).mono ?_
    rintro e w1 ⟨rfl, hb1⟩
    go_wp2_with fail
    refine (exactness_any _ _ hb).mono ?_
    rintro e w2 ⟨rfl, hb2⟩
    generalize fm a.data.toList = fa at *
    generalize fm b.data.toList = fb at *
    generalize sz a.data.toList = sa at *
    generalize sz b.data.toList = sb at *
    go_wp2_with fail
    refine (compare_any _ _ _).mono ?_
    rintro e x ⟨rfl, rfl⟩
    go_wp2_with fail
    go_ret
    exact ⟨ret_int HE.out.symm, ((hb1.trans (hb2.mono hb1.size)).alloc (by have := hb1.size; have := hb2.size; omega) _).alloc (by have := hb1.size; have := hb2.size; simp; omega) _⟩
  · have HE := hide (ord_other hq)
    have h12 : ((fm a.data.toList == fm b.data.toList) = false) ∨ ((fm a.data.toList == fm b.data.toList) = true ∧ (sz a.data.toList == sz b.data.toList) = false) := by
      by_cases e : fm a.data.toList = fm b.data.toList
      · exact .inr ⟨by rw [e]; simp, beq_eq_false_iff_ne.2 (fun e2 => hq ⟨e, e2⟩)⟩
      · exact .inl (beq_eq_false_iff_ne.2 e)
    clear hq
    go_enter Tryd.func21, Tryd.ntmps21
    go_wp2_with fail
    refine (exactness_any _ _ ha).mono ?_
    rintro e w1 ⟨rfl, hb1⟩
    go_wp2_with fail
    refine (exactness_any _ _ hb).mono ?_
    rintro e w2 ⟨rfl, hb2⟩
    generalize fm a.data.toList = fa at *
    generalize fm b.data.toList = fb at *
    generalize sz a.data.toList = sa at *
    generalize sz b.data.toList = sb at *
    have hB := hb1.trans (hb2.mono hb1.size)
    have hsz := hB.size
    rcases h12 with h1 | ⟨h1, h2⟩
    all_goals
      go_wp2_with fail
      go_region_held3 (fun w' => w'.cell? ⟨w2.heap.size, 0, none⟩ = some (.int .i64 fa) ∧ w'.cell? ⟨w2.heap.size, 1, none⟩ = some (.int .i64 sa) ∧ w'.cell? ⟨w2.heap.size + 1, 0, none⟩ = some (.int .i64 fb) ∧ w'.cell? ⟨w2.heap.size + 1, 1, none⟩ = some (.int .i64 sb)) (go_keep) (first | (go_at_call 39; refine (cmpCompare_any _ _ _).mono ?_; rintro e x ⟨rfl, rfl⟩) | (go_at_call 38; refine (or_at _ _ _ _ _).mono ?_; rintro e x ⟨rfl, rfl⟩))
      go_wp2_with fail
      go_ret
      refine ⟨ret_int HE.out.symm, Below.drew (((hB.alloc ?_ _).alloc ?_ _).alloc ?_ _)⟩
      all_goals (first | omega | (simp; omega))

end Go.Proofs.YtlogclpmdaiflaaDoor
