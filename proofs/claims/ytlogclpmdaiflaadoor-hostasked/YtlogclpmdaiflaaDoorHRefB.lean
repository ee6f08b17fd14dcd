/-
  Walks of the document's own answers: kind, Order.
-/
import Derived.Test.YtlogclpmdaiflaaDoorHRefA
namespace Go.Proofs.YtlogclpmdaiflaaDoor
open Go Go.RowKit Go.Shelf

set_option maxHeartbeats 400000 in
theorem rkind_any (s : ByteArray) (w : World) (hs : s.size ≤ maxLen) :
    Calls Tryd.prog 40 #[.string s] w fun e w' => e = .returned (.int .i64 (kd s.data.toList)) ∧ w' = w := by
  cases h : s.toList.isEmpty
  · cases hw : isW s.data.toList
    · have HF : Hid (kd s.data.toList = 0) := by unfold Hid kd; rw [empty_iff, h, hw]; rfl
      have HW := hide hw
      clear hw
      go_enter Tryd.func40, Tryd.ntmps40
      go_wp2_with fail
      refine (wide_any _ _ hs).mono ?_
      rintro e x ⟨rfl, rfl⟩
      rw [HW.out]
      go_wp2_with fail
      go_ret
      exact ⟨ret_int HF.out.symm, rfl⟩
    · have HF : Hid (kd s.data.toList = 1) := by unfold Hid kd; rw [empty_iff, h, hw]; rfl
      have HW := hide hw
      clear hw
      go_enter Tryd.func40, Tryd.ntmps40
      go_wp2_with fail
      refine (wide_any _ _ hs).mono ?_
      rintro e x ⟨rfl, rfl⟩
      rw [HW.out]
      go_wp2_with fail
      go_ret
      exact ⟨ret_int HF.out.symm, rfl⟩
  · have HF : Hid (kd s.data.toList = 2) := by unfold Hid kd; rw [empty_iff, h]; rfl
    go_enter Tryd.func40, Tryd.ntmps40
    go_wp2_with fail
    go_ret
    exact ⟨ret_int HF.out.symm, rfl⟩

theorem less_cmp : ∀ a b : List UInt8, Op.bytesLess a b = decide (Lib.compareBytes a b = -1)
  | [], [] => rfl
  | [], _ :: _ => rfl
  | _ :: _, [] => rfl
  | x :: a, y :: b => by
    unfold Op.bytesLess Lib.compareBytes
    rw [less_cmp a b]
    by_cases h1 : x < y
    · simp [h1]
    · by_cases h2 : y < x
      · have : ¬ x = y := by rintro rfl; exact UInt8.lt_irrefl _ h2
        simp [h1, h2, this]
      · have : x = y := by
          apply UInt8.toNat_inj.1
          rw [UInt8.lt_iff_toNat_lt] at *
          omega
        subst this
        simp [h1]
theorem text_cases (a b : ByteArray) : (Op.bytesLess a.toList b.toList = true ∧ Hid (Lib.compareBytes a.data.toList b.data.toList = -1)) ∨
    (Op.bytesLess a.toList b.toList = false ∧ (a.toList == b.toList) = true ∧ Hid (Lib.compareBytes a.data.toList b.data.toList = 0)) ∨
    (Op.bytesLess a.toList b.toList = false ∧ (a.toList == b.toList) = false ∧ Hid (Lib.compareBytes a.data.toList b.data.toList = 1)) := by
  rw [Lib.toList_data, Lib.toList_data, less_cmp]
  have hz := cmp_zero a.data.toList b.data.toList
  have hr : Lib.compareBytes a.data.toList b.data.toList = -1 ∨ Lib.compareBytes a.data.toList b.data.toList = 0 ∨ Lib.compareBytes a.data.toList b.data.toList = 1 := cmp_range _ _
  rcases hr with h | h | h
  · exact .inl ⟨by rw [h]; rfl, h⟩
  · exact .inr (.inl ⟨by rw [h]; rfl, beq_iff_eq.2 (hz.1 h), h⟩)
  · refine .inr (.inr ⟨by rw [h]; rfl, beq_eq_false_iff_ne.2 (fun e => ?_), h⟩)
    have := hz.2 e
    omega

set_option maxHeartbeats 800000 in
theorem rorder_kind (a b : ByteArray) (w : World) (ha : a.size ≤ maxLen) (hb : b.size ≤ maxLen) (h : kd a.data.toList < kd b.data.toList ∨ kd b.data.toList < kd a.data.toList) :
    Calls Tryd.prog 22 #[.string a, .string b] w fun e w' => e = .returned (.int .i64 (ord a.data.toList b.data.toList)) ∧ w' = w := by
  have KA := fun w => hide (rkind_any a w ha)
  have KB := fun w => hide (rkind_any b w hb)
  have HE : Hid (ord a.data.toList b.data.toList = if kd a.data.toList < kd b.data.toList then -1 else 1) := by
    unfold Hid ord
    rcases h with h | h
    · simp [h]
    · have : ¬ kd a.data.toList < kd b.data.toList := by omega
      simp [h, this]
  generalize kd a.data.toList = ka at *
  generalize kd b.data.toList = kb at *
  have hne : (ka != kb) = true := by rw [bne_iff_ne]; omega
  by_cases hlt : ka < kb
  · clear h
    rw [if_pos hlt] at HE
    go_enter Tryd.func22, Tryd.ntmps22
    go_wp2_with fail
    refine (KA _).out.mono ?_
    rintro e x ⟨rfl, rfl⟩
    go_wp2_with fail
    refine (KB _).out.mono ?_
    rintro e x ⟨rfl, rfl⟩
    go_wp2_with fail
    refine (KA _).out.mono ?_
    rintro e x ⟨rfl, rfl⟩
    go_wp2_with fail
    refine (KB _).out.mono ?_
    rintro e x ⟨rfl, rfl⟩
    go_wp2_with fail
    go_ret
    exact ⟨ret_int HE.out.symm, rfl⟩
  · clear h
    rw [if_neg hlt] at HE
    go_enter Tryd.func22, Tryd.ntmps22
    go_wp2_with fail
    refine (KA _).out.mono ?_
    rintro e x ⟨rfl, rfl⟩
    go_wp2_with fail
    refine (KB _).out.mono ?_
    rintro e x ⟨rfl, rfl⟩
    go_wp2_with fail
    refine (KA _).out.mono ?_
    rintro e x ⟨rfl, rfl⟩
    go_wp2_with fail
    refine (KB _).out.mono ?_
    rintro e x ⟨rfl, rfl⟩
    go_wp2_with fail
    go_ret
    exact ⟨ret_int HE.out.symm, rfl⟩

set_option maxHeartbeats 800000 in
theorem rorder_text (a b : ByteArray) (w : World) (ha : a.size ≤ maxLen) (hb : b.size ≤ maxLen) (h : (kd a.data.toList != kd b.data.toList) = false)
    (h1 : (kd a.data.toList == 1) = false ∨ (kd a.data.toList == 1) = true ∧ ((a.size : Int) != (b.size : Int)) = false) :
    Calls Tryd.prog 22 #[.string a, .string b] w fun e w' => e = .returned (.int .i64 (Lib.compareBytes a.data.toList b.data.toList)) ∧ w' = w := by
  have KA := fun w => hide (rkind_any a w ha)
  have KB := fun w => hide (rkind_any b w hb)
  generalize kd a.data.toList = ka at *
  generalize kd b.data.toList = kb at *
  rcases h1 with h1 | ⟨h1, h2⟩ <;> rcases text_cases a b with ⟨t1, T⟩ | ⟨t1, t2, T⟩ | ⟨t1, t2, T⟩
  all_goals
    go_enter Tryd.func22, Tryd.ntmps22
    go_wp2_with fail
    refine (KA _).out.mono ?_
    rintro e x ⟨rfl, rfl⟩
    go_wp2_with fail
    refine (KB _).out.mono ?_
    rintro e x ⟨rfl, rfl⟩
    go_wp2_with fail
    refine (KA _).out.mono ?_
    rintro e x ⟨rfl, rfl⟩
    go_wp2_with fail
    go_ret
    exact ⟨ret_int T.out.symm, rfl⟩

set_option maxHeartbeats 800000 in
theorem rorder_size (a b : ByteArray) (w : World) (ha : a.size ≤ maxLen) (hb : b.size ≤ maxLen) (h : (kd a.data.toList != kd b.data.toList) = false) (h1 : (kd a.data.toList == 1) = true) (h2 : ((a.size : Int) != (b.size : Int)) = true) :
    Calls Tryd.prog 22 #[.string a, .string b] w fun e w' => e = .returned (.int .i64 (if (b.size : Int) < (a.size : Int) then -1 else 1)) ∧ w' = w := by
  have KA := fun w => hide (rkind_any a w ha)
  have KB := fun w => hide (rkind_any b w hb)
  generalize kd a.data.toList = ka at *
  generalize kd b.data.toList = kb at *
  by_cases hlt : (b.size : Int) < (a.size : Int)
  · rw [if_pos hlt]
    go_enter Tryd.func22, Tryd.ntmps22
    go_wp2_with fail
    refine (KA _).out.mono ?_
    rintro e x ⟨rfl, rfl⟩
    go_wp2_with fail
    refine (KB _).out.mono ?_
    rintro e x ⟨rfl, rfl⟩
    go_wp2_with fail
    refine (KA _).out.mono ?_
    rintro e x ⟨rfl, rfl⟩
    go_wp2_with fail
    go_ret
    exact ⟨rfl, rfl⟩
  · rw [if_neg hlt]
    go_enter Tryd.func22, Tryd.ntmps22
    go_wp2_with fail
    refine (KA _).out.mono ?_
    rintro e x ⟨rfl, rfl⟩
    go_wp2_with fail
    refine (KB _).out.mono ?_
    rintro e x ⟨rfl, rfl⟩
    go_wp2_with fail
    refine (KA _).out.mono ?_
    rintro e x ⟨rfl, rfl⟩
    go_wp2_with fail
    go_ret
    exact ⟨rfl, rfl⟩

theorem kd_wild {l : List UInt8} (h : kd l = 1) : sz l = l.length := by
  unfold kd at h
  unfold sz
  split at h
  · omega
  · split at h
    · simp [*]
    · omega
theorem kd_other {l : List UInt8} (h : kd l ≠ 1) : sz l = 0 := by
  unfold kd at h
  unfold sz
  split
  · rfl
  · rename_i h0
    rw [if_neg h0] at h
    split at h
    · exact absurd rfl h
    · simp [*]

theorem rorder_any (a b : ByteArray) (w : World) (ha : a.size ≤ maxLen) (hb : b.size ≤ maxLen) :
    Calls Tryd.prog 22 #[.string a, .string b] w fun e w' => e = .returned (.int .i64 (ord a.data.toList b.data.toList)) ∧ w' = w := by
  have hal : a.data.toList.length = a.size := Array.length_toList
  have hbl : b.data.toList.length = b.size := Array.length_toList
  by_cases hk : kd a.data.toList = kd b.data.toList
  · have h : (kd a.data.toList != kd b.data.toList) = false := by rw [hk]; simp
    by_cases h1 : kd a.data.toList = 1
    · have za := kd_wild h1
      have zb := kd_wild (hk.symm.trans h1)
      rw [hal] at za
      rw [hbl] at zb
      by_cases h2 : (a.size : Int) = (b.size : Int)
      · rw [show ord a.data.toList b.data.toList = Lib.compareBytes a.data.toList b.data.toList by unfold ord; rw [hk, za, zb, h2]; simp]
        exact rorder_text a b w ha hb h (.inr ⟨beq_iff_eq.2 h1, by rw [bne_eq_false_iff_eq]; exact h2⟩)
      · rw [show ord a.data.toList b.data.toList = if (b.size : Int) < (a.size : Int) then -1 else 1 by
          unfold ord
          rw [hk, za, zb]
          by_cases h3 : (b.size : Int) < (a.size : Int)
          · simp only [h3, if_true]; simp
          · have h4 : (a.size : Int) < (b.size : Int) := by omega
            simp only [h3, h4, if_true, if_false]; simp]
        exact rorder_size a b w ha hb h (beq_iff_eq.2 h1) (by rw [bne_iff_ne]; exact h2)
    · have za := kd_other h1
      have zb := kd_other (l := b.data.toList) (fun e => h1 (hk.trans e))
      rw [show ord a.data.toList b.data.toList = Lib.compareBytes a.data.toList b.data.toList by unfold ord; rw [hk, za, zb]; simp]
      exact rorder_text a b w ha hb h (.inl (beq_eq_false_iff_ne.2 h1))
  · exact rorder_kind a b w ha hb (by omega)

end Go.Proofs.YtlogclpmdaiflaaDoor
