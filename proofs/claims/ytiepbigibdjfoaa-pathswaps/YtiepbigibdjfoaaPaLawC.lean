/-
  The law PathBacks.
-/
import Derived.Test.YtiepbigibdjfoaaPaLawB
namespace Go.Proofs.Ytiepbigibdjfoaa
open Go Go.RowKit Go.Shelf

theorem root_not {a : ByteArray} (h : (a.toList == [47]) = false) : a.data.toList ≠ [47] := by
  rw [list_root] at h
  exact beq_eq_false_iff_ne.1 h
theorem mkB_nil {l : List UInt8} (h : l = []) : mkB l = ⟨#[]⟩ := by subst h; rfl
theorem mkB_back {l : List UInt8} {s : ByteArray} (h : l = s.data.toList) : mkB l = s := (mkB_eq h.symm).symm

set_option maxHeartbeats 1600000 in
theorem pathBacks_any (a0 b0 s0 : ByteArray) (w : World) (ha0 : a0.size ≤ maxLen) (hb0 : b0.size ≤ maxLen) (hs0 : s0.size ≤ maxLen) :
    Calls Try.prog 7 #[.string a0, .string b0, .string s0] w fun e w' => e = .returned (.bool true) ∧ Below w.heap.size w w' := by
  go_enter Try.func7, Try.ntmps7
  go_wp2_with fail
  refine (fewB_any _ _ ha0).mono ?_
  rintro e x ⟨rfl, hx⟩
  subst x
  go_wp2_with fail
  refine (fewB_any _ _ hb0).mono ?_
  rintro e x ⟨rfl, hx⟩
  subst x
  go_wp2_with fail
  refine (fewB_any _ _ hs0).mono ?_
  rintro e x ⟨rfl, hx⟩
  subst x
  go_wp2_with fail
  have la := fewB_le a0
  have lb := fewB_le b0
  have ls := fewB_le s0
  generalize fewB a0 = a at *
  generalize fewB b0 = b at *
  generalize fewB s0 = s at *
  clear ha0 hb0 hs0
  have ha : a.size ≤ maxLen := small_len (by omega)
  have hb : b.size ≤ maxLen := small_len (by omega)
  have hs : s.size ≤ maxLen := small_len (by omega)
  obtain ⟨ca, cb, cc, cd⟩ := gb2_cells w (.int .i64 2) (.string a) (.int .i64 2) (.string b) 23
  have hr := swapE_range 2 a.data.toList b.data.toList s.data.toList
  by_cases hE : swapE 2 a.data.toList b.data.toList s.data.toList = 0
  · have hq := swap_isP hE
    have HE := hide hE
    have HI : Hid (isP (mkB (swapT 2 a.data.toList b.data.toList s.data.toList)).data.toList = true) := by unfold Hid; rw [mkB_data]; exact hq.1
    have HH : Hid (holdP 2 b.data.toList (mkB (swapT 2 a.data.toList b.data.toList s.data.toList)).data.toList = true) := by unfold Hid; rw [mkB_data]; exact hq.2
    have ht : (mkB (swapT 2 a.data.toList b.data.toList s.data.toList)).size ≤ maxLen := small_len (by have := isP_len HI.out; omega)
    clear hr hq
    cases h1 : (a.toList == [47])
    · cases h2 : (b.toList == [47])
      · have hbk := swap_back hE (root_not h1) (root_not h2)
        have HB1 : Hid (swapE 2 b.data.toList a.data.toList (mkB (swapT 2 a.data.toList b.data.toList s.data.toList)).data.toList = 0) := by unfold Hid; rw [mkB_data]; exact hbk.1
        have HB2 : Hid (mkB (swapT 2 b.data.toList a.data.toList (mkB (swapT 2 a.data.toList b.data.toList s.data.toList)).data.toList) = s) := by unfold Hid; rw [mkB_data]; exact mkB_back hbk.2
        clear hE hbk
        refine (calls_gb0 (pswap_any _ _ _ _ _ ha hb hs)).mono ?_
        rintro e x ⟨rfl, q, rfl⟩
        rw [HE.out]
        generalize mkB (swapT 2 a.data.toList b.data.toList s.data.toList) = t at *
        go_wp2_with fail
        refine (calls_gb (isPath_any _ _ ht)).mono ?_
        rintro e x ⟨rfl, q, rfl⟩
        rw [HI.out]
        go_wp2_with fail
        refine (calls_gb (pholds_any _ _ _ _ hb ht)).mono ?_
        rintro e x ⟨rfl, q, rfl⟩
        rw [HH.out]
        go_wp2_with fail
        refine (calls_gb (pswap_any _ _ _ _ _ hb ha ht)).mono ?_
        rintro e x ⟨rfl, q, rfl⟩
        rw [HB1.out, HB2.out]
        go_wp2_with fail
        refine (calls_gb (pawake_any _)).mono ?_
        rintro e x ⟨rfl, q, rfl⟩
        go_wp2_with fail
        go_ret
        exact ⟨rfl, below_box2 q.h⟩
      · clear hE
        refine (calls_gb0 (pswap_any _ _ _ _ _ ha hb hs)).mono ?_
        rintro e x ⟨rfl, q, rfl⟩
        rw [HE.out]
        generalize mkB (swapT 2 a.data.toList b.data.toList s.data.toList) = t at *
        go_wp2_with fail
        refine (calls_gb (isPath_any _ _ ht)).mono ?_
        rintro e x ⟨rfl, q, rfl⟩
        rw [HI.out]
        go_wp2_with fail
        refine (calls_gb (pholds_any _ _ _ _ hb ht)).mono ?_
        rintro e x ⟨rfl, q, rfl⟩
        rw [HH.out]
        go_wp2_with fail
        refine (calls_gb (pswap_any _ _ _ _ _ hb ha ht)).mono ?_
        rintro e x ⟨rfl, q, rfl⟩
        go_wp2_with fail
        refine (calls_gb (pawake_any _)).mono ?_
        rintro e x ⟨rfl, q, rfl⟩
        go_wp2_with fail
        go_ret
        exact ⟨rfl, below_box2 q.h⟩
    · clear hE
      refine (calls_gb0 (pswap_any _ _ _ _ _ ha hb hs)).mono ?_
      rintro e x ⟨rfl, q, rfl⟩
      rw [HE.out]
      generalize mkB (swapT 2 a.data.toList b.data.toList s.data.toList) = t at *
      go_wp2_with fail
      refine (calls_gb (isPath_any _ _ ht)).mono ?_
      rintro e x ⟨rfl, q, rfl⟩
      rw [HI.out]
      go_wp2_with fail
      refine (calls_gb (pholds_any _ _ _ _ hb ht)).mono ?_
      rintro e x ⟨rfl, q, rfl⟩
      rw [HH.out]
      go_wp2_with fail
      refine (calls_gb (pswap_any _ _ _ _ _ hb ha ht)).mono ?_
      rintro e x ⟨rfl, q, rfl⟩
      go_wp2_with fail
      refine (calls_gb (pawake_any _)).mono ?_
      rintro e x ⟨rfl, q, rfl⟩
      go_wp2_with fail
      go_ret
      exact ⟨rfl, below_box2 q.h⟩
  · have HT := hide (mkB_nil (swap_no hE))
    have h5 : (swapE 2 a.data.toList b.data.toList s.data.toList != 0) = true := by simpa using hE
    clear hE hr
    refine (calls_gb0 (pswap_any _ _ _ _ _ ha hb hs)).mono ?_
    rintro e x ⟨rfl, q, rfl⟩
    rw [HT.out]
    generalize swapE 2 a.data.toList b.data.toList s.data.toList = n at *
    go_wp2_with fail
    refine (calls_gb (pawake_any _)).mono ?_
    rintro e x ⟨rfl, q, rfl⟩
    go_wp2_with fail
    go_ret
    exact ⟨rfl, below_box2 q.h⟩

end Go.Proofs.Ytiepbigibdjfoaa
