/-
  The law HostJust: its walk.
-/
import Derived.Test.YtlogclpmdaiflaaDoorHLawA
namespace Go.Proofs.YtlogclpmdaiflaaDoor
open Go Go.RowKit Go.Shelf

set_option maxHeartbeats 1600000 in
theorem just_law (s1 s2 s3 : ByteArray) (w : World) (hs1 : s1.size ≤ maxLen) (hs2 : s2.size ≤ maxLen) (hs3 : s3.size ≤ maxLen) :
    Calls Tryd.prog 6 #[.string s1, .string s2, .string s3] w fun e w' => e = .returned (.bool true) ∧ Below w.heap.size w w' := by
  go_enter Tryd.func6, Tryd.ntmps6
  go_wp2_with fail
  refine (few_any _ _ hs1).mono ?_
  rintro e w0 ⟨a, rfl, ha, rfl⟩
  go_wp2_with fail
  refine (few_any _ _ hs2).mono ?_
  rintro e w0' ⟨b, rfl, hb, rfl⟩
  go_wp2_with fail
  refine (few_any _ _ hs3).mono ?_
  rintro e w ⟨h, rfl, hh, rfl⟩
  have la : a.size ≤ maxLen := small_len (by omega)
  have lb : b.size ≤ maxLen := small_len (by omega)
  have lh : h.size ≤ maxLen := small_len (by omega)
  have lm := small_len (Nat.le_trans (meetB_le ha hb) (by omega : 100 ≤ 1000))
  cases hm : meetI a.data.toList b.data.toList
  · have HM := hide hm
    have HV := hide (meetB_no hm)
    have hj := just_no (h := h.data.toList) hm
    clear hm
    cases h1 : holds a.data.toList h.data.toList
    · have H1 := hide h1
      clear h1 hj
      go_wp2_with fail
      refine (hholds_any _ _ _ la lh).mono ?_
      rintro e w1 ⟨rfl, hb1⟩
      rw [H1.out]
      go_wp2_with fail
      refine (hmeet_any _ _ _ la lb).mono ?_
      rintro e w2 ⟨rfl, hb2⟩
      rw [HM.out, HV.out]
      go_wp2_with fail
      refine (hawake_any _).mono ?_
      rintro e w3 ⟨rfl, hb3⟩
      go_wp2_with fail
      go_ret
      have bb2 := hb1.trans (hb2.mono hb1.size)
      have bb3 := bb2.trans (hb3.mono bb2.size)
      have bb := bb3
      exact ⟨rfl, bb⟩
    · have H1 := hide h1
      have H2 : Hid (holds b.data.toList h.data.toList = false) := by rw [h1] at hj; exact hj
      clear h1 hj
      go_wp2_with fail
      refine (hholds_any _ _ _ la lh).mono ?_
      rintro e w1 ⟨rfl, hb1⟩
      rw [H1.out]
      go_wp2_with fail
      refine (hholds_any _ _ _ lb lh).mono ?_
      rintro e w2 ⟨rfl, hb2⟩
      rw [H2.out]
      go_wp2_with fail
      refine (hmeet_any _ _ _ la lb).mono ?_
      rintro e w3 ⟨rfl, hb3⟩
      rw [HM.out, HV.out]
      go_wp2_with fail
      refine (hawake_any _).mono ?_
      rintro e w4 ⟨rfl, hb4⟩
      go_wp2_with fail
      go_ret
      have bb2 := hb1.trans (hb2.mono hb1.size)
      have bb3 := bb2.trans (hb3.mono bb2.size)
      have bb4 := bb3.trans (hb4.mono bb3.size)
      have bb := bb4
      exact ⟨rfl, bb⟩
  · have HM := hide hm
    have HY : Hid (may (meetB a b).data.toList = true) := by unfold Hid; rw [meetB_data]; exact meetV_may _ _
    have hj : holds (meetB a b).data.toList h.data.toList = (holds a.data.toList h.data.toList && holds b.data.toList h.data.toList) := by rw [meetB_data]; exact just_yes hm
    clear hm
    cases h1 : holds a.data.toList h.data.toList
    · have H1 := hide h1
      rw [h1, Bool.false_and] at hj
      have HJ := hide hj
      clear h1 hj
      go_wp2_with fail
      refine (hholds_any _ _ _ la lh).mono ?_
      rintro e w1 ⟨rfl, hb1⟩
      rw [H1.out]
      go_wp2_with fail
      refine (hmeet_any _ _ _ la lb).mono ?_
      rintro e w2 ⟨rfl, hb2⟩
      rw [HM.out]
      go_wp2_with fail
      refine (hmay_any _ _ lm).mono ?_
      rintro e w3 ⟨rfl, hb3⟩
      rw [HY.out]
      go_wp2_with fail
      refine (hholds_any _ _ _ lm lh).mono ?_
      rintro e w4 ⟨rfl, hb4⟩
      rw [HJ.out]
      go_wp2_with fail
      refine (hawake_any _).mono ?_
      rintro e w5 ⟨rfl, hb5⟩
      go_wp2_with fail
      go_ret
      have bb2 := hb1.trans (hb2.mono hb1.size)
      have bb3 := bb2.trans (hb3.mono bb2.size)
      have bb4 := bb3.trans (hb4.mono bb3.size)
      have bb5 := bb4.trans (hb5.mono bb4.size)
      have bb := bb5
      exact ⟨rfl, bb⟩
    · have H1 := hide h1
      rw [h1, Bool.true_and] at hj
      have HJ := hide hj
      clear h1 hj
      go_wp2_with fail
      refine (hholds_any _ _ _ la lh).mono ?_
      rintro e w1 ⟨rfl, hb1⟩
      rw [H1.out]
      go_wp2_with fail
      refine (hholds_any _ _ _ lb lh).mono ?_
      rintro e w2 ⟨rfl, hb2⟩
      go_wp2_with fail
      refine (hmeet_any _ _ _ la lb).mono ?_
      rintro e w3 ⟨rfl, hb3⟩
      rw [HM.out]
      go_wp2_with fail
      refine (hmay_any _ _ lm).mono ?_
      rintro e w4 ⟨rfl, hb4⟩
      rw [HY.out]
      go_wp2_with fail
      refine (hholds_any _ _ _ lm lh).mono ?_
      rintro e w5 ⟨rfl, hb5⟩
      rw [HJ.out]
      go_wp2_with fail
      generalize holds b.data.toList h.data.toList = m at *
      refine (hawake_any _).mono ?_
      rintro e w6 ⟨rfl, hb6⟩
      go_wp2_with fail
      go_ret
      have bb2 := hb1.trans (hb2.mono hb1.size)
      have bb3 := bb2.trans (hb3.mono bb2.size)
      have bb4 := bb3.trans (hb4.mono bb3.size)
      have bb5 := bb4.trans (hb5.mono bb4.size)
      have bb6 := bb5.trans (hb6.mono bb5.size)
      have bb := bb6
      exact ⟨rfl, bb⟩

end Go.Proofs.YtlogclpmdaiflaaDoor
