/-
  The law HostTurns: its walk.
-/
import Derived.Test.YtlogclpmdaiflaaDoorHLawA
namespace Go.Proofs.YtlogclpmdaiflaaDoor
open Go Go.RowKit Go.Shelf

set_option maxHeartbeats 3200000 in
theorem turns_law (s1 s2 s3 : ByteArray) (w : World) (hs1 : s1.size ≤ maxLen) (hs2 : s2.size ≤ maxLen) (hs3 : s3.size ≤ maxLen) :
    Calls Tryd.prog 7 #[.string s1, .string s2, .string s3] w fun e w' => e = .returned (.bool true) ∧ Below w.heap.size w w' := by
  go_enter Tryd.func7, Tryd.ntmps7
  go_wp2_with fail
  refine (few_any _ _ hs1).mono ?_
  rintro e w0 ⟨a, rfl, ha, rfl⟩
  go_wp2_with fail
  refine (few_any _ _ hs2).mono ?_
  rintro e w0' ⟨b, rfl, hb, rfl⟩
  go_wp2_with fail
  refine (few_any _ _ hs3).mono ?_
  rintro e w ⟨c, rfl, hc, rfl⟩
  have la : a.size ≤ maxLen := small_len (by omega)
  have lb : b.size ≤ maxLen := small_len (by omega)
  have lc : c.size ≤ maxLen := small_len (by omega)
  have HC : Hid (meetI b.data.toList a.data.toList = meetI a.data.toList b.data.toList ∧ meetB b a = meetB a b) := ⟨meetI_comm _ _, by unfold meetB; rw [meetV_comm]⟩
  have h3 : (meetI a.data.toList b.data.toList && meetI (meetB a b).data.toList c.data.toList) = (meetI b.data.toList c.data.toList && meetI a.data.toList (meetB b c).data.toList) := by
    rw [meetB_data, meetB_data]; exact three_is _ _ _
  have hv : meetI a.data.toList b.data.toList = true → meetI (meetB a b).data.toList c.data.toList = true → meetB (meetB a b) c = meetB a (meetB b c) := fun h k => by
    rw [meetB_data] at k
    apply bytes_ext; rw [meetB_data, meetB_data, meetB_data, meetB_data]; exact three_val h k
  have HS : Hid (meetI a.data.toList a.data.toList = may a.data.toList ∧ (may a.data.toList = true → meetB a a = a)) := by
    refine ⟨meet_self.1, fun h => ?_⟩
    apply bytes_ext
    rw [meetB_data]
    exact meet_self.2 (by rw [meet_self.1]; exact h)
  have lab := small_len (Nat.le_trans (meetB_le ha hb) (by omega : 100 ≤ 1000))
  have lbc := small_len (Nat.le_trans (meetB_le hb hc) (by omega : 100 ≤ 1000))
  have C1 := fun w => hide (hmeet_any a b w la lb)
  have C2 := fun w => hide (hmeet_any b a w lb la)
  have C3 := fun w => hide (hmeet_any (meetB a b) c w lab lc)
  have C4 := fun w => hide (hmeet_any b c w lb lc)
  have C5 := fun w => hide (hmeet_any a (meetB b c) w la lbc)
  have C6 := fun w => hide (hmeet_any a a w la la)
  have C7 := fun w => hide (hmay_any a w la)
  rw [HC.out.1, HC.out.2] at C2
  rw [HS.out.1] at C6
  have HSV := hide HS.out.2
  clear HC HS
  generalize meetI a.data.toList b.data.toList = i1 at *
  generalize meetI (meetB a b).data.toList c.data.toList = i3 at *
  generalize meetI b.data.toList c.data.toList = i4 at *
  generalize meetI a.data.toList (meetB b c).data.toList = i5 at *
  generalize may a.data.toList = ma at *
  generalize meetB (meetB a b) c = p at *
  generalize meetB a (meetB b c) = r at *
  generalize meetB a b = x at *
  generalize meetB b c = q at *
  generalize meetB a a = s at *
  cases i1 <;> cases i3 <;> cases i4 <;> cases i5 <;> first | (exfalso; simp at h3; done) | skip
  all_goals
    clear h3
    first | (have hpr := hv rfl rfl; subst hpr; clear hv) | clear hv
    cases ma
    all_goals
      first | (have hsa := HSV.out rfl; subst hsa; clear HSV) | clear HSV
      go_wp2_with fail
      refine ((C1 _).out).mono ?_
      rintro e w1 ⟨rfl, hb1⟩
      go_wp2_with fail
      refine ((C2 _).out).mono ?_
      rintro e w2 ⟨rfl, hb2⟩
      go_wp2_with fail
      refine ((C3 _).out).mono ?_
      rintro e w3 ⟨rfl, hb3⟩
      go_wp2_with fail
      refine ((C4 _).out).mono ?_
      rintro e w4 ⟨rfl, hb4⟩
      go_wp2_with fail
      refine ((C5 _).out).mono ?_
      rintro e w5 ⟨rfl, hb5⟩
      go_wp2_with fail
      refine ((C6 _).out).mono ?_
      rintro e w6 ⟨rfl, hb6⟩
      go_wp2_with fail
      refine ((C7 _).out).mono ?_
      rintro e w7 ⟨rfl, hb7⟩
      go_wp2_with fail
      refine (hawake_any _).mono ?_
      rintro e w8 ⟨rfl, hb8⟩
      go_wp2_with fail
      go_ret
      have bb2 := hb1.trans (hb2.mono hb1.size)
      have bb3 := bb2.trans (hb3.mono bb2.size)
      have bb4 := bb3.trans (hb4.mono bb3.size)
      have bb5 := bb4.trans (hb5.mono bb4.size)
      have bb6 := bb5.trans (hb6.mono bb5.size)
      have bb7 := bb6.trans (hb7.mono bb6.size)
      have bb8 := bb7.trans (hb8.mono bb7.size)
      have bb := bb8
      exact ⟨rfl, bb⟩

end Go.Proofs.YtlogclpmdaiflaaDoor
