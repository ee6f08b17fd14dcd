/-
  The law HostMeets: its walk.
-/
import Derived.Test.YtlogclpmdaiflaaDoorHRefC
namespace Go.Proofs.YtlogclpmdaiflaaDoor
open Go Go.RowKit Go.Shelf

set_option maxHeartbeats 1600000 in
theorem meets_law (s1 s2 s3 : ByteArray) (w : World) (hs1 : s1.size ≤ maxLen) (hs2 : s2.size ≤ maxLen) (hs3 : s3.size ≤ maxLen) :
    Calls Tryd.prog 4 #[.string s1, .string s2, .string s3] w fun e w' => e = .returned (.bool true) ∧ Below w.heap.size w w' := by
  go_enter Tryd.func4, Tryd.ntmps4
  go_wp2_with fail
  refine (few_any _ _ hs1).mono ?_
  rintro e w0 ⟨a, rfl, ha, rfl⟩
  go_wp2_with fail
  refine (few_any _ _ hs2).mono ?_
  rintro e w0' ⟨b, rfl, hb, rfl⟩
  go_wp2_with fail
  refine (few_any _ _ hs3).mono ?_
  rintro e w ⟨s, rfl, hs, rfl⟩
  have la : a.size ≤ maxLen := small_len (by omega)
  have lb : b.size ≤ maxLen := small_len (by omega)
  have ls : s.size ≤ maxLen := small_len (by omega)
  have C1 := fun w => hide (hmeet_any a b w la lb)
  have C2 := fun w => hide (rmeet_any a b w ha hb)
  have C3 := fun w => hide (horder_any a b w la lb)
  have C4 := fun w => hide (rorder_any a b w la lb)
  generalize meetI a.data.toList b.data.toList = i at *
  generalize meetB a b = x at *
  generalize ord a.data.toList b.data.toList = o at *
  obtain ⟨h, hh⟩ := asked_ex s
  have C5 := fun w => hide (rof_any s h w hs hh)
  cases hn : D.isName h.data.toList
  · have C6 := fun w => hide (hof_no s h w ls hh hn)
    rw [hn, show ofV h = ⟨#[]⟩ by unfold ofV; rw [hn]; rfl] at C5
    clear hn hh
    go_wp2_with fail
    refine ((C1 _).out).mono ?_
    rintro e w1 ⟨rfl, hb1⟩
    go_wp2_with fail
    refine ((C2 _).out).mono ?_
    rintro e w2 ⟨rfl, hb2⟩
    go_wp2_with fail
    refine ((C6 _).out).mono ?_
    rintro e w3 ⟨rfl, hb3⟩
    go_wp2_with fail
    refine ((C5 _).out).mono ?_
    rintro e w4 ⟨rfl, hb4⟩
    go_wp2_with fail
    refine ((C3 _).out).mono ?_
    rintro e w5 ⟨rfl, hb5⟩
    go_wp2_with fail
    refine ((C4 _).out).mono ?_
    rintro e x ⟨rfl, rfl⟩
    go_wp2_with fail
    refine (hawake_any _).mono ?_
    rintro e w6 ⟨rfl, hb6⟩
    go_wp2_with fail
    go_ret
    have bb2 := hb1.trans (hb2.mono hb1.size)
    have bb3 := bb2.trans (hb3.mono bb2.size)
    have bb4 := bb3.trans (hb4.mono bb3.size)
    have bb5 := bb4.trans (hb5.mono bb4.size)
    have bb6 := bb5.trans (hb6.mono bb5.size)
    have bb := bb6
    exact ⟨rfl, bb⟩
  · have C6 := fun w => hide (hof_yes s h w ls hh hn)
    rw [hn, show ofV h = h by unfold ofV; rw [hn]; rfl] at C5
    clear hn hh
    go_wp2_with fail
    refine ((C1 _).out).mono ?_
    rintro e w1 ⟨rfl, hb1⟩
    go_wp2_with fail
    refine ((C2 _).out).mono ?_
    rintro e w2 ⟨rfl, hb2⟩
    go_wp2_with fail
    refine ((C6 _).out).mono ?_
    rintro e w3 ⟨rfl, hb3⟩
    go_wp2_with fail
    refine ((C5 _).out).mono ?_
    rintro e w4 ⟨rfl, hb4⟩
    go_wp2_with fail
    refine ((C3 _).out).mono ?_
    rintro e w5 ⟨rfl, hb5⟩
    go_wp2_with fail
    refine ((C4 _).out).mono ?_
    rintro e x ⟨rfl, rfl⟩
    go_wp2_with fail
    refine (hawake_any _).mono ?_
    rintro e w6 ⟨rfl, hb6⟩
    go_wp2_with fail
    go_ret
    have bb2 := hb1.trans (hb2.mono hb1.size)
    have bb3 := bb2.trans (hb3.mono bb2.size)
    have bb4 := bb3.trans (hb4.mono bb3.size)
    have bb5 := bb4.trans (hb5.mono bb4.size)
    have bb6 := bb5.trans (hb6.mono bb5.size)
    have bb := bb6
    exact ⟨rfl, bb⟩

end Go.Proofs.YtlogclpmdaiflaaDoor
