/-
  The law HostBest: its walk.
-/
import Derived.Test.YtlogclpmdaiflaaDoorHBestB
import Derived.Test.YtlogclpmdaiflaaDoorArgOpen
namespace Go.Proofs.YtlogclpmdaiflaaDoor
open Go Go.RowKit Go.Shelf

set_option maxHeartbeats 1600000 in
theorem best_law (v : Value) (s : ByteArray) (w : World) (hv : ArgStrs w v) (hs : s.size ≤ maxLen) :
    Calls Tryd.prog 5 #[v, .string s] w fun e w' => e = .returned (.bool true) ∧ Below w.heap.size w w' := by
  go_enter Tryd.func5, Tryd.ntmps5
  go_wp2_with fail
  refine (hfew_any _ _ hv).mono ?_
  rintro e w1 ⟨v', ps, rfl, hS, ha, hl, _, hb1⟩
  go_wp2_with fail
  refine (few_any _ _ hs).mono ?_
  rintro e w1 ⟨h, rfl, hh, rfl⟩
  have lh : h.size ≤ maxLen := small_len (by omega)
  have HS := hide hS
  have HA := hide ha
  clear hS ha
  go_wp2_with fail
  refine (hbest_any v' ps h _ HS.out (by omega) HA.out lh).mono ?_
  rintro e w2 ⟨i, f, rfl, hR, hb2⟩
  have HR := hide hR
  have HS2 := hide (HS.out.below hb2)
  clear hR
  go_wp2_with fail
  refine (rbest_any v' ps h _ HS2.out (by omega) HA.out hh).mono ?_
  rintro e w3 ⟨i', f', rfl, hR', hb3⟩
  obtain ⟨rfl, rfl⟩ := bestR_one (oB_ord ps) HR.out hR'
  clear hR'
  go_wp2_with fail
  refine (hawake_any _).mono ?_
  rintro e w4 ⟨rfl, hb4⟩
  go_wp2_with fail
  go_ret
  have bb2 := hb1.trans (hb2.mono hb1.size)
  have bb3 := bb2.trans (hb3.mono bb2.size)
  have bb4 := bb3.trans (hb4.mono bb3.size)
  have bb := bb4
  exact ⟨rfl, bb⟩

end Go.Proofs.YtlogclpmdaiflaaDoor
