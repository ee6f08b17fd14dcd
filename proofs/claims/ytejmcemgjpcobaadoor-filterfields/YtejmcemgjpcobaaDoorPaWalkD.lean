/-
  Walks: cmp.Or of three, Order (of package path); the laws' Few.
-/
import Derived.Test.YtejmcemgjpcobaaDoorPaWalkB
import Derived.Deep.RegionHeld3
namespace Go.Proofs.YtejmcemgjpcobaaDoor
set_option maxRecDepth 20000
open Go Go.RowKit Go.Shelf

/-- the first of three that is not 0 -/
def or3 (x y z : Int) : Int := orI x (orI y z)

set_option maxHeartbeats 800000 in
theorem pfew_any (k : Int) (s : ByteArray) (w : World) (hs : s.size ≤ maxLen) :
    Calls Tryd.prog 11 #[.agg #[.int .i64 k, .string s]] w fun e w' => e = .returned (.agg #[.int .i64 k, .string (fewB s)]) ∧ Below w.heap.size w w' := by
  go_enter Tryd.func11, Tryd.ntmps11
  go_wp2_with fail
  refine (fewB_any _ _ hs).mono ?_
  rintro e x ⟨rfl, hx⟩
  subst x
  go_wp2_with fail
  exact bodyPost_ret (v := .agg #[.int .i64 k, .string (fewB s)]) (by simp [results, Tryd.results11, go_sem]) rfl ⟨rfl, ((Below.refl _ _).alloc (Nat.le_refl _) _).alloc (by simp) _⟩

end Go.Proofs.YtejmcemgjpcobaaDoor
