/-
  The law PairsHolds.
-/
import Derived.Test.YtoaakhfedfameaaPbLawC
import Derived.Test.YtoaakhfedfameaaPbRefB
namespace Go.Proofs.Ytoaakhfedfameaa
open Go Go.RowKit Go.Shelf Go.ChangeShapes Go.WideShapes Go.Deep

set_option maxHeartbeats 1600000 in
theorem holds_law (va vl : Value) (f : Bool) (w : World) (a0 l0 : List PairB) (pa : Prs w va a0) (oka : ∀ p ∈ a0, okP p) (pl : Prs w vl l0) (okl0 : ∀ p ∈ l0, okP p) :
    Calls Try.prog 5 #[va, vl, .bool f] w fun e w' => e = .returned (.bool true) ∧ Below w.heap.size w w' := by
  have CA := fun W (h : Prs W va a0) => hide (bfew_any va a0 W h oka)
  have CL := fun W (h : Prs W vl l0) => hide (bfew_any vl l0 W h okl0)
  have okA := hide (bfew_okP a0)
  have okL := hide (bfew_okP l0)
  have fA : Hid (∀ p ∈ fewB2 a0, okF p) := bfew_ok a0
  have fL : Hid (∀ p ∈ fewB2 l0, okF p) := bfew_ok l0
  generalize fewB2 a0 = a at *
  generalize fewB2 l0 = l at *
  clear oka okl0
  have CH := fun v v' W (h : Prs W v a) (h' : Prs W v' l) => hide (holds_any v v' a l f W h okA.out h' okL.out)
  have RH := fun v v' W (h : Prs W v a) (h' : Prs W v' l) => hide (rholds_any v v' a l f W h fA.out h' fL.out)
  clear okA okL fA fL
  generalize holdsQ f a l = x at *
  go_enter Try.func5, Try.ntmps5
  go_wp2_with fail
  refine (CA w pa).out.mono ?_
  rintro e w1 ⟨v1, rfl, r1, hb1⟩
  go_wp2_with fail
  refine (CL w1 (pl.below hb1)).out.mono ?_
  rintro e w2 ⟨v2, rfl, r2, hb2⟩
  have qa := (Prs.of_row rfl r1).below hb2
  have ql := Prs.of_row rfl r2
  have S := bb2 hb1 hb2
  clear r1 r2 hb1 hb2 CA CL pa pl
  go_wp2_with fail
  refine (CH _ _ _ qa ql).out.mono ?_
  rintro e w3 ⟨rfl, hb3⟩
  go_wp2_with fail
  refine (RH _ _ _ (qa.below hb3) (ql.below hb3)).out.mono ?_
  rintro e w4 ⟨rfl, hb4⟩
  replace S := bb2 (bb2 S hb3) hb4
  have hx : (x == x) = true := by simp
  go_wp2_with fail
  refine (bawake_any _).mono ?_
  rintro e w5 ⟨rfl, hb5⟩
  go_wp2_with fail
  go_ret
  exact ⟨rfl, bb2 S hb5⟩

theorem holds_arg (v0 v1 : Value) (f : Bool) (w : World) (a0 : ArgPrs w v0) (a1 : ArgPrs w v1) :
    Calls Try.prog 5 #[v0, v1, .bool f] w fun e w' => e = .returned (.bool true) ∧ Below w.heap.size w w' := by
  obtain ⟨l, p, ok⟩ := a0
  obtain ⟨l1, p1, ok1⟩ := a1
  exact holds_law v0 v1 f w l l1 p ok p1 ok1

end Go.Proofs.Ytoaakhfedfameaa
