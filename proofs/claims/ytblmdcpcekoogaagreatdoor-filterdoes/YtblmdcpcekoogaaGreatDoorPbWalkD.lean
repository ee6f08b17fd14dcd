/-
  Walks: Holds.
-/
import Derived.Test.YtblmdcpcekoogaaGreatDoorPbWalkA
namespace Go.Proofs.YtblmdcpcekoogaaGreatDoor
set_option maxRecDepth 20000
open Go Go.RowKit Go.Shelf

theorem symF (a b : ByteArray) : sameF a b = sameF b a := Pb.sm_comm a b
theorem symE (a b : ByteArray) : sameE a b = sameE b a := decide_eq_decide.2 ⟨Eq.symm, Eq.symm⟩
theorem asks_first (same : ByteArray → ByteArray → Bool) (hs : ∀ a b, same a b = same b a) (l : List PairB) (p : PairB) : Pb.asks same l p = decide (firstP same p.1 l = some p.2) := by
  unfold Pb.asks firstP
  have e : (fun q : PairB => same q.1 p.1) = fun q : PairB => same p.1 q.1 := funext fun q => hs _ _
  rw [e]
  cases l.find? fun q : PairB => same p.1 q.1 with
  | none => simp
  | some q =>
    show decide (q.2 = p.2) = _
    simp
theorem holds_snoc (same : ByteArray → ByteArray → Bool) (ask l : List PairB) (k : Nat) (h : k < ask.length) (hy : Pb.holdsP same (ask.take k) l = true) (ha : Pb.asks same l ask[k] = true) : Pb.holdsP same (ask.take (k + 1)) l = true := by
  rw [List.take_succ_eq_append_getElem h]
  unfold Pb.holdsP at *
  rw [List.all_append, hy]
  simp [ha]
theorem holds_not (same : ByteArray → ByteArray → Bool) (ask l : List PairB) (k : Nat) (h : k < ask.length) (ha : Pb.asks same l ask[k] = false) : Pb.holdsP same ask l = false := by
  unfold Pb.holdsP
  rw [List.all_eq_false]
  exact ⟨ask[k], List.getElem_mem h, by rw [ha]; decide⟩

/-- what Holds answers -/
def holdsQ (fold : Bool) (ask l : List PairB) : Bool := match fold with
  | true => Pb.holdsP sameF ask l
  | false => Pb.holdsP sameE ask l

end Go.Proofs.YtblmdcpcekoogaaGreatDoor
