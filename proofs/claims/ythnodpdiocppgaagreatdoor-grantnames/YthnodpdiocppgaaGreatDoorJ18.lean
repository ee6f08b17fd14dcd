/-
  Walks: the document's Same (of names), All, Drop, Set.
-/
import Derived.Test.YthnodpdiocppgaaGreatDoorJ3
namespace Go.Proofs.YthnodpdiocppgaaGreatDoor
set_option maxRecDepth 20000
open Go Go.RowKit Go.Shelf Go.Deep

/-- texts that are not too long to be looked at -/
def okF (p : PairB) : Prop := p.1.size ≤ 100 ∧ p.2.size ≤ 100

end Go.Proofs.YthnodpdiocppgaaGreatDoor
