/-
  Walks: the document's Same (of names), All, Drop, Set.
-/
import Derived.Test.YthnodpdiocppgaaGreatDoorJ3
set_option maxRecDepth 20000
namespace Go.Proofs.YthnodpdiocppgaaGreatDoor
open Go Go.RowKit Go.Shelf Go.Deep
def okF (p:aA9):Prop:=p.1.size≤100∧p.2.size≤100
end Go.Proofs.YthnodpdiocppgaaGreatDoor
