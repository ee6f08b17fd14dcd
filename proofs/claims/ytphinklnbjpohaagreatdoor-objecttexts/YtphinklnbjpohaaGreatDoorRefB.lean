/-
  Split: it lies in a text of its own, Split.
-/
import Derived.Test.YtphinklnbjpohaaGreatDoorRefA
import Derived.Test.YtphinklnbjpohaaGreatDoorSplit
namespace Go.Proofs.YtphinklnbjpohaaGreatDoor
set_option maxRecDepth 20000

end Go.Proofs.YtphinklnbjpohaaGreatDoor
