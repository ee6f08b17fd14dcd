/-
  Walks of the document's own answers: Label.
-/
import Derived.Test.YtblmdcpcekoogaaGreatDoorJ4
import Derived.BigRegion
import Derived.Test.YtblmdcpcekoogaaGreatDoorJ2
namespace Go.Proofs.YtblmdcpcekoogaaGreatDoor
set_option maxRecDepth 20000
open Go Go.RowKit Go.Shelf

end Go.Proofs.YtblmdcpcekoogaaGreatDoor
namespace Go.Proofs.YtblmdcpcekoogaaGreatDoor
set_option maxRecDepth 20000
open Go Go.RowKit Go.Shelf

end Go.Proofs.YtblmdcpcekoogaaGreatDoor
namespace Go.Proofs.YtblmdcpcekoogaaGreatDoor
set_option maxRecDepth 20000

end Go.Proofs.YtblmdcpcekoogaaGreatDoor
namespace Go.Proofs.YtblmdcpcekoogaaGreatDoor
set_option maxRecDepth 20000
open Go Go.RowKit Go.Shelf

end Go.Proofs.YtblmdcpcekoogaaGreatDoor
