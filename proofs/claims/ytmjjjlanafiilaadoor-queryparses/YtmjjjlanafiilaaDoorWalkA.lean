/-
  Walks of the leaves: inLabel, Label.
-/
import Derived.Test.YtmjjjlanafiilaaDoorCore
import Derived.Test.YtmjjjlanafiilaaDoorPlain
namespace Go.Proofs.YtmjjjlanafiilaaDoor
open Go Go.RowKit

theorem at_eq (s : ByteArray) (k : Nat) (h : k < s.size) : D.at' s.data.toList k = (s[k].toNat : Int) := by
  unfold D.at'
  rw [List.getElem?_eq_getElem (by simpa using h)]
  rfl

end Go.Proofs.YtmjjjlanafiilaaDoor
