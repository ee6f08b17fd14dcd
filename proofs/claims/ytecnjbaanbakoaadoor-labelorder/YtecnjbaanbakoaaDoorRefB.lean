/-
  Split: it lies in a text of its own, Split.
-/
import Derived.Test.YtecnjbaanbakoaaDoorRefA
import Derived.Test.YtecnjbaanbakoaaDoorSplit
namespace Go.Proofs.YtecnjbaanbakoaaDoor

end Go.Proofs.YtecnjbaanbakoaaDoor
