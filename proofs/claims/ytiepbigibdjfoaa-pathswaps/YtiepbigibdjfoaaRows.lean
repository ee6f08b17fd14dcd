/-
  No cell of these rows narrows 'for every input' (looked for: loops, veiled, ifaces, maps, wideKeys, modest, calm, conditions, laid).
  DERIVED. THE GIVEN ROWS OF THIS SEAT. 7 by the template 'for every input the law returns true; each argument reads behind the call as it read before'; 0 by the template 'total and deterministic' (their statements: YtiepbigibdjfoaaTotals.lean).
  GIVEN WITH THE SEED: the statements are not yours to turn. If you find one false, say at which input.
  Laid BY PROGRAM, IN A SANDBOX (cutbox-rows.mjs): the forced cells as the released guide's own fill.sh prints them over the translation dd8a0c848270ace3… (all of the seat's roots in one cut). By AI agents, Wed Nov 11 2026. No macro, syntax, notation, axiom, sorry.
-/
import Derived.Test.YtiepbigibdjfoaaChecked
import GoSem.Claim
import GoSem.ClaimJoined
import GoSem.ClaimMapViews
import Derived.JoinedTies
import Derived.KernelRfl
namespace Go.Proofs.Ytiepbigibdjfoaa
/- THE CELL 'sum', in the pinned program and in every row, IS THE sha256 OF THE DUMP (.gsa) THAT YtiepbigibdjfoaaProg.lean LOADS. Nothing in Lean hashes anything: it is a label: what it is worth is what the hold of that sum in a sandbox is worth. -/
noncomputable def Try.pinned : Pinned := { name := "ytiepbigibdjfoaa", sum := "dd8a0c848270ace3fad1b0430860c4f3bfdebeb5c76e0c52353990ae1947b0d1", checked := Try.checked }
namespace Rows
def none {H : Type} : Left H := { results := [], args := [] }

/-- 'tolllaw03.PathHolds': WHATEVER THE INPUT: true; the input reads as it did. -/
def pathHoldsSpec : ChangeSpec := { name := "pathHolds", fn := fun _ => fun
  | [d1, d2] => { results := [.lit (.bool true)], args := [d1, d2] }
  | _ => none }
def pathHoldsRow : OpenClaim := { program := "ytiepbigibdjfoaa", sum := "dd8a0c848270ace3fad1b0430860c4f3bfdebeb5c76e0c52353990ae1947b0d1", func := "toll/tolllaw03.PathHolds", spec := "pathHolds", apart := false }
def PathHoldsSaid : Prop := pathHoldsRow.holds Try.pinned (OpenSpec.ofChange pathHoldsSpec)

/-- ITS FALSE NEIGHBOUR: 'it returns false'. Refute it at one input. -/
def pathHoldsWrong : ChangeSpec := { name := "pathHolds", fn := fun _ => fun
  | [d1, d2] => { results := [.lit (.bool false)], args := [d1, d2] }
  | _ => none }
def PathHoldsWrongFalsely : Prop := pathHoldsRow.holds Try.pinned (OpenSpec.ofChange pathHoldsWrong)

/-- 'tolllaw03.PathSwaps': WHATEVER THE INPUT: true; the input reads as it did. -/
def pathSwapsSpec : ChangeSpec := { name := "pathSwaps", fn := fun _ => fun
  | [d] => { results := [.lit (.bool true)], args := [d] }
  | _ => none }
def pathSwapsRow : OpenClaim := { program := "ytiepbigibdjfoaa", sum := "dd8a0c848270ace3fad1b0430860c4f3bfdebeb5c76e0c52353990ae1947b0d1", func := "toll/tolllaw03.PathSwaps", spec := "pathSwaps", inPlace := ["internal/bytealg.abigen_runtime_cmpstring"], apart := false }
def PathSwapsSaid : Prop := pathSwapsRow.holds Try.pinned (OpenSpec.ofChange pathSwapsSpec)

/-- ITS FALSE NEIGHBOUR: 'it returns false'. Refute it at one input. -/
def pathSwapsWrong : ChangeSpec := { name := "pathSwaps", fn := fun _ => fun
  | [d] => { results := [.lit (.bool false)], args := [d] }
  | _ => none }
def PathSwapsWrongFalsely : Prop := pathSwapsRow.holds Try.pinned (OpenSpec.ofChange pathSwapsWrong)

/-- 'tolllaw03.PathOrders': WHATEVER THE INPUT: true; the input reads as it did. -/
def pathOrdersSpec : ChangeSpec := { name := "pathOrders", fn := fun _ => fun
  | [d1, d2, d3] => { results := [.lit (.bool true)], args := [d1, d2, d3] }
  | _ => none }
def pathOrdersRow : OpenClaim := { program := "ytiepbigibdjfoaa", sum := "dd8a0c848270ace3fad1b0430860c4f3bfdebeb5c76e0c52353990ae1947b0d1", func := "toll/tolllaw03.PathOrders", spec := "pathOrders", inPlace := ["internal/bytealg.abigen_runtime_cmpstring"], apart := false }
def PathOrdersSaid : Prop := pathOrdersRow.holds Try.pinned (OpenSpec.ofChange pathOrdersSpec)

/-- ITS FALSE NEIGHBOUR: 'it returns false'. Refute it at one input. -/
def pathOrdersWrong : ChangeSpec := { name := "pathOrders", fn := fun _ => fun
  | [d1, d2, d3] => { results := [.lit (.bool false)], args := [d1, d2, d3] }
  | _ => none }
def PathOrdersWrongFalsely : Prop := pathOrdersRow.holds Try.pinned (OpenSpec.ofChange pathOrdersWrong)

/-- 'tolllaw03.PathBelow': WHATEVER THE INPUT: true; the input reads as it did. -/
def pathBelowSpec : ChangeSpec := { name := "pathBelow", fn := fun _ => fun
  | [d] => { results := [.lit (.bool true)], args := [d] }
  | _ => none }
def pathBelowRow : OpenClaim := { program := "ytiepbigibdjfoaa", sum := "dd8a0c848270ace3fad1b0430860c4f3bfdebeb5c76e0c52353990ae1947b0d1", func := "toll/tolllaw03.PathBelow", spec := "pathBelow", inPlace := ["internal/bytealg.abigen_runtime_cmpstring"], apart := false }
def PathBelowSaid : Prop := pathBelowRow.holds Try.pinned (OpenSpec.ofChange pathBelowSpec)

/-- ITS FALSE NEIGHBOUR: 'it returns false'. Refute it at one input. -/
def pathBelowWrong : ChangeSpec := { name := "pathBelow", fn := fun _ => fun
  | [d] => { results := [.lit (.bool false)], args := [d] }
  | _ => none }
def PathBelowWrongFalsely : Prop := pathBelowRow.holds Try.pinned (OpenSpec.ofChange pathBelowWrong)

/-- 'tolllaw03.PathBacks': WHATEVER THE INPUT: true; the input reads as it did. -/
def pathBacksSpec : ChangeSpec := { name := "pathBacks", fn := fun _ => fun
  | [d1, d2, d3] => { results := [.lit (.bool true)], args := [d1, d2, d3] }
  | _ => none }
def pathBacksRow : OpenClaim := { program := "ytiepbigibdjfoaa", sum := "dd8a0c848270ace3fad1b0430860c4f3bfdebeb5c76e0c52353990ae1947b0d1", func := "toll/tolllaw03.PathBacks", spec := "pathBacks", apart := false }
def PathBacksSaid : Prop := pathBacksRow.holds Try.pinned (OpenSpec.ofChange pathBacksSpec)

/-- ITS FALSE NEIGHBOUR: 'it returns false'. Refute it at one input. -/
def pathBacksWrong : ChangeSpec := { name := "pathBacks", fn := fun _ => fun
  | [d1, d2, d3] => { results := [.lit (.bool false)], args := [d1, d2, d3] }
  | _ => none }
def PathBacksWrongFalsely : Prop := pathBacksRow.holds Try.pinned (OpenSpec.ofChange pathBacksWrong)

/-- 'tolllaw03.PathExact': WHATEVER THE INPUT: true; the input reads as it did. -/
def pathExactSpec : ChangeSpec := { name := "pathExact", fn := fun _ => fun
  | [d1, d2] => { results := [.lit (.bool true)], args := [d1, d2] }
  | _ => none }
def pathExactRow : OpenClaim := { program := "ytiepbigibdjfoaa", sum := "dd8a0c848270ace3fad1b0430860c4f3bfdebeb5c76e0c52353990ae1947b0d1", func := "toll/tolllaw03.PathExact", spec := "pathExact", apart := false }
def PathExactSaid : Prop := pathExactRow.holds Try.pinned (OpenSpec.ofChange pathExactSpec)

/-- ITS FALSE NEIGHBOUR: 'it returns false'. Refute it at one input. -/
def pathExactWrong : ChangeSpec := { name := "pathExact", fn := fun _ => fun
  | [d1, d2] => { results := [.lit (.bool false)], args := [d1, d2] }
  | _ => none }
def PathExactWrongFalsely : Prop := pathExactRow.holds Try.pinned (OpenSpec.ofChange pathExactWrong)

/-- 'tolllaw03.PathChain': WHATEVER THE INPUT: true; the input reads as it did. -/
def pathChainSpec : ChangeSpec := { name := "pathChain", fn := fun _ => fun
  | [d] => { results := [.lit (.bool true)], args := [d] }
  | _ => none }
def pathChainRow : OpenClaim := { program := "ytiepbigibdjfoaa", sum := "dd8a0c848270ace3fad1b0430860c4f3bfdebeb5c76e0c52353990ae1947b0d1", func := "toll/tolllaw03.PathChain", spec := "pathChain", apart := false }
def PathChainSaid : Prop := pathChainRow.holds Try.pinned (OpenSpec.ofChange pathChainSpec)

/-- ITS FALSE NEIGHBOUR: 'it returns false'. Refute it at one input. -/
def pathChainWrong : ChangeSpec := { name := "pathChain", fn := fun _ => fun
  | [d] => { results := [.lit (.bool false)], args := [d] }
  | _ => none }
def PathChainWrongFalsely : Prop := pathChainRow.holds Try.pinned (OpenSpec.ofChange pathChainWrong)

/- THE SECOND FORM. 'bulk': how many values and letters a reading holds, each counted each time it is reached (what is shared counts as often as it is met; a slice's spare places count too). A statement '..UptoSaid' is the law's where the arguments, and the package variables that the reading takes, are together of bulk at most 1048576: NARROWER than '..Said'. Prove '..Said' where nothing that the law and all that it calls make is longer than what came in: it says more and counts as full. Else prove '..UptoSaid'. A law counts once. -/
mutual
def uptoBulk {H : Type} : DataW H → Nat
  | .lit (.string bytes) => bytes.length + 1
  | .lit _ => 1
  | .nil => 1
  | .ptr d => uptoBulk d + 1
  | .slice elems spare => uptoBulkAll elems + uptoBulkAll spare + 1
  | .agg parts => uptoBulkAll parts + 1
  | .iface _ d => uptoBulk d + 1
  | .map entries => uptoBulkEntries entries + 1
  | .held _ => 1
def uptoBulkAll {H : Type} : List (DataW H) → Nat
  | [] => 0
  | d :: r => uptoBulk d + uptoBulkAll r
def uptoBulkEntries {H : Type} : List (Lit × DataW H) → Nat
  | [] => 0
  | x :: r => uptoBulkEntry x + uptoBulkEntries r
def uptoBulkEntry {H : Type} : Lit × DataW H → Nat
  | (.string bytes, d) => bytes.length + uptoBulk d + 1
  | (_, d) => uptoBulk d + 1
 end
def uptoSmall : (H : Type) → List (DataW H) → Bool := fun _ ds => decide (uptoBulkAll ds ≤ 1048576)
def OpenSpec.upto (s : _root_.Go.ChangeSpec) : _root_.Go.OpenSpec := { _root_.Go.OpenSpec.ofChange s with cond := some uptoSmall }

/-- 'tolllaw03.PathHolds', WHERE WHAT IT READS IS OF BULK AT MOST 1048576: true; the input reads as it did. -/
def pathHoldsUptoRow : OpenClaim := { program := "ytiepbigibdjfoaa", sum := "dd8a0c848270ace3fad1b0430860c4f3bfdebeb5c76e0c52353990ae1947b0d1", func := "toll/tolllaw03.PathHolds", spec := "pathHolds", apart := false, narrowed := true }
def PathHoldsUptoSaid : Prop := pathHoldsUptoRow.holds Try.pinned (OpenSpec.upto pathHoldsSpec)

/-- 'tolllaw03.PathSwaps', WHERE WHAT IT READS IS OF BULK AT MOST 1048576: true; the input reads as it did. -/
def pathSwapsUptoRow : OpenClaim := { program := "ytiepbigibdjfoaa", sum := "dd8a0c848270ace3fad1b0430860c4f3bfdebeb5c76e0c52353990ae1947b0d1", func := "toll/tolllaw03.PathSwaps", spec := "pathSwaps", inPlace := ["internal/bytealg.abigen_runtime_cmpstring"], apart := false, narrowed := true }
def PathSwapsUptoSaid : Prop := pathSwapsUptoRow.holds Try.pinned (OpenSpec.upto pathSwapsSpec)

/-- 'tolllaw03.PathOrders', WHERE WHAT IT READS IS OF BULK AT MOST 1048576: true; the input reads as it did. -/
def pathOrdersUptoRow : OpenClaim := { program := "ytiepbigibdjfoaa", sum := "dd8a0c848270ace3fad1b0430860c4f3bfdebeb5c76e0c52353990ae1947b0d1", func := "toll/tolllaw03.PathOrders", spec := "pathOrders", inPlace := ["internal/bytealg.abigen_runtime_cmpstring"], apart := false, narrowed := true }
def PathOrdersUptoSaid : Prop := pathOrdersUptoRow.holds Try.pinned (OpenSpec.upto pathOrdersSpec)

/-- 'tolllaw03.PathBelow', WHERE WHAT IT READS IS OF BULK AT MOST 1048576: true; the input reads as it did. -/
def pathBelowUptoRow : OpenClaim := { program := "ytiepbigibdjfoaa", sum := "dd8a0c848270ace3fad1b0430860c4f3bfdebeb5c76e0c52353990ae1947b0d1", func := "toll/tolllaw03.PathBelow", spec := "pathBelow", inPlace := ["internal/bytealg.abigen_runtime_cmpstring"], apart := false, narrowed := true }
def PathBelowUptoSaid : Prop := pathBelowUptoRow.holds Try.pinned (OpenSpec.upto pathBelowSpec)

/-- 'tolllaw03.PathBacks', WHERE WHAT IT READS IS OF BULK AT MOST 1048576: true; the input reads as it did. -/
def pathBacksUptoRow : OpenClaim := { program := "ytiepbigibdjfoaa", sum := "dd8a0c848270ace3fad1b0430860c4f3bfdebeb5c76e0c52353990ae1947b0d1", func := "toll/tolllaw03.PathBacks", spec := "pathBacks", apart := false, narrowed := true }
def PathBacksUptoSaid : Prop := pathBacksUptoRow.holds Try.pinned (OpenSpec.upto pathBacksSpec)

/-- 'tolllaw03.PathExact', WHERE WHAT IT READS IS OF BULK AT MOST 1048576: true; the input reads as it did. -/
def pathExactUptoRow : OpenClaim := { program := "ytiepbigibdjfoaa", sum := "dd8a0c848270ace3fad1b0430860c4f3bfdebeb5c76e0c52353990ae1947b0d1", func := "toll/tolllaw03.PathExact", spec := "pathExact", apart := false, narrowed := true }
def PathExactUptoSaid : Prop := pathExactUptoRow.holds Try.pinned (OpenSpec.upto pathExactSpec)

/-- 'tolllaw03.PathChain', WHERE WHAT IT READS IS OF BULK AT MOST 1048576: true; the input reads as it did. -/
def pathChainUptoRow : OpenClaim := { program := "ytiepbigibdjfoaa", sum := "dd8a0c848270ace3fad1b0430860c4f3bfdebeb5c76e0c52353990ae1947b0d1", func := "toll/tolllaw03.PathChain", spec := "pathChain", apart := false, narrowed := true }
def PathChainUptoSaid : Prop := pathChainUptoRow.holds Try.pinned (OpenSpec.upto pathChainSpec)

end Rows
end Go.Proofs.Ytiepbigibdjfoaa
