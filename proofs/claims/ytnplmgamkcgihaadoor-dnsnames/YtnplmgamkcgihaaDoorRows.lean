/-
  NARROWER THAN 'FOR EVERY INPUT', by the rows' own cells (each row's printed sentence says how): DnsNames: laid · DnsKeys: laid · DnsBacks: laid · DnsUnders: laid · DnsGoes: laid · DnsFolds: laid · DnsLabels: laid.
  DERIVED. THE GIVEN ROWS OF THIS SEAT. 7 by the template 'for every input the law returns true; each argument reads behind the call as it read before'; 0 by the template 'total and deterministic' (their statements: YtnplmgamkcgihaaDoorTotals.lean).
  GIVEN WITH THE SEED: the statements are not yours to turn. If you find one false, say at which input.
  Laid BY PROGRAM, IN A SANDBOX (cutbox-rows.mjs): the forced cells as the released guide's own fill.sh prints them over the translation 990a7672eb661273… (all of the seat's roots in one cut). By AI agents, Wed Nov 11 2026. No macro, syntax, notation, axiom, sorry.
-/
import Derived.Test.YtnplmgamkcgihaaDoorChecked
import GoSem.PinnedTables
import GoSem.Claim
import GoSem.ClaimJoined
import GoSem.ClaimMapViews
import Derived.JoinedTies
import Derived.KernelRfl
namespace Go.Proofs.YtnplmgamkcgihaaDoor
/- THE CELL 'sum', in the pinned program and in every row, IS THE sha256 OF THE DUMP (.gsa) THAT YtnplmgamkcgihaaDoorProg.lean LOADS. Nothing in Lean hashes anything: it is a label: what it is worth is what the hold of that sum in a sandbox is worth. -/
noncomputable def Tryd.pinned : Pinned := { name := "ytnplmgamkcgihaadoor", sum := "990a7672eb661273c1434222d1b3f5ad657a6b73a528cef0a5d587ef70747b2d", checked := Tryd.checked }
namespace Rows
def none {H : Type} : Left H := { results := [], args := [] }

/- WHAT THE LISTED PACKAGE-LEVEL VARIABLES READ AS WHEN THE CALL BEGINS. Each datum BY PROGRAM (the guide's laid-datum.mjs) off the statement by which the dump's own 'gosem.cut.vars' lays the variable. In a bare row this is a premise. The card (YtnplmgamkcgihaaDoorCards.lean) ties it to the program's text. -/
def laid_unicode_utf8_acceptRanges {H : Type} : DataW H := .agg [.agg [.lit (.int .u8 128), .lit (.int .u8 191)], .agg [.lit (.int .u8 160), .lit (.int .u8 191)], .agg [.lit (.int .u8 128), .lit (.int .u8 159)], .agg [.lit (.int .u8 144), .lit (.int .u8 191)], .agg [.lit (.int .u8 128), .lit (.int .u8 143)], .agg [.lit (.int .u8 0), .lit (.int .u8 0)], .agg [.lit (.int .u8 0), .lit (.int .u8 0)], .agg [.lit (.int .u8 0), .lit (.int .u8 0)], .agg [.lit (.int .u8 0), .lit (.int .u8 0)], .agg [.lit (.int .u8 0), .lit (.int .u8 0)], .agg [.lit (.int .u8 0), .lit (.int .u8 0)], .agg [.lit (.int .u8 0), .lit (.int .u8 0)], .agg [.lit (.int .u8 0), .lit (.int .u8 0)], .agg [.lit (.int .u8 0), .lit (.int .u8 0)], .agg [.lit (.int .u8 0), .lit (.int .u8 0)], .agg [.lit (.int .u8 0), .lit (.int .u8 0)]]
/-- One of Go's own tables, pinned by name: the form's constant. -/
def laid_unicode_utf8_first : DataW Unit := Go.Pinned.utf8First

/-- 'tolllaw01.DnsNames': WHATEVER THE INPUT: true; the input reads as it did. -/
def dnsNamesSpec : ChangeSpec := { name := "dnsNames", fn := fun _ => fun
  | [d] => { results := [.lit (.bool true)], args := [d] }
  | _ => none }
def dnsNamesRow : OpenClaim := { program := "ytnplmgamkcgihaadoor", sum := "990a7672eb661273c1434222d1b3f5ad657a6b73a528cef0a5d587ef70747b2d", func := "toll/tolllaw01.DnsNames", spec := "dnsNames", inPlace := ["internal/bytealg.IndexByteString", "internal/bytealg.IndexString"], unfollowed := true, recurses := true, named := ["unicode/utf8.first", "unicode/utf8.acceptRanges", "internal/bytealg.MaxLen"], apart := false, laid := [("unicode/utf8.acceptRanges", laid_unicode_utf8_acceptRanges), ("unicode/utf8.first", laid_unicode_utf8_first)] }
def DnsNamesSaid : Prop := dnsNamesRow.holds Tryd.pinned (OpenSpec.ofChange dnsNamesSpec)

/-- ITS FALSE NEIGHBOUR: 'it returns false'. Refute it at one input. -/
def dnsNamesWrong : ChangeSpec := { name := "dnsNames", fn := fun _ => fun
  | [d] => { results := [.lit (.bool false)], args := [d] }
  | _ => none }
def DnsNamesWrongFalsely : Prop := dnsNamesRow.holds Tryd.pinned (OpenSpec.ofChange dnsNamesWrong)

/-- 'tolllaw01.DnsKeys': WHATEVER THE INPUT: true; the input reads as it did. -/
def dnsKeysSpec : ChangeSpec := { name := "dnsKeys", fn := fun _ => fun
  | [d1, d2, d3] => { results := [.lit (.bool true)], args := [d1, d2, d3] }
  | _ => none }
def dnsKeysRow : OpenClaim := { program := "ytnplmgamkcgihaadoor", sum := "990a7672eb661273c1434222d1b3f5ad657a6b73a528cef0a5d587ef70747b2d", func := "toll/tolllaw01.DnsKeys", spec := "dnsKeys", inPlace := ["internal/bytealg.IndexByteString", "internal/bytealg.IndexString"], unfollowed := true, recurses := true, named := ["unicode/utf8.first", "unicode/utf8.acceptRanges", "internal/bytealg.MaxLen"], apart := false, laid := [("unicode/utf8.acceptRanges", laid_unicode_utf8_acceptRanges), ("unicode/utf8.first", laid_unicode_utf8_first)] }
def DnsKeysSaid : Prop := dnsKeysRow.holds Tryd.pinned (OpenSpec.ofChange dnsKeysSpec)

/-- ITS FALSE NEIGHBOUR: 'it returns false'. Refute it at one input. -/
def dnsKeysWrong : ChangeSpec := { name := "dnsKeys", fn := fun _ => fun
  | [d1, d2, d3] => { results := [.lit (.bool false)], args := [d1, d2, d3] }
  | _ => none }
def DnsKeysWrongFalsely : Prop := dnsKeysRow.holds Tryd.pinned (OpenSpec.ofChange dnsKeysWrong)

/-- 'tolllaw01.DnsBacks': WHATEVER THE INPUT: true; the input reads as it did. -/
def dnsBacksSpec : ChangeSpec := { name := "dnsBacks", fn := fun _ => fun
  | [d1, d2] => { results := [.lit (.bool true)], args := [d1, d2] }
  | _ => none }
def dnsBacksRow : OpenClaim := { program := "ytnplmgamkcgihaadoor", sum := "990a7672eb661273c1434222d1b3f5ad657a6b73a528cef0a5d587ef70747b2d", func := "toll/tolllaw01.DnsBacks", spec := "dnsBacks", inPlace := ["internal/bytealg.IndexByteString", "internal/bytealg.IndexString"], unfollowed := true, recurses := true, named := ["unicode/utf8.first", "unicode/utf8.acceptRanges", "internal/bytealg.MaxLen"], apart := false, laid := [("unicode/utf8.acceptRanges", laid_unicode_utf8_acceptRanges), ("unicode/utf8.first", laid_unicode_utf8_first)] }
def DnsBacksSaid : Prop := dnsBacksRow.holds Tryd.pinned (OpenSpec.ofChange dnsBacksSpec)

/-- ITS FALSE NEIGHBOUR: 'it returns false'. Refute it at one input. -/
def dnsBacksWrong : ChangeSpec := { name := "dnsBacks", fn := fun _ => fun
  | [d1, d2] => { results := [.lit (.bool false)], args := [d1, d2] }
  | _ => none }
def DnsBacksWrongFalsely : Prop := dnsBacksRow.holds Tryd.pinned (OpenSpec.ofChange dnsBacksWrong)

/-- 'tolllaw01.DnsUnders': WHATEVER THE INPUT: true; the input reads as it did. -/
def dnsUndersSpec : ChangeSpec := { name := "dnsUnders", fn := fun _ => fun
  | [d1, d2] => { results := [.lit (.bool true)], args := [d1, d2] }
  | _ => none }
def dnsUndersRow : OpenClaim := { program := "ytnplmgamkcgihaadoor", sum := "990a7672eb661273c1434222d1b3f5ad657a6b73a528cef0a5d587ef70747b2d", func := "toll/tolllaw01.DnsUnders", spec := "dnsUnders", inPlace := ["internal/bytealg.IndexByteString", "internal/bytealg.IndexString"], unfollowed := true, recurses := true, named := ["unicode/utf8.first", "unicode/utf8.acceptRanges", "internal/bytealg.MaxLen"], apart := false, laid := [("unicode/utf8.acceptRanges", laid_unicode_utf8_acceptRanges), ("unicode/utf8.first", laid_unicode_utf8_first)] }
def DnsUndersSaid : Prop := dnsUndersRow.holds Tryd.pinned (OpenSpec.ofChange dnsUndersSpec)

/-- ITS FALSE NEIGHBOUR: 'it returns false'. Refute it at one input. -/
def dnsUndersWrong : ChangeSpec := { name := "dnsUnders", fn := fun _ => fun
  | [d1, d2] => { results := [.lit (.bool false)], args := [d1, d2] }
  | _ => none }
def DnsUndersWrongFalsely : Prop := dnsUndersRow.holds Tryd.pinned (OpenSpec.ofChange dnsUndersWrong)

/-- 'tolllaw01.DnsGoes': WHATEVER THE INPUT: true; the input reads as it did. -/
def dnsGoesSpec : ChangeSpec := { name := "dnsGoes", fn := fun _ => fun
  | [d1, d2, d3] => { results := [.lit (.bool true)], args := [d1, d2, d3] }
  | _ => none }
def dnsGoesRow : OpenClaim := { program := "ytnplmgamkcgihaadoor", sum := "990a7672eb661273c1434222d1b3f5ad657a6b73a528cef0a5d587ef70747b2d", func := "toll/tolllaw01.DnsGoes", spec := "dnsGoes", inPlace := ["internal/bytealg.IndexByteString", "internal/bytealg.IndexString"], unfollowed := true, recurses := true, named := ["unicode/utf8.first", "unicode/utf8.acceptRanges", "internal/bytealg.MaxLen"], apart := false, laid := [("unicode/utf8.acceptRanges", laid_unicode_utf8_acceptRanges), ("unicode/utf8.first", laid_unicode_utf8_first)] }
def DnsGoesSaid : Prop := dnsGoesRow.holds Tryd.pinned (OpenSpec.ofChange dnsGoesSpec)

/-- ITS FALSE NEIGHBOUR: 'it returns false'. Refute it at one input. -/
def dnsGoesWrong : ChangeSpec := { name := "dnsGoes", fn := fun _ => fun
  | [d1, d2, d3] => { results := [.lit (.bool false)], args := [d1, d2, d3] }
  | _ => none }
def DnsGoesWrongFalsely : Prop := dnsGoesRow.holds Tryd.pinned (OpenSpec.ofChange dnsGoesWrong)

/-- 'tolllaw01.DnsFolds': WHATEVER THE INPUT: true; the input reads as it did. -/
def dnsFoldsSpec : ChangeSpec := { name := "dnsFolds", fn := fun _ => fun
  | [d] => { results := [.lit (.bool true)], args := [d] }
  | _ => none }
def dnsFoldsRow : OpenClaim := { program := "ytnplmgamkcgihaadoor", sum := "990a7672eb661273c1434222d1b3f5ad657a6b73a528cef0a5d587ef70747b2d", func := "toll/tolllaw01.DnsFolds", spec := "dnsFolds", inPlace := ["internal/bytealg.IndexByteString", "internal/bytealg.IndexString"], unfollowed := true, recurses := true, named := ["unicode/utf8.first", "unicode/utf8.acceptRanges", "internal/bytealg.MaxLen"], apart := false, laid := [("unicode/utf8.acceptRanges", laid_unicode_utf8_acceptRanges), ("unicode/utf8.first", laid_unicode_utf8_first)] }
def DnsFoldsSaid : Prop := dnsFoldsRow.holds Tryd.pinned (OpenSpec.ofChange dnsFoldsSpec)

/-- ITS FALSE NEIGHBOUR: 'it returns false'. Refute it at one input. -/
def dnsFoldsWrong : ChangeSpec := { name := "dnsFolds", fn := fun _ => fun
  | [d] => { results := [.lit (.bool false)], args := [d] }
  | _ => none }
def DnsFoldsWrongFalsely : Prop := dnsFoldsRow.holds Tryd.pinned (OpenSpec.ofChange dnsFoldsWrong)

/-- 'tolllaw01.DnsLabels': WHATEVER THE INPUT: true; the input reads as it did. -/
def dnsLabelsSpec : ChangeSpec := { name := "dnsLabels", fn := fun _ => fun
  | [d1, d2] => { results := [.lit (.bool true)], args := [d1, d2] }
  | _ => none }
def dnsLabelsRow : OpenClaim := { program := "ytnplmgamkcgihaadoor", sum := "990a7672eb661273c1434222d1b3f5ad657a6b73a528cef0a5d587ef70747b2d", func := "toll/tolllaw01.DnsLabels", spec := "dnsLabels", inPlace := ["internal/bytealg.IndexByteString", "internal/bytealg.IndexString"], unfollowed := true, recurses := true, named := ["unicode/utf8.first", "unicode/utf8.acceptRanges", "internal/bytealg.MaxLen"], apart := false, laid := [("unicode/utf8.acceptRanges", laid_unicode_utf8_acceptRanges), ("unicode/utf8.first", laid_unicode_utf8_first)] }
def DnsLabelsSaid : Prop := dnsLabelsRow.holds Tryd.pinned (OpenSpec.ofChange dnsLabelsSpec)

/-- ITS FALSE NEIGHBOUR: 'it returns false'. Refute it at one input. -/
def dnsLabelsWrong : ChangeSpec := { name := "dnsLabels", fn := fun _ => fun
  | [d1, d2] => { results := [.lit (.bool false)], args := [d1, d2] }
  | _ => none }
def DnsLabelsWrongFalsely : Prop := dnsLabelsRow.holds Tryd.pinned (OpenSpec.ofChange dnsLabelsWrong)

/- THE SECOND FORM. 'bulk': how many values and letters a reading holds, each counted each time it is reached (what is shared counts as often as it is met; a slice's spare places count too). A statement '..UptoSaid' is the law's where the arguments, and the package variables that the reading takes, are together of bulk at most 1048576: NARROWER than '..Said'. Prove '..Said' where nothing that the law and all that it calls make is longer than what came in: it says more and counts as full. Else prove '..UptoSaid'. A law counts once. -/
mutual
def uptoBulk {H : Type} : DataW H → Nat
  | .lit (.string bytes) => bytes.length + 1
  | .lit _ => 1
  | .nil => 1
  | .ptr d => uptoBulk d + 1
  | .slice elems spare => uptoBulkAll elems + uptoBulkAll spare + 1
  | .agg parts => uptoBulkAll parts + 1
  | .iface _ d => uptoBulk d + 1
  | .map entries => uptoBulkEntries entries + 1
  | .held _ => 1
def uptoBulkAll {H : Type} : List (DataW H) → Nat
  | [] => 0
  | d :: r => uptoBulk d + uptoBulkAll r
def uptoBulkEntries {H : Type} : List (Lit × DataW H) → Nat
  | [] => 0
  | x :: r => uptoBulkEntry x + uptoBulkEntries r
def uptoBulkEntry {H : Type} : Lit × DataW H → Nat
  | (.string bytes, d) => bytes.length + uptoBulk d + 1
  | (_, d) => uptoBulk d + 1
 end
def uptoSmall : (H : Type) → List (DataW H) → Bool := fun _ ds => decide (uptoBulkAll ds ≤ 1048576)
def OpenSpec.upto (s : _root_.Go.ChangeSpec) : _root_.Go.OpenSpec := { _root_.Go.OpenSpec.ofChange s with cond := some uptoSmall }

/-- 'tolllaw01.DnsNames', WHERE WHAT IT READS IS OF BULK AT MOST 1048576: true; the input reads as it did. -/
def dnsNamesUptoRow : OpenClaim := { program := "ytnplmgamkcgihaadoor", sum := "990a7672eb661273c1434222d1b3f5ad657a6b73a528cef0a5d587ef70747b2d", func := "toll/tolllaw01.DnsNames", spec := "dnsNames", inPlace := ["internal/bytealg.IndexByteString", "internal/bytealg.IndexString"], unfollowed := true, recurses := true, named := ["unicode/utf8.first", "unicode/utf8.acceptRanges", "internal/bytealg.MaxLen"], apart := false, laid := [("unicode/utf8.acceptRanges", laid_unicode_utf8_acceptRanges), ("unicode/utf8.first", laid_unicode_utf8_first)], narrowed := true }
def DnsNamesUptoSaid : Prop := dnsNamesUptoRow.holds Tryd.pinned (OpenSpec.upto dnsNamesSpec)

/-- 'tolllaw01.DnsKeys', WHERE WHAT IT READS IS OF BULK AT MOST 1048576: true; the input reads as it did. -/
def dnsKeysUptoRow : OpenClaim := { program := "ytnplmgamkcgihaadoor", sum := "990a7672eb661273c1434222d1b3f5ad657a6b73a528cef0a5d587ef70747b2d", func := "toll/tolllaw01.DnsKeys", spec := "dnsKeys", inPlace := ["internal/bytealg.IndexByteString", "internal/bytealg.IndexString"], unfollowed := true, recurses := true, named := ["unicode/utf8.first", "unicode/utf8.acceptRanges", "internal/bytealg.MaxLen"], apart := false, laid := [("unicode/utf8.acceptRanges", laid_unicode_utf8_acceptRanges), ("unicode/utf8.first", laid_unicode_utf8_first)], narrowed := true }
def DnsKeysUptoSaid : Prop := dnsKeysUptoRow.holds Tryd.pinned (OpenSpec.upto dnsKeysSpec)

/-- 'tolllaw01.DnsBacks', WHERE WHAT IT READS IS OF BULK AT MOST 1048576: true; the input reads as it did. -/
def dnsBacksUptoRow : OpenClaim := { program := "ytnplmgamkcgihaadoor", sum := "990a7672eb661273c1434222d1b3f5ad657a6b73a528cef0a5d587ef70747b2d", func := "toll/tolllaw01.DnsBacks", spec := "dnsBacks", inPlace := ["internal/bytealg.IndexByteString", "internal/bytealg.IndexString"], unfollowed := true, recurses := true, named := ["unicode/utf8.first", "unicode/utf8.acceptRanges", "internal/bytealg.MaxLen"], apart := false, laid := [("unicode/utf8.acceptRanges", laid_unicode_utf8_acceptRanges), ("unicode/utf8.first", laid_unicode_utf8_first)], narrowed := true }
def DnsBacksUptoSaid : Prop := dnsBacksUptoRow.holds Tryd.pinned (OpenSpec.upto dnsBacksSpec)

/-- 'tolllaw01.DnsUnders', WHERE WHAT IT READS IS OF BULK AT MOST 1048576: true; the input reads as it did. -/
def dnsUndersUptoRow : OpenClaim := { program := "ytnplmgamkcgihaadoor", sum := "990a7672eb661273c1434222d1b3f5ad657a6b73a528cef0a5d587ef70747b2d", func := "toll/tolllaw01.DnsUnders", spec := "dnsUnders", inPlace := ["internal/bytealg.IndexByteString", "internal/bytealg.IndexString"], unfollowed := true, recurses := true, named := ["unicode/utf8.first", "unicode/utf8.acceptRanges", "internal/bytealg.MaxLen"], apart := false, laid := [("unicode/utf8.acceptRanges", laid_unicode_utf8_acceptRanges), ("unicode/utf8.first", laid_unicode_utf8_first)], narrowed := true }
def DnsUndersUptoSaid : Prop := dnsUndersUptoRow.holds Tryd.pinned (OpenSpec.upto dnsUndersSpec)

/-- 'tolllaw01.DnsGoes', WHERE WHAT IT READS IS OF BULK AT MOST 1048576: true; the input reads as it did. -/
def dnsGoesUptoRow : OpenClaim := { program := "ytnplmgamkcgihaadoor", sum := "990a7672eb661273c1434222d1b3f5ad657a6b73a528cef0a5d587ef70747b2d", func := "toll/tolllaw01.DnsGoes", spec := "dnsGoes", inPlace := ["internal/bytealg.IndexByteString", "internal/bytealg.IndexString"], unfollowed := true, recurses := true, named := ["unicode/utf8.first", "unicode/utf8.acceptRanges", "internal/bytealg.MaxLen"], apart := false, laid := [("unicode/utf8.acceptRanges", laid_unicode_utf8_acceptRanges), ("unicode/utf8.first", laid_unicode_utf8_first)], narrowed := true }
def DnsGoesUptoSaid : Prop := dnsGoesUptoRow.holds Tryd.pinned (OpenSpec.upto dnsGoesSpec)

/-- 'tolllaw01.DnsFolds', WHERE WHAT IT READS IS OF BULK AT MOST 1048576: true; the input reads as it did. -/
def dnsFoldsUptoRow : OpenClaim := { program := "ytnplmgamkcgihaadoor", sum := "990a7672eb661273c1434222d1b3f5ad657a6b73a528cef0a5d587ef70747b2d", func := "toll/tolllaw01.DnsFolds", spec := "dnsFolds", inPlace := ["internal/bytealg.IndexByteString", "internal/bytealg.IndexString"], unfollowed := true, recurses := true, named := ["unicode/utf8.first", "unicode/utf8.acceptRanges", "internal/bytealg.MaxLen"], apart := false, laid := [("unicode/utf8.acceptRanges", laid_unicode_utf8_acceptRanges), ("unicode/utf8.first", laid_unicode_utf8_first)], narrowed := true }
def DnsFoldsUptoSaid : Prop := dnsFoldsUptoRow.holds Tryd.pinned (OpenSpec.upto dnsFoldsSpec)

/-- 'tolllaw01.DnsLabels', WHERE WHAT IT READS IS OF BULK AT MOST 1048576: true; the input reads as it did. -/
def dnsLabelsUptoRow : OpenClaim := { program := "ytnplmgamkcgihaadoor", sum := "990a7672eb661273c1434222d1b3f5ad657a6b73a528cef0a5d587ef70747b2d", func := "toll/tolllaw01.DnsLabels", spec := "dnsLabels", inPlace := ["internal/bytealg.IndexByteString", "internal/bytealg.IndexString"], unfollowed := true, recurses := true, named := ["unicode/utf8.first", "unicode/utf8.acceptRanges", "internal/bytealg.MaxLen"], apart := false, laid := [("unicode/utf8.acceptRanges", laid_unicode_utf8_acceptRanges), ("unicode/utf8.first", laid_unicode_utf8_first)], narrowed := true }
def DnsLabelsUptoSaid : Prop := dnsLabelsUptoRow.holds Tryd.pinned (OpenSpec.upto dnsLabelsSpec)

end Rows
end Go.Proofs.YtnplmgamkcgihaaDoor
