/-
  NARROWER THAN 'FOR EVERY INPUT', by the rows' own cells (each row's printed sentence says how): GrantPermits: laid · GrantMore: laid · GrantNames: laid · GrantSides: laid · GrantFinds: laid · GrantBys: laid.
  DERIVED. THE GIVEN ROWS OF THIS SEAT. 6 by the template 'for every input the law returns true; each argument reads behind the call as it read before'; 0 by the template 'total and deterministic' (their statements: YthnodpdiocppgaaGreatDoorTotals.lean).
  GIVEN WITH THE SEED: the statements are not yours to turn. If you find one false, say at which input.
  Laid BY PROGRAM, IN A SANDBOX (cutbox-rows.mjs): the forced cells as the released guide's own fill.sh prints them over the translation bb379c5eb96e43fb… (all of the seat's roots in one cut). By AI agents, Wed Nov 11 2026. No macro, syntax, notation, axiom, sorry.
-/
import Derived.Test.YthnodpdiocppgaaGreatDoorChecked
import GoSem.PinnedTables
import GoSem.Claim
import GoSem.ClaimJoined
import GoSem.ClaimMapViews
import Derived.JoinedTies
import Derived.KernelRfl
namespace Go.Proofs.YthnodpdiocppgaaGreatDoor
/- THE CELL 'sum', in the pinned program and in every row, IS THE sha256 OF THE DUMP (.gsa) THAT YthnodpdiocppgaaGreatDoorProg.lean LOADS. Nothing in Lean hashes anything: it is a label: what it is worth is what the hold of that sum in a sandbox is worth. -/
noncomputable def Tryz.pinned : Pinned := { name := "ythnodpdiocppgaagreatdoor", sum := "bb379c5eb96e43fbc91f9d65170eddb6820d686405d0931101e34c0662307b7a", checked := Tryz.checked }
namespace Rows
def none {H : Type} : Left H := { results := [], args := [] }

/- WHAT THE LISTED PACKAGE-LEVEL VARIABLES READ AS WHEN THE CALL BEGINS. Each datum BY PROGRAM (the guide's laid-datum.mjs) off the statement by which the dump's own 'gosem.cut.vars' lays the variable. In a bare row this is a premise. The card (YthnodpdiocppgaaGreatDoorCards.lean) ties it to the program's text. -/
def laid_unicode_utf8_acceptRanges {H : Type} : DataW H := .agg [.agg [.lit (.int .u8 128), .lit (.int .u8 191)], .agg [.lit (.int .u8 160), .lit (.int .u8 191)], .agg [.lit (.int .u8 128), .lit (.int .u8 159)], .agg [.lit (.int .u8 144), .lit (.int .u8 191)], .agg [.lit (.int .u8 128), .lit (.int .u8 143)], .agg [.lit (.int .u8 0), .lit (.int .u8 0)], .agg [.lit (.int .u8 0), .lit (.int .u8 0)], .agg [.lit (.int .u8 0), .lit (.int .u8 0)], .agg [.lit (.int .u8 0), .lit (.int .u8 0)], .agg [.lit (.int .u8 0), .lit (.int .u8 0)], .agg [.lit (.int .u8 0), .lit (.int .u8 0)], .agg [.lit (.int .u8 0), .lit (.int .u8 0)], .agg [.lit (.int .u8 0), .lit (.int .u8 0)], .agg [.lit (.int .u8 0), .lit (.int .u8 0)], .agg [.lit (.int .u8 0), .lit (.int .u8 0)], .agg [.lit (.int .u8 0), .lit (.int .u8 0)]]
/-- One of Go's own tables, pinned by name: the form's constant. -/
def laid_unicode_utf8_first : DataW Unit := Go.Pinned.utf8First

/-- 'tolllaw11.GrantPermits': WHATEVER THE INPUT: true; the input reads as it did. -/
def grantPermitsSpec : ChangeSpec := { name := "grantPermits", fn := fun _ => fun
  | [d] => { results := [.lit (.bool true)], args := [d] }
  | _ => none }
def grantPermitsRow : OpenClaim := { program := "ythnodpdiocppgaagreatdoor", sum := "bb379c5eb96e43fbc91f9d65170eddb6820d686405d0931101e34c0662307b7a", func := "toll/tolllaw11.GrantPermits", spec := "grantPermits", inPlace := ["internal/bytealg.IndexByteString", "internal/bytealg.IndexString"], unfollowed := true, recurses := true, named := ["unicode/utf8.first", "unicode/utf8.acceptRanges", "internal/bytealg.MaxLen"], apart := false, laid := [("unicode/utf8.acceptRanges", laid_unicode_utf8_acceptRanges), ("unicode/utf8.first", laid_unicode_utf8_first)] }
def GrantPermitsSaid : Prop := grantPermitsRow.holds Tryz.pinned (OpenSpec.ofChange grantPermitsSpec)

/-- ITS FALSE NEIGHBOUR: 'it returns false'. Refute it at one input. -/
def grantPermitsWrong : ChangeSpec := { name := "grantPermits", fn := fun _ => fun
  | [d] => { results := [.lit (.bool false)], args := [d] }
  | _ => none }
def GrantPermitsWrongFalsely : Prop := grantPermitsRow.holds Tryz.pinned (OpenSpec.ofChange grantPermitsWrong)

/-- 'tolllaw11.GrantMore': WHATEVER THE INPUT: true; the input reads as it did. -/
def grantMoreSpec : ChangeSpec := { name := "grantMore", fn := fun _ => fun
  | [d1, d2] => { results := [.lit (.bool true)], args := [d1, d2] }
  | _ => none }
def grantMoreRow : OpenClaim := { program := "ythnodpdiocppgaagreatdoor", sum := "bb379c5eb96e43fbc91f9d65170eddb6820d686405d0931101e34c0662307b7a", func := "toll/tolllaw11.GrantMore", spec := "grantMore", inPlace := ["internal/bytealg.IndexByteString", "internal/bytealg.IndexString"], unfollowed := true, recurses := true, named := ["unicode/utf8.first", "unicode/utf8.acceptRanges", "internal/bytealg.MaxLen"], apart := false, laid := [("unicode/utf8.acceptRanges", laid_unicode_utf8_acceptRanges), ("unicode/utf8.first", laid_unicode_utf8_first)] }
def GrantMoreSaid : Prop := grantMoreRow.holds Tryz.pinned (OpenSpec.ofChange grantMoreSpec)

/-- ITS FALSE NEIGHBOUR: 'it returns false'. Refute it at one input. -/
def grantMoreWrong : ChangeSpec := { name := "grantMore", fn := fun _ => fun
  | [d1, d2] => { results := [.lit (.bool false)], args := [d1, d2] }
  | _ => none }
def GrantMoreWrongFalsely : Prop := grantMoreRow.holds Tryz.pinned (OpenSpec.ofChange grantMoreWrong)

/-- 'tolllaw11.GrantNames': WHATEVER THE INPUT: true; the input reads as it did. -/
def grantNamesSpec : ChangeSpec := { name := "grantNames", fn := fun _ => fun
  | [d1, d2, d3] => { results := [.lit (.bool true)], args := [d1, d2, d3] }
  | _ => none }
def grantNamesRow : OpenClaim := { program := "ythnodpdiocppgaagreatdoor", sum := "bb379c5eb96e43fbc91f9d65170eddb6820d686405d0931101e34c0662307b7a", func := "toll/tolllaw11.GrantNames", spec := "grantNames", inPlace := ["internal/bytealg.IndexByteString", "internal/bytealg.IndexString"], unfollowed := true, recurses := true, named := ["unicode/utf8.first", "unicode/utf8.acceptRanges", "internal/bytealg.MaxLen"], apart := false, laid := [("unicode/utf8.acceptRanges", laid_unicode_utf8_acceptRanges), ("unicode/utf8.first", laid_unicode_utf8_first)] }
def GrantNamesSaid : Prop := grantNamesRow.holds Tryz.pinned (OpenSpec.ofChange grantNamesSpec)

/-- ITS FALSE NEIGHBOUR: 'it returns false'. Refute it at one input. -/
def grantNamesWrong : ChangeSpec := { name := "grantNames", fn := fun _ => fun
  | [d1, d2, d3] => { results := [.lit (.bool false)], args := [d1, d2, d3] }
  | _ => none }
def GrantNamesWrongFalsely : Prop := grantNamesRow.holds Tryz.pinned (OpenSpec.ofChange grantNamesWrong)

/-- 'tolllaw11.GrantSides': WHATEVER THE INPUT: true; the input reads as it did. -/
def grantSidesSpec : ChangeSpec := { name := "grantSides", fn := fun _ => fun
  | [d] => { results := [.lit (.bool true)], args := [d] }
  | _ => none }
def grantSidesRow : OpenClaim := { program := "ythnodpdiocppgaagreatdoor", sum := "bb379c5eb96e43fbc91f9d65170eddb6820d686405d0931101e34c0662307b7a", func := "toll/tolllaw11.GrantSides", spec := "grantSides", inPlace := ["internal/bytealg.IndexByteString", "internal/bytealg.IndexString"], unfollowed := true, recurses := true, named := ["unicode/utf8.first", "unicode/utf8.acceptRanges", "internal/bytealg.MaxLen"], apart := false, laid := [("unicode/utf8.acceptRanges", laid_unicode_utf8_acceptRanges), ("unicode/utf8.first", laid_unicode_utf8_first)] }
def GrantSidesSaid : Prop := grantSidesRow.holds Tryz.pinned (OpenSpec.ofChange grantSidesSpec)

/-- ITS FALSE NEIGHBOUR: 'it returns false'. Refute it at one input. -/
def grantSidesWrong : ChangeSpec := { name := "grantSides", fn := fun _ => fun
  | [d] => { results := [.lit (.bool false)], args := [d] }
  | _ => none }
def GrantSidesWrongFalsely : Prop := grantSidesRow.holds Tryz.pinned (OpenSpec.ofChange grantSidesWrong)

/-- 'tolllaw11.GrantFinds': WHATEVER THE INPUT: true; the input reads as it did. -/
def grantFindsSpec : ChangeSpec := { name := "grantFinds", fn := fun _ => fun
  | [d1, d2, d3] => { results := [.lit (.bool true)], args := [d1, d2, d3] }
  | _ => none }
def grantFindsRow : OpenClaim := { program := "ythnodpdiocppgaagreatdoor", sum := "bb379c5eb96e43fbc91f9d65170eddb6820d686405d0931101e34c0662307b7a", func := "toll/tolllaw11.GrantFinds", spec := "grantFinds", inPlace := ["internal/bytealg.IndexByteString", "internal/bytealg.IndexString"], unfollowed := true, recurses := true, named := ["unicode/utf8.first", "unicode/utf8.acceptRanges", "internal/bytealg.MaxLen"], apart := false, laid := [("unicode/utf8.acceptRanges", laid_unicode_utf8_acceptRanges), ("unicode/utf8.first", laid_unicode_utf8_first)] }
def GrantFindsSaid : Prop := grantFindsRow.holds Tryz.pinned (OpenSpec.ofChange grantFindsSpec)

/-- ITS FALSE NEIGHBOUR: 'it returns false'. Refute it at one input. -/
def grantFindsWrong : ChangeSpec := { name := "grantFinds", fn := fun _ => fun
  | [d1, d2, d3] => { results := [.lit (.bool false)], args := [d1, d2, d3] }
  | _ => none }
def GrantFindsWrongFalsely : Prop := grantFindsRow.holds Tryz.pinned (OpenSpec.ofChange grantFindsWrong)

/-- 'tolllaw11.GrantBys': WHATEVER THE INPUT: true; the input reads as it did. -/
def grantBysSpec : ChangeSpec := { name := "grantBys", fn := fun _ => fun
  | [d] => { results := [.lit (.bool true)], args := [d] }
  | _ => none }
def grantBysRow : OpenClaim := { program := "ythnodpdiocppgaagreatdoor", sum := "bb379c5eb96e43fbc91f9d65170eddb6820d686405d0931101e34c0662307b7a", func := "toll/tolllaw11.GrantBys", spec := "grantBys", inPlace := ["internal/bytealg.IndexByteString", "internal/bytealg.IndexString"], unfollowed := true, recurses := true, named := ["unicode/utf8.first", "unicode/utf8.acceptRanges", "internal/bytealg.MaxLen"], apart := false, laid := [("unicode/utf8.acceptRanges", laid_unicode_utf8_acceptRanges), ("unicode/utf8.first", laid_unicode_utf8_first)] }
def GrantBysSaid : Prop := grantBysRow.holds Tryz.pinned (OpenSpec.ofChange grantBysSpec)

/-- ITS FALSE NEIGHBOUR: 'it returns false'. Refute it at one input. -/
def grantBysWrong : ChangeSpec := { name := "grantBys", fn := fun _ => fun
  | [d] => { results := [.lit (.bool false)], args := [d] }
  | _ => none }
def GrantBysWrongFalsely : Prop := grantBysRow.holds Tryz.pinned (OpenSpec.ofChange grantBysWrong)

/- THE SECOND FORM. 'bulk': how many values and letters a reading holds, each counted each time it is reached (what is shared counts as often as it is met; a slice's spare places count too). A statement '..UptoSaid' is the law's where the arguments, and the package variables that the reading takes, are together of bulk at most 1048576: NARROWER than '..Said'. Prove '..Said' where nothing that the law and all that it calls make is longer than what came in: it says more and counts as full. Else prove '..UptoSaid'. A law counts once. -/
mutual
def uptoBulk {H : Type} : DataW H → Nat
  | .lit (.string bytes) => bytes.length + 1
  | .lit _ => 1
  | .nil => 1
  | .ptr d => uptoBulk d + 1
  | .slice elems spare => uptoBulkAll elems + uptoBulkAll spare + 1
  | .agg parts => uptoBulkAll parts + 1
  | .iface _ d => uptoBulk d + 1
  | .map entries => uptoBulkEntries entries + 1
  | .held _ => 1
def uptoBulkAll {H : Type} : List (DataW H) → Nat
  | [] => 0
  | d :: r => uptoBulk d + uptoBulkAll r
def uptoBulkEntries {H : Type} : List (Lit × DataW H) → Nat
  | [] => 0
  | x :: r => uptoBulkEntry x + uptoBulkEntries r
def uptoBulkEntry {H : Type} : Lit × DataW H → Nat
  | (.string bytes, d) => bytes.length + uptoBulk d + 1
  | (_, d) => uptoBulk d + 1
 end
def uptoSmall : (H : Type) → List (DataW H) → Bool := fun _ ds => decide (uptoBulkAll ds ≤ 1048576)
def OpenSpec.upto (s : _root_.Go.ChangeSpec) : _root_.Go.OpenSpec := { _root_.Go.OpenSpec.ofChange s with cond := some uptoSmall }

/-- 'tolllaw11.GrantPermits', WHERE WHAT IT READS IS OF BULK AT MOST 1048576: true; the input reads as it did. -/
def grantPermitsUptoRow : OpenClaim := { program := "ythnodpdiocppgaagreatdoor", sum := "bb379c5eb96e43fbc91f9d65170eddb6820d686405d0931101e34c0662307b7a", func := "toll/tolllaw11.GrantPermits", spec := "grantPermits", inPlace := ["internal/bytealg.IndexByteString", "internal/bytealg.IndexString"], unfollowed := true, recurses := true, named := ["unicode/utf8.first", "unicode/utf8.acceptRanges", "internal/bytealg.MaxLen"], apart := false, laid := [("unicode/utf8.acceptRanges", laid_unicode_utf8_acceptRanges), ("unicode/utf8.first", laid_unicode_utf8_first)], narrowed := true }
def GrantPermitsUptoSaid : Prop := grantPermitsUptoRow.holds Tryz.pinned (OpenSpec.upto grantPermitsSpec)

/-- 'tolllaw11.GrantMore', WHERE WHAT IT READS IS OF BULK AT MOST 1048576: true; the input reads as it did. -/
def grantMoreUptoRow : OpenClaim := { program := "ythnodpdiocppgaagreatdoor", sum := "bb379c5eb96e43fbc91f9d65170eddb6820d686405d0931101e34c0662307b7a", func := "toll/tolllaw11.GrantMore", spec := "grantMore", inPlace := ["internal/bytealg.IndexByteString", "internal/bytealg.IndexString"], unfollowed := true, recurses := true, named := ["unicode/utf8.first", "unicode/utf8.acceptRanges", "internal/bytealg.MaxLen"], apart := false, laid := [("unicode/utf8.acceptRanges", laid_unicode_utf8_acceptRanges), ("unicode/utf8.first", laid_unicode_utf8_first)], narrowed := true }
def GrantMoreUptoSaid : Prop := grantMoreUptoRow.holds Tryz.pinned (OpenSpec.upto grantMoreSpec)

/-- 'tolllaw11.GrantNames', WHERE WHAT IT READS IS OF BULK AT MOST 1048576: true; the input reads as it did. -/
def grantNamesUptoRow : OpenClaim := { program := "ythnodpdiocppgaagreatdoor", sum := "bb379c5eb96e43fbc91f9d65170eddb6820d686405d0931101e34c0662307b7a", func := "toll/tolllaw11.GrantNames", spec := "grantNames", inPlace := ["internal/bytealg.IndexByteString", "internal/bytealg.IndexString"], unfollowed := true, recurses := true, named := ["unicode/utf8.first", "unicode/utf8.acceptRanges", "internal/bytealg.MaxLen"], apart := false, laid := [("unicode/utf8.acceptRanges", laid_unicode_utf8_acceptRanges), ("unicode/utf8.first", laid_unicode_utf8_first)], narrowed := true }
def GrantNamesUptoSaid : Prop := grantNamesUptoRow.holds Tryz.pinned (OpenSpec.upto grantNamesSpec)

/-- 'tolllaw11.GrantSides', WHERE WHAT IT READS IS OF BULK AT MOST 1048576: true; the input reads as it did. -/
def grantSidesUptoRow : OpenClaim := { program := "ythnodpdiocppgaagreatdoor", sum := "bb379c5eb96e43fbc91f9d65170eddb6820d686405d0931101e34c0662307b7a", func := "toll/tolllaw11.GrantSides", spec := "grantSides", inPlace := ["internal/bytealg.IndexByteString", "internal/bytealg.IndexString"], unfollowed := true, recurses := true, named := ["unicode/utf8.first", "unicode/utf8.acceptRanges", "internal/bytealg.MaxLen"], apart := false, laid := [("unicode/utf8.acceptRanges", laid_unicode_utf8_acceptRanges), ("unicode/utf8.first", laid_unicode_utf8_first)], narrowed := true }
def GrantSidesUptoSaid : Prop := grantSidesUptoRow.holds Tryz.pinned (OpenSpec.upto grantSidesSpec)

/-- 'tolllaw11.GrantFinds', WHERE WHAT IT READS IS OF BULK AT MOST 1048576: true; the input reads as it did. -/
def grantFindsUptoRow : OpenClaim := { program := "ythnodpdiocppgaagreatdoor", sum := "bb379c5eb96e43fbc91f9d65170eddb6820d686405d0931101e34c0662307b7a", func := "toll/tolllaw11.GrantFinds", spec := "grantFinds", inPlace := ["internal/bytealg.IndexByteString", "internal/bytealg.IndexString"], unfollowed := true, recurses := true, named := ["unicode/utf8.first", "unicode/utf8.acceptRanges", "internal/bytealg.MaxLen"], apart := false, laid := [("unicode/utf8.acceptRanges", laid_unicode_utf8_acceptRanges), ("unicode/utf8.first", laid_unicode_utf8_first)], narrowed := true }
def GrantFindsUptoSaid : Prop := grantFindsUptoRow.holds Tryz.pinned (OpenSpec.upto grantFindsSpec)

/-- 'tolllaw11.GrantBys', WHERE WHAT IT READS IS OF BULK AT MOST 1048576: true; the input reads as it did. -/
def grantBysUptoRow : OpenClaim := { program := "ythnodpdiocppgaagreatdoor", sum := "bb379c5eb96e43fbc91f9d65170eddb6820d686405d0931101e34c0662307b7a", func := "toll/tolllaw11.GrantBys", spec := "grantBys", inPlace := ["internal/bytealg.IndexByteString", "internal/bytealg.IndexString"], unfollowed := true, recurses := true, named := ["unicode/utf8.first", "unicode/utf8.acceptRanges", "internal/bytealg.MaxLen"], apart := false, laid := [("unicode/utf8.acceptRanges", laid_unicode_utf8_acceptRanges), ("unicode/utf8.first", laid_unicode_utf8_first)], narrowed := true }
def GrantBysUptoSaid : Prop := grantBysUptoRow.holds Tryz.pinned (OpenSpec.upto grantBysSpec)

end Rows
end Go.Proofs.YthnodpdiocppgaaGreatDoor
