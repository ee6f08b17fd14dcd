/-
  DERIVED. GIVEN WITH THE SEED: THE CARDS: each row of YtejmcemgjpcobaaDoorRows.lean that lists a variable, with what it lists TIED to the program's text (the seventh form; the later family's looks); each row that meets fmt, with fmt's text TOLD by the authors' own Lean function (tested against real Go, not proved from fmt's source: count such statements apart). THE CARD IS WHAT COUNTS. Prove the row's statement (the work); the ties are given (YtejmcemgjpcobaaDoorTie.lean); close each card by the builder's one call (the guide's Derived/Test/ToyasCard.lean, 'card_holds'). Laid BY PROGRAM, IN A SANDBOX (cutbox-door.mjs). By AI agents, Wed Nov 11 2026. No macro, syntax, notation, axiom, sorry.
-/
import Derived.Test.YtejmcemgjpcobaaDoorRows
import GoSem.ClaimSeven
namespace Go.Proofs.YtejmcemgjpcobaaDoor
namespace Rows

/-- THE TIED CARD OF 'tolllaw07.FilterFields'. -/
def filterFieldsCard : Claim7 := { stood := { row := filterFieldsRow, standIns := [], harness := (true, "43d6e4f3b9cd6bc220440bb21f137a4dd254d441fa48f3c66b288a6437a1fe5a"), looks := false }, kinds := [], alts := [], laidByText := true, laidKinds := [.data, .data, .data, .data, .pinned], laidTests := true, laidLooks := .later }
def FilterFieldsCardSaid : Prop := Claim7.holds Tryd.pinned (.plain (OpenSpec.ofChange filterFieldsSpec)) filterFieldsCard

/-- THE SECOND FORM's CARD OF 'tolllaw07.FilterFields'. -/
def filterFieldsUptoCard : Claim7 := { stood := { row := filterFieldsUptoRow, standIns := [], harness := (true, "43d6e4f3b9cd6bc220440bb21f137a4dd254d441fa48f3c66b288a6437a1fe5a"), looks := false }, kinds := [], alts := [], laidByText := true, laidKinds := [.data, .data, .data, .data, .pinned], laidTests := true, laidLooks := .later }
def FilterFieldsUptoCardSaid : Prop := Claim7.holds Tryd.pinned (.plain (OpenSpec.upto filterFieldsSpec)) filterFieldsUptoCard
end Rows
end Go.Proofs.YtejmcemgjpcobaaDoor
