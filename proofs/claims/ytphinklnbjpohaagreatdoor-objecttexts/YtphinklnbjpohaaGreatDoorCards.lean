/-
  DERIVED. GIVEN WITH THE SEED: THE CARDS: each row of YtphinklnbjpohaaGreatDoorRows.lean that lists a variable, with what it lists TIED to the program's text (the seventh form; the later family's looks); each row that meets fmt, with fmt's text TOLD by the authors' own Lean function (tested against real Go, not proved from fmt's source: count such statements apart). THE CARD IS WHAT COUNTS. Prove the row's statement (the work); the ties are given (YtphinklnbjpohaaGreatDoorTie.lean); close each card by the builder's one call (the guide's Derived/Test/ToyasCard.lean, 'card_holds'). Laid BY PROGRAM, IN A SANDBOX (cutbox-door.mjs). By AI agents, Wed Nov 11 2026. No macro, syntax, notation, axiom, sorry.
-/
import Derived.Test.YtphinklnbjpohaaGreatDoorRows
import GoSem.ClaimSeven
namespace Go.Proofs.YtphinklnbjpohaaGreatDoor
namespace Rows

/-- THE TIED CARD OF 'tolllaw07.FilterDoes'. -/
def filterDoesCard : Claim7 := { stood := { row := filterDoesRow, standIns := [], harness := (true, "0e7b7daa24e6968534c4ec8945e6467af36c43b0fbd2d7060001d2b01c676d81"), looks := true }, kinds := [], alts := [], laidByText := true, laidKinds := [.data, .data, .data, .data, .pinned], laidTests := true, laidLooks := .later }
def FilterDoesCardSaid : Prop := Claim7.holds Tryz.pinned (.plain (OpenSpec.ofChange filterDoesSpec)) filterDoesCard

/-- THE TIED CARD OF 'tolllaw09.ObjectMays'. -/
def objectMaysCard : Claim7 := { stood := { row := objectMaysRow, standIns := [], harness := (true, "0e7b7daa24e6968534c4ec8945e6467af36c43b0fbd2d7060001d2b01c676d81"), looks := true }, kinds := [], alts := [], laidByText := true, laidKinds := [.data, .data, .data, .data, .pinned], laidTests := true, laidLooks := .later }
def ObjectMaysCardSaid : Prop := Claim7.holds Tryz.pinned (.plain (OpenSpec.ofChange objectMaysSpec)) objectMaysCard

/-- THE TIED CARD OF 'tolllaw09.ObjectRefs'. -/
def objectRefsCard : Claim7 := { stood := { row := objectRefsRow, standIns := [], harness := (true, "0e7b7daa24e6968534c4ec8945e6467af36c43b0fbd2d7060001d2b01c676d81"), looks := true }, kinds := [], alts := [], laidByText := true, laidKinds := [.data, .data, .data, .data, .pinned], laidTests := true, laidLooks := .later }
def ObjectRefsCardSaid : Prop := Claim7.holds Tryz.pinned (.plain (OpenSpec.ofChange objectRefsSpec)) objectRefsCard

/-- THE TIED CARD OF 'tolllaw09.ObjectTexts'. -/
def objectTextsCard : Claim7 := { stood := { row := objectTextsRow, standIns := [], harness := (true, "0e7b7daa24e6968534c4ec8945e6467af36c43b0fbd2d7060001d2b01c676d81"), looks := true }, kinds := [], alts := [], laidByText := true, laidKinds := [.data, .data, .data, .data, .pinned], laidTests := true, laidLooks := .later }
def ObjectTextsCardSaid : Prop := Claim7.holds Tryz.pinned (.plain (OpenSpec.ofChange objectTextsSpec)) objectTextsCard

/-- THE TIED CARD OF 'tolllaw09.ObjectOrders'. -/
def objectOrdersCard : Claim7 := { stood := { row := objectOrdersRow, standIns := [], harness := (true, "0e7b7daa24e6968534c4ec8945e6467af36c43b0fbd2d7060001d2b01c676d81"), looks := true }, kinds := [], alts := [], laidByText := true, laidKinds := [.data, .data, .data, .data, .pinned], laidTests := true, laidLooks := .later }
def ObjectOrdersCardSaid : Prop := Claim7.holds Tryz.pinned (.plain (OpenSpec.ofChange objectOrdersSpec)) objectOrdersCard

/-- THE TIED CARD OF 'tolllaw09.ObjectLess'. -/
def objectLessCard : Claim7 := { stood := { row := objectLessRow, standIns := [], harness := (true, "0e7b7daa24e6968534c4ec8945e6467af36c43b0fbd2d7060001d2b01c676d81"), looks := true }, kinds := [], alts := [], laidByText := true, laidKinds := [.data, .data, .data, .data, .pinned], laidTests := true, laidLooks := .later }
def ObjectLessCardSaid : Prop := Claim7.holds Tryz.pinned (.plain (OpenSpec.ofChange objectLessSpec)) objectLessCard

/-- THE SECOND FORM's CARD OF 'tolllaw07.FilterDoes'. -/
def filterDoesUptoCard : Claim7 := { stood := { row := filterDoesUptoRow, standIns := [], harness := (true, "0e7b7daa24e6968534c4ec8945e6467af36c43b0fbd2d7060001d2b01c676d81"), looks := true }, kinds := [], alts := [], laidByText := true, laidKinds := [.data, .data, .data, .data, .pinned], laidTests := true, laidLooks := .later }
def FilterDoesUptoCardSaid : Prop := Claim7.holds Tryz.pinned (.plain (OpenSpec.upto filterDoesSpec)) filterDoesUptoCard

/-- THE SECOND FORM's CARD OF 'tolllaw09.ObjectMays'. -/
def objectMaysUptoCard : Claim7 := { stood := { row := objectMaysUptoRow, standIns := [], harness := (true, "0e7b7daa24e6968534c4ec8945e6467af36c43b0fbd2d7060001d2b01c676d81"), looks := true }, kinds := [], alts := [], laidByText := true, laidKinds := [.data, .data, .data, .data, .pinned], laidTests := true, laidLooks := .later }
def ObjectMaysUptoCardSaid : Prop := Claim7.holds Tryz.pinned (.plain (OpenSpec.upto objectMaysSpec)) objectMaysUptoCard

/-- THE SECOND FORM's CARD OF 'tolllaw09.ObjectRefs'. -/
def objectRefsUptoCard : Claim7 := { stood := { row := objectRefsUptoRow, standIns := [], harness := (true, "0e7b7daa24e6968534c4ec8945e6467af36c43b0fbd2d7060001d2b01c676d81"), looks := true }, kinds := [], alts := [], laidByText := true, laidKinds := [.data, .data, .data, .data, .pinned], laidTests := true, laidLooks := .later }
def ObjectRefsUptoCardSaid : Prop := Claim7.holds Tryz.pinned (.plain (OpenSpec.upto objectRefsSpec)) objectRefsUptoCard

/-- THE SECOND FORM's CARD OF 'tolllaw09.ObjectTexts'. -/
def objectTextsUptoCard : Claim7 := { stood := { row := objectTextsUptoRow, standIns := [], harness := (true, "0e7b7daa24e6968534c4ec8945e6467af36c43b0fbd2d7060001d2b01c676d81"), looks := true }, kinds := [], alts := [], laidByText := true, laidKinds := [.data, .data, .data, .data, .pinned], laidTests := true, laidLooks := .later }
def ObjectTextsUptoCardSaid : Prop := Claim7.holds Tryz.pinned (.plain (OpenSpec.upto objectTextsSpec)) objectTextsUptoCard

/-- THE SECOND FORM's CARD OF 'tolllaw09.ObjectOrders'. -/
def objectOrdersUptoCard : Claim7 := { stood := { row := objectOrdersUptoRow, standIns := [], harness := (true, "0e7b7daa24e6968534c4ec8945e6467af36c43b0fbd2d7060001d2b01c676d81"), looks := true }, kinds := [], alts := [], laidByText := true, laidKinds := [.data, .data, .data, .data, .pinned], laidTests := true, laidLooks := .later }
def ObjectOrdersUptoCardSaid : Prop := Claim7.holds Tryz.pinned (.plain (OpenSpec.upto objectOrdersSpec)) objectOrdersUptoCard

/-- THE SECOND FORM's CARD OF 'tolllaw09.ObjectLess'. -/
def objectLessUptoCard : Claim7 := { stood := { row := objectLessUptoRow, standIns := [], harness := (true, "0e7b7daa24e6968534c4ec8945e6467af36c43b0fbd2d7060001d2b01c676d81"), looks := true }, kinds := [], alts := [], laidByText := true, laidKinds := [.data, .data, .data, .data, .pinned], laidTests := true, laidLooks := .later }
def ObjectLessUptoCardSaid : Prop := Claim7.holds Tryz.pinned (.plain (OpenSpec.upto objectLessSpec)) objectLessUptoCard
end Rows
end Go.Proofs.YtphinklnbjpohaaGreatDoor
