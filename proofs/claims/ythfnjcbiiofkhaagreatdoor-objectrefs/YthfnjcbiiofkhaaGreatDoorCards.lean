/-
  DERIVED. GIVEN WITH THE SEED: THE CARDS: each row of YthfnjcbiiofkhaaGreatDoorRows.lean that lists a variable, with what it lists TIED to the program's text (the seventh form; the later family's looks); each row that meets fmt, with fmt's text TOLD by the authors' own Lean function (tested against real Go, not proved from fmt's source: count such statements apart). THE CARD IS WHAT COUNTS. Prove the row's statement (the work); the ties are given (YthfnjcbiiofkhaaGreatDoorTie.lean); close each card by the builder's one call (the guide's Derived/Test/ToyasCard.lean, 'card_holds'). Laid BY PROGRAM, IN A SANDBOX (cutbox-door.mjs). By AI agents, Wed Nov 11 2026. No macro, syntax, notation, axiom, sorry.
-/
import Derived.Test.YthfnjcbiiofkhaaGreatDoorRows
import GoSem.ClaimSeven
namespace Go.Proofs.YthfnjcbiiofkhaaGreatDoor
namespace Rows

/-- THE TIED CARD OF 'tolllaw09.ObjectMays'. -/
def objectMaysCard : Claim7 := { stood := { row := objectMaysRow, standIns := [], harness := (true, "c6e7cdd8ab57984a4c17f6c2016aa04082776ccee4dd060d66fa4ff72bcd5410"), looks := true }, kinds := [], alts := [], laidByText := true, laidKinds := [.data, .data, .data, .data, .pinned], laidTests := true, laidLooks := .later }
def ObjectMaysCardSaid : Prop := Claim7.holds Tryz.pinned (.plain (OpenSpec.ofChange objectMaysSpec)) objectMaysCard

/-- THE TIED CARD OF 'tolllaw09.ObjectRefs'. -/
def objectRefsCard : Claim7 := { stood := { row := objectRefsRow, standIns := [], harness := (true, "c6e7cdd8ab57984a4c17f6c2016aa04082776ccee4dd060d66fa4ff72bcd5410"), looks := true }, kinds := [], alts := [], laidByText := true, laidKinds := [.data, .data, .data, .data, .pinned], laidTests := true, laidLooks := .later }
def ObjectRefsCardSaid : Prop := Claim7.holds Tryz.pinned (.plain (OpenSpec.ofChange objectRefsSpec)) objectRefsCard

/-- THE TIED CARD OF 'tolllaw09.ObjectNear'. -/
def objectNearCard : Claim7 := { stood := { row := objectNearRow, standIns := [], harness := (true, "c6e7cdd8ab57984a4c17f6c2016aa04082776ccee4dd060d66fa4ff72bcd5410"), looks := true }, kinds := [], alts := [], laidByText := true, laidKinds := [.data, .data, .data, .data, .pinned], laidTests := true, laidLooks := .later }
def ObjectNearCardSaid : Prop := Claim7.holds Tryz.pinned (.plain (OpenSpec.ofChange objectNearSpec)) objectNearCard

/-- THE SECOND FORM's CARD OF 'tolllaw09.ObjectMays'. -/
def objectMaysUptoCard : Claim7 := { stood := { row := objectMaysUptoRow, standIns := [], harness := (true, "c6e7cdd8ab57984a4c17f6c2016aa04082776ccee4dd060d66fa4ff72bcd5410"), looks := true }, kinds := [], alts := [], laidByText := true, laidKinds := [.data, .data, .data, .data, .pinned], laidTests := true, laidLooks := .later }
def ObjectMaysUptoCardSaid : Prop := Claim7.holds Tryz.pinned (.plain (OpenSpec.upto objectMaysSpec)) objectMaysUptoCard

/-- THE SECOND FORM's CARD OF 'tolllaw09.ObjectRefs'. -/
def objectRefsUptoCard : Claim7 := { stood := { row := objectRefsUptoRow, standIns := [], harness := (true, "c6e7cdd8ab57984a4c17f6c2016aa04082776ccee4dd060d66fa4ff72bcd5410"), looks := true }, kinds := [], alts := [], laidByText := true, laidKinds := [.data, .data, .data, .data, .pinned], laidTests := true, laidLooks := .later }
def ObjectRefsUptoCardSaid : Prop := Claim7.holds Tryz.pinned (.plain (OpenSpec.upto objectRefsSpec)) objectRefsUptoCard

/-- THE SECOND FORM's CARD OF 'tolllaw09.ObjectNear'. -/
def objectNearUptoCard : Claim7 := { stood := { row := objectNearUptoRow, standIns := [], harness := (true, "c6e7cdd8ab57984a4c17f6c2016aa04082776ccee4dd060d66fa4ff72bcd5410"), looks := true }, kinds := [], alts := [], laidByText := true, laidKinds := [.data, .data, .data, .data, .pinned], laidTests := true, laidLooks := .later }
def ObjectNearUptoCardSaid : Prop := Claim7.holds Tryz.pinned (.plain (OpenSpec.upto objectNearSpec)) objectNearUptoCard
end Rows
end Go.Proofs.YthfnjcbiiofkhaaGreatDoor
