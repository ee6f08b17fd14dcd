/-
  DERIVED. GIVEN WITH THE SEED: THE CARDS: each row of YthnodpdiocppgaaGreatDoorRows.lean that lists a variable, with what it lists TIED to the program's text (the seventh form; the later family's looks); each row that meets fmt, with fmt's text TOLD by the authors' own Lean function (tested against real Go, not proved from fmt's source: count such statements apart). THE CARD IS WHAT COUNTS. Prove the row's statement (the work); the ties are given (YthnodpdiocppgaaGreatDoorTie.lean); close each card by the builder's one call (the guide's Derived/Test/ToyasCard.lean, 'card_holds'). Laid BY PROGRAM, IN A SANDBOX (cutbox-door.mjs). By AI agents, Wed Nov 11 2026. No macro, syntax, notation, axiom, sorry.
-/
import Derived.Test.YthnodpdiocppgaaGreatDoorRows
import GoSem.ClaimSeven
namespace Go.Proofs.YthnodpdiocppgaaGreatDoor
namespace Rows

/-- THE TIED CARD OF 'tolllaw11.GrantPermits'. -/
def grantPermitsCard : Claim7 := { stood := { row := grantPermitsRow, standIns := [], harness := (true, "3734440b6a5a755c93124f7a7f73814e55462aad9a3bb3ffc57c231fe0acc477"), looks := true }, kinds := [], alts := [], laidByText := true, laidKinds := [.data, .pinned], laidTests := true, laidLooks := .later }
def GrantPermitsCardSaid : Prop := Claim7.holds Tryz.pinned (.plain (OpenSpec.ofChange grantPermitsSpec)) grantPermitsCard

/-- THE TIED CARD OF 'tolllaw11.GrantMore'. -/
def grantMoreCard : Claim7 := { stood := { row := grantMoreRow, standIns := [], harness := (true, "3734440b6a5a755c93124f7a7f73814e55462aad9a3bb3ffc57c231fe0acc477"), looks := true }, kinds := [], alts := [], laidByText := true, laidKinds := [.data, .pinned], laidTests := true, laidLooks := .later }
def GrantMoreCardSaid : Prop := Claim7.holds Tryz.pinned (.plain (OpenSpec.ofChange grantMoreSpec)) grantMoreCard

/-- THE TIED CARD OF 'tolllaw11.GrantNames'. -/
def grantNamesCard : Claim7 := { stood := { row := grantNamesRow, standIns := [], harness := (true, "3734440b6a5a755c93124f7a7f73814e55462aad9a3bb3ffc57c231fe0acc477"), looks := true }, kinds := [], alts := [], laidByText := true, laidKinds := [.data, .pinned], laidTests := true, laidLooks := .later }
def GrantNamesCardSaid : Prop := Claim7.holds Tryz.pinned (.plain (OpenSpec.ofChange grantNamesSpec)) grantNamesCard

/-- THE TIED CARD OF 'tolllaw11.GrantSides'. -/
def grantSidesCard : Claim7 := { stood := { row := grantSidesRow, standIns := [], harness := (true, "3734440b6a5a755c93124f7a7f73814e55462aad9a3bb3ffc57c231fe0acc477"), looks := true }, kinds := [], alts := [], laidByText := true, laidKinds := [.data, .pinned], laidTests := true, laidLooks := .later }
def GrantSidesCardSaid : Prop := Claim7.holds Tryz.pinned (.plain (OpenSpec.ofChange grantSidesSpec)) grantSidesCard

/-- THE TIED CARD OF 'tolllaw11.GrantFinds'. -/
def grantFindsCard : Claim7 := { stood := { row := grantFindsRow, standIns := [], harness := (true, "3734440b6a5a755c93124f7a7f73814e55462aad9a3bb3ffc57c231fe0acc477"), looks := true }, kinds := [], alts := [], laidByText := true, laidKinds := [.data, .pinned], laidTests := true, laidLooks := .later }
def GrantFindsCardSaid : Prop := Claim7.holds Tryz.pinned (.plain (OpenSpec.ofChange grantFindsSpec)) grantFindsCard

/-- THE TIED CARD OF 'tolllaw11.GrantBys'. -/
def grantBysCard : Claim7 := { stood := { row := grantBysRow, standIns := [], harness := (true, "3734440b6a5a755c93124f7a7f73814e55462aad9a3bb3ffc57c231fe0acc477"), looks := true }, kinds := [], alts := [], laidByText := true, laidKinds := [.data, .pinned], laidTests := true, laidLooks := .later }
def GrantBysCardSaid : Prop := Claim7.holds Tryz.pinned (.plain (OpenSpec.ofChange grantBysSpec)) grantBysCard

/-- THE SECOND FORM's CARD OF 'tolllaw11.GrantPermits'. -/
def grantPermitsUptoCard : Claim7 := { stood := { row := grantPermitsUptoRow, standIns := [], harness := (true, "3734440b6a5a755c93124f7a7f73814e55462aad9a3bb3ffc57c231fe0acc477"), looks := true }, kinds := [], alts := [], laidByText := true, laidKinds := [.data, .pinned], laidTests := true, laidLooks := .later }
def GrantPermitsUptoCardSaid : Prop := Claim7.holds Tryz.pinned (.plain (OpenSpec.upto grantPermitsSpec)) grantPermitsUptoCard

/-- THE SECOND FORM's CARD OF 'tolllaw11.GrantMore'. -/
def grantMoreUptoCard : Claim7 := { stood := { row := grantMoreUptoRow, standIns := [], harness := (true, "3734440b6a5a755c93124f7a7f73814e55462aad9a3bb3ffc57c231fe0acc477"), looks := true }, kinds := [], alts := [], laidByText := true, laidKinds := [.data, .pinned], laidTests := true, laidLooks := .later }
def GrantMoreUptoCardSaid : Prop := Claim7.holds Tryz.pinned (.plain (OpenSpec.upto grantMoreSpec)) grantMoreUptoCard

/-- THE SECOND FORM's CARD OF 'tolllaw11.GrantNames'. -/
def grantNamesUptoCard : Claim7 := { stood := { row := grantNamesUptoRow, standIns := [], harness := (true, "3734440b6a5a755c93124f7a7f73814e55462aad9a3bb3ffc57c231fe0acc477"), looks := true }, kinds := [], alts := [], laidByText := true, laidKinds := [.data, .pinned], laidTests := true, laidLooks := .later }
def GrantNamesUptoCardSaid : Prop := Claim7.holds Tryz.pinned (.plain (OpenSpec.upto grantNamesSpec)) grantNamesUptoCard

/-- THE SECOND FORM's CARD OF 'tolllaw11.GrantSides'. -/
def grantSidesUptoCard : Claim7 := { stood := { row := grantSidesUptoRow, standIns := [], harness := (true, "3734440b6a5a755c93124f7a7f73814e55462aad9a3bb3ffc57c231fe0acc477"), looks := true }, kinds := [], alts := [], laidByText := true, laidKinds := [.data, .pinned], laidTests := true, laidLooks := .later }
def GrantSidesUptoCardSaid : Prop := Claim7.holds Tryz.pinned (.plain (OpenSpec.upto grantSidesSpec)) grantSidesUptoCard

/-- THE SECOND FORM's CARD OF 'tolllaw11.GrantFinds'. -/
def grantFindsUptoCard : Claim7 := { stood := { row := grantFindsUptoRow, standIns := [], harness := (true, "3734440b6a5a755c93124f7a7f73814e55462aad9a3bb3ffc57c231fe0acc477"), looks := true }, kinds := [], alts := [], laidByText := true, laidKinds := [.data, .pinned], laidTests := true, laidLooks := .later }
def GrantFindsUptoCardSaid : Prop := Claim7.holds Tryz.pinned (.plain (OpenSpec.upto grantFindsSpec)) grantFindsUptoCard

/-- THE SECOND FORM's CARD OF 'tolllaw11.GrantBys'. -/
def grantBysUptoCard : Claim7 := { stood := { row := grantBysUptoRow, standIns := [], harness := (true, "3734440b6a5a755c93124f7a7f73814e55462aad9a3bb3ffc57c231fe0acc477"), looks := true }, kinds := [], alts := [], laidByText := true, laidKinds := [.data, .pinned], laidTests := true, laidLooks := .later }
def GrantBysUptoCardSaid : Prop := Claim7.holds Tryz.pinned (.plain (OpenSpec.upto grantBysSpec)) grantBysUptoCard
end Rows
end Go.Proofs.YthnodpdiocppgaaGreatDoor
