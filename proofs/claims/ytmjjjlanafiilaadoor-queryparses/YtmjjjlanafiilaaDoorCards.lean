/-
  DERIVED. GIVEN WITH THE SEED: THE CARDS: each row of YtmjjjlanafiilaaDoorRows.lean that lists a variable, with what it lists TIED to the program's text (the seventh form; the later family's looks); each row that meets fmt, with fmt's text TOLD by the authors' own Lean function (tested against real Go, not proved from fmt's source: count such statements apart). THE CARD IS WHAT COUNTS. Prove the row's statement (the work); the ties are given (YtmjjjlanafiilaaDoorTie.lean); close each card by the builder's one call (the guide's Derived/Test/ToyasCard.lean, 'card_holds'). Laid BY PROGRAM, IN A SANDBOX (cutbox-door.mjs). By AI agents, Wed Nov 11 2026. No macro, syntax, notation, axiom, sorry.
-/
import Derived.Test.YtmjjjlanafiilaaDoorRows
import GoSem.ClaimSeven
namespace Go.Proofs.YtmjjjlanafiilaaDoor
namespace Rows

/-- THE TIED CARD OF 'tolllaw04.QueryTexts'. -/
def queryTextsCard : Claim7 := { stood := { row := queryTextsRow, standIns := [], harness := (true, "93b4dff5fe66337cf24093026b8d334f36c65f164948eee81d31747ed5feb2be"), looks := false }, kinds := [], alts := [], laidByText := true, laidKinds := [.data, .pinned], laidTests := true, laidLooks := .later }
def QueryTextsCardSaid : Prop := Claim7.holds Tryd.pinned (.plain (OpenSpec.ofChange queryTextsSpec)) queryTextsCard

/-- THE TIED CARD OF 'tolllaw04.QueryParses'. -/
def queryParsesCard : Claim7 := { stood := { row := queryParsesRow, standIns := [], harness := (true, "93b4dff5fe66337cf24093026b8d334f36c65f164948eee81d31747ed5feb2be"), looks := false }, kinds := [], alts := [], laidByText := true, laidKinds := [.data, .pinned], laidTests := true, laidLooks := .later }
def QueryParsesCardSaid : Prop := Claim7.holds Tryd.pinned (.plain (OpenSpec.ofChange queryParsesSpec)) queryParsesCard

/-- THE TIED CARD OF 'tolllaw04.QueryJoins'. -/
def queryJoinsCard : Claim7 := { stood := { row := queryJoinsRow, standIns := [], harness := (true, "93b4dff5fe66337cf24093026b8d334f36c65f164948eee81d31747ed5feb2be"), looks := false }, kinds := [], alts := [], laidByText := true, laidKinds := [.data, .pinned], laidTests := true, laidLooks := .later }
def QueryJoinsCardSaid : Prop := Claim7.holds Tryd.pinned (.plain (OpenSpec.ofChange queryJoinsSpec)) queryJoinsCard

/-- THE TIED CARD OF 'tolllaw04.QueryOctets'. -/
def queryOctetsCard : Claim7 := { stood := { row := queryOctetsRow, standIns := [], harness := (true, "93b4dff5fe66337cf24093026b8d334f36c65f164948eee81d31747ed5feb2be"), looks := false }, kinds := [], alts := [], laidByText := true, laidKinds := [.data, .pinned], laidTests := true, laidLooks := .later }
def QueryOctetsCardSaid : Prop := Claim7.holds Tryd.pinned (.plain (OpenSpec.ofChange queryOctetsSpec)) queryOctetsCard

/-- THE TIED CARD OF 'tolllaw04.QueryApart'. -/
def queryApartCard : Claim7 := { stood := { row := queryApartRow, standIns := [], harness := (true, "93b4dff5fe66337cf24093026b8d334f36c65f164948eee81d31747ed5feb2be"), looks := false }, kinds := [], alts := [], laidByText := true, laidKinds := [.data, .pinned], laidTests := true, laidLooks := .later }
def QueryApartCardSaid : Prop := Claim7.holds Tryd.pinned (.plain (OpenSpec.ofChange queryApartSpec)) queryApartCard

/-- THE TIED CARD OF 'tolllaw04.QueryTurns'. -/
def queryTurnsCard : Claim7 := { stood := { row := queryTurnsRow, standIns := [], harness := (true, "93b4dff5fe66337cf24093026b8d334f36c65f164948eee81d31747ed5feb2be"), looks := false }, kinds := [], alts := [], laidByText := true, laidKinds := [.data, .pinned], laidTests := true, laidLooks := .later }
def QueryTurnsCardSaid : Prop := Claim7.holds Tryd.pinned (.plain (OpenSpec.ofChange queryTurnsSpec)) queryTurnsCard

/-- THE TIED CARD OF 'tolllaw04.QueryDigits'. -/
def queryDigitsCard : Claim7 := { stood := { row := queryDigitsRow, standIns := [], harness := (true, "93b4dff5fe66337cf24093026b8d334f36c65f164948eee81d31747ed5feb2be"), looks := false }, kinds := [], alts := [], laidByText := true, laidKinds := [.data, .pinned], laidTests := true, laidLooks := .later }
def QueryDigitsCardSaid : Prop := Claim7.holds Tryd.pinned (.plain (OpenSpec.ofChange queryDigitsSpec)) queryDigitsCard

/-- THE SECOND FORM's CARD OF 'tolllaw04.QueryTexts'. -/
def queryTextsUptoCard : Claim7 := { stood := { row := queryTextsUptoRow, standIns := [], harness := (true, "93b4dff5fe66337cf24093026b8d334f36c65f164948eee81d31747ed5feb2be"), looks := false }, kinds := [], alts := [], laidByText := true, laidKinds := [.data, .pinned], laidTests := true, laidLooks := .later }
def QueryTextsUptoCardSaid : Prop := Claim7.holds Tryd.pinned (.plain (OpenSpec.upto queryTextsSpec)) queryTextsUptoCard

/-- THE SECOND FORM's CARD OF 'tolllaw04.QueryParses'. -/
def queryParsesUptoCard : Claim7 := { stood := { row := queryParsesUptoRow, standIns := [], harness := (true, "93b4dff5fe66337cf24093026b8d334f36c65f164948eee81d31747ed5feb2be"), looks := false }, kinds := [], alts := [], laidByText := true, laidKinds := [.data, .pinned], laidTests := true, laidLooks := .later }
def QueryParsesUptoCardSaid : Prop := Claim7.holds Tryd.pinned (.plain (OpenSpec.upto queryParsesSpec)) queryParsesUptoCard

/-- THE SECOND FORM's CARD OF 'tolllaw04.QueryJoins'. -/
def queryJoinsUptoCard : Claim7 := { stood := { row := queryJoinsUptoRow, standIns := [], harness := (true, "93b4dff5fe66337cf24093026b8d334f36c65f164948eee81d31747ed5feb2be"), looks := false }, kinds := [], alts := [], laidByText := true, laidKinds := [.data, .pinned], laidTests := true, laidLooks := .later }
def QueryJoinsUptoCardSaid : Prop := Claim7.holds Tryd.pinned (.plain (OpenSpec.upto queryJoinsSpec)) queryJoinsUptoCard

/-- THE SECOND FORM's CARD OF 'tolllaw04.QueryOctets'. -/
def queryOctetsUptoCard : Claim7 := { stood := { row := queryOctetsUptoRow, standIns := [], harness := (true, "93b4dff5fe66337cf24093026b8d334f36c65f164948eee81d31747ed5feb2be"), looks := false }, kinds := [], alts := [], laidByText := true, laidKinds := [.data, .pinned], laidTests := true, laidLooks := .later }
def QueryOctetsUptoCardSaid : Prop := Claim7.holds Tryd.pinned (.plain (OpenSpec.upto queryOctetsSpec)) queryOctetsUptoCard

/-- THE SECOND FORM's CARD OF 'tolllaw04.QueryApart'. -/
def queryApartUptoCard : Claim7 := { stood := { row := queryApartUptoRow, standIns := [], harness := (true, "93b4dff5fe66337cf24093026b8d334f36c65f164948eee81d31747ed5feb2be"), looks := false }, kinds := [], alts := [], laidByText := true, laidKinds := [.data, .pinned], laidTests := true, laidLooks := .later }
def QueryApartUptoCardSaid : Prop := Claim7.holds Tryd.pinned (.plain (OpenSpec.upto queryApartSpec)) queryApartUptoCard

/-- THE SECOND FORM's CARD OF 'tolllaw04.QueryTurns'. -/
def queryTurnsUptoCard : Claim7 := { stood := { row := queryTurnsUptoRow, standIns := [], harness := (true, "93b4dff5fe66337cf24093026b8d334f36c65f164948eee81d31747ed5feb2be"), looks := false }, kinds := [], alts := [], laidByText := true, laidKinds := [.data, .pinned], laidTests := true, laidLooks := .later }
def QueryTurnsUptoCardSaid : Prop := Claim7.holds Tryd.pinned (.plain (OpenSpec.upto queryTurnsSpec)) queryTurnsUptoCard

/-- THE SECOND FORM's CARD OF 'tolllaw04.QueryDigits'. -/
def queryDigitsUptoCard : Claim7 := { stood := { row := queryDigitsUptoRow, standIns := [], harness := (true, "93b4dff5fe66337cf24093026b8d334f36c65f164948eee81d31747ed5feb2be"), looks := false }, kinds := [], alts := [], laidByText := true, laidKinds := [.data, .pinned], laidTests := true, laidLooks := .later }
def QueryDigitsUptoCardSaid : Prop := Claim7.holds Tryd.pinned (.plain (OpenSpec.upto queryDigitsSpec)) queryDigitsUptoCard
end Rows
end Go.Proofs.YtmjjjlanafiilaaDoor
