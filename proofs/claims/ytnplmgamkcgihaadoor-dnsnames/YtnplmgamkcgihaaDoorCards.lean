/-
  DERIVED. GIVEN WITH THE SEED: THE CARDS: each row of YtnplmgamkcgihaaDoorRows.lean that lists a variable, with what it lists TIED to the program's text (the seventh form; the later family's looks); each row that meets fmt, with fmt's text TOLD by the authors' own Lean function (tested against real Go, not proved from fmt's source: count such statements apart). THE CARD IS WHAT COUNTS. Prove the row's statement (the work); the ties are given (YtnplmgamkcgihaaDoorTie.lean); close each card by the builder's one call (the guide's Derived/Test/ToyasCard.lean, 'card_holds'). Laid BY PROGRAM, IN A SANDBOX (cutbox-door.mjs). By AI agents, Wed Nov 11 2026. No macro, syntax, notation, axiom, sorry.
-/
import Derived.Test.YtnplmgamkcgihaaDoorRows
import GoSem.ClaimSeven
namespace Go.Proofs.YtnplmgamkcgihaaDoor
namespace Rows

/-- THE TIED CARD OF 'tolllaw01.DnsNames'. -/
def dnsNamesCard : Claim7 := { stood := { row := dnsNamesRow, standIns := [], harness := (true, "26f60c0fc44e1753ebf1cbbee9ef2334a62532253214818e5ea03da07aafe54c"), looks := false }, kinds := [], alts := [], laidByText := true, laidKinds := [.data, .pinned], laidTests := true, laidLooks := .later }
def DnsNamesCardSaid : Prop := Claim7.holds Tryd.pinned (.plain (OpenSpec.ofChange dnsNamesSpec)) dnsNamesCard

/-- THE TIED CARD OF 'tolllaw01.DnsKeys'. -/
def dnsKeysCard : Claim7 := { stood := { row := dnsKeysRow, standIns := [], harness := (true, "26f60c0fc44e1753ebf1cbbee9ef2334a62532253214818e5ea03da07aafe54c"), looks := false }, kinds := [], alts := [], laidByText := true, laidKinds := [.data, .pinned], laidTests := true, laidLooks := .later }
def DnsKeysCardSaid : Prop := Claim7.holds Tryd.pinned (.plain (OpenSpec.ofChange dnsKeysSpec)) dnsKeysCard

/-- THE TIED CARD OF 'tolllaw01.DnsBacks'. -/
def dnsBacksCard : Claim7 := { stood := { row := dnsBacksRow, standIns := [], harness := (true, "26f60c0fc44e1753ebf1cbbee9ef2334a62532253214818e5ea03da07aafe54c"), looks := false }, kinds := [], alts := [], laidByText := true, laidKinds := [.data, .pinned], laidTests := true, laidLooks := .later }
def DnsBacksCardSaid : Prop := Claim7.holds Tryd.pinned (.plain (OpenSpec.ofChange dnsBacksSpec)) dnsBacksCard

/-- THE TIED CARD OF 'tolllaw01.DnsUnders'. -/
def dnsUndersCard : Claim7 := { stood := { row := dnsUndersRow, standIns := [], harness := (true, "26f60c0fc44e1753ebf1cbbee9ef2334a62532253214818e5ea03da07aafe54c"), looks := false }, kinds := [], alts := [], laidByText := true, laidKinds := [.data, .pinned], laidTests := true, laidLooks := .later }
def DnsUndersCardSaid : Prop := Claim7.holds Tryd.pinned (.plain (OpenSpec.ofChange dnsUndersSpec)) dnsUndersCard

/-- THE TIED CARD OF 'tolllaw01.DnsGoes'. -/
def dnsGoesCard : Claim7 := { stood := { row := dnsGoesRow, standIns := [], harness := (true, "26f60c0fc44e1753ebf1cbbee9ef2334a62532253214818e5ea03da07aafe54c"), looks := false }, kinds := [], alts := [], laidByText := true, laidKinds := [.data, .pinned], laidTests := true, laidLooks := .later }
def DnsGoesCardSaid : Prop := Claim7.holds Tryd.pinned (.plain (OpenSpec.ofChange dnsGoesSpec)) dnsGoesCard

/-- THE TIED CARD OF 'tolllaw01.DnsFolds'. -/
def dnsFoldsCard : Claim7 := { stood := { row := dnsFoldsRow, standIns := [], harness := (true, "26f60c0fc44e1753ebf1cbbee9ef2334a62532253214818e5ea03da07aafe54c"), looks := false }, kinds := [], alts := [], laidByText := true, laidKinds := [.data, .pinned], laidTests := true, laidLooks := .later }
def DnsFoldsCardSaid : Prop := Claim7.holds Tryd.pinned (.plain (OpenSpec.ofChange dnsFoldsSpec)) dnsFoldsCard

/-- THE TIED CARD OF 'tolllaw01.DnsLabels'. -/
def dnsLabelsCard : Claim7 := { stood := { row := dnsLabelsRow, standIns := [], harness := (true, "26f60c0fc44e1753ebf1cbbee9ef2334a62532253214818e5ea03da07aafe54c"), looks := false }, kinds := [], alts := [], laidByText := true, laidKinds := [.data, .pinned], laidTests := true, laidLooks := .later }
def DnsLabelsCardSaid : Prop := Claim7.holds Tryd.pinned (.plain (OpenSpec.ofChange dnsLabelsSpec)) dnsLabelsCard

/-- THE SECOND FORM's CARD OF 'tolllaw01.DnsNames'. -/
def dnsNamesUptoCard : Claim7 := { stood := { row := dnsNamesUptoRow, standIns := [], harness := (true, "26f60c0fc44e1753ebf1cbbee9ef2334a62532253214818e5ea03da07aafe54c"), looks := false }, kinds := [], alts := [], laidByText := true, laidKinds := [.data, .pinned], laidTests := true, laidLooks := .later }
def DnsNamesUptoCardSaid : Prop := Claim7.holds Tryd.pinned (.plain (OpenSpec.upto dnsNamesSpec)) dnsNamesUptoCard

/-- THE SECOND FORM's CARD OF 'tolllaw01.DnsKeys'. -/
def dnsKeysUptoCard : Claim7 := { stood := { row := dnsKeysUptoRow, standIns := [], harness := (true, "26f60c0fc44e1753ebf1cbbee9ef2334a62532253214818e5ea03da07aafe54c"), looks := false }, kinds := [], alts := [], laidByText := true, laidKinds := [.data, .pinned], laidTests := true, laidLooks := .later }
def DnsKeysUptoCardSaid : Prop := Claim7.holds Tryd.pinned (.plain (OpenSpec.upto dnsKeysSpec)) dnsKeysUptoCard

/-- THE SECOND FORM's CARD OF 'tolllaw01.DnsBacks'. -/
def dnsBacksUptoCard : Claim7 := { stood := { row := dnsBacksUptoRow, standIns := [], harness := (true, "26f60c0fc44e1753ebf1cbbee9ef2334a62532253214818e5ea03da07aafe54c"), looks := false }, kinds := [], alts := [], laidByText := true, laidKinds := [.data, .pinned], laidTests := true, laidLooks := .later }
def DnsBacksUptoCardSaid : Prop := Claim7.holds Tryd.pinned (.plain (OpenSpec.upto dnsBacksSpec)) dnsBacksUptoCard

/-- THE SECOND FORM's CARD OF 'tolllaw01.DnsUnders'. -/
def dnsUndersUptoCard : Claim7 := { stood := { row := dnsUndersUptoRow, standIns := [], harness := (true, "26f60c0fc44e1753ebf1cbbee9ef2334a62532253214818e5ea03da07aafe54c"), looks := false }, kinds := [], alts := [], laidByText := true, laidKinds := [.data, .pinned], laidTests := true, laidLooks := .later }
def DnsUndersUptoCardSaid : Prop := Claim7.holds Tryd.pinned (.plain (OpenSpec.upto dnsUndersSpec)) dnsUndersUptoCard

/-- THE SECOND FORM's CARD OF 'tolllaw01.DnsGoes'. -/
def dnsGoesUptoCard : Claim7 := { stood := { row := dnsGoesUptoRow, standIns := [], harness := (true, "26f60c0fc44e1753ebf1cbbee9ef2334a62532253214818e5ea03da07aafe54c"), looks := false }, kinds := [], alts := [], laidByText := true, laidKinds := [.data, .pinned], laidTests := true, laidLooks := .later }
def DnsGoesUptoCardSaid : Prop := Claim7.holds Tryd.pinned (.plain (OpenSpec.upto dnsGoesSpec)) dnsGoesUptoCard

/-- THE SECOND FORM's CARD OF 'tolllaw01.DnsFolds'. -/
def dnsFoldsUptoCard : Claim7 := { stood := { row := dnsFoldsUptoRow, standIns := [], harness := (true, "26f60c0fc44e1753ebf1cbbee9ef2334a62532253214818e5ea03da07aafe54c"), looks := false }, kinds := [], alts := [], laidByText := true, laidKinds := [.data, .pinned], laidTests := true, laidLooks := .later }
def DnsFoldsUptoCardSaid : Prop := Claim7.holds Tryd.pinned (.plain (OpenSpec.upto dnsFoldsSpec)) dnsFoldsUptoCard

/-- THE SECOND FORM's CARD OF 'tolllaw01.DnsLabels'. -/
def dnsLabelsUptoCard : Claim7 := { stood := { row := dnsLabelsUptoRow, standIns := [], harness := (true, "26f60c0fc44e1753ebf1cbbee9ef2334a62532253214818e5ea03da07aafe54c"), looks := false }, kinds := [], alts := [], laidByText := true, laidKinds := [.data, .pinned], laidTests := true, laidLooks := .later }
def DnsLabelsUptoCardSaid : Prop := Claim7.holds Tryd.pinned (.plain (OpenSpec.upto dnsLabelsSpec)) dnsLabelsUptoCard
end Rows
end Go.Proofs.YtnplmgamkcgihaaDoor
