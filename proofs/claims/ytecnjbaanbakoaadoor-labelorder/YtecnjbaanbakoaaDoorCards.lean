/-
  DERIVED. GIVEN WITH THE SEED: THE CARDS: each row of YtecnjbaanbakoaaDoorRows.lean that lists a variable, with what it lists TIED to the program's text (the seventh form; the later family's looks); each row that meets fmt, with fmt's text TOLD by the authors' own Lean function (tested against real Go, not proved from fmt's source: count such statements apart). THE CARD IS WHAT COUNTS. Prove the row's statement (the work); the ties are given (YtecnjbaanbakoaaDoorTie.lean); close each card by the builder's one call (the guide's Derived/Test/ToyasCard.lean, 'card_holds'). Laid BY PROGRAM, IN A SANDBOX (cutbox-door.mjs). By AI agents, Wed Nov 11 2026. No macro, syntax, notation, axiom, sorry.
-/
import Derived.Test.YtecnjbaanbakoaaDoorRows
import GoSem.ClaimSeven
namespace Go.Proofs.YtecnjbaanbakoaaDoor
namespace Rows

/-- THE TIED CARD OF 'tolllaw08.LabelMeets'. -/
def labelMeetsCard : Claim7 := { stood := { row := labelMeetsRow, standIns := [], harness := (true, "a286ee0e950119afda276e3b397b60e4d73226adb9857d2fe981233dc528792f"), looks := true }, kinds := [], alts := [], laidByText := true, laidKinds := [.data, .pinned], laidTests := true, laidLooks := .later }
def LabelMeetsCardSaid : Prop := Claim7.holds Tryd.pinned (.plain (OpenSpec.ofChange labelMeetsSpec)) labelMeetsCard

/-- THE TIED CARD OF 'tolllaw08.LabelNots'. -/
def labelNotsCard : Claim7 := { stood := { row := labelNotsRow, standIns := [], harness := (true, "a286ee0e950119afda276e3b397b60e4d73226adb9857d2fe981233dc528792f"), looks := true }, kinds := [], alts := [], laidByText := true, laidKinds := [.data, .pinned], laidTests := true, laidLooks := .later }
def LabelNotsCardSaid : Prop := Claim7.holds Tryd.pinned (.plain (OpenSpec.ofChange labelNotsSpec)) labelNotsCard

/-- THE TIED CARD OF 'tolllaw08.LabelMore'. -/
def labelMoreCard : Claim7 := { stood := { row := labelMoreRow, standIns := [], harness := (true, "a286ee0e950119afda276e3b397b60e4d73226adb9857d2fe981233dc528792f"), looks := true }, kinds := [], alts := [], laidByText := true, laidKinds := [.data, .pinned], laidTests := true, laidLooks := .later }
def LabelMoreCardSaid : Prop := Claim7.holds Tryd.pinned (.plain (OpenSpec.ofChange labelMoreSpec)) labelMoreCard

/-- THE TIED CARD OF 'tolllaw08.LabelOne'. -/
def labelOneCard : Claim7 := { stood := { row := labelOneRow, standIns := [], harness := (true, "a286ee0e950119afda276e3b397b60e4d73226adb9857d2fe981233dc528792f"), looks := true }, kinds := [], alts := [], laidByText := true, laidKinds := [.data, .pinned], laidTests := true, laidLooks := .later }
def LabelOneCardSaid : Prop := Claim7.holds Tryd.pinned (.plain (OpenSpec.ofChange labelOneSpec)) labelOneCard

/-- THE TIED CARD OF 'tolllaw08.LabelKinds'. -/
def labelKindsCard : Claim7 := { stood := { row := labelKindsRow, standIns := [], harness := (true, "a286ee0e950119afda276e3b397b60e4d73226adb9857d2fe981233dc528792f"), looks := true }, kinds := [], alts := [], laidByText := true, laidKinds := [.data, .pinned], laidTests := true, laidLooks := .later }
def LabelKindsCardSaid : Prop := Claim7.holds Tryd.pinned (.plain (OpenSpec.ofChange labelKindsSpec)) labelKindsCard

/-- THE TIED CARD OF 'tolllaw08.LabelOrder'. -/
def labelOrderCard : Claim7 := { stood := { row := labelOrderRow, standIns := [], harness := (true, "a286ee0e950119afda276e3b397b60e4d73226adb9857d2fe981233dc528792f"), looks := true }, kinds := [], alts := [], laidByText := true, laidKinds := [.data, .pinned], laidTests := true, laidLooks := .later }
def LabelOrderCardSaid : Prop := Claim7.holds Tryd.pinned (.plain (OpenSpec.ofChange labelOrderSpec)) labelOrderCard

/-- THE TIED CARD OF 'tolllaw08.LabelNone'. -/
def labelNoneCard : Claim7 := { stood := { row := labelNoneRow, standIns := [], harness := (true, "a286ee0e950119afda276e3b397b60e4d73226adb9857d2fe981233dc528792f"), looks := true }, kinds := [], alts := [], laidByText := true, laidKinds := [.data, .pinned], laidTests := true, laidLooks := .later }
def LabelNoneCardSaid : Prop := Claim7.holds Tryd.pinned (.plain (OpenSpec.ofChange labelNoneSpec)) labelNoneCard

/-- THE SECOND FORM's CARD OF 'tolllaw08.LabelMeets'. -/
def labelMeetsUptoCard : Claim7 := { stood := { row := labelMeetsUptoRow, standIns := [], harness := (true, "a286ee0e950119afda276e3b397b60e4d73226adb9857d2fe981233dc528792f"), looks := true }, kinds := [], alts := [], laidByText := true, laidKinds := [.data, .pinned], laidTests := true, laidLooks := .later }
def LabelMeetsUptoCardSaid : Prop := Claim7.holds Tryd.pinned (.plain (OpenSpec.upto labelMeetsSpec)) labelMeetsUptoCard

/-- THE SECOND FORM's CARD OF 'tolllaw08.LabelNots'. -/
def labelNotsUptoCard : Claim7 := { stood := { row := labelNotsUptoRow, standIns := [], harness := (true, "a286ee0e950119afda276e3b397b60e4d73226adb9857d2fe981233dc528792f"), looks := true }, kinds := [], alts := [], laidByText := true, laidKinds := [.data, .pinned], laidTests := true, laidLooks := .later }
def LabelNotsUptoCardSaid : Prop := Claim7.holds Tryd.pinned (.plain (OpenSpec.upto labelNotsSpec)) labelNotsUptoCard

/-- THE SECOND FORM's CARD OF 'tolllaw08.LabelMore'. -/
def labelMoreUptoCard : Claim7 := { stood := { row := labelMoreUptoRow, standIns := [], harness := (true, "a286ee0e950119afda276e3b397b60e4d73226adb9857d2fe981233dc528792f"), looks := true }, kinds := [], alts := [], laidByText := true, laidKinds := [.data, .pinned], laidTests := true, laidLooks := .later }
def LabelMoreUptoCardSaid : Prop := Claim7.holds Tryd.pinned (.plain (OpenSpec.upto labelMoreSpec)) labelMoreUptoCard

/-- THE SECOND FORM's CARD OF 'tolllaw08.LabelOne'. -/
def labelOneUptoCard : Claim7 := { stood := { row := labelOneUptoRow, standIns := [], harness := (true, "a286ee0e950119afda276e3b397b60e4d73226adb9857d2fe981233dc528792f"), looks := true }, kinds := [], alts := [], laidByText := true, laidKinds := [.data, .pinned], laidTests := true, laidLooks := .later }
def LabelOneUptoCardSaid : Prop := Claim7.holds Tryd.pinned (.plain (OpenSpec.upto labelOneSpec)) labelOneUptoCard

/-- THE SECOND FORM's CARD OF 'tolllaw08.LabelKinds'. -/
def labelKindsUptoCard : Claim7 := { stood := { row := labelKindsUptoRow, standIns := [], harness := (true, "a286ee0e950119afda276e3b397b60e4d73226adb9857d2fe981233dc528792f"), looks := true }, kinds := [], alts := [], laidByText := true, laidKinds := [.data, .pinned], laidTests := true, laidLooks := .later }
def LabelKindsUptoCardSaid : Prop := Claim7.holds Tryd.pinned (.plain (OpenSpec.upto labelKindsSpec)) labelKindsUptoCard

/-- THE SECOND FORM's CARD OF 'tolllaw08.LabelOrder'. -/
def labelOrderUptoCard : Claim7 := { stood := { row := labelOrderUptoRow, standIns := [], harness := (true, "a286ee0e950119afda276e3b397b60e4d73226adb9857d2fe981233dc528792f"), looks := true }, kinds := [], alts := [], laidByText := true, laidKinds := [.data, .pinned], laidTests := true, laidLooks := .later }
def LabelOrderUptoCardSaid : Prop := Claim7.holds Tryd.pinned (.plain (OpenSpec.upto labelOrderSpec)) labelOrderUptoCard

/-- THE SECOND FORM's CARD OF 'tolllaw08.LabelNone'. -/
def labelNoneUptoCard : Claim7 := { stood := { row := labelNoneUptoRow, standIns := [], harness := (true, "a286ee0e950119afda276e3b397b60e4d73226adb9857d2fe981233dc528792f"), looks := true }, kinds := [], alts := [], laidByText := true, laidKinds := [.data, .pinned], laidTests := true, laidLooks := .later }
def LabelNoneUptoCardSaid : Prop := Claim7.holds Tryd.pinned (.plain (OpenSpec.upto labelNoneSpec)) labelNoneUptoCard
end Rows
end Go.Proofs.YtecnjbaanbakoaaDoor
