/-
  The table that strconv.Itoa reads, of the row's condition.
-/
import Derived.Test.YtblmdcpcekoogaaGreatDoorFiItoa
import Derived.Lib.LaidTab
namespace Go.Proofs.YtblmdcpcekoogaaGreatDoor
set_option maxRecDepth 20000
open Go Go.RowKit Go.Shelf Fi

/-- from the row's condition on its listed tables: this one stands third -/
theorem tab10_laid {W : World} {n1 n2 : String} {d1 d2 : DataW Unit} {rest : List (String × DataW Unit)} (h : laidMet Tryz.prog ((n1, d1) :: (n2, d2) :: ("internal/strconv.uint64pow10", Lib.tabData .u64 Lib.pow10Tab) :: rest) W) : Tab10 W := by
  obtain ⟨ps, ⟨_, _, _, _, _, _, _, _, _, _, ⟨_, _, _, _, _, _, _, _, _, _, ⟨g, t, cs, fuel, p, q, hg, ht, hvar, hd, _, _⟩, _⟩, _⟩, _⟩ := h
  have ht0 : (Tryz.prog.globalNamed "internal/strconv.uint64pow10").bind (fun g => (Tryz.prog.globals[g]?).map (·.type)) = some 241 := by kernel_rfl
  rw [hg] at ht0
  obtain rfl : t = 241 := Option.some.inj (ht.symm.trans ht0)
  unfold Tab10 Lib.TabIs
  rw [hvar, ← Lib.cells_of_tab Tryz.underlying241 Tryz.underlying198 (by kernel_rfl) (by kernel_rfl) hd]

end Go.Proofs.YtblmdcpcekoogaaGreatDoor
