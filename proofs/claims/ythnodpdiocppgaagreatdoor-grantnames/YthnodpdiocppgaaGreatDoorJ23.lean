/-
  Walks: the document's kind, port, near, grant.
-/
import Derived.Test.YthnodpdiocppgaaGreatDoorJ15
import Derived.Test.YthnodpdiocppgaaGreatDoorJ5
import Derived.Test.YthnodpdiocppgaaGreatDoorJ13
namespace Go.Proofs.YthnodpdiocppgaaGreatDoor
set_option maxRecDepth 20000
open Go Go.RowKit Go.Shelf
attribute [local go_sem] gb_const

/-- an object's cells, all at once -/
theorem w13 {W : World} {g t : Nat} {c0 c1 c2 c3 c4 c5 c6 c7 c8 c9 c10 c11 c12 : Value} (h : W.heap[g]? = some (.cells #[c0, c1, c2, c3, c4, c5, c6, c7, c8, c9, c10, c11, c12] t)) :
    W.cell? ⟨g, 0, none⟩ = some c0 ∧ W.cell? ⟨g, 1, none⟩ = some c1 ∧ W.cell? ⟨g, 2, none⟩ = some c2 ∧ W.cell? ⟨g, 3, none⟩ = some c3 ∧ W.cell? ⟨g, 4, none⟩ = some c4 ∧ W.cell? ⟨g, 5, none⟩ = some c5 ∧ W.cell? ⟨g, 6, none⟩ = some c6 ∧ W.cell? ⟨g, 7, none⟩ = some c7 ∧ W.cell? ⟨g, 8, none⟩ = some c8 ∧ W.cell? ⟨g, 9, none⟩ = some c9 ∧ W.cell? ⟨g, 10, none⟩ = some c10 ∧ W.cell? ⟨g, 11, none⟩ = some c11 ∧ W.cell? ⟨g, 12, none⟩ = some c12 := ⟨cellN h (i := 0) rfl, cellN h (i := 1) rfl, cellN h (i := 2) rfl, cellN h (i := 3) rfl, cellN h (i := 4) rfl, cellN h (i := 5) rfl, cellN h (i := 6) rfl, cellN h (i := 7) rfl, cellN h (i := 8) rfl, cellN h (i := 9) rfl, cellN h (i := 10) rfl, cellN h (i := 11) rfl, cellN h (i := 12) rfl⟩
theorem q13 {X : World} {g t : Nat} {c0 c1 c2 c3 c4 c5 c6 c7 c8 c9 c10 c11 c12 : Value} (h : X.heap[g]? = some (.cells #[c0, c1, c2, c3, c4, c5, c6, c7, c8, c9, c10, c11, c12] t)) :
    (∀ q : GB X, q.W.cell? ⟨g, 0, none⟩ = some c0) ∧ (∀ q : GB X, q.W.cell? ⟨g, 1, none⟩ = some c1) ∧ (∀ q : GB X, q.W.cell? ⟨g, 2, none⟩ = some c2) ∧ (∀ q : GB X, q.W.cell? ⟨g, 3, none⟩ = some c3) ∧ (∀ q : GB X, q.W.cell? ⟨g, 4, none⟩ = some c4) ∧ (∀ q : GB X, q.W.cell? ⟨g, 5, none⟩ = some c5) ∧ (∀ q : GB X, q.W.cell? ⟨g, 6, none⟩ = some c6) ∧ (∀ q : GB X, q.W.cell? ⟨g, 7, none⟩ = some c7) ∧ (∀ q : GB X, q.W.cell? ⟨g, 8, none⟩ = some c8) ∧ (∀ q : GB X, q.W.cell? ⟨g, 9, none⟩ = some c9) ∧ (∀ q : GB X, q.W.cell? ⟨g, 10, none⟩ = some c10) ∧ (∀ q : GB X, q.W.cell? ⟨g, 11, none⟩ = some c11) ∧ (∀ q : GB X, q.W.cell? ⟨g, 12, none⟩ = some c12) := ⟨fun q => cellN (blk_below h q.h) (i := 0) rfl, fun q => cellN (blk_below h q.h) (i := 1) rfl, fun q => cellN (blk_below h q.h) (i := 2) rfl, fun q => cellN (blk_below h q.h) (i := 3) rfl, fun q => cellN (blk_below h q.h) (i := 4) rfl, fun q => cellN (blk_below h q.h) (i := 5) rfl, fun q => cellN (blk_below h q.h) (i := 6) rfl, fun q => cellN (blk_below h q.h) (i := 7) rfl, fun q => cellN (blk_below h q.h) (i := 8) rfl, fun q => cellN (blk_below h q.h) (i := 9) rfl, fun q => cellN (blk_below h q.h) (i := 10) rfl, fun q => cellN (blk_below h q.h) (i := 11) rfl, fun q => cellN (blk_below h q.h) (i := 12) rfl⟩
end Go.Proofs.YthnodpdiocppgaaGreatDoor
