/-
  A list of objects that lies in rows of its own; one of a list of objects.
-/
import Derived.Test.YthnodpdiocppgaaGreatDoorObFewC
import Derived.Test.YthnodpdiocppgaaGreatDoorJ17
namespace Go.Proofs.YthnodpdiocppgaaGreatDoor
set_option maxRecDepth 20000
open Go Go.RowKit Go.Shelf

theorem EO_at {w : World} {g o : Nat} {x : OV} (h : EO.At w g o x) : w.cell? ⟨g, o, none⟩ = some (.int .i64 x.ref.kind) ∧ w.cell? ⟨g, o + 1, none⟩ = some (.string x.ref.space) ∧ w.cell? ⟨g, o + 2, none⟩ = some (.string x.ref.name) ∧ w.cell? ⟨g, o + 3, none⟩ = some (.bool x.good) ∧ w.cell? ⟨g, o + 4, none⟩ = some (x.vl) ∧ w.cell? ⟨g, o + 5, none⟩ = some (x.vp) ∧ w.cell? ⟨g, o + 6, none⟩ = some (.string x.cls) ∧ w.cell? ⟨g, o + 7, none⟩ = some (x.vi) ∧ w.cell? ⟨g, o + 8, none⟩ = some (x.vq) ∧ w.cell? ⟨g, o + 9, none⟩ = some (x.vh) ∧ w.cell? ⟨g, o + 10, none⟩ = some (x.vr) ∧ w.cell? ⟨g, o + 11, none⟩ = some (x.vf) ∧ w.cell? ⟨g, o + 12, none⟩ = some (x.vo) :=
  ⟨h 0 _ rfl, h 1 _ rfl, h 2 _ rfl, h 3 _ rfl, h 4 _ rfl, h 5 _ rfl, h 6 _ rfl, h 7 _ rfl, h 8 _ rfl, h 9 _ rfl, h 10 _ rfl, h 11 _ rfl, h 12 _ rfl⟩
theorem oneO {w W : World} {a : Option Addr} {n cap : Nat} {L : List OV} (h : Sl EO w (.slice a n cap) L) (hB : Below w.heap.size w W) {k : Nat} (hk : k < L.length) :
    L[k].at_ W ∧ ∃ g off, a = some ⟨g, off, none⟩ ∧ g < w.heap.size ∧ W.cell? ⟨g, off + k * 13, none⟩ = some (.int .i64 L[k].ref.kind) ∧ W.cell? ⟨g, off + k * 13 + 1, none⟩ = some (.string L[k].ref.space) ∧ W.cell? ⟨g, off + k * 13 + 2, none⟩ = some (.string L[k].ref.name) ∧ W.cell? ⟨g, off + k * 13 + 3, none⟩ = some (.bool L[k].good) ∧ W.cell? ⟨g, off + k * 13 + 4, none⟩ = some (L[k].vl) ∧ W.cell? ⟨g, off + k * 13 + 5, none⟩ = some (L[k].vp) ∧ W.cell? ⟨g, off + k * 13 + 6, none⟩ = some (.string L[k].cls) ∧ W.cell? ⟨g, off + k * 13 + 7, none⟩ = some (L[k].vi) ∧ W.cell? ⟨g, off + k * 13 + 8, none⟩ = some (L[k].vq) ∧ W.cell? ⟨g, off + k * 13 + 9, none⟩ = some (L[k].vh) ∧ W.cell? ⟨g, off + k * 13 + 10, none⟩ = some (L[k].vr) ∧ W.cell? ⟨g, off + k * 13 + 11, none⟩ = some (L[k].vf) ∧ W.cell? ⟨g, off + k * 13 + 12, none⟩ = some (L[k].vo) := by
  obtain ⟨a', cap', hv, _, _, hc⟩ := h
  injection hv with e1 e2 e3
  subst e1
  obtain ⟨hA, g, off, ha, hg, c⟩ := hc k hk
  exact ⟨EO.below _ _ _ hA hB, g, off, ha, hg, EO_at (c.below hg hB)⟩
/-- objects in a row of its own, each with lists of its own -/
structure OwL (base : Nat) (v : Value) (L : List OV) (w : World) : Prop where
  row : w.ownsRow base 36 EO.n v L.length (EO.flat L)
  own : ∀ o ∈ L, o.own w
theorem OwL.nil (base : Nat) (w : World) : OwL base (.slice none 0 0) [] w := ⟨⟨rfl, .inl ⟨rfl, rfl⟩⟩, fun _ h => absurd h (by simp)⟩
theorem OwL.below {base : Nat} {v : Value} {L : List OV} {w w' : World} (h : OwL base v L w) (hb : Below w.heap.size w w') : OwL base v L w' := ⟨ownsRow_below h.row hb, fun o ho => (h.own o ho).below hb⟩
end Go.Proofs.YthnodpdiocppgaaGreatDoor
namespace Go.Proofs.YthnodpdiocppgaaGreatDoor
set_option maxRecDepth 20000
open Go Go.RowKit Go.Shelf Go.ChangeShapes Go.WideShapes Go.Deep

end Go.Proofs.YthnodpdiocppgaaGreatDoor
