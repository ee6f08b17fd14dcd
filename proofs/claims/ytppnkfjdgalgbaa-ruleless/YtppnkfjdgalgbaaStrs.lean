/-
  A slice of texts; the document's Same (of two such).
-/
import Derived.Test.YtppnkfjdgalgbaaCore
namespace Go.Proofs.Ytppnkfjdgalgbaa
open Go Go.RowKit Go.Shelf

/-- a slice of texts, in memory of its own or nil -/
def Strs (w : World) (v : Value) (ss : List ByteArray) : Prop :=
  ∃ a cap, v = .slice a ss.length cap ∧ ∀ i (h : i < ss.length), ∃ g, a = some ⟨g, 0, none⟩ ∧ g < w.heap.size ∧ w.cell? ⟨g, i, none⟩ = some (.string ss[i])

theorem Strs.below {w w' : World} {v : Value} {ss : List ByteArray} (h : Strs w v ss) (hb : Below w.heap.size w w') : Strs w' v ss := by
  obtain ⟨a, cap, hv, hc⟩ := h
  refine ⟨a, cap, hv, fun i hi => ?_⟩
  obtain ⟨g, hg, hlt, hcell⟩ := hc i hi
  exact ⟨g, hg, Nat.lt_of_lt_of_le hlt hb.size, (hb.cell (p := ⟨g, i, none⟩) hlt).trans hcell⟩

theorem Strs.of_row {w : World} {base : Nat} {v : Value} {ss : List ByteArray} {n : Nat} (hn : n = ss.length) (h : w.ownsRow base 9 1 v n (ss.map Value.string)) : Strs w v ss := by
  subst hn
  obtain ⟨_, h2⟩ := h
  rcases h2 with ⟨rfl, h0⟩ | ⟨g, cap, cur, rfl, hg, hgb, hle, _, hsz, hcur⟩
  · exact ⟨none, 0, by rw [h0], fun i hi => by omega⟩
  · refine ⟨some ⟨g, 0, none⟩, cap, rfl, fun i hi => ⟨g, rfl, (Array.getElem?_eq_some_iff.1 hgb).1, ?_⟩⟩
    have hi' : i < cur.size := by omega
    have : cur[i]? = some (.string ss[i]) := by
      have e := congrArg (fun l => l[i]?) hcur
      simp only [Nat.mul_one] at e
      rw [List.getElem?_take_of_lt hi] at e
      rw [List.getElem?_map, List.getElem?_eq_getElem hi] at e
      simpa using e
    simp [World.cell?, hgb, this]

theorem Strs.nil (w : World) : Strs w (.slice none 0 0) [] := ⟨none, 0, rfl, fun i hi => absurd hi (by simp)⟩

end Go.Proofs.Ytppnkfjdgalgbaa
