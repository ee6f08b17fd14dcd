/-
  A block of however many cells: its cells, written anew whole; rows of one's own that stay meanwhile.
-/
import Derived.Test.YtblmdcpcekoogaaGreatDoorCore
import Derived.Maps.AppendAt
namespace Go.Proofs.YtblmdcpcekoogaaGreatDoor
set_option maxRecDepth 20000
open Go Go.RowKit Go.Shelf

theorem cellN {w : World} {g i : Nat} {cs : Array Value} {t : Nat} {u : Value} (h : w.heap[g]? = some (.cells cs t)) (hu : cs[i]? = some u) : w.cell? ⟨g, i, none⟩ = some u := by
  simp only [World.cell?]
  rw [h]
  exact hu
theorem liveN {w : World} {g : Nat} {cs : Array Value} {t : Nat} (h : w.heap[g]? = some (.cells cs t)) (i : Nat) : w.frozen? ⟨g, i, none⟩ = false := by
  simp only [World.frozen?]
  rw [h]
  rfl
theorem lt_blk {w : World} {n : Nat} {o : Obj} (h : w.heap[n]? = some o) : n < w.heap.size := (Array.getElem?_eq_some_iff.1 h).1
/-- a block in whatever grows -/
theorem blk_below {w W : World} {g : Nat} {o : Obj} (h : w.heap[g]? = some o) (hb : Below w.heap.size w W) : W.heap[g]? = some o := (hb.block g (lt_blk h)).trans h

/-- the cells from number k on are written anew -/
def setL (W : World) (g : Nat) : Nat → List Value → World
  | _, [] => W
  | k, c :: cs => setL (W.setCell ⟨g, k, none⟩ c) g (k + 1) cs
theorem setL_far {g m : Nat} (hne : m ≠ g) : ∀ (cs : List Value) (W : World) (k : Nat), (setL W g k cs).heap[m]? = W.heap[m]?
  | [], _, _ => rfl
  | c :: cs, W, k => by
    show (setL (W.setCell ⟨g, k, none⟩ c) g (k + 1) cs).heap[m]? = _
    rw [setL_far hne cs]
    exact set_far hne
theorem setL_size {g : Nat} : ∀ (cs : List Value) (W : World) (k : Nat), (setL W g k cs).heap.size = W.heap.size
  | [], _, _ => rfl
  | c :: cs, W, k => by
    show (setL (W.setCell ⟨g, k, none⟩ c) g (k + 1) cs).heap.size = _
    rw [setL_size cs]
    simp [World.setCell]
theorem setL_below {w : World} {B g : Nat} (hn : B ≤ g) : ∀ (cs : List Value) (W : World) (k : Nat), Below B w W → Below B w (setL W g k cs)
  | [], _, _, h => h
  | c :: cs, W, k, h => setL_below hn cs (W.setCell ⟨g, k, none⟩ c) (k + 1) (h.setCell (p := ⟨g, k, none⟩) hn c)
theorem setL_at {g t : Nat} : ∀ (cs pre old : List Value) (W : World), W.heap[g]? = some (.cells (pre ++ old).toArray t) → old.length = cs.length → (setL W g pre.length cs).heap[g]? = some (.cells (pre ++ cs).toArray t)
  | [], pre, old, W, h, hl => by
    have : old = [] := List.eq_nil_of_length_eq_zero hl
    subst this
    exact h
  | c :: cs, pre, old, W, h, hl => by
    match old, hl with
    | o :: old, hl =>
      have h1 : (W.setCell ⟨g, pre.length, none⟩ c).heap[g]? = some (.cells ((pre ++ [c]) ++ old).toArray t) := by
        obtain ⟨hlt, hk⟩ := Array.getElem?_eq_some_iff.1 h
        show (W.heap.modify g _)[g]? = _
        rw [Array.getElem?_eq_getElem (by rw [Array.size_modify]; exact hlt), Array.getElem_modify_self, hk]
        simp
      have := setL_at cs (pre ++ [c]) old (W.setCell ⟨g, pre.length, none⟩ c) h1 (by simpa using hl)
      rw [List.length_append, List.length_singleton] at this
      show (setL (W.setCell ⟨g, pre.length, none⟩ c) g (pre.length + 1) cs).heap[g]? = _
      rw [this]
      simp
/-- all of a block's cells -/
theorem setL_all {W : World} {g t : Nat} {old : Array Value} (cs : List Value) (h : W.heap[g]? = some (.cells old t)) (hl : old.size = cs.length) : (setL W g 0 cs).heap[g]? = some (.cells cs.toArray t) := by
  have := setL_at (g := g) (t := t) cs [] old.toList W (by simpa using h) (by simpa using hl)
  simpa using this
/-- a row of another type stays -/
theorem row_setL {W : World} {b0 e0 s n g : Nat} {u : Value} {xs : List Value} {old : Array Value} {t k : Nat} {cs : List Value} (h : W.ownsRow b0 e0 s u n xs) (hz : W.heap[g]? = some (.cells old t)) (hne : e0 ≠ t) : (setL W g k cs).ownsRow b0 e0 s u n xs := by
  obtain ⟨h1, h2⟩ := h
  refine ⟨h1, ?_⟩
  rcases h2 with h2 | ⟨g', cap, cur, hv, hb, hh, r⟩
  · exact .inl h2
  · refine .inr ⟨g', cap, cur, hv, hb, ?_, r⟩
    rw [setL_far (fun e1 => ?_)]
    · exact hh
    · rw [e1, hz] at hh
      injection hh with hh
      injection hh with _ hh _
      exact hne hh.symm
/-- a row that was laid behind it stays -/
theorem row_setLb {W : World} {b0 e0 s n g : Nat} {u : Value} {xs : List Value} {k : Nat} {cs : List Value} (h : W.ownsRow b0 e0 s u n xs) (hg : g < b0) : (setL W g k cs).ownsRow b0 e0 s u n xs := by
  obtain ⟨h1, h2⟩ := h
  refine ⟨h1, ?_⟩
  rcases h2 with h2 | ⟨g', cap, cur, hv, hb, hh, r⟩
  · exact .inl h2
  · refine .inr ⟨g', cap, cur, hv, hb, ?_, r⟩
    rw [setL_far (by omega)]
    exact hh

end Go.Proofs.YtblmdcpcekoogaaGreatDoor
