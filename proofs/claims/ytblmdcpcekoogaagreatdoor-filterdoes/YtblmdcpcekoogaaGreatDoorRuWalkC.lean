/-
  Walks: rule's rankOf, a rank's ahead.
-/
import Derived.Test.YtblmdcpcekoogaaGreatDoorRuMatch
import Derived.Test.YtblmdcpcekoogaaGreatDoorGrow
namespace Go.Proofs.YtblmdcpcekoogaaGreatDoor
set_option maxRecDepth 20000
open Go Go.RowKit Go.Shelf

attribute [local go_sem] gb_const

/-- a match, as a value: vh and vq are its lists -/
abbrev mV (m : MB) (vh vq : Value) : Value := .agg #[.int .i64 m.kind, .string m.val, .string m.meth, vh, vq]
/-- five numbers, as a value -/
abbrev fiveV (x : Ru.Five) : Value := .agg #[.int .i64 x.1, .int .i64 x.2.1, .int .i64 x.2.2.1, .int .i64 x.2.2.2.1, .int .i64 x.2.2.2.2]
def fiveAt (x : Ru.Five) : Nat → Int
  | 0 => x.1
  | 1 => x.2.1
  | 2 => x.2.2.1
  | 3 => x.2.2.2.1
  | _ => x.2.2.2.2
theorem lt5_at {x y : Ru.Five} {k : Nat} (hk : k < 5) (h : ∀ j, j < k → fiveAt x j = fiveAt y j) (hn : fiveAt x k ≠ fiveAt y k) : Ru.lt5 x y = decide (fiveAt x k < fiveAt y k) := by
  unfold Ru.lt5
  rw [decide_eq_decide]
  have h0 := h 0
  have h1 := h 1
  have h2 := h 2
  have h3 := h 3
  simp only [fiveAt] at h0 h1 h2 h3
  rcases (by omega : k = 0 ∨ k = 1 ∨ k = 2 ∨ k = 3 ∨ k = 4) with rfl | rfl | rfl | rfl | rfl <;> simp only [fiveAt] at hn ⊢ <;> omega
theorem lt5_same {x y : Ru.Five} (h : ∀ j, j < 5 → fiveAt x j = fiveAt y j) : Ru.lt5 x y = false := by
  unfold Ru.lt5
  rw [decide_eq_false_iff_not]
  have h0 := h 0
  have h1 := h 1
  have h2 := h 2
  have h3 := h 3
  have h4 := h 4
  simp only [fiveAt] at h0 h1 h2 h3 h4
  omega

theorem box5 {w W : World} {a b c d e : Value} {t : Nat} (h : Below (w.alloc (.cells #[a, b, c, d, e] t)).heap.size (w.alloc (.cells #[a, b, c, d, e] t)) W) :
    W.cell? ⟨w.heap.size, 0, none⟩ = some a ∧ W.cell? ⟨w.heap.size, 1, none⟩ = some b ∧ W.cell? ⟨w.heap.size, 2, none⟩ = some c ∧ W.cell? ⟨w.heap.size, 3, none⟩ = some d ∧ W.cell? ⟨w.heap.size, 4, none⟩ = some e := by
  simp only [World.cell?]
  rw [box_block h]
  exact ⟨rfl, rfl, rfl, rfl, rfl⟩
theorem box55 {w W : World} {a b c d e a' b' c' d' e' : Value} {t t' : Nat} (h : Below ((w.alloc (.cells #[a, b, c, d, e] t)).alloc (.cells #[a', b', c', d', e'] t')).heap.size ((w.alloc (.cells #[a, b, c, d, e] t)).alloc (.cells #[a', b', c', d', e'] t')) W) :
    (W.cell? ⟨w.heap.size, 0, none⟩ = some a ∧ W.cell? ⟨w.heap.size, 1, none⟩ = some b ∧ W.cell? ⟨w.heap.size, 2, none⟩ = some c ∧ W.cell? ⟨w.heap.size, 3, none⟩ = some d ∧ W.cell? ⟨w.heap.size, 4, none⟩ = some e) ∧
    (W.cell? ⟨w.heap.size + 1, 0, none⟩ = some a' ∧ W.cell? ⟨w.heap.size + 1, 1, none⟩ = some b' ∧ W.cell? ⟨w.heap.size + 1, 2, none⟩ = some c' ∧ W.cell? ⟨w.heap.size + 1, 3, none⟩ = some d' ∧ W.cell? ⟨w.heap.size + 1, 4, none⟩ = some e') := by
  refine ⟨box5 (below_box h), ?_⟩
  have := box5 h
  simpa only [World.size_alloc] using this
theorem below_2 {w w1 : World} {o o2 : Obj} (h : Below ((w.alloc o).alloc o2).heap.size ((w.alloc o).alloc o2) w1) : Below w.heap.size w w1 :=
  (((Below.refl _ _).alloc (Nat.le_refl _) _).alloc (by simp) _).trans (h.mono (by simp; omega))

theorem neg_in {n : Nat} (h : n ≤ 1000000000) : wrap64 (-(n : Int)) = -(n : Int) := IntWalk.wrap64_in _ (by omega)
theorem empty_size {t : ByteArray} : t.toList.isEmpty = (t.size == 0) := by
  rw [Lib.toList_data]
  have : t.size = t.data.toList.length := rfl
  rw [this]
  cases t.data.toList <;> rfl

/-! ### a block of five cells -/
theorem cell5 {w : World} {n : Nat} {a b c d e : Value} {t : Nat} (h : w.heap[n]? = some (.cells #[a, b, c, d, e] t)) :
    w.cell? ⟨n, 0, none⟩ = some a ∧ w.cell? ⟨n, 1, none⟩ = some b ∧ w.cell? ⟨n, 2, none⟩ = some c ∧ w.cell? ⟨n, 3, none⟩ = some d ∧ w.cell? ⟨n, 4, none⟩ = some e := by
  simp only [World.cell?]
  rw [h]
  exact ⟨rfl, rfl, rfl, rfl, rfl⟩
theorem live5 {w : World} {n : Nat} {a b c d e : Value} {t : Nat} (h : w.heap[n]? = some (.cells #[a, b, c, d, e] t)) (i : Nat) : w.frozen? ⟨n, i, none⟩ = false := by
  simp only [World.frozen?]
  rw [h]
  rfl
theorem blk_lt5 {w : World} {n : Nat} {o : Obj} (h : w.heap[n]? = some o) : n < w.heap.size := (Array.getElem?_eq_some_iff.1 h).1
/-- it is written anew -/
def set5 (W : World) (n : Nat) (a b c d e : Value) : World := ((((W.setCell ⟨n, 0, none⟩ a).setCell ⟨n, 1, none⟩ b).setCell ⟨n, 2, none⟩ c).setCell ⟨n, 3, none⟩ d).setCell ⟨n, 4, none⟩ e
theorem set5_at {W : World} {n : Nat} {a b c d e a' b' c' d' e' : Value} {t : Nat} (h : W.heap[n]? = some (.cells #[a, b, c, d, e] t)) : (set5 W n a' b' c' d' e').heap[n]? = some (.cells #[a', b', c', d', e'] t) := by
  simp [set5, World.setCell, Array.getElem?_modify, h]
theorem set5_far {W : World} {n m : Nat} {a b c d e : Value} (h : m ≠ n) : (set5 W n a b c d e).heap[m]? = W.heap[m]? := by
  unfold set5
  rw [set_far h, set_far h, set_far h, set_far h, set_far h]
theorem set5_below {w W : World} {B n : Nat} {a b c d e : Value} (h : Below B w W) (hn : B ≤ n) : Below B w (set5 W n a b c d e) :=
  ((((h.setCell (p := ⟨n, 0, none⟩) hn _).setCell (p := ⟨n, 1, none⟩) hn _).setCell (p := ⟨n, 2, none⟩) hn _).setCell (p := ⟨n, 3, none⟩) hn _).setCell (p := ⟨n, 4, none⟩) hn _
theorem two_laid' {W1 W2 W3 : World} {o : Obj} (h2 : Grow (W1.alloc o) W2) (h3 : Grow (W2.alloc o) W3) : W3.heap[W1.heap.size]? = some o ∧ W3.heap[W2.heap.size]? = some o ∧ W1.heap.size < W2.heap.size := by
  have hs := Below.size h2
  simp at hs
  refine ⟨?_, ?_, by omega⟩
  · exact h3.block (((Below.refl _ W2).alloc (Nat.le_refl _) o |> fun h => Grow.block h) (h2.block (alloc_new W1 o)))
  · exact h3.block (alloc_new W2 o)

theorem rord_same {a b : MB} (h : keyM a = keyM b) : ordM a b = 0 := by
  have h1 : ahM a b = false := by unfold ahM; rw [h]; exact lt5_same (fun _ _ => rfl)
  have h2 : ahM b a = false := by unfold ahM; rw [h]; exact lt5_same (fun _ _ => rfl)
  show Ru.ord ahM a b = 0
  unfold Ru.ord
  rw [h1, h2]
  rfl
theorem rord_less {a b : MB} (h : Ru.lt5 (keyM a) (keyM b) = true) : ordM a b = -1 := by
  show Ru.ord ahM a b = -1
  unfold Ru.ord ahM
  rw [h]
  rfl
theorem rord_more {a b : MB} (h : Ru.lt5 (keyM a) (keyM b) = false) (hn : keyM a ≠ keyM b) : ordM a b = 1 := by
  have h2 : Ru.lt5 (keyM b) (keyM a) = true := by
    generalize keyM a = x at *
    generalize keyM b = y at *
    unfold Ru.lt5 at *
    rw [decide_eq_false_iff_not] at h
    rw [decide_eq_true_eq]
    obtain ⟨x0, x1, x2, x3, x4⟩ := x
    obtain ⟨y0, y1, y2, y3, y4⟩ := y
    simp only [ne_eq, Prod.mk.injEq, not_and] at *
    by_cases e0 : x0 = y0
    · by_cases e1 : x1 = y1
      · by_cases e2 : x2 = y2
        · by_cases e3 : x3 = y3
          · have := hn e0 e1 e2 e3
            omega
          · omega
        · omega
      · omega
    · omega
  show Ru.ord ahM a b = 1
  unfold Ru.ord ahM
  rw [h, h2]
  rfl

theorem box5n {w W : World} {n : Nat} (hn : w.heap.size = n) {a b c d e : Value} {t : Nat} (h : Below (w.alloc (.cells #[a, b, c, d, e] t)).heap.size (w.alloc (.cells #[a, b, c, d, e] t)) W) :
    W.cell? ⟨n, 0, none⟩ = some a ∧ W.cell? ⟨n, 1, none⟩ = some b ∧ W.cell? ⟨n, 2, none⟩ = some c ∧ W.cell? ⟨n, 3, none⟩ = some d ∧ W.cell? ⟨n, 4, none⟩ = some e := by
  subst hn
  exact box5 h
theorem set5_size {W : World} {n : Nat} {a b c d e : Value} : (set5 W n a b c d e).heap.size = W.heap.size := by simp [set5, World.setCell]

end Go.Proofs.YtblmdcpcekoogaaGreatDoor
