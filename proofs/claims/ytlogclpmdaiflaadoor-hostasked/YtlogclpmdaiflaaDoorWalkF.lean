/-
  Walks: Labels.
-/
import Derived.Test.YtlogclpmdaiflaaDoorWalkE
import Derived.Maps.AppendAt
namespace Go.Proofs.YtlogclpmdaiflaaDoor
open Go Go.RowKit Go.Shelf

attribute [local go_sem] Oper.semAt_some

theorem ownsRow_base {w : World} {base base' : Nat} {e : TypeId} {size : Nat} {v : Value} {n : Nat} {xs : List Value} (h : w.ownsRow base e size v n xs) (hb : base' ≤ base) : w.ownsRow base' e size v n xs := by
  obtain ⟨h1, h2⟩ := h
  refine ⟨h1, ?_⟩
  rcases h2 with h2 | ⟨g, cap, cur, hv, hg, r⟩
  · exact .inl h2
  · exact .inr ⟨g, cap, cur, hv, by omega, r⟩

theorem ownBlock_ge {w : World} {base : Nat} {e : TypeId} {size : Nat} {v : Value} {n : Nat} {xs : List Value} (h : w.ownsRow base e size v n xs) {g : Nat} (hg : v.ownBlock = some g) : base ≤ g := by
  rcases h.2 with ⟨rfl, _⟩ | ⟨g', cap, cur, rfl, hb, _⟩
  · simp [Value.ownBlock] at hg
  · obtain rfl : g' = g := by simpa [Value.ownBlock] using hg
    exact hb

/-- behind an append in a round: the iterator's blocks lie as they lay -/
theorem stays_appended {W w1 : World} {lo hi n₁ B : Nat} {size : Nat} {v v' : Value} {k : Nat} {xs : List Value} {tmp : Obj}
    (hrow : W.ownsRow n₁ 9 size v k xs) (hhi : hi ≤ n₁) (hn : n₁ ≤ W.heap.size) (hB : B < lo) (hgrow : (W.alloc tmp).grownBy w1 v.ownBlock) : Stays lo hi W (w1.setCell ⟨B, 0, none⟩ v') := fun b h1 h2 => by
  rw [Below.heap_setCell _ _ _ _ (by show b ≠ B; omega)]
  rw [hgrow.block b (by simp; omega) (fun e => by have := ownBlock_ge hrow e.symm; omega)]
  exact Below.heap_alloc _ _ _ (by omega)

theorem Tryd.info9 : (Tryd.prog.info? 9).map (fun i => (i.zero, i.size, i.bytes)) = some (some (.string ⟨#[]⟩), 1, 16) := by kernel_rfl

theorem map_take_succ (xs : List ByteArray) (k : Nat) (h : k < xs.length) : (xs.take (k + 1)).map Value.string = (xs.take k).map Value.string ++ [.string xs[k]] := by
  rw [List.take_succ_eq_append_getElem h, List.map_append]; rfl

end Go.Proofs.YtlogclpmdaiflaaDoor
