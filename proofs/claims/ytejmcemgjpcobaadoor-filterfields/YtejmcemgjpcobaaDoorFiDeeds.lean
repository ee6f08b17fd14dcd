/-
  Walks: the map of what filters do.
-/
import Derived.Test.YtejmcemgjpcobaaDoorCore
import Derived.MapKept
namespace Go.Proofs.YtejmcemgjpcobaaDoor
set_option maxRecDepth 20000
open Go Go.RowKit Go.Shelf

abbrev dF (n : Nat) : Value := .func (.func n) #[] #[]
/-- the map's entries -/
abbrev deedEs : Array MapEntry := #[⟨.int .i64 1, dF 23, 0⟩, ⟨.int .i64 2, dF 24, 1⟩, ⟨.int .i64 3, dF 25, 2⟩, ⟨.int .i64 4, dF 26, 3⟩, ⟨.int .i64 5, dF 27, 4⟩]

theorem setObj_new (w : World) (o o' : Obj) : { (w.alloc o) with heap := (w.alloc o).heap.setIfInBounds w.heap.size o' } = w.alloc o' := by
  show World.mk .. = World.mk ..
  congr 1
  show (w.heap.push o).setIfInBounds w.heap.size o' = w.heap.push o'
  apply Array.ext
  · simp
  · intro i h1 h2
    rw [Array.getElem_setIfInBounds (by simpa using h1)]
    by_cases he : w.heap.size = i
    · subst he
      simp
    · simp only [if_neg he]
      have hi : i < w.heap.size := by simp at h2; omega
      rw [Array.getElem_push_lt hi, Array.getElem_push_lt hi]

theorem run_upd (w : World) (es : Array MapEntry) (c : Nat) (i : Int) (v : Value) (h : Instr.findNow (.int .i64) (.int .i64 i) es.toList 0 = some none) :
    (Instr.mapUpdate 49 (.map (some w.heap.size)) (.int .i64 i) v).run Tryd.prog (w.alloc (.map es c)) = .ok () (w.alloc (.map (es.push ⟨.int .i64 i, v, c⟩) (c + 1))) := by
  have u3 := Tryd.underlying3
  have hb : (w.alloc (.map es c)).heap[w.heap.size]? = some (.map es c) := alloc_new w _
  have hg := MapKept.run_getObj_map (P := Tryd.prog) hb
  have hs := MapKept.run_setObj_map (P := Tryd.prog) (.map (es.push ⟨.int .i64 i, v, c⟩) (c + 1)) hb
  have hc := MapKept.run_checkKey (w := w.alloc (.map es c)) (k := .int .i64 i) u3 (by trivial) false 9999
  rw [setObj_new] at hs
  unfold Instr.mapUpdate Instr.findKey
  simp only [Sem.run_bind, run_underlying Tryd.underlying49, Result.andThen_ok, hg, hc, run_underlying u3, h, Sem.run_pure, hs]

set_option maxHeartbeats 1600000 in
theorem deeds_any (w : World) :
    Calls Tryd.prog 15 #[] w fun e w' => e = .returned (.map (some w.heap.size)) ∧ w' = w.alloc (.map deedEs 5) := by
  have hmm := @run_makeMap Tryd.prog
  have h1 := run_upd w #[] 0 1 (dF 23) rfl
  have h2 := run_upd w #[⟨.int .i64 1, dF 23, 0⟩] 1 2 (dF 24) rfl
  have h3 := run_upd w #[⟨.int .i64 1, dF 23, 0⟩, ⟨.int .i64 2, dF 24, 1⟩] 2 3 (dF 25) rfl
  have h4 := run_upd w #[⟨.int .i64 1, dF 23, 0⟩, ⟨.int .i64 2, dF 24, 1⟩, ⟨.int .i64 3, dF 25, 2⟩] 3 4 (dF 26) rfl
  have h5 := run_upd w #[⟨.int .i64 1, dF 23, 0⟩, ⟨.int .i64 2, dF 24, 1⟩, ⟨.int .i64 3, dF 25, 2⟩, ⟨.int .i64 4, dF 26, 3⟩] 4 5 (dF 27) rfl
  simp only [List.push_toArray, List.nil_append, Nat.zero_add] at h1
  simp only [List.push_toArray, List.cons_append, List.nil_append, Nat.reduceAdd] at h2
  simp only [List.push_toArray, List.cons_append, List.nil_append, Nat.reduceAdd] at h3
  simp only [List.push_toArray, List.cons_append, List.nil_append, Nat.reduceAdd] at h4
  simp only [List.push_toArray, List.cons_append, List.nil_append, Nat.reduceAdd] at h5
  go_enter Tryd.func15, Tryd.ntmps15
  go_wp2_with fail
  go_ret
  exact ⟨rfl, rfl⟩

/-- what is found there -/
theorem deeds_look {W : World} {m : Nat} (hb : W.heap[m]? = some (.map deedEs 5)) :
    (Instr.lookup 49 (.map (some m)) (.int .i64 1) false).run Tryd.prog W = .ok (dF 23) W ∧
    (Instr.lookup 49 (.map (some m)) (.int .i64 2) false).run Tryd.prog W = .ok (dF 24) W ∧
    (Instr.lookup 49 (.map (some m)) (.int .i64 3) false).run Tryd.prog W = .ok (dF 25) W ∧
    (Instr.lookup 49 (.map (some m)) (.int .i64 4) false).run Tryd.prog W = .ok (dF 26) W ∧
    (Instr.lookup 49 (.map (some m)) (.int .i64 5) false).run Tryd.prog W = .ok (dF 27) W := by
  have u3 := Tryd.underlying3
  have hg := MapKept.run_getObj_map (P := Tryd.prog) hb
  have hc := fun (i : Int) => MapKept.run_checkKey (w := W) (k := .int .i64 i) u3 (by trivial) false 9999
  have hf : ∀ (i : Int) (n : Nat), Instr.findNow (.int .i64) (.int .i64 i) deedEs.toList 0 = some (some ((i - 1).toNat, dF n)) → (Instr.lookup 49 (.map (some m)) (.int .i64 i) false).run Tryd.prog W = .ok (dF n) W := by
    intro i n h
    have he : deedEs.isEmpty = false := rfl
    unfold Instr.lookup Instr.findKey
    simp only [Sem.run_bind, run_underlying Tryd.underlying49, Result.andThen_ok, hg, he, hc, run_underlying u3, h, Sem.run_pure]
    rfl
  exact ⟨hf 1 _ rfl, hf 2 _ rfl, hf 3 _ rfl, hf 4 _ rfl, hf 5 _ rfl⟩

end Go.Proofs.YtejmcemgjpcobaaDoor
