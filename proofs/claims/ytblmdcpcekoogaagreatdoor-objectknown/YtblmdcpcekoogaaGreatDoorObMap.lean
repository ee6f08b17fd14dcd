/-
  A map keyed by refs: what is laid, and looked up.
-/
import Derived.Test.YtblmdcpcekoogaaGreatDoorJ14
import Derived.Test.YtblmdcpcekoogaaGreatDoorJ17
import Derived.MapKept
namespace Go.Proofs.YtblmdcpcekoogaaGreatDoor
set_option maxRecDepth 20000
open Go Go.RowKit Go.Shelf

theorem check_ref (k : Int) (s n : ByteArray) (em : Bool) (w : World) : (Instr.checkKey em 10000 47 (.agg #[.int .i64 k, .string s, .string n])).run Tryz.prog w = .ok () w := by
  have u3 := Tryz.underlying3
  have i3 := Tryz.isAgg3
  have z3 := Tryz.sizeOf3
  have hi := fun W => MapKept.run_checkKey (P := Tryz.prog) (w := W) (k := .int .i64 k) Tryz.underlying3 (by trivial) em 9998
  have hs := fun x W => MapKept.run_checkKey (P := Tryz.prog) (w := W) (k := .string x) Tryz.underlying9 (by trivial) em 9998
  rw [show (10000 : Nat) = 9998 + 1 + 1 from rfl, Instr.checkKey]
  simp only [Sem.run_bind, run_underlying Tryz.underlying47, Result.andThen_ok]
  go_simp
/-- the map's entries -/
def mapEs : List RfB → Nat → List MapEntry
  | [], _ => []
  | r :: l, i => ⟨rfV r, .bool true, i⟩ :: mapEs l (i + 1)
theorem mapEs_snoc : ∀ (l : List RfB) (r : RfB) (i : Nat), mapEs (l ++ [r]) i = mapEs l i ++ [⟨rfV r, .bool true, i + l.length⟩]
  | [], _, _ => rfl
  | x :: l, r, i => by
    show (⟨rfV x, .bool true, i⟩ : MapEntry) :: mapEs (l ++ [r]) (i + 1) = _
    rw [mapEs_snoc l r (i + 1)]
    simp only [mapEs, List.cons_append, List.length_cons]
    rw [show i + 1 + l.length = i + (l.length + 1) by omega]
theorem eq_refs (a b : RfB) (w : World) : (Op.equal 47 (rfV a) (rfV b)).run Tryz.prog w = .ok (Ob.eqR a b) w := by
  have := eqRef a.kind a.space a.name b.kind b.space b.name w
  refine Eq.trans this ?_
  congr 1
  unfold Ob.eqR
  rw [decide_eq_decide, Ob.toList_iff, Ob.toList_iff]
theorem ask_no (r : RfB) (w : World) : ∀ (L : List RfB) (b i : Nat), (∀ x ∈ L, x ≠ r) → (Instr.findAsking 47 (rfV r) (mapEs L b) i).run Tryz.prog w = .ok none w
  | [], _, _, _ => by simp [mapEs, Instr.findAsking]
  | x :: L, b, i, h => by
    have h1 : Ob.eqR r x = false := by
      cases he : Ob.eqR r x
      · rfl
      · exact absurd (Ob.eqR_iff.1 he).symm (h x List.mem_cons_self)
    have h2 := ask_no r w L (b + 1) (i + 1) (fun y hy => h y (List.mem_cons_of_mem _ hy))
    unfold mapEs Instr.findAsking
    simp only [Sem.run_bind, eq_refs, h1, Result.andThen_ok, Bool.false_eq_true, if_false, h2]
theorem ask_yes (r : RfB) (w : World) : ∀ (L : List RfB) (b i : Nat), r ∈ L → ∃ j, (Instr.findAsking 47 (rfV r) (mapEs L b) i).run Tryz.prog w = .ok (some (j, .bool true)) w
  | [], _, _, h => by cases h
  | x :: L, b, i, h => by
    cases he : Ob.eqR r x
    · have hr : r ∈ L := by
        rcases List.mem_cons.1 h with e | e
        · rw [Ob.eqR_iff.2 e] at he
          cases he
        · exact e
      obtain ⟨j, hj⟩ := ask_yes r w L (b + 1) (i + 1) hr
      refine ⟨j, ?_⟩
      unfold mapEs Instr.findAsking
      simp only [Sem.run_bind, eq_refs, he, Result.andThen_ok, Bool.false_eq_true, if_false, hj]
    · refine ⟨i, ?_⟩
      unfold mapEs Instr.findAsking
      simp only [Sem.run_bind, eq_refs, he, Result.andThen_ok, if_true, Sem.run_pure]
theorem find_asks (r : RfB) (es : List MapEntry) (w : World) : (Instr.findKey 47 (rfV r) es).run Tryz.prog w = (Instr.findAsking 47 (rfV r) es).run Tryz.prog w := by
  cases es with
  | nil => simp [Instr.findKey, run_underlying Tryz.underlying47, Instr.findNow, Instr.findAsking]
  | cons e es => simp [Instr.findKey, run_underlying Tryz.underlying47, Instr.findNow, Instr.sameNow]
/-- the world with the map of these refs -/
def mapW (w : World) (m : Nat) (L : List RfB) : World := { w with heap := w.heap.setIfInBounds m (.map (mapEs L 0).toArray L.length) }
theorem mapW_at {w : World} {m : Nat} {o : Obj} (h : w.heap[m]? = some o) (L : List RfB) : (mapW w m L).heap[m]? = some (.map (mapEs L 0).toArray L.length) := (MapKept.heap_set h).1
theorem mapW_bx {w0 w : World} {m n : Nat} (h : BX m n w0 w) (L : List RfB) : BX m n w0 (mapW w m L) :=
  ⟨h.os, h.tape, h.output, by show _ ≤ (w.heap.setIfInBounds m _).size; rw [Array.size_setIfInBounds]; exact h.size, fun k hk hne => by
    show (w.heap.setIfInBounds m _)[k]? = _
    rw [Array.getElem?_setIfInBounds_ne (fun e => hne e.symm)]
    exact h.block k hk hne⟩
theorem upd_ref {w : World} {m : Nat} {L : List RfB} (r : RfB) (hb : w.heap[m]? = some (.map (mapEs L 0).toArray L.length)) (hn : ∀ x ∈ L, x ≠ r) :
    (Instr.mapUpdate 68 (.map (some m)) (rfV r) (.bool true)).run Tryz.prog w = .ok () (mapW w m (L ++ [r])) := by
  have hg := MapKept.run_getObj_map (P := Tryz.prog) hb
  have hs := MapKept.run_setObj_map (P := Tryz.prog) (.map ((mapEs L 0).toArray.push ⟨rfV r, .bool true, L.length⟩) (L.length + 1)) hb
  have hc := check_ref r.kind r.space r.name false w
  have hf := ask_no r w L 0 0 hn
  have e : ({ w with heap := w.heap.setIfInBounds m (.map ((mapEs L 0).toArray.push ⟨rfV r, .bool true, L.length⟩) (L.length + 1)) } : World) = mapW w m (L ++ [r]) := by
    unfold mapW
    rw [mapEs_snoc, List.push_toArray, Nat.zero_add, List.length_append]
    rfl
  rw [e] at hs
  unfold Instr.mapUpdate
  simp only [Sem.run_bind, run_underlying Tryz.underlying68, Result.andThen_ok, hg, hc, find_asks, hf, hs]
theorem look_ref {w : World} {m : Nat} {L : List RfB} (r : RfB) (hb : w.heap[m]? = some (.map (mapEs L 0).toArray L.length)) (hr : r ∈ L) :
    (Instr.lookup 68 (.map (some m)) (rfV r) false).run Tryz.prog w = .ok (.bool true) w := by
  have hg := MapKept.run_getObj_map (P := Tryz.prog) hb
  have hc := check_ref r.kind r.space r.name (mapEs L 0).toArray.isEmpty w
  obtain ⟨j, hf⟩ := ask_yes r w L 0 0 hr
  unfold Instr.lookup
  simp only [Sem.run_bind, run_underlying Tryz.underlying68, Result.andThen_ok, hg, hc, find_asks, hf, Sem.run_pure]
  rfl

end Go.Proofs.YtblmdcpcekoogaaGreatDoor
