/-
  Needs in memory: texts, a need with where its values lie, slices of these; how large they may be.
-/
import Derived.Test.YtecnjbaanbakoaaDoorLaPlain
import Derived.Test.YtecnjbaanbakoaaDoorSl
import Derived.Test.YtecnjbaanbakoaaDoorBlk
namespace Go.Proofs.YtecnjbaanbakoaaDoor
open Go Go.RowKit Go.Shelf

/-- texts: a cell each -/
def ES : Elem ByteArray where
  cells := fun s => [.string s]
  n := 1
  A := fun _ _ => True
  len := fun _ => rfl
  pos := by decide
  one := fun x _ _ u hu => by
    simp at hu
    subst hu
    rfl
  below := fun _ _ _ _ _ => trivial
theorem ES_at {w : World} {g o : Nat} {s : ByteArray} (h : ES.At w g o s) : w.cell? ⟨g, o, none⟩ = some (.string s) := h 0 _ rfl
theorem ES_flat (l : List ByteArray) : ES.flat l = l.map Value.string := by
  induction l with
  | nil => rfl
  | cons x l ih => rw [Elem.flat_cons, ih]; rfl

/-- a need, with where its values lie -/
structure NV where
  n : NB
  a : Option Addr
  c : Nat
abbrev NV.v (x : NV) : Value := .slice x.a x.n.vals.length x.c
abbrev nV (x : NV) : Value := .agg #[.int .i64 x.n.kind, .string x.n.name, x.v]
def ncells (x : NV) : List Value := [.int .i64 x.n.kind, .string x.n.name, x.v]
/-- three cells each; their values lie there -/
def EN : Elem NV where
  cells := ncells
  n := 3
  A := fun x w => Sl ES w x.v x.n.vals
  len := fun _ => rfl
  pos := by decide
  one := fun x _ _ u hu => by
    simp [ncells] at hu
    rcases hu with rfl | rfl | rfl <;> rfl
  below := fun _ _ _ h hb => h.below hb
theorem EN_at {w : World} {g o : Nat} {x : NV} (h : EN.At w g o x) :
    w.cell? ⟨g, o, none⟩ = some (.int .i64 x.n.kind) ∧ w.cell? ⟨g, o + 1, none⟩ = some (.string x.n.name) ∧ w.cell? ⟨g, o + 2, none⟩ = some x.v := ⟨h 0 _ rfl, h 1 _ rfl, h 2 _ rfl⟩

/-- as it came in -/
structure RawN (n : NB) : Prop where
  name : n.name.size ≤ maxLen
  vals : ∀ s ∈ n.vals, s.size ≤ maxLen
/-- one that is not too large -/
structure OkN (n : NB) : Prop where
  name : n.name.size ≤ 100
  vals : ∀ s ∈ n.vals, s.size ≤ 100
  len : n.vals.length ≤ 10
theorem OkN.raw {n : NB} (h : OkN n) : RawN n := ⟨by have := h.name; unfold maxLen; omega, fun s hs => by have := h.vals s hs; unfold maxLen; omega⟩
def okB (p : PairB) : Prop := p.1.size ≤ 100 ∧ p.2.size ≤ 100
def fewN (n : NB) : NB := ⟨n.kind, fewB n.name, (n.vals.take 9).map fewB⟩
theorem fewN_ok (n : NB) : OkN (fewN n) := ⟨fewB_le _, fun s hs => by
  obtain ⟨x, _, rfl⟩ := List.mem_map.1 hs
  exact fewB_le _, by simp [fewN]; omega⟩
def someN (l : List NB) : List NB := (l.take 9).map fewN
theorem someN_len (l : List NB) : (someN l).length ≤ 9 := by simp [someN]; omega
theorem someN_ok (l : List NB) : ∀ n ∈ someN l, OkN n := fun n hn => by
  obtain ⟨x, _, rfl⟩ := List.mem_map.1 hn
  exact fewN_ok x

end Go.Proofs.YtecnjbaanbakoaaDoor
