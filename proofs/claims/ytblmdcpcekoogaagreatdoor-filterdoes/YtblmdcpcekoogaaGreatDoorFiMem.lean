/-
  Filters in memory: their values, a slice of them; the laws' Few of filters, without a program.
-/
import Derived.Test.YtblmdcpcekoogaaGreatDoorFiPlain
import Derived.Test.YtblmdcpcekoogaaGreatDoorSl
import Derived.Test.YtblmdcpcekoogaaGreatDoorBlk
namespace Go.Proofs.YtblmdcpcekoogaaGreatDoor
set_option maxRecDepth 20000
open Go Go.RowKit Go.Shelf

/-- a filter, as a value -/
abbrev fV (f : FB) : Value := .agg #[.int .i64 f.kind, .string f.name, .string f.val, .string f.host, .int .i64 f.port, .string f.path, .bool f.whole, .int .i64 f.code]
def fcells (f : FB) : List Value := [.int .i64 f.kind, .string f.name, .string f.val, .string f.host, .int .i64 f.port, .string f.path, .bool f.whole, .int .i64 f.code]
/-- eight cells each -/
def EF : Elem FB where
  cells := fcells
  n := 8
  A := fun _ _ => True
  len := fun _ => rfl
  pos := by decide
  one := fun x _ _ u hu => by
    simp [fcells] at hu
    rcases hu with rfl | rfl | rfl | rfl | rfl | rfl | rfl | rfl <;> rfl
  below := fun _ _ _ _ _ => trivial
/-- a filter's cells -/
theorem EF_at {w : World} {g o : Nat} {f : FB} (h : EF.At w g o f) :
    w.cell? ⟨g, o, none⟩ = some (.int .i64 f.kind) ∧ w.cell? ⟨g, o + 1, none⟩ = some (.string f.name) ∧ w.cell? ⟨g, o + 2, none⟩ = some (.string f.val) ∧ w.cell? ⟨g, o + 3, none⟩ = some (.string f.host) ∧
    w.cell? ⟨g, o + 4, none⟩ = some (.int .i64 f.port) ∧ w.cell? ⟨g, o + 5, none⟩ = some (.string f.path) ∧ w.cell? ⟨g, o + 6, none⟩ = some (.bool f.whole) ∧ w.cell? ⟨g, o + 7, none⟩ = some (.int .i64 f.code) :=
  ⟨h 0 _ rfl, h 1 _ rfl, h 2 _ rfl, h 3 _ rfl, h 4 _ rfl, h 5 _ rfl, h 6 _ rfl, h 7 _ rfl⟩
theorem EF_block {w : World} {g t : Nat} {f : FB} (h : w.heap[g]? = some (.cells #[.int .i64 f.kind, .string f.name, .string f.val, .string f.host, .int .i64 f.port, .string f.path, .bool f.whole, .int .i64 f.code] t)) : EF.At w g 0 f := fun j u hu => by
  rw [Nat.zero_add]
  refine cellN h ?_
  have : (fcells f)[j]? = some u := hu
  simpa [fcells] using this

/-- as it came in -/
structure RawF (f : FB) : Prop where
  name : f.name.size ≤ maxLen
  val : f.val.size ≤ maxLen
  host : f.host.size ≤ maxLen
  path : f.path.size ≤ maxLen
/-- one that is not too large -/
structure OkFi (f : FB) : Prop where
  name : f.name.size ≤ 100
  val : f.val.size ≤ 100
  host : f.host.size ≤ 100
  path : f.path.size ≤ 100
def fewF (f : FB) : FB := { f with name := fewB f.name, val := fewB f.val, host := fewB f.host, path := fewB f.path }
theorem fewF_ok (f : FB) : OkFi (fewF f) := ⟨fewB_le _, fewB_le _, fewB_le _, fewB_le _⟩
def someF (l : List FB) : List FB := (l.take 9).map fewF
theorem someF_ok (l : List FB) : ∀ f ∈ someF l, OkFi f := fun f hf => by
  obtain ⟨x, _, rfl⟩ := List.mem_map.1 hf
  exact fewF_ok x
theorem someF_len (l : List FB) : (someF l).length ≤ 9 := by simp [someF]; omega
theorem someF_end {l : List FB} {k : Nat} (hk : k ≤ l.length) (h9 : k ≤ 9) (h : ¬ (k < l.length ∧ k < 9)) : (l.take k).map fewF = someF l := by
  unfold someF
  rcases (show k = 9 ∨ l.length ≤ k by omega) with h1 | h1
  · rw [h1]
  · rw [List.take_of_length_le h1, List.take_of_length_le (by omega)]
theorem someF_next {l : List FB} {k : Nat} (hk : k < l.length) : (l.take (k + 1)).map fewF = (l.take k).map fewF ++ [fewF l[k]] := by
  rw [List.take_succ_eq_append_getElem hk, List.map_append]
  rfl

end Go.Proofs.YtblmdcpcekoogaaGreatDoor
