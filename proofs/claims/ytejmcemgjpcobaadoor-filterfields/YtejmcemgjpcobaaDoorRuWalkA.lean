/-
  Walks: rule.Method, the document's Method; named (by ContainsFunc and a closure).
-/
import Derived.Test.YtejmcemgjpcobaaDoorRuMatch
namespace Go.Proofs.YtejmcemgjpcobaaDoor
set_option maxRecDepth 20000
open Go Go.RowKit Go.Shelf

theorem meth_no0 {s : ByteArray} (h : s.size = 0) : methB s = false := by
  unfold methB
  exact decide_eq_false (fun ⟨h1, _⟩ => by omega)
theorem meth_no10 {s : ByteArray} (h : 10 < s.size) : methB s = false := by
  unfold methB
  exact decide_eq_false (fun ⟨_, h1, _⟩ => by omega)
theorem meth_noc {s : ByteArray} {k : Nat} (h : k < s.size) (hc : ¬ (65 ≤ s[k].toNat ∧ s[k].toNat ≤ 90)) : methB s = false := by
  unfold methB
  exact decide_eq_false (fun ⟨_, _, h1⟩ => hc (h1 k h))
theorem meth_all {s : ByteArray} (h : ∀ j (h : j < s.size), 65 ≤ s[j].toNat ∧ s[j].toNat ≤ 90) : methB s = decide (1 ≤ s.size ∧ s.size ≤ 10) := by
  unfold methB
  exact decide_eq_decide.2 ⟨fun h1 => ⟨h1.1, h1.2.1⟩, fun h1 => ⟨h1.1, h1.2, h⟩⟩

/-- has one of the pairs that name? -/
def namedB (same : ByteArray → ByteArray → Bool) (n : ByteArray) (l : List PairB) : Bool := l.any fun p => same p.1 n
def nameI (same : ByteArray → ByteArray → Bool) (n : ByteArray) (l : List PairB) : Int := if namedB same n l then (l.findIdx fun p => same p.1 n : Nat) else -1
theorem nameI_yes {same : ByteArray → ByteArray → Bool} {n : ByteArray} {l : List PairB} {k : Nat} (hk : k < l.length) (h : ∀ j (h : j < l.length), j < k → same l[j].1 n = false) (hs : same l[k].1 n = true) : nameI same n l = (k : Int) := by
  have h1 : namedB same n l = true := List.any_eq_true.2 ⟨_, List.getElem_mem hk, hs⟩
  have h2 : (l.findIdx fun p => same p.1 n) = k := by
    rw [List.findIdx_eq hk]
    exact ⟨hs, fun j hj => h j (by omega) hj⟩
  unfold nameI
  rw [if_pos h1, h2]
theorem nameI_no {same : ByteArray → ByteArray → Bool} {n : ByteArray} {l : List PairB} (h : ∀ j (h : j < l.length), same l[j].1 n = false) : nameI same n l = -1 := by
  have h1 : namedB same n l = false := by
    unfold namedB
    rw [List.any_eq_false]
    intro p hp
    obtain ⟨j, hj, rfl⟩ := List.getElem_of_mem hp
    rw [h j hj]
    decide
  unfold nameI
  rw [h1]
  rfl
theorem nameI_ge (same : ByteArray → ByteArray → Bool) (n : ByteArray) (l : List PairB) : decide (0 ≤ nameI same n l) = namedB same n l := by
  unfold nameI
  cases namedB same n l
  · rfl
  · simp

end Go.Proofs.YtejmcemgjpcobaaDoor
