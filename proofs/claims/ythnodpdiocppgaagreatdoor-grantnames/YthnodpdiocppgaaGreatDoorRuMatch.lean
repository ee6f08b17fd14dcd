/-
  Matches and requests, without a program: which matches may be, hold, come ahead; one thing less; a match's own request.
-/
import Derived.Test.YthnodpdiocppgaaGreatDoorJ1
import Derived.Test.YthnodpdiocppgaaGreatDoorQuWalkA
import Derived.Test.YthnodpdiocppgaaGreatDoorJ3
namespace Go.Proofs.YthnodpdiocppgaaGreatDoor
set_option maxRecDepth 20000
open Go Go.RowKit

/-- a match -/
structure MB where
  kind : Int
  val : ByteArray
  meth : ByteArray
  head : List PairB
  query : List PairB
/-- a request -/
structure RB where
  meth : ByteArray
  host : ByteArray
  path : ByteArray
  query : List PairB
  head : List PairB

def tokenB (s : ByteArray) : Bool := decide (1 ≤ s.size ∧ s.size ≤ 40 ∧ ∀ j (h : j < s.size), tokC s[j] = true)
def valueB (s : ByteArray) : Bool := decide (s.size ≤ 40 ∧ ∀ j (h : j < s.size), 32 ≤ s[j].toNat ∧ s[j].toNat ≤ 126 ∧ (s[j].toNat = 32 → j ≠ 0 ∧ j + 1 ≠ s.size))
theorem tokenB_iff {s : ByteArray} : tokenB s = true ↔ TokenP s := by
  unfold tokenB
  rw [decide_eq_true_eq]
  exact Iff.rfl
theorem valueB_iff {s : ByteArray} : valueB s = true ↔ ValueP s := by
  unfold valueB
  rw [decide_eq_true_eq]
  exact Iff.rfl
/-- what is told of a property is its Bool -/
theorem Tells.is {p : Prop} {b : Bool} {e : Ending} (h : Tells p e) (hb : b = true ↔ p) : e = .returned (.bool b) := by
  obtain ⟨c, rfl, hc⟩ := h
  rw [show c = b from Bool.eq_iff_iff.2 (hc.trans hb.symm)]
def methB (s : ByteArray) : Bool := decide (1 ≤ s.size ∧ s.size ≤ 10 ∧ ∀ j (h : j < s.size), 65 ≤ s[j].toNat ∧ s[j].toNat ≤ 90)
/-- no two names the same -/
def farB (same : ByteArray → ByteArray → Bool) (l : List PairB) : Bool := decide (∀ x (hx : x < l.length), ∀ y (hy : y < x), same l[x].1 (l[y]'(by omega)).1 = false)
theorem farB_iff {same : ByteArray → ByteArray → Bool} {l : List PairB} : farB same l = true ↔ ∀ x y (hx : x < l.length) (hy : y < l.length), y < x → same l[x].1 l[y].1 = false := by
  unfold farB
  rw [decide_eq_true_eq]
  exact ⟨fun h x y hx hy hyx => h x hx y hyx, fun h x hx y hyx => h x y hx (by omega) hyx⟩
/-- may it be? -/
def mayM (m : MB) : Bool := mayP m.kind m.val.data.toList && ((m.meth.size == 0 || methB m.meth) && (decide (m.head.length ≤ 8) && (decide (m.query.length ≤ 8) && (Qu.may (m.query.map pl) && (m.head.all (fun p => tokenB p.1 && valueB p.2) && (farB sameF m.head && farB sameE m.query))))))
/-! ### one thing less -/
/-! ### a match's own request -/
end Go.Proofs.YthnodpdiocppgaaGreatDoor
