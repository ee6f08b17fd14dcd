/-
  What all layers' walks lean on: a few plain facts; the library's HasPrefix, HasSuffix, Compare, cmp.Compare at int; a law for regions that draw their order and call what makes memory of its own.
-/
import Derived.Test.YtmjjjlanafiilaaDoorRows
import Derived.Below
import Derived.WalkKit
import Derived.WalkSpells
import Derived.WalkLawsBesides
import Derived.Lib.Bytealg
import Derived.Lib.Strings
import Derived.Shelf.Abstract
import Derived.Deep.QuietTactic
import Derived.BigQuiet
namespace Go.Proofs.YtmjjjlanafiilaaDoor
open Go Go.RowKit Go.Shelf

theorem hide {p : Prop} (h : p) : Hid p := h

theorem ret_bool {a b : Bool} (h : a = b) : Ending.returned (.bool a) = .returned (.bool b) := by rw [h]

theorem ret_int {k : IntKind} {a b : Int} (h : a = b) : Ending.returned (.int k a) = .returned (.int k b) := by rw [h]

theorem ret_str {a b : ByteArray} (h : a = b) : Ending.returned (.string a) = .returned (.string b) := by rw [h]

theorem mk_data' (l : List UInt8) : (⟨l.toArray⟩ : ByteArray).data.toList = l := by simp

theorem ba_size (l : List UInt8) : (⟨l.toArray⟩ : ByteArray).size = l.length := rfl

theorem alloc_new (w : World) (o : Obj) : (w.alloc o).heap[w.heap.size]? = some o := by
  show (w.heap.push o)[w.heap.size]? = _
  simp

theorem small_len {s : ByteArray} (h : s.size ≤ 1000) : s.size ≤ maxLen := by unfold maxLen; omega

def cmpI (a b : Int) : Int := if a < b then -1 else if b < a then 1 else 0

/-- the first of two that is not 0 -/
def orI (x y : Int) : Int := if x = 0 then y else x

/-- a world that has grown behind w, all below as it was -/
structure GB (w : World) where
  W : World
  h : Below w.heap.size w W

/-- there is one such world at least -/
theorem gb_const {w : World} {p : Prop} : (GB w → p) ↔ p := ⟨fun h => h ⟨w, Below.refl _ _⟩, fun h _ => h⟩

/-- A region that draws its order, whose operations only read, and whose callees may make memory of their own: walked once, in the order of the text. -/
theorem wp_region_below {P : Program} {id : Nat} {Q : Exit → Act → World → Prop} {a : Act} {w : World} {l : List Oper} (hm : P.follows .mixedOrders = true) (hB : Region.lexB .any l.toArray = true)
    (h : wpQuiet P l.toArray (fun w' => ∃ p : GB w, w' = p.W) (fun a' => ∀ w', (∃ p : GB w, w' = p.W) → Q .normal a' w') l a) : (Code.region id l.toArray true).wp P Q a w :=
  wp_region_quiet (C := fun w' => ∃ p : GB w, w' = p.W) hm hB ⟨⟨w.drew, (Below.refl _ w).drew⟩, rfl⟩ (by simpa using h)

/-- a callee's contract, met in such a world -/
theorem calls_gb {P : Program} {f : FuncId} {args : Array Value} {w : World} {p : GB w} {v : Value}
    (h : Calls P f args p.W fun e w' => e = .returned v ∧ Below p.W.heap.size p.W w') : Calls P f args p.W fun e w'' => e = .returned v ∧ ∃ q : GB w, w'' = q.W :=
  h.mono fun _ w' ⟨he, hb⟩ => ⟨he, ⟨w', p.h.trans (hb.mono p.h.size)⟩, rfl⟩

theorem calls_gb0 {P : Program} {f : FuncId} {args : Array Value} {w : World} {v : Value}
    (h : Calls P f args w fun e w' => e = .returned v ∧ Below w.heap.size w w') : Calls P f args w fun e w'' => e = .returned v ∧ ∃ q : GB w, w'' = q.W :=
  h.mono fun _ w' ⟨he, hb⟩ => ⟨he, ⟨w', hb⟩, rfl⟩
theorem calls_gb_same {P : Program} {f : FuncId} {args : Array Value} {w : World} {p : GB w} {v : Value}
    (h : Calls P f args p.W fun e w' => e = .returned v ∧ w' = p.W) : Calls P f args p.W fun e w'' => e = .returned v ∧ ∃ q : GB w, w'' = q.W :=
  h.mono fun _ _ ⟨he, hb⟩ => ⟨he, p, hb⟩

/-- the laws' own Few: a text, cut behind its first 100 octets -/
def fewB (s : ByteArray) : ByteArray := if 100 < s.size then s.extract 0 100 else s
theorem fewB_le (s : ByteArray) : (fewB s).size ≤ 100 := by
  unfold fewB
  split
  · rw [ByteArray.size_extract]; omega
  · omega

theorem cmp_range : ∀ a b : List UInt8, Lib.compareBytes a b = -1 ∨ Lib.compareBytes a b = 0 ∨ Lib.compareBytes a b = 1 := by
  intro a
  induction a with
  | nil => intro b; cases b <;> simp [Lib.compareBytes]
  | cons x a ih =>
    intro b
    cases b with
    | nil => simp [Lib.compareBytes]
    | cons y b =>
      unfold Lib.compareBytes
      split
      · simp
      · split
        · simp
        · exact ih b

theorem cmp_anti : ∀ a b : List UInt8, Lib.compareBytes b a = - Lib.compareBytes a b
  | [], [] => rfl
  | [], _ :: _ => rfl
  | _ :: _, [] => rfl
  | x :: a, y :: b => by
    unfold Lib.compareBytes
    by_cases h1 : x < y
    · have h2 : ¬ y < x := by rw [UInt8.lt_iff_toNat_lt] at *; omega
      simp [h1, h2]
    · by_cases h2 : y < x
      · simp [h1, h2]
      · simp only [h1, h2, if_false]
        exact cmp_anti a b

theorem cmp_zero : ∀ a b : List UInt8, Lib.compareBytes a b = 0 ↔ a = b
  | [], [] => by simp [Lib.compareBytes]
  | [], _ :: _ => by simp [Lib.compareBytes]
  | _ :: _, [] => by simp [Lib.compareBytes]
  | x :: a, y :: b => by
    unfold Lib.compareBytes
    by_cases h1 : x < y
    · have : x ≠ y := by rintro rfl; exact UInt8.lt_irrefl _ h1
      simp [h1, this]
    · by_cases h2 : y < x
      · have : x ≠ y := by rintro rfl; exact UInt8.lt_irrefl _ h2
        simp [h1, h2, this]
      · have : x = y := by
          apply UInt8.toNat_inj.1
          rw [UInt8.lt_iff_toNat_lt] at *
          omega
        subst this
        simp only [h1, if_false]
        rw [cmp_zero a b]
        simp

theorem cmp_trans : ∀ a b c : List UInt8, Lib.compareBytes a b ≤ 0 → Lib.compareBytes b c ≤ 0 → Lib.compareBytes a c ≤ 0
  | [], b, c, _, _ => by cases c <;> simp [Lib.compareBytes]
  | _ :: _, [], c, h, _ => by simp [Lib.compareBytes] at h
  | _ :: _, _ :: _, [], _, h => by simp [Lib.compareBytes] at h
  | x :: a, y :: b, z :: c, h, k => by
    unfold Lib.compareBytes at h k ⊢
    simp only [UInt8.lt_iff_toNat_lt] at h k ⊢
    by_cases h1 : x.toNat < z.toNat
    · simp [h1]
    · by_cases h2 : z.toNat < x.toNat
      · exfalso
        by_cases a1 : x.toNat < y.toNat
        · have : ¬ y.toNat < z.toNat := by omega
          have h3 : z.toNat < y.toNat := by omega
          simp [this, h3] at k
        · by_cases a2 : y.toNat < x.toNat
          · simp [a1, a2] at h
          · have : ¬ y.toNat < z.toNat := by omega
            have h3 : z.toNat < y.toNat := by omega
            simp [this, h3] at k
      · simp only [h1, h2, if_false]
        by_cases a1 : x.toNat < y.toNat
        · have : ¬ y.toNat < z.toNat := by omega
          have h3 : z.toNat < y.toNat := by omega
          simp [this, h3] at k
        · by_cases a2 : y.toNat < x.toNat
          · simp [a1, a2] at h
          · have b1 : ¬ y.toNat < z.toNat := by omega
            have b2 : ¬ z.toNat < y.toNat := by omega
            simp only [a1, a2, if_false] at h
            simp only [b1, b2, if_false] at k
            exact cmp_trans a b c h k

theorem less_cmp : ∀ a b : List UInt8, Op.bytesLess a b = decide (Lib.compareBytes a b = -1)
  | [], [] => rfl
  | [], _ :: _ => rfl
  | _ :: _, [] => rfl
  | x :: a, y :: b => by
    unfold Op.bytesLess Lib.compareBytes
    rw [less_cmp a b]
    by_cases h1 : x < y
    · simp [h1]
    · by_cases h2 : y < x
      · have : ¬ x = y := by rintro rfl; exact UInt8.lt_irrefl _ h2
        simp [h1, h2, this]
      · have : x = y := by
          apply UInt8.toNat_inj.1
          rw [UInt8.lt_iff_toNat_lt] at *
          omega
        subst this
        simp [h1]

theorem text_cases (a b : ByteArray) : (Op.bytesLess a.toList b.toList = true ∧ Hid (Lib.compareBytes a.data.toList b.data.toList = -1)) ∨
    (Op.bytesLess a.toList b.toList = false ∧ (a.toList == b.toList) = true ∧ Hid (Lib.compareBytes a.data.toList b.data.toList = 0)) ∨
    (Op.bytesLess a.toList b.toList = false ∧ (a.toList == b.toList) = false ∧ Hid (Lib.compareBytes a.data.toList b.data.toList = 1)) := by
  rw [Lib.toList_data, Lib.toList_data, less_cmp]
  have hz := cmp_zero a.data.toList b.data.toList
  have hr : Lib.compareBytes a.data.toList b.data.toList = -1 ∨ Lib.compareBytes a.data.toList b.data.toList = 0 ∨ Lib.compareBytes a.data.toList b.data.toList = 1 := cmp_range _ _
  rcases hr with h | h | h
  · exact .inl ⟨by rw [h]; rfl, h⟩
  · exact .inr (.inl ⟨by rw [h]; rfl, beq_iff_eq.2 (hz.1 h), h⟩)
  · refine .inr (.inr ⟨by rw [h]; rfl, beq_eq_false_iff_ne.2 (fun e => ?_), h⟩)
    have := hz.2 e
    omega

end Go.Proofs.YtmjjjlanafiilaaDoor
