/-
  Labels and needs on lists, without a program.
-/
import Derived.Test.YtphinklnbjpohaaGreatDoorPrs
import Derived.Test.YtphinklnbjpohaaGreatDoorPlain
namespace Go.Proofs.YtphinklnbjpohaaGreatDoor
set_option maxRecDepth 20000
open Go Go.RowKit Go.Shelf

/-- a need -/
structure NB where
  kind : Int
  name : ByteArray
  vals : List ByteArray

namespace La
abbrev lessB (a b : ByteArray) : Bool := Op.bytesLess a.toList b.toList
theorem less_irrefl : ∀ a : List UInt8, Op.bytesLess a a = false
  | [] => rfl
  | c :: a => by simp [Op.bytesLess, less_irrefl a]
theorem less_trans : ∀ a b c : List UInt8, Op.bytesLess a b = true → Op.bytesLess b c = true → Op.bytesLess a c = true
  | a, b, [], _, h => by cases b <;> simp [Op.bytesLess] at h
  | [], _, _ :: _, _, _ => by simp [Op.bytesLess]
  | x :: a, [], z :: c, h, _ => by simp [Op.bytesLess] at h
  | x :: a, y :: b, z :: c, h1, h2 => by
    simp only [Op.bytesLess, Bool.or_eq_true, Bool.and_eq_true, decide_eq_true_eq, beq_iff_eq] at h1 h2 ⊢
    rcases h1 with h1 | ⟨rfl, h1⟩
    · rcases h2 with h2 | ⟨rfl, _⟩
      · exact .inl (UInt8.lt_trans h1 h2)
      · exact .inl h1
    · rcases h2 with h2 | ⟨rfl, h2⟩
      · exact .inl h2
      · exact .inr ⟨rfl, less_trans a b c h1 h2⟩
theorem tri8 (x y : UInt8) : x < y ∨ x = y ∨ y < x := by
  rcases Nat.lt_trichotomy x.toNat y.toNat with h | h | h
  · exact .inl (UInt8.lt_iff_toNat_lt.2 h)
  · exact .inr (.inl (UInt8.toNat_inj.1 h))
  · exact .inr (.inr (UInt8.lt_iff_toNat_lt.2 h))
theorem less_total : ∀ a b : List UInt8, (Op.bytesLess b a || b == a) = !Op.bytesLess a b
  | [], [] => rfl
  | [], _ :: _ => by simp [Op.bytesLess]
  | _ :: _, [] => by simp [Op.bytesLess]
  | x :: a, y :: b => by
    have ih := less_total a b
    simp only [Op.bytesLess, List.cons_beq_cons]
    rcases tri8 x y with h | rfl | h
    · have h1 : ¬ y < x := fun h2 => UInt8.lt_irrefl _ (UInt8.lt_trans h h2)
      have h2 : ¬ y = x := fun e => UInt8.lt_irrefl x (by rw [e] at h; exact h)
      simp [h, h1, h2]
    · have h1 : ¬ x < x := UInt8.lt_irrefl _
      simpa [h1] using ih
    · have h1 : ¬ x < y := fun h2 => UInt8.lt_irrefl _ (UInt8.lt_trans h h2)
      have h2 : ¬ x = y := fun e => UInt8.lt_irrefl x (by rw [← e] at h; exact h)
      simp [h, h1, h2]

def isNm (s : ByteArray) : Bool := D.isName s.data.toList
def mayV (s : ByteArray) : Bool := (s.toList == []) || D.isLabel s.data.toList
def okAt (l : List PairB) (i : Nat) : Bool :=
  match l[i]? with
  | some p => isNm p.1 && mayV p.2 && (decide (i = 0) || match l[i - 1]? with | some q => lessB q.1 p.1 | none => false)
  | none => false
def okTo (l : List PairB) (k : Nat) : Bool := (List.range k).all (okAt l)
def mayL (l : List PairB) : Bool := decide (l.length ≤ 8) && okTo l l.length
theorem okTo_zero (l : List PairB) : okTo l 0 = true := rfl
theorem okTo_succ {l : List PairB} {k : Nat} (h : okTo l k = true) (h2 : okAt l k = true) : okTo l (k + 1) = true := by
  unfold okTo at *
  rw [List.range_succ, List.all_append, h]
  simp [h2]
theorem okTo_not {l : List PairB} {k n : Nat} (hk : k < n) (h2 : okAt l k = false) : okTo l n = false := by
  unfold okTo
  rw [List.all_eq_false]
  exact ⟨k, List.mem_range.2 hk, by simp [h2]⟩
theorem mayL_not {l : List PairB} {k : Nat} (hk : k < l.length) (h2 : okAt l k = false) : mayL l = false := by
  unfold mayL
  rw [okTo_not hk h2, Bool.and_false]
theorem mayL_long {l : List PairB} (h : 8 < l.length) : mayL l = false := by
  unfold mayL
  rw [decide_eq_false (by omega), Bool.false_and]
theorem mayL_yes {l : List PairB} {k : Nat} (hk : l.length ≤ k) (h8 : l.length ≤ 8) (h : okTo l k = true) (hk2 : k ≤ l.length) : mayL l = true := by
  have : k = l.length := by omega
  subst this
  unfold mayL
  rw [h, decide_eq_true h8]
  rfl
theorem okAt_first {l : List PairB} (h : 0 < l.length) : okAt l 0 = (isNm l[0].1 && mayV l[0].2) := by
  simp [okAt, List.getElem?_eq_getElem h]
theorem okAt_next {l : List PairB} {k : Nat} (h : k < l.length) (h0 : k ≠ 0) : okAt l k = (isNm l[k].1 && mayV l[k].2 && lessB l[k - 1].1 l[k].1) := by
  have h1 : k - 1 < l.length := by omega
  simp [okAt, List.getElem?_eq_getElem h, List.getElem?_eq_getElem h1, h0]

/-- labels that may be: as a sorted list -/
structure Good (l : List PairB) : Prop where
  len : l.length ≤ 8
  each : ∀ p ∈ l, isNm p.1 = true ∧ mayV p.2 = true
  rise : l.Pairwise (fun p q => lessB p.1 q.1 = true)
theorem rises_of {l : List PairB} (h : ∀ i (h0 : i + 1 < l.length), lessB l[i].1 l[i + 1].1 = true) : l.Pairwise (fun p q => lessB p.1 q.1 = true) := by
  rw [List.pairwise_iff_getElem]
  intro i j hi hj hij
  obtain ⟨d, rfl⟩ : ∃ d, j = i + 1 + d := ⟨j - i - 1, by omega⟩
  clear hij
  induction d with
  | zero => exact h i hj
  | succ d ih => exact less_trans _ _ _ (ih (by omega)) (h (i + 1 + d) (by omega))
theorem mayL_good (l : List PairB) : mayL l = true ↔ Good l := by
  constructor
  · intro h
    unfold mayL okTo at h
    rw [Bool.and_eq_true, decide_eq_true_eq, List.all_eq_true] at h
    obtain ⟨h8, h⟩ := h
    have each : ∀ i (hi : i < l.length), okAt l i = true := fun i hi => h i (List.mem_range.2 hi)
    refine ⟨h8, fun p hp => ?_, rises_of fun i hi => ?_⟩
    · obtain ⟨i, hi, rfl⟩ := List.getElem_of_mem hp
      have := each i hi
      by_cases h0 : i = 0
      · subst h0
        rw [okAt_first hi, Bool.and_eq_true] at this
        exact this
      · rw [okAt_next hi h0, Bool.and_eq_true, Bool.and_eq_true] at this
        exact this.1
    · have := each (i + 1) hi
      rw [okAt_next hi (by omega), Bool.and_eq_true] at this
      exact this.2
  · rintro ⟨h8, each, rise⟩
    unfold mayL okTo
    rw [decide_eq_true h8, Bool.true_and, List.all_eq_true]
    intro i hi
    have hi := List.mem_range.1 hi
    have := each _ (List.getElem_mem hi)
    by_cases h0 : i = 0
    · subst h0
      rw [okAt_first hi, this.1, this.2]
      rfl
    · rw [okAt_next hi h0, this.1, this.2, List.pairwise_iff_getElem.1 rise (i - 1) i (by omega) hi (by omega)]
      rfl

/-! needs -/
def mayVs (l : List ByteArray) : Bool := (decide (1 ≤ l.length) && decide (l.length ≤ 8)) && l.all mayV
def mayN (n : NB) : Bool := isNm n.name && (if n.kind = 1 ∨ n.kind = 2 then mayVs n.vals else if n.kind = 3 ∨ n.kind = 4 then decide (n.vals.length = 0) else false)
def hasL (l : List PairB) (nm : ByteArray) : Bool := l.any fun p => decide (p.1 = nm)
/-- is it one of these? -/
def inL (v : ByteArray) (vs : List ByteArray) : Bool := vs.any fun x => decide (x = v)
def oneL (l : List PairB) (nm : ByteArray) (vs : List ByteArray) : Bool := l.any fun p => decide (p.1 = nm) && inL p.2 vs
def metN (n : NB) (l : List PairB) : Bool := if n.kind = 1 then oneL l n.name n.vals else if n.kind = 2 then !oneL l n.name n.vals else if n.kind = 3 then hasL l n.name else !hasL l n.name
def met (n : NB) (l : List PairB) : Bool := mayN n && mayL l && metN n l
def needs (ns : List NB) : Bool := decide (ns.length ≤ 8) && ns.all mayN
def all (ns : List NB) (l : List PairB) : Bool := needs ns && mayL l && ns.all fun n => metN n l
def otherK (k : Int) : Int := if k = 1 then 2 else if k = 2 then 1 else if k = 3 then 4 else if k = 4 then 3 else 0
def notN (n : NB) : NB := { n with kind := otherK n.kind }
def sameN (a b : NB) : Bool := decide (a.kind = b.kind) && decide (a.name = b.name) && decide (a.vals = b.vals)
def sameL : List NB → List NB → Bool
  | [], [] => true
  | a :: x, b :: y => sameN a b && sameL x y
  | _, _ => false
theorem sameN_self (a : NB) : sameN a a = true := by simp [sameN]
theorem sameL_len : ∀ (a b : List NB), a.length ≠ b.length → sameL a b = false
  | [], [], h => absurd rfl h
  | [], _ :: _, _ => rfl
  | _ :: _, [], _ => rfl
  | a :: x, b :: y, h => by simp [sameL, sameL_len x y (by simpa using h)]
theorem sameL_take : ∀ (a b : List NB) (k : Nat) (ha : k < a.length) (hb : k < b.length), sameL (a.take (k + 1)) (b.take (k + 1)) = (sameL (a.take k) (b.take k) && sameN a[k] b[k])
  | a :: x, b :: y, 0, _, _ => by simp [sameL]
  | a :: x, b :: y, k + 1, ha, hb => by
    have := sameL_take x y k (by simpa using ha) (by simpa using hb)
    simp only [List.take_succ_cons, sameL, List.getElem_cons_succ]
    rw [this, Bool.and_assoc]
theorem sameL_not : ∀ (a b : List NB) (k : Nat) (ha : k < a.length) (hb : k < b.length), sameN a[k] b[k] = false → sameL a b = false
  | a :: x, b :: y, 0, _, _, h => by
    have : sameN a b = false := h
    simp [sameL, this]
  | a :: x, b :: y, k + 1, ha, hb, h => by
    have := sameL_not x y k (by simpa using ha) (by simpa using hb) (by simpa using h)
    simp [sameL, this]

/-- of labels that rise the first of a name is the only one -/
theorem oneL_cons (p : PairB) (l : List PairB) (nm : ByteArray) (vs : List ByteArray) : oneL (p :: l) nm vs = ((decide (p.1 = nm) && inL p.2 vs) || oneL l nm vs) := rfl
theorem hasL_cons (p : PairB) (l : List PairB) (nm : ByteArray) : hasL (p :: l) nm = (decide (p.1 = nm) || hasL l nm) := rfl
theorem one_none {l : List PairB} {nm : ByteArray} (vs : List ByteArray) (h : hasL l nm = false) : oneL l nm vs = false := by
  unfold hasL at h
  unfold oneL
  rw [List.any_eq_false] at h ⊢
  intro p hp
  have := h p hp
  simp at this
  simp [this]
theorem one_at {l : List PairB} {k : Nat} (hk : k < l.length) (vs : List ByteArray) (hr : l.Pairwise (fun p q => lessB p.1 q.1 = true)) : oneL l l[k].1 vs = inL l[k].2 vs := by
  cases h : inL l[k].2 vs
  · unfold oneL
    rw [List.any_eq_false]
    intro p hp
    obtain ⟨i, hi, rfl⟩ := List.getElem_of_mem hp
    intro hc
    rw [Bool.and_eq_true, decide_eq_true_eq] at hc
    obtain ⟨h1, h2⟩ := hc
    rw [List.pairwise_iff_getElem] at hr
    rcases Nat.lt_trichotomy i k with h3 | rfl | h3
    · have := hr i k hi hk h3
      rw [h1, lessB, less_irrefl] at this
      cases this
    · rw [h] at h2
      cases h2
    · have := hr k i hk hi h3
      rw [h1, lessB, less_irrefl] at this
      cases this
  · unfold oneL
    rw [List.any_eq_true]
    exact ⟨l[k], List.getElem_mem hk, by simp only [decide_true, Bool.true_and]; exact h⟩
theorem has_at {l : List PairB} {k : Nat} (hk : k < l.length) : hasL l l[k].1 = true := by
  unfold hasL
  rw [List.any_eq_true]
  exact ⟨l[k], List.getElem_mem hk, by simp⟩
theorem has_not {l : List PairB} {nm : ByteArray} (h : ∀ i (hi : i < l.length), l[i].1 ≠ nm) : hasL l nm = false := by
  unfold hasL
  rw [List.any_eq_false]
  intro p hp
  obtain ⟨i, hi, rfl⟩ := List.getElem_of_mem hp
  simp [h i hi]

/-! what follows -/
theorem mayN_kind {n : NB} (h : mayN n = true) : n.kind = 1 ∨ n.kind = 2 ∨ n.kind = 3 ∨ n.kind = 4 := by
  unfold mayN at h
  split at h
  · omega
  · split at h
    · omega
    · simp at h
theorem mayN_not (n : NB) (h : mayN n = true) : mayN (notN n) = true := by
  have hk := mayN_kind h
  unfold mayN notN otherK at *
  rcases hk with hk | hk | hk | hk <;> simp [hk] at h ⊢ <;> exact h
theorem notN_notN (n : NB) (h : mayN n = true) : notN (notN n) = n := by
  have hk := mayN_kind h
  obtain ⟨k, nm, vs⟩ := n
  simp only at hk
  rcases hk with rfl | rfl | rfl | rfl <;> rfl
theorem metN_not (n : NB) (h : mayN n = true) (l : List PairB) : metN (notN n) l = !metN n l := by
  have hk := mayN_kind h
  obtain ⟨k, nm, vs⟩ := n
  simp only at hk
  rcases hk with rfl | rfl | rfl | rfl <;> simp [notN, otherK, metN]
theorem needs_one (n : NB) : needs [n] = mayN n := by simp [needs]
theorem all_append {a b : List NB} (l : List PairB) (ha : a.length ≤ 4) (hb : b.length ≤ 4) : all (a ++ b) l = (all a l && all b l) := by
  unfold all needs
  rw [List.length_append, decide_eq_true (by omega : a.length + b.length ≤ 8), decide_eq_true (by omega : a.length ≤ 8), decide_eq_true (by omega : b.length ≤ 8), List.all_append, List.all_append]
  cases a.all mayN <;> cases b.all mayN <;> cases mayL l <;> simp
theorem all_nil (l : List PairB) : all [] l = mayL l := by simp [all, needs]
theorem all_one (n : NB) (l : List PairB) : all [n] l = met n l := by simp [all, needs, met]
theorem all_none (n : NB) (l : List PairB) (h : mayN n = true) : all [n, notN n] l = false := by
  simp [all, metN_not n h]
theorem all_twice (n : NB) (l : List PairB) : all [n, n] l = met n l := by simp [all, needs, met]
theorem all_not {n : NB} (l : List PairB) (h : mayN n = false) : all [n] l = false := by simp [all, needs, h]

theorem good_less {l : List PairB} (h : Good l) (k : Nat) : Good (l.take k ++ l.drop (k + 1)) := by
  have e : l.take k ++ l.drop (k + 1) = l.eraseIdx k := (List.eraseIdx_eq_take_drop_succ l k).symm
  rw [e]
  have hs := List.eraseIdx_sublist l k
  exact ⟨Nat.le_trans hs.length_le h.len, fun p hp => h.each p (hs.subset hp), h.rise.sublist hs⟩
theorem less_other {l : List PairB} {k : Nat} (hk : k < l.length) {nm : ByteArray} (hn : l[k].1 ≠ nm) : hasL (l.take k ++ l.drop (k + 1)) nm = hasL l nm ∧ ∀ vs, oneL (l.take k ++ l.drop (k + 1)) nm vs = oneL l nm vs := by
  have e : l = l.take k ++ (l[k] :: l.drop (k + 1)) := by rw [List.getElem_cons_drop, List.take_append_drop]
  constructor
  · rw [show hasL l nm = hasL (l.take k ++ (l[k] :: l.drop (k + 1))) nm from congrArg (hasL · nm) e]
    generalize l.take k = a
    generalize l.drop (k + 1) = b
    simp [hasL, hn]
  · intro vs
    rw [show oneL l nm vs = oneL (l.take k ++ (l[k] :: l.drop (k + 1))) nm vs from congrArg (oneL · nm vs) e]
    generalize l.take k = a
    generalize l.drop (k + 1) = b
    simp [oneL, hn]
theorem less_gone {l : List PairB} (h : Good l) {k : Nat} (hk : k < l.length) : hasL (l.take k ++ l.drop (k + 1)) l[k].1 = false := by
  have hr := h.rise
  rw [List.pairwise_iff_getElem] at hr
  have hne : ∀ i (hi : i < l.length), i ≠ k → l[i].1 ≠ l[k].1 := by
    intro i hi hik he
    rcases Nat.lt_or_gt_of_ne hik with h3 | h3
    · have := hr i k hi hk h3
      rw [he, lessB, less_irrefl] at this
      cases this
    · have := hr k i hk hi h3
      rw [he, lessB, less_irrefl] at this
      cases this
  unfold hasL
  rw [List.any_eq_false]
  intro p hp
  rw [decide_eq_true_eq]
  rcases List.mem_append.1 hp with hp | hp
  · obtain ⟨i, hi, rfl⟩ := List.getElem_of_mem hp
    rw [List.getElem_take]
    have : i < k := by simp at hi; omega
    exact hne i (by omega) (by omega)
  · obtain ⟨i, hi, rfl⟩ := List.getElem_of_mem hp
    rw [List.getElem_drop]
    simp at hi
    exact hne (k + 1 + i) (by omega) (by omega)
end La

end Go.Proofs.YtphinklnbjpohaaGreatDoor
