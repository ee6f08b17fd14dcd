/-
  Ranks, and what is first, without a program: of things of whatever type, h: it holds, ah: it comes ahead.
-/
import Derived.Below
namespace Go.Proofs.YtblmdcpcekoogaaGreatDoor.Ru

set_option linter.unusedSectionVars false

/-- one comes ahead of another: never two ways, and from one on to the next; likewise that it does not -/
structure Rank {α : Type} (ah : α → α → Bool) : Prop where
  irr : ∀ a, ah a a = false
  tr : ∀ a b c, ah a b = true → ah b c = true → ah a c = true
  neg : ∀ a b c, ah a b = false → ah b c = false → ah a c = false

section
variable {α : Type} {ah : α → α → Bool} {h : α → Bool}
theorem Rank.asym (R : Rank ah) {a b : α} (h1 : ah a b = true) : ah b a = false := by
  cases h2 : ah b a
  · rfl
  · have := R.tr a b a h1 h2
    rw [R.irr] at this
    cases this
/-- -1, 1, or 0 -/
def ord (ah : α → α → Bool) (a b : α) : Int := if ah a b then -1 else if ah b a then 1 else 0
theorem ord_cases (ah : α → α → Bool) (a b : α) : (ord ah a b = -1 ∧ ah a b = true) ∨ (ord ah a b = 1 ∧ ah a b = false ∧ ah b a = true) ∨ (ord ah a b = 0 ∧ ah a b = false ∧ ah b a = false) := by
  unfold ord
  cases h1 : ah a b
  · cases h2 : ah b a
    · exact .inr (.inr ⟨rfl, rfl, rfl⟩)
    · exact .inr (.inl ⟨rfl, rfl, rfl⟩)
  · exact .inl ⟨rfl, rfl⟩
theorem ord_self (R : Rank ah) (a : α) : ord ah a a = 0 := by
  unfold ord
  rw [R.irr]
  rfl
theorem ord_turn (R : Rank ah) (a b : α) : ord ah b a = - ord ah a b := by
  rcases ord_cases ah a b with ⟨e, h1⟩ | ⟨e, h1, h2⟩ | ⟨e, h1, h2⟩
  · rw [e]
    unfold ord
    rw [R.asym h1, h1]
    rfl
  · rw [e]
    unfold ord
    rw [h2]
    rfl
  · rw [e]
    unfold ord
    rw [h1, h2]
    rfl
/-- not behind: ord ≤ 0 just if the other one is not ahead -/
theorem ord_le (R : Rank ah) (a b : α) : ord ah a b ≤ 0 ↔ ah b a = false := by
  rcases ord_cases ah a b with ⟨e, h1⟩ | ⟨e, h1, h2⟩ | ⟨e, h1, h2⟩
  · rw [e, R.asym h1]; simp
  · rw [e, h2]; simp
  · rw [e, h2]; simp
theorem ord_lt (a b : α) : ord ah a b < 0 ↔ ah a b = true := by
  rcases ord_cases ah a b with ⟨e, h1⟩ | ⟨e, h1, h2⟩ | ⟨e, h1, h2⟩
  · rw [e, h1]; simp
  · rw [e, h1]; simp
  · rw [e, h1]; simp
theorem ord_trans (R : Rank ah) {a b c : α} (h1 : ord ah a b ≤ 0) (h2 : ord ah b c ≤ 0) : ord ah a c ≤ 0 := by
  rw [ord_le R] at *
  exact R.neg c b a h2 h1
theorem ord_strict (R : Rank ah) {a b c : α} (h1 : ord ah a b < 0) (h2 : ord ah b c ≤ 0) : ord ah a c < 0 := by
  rw [ord_lt] at *
  rw [ord_le R] at h2
  cases h3 : ah a c
  · have := R.neg a c b h3 h2
    rw [h1] at this
    cases this
  · rfl
theorem ord_zero (R : Rank ah) {a b c : α} (h1 : ord ah a b = 0) (h2 : ord ah b c = 0) : ord ah a c = 0 := by
  have a1 := ord_trans R (a := a) (b := b) (c := c) (by omega) (by omega)
  have b1 := ord_turn R a b
  have b2 := ord_turn R b c
  have b3 := ord_turn R a c
  have a2 := ord_trans R (a := c) (b := b) (c := a) (by omega) (by omega)
  omega

/-! ### what is first -/
/-- one more: the best so far, or the new one -/
def stepB (h : α → Bool) (ah : α → α → Bool) (o : Option (Nat × α)) (n : Nat) (x : α) : Option (Nat × α) := match o with
  | none => if h x then some (n, x) else none
  | some (i, y) => if h x && ah x y then some (n, x) else some (i, y)
def bestTo (h : α → Bool) (ah : α → α → Bool) (l : List α) : Nat → Option (Nat × α)
  | 0 => none
  | k + 1 => match l[k]? with
    | some x => stepB h ah (bestTo h ah l k) k x
    | none => bestTo h ah l k
theorem bestTo_succ (l : List α) (k : Nat) (hk : k < l.length) : bestTo h ah l (k + 1) = stepB h ah (bestTo h ah l k) k l[k] := by
  show (match l[k]? with | some x => _ | none => _) = _
  rw [List.getElem?_eq_getElem hk]
def best (h : α → Bool) (ah : α → α → Bool) (l : List α) : Option (Nat × α) := bestTo h ah l l.length

/-- the first of those that hold than which none that holds comes ahead -/
structure Best (h : α → Bool) (ah : α → α → Bool) (l : List α) (k i : Nat) (y : α) : Prop where
  lt : i < k
  at_ : l[i]? = some y
  holds : h y = true
  none_ahead : ∀ j x, j < k → l[j]? = some x → h x = true → ah x y = false
  before : ∀ j x, j < i → l[j]? = some x → h x = true → ah y x = true

/-- the best so far, or none -/
def BestOr (h : α → Bool) (ah : α → α → Bool) (l : List α) (k : Nat) : Option (Nat × α) → Prop
  | none => ∀ j x, j < k → l[j]? = some x → h x = false
  | some (i, y) => Best h ah l k i y

theorem bestTo_spec (R : Rank ah) (l : List α) : ∀ k, k ≤ l.length → BestOr h ah l k (bestTo h ah l k)
  | 0, _ => fun j x hj => absurd hj (by omega)
  | k + 1, hk => by
    have ih := bestTo_spec R l k (by omega)
    have hkl : k < l.length := by omega
    have hat : l[k]? = some l[k] := List.getElem?_eq_getElem hkl
    rw [bestTo_succ l k hkl]
    generalize bestTo h ah l k = o at ih
    cases o with
    | none =>
      unfold stepB
      cases hx : h l[k]
      · intro j x hj hjx
        rcases Nat.lt_or_ge j k with h1 | h1
        · exact ih j x h1 hjx
        · obtain rfl : j = k := by omega
          rw [hat] at hjx
          cases hjx
          exact hx
      · refine ⟨by omega, hat, hx, fun j x hj hjx hh => ?_, fun j x hj hjx hh => ?_⟩
        · rcases Nat.lt_or_ge j k with h1 | h1
          · rw [ih j x h1 hjx] at hh; cases hh
          · obtain rfl : j = k := by omega
            rw [hat] at hjx
            cases hjx
            exact R.irr _
        · rw [ih j x hj hjx] at hh; cases hh
    | some p =>
      obtain ⟨i, y⟩ := p
      have ih' : Best h ah l k i y := ih
      cases hx : h l[k] && ah l[k] y
      · rw [show stepB h ah (some (i, y)) k l[k] = some (i, y) by simp only [stepB, hx]; rfl]
        show Best h ah l (k + 1) i y
        refine ⟨by have := ih'.lt; omega, ih'.at_, ih'.holds, fun j x hj hjx hh => ?_, ih'.before⟩
        rcases Nat.lt_or_ge j k with h1 | h1
        · exact ih'.none_ahead j x h1 hjx hh
        · obtain rfl : j = k := by omega
          rw [hat] at hjx
          cases hjx
          rw [hh, Bool.true_and] at hx
          exact hx
      · obtain ⟨hx1, hx2⟩ := (Bool.and_eq_true _ _).mp hx
        have old : ∀ j x, j < k → l[j]? = some x → h x = true → ah l[k] x = true := fun j x hj hjx hh => by
          have h1 := ih'.none_ahead j x hj hjx hh
          cases h2 : ah l[k] x
          · rw [R.neg _ _ _ h2 h1] at hx2
            cases hx2
          · rfl
        rw [show stepB h ah (some (i, y)) k l[k] = some (k, l[k]) by simp only [stepB, hx]; rfl]
        show Best h ah l (k + 1) k l[k]
        refine ⟨by omega, hat, hx1, fun j x hj hjx hh => ?_, old⟩
        rcases Nat.lt_or_ge j k with h1 | h1
        · exact R.asym (old j x h1 hjx hh)
        · obtain rfl : j = k := by omega
          rw [hat] at hjx
          cases hjx
          exact R.irr _

/-- there is one such at most -/
theorem Best.same {l : List α} {k i j : Nat} {y z : α} (a : Best h ah l k i y) (b : Best h ah l k j z) : i = j := by
  rcases Nat.lt_trichotomy i j with h1 | h1 | h1
  · have h2 := b.before i y h1 a.at_ a.holds
    rw [a.none_ahead j z b.lt b.at_ b.holds] at h2
    cases h2
  · exact h1
  · have h2 := a.before j z h1 b.at_ b.holds
    rw [b.none_ahead i y a.lt a.at_ a.holds] at h2
    cases h2
theorem best_some (R : Rank ah) {l : List α} {i : Nat} {y : α} (b : Best h ah l l.length i y) : best h ah l = some (i, y) := by
  have hs := bestTo_spec (h := h) R l l.length (Nat.le_refl _)
  unfold best
  generalize bestTo h ah l l.length = o at hs
  cases o with
  | none =>
    have := hs i y b.lt b.at_
    rw [b.holds] at this
    cases this
  | some p =>
    obtain ⟨j, z⟩ := p
    have e : i = j := b.same hs
    subst e
    have := b.at_.symm.trans (Best.at_ hs)
    cases this
    rfl
theorem best_none (R : Rank ah) {l : List α} (b : ∀ x ∈ l, h x = false) : best h ah l = none := by
  have hs := bestTo_spec (h := h) R l l.length (Nat.le_refl _)
  unfold best
  generalize bestTo h ah l l.length = o at hs
  cases o with
  | none => rfl
  | some p =>
    obtain ⟨j, z⟩ := p
    have hs' : Best h ah l l.length j z := hs
    have := b z (List.mem_of_getElem? hs'.at_)
    rw [hs'.holds] at this
    cases this
theorem best_is (R : Rank ah) {l : List α} {i : Nat} {y : α} (e : best h ah l = some (i, y)) : Best h ah l l.length i y := by
  have hs := bestTo_spec (h := h) R l l.length (Nat.le_refl _)
  unfold best at e
  rw [e] at hs
  exact hs
theorem best_isnone (R : Rank ah) {l : List α} (e : best h ah l = none) : ∀ x ∈ l, h x = false := by
  have hs := bestTo_spec (h := h) R l l.length (Nat.le_refl _)
  unfold best at e
  rw [e] at hs
  intro x hx
  obtain ⟨j, hj, rfl⟩ := List.getElem_of_mem hx
  exact hs j _ hj (List.getElem?_eq_getElem hj)

/-- the document's own words: the first that holds and than which none that holds comes ahead -/
def top (h : α → Bool) (ah : α → α → Bool) (l : List α) (y : α) : Bool := h y && l.all fun x => !(h x && ah x y)
theorem best_words (R : Rank ah) {l : List α} {i : Nat} (hi : i < l.length) (ht : top h ah l l[i] = true) (hb : ∀ j (hj : j < l.length), j < i → top h ah l l[j] = false) : best h ah l = some (i, l[i]) := by
  unfold top at ht
  rw [Bool.and_eq_true, List.all_eq_true] at ht
  obtain ⟨t1, t2⟩ := ht
  have t3 : ∀ x ∈ l, h x = true → ah x l[i] = false := fun x hx hh => by
    have := t2 x hx
    rw [hh, Bool.true_and] at this
    simpa using this
  refine best_some R ⟨hi, List.getElem?_eq_getElem hi, t1, fun j x _ hjx hh => t3 x (List.mem_of_getElem? hjx) hh, fun j x hj hjx hh => ?_⟩
  have hjl : j < l.length := by omega
  rw [List.getElem?_eq_getElem hjl] at hjx
  cases hjx
  have h1 := hb j hjl hj
  unfold top at h1
  rw [hh, Bool.true_and, List.all_eq_false] at h1
  obtain ⟨z, hz, h2⟩ := h1
  simp only [Bool.not_eq_true, Bool.not_eq_false', Bool.and_eq_true] at h2
  have h3 := t3 z hz h2.1
  cases h4 : ah l[i] l[j]
  · rw [R.neg _ _ _ h3 h4] at h2
    cases h2.2
  · rfl
theorem best_words_none (R : Rank ah) {l : List α} (hb : ∀ j (hj : j < l.length), top h ah l l[j] = false) : best h ah l = none := by
  cases hbe : best h ah l with
  | none => rfl
  | some p =>
    obtain ⟨i, y⟩ := p
    have b := best_is R hbe
    have hi := b.lt
    have hat := b.at_
    rw [List.getElem?_eq_getElem hi] at hat
    cases hat
    have h1 := hb i hi
    unfold top at h1
    rw [b.holds, Bool.true_and, List.all_eq_false] at h1
    obtain ⟨z, hz, h2⟩ := h1
    simp only [Bool.not_eq_true, Bool.not_eq_false', Bool.and_eq_true] at h2
    obtain ⟨j, hj, rfl⟩ := List.getElem_of_mem hz
    rw [b.none_ahead j _ hj (List.getElem?_eq_getElem hj) h2.1] at h2
    cases h2.2

/-- one more behind -/
theorem bestTo_append (l r : List α) : ∀ k, k ≤ l.length → bestTo h ah (l ++ r) k = bestTo h ah l k
  | 0, _ => rfl
  | k + 1, hk => by
    have hkl : k < l.length := by omega
    rw [bestTo_succ l k hkl, bestTo_succ (l ++ r) k (by simp; omega), bestTo_append l r k (by omega), List.getElem_append_left hkl]
theorem best_snoc (l : List α) (x : α) : best h ah (l ++ [x]) = stepB h ah (best h ah l) l.length x := by
  unfold best
  rw [show (l ++ [x]).length = l.length + 1 by simp, bestTo_succ _ _ (by simp), bestTo_append l [x] _ (Nat.le_refl _)]
  simp

/-- in another order: one is first there, too, of the same rank -/
theorem best_turned (R : Rank ah) {l r : List α} (hm : ∀ x, x ∈ l ↔ x ∈ r) :
    (best h ah l = none ∧ best h ah r = none) ∨ ∃ i y j z, best h ah l = some (i, y) ∧ best h ah r = some (j, z) ∧ ord ah y z = 0 := by
  cases hl : best h ah l with
  | none => exact .inl ⟨rfl, best_none R fun x hx => best_isnone R hl x ((hm x).2 hx)⟩
  | some p =>
    obtain ⟨i, y⟩ := p
    have b := best_is R hl
    cases hr : best h ah r with
    | none =>
      have := best_isnone R hr y ((hm y).1 (List.mem_of_getElem? b.at_))
      rw [b.holds] at this
      cases this
    | some q =>
      obtain ⟨j, z⟩ := q
      have c := best_is R hr
      refine .inr ⟨i, y, j, z, rfl, rfl, ?_⟩
      obtain ⟨n, hn, e⟩ := List.getElem_of_mem ((hm z).2 (List.mem_of_getElem? c.at_))
      obtain ⟨m, hm', e'⟩ := List.getElem_of_mem ((hm y).1 (List.mem_of_getElem? b.at_))
      have h1 := b.none_ahead n z hn (by rw [List.getElem?_eq_getElem hn, e]) c.holds
      have h2 := c.none_ahead m y hm' (by rw [List.getElem?_eq_getElem hm', e']) b.holds
      unfold ord
      rw [h1, h2]
      rfl
/-- twice: where it stands first -/
theorem best_twice (R : Rank ah) (l : List α) : best h ah (l ++ l) = best h ah l := by
  cases hl : best h ah l with
  | none => exact best_none R fun x hx => best_isnone R hl x (by simpa using hx)
  | some p =>
    obtain ⟨i, y⟩ := p
    have b := best_is R hl
    have hlt := b.lt
    refine best_some R ⟨by simp; omega, by rw [List.getElem?_append_left hlt]; exact b.at_, b.holds, fun j x hj hjx hh => ?_, fun j x hj hjx hh => ?_⟩
    · have hx : x ∈ l := by simpa using List.mem_of_getElem? hjx
      obtain ⟨n, hn, rfl⟩ := List.getElem_of_mem hx
      exact b.none_ahead n _ hn (List.getElem?_eq_getElem hn) hh
    · rw [List.getElem?_append_left (by omega)] at hjx
      exact b.before j x hj hjx hh
end

/-! ### ranks of five numbers, the first that differs decides -/
abbrev Five := Int × Int × Int × Int × Int
def lt5 (a b : Five) : Bool := decide (a.1 < b.1 ∨ a.1 = b.1 ∧ (a.2.1 < b.2.1 ∨ a.2.1 = b.2.1 ∧ (a.2.2.1 < b.2.2.1 ∨ a.2.2.1 = b.2.2.1 ∧ (a.2.2.2.1 < b.2.2.2.1 ∨ a.2.2.2.1 = b.2.2.2.1 ∧ a.2.2.2.2 < b.2.2.2.2))))
theorem lt5_rank {α : Type} (key : α → Five) : Rank (fun a b => lt5 (key a) (key b)) := by
  refine ⟨fun a => ?_, fun a b c => ?_, fun a b c => ?_⟩
  · unfold lt5
    simp only [decide_eq_false_iff_not]
    omega
  · unfold lt5
    simp only [decide_eq_true_eq]
    omega
  · unfold lt5
    simp only [decide_eq_false_iff_not]
    omega

end Go.Proofs.YtblmdcpcekoogaaGreatDoor.Ru
