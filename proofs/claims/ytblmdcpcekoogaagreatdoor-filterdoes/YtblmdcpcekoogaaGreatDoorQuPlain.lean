/-
  Queries on lists of octets, without a program: which octets are plain, how they are written and read, a query's text, its pairs; and what follows of them.
-/
import Derived.Test.YtblmdcpcekoogaaGreatDoorPlain
namespace Go.Proofs.YtblmdcpcekoogaaGreatDoor.Qu
open Go.Proofs.YtblmdcpcekoogaaGreatDoor

/-- a name, and a value -/
abbrev PairL := List UInt8 × List UInt8

def plainN (n : Nat) : Bool := (decide (97 ≤ n) && decide (n ≤ 122)) || (decide (65 ≤ n) && decide (n ≤ 90)) || (decide (48 ≤ n) && decide (n ≤ 57)) || n == 45 || n == 46 || n == 95 || n == 126
def plainO (c : UInt8) : Bool := plainN c.toNat
def hexN (n : Nat) : Nat := if n < 10 then 48 + n else 55 + n
def hexd (n : Nat) : UInt8 := (hexN n).toUInt8
/-- an octet, written -/
def wr1 (c : UInt8) : List UInt8 := if plainO c then [c] else if c = 32 then [43] else [37, hexd (c.toNat / 16), hexd (c.toNat % 16)]
def wr (l : List UInt8) : List UInt8 := l.flatMap wr1
def one (p : PairL) : List UInt8 := wr p.1 ++ 61 :: wr p.2
def txt : List PairL → List UInt8
  | [] => []
  | [p] => one p
  | p :: q :: r => one p ++ 38 :: txt (q :: r)
/-- a digit's number; 99: it is none -/
def num (c : UInt8) : Nat := if 48 ≤ c.toNat ∧ c.toNat ≤ 57 then c.toNat - 48 else if 65 ≤ c.toNat ∧ c.toNat ≤ 70 then c.toNat - 55 else if 97 ≤ c.toNat ∧ c.toNat ≤ 102 then c.toNat - 87 else 99
def octet (a b : UInt8) : UInt8 := (16 * num a + num b).toUInt8
def rd : List UInt8 → Option (List UInt8)
  | [] => some []
  | [c] => if c = 37 then none else some [if c = 43 then 32 else c]
  | [c, a] => if c = 37 then none else (rd [a]).map ((if c = 43 then 32 else c) :: ·)
  | c :: a :: b :: r => if c = 37 then (if num a ≤ 15 ∧ num b ≤ 15 then (rd r).map (octet a b :: ·) else none) else (rd (a :: b :: r)).map ((if c = 43 then 32 else c) :: ·)
def nameOf (l : List UInt8) : List UInt8 := l.takeWhile (· != 61)
def valOf (l : List UInt8) : List UInt8 := (l.dropWhile (· != 61)).drop 1
def part (l : List UInt8) : Option PairL := match rd (nameOf l), rd (valOf l) with
  | some a, some b => some (a, b)
  | _, _ => none
def parts : List (List UInt8) → Option (List PairL)
  | [] => some []
  | p :: r => match part p, parts r with
    | some x, some y => some (x :: y)
    | _, _ => none
def mayP (p : PairL) : Bool := decide (1 ≤ p.1.length) && decide (p.1.length ≤ 40) && decide (p.2.length ≤ 40)
def may (l : List PairL) : Bool := l.all mayP && decide (l.length ≤ 20)
def parse (s : List UInt8) : Option (List PairL) := if s = [] then some [] else match parts (D.spl 38 s) with
  | some l => if may l then some l else none
  | none => none

/-! ### reading what was written -/
theorem rd_ord {c : UInt8} {r : List UInt8} (h37 : c ≠ 37) : rd (c :: r) = (rd r).map ((if c = 43 then 32 else c) :: ·) := by
  match r with
  | [] => simp [rd, h37]
  | [a] => simp only [rd, h37, if_false]
  | a :: b :: r => simp only [rd, h37, if_false]
theorem rd_hex {a b : UInt8} {r : List UInt8} (ha : num a ≤ 15) (hb : num b ≤ 15) : rd (37 :: a :: b :: r) = (rd r).map (octet a b :: ·) := by
  simp [rd, ha, hb]
theorem num_hex : ∀ n, n < 16 → num (hexd n) = n := by decide
theorem hexd_ok : ∀ n, n < 16 → hexd n ≠ 38 ∧ hexd n ≠ 61 := by decide
theorem octet_hex (c : UInt8) : octet (hexd (c.toNat / 16)) (hexd (c.toNat % 16)) = c := by
  have h := c.toNat_lt
  unfold octet
  rw [num_hex _ (by omega), num_hex _ (by omega)]
  apply UInt8.toNat_inj.1
  simp
  omega
theorem plain_not {c : UInt8} (h : plainO c = true) : c ≠ 37 ∧ c ≠ 43 ∧ c ≠ 38 ∧ c ≠ 61 := by
  refine ⟨?_, ?_, ?_, ?_⟩ <;> (rintro rfl; revert h; decide)
theorem rd_wr1 (c : UInt8) (r : List UInt8) : rd (wr1 c ++ r) = (rd r).map (c :: ·) := by
  unfold wr1
  split
  · rename_i h
    have hp := plain_not h
    show rd (c :: r) = _
    rw [rd_ord hp.1, if_neg hp.2.1]
  · split
    · rename_i h
      subst h
      show rd (43 :: r) = _
      rw [rd_ord (by decide), if_pos rfl]
    · have h := c.toNat_lt
      show rd (37 :: hexd (c.toNat / 16) :: hexd (c.toNat % 16) :: r) = _
      rw [rd_hex (by rw [num_hex _ (by omega)]; omega) (by rw [num_hex _ (by omega)]; omega), octet_hex]
theorem rd_wr : ∀ l : List UInt8, rd (wr l) = some l
  | [] => rfl
  | c :: l => by
    show rd (wr1 c ++ wr l) = _
    rw [rd_wr1, rd_wr l]
    rfl
theorem wr1_ok (c : UInt8) : ∀ x ∈ wr1 c, x ≠ 38 ∧ x ≠ 61 ∧ (plainO x = true ∨ x = 43 ∨ x = 37) := by
  intro x hx
  unfold wr1 at hx
  split at hx
  · rename_i h
    simp at hx
    subst hx
    have hp := plain_not h
    exact ⟨hp.2.2.1, hp.2.2.2, .inl h⟩
  · split at hx
    · simp at hx
      subst hx
      exact ⟨by decide, by decide, .inr (.inl rfl)⟩
    · have hc := c.toNat_lt
      have hd : ∀ n, n < 16 → plainO (hexd n) = true := by decide
      have h1 := hexd_ok (c.toNat / 16) (by omega)
      have h2 := hexd_ok (c.toNat % 16) (by omega)
      simp at hx
      rcases hx with rfl | rfl | rfl
      · exact ⟨by decide, by decide, .inr (.inr rfl)⟩
      · exact ⟨h1.1, h1.2, .inl (hd _ (by omega))⟩
      · exact ⟨h2.1, h2.2, .inl (hd _ (by omega))⟩
theorem wr_ok (l : List UInt8) : ∀ x ∈ wr l, x ≠ 38 ∧ x ≠ 61 ∧ (plainO x = true ∨ x = 43 ∨ x = 37) := by
  intro x hx
  obtain ⟨c, _, hc⟩ := List.mem_flatMap.1 hx
  exact wr1_ok c x hc
theorem take_eq {a b : List UInt8} (h : ∀ x ∈ a, x ≠ 61) : nameOf (a ++ 61 :: b) = a ∧ valOf (a ++ 61 :: b) = b := by
  unfold nameOf valOf
  induction a with
  | nil => simp
  | cons c a ih =>
    have hc : (c != 61) = true := by simpa using h c (by simp)
    have := ih (fun x hx => h x (by simp [hx]))
    simp [hc, this]
theorem part_one (p : PairL) : part (one p) = some p := by
  have h := take_eq (b := wr p.2) (fun x hx => (wr_ok p.1 x hx).2.1)
  unfold part one
  rw [h.1, h.2, rd_wr, rd_wr]
theorem one_ok (p : PairL) : ∀ x ∈ one p, x ≠ 38 := by
  intro x hx
  rcases List.mem_append.1 hx with h | h
  · exact (wr_ok _ x h).1
  · rcases List.mem_cons.1 h with rfl | h
    · decide
    · exact (wr_ok _ x h).1
theorem spl_txt : ∀ l : List PairL, l ≠ [] → D.spl 38 (txt l) = l.map one
  | [], h => absurd rfl h
  | [p], _ => D.spl_none (one_ok p)
  | p :: q :: r, _ => by
    show D.spl 38 (one p ++ 38 :: txt (q :: r)) = _
    rw [D.spl_at (one_ok p), spl_txt (q :: r) (by simp)]
    rfl
theorem parts_ones : ∀ l : List PairL, parts (l.map one) = some l
  | [] => rfl
  | p :: l => by
    show parts (one p :: l.map one) = _
    unfold parts
    rw [part_one, parts_ones l]
theorem one_ne (p : PairL) : one p ≠ [] := by unfold one; simp
theorem txt_ne : ∀ l : List PairL, l ≠ [] → txt l ≠ []
  | [], h => absurd rfl h
  | [p], _ => one_ne p
  | p :: q :: r, _ => by
    show one p ++ 38 :: txt (q :: r) ≠ []
    simp
/-- what is written is read as it was -/
theorem parse_txt {l : List PairL} (h : may l = true) : parse (txt l) = some l := by
  unfold parse
  cases l with
  | nil => rfl
  | cons p r =>
    rw [if_neg (txt_ne _ (by simp)), spl_txt _ (by simp), parts_ones]
    exact if_pos h
theorem parse_may {s : List UInt8} {l : List PairL} (h : parse s = some l) : may l = true := by
  unfold parse at h
  split at h
  · cases h; rfl
  · split at h
    · split at h
      · cases h; assumption
      · cases h
    · cases h
theorem txt_inj {a b : List PairL} (ha : may a = true) (hb : may b = true) : txt a = txt b ↔ a = b := by
  constructor
  · intro h
    have h1 := parse_txt ha
    rw [h, parse_txt hb] at h1
    exact (Option.some.inj h1).symm
  · rintro rfl; rfl

/-! ### the text, from its beginning on -/
theorem txt_snoc : ∀ (l : List PairL) (p : PairL), txt (l ++ [p]) = (if l = [] then [] else txt l ++ [38]) ++ one p
  | [], _ => rfl
  | [q], p => by
    show one q ++ 38 :: one p = _
    simp [txt]
  | q :: q2 :: r, p => by
    have := txt_snoc (q2 :: r) p
    show one q ++ 38 :: txt (q2 :: r ++ [p]) = (one q ++ 38 :: txt (q2 :: r) ++ [38]) ++ one p
    rw [this]
    simp
theorem txt_all (l : List PairL) : ∀ x ∈ txt l, plainO x = true ∨ x = 43 ∨ x = 37 ∨ x = 61 ∨ x = 38 := by
  have h1 : ∀ p : PairL, ∀ x ∈ one p, plainO x = true ∨ x = 43 ∨ x = 37 ∨ x = 61 ∨ x = 38 := by
    intro p x hx
    rcases List.mem_append.1 hx with h | h
    · rcases (wr_ok _ x h).2.2 with h | h | h
      · exact .inl h
      · exact .inr (.inl h)
      · exact .inr (.inr (.inl h))
    · rcases List.mem_cons.1 h with h | h
      · exact .inr (.inr (.inr (.inl h)))
      · rcases (wr_ok _ x h).2.2 with h | h | h
        · exact .inl h
        · exact .inr (.inl h)
        · exact .inr (.inr (.inl h))
  induction l with
  | nil => intro x hx; simp [txt] at hx
  | cons p r ih =>
    intro x hx
    cases r with
    | nil => exact h1 p x hx
    | cons q r =>
      have hx' : x ∈ one p ++ 38 :: txt (q :: r) := hx
      rcases List.mem_append.1 hx' with h | h
      · exact h1 p x h
      · rcases List.mem_cons.1 h with h | h
        · exact .inr (.inr (.inr (.inr h)))
        · exact ih x h

/-! ### two texts, joined -/
theorem spl_cons (c a : UInt8) (r : List UInt8) : D.spl c (a :: r) = if a = c then [] :: D.spl c r else ((a :: (D.spl c r).headD []) :: (D.spl c r).tail) := rfl
theorem spl_join (a b : List UInt8) : D.spl 38 (a ++ 38 :: b) = D.spl 38 a ++ D.spl 38 b := by
  induction a with
  | nil => simp [D.spl]
  | cons c a ih =>
    show D.spl 38 (c :: (a ++ 38 :: b)) = _
    rw [spl_cons, spl_cons, ih]
    have hne := D.spl_ne 38 a
    cases hs : D.spl 38 a with
    | nil => exact absurd hs hne
    | cons x y => split <;> simp
theorem parts_cons (p : List UInt8) (r : List (List UInt8)) : parts (p :: r) = match part p, parts r with
    | some x, some y => some (x :: y)
    | _, _ => none := rfl
theorem parts_append : ∀ (x y : List (List UInt8)), parts (x ++ y) = match parts x, parts y with
    | some a, some b => some (a ++ b)
    | _, _ => none
  | [], y => by simp only [List.nil_append, parts]; cases parts y <;> rfl
  | p :: x, y => by
    show parts (p :: (x ++ y)) = _
    rw [parts_cons, parts_cons, parts_append x y]
    cases part p <;> cases parts x <;> cases parts y <;> rfl
theorem may_append (a b : List PairL) : may (a ++ b) = (a.all mayP && b.all mayP && decide (a.length + b.length ≤ 20)) := by
  simp [may]
theorem nameless {l : List UInt8} (h : l = []) : part l = some ([], []) := by subst h; rfl
theorem spl_first (b : List UInt8) : D.spl 38 (38 :: b) = [] :: D.spl 38 b := by simp [D.spl]
/-- what is parse of two that are joined -/
theorem parse_join (a b : List UInt8) : parse (a ++ 38 :: b) = match parts (D.spl 38 a), parts (D.spl 38 b) with
    | some x, some y => if x.all mayP && y.all mayP && decide (x.length + y.length ≤ 20) then some (x ++ y) else none
    | _, _ => none := by
  unfold parse
  rw [if_neg (by simp), spl_join, parts_append]
  cases parts (D.spl 38 a) with
  | none => rfl
  | some x =>
    cases parts (D.spl 38 b) with
    | none => rfl
    | some y =>
      simp only [may_append]
theorem parse_some {s : List UInt8} {l : List PairL} (hs : s ≠ []) : parse s = some l ↔ parts (D.spl 38 s) = some l ∧ may l = true := by
  unfold parse
  rw [if_neg hs]
  cases parts (D.spl 38 s) with
  | none => simp
  | some x =>
    by_cases h : may x = true
    · simp only [h, if_true, Option.some.injEq]
      constructor
      · rintro rfl; exact ⟨rfl, h⟩
      · exact fun h => h.1
    · simp only [h, Option.some.injEq]
      constructor
      · intro h; cases h
      · rintro ⟨rfl, h2⟩; exact absurd h2 h
theorem parts_none_part : parts (D.spl 38 []) = some [([], [])] := rfl
theorem join_bad {a b : List UInt8} (h : parse a = none ∨ parse b = none ∨ a = [] ∨ b = []) : parse (a ++ 38 :: b) = none := by
  rw [parse_join]
  have key : ∀ s : List UInt8, (parse s = none ∨ s = []) → ∀ l, parts (D.spl 38 s) = some l → (l.all mayP && decide (l.length ≤ 20)) = false := by
    intro s hs l hl
    by_cases he : s = []
    · subst he
      rw [parts_none_part] at hl
      cases hl
      rfl
    · rcases hs with hs | hs
      · rw [Bool.eq_false_iff]
        intro hm
        have := (parse_some he).2 ⟨hl, hm⟩
        rw [hs] at this
        cases this
      · exact absurd hs he
  cases hx : parts (D.spl 38 a) with
  | none => rfl
  | some x =>
    cases hy : parts (D.spl 38 b) with
    | none => rfl
    | some y =>
      have hb : (x.all mayP && decide (x.length ≤ 20)) = false ∨ (y.all mayP && decide (y.length ≤ 20)) = false := by
        rcases h with h | h | h | h
        · exact .inl (key a (.inl h) x hx)
        · exact .inr (key b (.inl h) y hy)
        · exact .inl (key a (.inr h) x hx)
        · exact .inr (key b (.inr h) y hy)
      have hf : (x.all mayP && y.all mayP && decide (x.length + y.length ≤ 20)) = false := by
        rw [Bool.eq_false_iff]
        intro hm
        simp only [Bool.and_eq_true, decide_eq_true_eq] at hm
        rcases hb with hb | hb
        · rw [hm.1.1, decide_eq_true (by omega)] at hb; cases hb
        · rw [hm.1.2, decide_eq_true (by omega)] at hb; cases hb
      simp only [hf]
      rfl
theorem join_good {a b : List UInt8} {x y : List PairL} (ha : a ≠ []) (hb : b ≠ []) (hx : parse a = some x) (hy : parse b = some y) : parse (a ++ 38 :: b) = if x.length + y.length ≤ 20 then some (x ++ y) else none := by
  obtain ⟨h1, h2⟩ := (parse_some ha).1 hx
  obtain ⟨h3, h4⟩ := (parse_some hb).1 hy
  simp only [may, Bool.and_eq_true] at h2 h4
  rw [parse_join, h1, h3]
  simp only [h2.1, h4.1, Bool.true_and, decide_eq_true_eq]

/-! ### in another order; one pair alone -/
theorem txt_length : ∀ l : List PairL, (txt l).length = (l.map fun p => (one p).length).sum + (l.length - 1)
  | [] => rfl
  | [p] => by simp [txt]
  | p :: q :: r => by
    have := txt_length (q :: r)
    show (one p ++ 38 :: txt (q :: r)).length = _
    rw [List.length_append, List.length_cons, this]
    simp
    omega
theorem turn_length (l : List PairL) (k : Nat) : (txt (l.drop k ++ l.take k)).length = (txt l).length := by
  have h : ((l.drop k ++ l.take k).map fun p => (one p).length).sum = (l.map fun p => (one p).length).sum := by
    rw [List.map_append, List.sum_append, Nat.add_comm, ← List.sum_append, ← List.map_append, List.take_append_drop]
  rw [txt_length, txt_length, h]
  simp
  omega
theorem turn_may (l : List PairL) (k : Nat) : may (l.drop k ++ l.take k) = may l := by
  have h := may_append (l.take k) (l.drop k)
  rw [List.take_append_drop] at h
  rw [h, may_append, Bool.and_comm (List.all _ _), Nat.add_comm]
theorem txt_mid : ∀ (a : List PairL) (p : PairL) (b : List PairL), ∃ x y, txt (a ++ p :: b) = x ++ one p ++ y
  | [], p, [] => ⟨[], [], by simp [txt]⟩
  | [], p, q :: b => ⟨[], 38 :: txt (q :: b), by simp [txt]⟩
  | [c], p, b => by
    obtain ⟨x, y, h⟩ := txt_mid [] p b
    refine ⟨one c ++ 38 :: x, y, ?_⟩
    show one c ++ 38 :: txt ([] ++ p :: b) = _
    rw [h]
    simp
  | c :: d :: a, p, b => by
    obtain ⟨x, y, h⟩ := txt_mid (d :: a) p b
    refine ⟨one c ++ 38 :: x, y, ?_⟩
    show one c ++ 38 :: txt (d :: a ++ p :: b) = _
    rw [h]
    simp
/-- a pair's text alone stands somewhere in theirs -/
theorem txt_has (l : List PairL) (k : Nat) (hk : k < l.length) : ∃ i, i + (one l[k]).length ≤ (txt l).length ∧ ((txt l).drop i).take (one l[k]).length = one l[k] := by
  obtain ⟨x, y, h⟩ := txt_mid (l.take k) l[k] (l.drop (k + 1))
  have e : l.take k ++ l[k] :: l.drop (k + 1) = l := by
    rw [← List.drop_eq_getElem_cons hk]
    exact List.take_append_drop k l
  rw [e] at h
  refine ⟨x.length, ?_, ?_⟩
  · rw [h]; simp
  · rw [h]; simp
theorem one_alone {l : List PairL} {k : Nat} (hk : k < l.length) : (l.drop k).take 1 = [l[k]] := by
  rw [List.drop_eq_getElem_cons hk]
  rfl
theorem may_part {l : List PairL} {p : PairL} (h : may l = true) (hp : p ∈ l) : may [p] = true := by
  simp only [may, Bool.and_eq_true, List.all_eq_true] at h
  simp [may, h.1 p hp]

/-! ### each octet -/
theorem oct_may (c : UInt8) : may [([c], [c, c])] = true := rfl
theorem oct_plain (c : UInt8) : plainO c = (txt [([c], [c, c])] == [c, 61, c, c]) := by
  rw [Bool.eq_iff_iff, beq_iff_eq]
  show plainO c = true ↔ wr1 c ++ [] ++ 61 :: (wr1 c ++ (wr1 c ++ [])) = [c, 61, c, c]
  unfold wr1
  by_cases h : plainO c = true
  · simp [h]
  · by_cases h2 : c = 32
    · subst h2; decide
    · simp [h, h2]
/-- the digits' two rows -/
def big : List UInt8 := [48, 49, 50, 51, 52, 53, 54, 55, 56, 57, 65, 66, 67, 68, 69, 70]
def small : List UInt8 := [48, 49, 50, 51, 52, 53, 54, 55, 56, 57, 97, 98, 99, 100, 101, 102]
theorem num_big : ∀ n (h : n < 16), num (big[n]'h) = n := by decide
theorem num_small : ∀ n (h : n < 16), num (small[n]'h) = n := by decide
theorem parse_digits {a b : UInt8} {c : UInt8} (ha : num a = c.toNat / 16) (hb : num b = c.toNat % 16) (hok : a ≠ 38 ∧ a ≠ 61 ∧ b ≠ 38 ∧ b ≠ 61) : parse [97, 61, 37, a, b] = some [([97], [c])] := by
  have hc := c.toNat_lt
  have ho : octet a b = c := by
    unfold octet
    rw [ha, hb]
    apply UInt8.toNat_inj.1
    simp
    omega
  have hr : rd [37, a, b] = some [c] := by
    rw [rd_hex (by rw [ha]; omega) (by rw [hb]; omega), ho]
    rfl
  have hs : D.spl 38 [97, 61, 37, a, b] = [[97, 61, 37, a, b]] := D.spl_none (by
    intro x hx
    simp at hx
    rcases hx with rfl | rfl | rfl | rfl | rfl
    · decide
    · decide
    · decide
    · exact hok.1
    · exact hok.2.2.1)
  have hp : part [97, 61, 37, a, b] = some ([97], [c]) := by
    have h := take_eq (a := [97]) (b := [37, a, b]) (by simp)
    unfold part
    have h1 : nameOf [97, 61, 37, a, b] = [97] := h.1
    have h2 : valOf [97, 61, 37, a, b] = [37, a, b] := h.2
    rw [h1, h2, hr]
    rfl
  unfold parse
  rw [if_neg (by simp), hs, parts_cons, hp]
  rfl

/-! ### sizes -/
theorem wr1_len (c : UInt8) : 1 ≤ (wr1 c).length ∧ (wr1 c).length ≤ 3 := by
  unfold wr1
  split
  · simp
  · split <;> simp
theorem wr_len (l : List UInt8) : (wr l).length ≤ 3 * l.length := by
  induction l with
  | nil => simp [wr]
  | cons c l ih =>
    show (wr1 c ++ wr l).length ≤ _
    have := (wr1_len c).2
    simp
    omega
theorem one_len {p : PairL} (h : p.1.length ≤ 41 ∧ p.2.length ≤ 41) : (one p).length ≤ 247 := by
  have h1 := wr_len p.1
  have h2 := wr_len p.2
  unfold one
  simp
  omega
theorem txt_len {l : List PairL} (h : ∀ p ∈ l, p.1.length ≤ 41 ∧ p.2.length ≤ 41) : (txt l).length ≤ 248 * l.length := by
  induction l with
  | nil => simp [txt]
  | cons p r ih =>
    have h1 := one_len (h p (by simp))
    have h2 := ih (fun q hq => h q (by simp [hq]))
    cases r with
    | nil => simp [txt]; omega
    | cons q r =>
      show (one p ++ 38 :: txt (q :: r)).length ≤ _
      simp at h2 ⊢
      omega
theorem rd_len : ∀ (s t : List UInt8), rd s = some t → t.length ≤ s.length
  | [], t, h => by cases h; simp
  | [c], t, h => by
    unfold rd at h
    split at h
    · cases h
    · cases h; simp
  | [c, a], t, h => by
    unfold rd at h
    split at h
    · cases h
    · cases hr : rd [a] with
      | none => rw [hr] at h; cases h
      | some u =>
        rw [hr] at h
        cases h
        have := rd_len [a] u hr
        simp at this ⊢
        omega
  | c :: a :: b :: r, t, h => by
    unfold rd at h
    split at h
    · split at h
      · cases hr : rd r with
        | none => rw [hr] at h; cases h
        | some u =>
          rw [hr] at h
          cases h
          have := rd_len r u hr
          simp
          omega
      · cases h
    · cases hr : rd (a :: b :: r) with
      | none => rw [hr] at h; cases h
      | some u =>
        rw [hr] at h
        cases h
        have := rd_len (a :: b :: r) u hr
        simp at this ⊢
        omega

end Go.Proofs.YtblmdcpcekoogaaGreatDoor.Qu
