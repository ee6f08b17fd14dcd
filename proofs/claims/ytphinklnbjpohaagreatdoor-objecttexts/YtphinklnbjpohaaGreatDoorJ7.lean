/-
  The plain mathematics of hosts' patterns: lists of octets. Of the program nothing is used here but what is under what.
-/
import Derived.Test.YtphinklnbjpohaaGreatDoorJ5
import Derived.Lib.LastIndexByte
namespace Go.Proofs.YtphinklnbjpohaaGreatDoor
set_option maxRecDepth 20000
open Go

/-- begins with *. -/
def isW (l : List UInt8) : Bool := Lib.hasPrefix l [42, 46]
/-- without *. ahead -/
def tp (l : List UInt8) : List UInt8 := Lib.trimPrefix l [42, 46]
def may (l : List UInt8) : Bool := l.isEmpty || (decide (l.length ≤ 60) && D.isName (tp l))
def within (a b : List UInt8) : Bool := b.isEmpty || a == b || (isW b && under (tp a) (tp b))
def holds (p h : List UInt8) : Bool := may p && D.isName h && within h p
def meetI (a b : List UInt8) : Bool := may a && may b && (within a b || within b a)
def meetV (a b : List UInt8) : List UInt8 := if meetI a b then (if within a b then a else b) else []

theorem name_octs {l : List UInt8} (h : D.isName l = true) : ∀ x ∈ l, D.inLab x.toNat = true ∨ x = 46 := by
  have hl := (isName_iff.1 h).2
  have : ∀ (l : List UInt8), (∀ p ∈ D.spl 46 l, ∀ x ∈ p, D.inLab x.toNat = true) → ∀ x ∈ l, D.inLab x.toNat = true ∨ x = 46 := by
    intro l
    induction l with
    | nil => intro _ x hx; simp at hx
    | cons a r ih =>
      intro hp x hx
      unfold D.spl at hp
      by_cases ha : a = 46
      · rw [if_pos ha] at hp
        rcases List.mem_cons.1 hx with rfl | hx
        · exact .inr ha
        · exact ih (fun p hpp => hp p (by simp [hpp])) x hx
      · rw [if_neg ha] at hp
        have hne := D.spl_ne 46 r
        cases hs : D.spl 46 r with
        | nil => exact absurd hs hne
        | cons q t =>
          rw [hs] at hp
          rcases List.mem_cons.1 hx with rfl | hx
          · exact .inl (hp _ (by simp; exact .inl rfl) x (by simp))
          · refine ih (fun p hpp => ?_) x hx
            rw [hs] at hpp
            rcases List.mem_cons.1 hpp with rfl | hpp
            · exact fun y hy => hp (a :: p) (by simp) y (by simp [hy])
            · exact hp p (by simp [hpp])
  exact this l (fun p hp => label_octets (hl p hp))

theorem name_nil : D.isName [] = false := by decide
theorem under_nil (b : List UInt8) : under [] b = false := by
  cases h : under [] b
  · rfl
  · have := (under_iff.1 h).1; rw [name_nil] at this; cases this

theorem isW_form {l : List UInt8} (h : isW l = true) : l = 42 :: 46 :: tp l := by
  have h' := h
  unfold isW Lib.hasPrefix at h
  obtain ⟨t, ht⟩ := List.isPrefixOf_iff_prefix.1 h
  unfold tp Lib.trimPrefix
  unfold isW at h'
  rw [if_pos h', ← ht]
  rfl
theorem isW_len {l : List UInt8} (h : isW l = true) : l.length = (tp l).length + 2 := by
  conv => lhs; rw [isW_form h]
  simp
theorem tp_plain {l : List UInt8} (h : isW l = false) : tp l = l := by
  unfold tp Lib.trimPrefix
  unfold isW at h
  rw [if_neg (by rw [h]; simp)]
theorem isW_nil : isW [] = false := by decide
theorem tp_nil : tp [] = [] := by decide
theorem name_not_wild {l : List UInt8} (h : D.isName l = true) : isW l = false := by
  cases hw : isW l
  · rfl
  · have := name_octs h 42 (by rw [isW_form hw]; simp)
    revert this; decide
theorem name_tp {l : List UInt8} (h : D.isName l = true) : tp l = l := tp_plain (name_not_wild h)
theorem tp_le (l : List UInt8) : (tp l).length ≤ l.length := Lib.trimPrefix_le _ _

theorem within_iff {a b : List UInt8} : within a b = true ↔ b = [] ∨ a = b ∨ (isW b = true ∧ under (tp a) (tp b) = true) := by
  simp only [within, Bool.or_eq_true, Bool.and_eq_true, List.isEmpty_iff, beq_iff_eq, or_assoc]
theorem within_self (a : List UInt8) : within a a = true := within_iff.2 (.inr (.inl rfl))
theorem within_all (a : List UInt8) : within a [] = true := within_iff.2 (.inl rfl)
theorem within_trans {a b c : List UInt8} (h : within a b = true) (k : within b c = true) : within a c = true := by
  rcases within_iff.1 k with rfl | rfl | ⟨kw, ku⟩
  · exact within_all a
  · exact h
  · rcases within_iff.1 h with rfl | rfl | ⟨hw, hu⟩
    · rw [tp_nil, under_nil] at ku; cases ku
    · exact k
    · exact within_iff.2 (.inr (.inr ⟨kw, under_trans hu ku⟩))
theorem within_back {a b : List UInt8} (h : within a b = true) (k : within b a = true) : a = b := by
  rcases within_iff.1 h with rfl | rfl | ⟨hw, hu⟩
  · rcases within_iff.1 k with rfl | rfl | ⟨kw, ku⟩
    · rfl
    · rfl
    · rw [tp_nil, under_nil] at ku; cases ku
  · rfl
  · rcases within_iff.1 k with rfl | rfl | ⟨kw, ku⟩
    · rw [tp_nil, under_nil] at hu; cases hu
    · rfl
    · rw [under_not_back hu] at ku; cases ku
theorem suffix_two {a x y : List UInt8} (hx : x <:+ a) (hy : y <:+ a) : x <:+ y ∨ y <:+ x := by
  by_cases h : x.length ≤ y.length
  · exact .inl (List.suffix_of_suffix_length_le hx hy h)
  · exact .inr (List.suffix_of_suffix_length_le hy hx (by omega))
theorem suffix_dot {x y : List UInt8} (h : (46 :: x) <:+ (46 :: y)) : x = y ∨ (46 :: x) <:+ y := by
  obtain ⟨t, ht⟩ := h
  cases t with
  | nil => left; simpa using ht
  | cons c t => right; simp at ht; exact ⟨t, ht.2⟩
theorem within_chain {a b c : List UInt8} (h : within a b = true) (k : within a c = true) : within b c = true ∨ within c b = true := by
  rcases within_iff.1 h with rfl | rfl | ⟨hw, hu⟩
  · exact .inr (within_all _)
  · exact .inl k
  · rcases within_iff.1 k with rfl | rfl | ⟨kw, ku⟩
    · exact .inl (within_all _)
    · exact .inr h
    · obtain ⟨_, hn, hs⟩ := under_iff.1 hu
      obtain ⟨_, kn, ks⟩ := under_iff.1 ku
      rcases suffix_two hs ks with hh | hh
      · rcases suffix_dot hh with e | e
        · left; rw [isW_form hw, isW_form kw, e]; exact within_self _
        · right; exact within_iff.2 (.inr (.inr ⟨hw, under_iff.2 ⟨kn, hn, e⟩⟩))
      · rcases suffix_dot hh with e | e
        · left; rw [isW_form hw, isW_form kw, e]; exact within_self _
        · left; exact within_iff.2 (.inr (.inr ⟨kw, under_iff.2 ⟨hn, kn, e⟩⟩))

theorem holds_iff {p h : List UInt8} : holds p h = true ↔ may p = true ∧ D.isName h = true ∧ within h p = true := by
  simp only [holds, Bool.and_eq_true, and_assoc]
theorem meetI_iff {a b : List UInt8} : meetI a b = true ↔ may a = true ∧ may b = true ∧ (within a b = true ∨ within b a = true) := by
  simp only [meetI, Bool.and_eq_true, Bool.or_eq_true, and_assoc]
theorem meetV_no {a b : List UInt8} (h : meetI a b = false) : meetV a b = [] := by simp [meetV, h]
theorem meetV_cases {a b : List UInt8} (h : meetI a b = true) : (within a b = true ∧ meetV a b = a) ∨ (within b a = true ∧ meetV a b = b) := by
  unfold meetV
  rw [if_pos h]
  cases hw : within a b
  · rcases (meetI_iff.1 h).2.2 with h' | h'
    · rw [hw] at h'; cases h'
    · exact .inr ⟨h', by simp⟩
  · exact .inl ⟨rfl, by simp⟩
theorem may_nil : may [] = true := rfl
theorem meetV_may (a b : List UInt8) : may (meetV a b) = true := by
  cases h : meetI a b
  · rw [meetV_no h]; rfl
  · rcases meetV_cases h with ⟨_, e⟩ | ⟨_, e⟩ <;> rw [e]
    · exact (meetI_iff.1 h).1
    · exact (meetI_iff.1 h).2.1
theorem meetV_len {a b : List UInt8} {n : Nat} (ha : a.length ≤ n) (hb : b.length ≤ n) : (meetV a b).length ≤ n := by
  unfold meetV; split
  · split <;> assumption
  · simp

/-- the lesser of two: below both, and one of them -/
theorem meet_le {a b : List UInt8} (h : meetI a b = true) : within (meetV a b) a = true ∧ within (meetV a b) b = true ∧ (meetV a b = a ∨ meetV a b = b) := by
  rcases meetV_cases h with ⟨hw, e⟩ | ⟨hw, e⟩ <;> rw [e]
  · exact ⟨within_self _, hw, .inl rfl⟩
  · exact ⟨hw, within_self _, .inr rfl⟩
theorem meet_greatest {a b x : List UInt8} (h : meetI a b = true) (ha : within x a = true) (hb : within x b = true) : within x (meetV a b) = true := by
  rcases (meet_le h).2.2 with e | e <;> rw [e] <;> assumption

theorem just_no {a b h : List UInt8} (hm : meetI a b = false) : (holds a h && holds b h) = false := by
  cases h1 : holds a h <;> cases h2 : holds b h <;> try rfl
  exfalso
  obtain ⟨ma, _, wa⟩ := holds_iff.1 h1
  obtain ⟨mb, _, wb⟩ := holds_iff.1 h2
  have : meetI a b = true := meetI_iff.2 ⟨ma, mb, within_chain wa wb⟩
  rw [hm] at this; cases this
theorem just_yes {a b h : List UInt8} (hm : meetI a b = true) : holds (meetV a b) h = (holds a h && holds b h) := by
  obtain ⟨ma, mb, _⟩ := meetI_iff.1 hm
  obtain ⟨l1, l2, _⟩ := meet_le hm
  rw [Bool.eq_iff_iff, Bool.and_eq_true]
  constructor
  · intro hh
    obtain ⟨_, hn, hw⟩ := holds_iff.1 hh
    exact ⟨holds_iff.2 ⟨ma, hn, within_trans hw l1⟩, holds_iff.2 ⟨mb, hn, within_trans hw l2⟩⟩
  · rintro ⟨h1, h2⟩
    obtain ⟨_, hn, wa⟩ := holds_iff.1 h1
    obtain ⟨_, _, wb⟩ := holds_iff.1 h2
    exact holds_iff.2 ⟨meetV_may a b, hn, meet_greatest hm wa wb⟩

theorem meetI_comm (a b : List UInt8) : meetI a b = meetI b a := by
  rw [Bool.eq_iff_iff, meetI_iff, meetI_iff]
  constructor <;> rintro ⟨h1, h2, h3⟩ <;> exact ⟨h2, h1, h3.symm⟩
theorem meetV_comm (a b : List UInt8) : meetV a b = meetV b a := by
  cases h : meetI a b
  · rw [meetV_no h, meetV_no (by rw [meetI_comm]; exact h)]
  · have h' : meetI b a = true := by rw [meetI_comm]; exact h
    have l := meet_le h
    have l' := meet_le h'
    exact within_back (meet_greatest h' l.2.1 l.1) (meet_greatest h l'.2.1 l'.1)
theorem meet_self {a : List UInt8} : meetI a a = may a ∧ (meetI a a = true → meetV a a = a) := by
  constructor
  · simp [meetI, within_self]
  · intro h; rcases meetV_cases h with ⟨_, e⟩ | ⟨_, e⟩ <;> exact e
/-- three that meet, one after the other, are comparable each with each -/
theorem three_in {a b c : List UInt8} (h : meetI a b = true) (k : meetI (meetV a b) c = true) : meetI b c = true ∧ meetI a c = true := by
  obtain ⟨ma, mb, _⟩ := meetI_iff.1 h
  obtain ⟨_, mc, hc⟩ := meetI_iff.1 k
  obtain ⟨la, lb, _⟩ := meet_le h
  constructor
  · refine meetI_iff.2 ⟨mb, mc, ?_⟩
    rcases hc with hc | hc
    · exact within_chain lb hc
    · exact .inr (within_trans hc lb)
  · refine meetI_iff.2 ⟨ma, mc, ?_⟩
    rcases hc with hc | hc
    · exact within_chain la hc
    · exact .inr (within_trans hc la)
theorem three_out {a b c : List UInt8} (h : meetI a b = true) (hb : meetI b c = true) (ha : meetI a c = true) : meetI (meetV a b) c = true := by
  rcases (meet_le h).2.2 with e | e <;> rw [e] <;> assumption
theorem three_is (a b c : List UInt8) : (meetI a b && meetI (meetV a b) c) = (meetI b c && meetI a (meetV b c)) := by
  rw [Bool.eq_iff_iff, Bool.and_eq_true, Bool.and_eq_true]
  constructor
  · rintro ⟨h, k⟩
    obtain ⟨hb, ha⟩ := three_in h k
    refine ⟨hb, ?_⟩
    rw [meetI_comm]
    exact three_out hb (by rw [meetI_comm]; exact ha) (by rw [meetI_comm]; exact h)
  · rintro ⟨h, k⟩
    rw [meetI_comm] at k
    obtain ⟨hc, hb⟩ := three_in h k
    have h1 : meetI a b = true := by rw [meetI_comm]; exact hb
    exact ⟨h1, three_out h1 h (by rw [meetI_comm]; exact hc)⟩
theorem three_val {a b c : List UInt8} (h : meetI a b = true) (k : meetI (meetV a b) c = true) : meetV (meetV a b) c = meetV a (meetV b c) := by
  have hh := three_is a b c
  rw [h, k] at hh
  have hh' := Bool.and_eq_true _ _ ▸ hh.symm
  obtain ⟨h2, k2⟩ := hh'
  have l := meet_le h
  have m := meet_le k
  have l2 := meet_le h2
  have m2 := meet_le k2
  refine within_back ?_ ?_
  · exact meet_greatest k2 (within_trans m.1 l.1) (meet_greatest h2 (within_trans m.1 l.2.1) m.2.1)
  · exact meet_greatest k (meet_greatest h m2.1 (within_trans m2.2.1 l2.1)) (within_trans m2.2.1 l2.2.1)

/-- the document's own Holds and Meet come to the same -/
theorem holds_ref (p h : List UInt8) (hm : may p = true) (hn : D.isName h = true) : holds p h = if isW p then under h (tp p) else (p.isEmpty || p == h) := by
  unfold holds
  rw [hm, hn]
  unfold within
  rw [name_tp hn]
  cases hw : isW p
  · have e : (h == p) = (p == h) := by rw [Bool.eq_iff_iff, beq_iff_eq, beq_iff_eq]; exact eq_comm
    simp [e]
  · have hne : p.isEmpty = false := by rw [isW_form hw]; rfl
    have hne2 : (h == p) = false := by
      rw [beq_eq_false_iff_ne]
      intro e
      rw [e] at hn
      rw [name_not_wild hn] at hw
      cases hw
    simp [hne, hne2]

/-- of what form, and how long -/
def kd (l : List UInt8) : Int := if l.isEmpty then 2 else if isW l then 1 else 0
def fm (l : List UInt8) : Int := if l.isEmpty then 0 else if isW l then 1 else 2
def sz (l : List UInt8) : Int := if l.isEmpty then 0 else if isW l then l.length else 0
def ord (a b : List UInt8) : Int :=
  if kd a < kd b then -1 else if kd b < kd a then 1 else if sz b < sz a then -1 else if sz a < sz b then 1 else Lib.compareBytes a b

theorem fm_kd (l : List UInt8) : fm l = 2 - kd l := by unfold fm kd; split; rfl; split <;> rfl
theorem ord_range (a b : List UInt8) : ord a b = -1 ∨ ord a b = 0 ∨ ord a b = 1 := by
  unfold ord
  repeat (split; first | simp | skip)
  all_goals first | simp | exact cmp_range a b

theorem ord_anti (a b : List UInt8) : ord b a = - ord a b := by
  have := cmp_anti a b
  unfold ord
  by_cases h1 : kd a < kd b
  · have : ¬ kd b < kd a := by omega
    simp [h1, this]
  · by_cases h2 : kd b < kd a
    · simp [h1, h2]
    · by_cases h3 : sz b < sz a
      · have : ¬ sz a < sz b := by omega
        simp [h1, h2, h3, this]
      · by_cases h4 : sz a < sz b
        · simp [h1, h2, h3, h4]
        · simp [h1, h2, h3, h4, this]
theorem ord_zero (a b : List UInt8) : ord a b = 0 ↔ a = b := by
  constructor
  · intro h
    unfold ord at h
    split at h
    · simp at h
    · split at h
      · simp at h
      · split at h
        · simp at h
        · split at h
          · simp at h
          · exact (cmp_zero a b).1 h
  · rintro rfl
    unfold ord
    simp [(cmp_zero a a).2 rfl]
theorem ord_le {a b : List UInt8} : ord a b ≤ 0 ↔ kd a < kd b ∨ (kd a = kd b ∧ (sz b < sz a ∨ (sz a = sz b ∧ Lib.compareBytes a b ≤ 0))) := by
  unfold ord
  by_cases h1 : kd a < kd b
  · simp [h1]
  · by_cases h2 : kd b < kd a
    · simp [h1, h2]; omega
    · have e : kd a = kd b := by omega
      by_cases h3 : sz b < sz a
      · simp [h3, e]
      · by_cases h4 : sz a < sz b
        · simp [h1, h2, h3, h4]; omega
        · have e2 : sz a = sz b := by omega
          simp [e, e2]
theorem ord_trans {a b c : List UInt8} (h : ord a b ≤ 0) (k : ord b c ≤ 0) : ord a c ≤ 0 := by
  rw [ord_le] at *
  rcases h with h | ⟨h1, h | ⟨h2, h3⟩⟩ <;> rcases k with k | ⟨k1, k | ⟨k2, k3⟩⟩
  all_goals first | (left; omega) | (right; refine ⟨by omega, ?_⟩; first | (left; omega) | (right; exact ⟨by omega, cmp_trans _ _ _ h3 k3⟩))
theorem ord_trans_lt {a b c : List UInt8} (h : ord a b < 0) (k : ord b c ≤ 0) : ord a c < 0 := by
  have h1 := ord_trans (Int.le_of_lt h) k
  rcases Int.lt_or_eq_of_le h1 with h2 | h2
  · exact h2
  · exfalso
    have := (ord_zero a c).1 h2
    subst this
    have := ord_anti a b
    omega
theorem ord_trans_lt' {a b c : List UInt8} (h : ord a b ≤ 0) (k : ord b c < 0) : ord a c < 0 := by
  have h1 := ord_trans h (Int.le_of_lt k)
  rcases Int.lt_or_eq_of_le h1 with h2 | h2
  · exact h2
  · exfalso
    have := (ord_zero a c).1 h2
    subst this
    have := ord_anti a b
    omega
theorem ord_within {a b : List UInt8} (h : within a b = true) (hne : a ≠ b) : ord a b < 0 := by
  have hz : ord a b ≠ 0 := fun e => hne ((ord_zero a b).1 e)
  suffices ord a b ≤ 0 by omega
  rw [ord_le]
  rcases within_iff.1 h with rfl | rfl | ⟨hw, hu⟩
  · left
    have : a.isEmpty = false := by cases a; exact absurd rfl hne; rfl
    simp only [kd, this]
    cases isW a <;> decide
  · exact absurd rfl hne
  · have hbe : b.isEmpty = false := by rw [isW_form hw]; rfl
    have hae : a.isEmpty = false := by
      cases a
      · rw [tp_nil, under_nil] at hu; cases hu
      · rfl
    cases ha : isW a
    · left; simp [kd, hae, hbe, ha, hw]
    · right
      refine ⟨by simp [kd, hae, hbe, ha, hw], .inl ?_⟩
      have := under_len hu
      have e1 := isW_len ha
      have e2 := isW_len hw
      simp only [sz, hae, hbe, ha, hw]
      simp
      omega

end Go.Proofs.YtphinklnbjpohaaGreatDoor
namespace Go.Proofs.YtphinklnbjpohaaGreatDoor
set_option maxRecDepth 20000
open Go Go.RowKit Go.Shelf

/-- a text without what it begins with -/
def trimP (s p : ByteArray) : ByteArray := ⟨(Lib.trimPrefix s.data.toList p.data.toList).toArray⟩
def trimS (s p : ByteArray) : ByteArray := ⟨(Lib.trimSuffix s.data.toList p.data.toList).toArray⟩
theorem trimP_data (s p : ByteArray) : (trimP s p).data.toList = Lib.trimPrefix s.data.toList p.data.toList := by simp [trimP]
theorem trimS_data (s p : ByteArray) : (trimS s p).data.toList = Lib.trimSuffix s.data.toList p.data.toList := by simp [trimS]
theorem trimP_le (s p : ByteArray) : (trimP s p).size ≤ s.size := by
  have := Lib.trimPrefix_le s.data.toList p.data.toList
  rw [← trimP_data, ← Lib.size_eq, ← Lib.size_eq] at this
  exact this
theorem trimS_le (s p : ByteArray) : (trimS s p).size ≤ s.size := by
  have := Lib.trimSuffix_le s.data.toList p.data.toList
  rw [← trimS_data, ← Lib.size_eq, ← Lib.size_eq] at this
  exact this
theorem hasP_le {s p : ByteArray} (h : Lib.hasPrefix s.data.toList p.data.toList = true) : p.size ≤ s.size := by
  rw [← Lib.hasPrefix_raw, Bool.and_eq_true, decide_eq_true_eq] at h; exact h.1
theorem hasS_le {s p : ByteArray} (h : Lib.hasSuffix s.data.toList p.data.toList = true) : p.size ≤ s.size := by
  rw [← Lib.hasSuffix_raw, Bool.and_eq_true, decide_eq_true_eq] at h; exact h.1
theorem trimP_hit {s p : ByteArray} (h : Lib.hasPrefix s.data.toList p.data.toList = true) : s.extract p.size s.size = trimP s p := by
  have h' := h
  rw [← Lib.hasPrefix_raw, Bool.and_eq_true, decide_eq_true_eq] at h'
  exact (Lib.trimPrefix_hit s p h'.1 h'.2).symm
theorem trimP_miss {s p : ByteArray} (h : Lib.hasPrefix s.data.toList p.data.toList = false) : s = trimP s p :=
  (Lib.trimPrefix_miss s p (by rw [Lib.hasPrefix_raw]; exact h)).symm
theorem trimS_hit {s p : ByteArray} (h : Lib.hasSuffix s.data.toList p.data.toList = true) : s.extract 0 (s.size - p.size) = trimS s p := by
  have h' := h
  rw [← Lib.hasSuffix_raw, Bool.and_eq_true, decide_eq_true_eq] at h'
  exact (Lib.trimSuffix_hit s p h'.1 h'.2).symm
theorem trimS_miss {s p : ByteArray} (h : Lib.hasSuffix s.data.toList p.data.toList = false) : s = trimS s p :=
  (Lib.trimSuffix_miss s p (by rw [Lib.hasSuffix_raw]; exact h)).symm

set_option maxHeartbeats 400000 in
theorem trimPrefix1_any (s p : ByteArray) (w : World) (hs : s.size ≤ maxLen) (hp : p.size ≤ maxLen) :
    Calls Tryz.prog 286 #[.string s, .string p] w fun e w' => e = .returned (.string (trimP s p)) ∧ w' = w := by
  cases h : Lib.hasPrefix s.data.toList p.data.toList
  · have HX := hide (trimP_miss h)
    have H := hide h
    clear h
    go_enter Tryz.func286, Tryz.ntmps286
    go_wp2_with fail
    refine (hasPrefix1_any _ _ _ hs hp).mono ?_
    rintro e x ⟨rfl, rfl⟩
    rw [H.out]
    go_wp2_with fail
    go_ret
    exact ⟨ret_str HX.out, rfl⟩
  · have HX := hide (trimP_hit h)
    have hle := hasP_le h
    have H := hide h
    clear h
    have hs' := hs
    have hp' := hp
    unfold maxLen at hs' hp'
    go_enter Tryz.func286, Tryz.ntmps286
    go_wp2_with fail
    refine (hasPrefix1_any _ _ _ hs hp).mono ?_
    rintro e x ⟨rfl, rfl⟩
    rw [H.out]
    go_wp2_with fail
    go_ret
    exact ⟨ret_str HX.out, rfl⟩

set_option maxHeartbeats 400000 in
theorem trimPrefix_any (s p : ByteArray) (w : World) (hs : s.size ≤ maxLen) (hp : p.size ≤ maxLen) :
    Calls Tryz.prog 264 #[.string s, .string p] w fun e w' => e = .returned (.string (trimP s p)) ∧ w' = w := by
  go_enter Tryz.func264, Tryz.ntmps264
  go_wp2_with (go_at_call 286; refine (trimPrefix1_any _ _ _ hs hp).mono ?_; rintro e w' ⟨rfl, rfl⟩)
  go_ret
  exact ⟨rfl, rfl⟩

set_option maxHeartbeats 400000 in
theorem cmpOr_any (x y : Int) (g : Nat) (w : World) (h0 : w.cell? ⟨g, 0, none⟩ = some (.int .i64 x)) (h1 : w.cell? ⟨g, 1, none⟩ = some (.int .i64 y)) :
    Calls Tryz.prog 93 #[.slice (some ⟨g, 0, none⟩) 2 2] w fun e w' => e = .returned (.int .i64 (orI x y)) ∧ w' = w := by
  go_enter Tryz.func93, Tryz.ntmps93
  go_wp2
  go_loop [8] (fun i => ∃ k : Nat, k ≤ 2 ∧ i = .int .i64 k ∧ (1 ≤ k → Hid (x = 0)) ∧ (2 ≤ k → Hid (y = 0))) (fun i => 2 - (intOf i).toNat)
  case atStart => exact ⟨0, by omega, rfl, fun h => absurd h (by omega), fun h => absurd h (by omega)⟩
  case round =>
    obtain ⟨k, hk, rfl, hx, hy⟩ := hrel
    rcases k with _ | _ | k
    · clear hx hy
      cases hq : (x != 0)
      · have HX : Hid (x = 0) := by simpa [Hid] using hq
        go_wp2
        go_round
        case rel => exact ⟨1, by omega, rfl, fun _ => HX, fun h => absurd h (by omega)⟩
        case measure => simp [intOf]
      · have HX : Hid (orI x y = x) := by
          have : x ≠ 0 := by simpa using hq
          simp [Hid, orI, this]
        go_wp2
        go_ret
        exact ⟨ret_int HX.out.symm, rfl⟩
    · have HX0 := hx (by omega)
      clear hx hy
      cases hq : (y != 0)
      · have HX : Hid (y = 0) := by simpa [Hid] using hq
        go_wp2
        go_round
        case rel => exact ⟨2, by omega, rfl, fun _ => HX0, fun _ => HX⟩
        case measure => simp [intOf]
      · have HX : Hid (orI x y = y) := by simp [Hid, orI, HX0.out]
        go_wp2
        go_ret
        exact ⟨ret_int HX.out.symm, rfl⟩
    · have hk0 : k = 0 := by omega
      subst hk0
      have HX : Hid (orI x y = 0) := by
        have a := (hx (by omega)).out
        have b := (hy (by omega)).out
        simp [Hid, orI, a, b]
      clear hx hy
      go_wp2
      go_ret
      exact ⟨ret_int HX.out.symm, rfl⟩

end Go.Proofs.YtphinklnbjpohaaGreatDoor
namespace Go.Proofs.YtphinklnbjpohaaGreatDoor
set_option maxRecDepth 20000
open Go Go.RowKit Go.Shelf

abbrev starDot : ByteArray := ⟨#[42, 46]⟩
theorem star_len : starDot.size ≤ maxLen := by unfold maxLen; decide
theorem tpB_data (s : ByteArray) : (trimP s ⟨#[42, 46]⟩).data.toList = tp s.data.toList := trimP_data s _
theorem isWB (s : ByteArray) : Lib.hasPrefix s.data.toList (⟨#[42, 46]⟩ : ByteArray).data.toList = isW s.data.toList := rfl
theorem empty_iff (s : ByteArray) : s.data.toList.isEmpty = s.toList.isEmpty := by rw [Lib.toList_data]

set_option maxHeartbeats 400000 in
theorem hmay_any (s : ByteArray) (w : World) (hs : s.size ≤ maxLen) :
    Calls Tryz.prog 217 #[.string s] w fun e w' => e = .returned (.bool (may s.data.toList)) ∧ Below w.heap.size w w' := by
  have HM : Hid (may s.data.toList = (s.data.toList.isEmpty || (decide (s.data.toList.length ≤ 60) && D.isName (trimP s ⟨#[42, 46]⟩).data.toList))) := by
    unfold Hid; rw [tpB_data]; rfl
  have hsl : s.data.toList.length = s.size := Array.length_toList
  cases h : s.toList.isEmpty
  · by_cases h60 : s.size ≤ 60
    · have lt := Nat.le_trans (trimP_le s ⟨#[42, 46]⟩) hs
      have HE : Hid (D.isName (trimP s ⟨#[42, 46]⟩).data.toList = may s.data.toList) := by
        unfold Hid; rw [HM.out, empty_iff, h, hsl, decide_eq_true h60]; rfl
      have h60' : (s.size : Int) ≤ 60 := by omega
      clear hsl
      go_enter Tryz.func217, Tryz.ntmps217
      go_wp2_with fail
      refine (trimPrefix_any _ _ _ hs star_len).mono ?_
      rintro e x ⟨rfl, rfl⟩
      go_wp2_with fail
      refine (name_any _ _ lt).mono ?_
      rintro e x ⟨rfl, hb⟩
      go_wp2_with fail
      go_ret
      exact ⟨ret_bool HE.out, hb⟩
    · have HE : Hid (may s.data.toList = false) := by
        unfold Hid; rw [HM.out, empty_iff, h, hsl, decide_eq_false h60]; rfl
      have h60' : ¬ (s.size : Int) ≤ 60 := by omega
      clear hsl
      go_enter Tryz.func217, Tryz.ntmps217
      go_wp2_with fail
      go_ret
      exact ⟨ret_bool HE.out.symm, Below.refl _ _⟩
  · have HE : Hid (may s.data.toList = true) := by
      unfold Hid; rw [HM.out, empty_iff, h]; rfl
    clear hsl
    go_enter Tryz.func217, Tryz.ntmps217
    go_wp2_with fail
    go_ret
    exact ⟨ret_bool HE.out.symm, Below.refl _ _⟩

theorem beq_data (a b : ByteArray) : (a.toList == b.toList) = (a.data.toList == b.data.toList) := by rw [Lib.toList_data, Lib.toList_data]

/-- what two meet in, as a text -/
def meetB (a b : ByteArray) : ByteArray := ⟨(meetV a.data.toList b.data.toList).toArray⟩
theorem meetB_data (a b : ByteArray) : (meetB a b).data.toList = meetV a.data.toList b.data.toList := by simp [meetB]
theorem meetB_no {a b : ByteArray} (h : meetI a.data.toList b.data.toList = false) : meetB a b = ⟨#[]⟩ := by unfold meetB; rw [meetV_no h]
theorem meetB_a {a b : ByteArray} (h : meetI a.data.toList b.data.toList = true) (hw : within a.data.toList b.data.toList = true) : meetB a b = a := by
  apply bytes_ext; rw [meetB_data]; unfold meetV; rw [if_pos h, if_pos hw]
theorem meetB_b {a b : ByteArray} (h : meetI a.data.toList b.data.toList = true) (hw : within a.data.toList b.data.toList = false) : meetB a b = b := by
  apply bytes_ext; rw [meetB_data]; unfold meetV; rw [if_pos h, hw]; simp
theorem meetB_le {a b : ByteArray} {n : Nat} (ha : a.size ≤ n) (hb : b.size ≤ n) : (meetB a b).size ≤ n := by
  rw [Lib.size_eq] at *
  rw [meetB_data]
  exact meetV_len ha hb

end Go.Proofs.YtphinklnbjpohaaGreatDoor
