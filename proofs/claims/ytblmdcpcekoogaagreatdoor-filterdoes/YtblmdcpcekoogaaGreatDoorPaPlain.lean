/-
  Paths on lists of octets, without a program: which are paths, which may be asked for, which hold, which comes first, another beginning; and what follows of them.
-/
import Derived.Lib.Strings
import Derived.Test.YtblmdcpcekoogaaGreatDoorCore
namespace Go.Proofs.YtblmdcpcekoogaaGreatDoor
set_option maxRecDepth 20000
open Go Go.RowKit

theorem size_len (s : ByteArray) : s.data.toList.length = s.size := Array.length_toList

/-- an octet of a path -/
def inP (c : Int) : Bool := decide (33 ≤ c) && decide (c ≤ 126) && !(c == 63) && !(c == 35)
/-- a path -/
def isP (l : List UInt8) : Bool := decide (l.length ≤ 60) && Lib.hasPrefix l [47] && l.all (fun c => inP c.toNat)
/-- a Prefix's text -/
def abv (l : List UInt8) : Bool := isP l && (l == [47] || !Lib.hasSuffix l [47])
def mayP (k : Int) (l : List UInt8) : Bool := if k = 1 then isP l else if k = 2 then abv l else false
/-- beneath it, or the same -/
def und (v s : List UInt8) : Bool := s == v || (v == [47] || Lib.hasPrefix s (v ++ [47]))
def holdP (k : Int) (v s : List UInt8) : Bool := mayP k v && (isP s && (if k = 1 then s == v else und v s))
def tailP (v s : List UInt8) : List UInt8 := if v = [47] then (if s = [47] then [] else s) else s.drop v.length
def joinP (b t : List UInt8) : List UInt8 := if b = [47] then (if t = [] then [47] else t) else b ++ t
def okSw (k : Int) (v b s : List UInt8) : Bool := decide (k = 2) && (holdP k v s && abv b)
def swapE (k : Int) (v b s : List UInt8) : Int := if okSw k v b s then (if 60 < (joinP b (tailP v s)).length then 5 else 0) else 1
def swapT (k : Int) (v b s : List UInt8) : List UInt8 := if okSw k v b s then (if 60 < (joinP b (tailP v s)).length then [] else joinP b (tailP v s)) else []
def ordP (ka : Int) (a : List UInt8) (kb : Int) (b : List UInt8) : Int := orI (cmpI ka kb) (orI (cmpI b.length a.length) (Lib.compareBytes a b))

theorem hasP_iff {s p : List UInt8} : Lib.hasPrefix s p = true ↔ p <+: s := by unfold Lib.hasPrefix; exact List.isPrefixOf_iff_prefix

theorem isP_iff {l : List UInt8} : isP l = true ↔ l.length ≤ 60 ∧ [47] <+: l ∧ ∀ c ∈ l, inP (c.toNat : Int) = true := by
  simp only [isP, Bool.and_eq_true, decide_eq_true_eq, hasP_iff, List.all_eq_true, and_assoc]

theorem isP_ne {l : List UInt8} (h : isP l = true) : l ≠ [] := by
  rintro rfl
  have := (isP_iff.1 h).2.1
  simp at this

theorem abv_isP {l : List UInt8} (h : abv l = true) : isP l = true := by
  simp only [abv, Bool.and_eq_true] at h
  exact h.1

/-- what a Prefix holds for begins with its text -/
theorem und_pre {v s : List UInt8} (hs : isP s = true) (h : und v s = true) : v <+: s := by
  simp only [und, Bool.or_eq_true, beq_iff_eq, hasP_iff] at h
  rcases h with rfl | rfl | h
  · exact List.prefix_refl _
  · exact (isP_iff.1 hs).2.1
  · exact (List.prefix_append v [47]).trans h

theorem hold2_iff {v s : List UInt8} : holdP 2 v s = true ↔ abv v = true ∧ isP s = true ∧ und v s = true := by
  simp [holdP, mayP]

/-- the longer one of two that hold for one path is beneath the shorter one -/
theorem und_und {p q s : List UInt8} (hs : isP s = true) (hp : und p s = true) (hq : und q s = true) (hl : q.length < p.length) : q = [47] ∨ q ++ [47] <+: p := by
  have hps := und_pre hs hp
  simp only [und, Bool.or_eq_true, beq_iff_eq, hasP_iff] at hq
  rcases hq with rfl | rfl | hq
  · have := hps.length_le
    omega
  · exact .inl rfl
  · right
    exact List.prefix_of_prefix_length_le hq hps (by simp; omega)

theorem und_same {p q s : List UInt8} (hs : isP s = true) (hp : und p s = true) (hq : und q s = true) (hl : p.length = q.length) : p = q :=
  (List.prefix_of_prefix_length_le (und_pre hs hp) (und_pre hs hq) (by omega)).eq_of_length hl

theorem below_holds {p q s t : List UInt8} (hp : holdP 2 p s = true) (hq : holdP 2 q s = true) (hl : q.length < p.length) (ht : holdP 2 p t = true) : holdP 2 q t = true := by
  rw [hold2_iff] at *
  refine ⟨hq.1, ht.2.1, ?_⟩
  simp only [und, Bool.or_eq_true, beq_iff_eq, hasP_iff]
  rcases und_und hp.2.1 hp.2.2 hq.2.2 hl with h | h
  · exact .inr (.inl h)
  · exact .inr (.inr (h.trans (und_pre ht.2.1 ht.2.2)))
theorem below_self {p q s : List UInt8} (hp : holdP 2 p s = true) (hq : holdP 2 q s = true) (hl : q.length < p.length) : holdP 2 q p = true := by
  rw [hold2_iff] at *
  refine ⟨hq.1, abv_isP hp.1, ?_⟩
  simp only [und, Bool.or_eq_true, beq_iff_eq, hasP_iff]
  rcases und_und hp.2.1 hp.2.2 hq.2.2 hl with h | h
  · exact .inr (.inl h)
  · exact .inr (.inr h)
theorem below_ord {p q : List UInt8} (hl : q.length < p.length) : ordP 2 p 2 q = -1 := by
  have h : ((q.length : Int) < (p.length : Int)) := by omega
  simp [ordP, cmpI, orI, h]

/-- the tail: nothing, or it begins with / -/
theorem tail_form {v s : List UInt8} (hs : isP s = true) (hu : und v s = true) : tailP v s = [] ∨ [47] <+: tailP v s := by
  unfold tailP
  split
  · split
    · exact .inl rfl
    · exact .inr (isP_iff.1 hs).2.1
  · rename_i hv
    simp only [und, Bool.or_eq_true, beq_iff_eq, hasP_iff] at hu
    rcases hu with rfl | h | ⟨r, hr⟩
    · left; simp
    · exact absurd h hv
    · right
      rw [← hr]
      simp
theorem tail_all {v s : List UInt8} (hs : isP s = true) : ∀ c ∈ tailP v s, inP (c.toNat : Int) = true := by
  have h := (isP_iff.1 hs).2.2
  intro c hc
  unfold tailP at hc
  split at hc
  · split at hc
    · simp at hc
    · exact h c hc
  · exact h c (List.mem_of_mem_drop hc)
theorem tail_join {v s : List UInt8} (hs : isP s = true) (hu : und v s = true) (hv : v ≠ [47]) : v ++ tailP v s = s := by
  obtain ⟨r, rfl⟩ := und_pre hs hu
  unfold tailP
  rw [if_neg hv]
  simp

theorem join_isP {b t : List UInt8} (hb : abv b = true) (ht : t = [] ∨ [47] <+: t) (ha : ∀ c ∈ t, inP (c.toNat : Int) = true) (hl : (joinP b t).length ≤ 60) : isP (joinP b t) = true := by
  have hbp := isP_iff.1 (abv_isP hb)
  rw [isP_iff]
  refine ⟨hl, ?_, ?_⟩
  · unfold joinP
    split
    · split
      · exact List.prefix_refl _
      · rcases ht with h | h
        · exact absurd h ‹_›
        · exact h
    · exact hbp.2.1.trans (List.prefix_append _ _)
  · intro c hc
    unfold joinP at hc
    split at hc
    · split at hc
      · rename_i h _
        subst h
        exact hbp.2.2 c hc
      · exact ha c hc
    · rcases List.mem_append.1 hc with h | h
      · exact hbp.2.2 c h
      · exact ha c h
theorem join_und {b t : List UInt8} (ht : t = [] ∨ [47] <+: t) : und b (joinP b t) = true := by
  simp only [und, Bool.or_eq_true, beq_iff_eq, hasP_iff]
  by_cases h : b = [47]
  · exact .inr (.inl h)
  · unfold joinP
    rw [if_neg h]
    rcases ht with rfl | ⟨r, rfl⟩
    · left; simp
    · right; right
      exact ⟨r, by simp⟩

theorem okSw_iff {v b s : List UInt8} : okSw 2 v b s = true ↔ holdP 2 v s = true ∧ abv b = true := by simp [okSw]

/-- what was swapped is a path that its beginning holds for -/
theorem swap_isP {v b s : List UInt8} (h : swapE 2 v b s = 0) : isP (swapT 2 v b s) = true ∧ holdP 2 b (swapT 2 v b s) = true := by
  unfold swapE at h
  unfold swapT
  by_cases hk : okSw 2 v b s = true
  · rw [if_pos hk] at h
    rw [if_pos hk]
    by_cases hl : 60 < (joinP b (tailP v s)).length
    · rw [if_pos hl] at h; exact absurd h (by decide)
    · rw [if_neg hl]
      have hk' := okSw_iff.1 hk
      have hh := hold2_iff.1 hk'.1
      have hp := join_isP hk'.2 (tail_form hh.2.1 hh.2.2) (tail_all hh.2.1) (by omega)
      exact ⟨hp, hold2_iff.2 ⟨hk'.2, hp, join_und (tail_form hh.2.1 hh.2.2)⟩⟩
  · rw [if_neg hk] at h; exact absurd h (by decide)
theorem swap_no {k : Int} {v b s : List UInt8} (h : swapE k v b s ≠ 0) : swapT k v b s = [] := by
  unfold swapE at h
  unfold swapT
  split at h
  · split at h
    · rw [if_pos ‹_›, if_pos ‹_›]
    · exact absurd rfl h
  · rw [if_neg ‹_›]
theorem swap_yes {v b s : List UInt8} (h : swapE 2 v b s = 0) (hb : b ≠ [47]) : holdP 2 v s = true ∧ abv b = true ∧ swapT 2 v b s = b ++ tailP v s ∧ (b ++ tailP v s).length ≤ 60 := by
  unfold swapE at h
  unfold swapT
  by_cases hk : okSw 2 v b s = true
  · rw [if_pos hk] at h
    rw [if_pos hk]
    by_cases hl : 60 < (joinP b (tailP v s)).length
    · rw [if_pos hl] at h; exact absurd h (by decide)
    · rw [if_neg hl]
      have hk' := okSw_iff.1 hk
      unfold joinP at hl ⊢
      rw [if_neg hb] at hl ⊢
      exact ⟨hk'.1, hk'.2, rfl, by omega⟩
  · rw [if_neg hk] at h; exact absurd h (by decide)
theorem tail_app {b t : List UInt8} (hb : b ≠ [47]) : tailP b (b ++ t) = t := by
  unfold tailP
  rw [if_neg hb]
  simp

/-- swapped back -/
theorem swap_back {v b s : List UInt8} (h : swapE 2 v b s = 0) (hv : v ≠ [47]) (hb : b ≠ [47]) : swapE 2 b v (swapT 2 v b s) = 0 ∧ swapT 2 b v (swapT 2 v b s) = s := by
  obtain ⟨h1, h2, h3, h4⟩ := swap_yes h hb
  have hh := hold2_iff.1 h1
  have hho := (swap_isP h).2
  rw [h3] at hho ⊢
  have hok : okSw 2 b v (b ++ tailP v s) = true := okSw_iff.2 ⟨hho, hh.1⟩
  have hj : joinP v (tailP b (b ++ tailP v s)) = s := by
    rw [tail_app hb]
    unfold joinP
    rw [if_neg hv]
    exact tail_join hh.2.1 hh.2.2 hv
  have hl := (isP_iff.1 hh.2.1).1
  unfold swapE swapT
  rw [if_pos hok, if_pos hok, hj, if_neg (by omega), if_neg (by omega)]
  exact ⟨rfl, rfl⟩

/-- swapped twice -/
theorem swap_chain {a b c s : List UInt8} (h : swapE 2 a b s = 0) (hb : b ≠ [47]) : swapE 2 b c (swapT 2 a b s) = swapE 2 a c s ∧ swapT 2 b c (swapT 2 a b s) = swapT 2 a c s := by
  obtain ⟨h1, h2, h3, h4⟩ := swap_yes h hb
  have hho := (swap_isP h).2
  rw [h3] at hho ⊢
  have hok : okSw 2 b c (b ++ tailP a s) = okSw 2 a c s := by
    rw [Bool.eq_iff_iff, okSw_iff, okSw_iff]
    simp [hho, h1]
  unfold swapE swapT
  rw [hok, tail_app hb]
  exact ⟨rfl, rfl⟩
theorem swapE_range (k : Int) (v b s : List UInt8) : swapE k v b s = 0 ∨ swapE k v b s = 1 ∨ swapE k v b s = 5 := by
  unfold swapE
  split
  · split <;> simp
  · simp

theorem may1 (s : List UInt8) : mayP 1 s = isP s := rfl
theorem may2 (s : List UInt8) : mayP 2 s = abv s := rfl
theorem hold1_self (s : List UInt8) : holdP 1 s s = isP s := by simp [holdP, may1]
theorem hold1 (s m : List UInt8) : holdP 1 s m = (isP s && (s == m)) := by
  simp only [holdP, may1, if_true]
  by_cases h : m = s
  · subst h; cases isP m <;> simp
  · have h' : ¬ s = m := fun e => h e.symm
    rw [beq_eq_false_iff_ne.2 h, beq_eq_false_iff_ne.2 h']
    simp only [Bool.and_false]
theorem hold2_self {s : List UInt8} (h : abv s = true) : holdP 2 s s = true := by
  rw [hold2_iff]
  exact ⟨h, abv_isP h, by simp [und]⟩
theorem hold2_more {s : List UInt8} (m : List UInt8) (h : abv s = true) : holdP 2 s (s ++ [47] ++ m) = isP (s ++ [47] ++ m) := by
  have hu : und s (s ++ [47] ++ m) = true := by
    simp only [und, Bool.or_eq_true, beq_iff_eq, hasP_iff]
    exact .inr (.inr ⟨m, rfl⟩)
  rw [Bool.eq_iff_iff, hold2_iff]
  exact ⟨fun x => x.2.1, fun x => ⟨h, x, hu⟩⟩

theorem cmpI_range (a b : Int) : cmpI a b = -1 ∨ cmpI a b = 0 ∨ cmpI a b = 1 := by
  unfold cmpI
  split
  · simp
  · split <;> simp
theorem cmpI_anti (a b : Int) : cmpI b a = - cmpI a b := by
  unfold cmpI
  by_cases h : a < b
  · have : ¬ b < a := by omega
    simp [h, this]
  · by_cases h2 : b < a
    · simp [h, h2]
    · simp [h, h2]
theorem cmpI_zero {a b : Int} : cmpI a b = 0 ↔ a = b := by
  unfold cmpI
  by_cases h : a < b
  · simp [h]; omega
  · by_cases h2 : b < a
    · simp [h, h2]; omega
    · simp [h, h2]; omega
theorem ordP_range (ka : Int) (a : List UInt8) (kb : Int) (b : List UInt8) : ordP ka a kb b = -1 ∨ ordP ka a kb b = 0 ∨ ordP ka a kb b = 1 := by
  unfold ordP orI
  split
  · split
    · exact cmp_range a b
    · exact cmpI_range _ _
  · exact cmpI_range _ _
theorem ordP_anti (ka : Int) (a : List UInt8) (kb : Int) (b : List UInt8) : ordP kb b ka a = - ordP ka a kb b := by
  unfold ordP orI
  rw [cmpI_anti ka kb, cmpI_anti (b.length : Int) a.length, cmp_anti a b]
  by_cases h1 : cmpI ka kb = 0
  · by_cases h2 : cmpI (b.length : Int) a.length = 0
    · simp [h1, h2]
    · simp [h1, h2]
  · simp [h1]
theorem ordP_zero (ka : Int) (a : List UInt8) (kb : Int) (b : List UInt8) : ordP ka a kb b = 0 ↔ ka = kb ∧ a = b := by
  unfold ordP orI
  by_cases h1 : cmpI ka kb = 0
  · rw [if_pos h1]
    by_cases h2 : cmpI (b.length : Int) a.length = 0
    · rw [if_pos h2, cmp_zero]
      exact ⟨fun h => ⟨cmpI_zero.1 h1, h⟩, fun h => h.2⟩
    · rw [if_neg h2]
      exact ⟨fun h => absurd h h2, fun h => absurd (by rw [h.2]; exact cmpI_zero.2 rfl) h2⟩
  · rw [if_neg h1]
    exact ⟨fun h => absurd h h1, fun h => absurd (cmpI_zero.2 h.1) h1⟩
theorem cmpI_le {a b : Int} : cmpI a b ≤ 0 ↔ a ≤ b := by
  unfold cmpI
  by_cases h : a < b
  · simp [h]; omega
  · by_cases h2 : b < a
    · simp [h, h2]
    · simp [h, h2]; omega
theorem ordP_le {ka : Int} {a : List UInt8} {kb : Int} {b : List UInt8} : ordP ka a kb b ≤ 0 ↔ ka < kb ∨ (ka = kb ∧ (b.length < a.length ∨ (a.length = b.length ∧ Lib.compareBytes a b ≤ 0))) := by
  unfold ordP orI
  by_cases h1 : cmpI ka kb = 0
  · rw [if_pos h1]
    have e := cmpI_zero.1 h1
    by_cases h2 : cmpI (b.length : Int) a.length = 0
    · have e2 := cmpI_zero.1 h2
      rw [if_pos h2]
      constructor
      · intro h; exact .inr ⟨e, .inr ⟨by omega, h⟩⟩
      · rintro (h | ⟨_, h | h⟩)
        · omega
        · omega
        · exact h.2
    · have e2 : (b.length : Int) ≠ a.length := fun h => h2 (cmpI_zero.2 h)
      rw [if_neg h2, cmpI_le]
      omega
  · have e : ka ≠ kb := fun h => h1 (cmpI_zero.2 h)
    rw [if_neg h1, cmpI_le]
    omega
theorem ordP_trans {ka : Int} {a : List UInt8} {kb : Int} {b : List UInt8} {kc : Int} {c : List UInt8} (h : ordP ka a kb b ≤ 0) (k : ordP kb b kc c ≤ 0) : ordP ka a kc c ≤ 0 := by
  rw [ordP_le] at *
  rcases h with h | ⟨h1, h | ⟨h2, h3⟩⟩ <;> rcases k with k | ⟨k1, k | ⟨k2, k3⟩⟩
  all_goals first | (left; omega) | (right; refine ⟨by omega, ?_⟩; first | (left; omega) | (right; exact ⟨by omega, cmp_trans _ _ _ h3 k3⟩))
theorem ordP_trans_lt {ka : Int} {a : List UInt8} {kb : Int} {b : List UInt8} {kc : Int} {c : List UInt8} (h : ordP ka a kb b < 0) (k : ordP kb b kc c ≤ 0) : ordP ka a kc c < 0 := by
  have h1 := ordP_trans (Int.le_of_lt h) k
  rcases Int.lt_or_eq_of_le h1 with h2 | h2
  · exact h2
  · exfalso
    obtain ⟨rfl, rfl⟩ := (ordP_zero ka a kc c).1 h2
    have := ordP_anti ka a kb b
    omega

end Go.Proofs.YtblmdcpcekoogaaGreatDoor
