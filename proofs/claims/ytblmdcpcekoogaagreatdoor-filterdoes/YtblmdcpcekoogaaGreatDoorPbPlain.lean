/-
  Pairs whose names are told by a key (names folded), without a program: get, all, drop, set, add, holds; and what follows of them. Names, values and keys are of whatever type.
-/
import Derived.Below
namespace Go.Proofs.YtblmdcpcekoogaaGreatDoor.Pb

set_option linter.unusedSectionVars false

section
variable {N V K : Type} [DecidableEq N] [DecidableEq V] [DecidableEq K] (key : N → K)

/-- are both names the same? -/
def sm (a b : N) : Bool := decide (key a = key b)
def getP (l : List (N × V)) (n : N) : Option V := (l.find? fun p => sm key p.1 n).map (·.2)
def allP (l : List (N × V)) (n : N) : List V := (l.filter fun p => sm key p.1 n).map (·.2)
def dropP (l : List (N × V)) (n : N) : List (N × V) := l.filter fun p => !sm key p.1 n
def hasP (l : List (N × V)) (n : N) : Bool := l.any fun p => sm key p.1 n
def setP : List (N × V) → N → V → List (N × V)
  | [], n, v => [(n, v)]
  | p :: r, n, v => if sm key p.1 n then (n, v) :: dropP key r n else p :: setP r n v
def addP (l : List (N × V)) (n : N) (v : V) : List (N × V) := l ++ [(n, v)]
/-- has one pair that is asked for a first pair, told by same, that has its value? -/
def asks (same : N → N → Bool) (l : List (N × V)) (a : N × V) : Bool := match l.find? fun p => same p.1 a.1 with
  | some p => decide (p.2 = a.2)
  | none => false
def holdsP (same : N → N → Bool) (ask l : List (N × V)) : Bool := ask.all (asks same l)

variable {key}
theorem sm_refl (a : N) : sm key a a = true := by simp [sm]
theorem sm_comm (a b : N) : sm key a b = sm key b a := by
  unfold sm
  exact decide_eq_decide.2 ⟨Eq.symm, Eq.symm⟩
theorem sm_trans {a b c : N} (h : sm key a b = true) : sm key a c = sm key b c := by
  simp only [sm, decide_eq_true_eq] at *
  rw [h]

/-! ### get and all -/
theorem get_all (l : List (N × V)) (n : N) : getP key l n = (allP key l n).head? := by
  unfold getP allP
  induction l with
  | nil => rfl
  | cons p r ih =>
    rw [List.find?_cons, List.filter_cons]
    cases h : sm key p.1 n
    · simp
    · rfl
theorem all_snoc (l : List (N × V)) (p : N × V) (n : N) : allP key (l ++ [p]) n = allP key l n ++ (if sm key p.1 n then [p.2] else []) := by
  unfold allP
  rw [List.filter_append, List.map_append]
  congr 1
  by_cases h : sm key p.1 n = true <;> simp [h]
theorem drop_snoc (l : List (N × V)) (p : N × V) (n : N) : dropP key (l ++ [p]) n = dropP key l n ++ (if sm key p.1 n then [] else [p]) := by
  unfold dropP
  rw [List.filter_append]
  congr 1
  by_cases h : sm key p.1 n = true <;> simp [h]
theorem has_snoc (l : List (N × V)) (p : N × V) (n : N) : hasP key (l ++ [p]) n = (hasP key l n || sm key p.1 n) := by
  simp [hasP]
theorem drop_none {l : List (N × V)} {n : N} (h : hasP key l n = false) : dropP key l n = l := by
  unfold dropP
  rw [List.filter_eq_self]
  intro p hp
  simp only [hasP, List.any_eq_false] at h
  have := h p hp
  simp [this]

/-! ### set -/
theorem set_none {l : List (N × V)} {n : N} (v : V) (h : hasP key l n = false) : setP key l n v = l ++ [(n, v)] := by
  induction l with
  | nil => rfl
  | cons p r ih =>
    simp only [hasP, List.any_cons, Bool.or_eq_false_iff] at h
    unfold setP
    rw [if_neg (by rw [h.1]; decide), ih h.2]
    rfl
theorem set_snoc (l : List (N × V)) (p : N × V) (n : N) (v : V) : setP key (l ++ [p]) n v =
    if hasP key l n then setP key l n v ++ (if sm key p.1 n then [] else [p]) else if sm key p.1 n then l ++ [(n, v)] else l ++ [p] ++ [(n, v)] := by
  induction l with
  | nil =>
    by_cases h : sm key p.1 n = true
    · simp [setP, hasP, h, dropP]
    · simp [setP, hasP, h]
  | cons q r ih =>
    by_cases h : sm key q.1 n = true
    · have e : hasP key (q :: r) n = true := by simp [hasP, h]
      rw [if_pos e]
      show (if sm key q.1 n then (n, v) :: dropP key (r ++ [p]) n else q :: setP key (r ++ [p]) n v) = (if sm key q.1 n then (n, v) :: dropP key r n else q :: setP key r n v) ++ _
      rw [if_pos h, if_pos h, drop_snoc]
      rfl
    · have e : hasP key (q :: r) n = hasP key r n := by simp [hasP, h]
      rw [e]
      show (if sm key q.1 n then (n, v) :: dropP key (r ++ [p]) n else q :: setP key (r ++ [p]) n v) = _
      rw [if_neg h, ih]
      have e2 : setP key (q :: r) n v = q :: setP key r n v := by
        show (if sm key q.1 n then (n, v) :: dropP key r n else q :: setP key r n v) = _
        rw [if_neg h]
      rw [e2]
      by_cases h1 : hasP key r n = true
      · simp [h1]
      · by_cases h2 : sm key p.1 n = true
        · simp [h1, h2]
        · simp [h1, h2]
/-- how far a walk through the list has come: what it has laid, whether the name was met -/
def setTo (key : N → K) (l : List (N × V)) (n : N) (v : V) : List (N × V) := if hasP key l n then setP key l n v else l
theorem setTo_snoc (l : List (N × V)) (p : N × V) (n : N) (v : V) : setTo key (l ++ [p]) n v =
    if sm key p.1 n then (if hasP key l n then setTo key l n v else setTo key l n v ++ [(n, v)]) else setTo key l n v ++ [p] := by
  unfold setTo
  rw [has_snoc, set_snoc]
  by_cases h1 : hasP key l n = true <;> by_cases h2 : sm key p.1 n = true <;> simp [h1, h2]
theorem setTo_end (l : List (N × V)) (n : N) (v : V) : setP key l n v = if hasP key l n then setTo key l n v else setTo key l n v ++ [(n, v)] := by
  unfold setTo
  by_cases h : hasP key l n = true
  · simp [h]
  · simp only [h]
    rw [set_none v (by simpa using h)]
    rfl

/-! ### what is set is got, once; what is dropped is not there -/
theorem all_drop (l : List (N × V)) (n : N) : allP key (dropP key l n) n = [] := by
  unfold allP dropP
  rw [List.filter_filter]
  rw [List.map_eq_nil_iff, List.filter_eq_nil_iff]
  intro p _
  simp
theorem all_set (l : List (N × V)) (n : N) (v : V) : allP key (setP key l n v) n = [v] := by
  induction l with
  | nil => simp [setP, allP, sm_refl]
  | cons p r ih =>
    unfold setP
    by_cases h : sm key p.1 n = true
    · rw [if_pos h]
      have := all_drop (key := key) r n
      unfold allP at *
      simp [sm_refl, this]
    · rw [if_neg h]
      unfold allP at *
      simp [h, ih]
theorem get_set (l : List (N × V)) (n : N) (v : V) : getP key (setP key l n v) n = some v := by rw [get_all, all_set]; rfl
theorem get_drop (l : List (N × V)) (n : N) : getP key (dropP key l n) n = none := by rw [get_all, all_drop]; rfl
theorem len_set (l : List (N × V)) (n : N) (v : V) : (setP key l n v).length = (dropP key l n).length + 1 := by
  induction l with
  | nil => rfl
  | cons p r ih =>
    unfold setP dropP
    by_cases h : sm key p.1 n = true
    · rw [if_pos h]
      simp [h]
    · rw [if_neg h]
      unfold dropP at ih
      simp [h, ih]

/-! ### of another name all is as it was -/
theorem all_drop_other {n m : N} (h : sm key n m = false) (l : List (N × V)) : allP key (dropP key l n) m = allP key l m := by
  unfold allP dropP
  rw [List.filter_filter]
  congr 1
  apply List.filter_congr
  intro p _
  by_cases hm : sm key p.1 m = true
  · have : sm key p.1 n = false := by
      cases hn : sm key p.1 n
      · rfl
      · rw [sm_trans hn] at hm
        rw [h] at hm
        cases hm
    simp [hm, this]
  · simp [hm]
theorem all_set_other {n m : N} (h : sm key n m = false) (l : List (N × V)) (v : V) : allP key (setP key l n v) m = allP key l m := by
  induction l with
  | nil => simp [setP, allP, h]
  | cons p r ih =>
    unfold setP
    by_cases hp : sm key p.1 n = true
    · have hpm : sm key p.1 m = false := by rw [sm_trans hp]; exact h
      rw [if_pos hp]
      have := all_drop_other h r
      unfold allP at *
      simp [h, hpm, this]
    · rw [if_neg hp]
      unfold allP at *
      by_cases hm : sm key p.1 m = true
      · simp [hm, ih]
      · simp [hm, ih]
theorem get_set_other {n m : N} (h : sm key n m = false) (l : List (N × V)) (v : V) : getP key (setP key l n v) m = getP key l m := by rw [get_all, get_all, all_set_other h]

/-! ### twice -/
theorem drop_drop (l : List (N × V)) (n : N) : dropP key (dropP key l n) n = dropP key l n := by
  unfold dropP
  rw [List.filter_filter]
  apply List.filter_congr
  intro p _
  simp
theorem drop_set (l : List (N × V)) (n : N) (v : V) : dropP key (setP key l n v) n = dropP key l n := by
  induction l with
  | nil => simp [setP, dropP, sm_refl]
  | cons p r ih =>
    unfold setP
    by_cases h : sm key p.1 n = true
    · rw [if_pos h]
      have := drop_drop (key := key) r n
      unfold dropP at *
      simp [sm_refl, h]
    · rw [if_neg h]
      unfold dropP at *
      simp [h, ih]
theorem set_drop_cons (r : List (N × V)) (n : N) (v w : V) : setP key ((n, v) :: dropP key r n) n w = (n, w) :: dropP key r n := by
  show (if sm key n n then (n, w) :: dropP key (dropP key r n) n else _) = _
  rw [if_pos (sm_refl n), drop_drop]
theorem set_set (l : List (N × V)) (n : N) (v w : V) : setP key (setP key l n v) n w = setP key l n w := by
  induction l with
  | nil => simp [setP, sm_refl, dropP]
  | cons p r ih =>
    by_cases h : sm key p.1 n = true
    · have e : ∀ u, setP key (p :: r) n u = (n, u) :: dropP key r n := fun u => by
        show (if sm key p.1 n then (n, u) :: dropP key r n else p :: setP key r n u) = _
        rw [if_pos h]
      rw [e, e, set_drop_cons]
    · have e : ∀ (x : List (N × V)) u, setP key (p :: x) n u = p :: setP key x n u := fun x u => by
        show (if sm key p.1 n then (n, u) :: dropP key x n else p :: setP key x n u) = _
        rw [if_neg h]
      rw [e, e, e, ih]
theorem drop_set_other {n m : N} (h : sm key n m = false) (l : List (N × V)) (v : V) : (dropP key (setP key l n v) m).length = (dropP key (dropP key l m) n).length + 1 := by
  induction l with
  | nil => simp [setP, dropP, h]
  | cons p r ih =>
    unfold setP
    by_cases hp : sm key p.1 n = true
    · have hpm : sm key p.1 m = false := by rw [sm_trans hp]; exact h
      rw [if_pos hp]
      unfold dropP
      simp only [List.filter_cons, h, hpm, hp, Bool.not_false, Bool.not_true, if_true, List.length_cons, Bool.false_eq_true, if_false]
      congr 1
      rw [List.filter_filter, List.filter_filter]
      congr 2
      funext q
      exact Bool.and_comm _ _
    · rw [if_neg hp]
      unfold dropP at *
      by_cases hm : sm key p.1 m = true
      · simp [hm, ih]
      · simp [hm, hp, ih]
theorem drop_comm (l : List (N × V)) (n m : N) : dropP key (dropP key l n) m = dropP key (dropP key l m) n := by
  unfold dropP
  rw [List.filter_filter, List.filter_filter]
  congr 1
  funext p
  exact Bool.and_comm _ _
theorem len_two {n m : N} (h : sm key n m = false) (l : List (N × V)) (v w : V) : (setP key (setP key l n v) m w).length = (setP key (setP key l m w) n v).length := by
  rw [len_set, len_set, drop_set_other h, drop_set_other (by rw [sm_comm]; exact h), drop_comm]

/-! ### what is added -/
theorem get_add (l : List (N × V)) (n : N) (v : V) : getP key (addP l n v) n = some ((getP key l n).getD v) := by
  rw [get_all, get_all]
  unfold addP
  rw [all_snoc, if_pos (sm_refl n)]
  cases allP key l n <;> rfl
theorem all_add (l : List (N × V)) (n : N) (v : V) : allP key (addP l n v) n = allP key l n ++ [v] := by
  unfold addP
  rw [all_snoc, if_pos (sm_refl n)]

/-! ### holds -/
theorem holds_append (same : N → N → Bool) (a b l : List (N × V)) : holdsP same (a ++ b) l = (holdsP same a l && holdsP same b l) := by simp [holdsP]
/-- names that differ, told by same -/
def Apart (same : N → N → Bool) (l : List (N × V)) : Prop := ∀ i j (hi : i < l.length) (hj : j < l.length), same l[i].1 l[j].1 = true → i = j
theorem find_self {same : N → N → Bool} (hr : ∀ a, same a a = true) {l : List (N × V)} (h : Apart same l) {k : Nat} (hk : k < l.length) : l.find? (fun p => same p.1 l[k].1) = some l[k] := by
  rw [List.find?_eq_some_iff_getElem]
  refine ⟨by simpa using hr _, k, hk, rfl, fun j hj => ?_⟩
  cases hs : same l[j].1 l[k].1
  · rfl
  · exact absurd (h j k (by omega) hk hs) (by omega)
theorem holds_self {same : N → N → Bool} (hr : ∀ a, same a a = true) {l : List (N × V)} (h : Apart same l) : holdsP same l l = true := by
  unfold holdsP
  rw [List.all_eq_true]
  intro a ha
  obtain ⟨k, hk, rfl⟩ := List.getElem_of_mem ha
  unfold asks
  rw [find_self hr h hk]
  simp
/-- names that differ folded differ octet by octet; and then no more holds without fold -/
theorem apart_eq {l : List (N × V)} (h : Apart (sm key) l) : Apart (fun a b => decide (a = b)) l := fun i j hi hj e => h i j hi hj (by
  simp only [decide_eq_true_eq] at e
  rw [e]
  exact sm_refl _)
theorem holds_fold {l : List (N × V)} (h : Apart (sm key) l) (a : List (N × V)) (ha : holdsP (fun a b => decide (a = b)) a l = true) : holdsP (sm key) a l = true := by
  unfold holdsP at *
  rw [List.all_eq_true] at *
  intro x hx
  have h1 := ha x hx
  unfold asks at *
  cases hf : l.find? fun p => decide (p.1 = x.1) with
  | none => rw [hf] at h1; cases h1
  | some p =>
    rw [hf] at h1
    have hp : p.1 = x.1 := by simpa using List.find?_some hf
    obtain ⟨k, hk, rfl⟩ := List.getElem_of_mem (List.mem_of_find?_eq_some hf)
    have := find_self (same := sm key) sm_refl h hk
    rw [hp] at this
    rw [this]
    exact h1
end

end Go.Proofs.YtblmdcpcekoogaaGreatDoor.Pb
