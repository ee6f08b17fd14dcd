/-
  Filters, without a program: which may be, what they make of a request, where they send it; what follows.
-/
import Derived.Test.YtblmdcpcekoogaaGreatDoorRuMatch
import Derived.Test.YtblmdcpcekoogaaGreatDoorPbWalkC
import Derived.Test.YtblmdcpcekoogaaGreatDoorPlain
namespace Go.Proofs.YtblmdcpcekoogaaGreatDoor
set_option maxRecDepth 20000
open Go Go.RowKit

/-- a filter -/
structure FB where
  kind : Int
  name : ByteArray
  val : ByteArray
  host : ByteArray
  port : Int
  path : ByteArray
  whole : Bool
  code : Int
namespace Fi
abbrev e0 (s : ByteArray) : Bool := s.size == 0
abbrev dl (s : ByteArray) : List UInt8 := s.data.toList
def noneF (f : FB) : Bool := e0 f.host && (f.port == 0 && (e0 f.path && (!f.whole && f.code == 0)))
def turnF (f : FB) : Bool := (e0 f.host || D.isName (dl f.host)) && (if e0 f.path then !f.whole else isP (dl f.path) && (f.whole || abv (dl f.path)))
/-- may it be? -/
def mayF (f : FB) : Bool :=
  if f.kind = 1 ∨ f.kind = 2 then noneF f && (tokenB f.name && valueB f.val)
  else if f.kind = 3 then noneF f && (tokenB f.name && e0 f.val)
  else if f.kind = 4 then e0 f.name && (e0 f.val && (turnF f && (decide (0 ≤ f.port ∧ f.port ≤ 65535) && (f.code == 301 || f.code == 302))))
  else if f.kind = 5 then e0 f.name && (e0 f.val && (f.port == 0 && (f.code == 0 && (turnF f && !(e0 f.host && e0 f.path)))))
  else false
/-- two of one kind and one name -/
def clash (f g : FB) : Bool := f.kind == g.kind && sameF f.name g.name
theorem clash_comm (f g : FB) : clash f g = clash g f := by
  unfold clash
  rw [symF, show (f.kind == g.kind) = (g.kind == f.kind) from Bool.eq_iff_iff.2 ⟨fun h => beq_iff_eq.2 (eq_of_beq h).symm, fun h => beq_iff_eq.2 (eq_of_beq h).symm⟩]
theorem clash_self (f : FB) : clash f f = true := by
  unfold clash
  rw [beq_self_eq_true, Bool.true_and]
  exact Pb.sm_refl f.name
/-- how many turn it elsewhere -/
def turned (l : List FB) : Nat := (l.filter fun f => decide (3 < f.kind)).length
/-- may they be? -/
def allF (l : List FB) : Bool := decide (l.length ≤ 8) && (l.all mayF && (decide (turned l ≤ 1) && decide (l.Pairwise fun f g => clash f g = false)))
theorem allF_iff {l : List FB} : allF l = true ↔ l.length ≤ 8 ∧ (∀ f ∈ l, mayF f = true) ∧ turned l ≤ 1 ∧ l.Pairwise fun f g => clash f g = false := by
  unfold allF
  simp only [Bool.and_eq_true, decide_eq_true_eq, List.all_eq_true]
theorem all_nil : allF [] = true := rfl
theorem all_sub {l r : List FB} (h : allF r = true) (hs : l.Sublist r) : allF l = true := by
  rw [allF_iff] at *
  obtain ⟨h1, h2, h3, h4⟩ := h
  refine ⟨Nat.le_trans hs.length_le h1, fun f hf => h2 f (hs.subset hf), ?_, h4.sublist hs⟩
  exact Nat.le_trans (hs.filter _).length_le h3
theorem all_perm {l r : List FB} (h : allF r = true) (hp : l.Perm r) : allF l = true := by
  rw [allF_iff] at *
  obtain ⟨h1, h2, h3, h4⟩ := h
  refine ⟨by rw [hp.length_eq]; exact h1, fun f hf => h2 f (hp.mem_iff.1 hf), ?_, ?_⟩
  · unfold turned at *
    rw [(hp.filter _).length_eq]
    exact h3
  · exact (hp.pairwise_iff (fun {a b} hab => by rw [clash_comm]; exact hab)).2 h4
theorem all_turned {l : List FB} (h : allF l = true) (k : Nat) : allF (l.drop k ++ l.take k) = true :=
  all_perm h ((List.perm_append_comm).trans (by rw [List.take_append_drop]))
theorem all_less {l : List FB} (h : allF l = true) (k : Nat) : allF (l.take k ++ l.drop (k + 1)) = true := by
  refine all_sub h ?_
  have := List.eraseIdx_sublist l k
  rwa [List.eraseIdx_eq_take_drop_succ] at this
theorem all_one {l : List FB} (h : allF l = true) {k : Nat} (hk : k < l.length) : allF [l[k]] = true :=
  all_sub h (List.singleton_sublist.2 (List.getElem_mem hk))
theorem may_one {l : List FB} (h : allF l = true) {f : FB} (hf : f ∈ l) : mayF f = true := (allF_iff.1 h).2.1 f hf
theorem all_twice {l : List FB} {k : Nat} (hk : k < l.length) : allF (l ++ [l[k]]) = false := by
  cases h : allF (l ++ [l[k]])
  · rfl
  · have := (List.pairwise_append.1 (allF_iff.1 h).2.2.2).2.2 l[k] (List.getElem_mem hk) l[k] (by simp)
    rw [clash_self] at this
    cases this

/-! ### what a path becomes -/
def becE (f : FB) (k : Int) (v s : ByteArray) : Int := if e0 f.path then 0 else if f.whole || k == 1 then 0 else swapE k (dl v) (dl f.path) (dl s)
def becT (f : FB) (k : Int) (v s : ByteArray) : ByteArray := if e0 f.path then s else if f.whole || k == 1 then f.path else mkB (swapT k (dl v) (dl f.path) (dl s))
theorem turn_of_may {f : FB} (h : mayF f = true) (hk : f.kind = 4 ∨ f.kind = 5) : turnF f = true := by
  unfold mayF at h
  rcases hk with hk | hk
  · rw [hk] at h
    simp only [show ¬ ((4 : Int) = 1 ∨ (4 : Int) = 2) by decide, show ¬ (4 : Int) = 3 by decide, if_false, if_true, Bool.and_eq_true] at h
    exact h.2.2.1
  · rw [hk] at h
    simp only [show ¬ ((5 : Int) = 1 ∨ (5 : Int) = 2) by decide, show ¬ (5 : Int) = 3 by decide, show ¬ (5 : Int) = 4 by decide, if_false, if_true, Bool.and_eq_true] at h
    exact h.2.2.2.2.1
theorem hold_kind {k : Int} {v s : List UInt8} (h : holdP k v s = true) : (k = 1 ∨ k = 2) ∧ isP s = true := by
  unfold holdP at h
  rw [Bool.and_eq_true, Bool.and_eq_true] at h
  refine ⟨?_, h.2.1⟩
  have := h.1
  unfold mayP at this
  split at this
  · exact .inl ‹_›
  · split at this
    · exact .inr ‹_›
    · cases this
theorem path_of_turn {f : FB} (h : turnF f = true) (he : e0 f.path = false) : isP (dl f.path) = true ∧ (f.whole = true ∨ abv (dl f.path) = true) := by
  unfold turnF at h
  rw [he, Bool.and_eq_true] at h
  have := h.2
  simp only [Bool.false_eq_true, if_false, Bool.and_eq_true, Bool.or_eq_true] at this
  exact this
/-- what it becomes is a path -/
theorem bec_isP {f : FB} {k : Int} {v s : ByteArray} (ht : turnF f = true) (hh : holdP k (dl v) (dl s) = true) (he : becE f k v s = 0) : isP (dl (becT f k v s)) = true := by
  obtain ⟨hk, hs⟩ := hold_kind hh
  unfold becT
  unfold becE at he
  cases h0 : e0 f.path
  · rw [h0] at he
    simp only [Bool.false_eq_true, if_false] at he ⊢
    obtain ⟨hp, hw⟩ := path_of_turn ht h0
    cases h1 : f.whole || k == 1
    · rw [h1] at he
      simp only [Bool.false_eq_true, if_false] at he ⊢
      rw [Bool.or_eq_false_iff] at h1
      have hk2 : k = 2 := by
        rcases hk with rfl | rfl
        · exact absurd h1.2 (by decide)
        · rfl
      subst hk2
      show isP (mkB _).data.toList = true
      rw [mkB_list]
      exact (swap_isP he).1
    · simp only [if_true]
      exact hp
  · simp only [if_true]
    exact hs
/-- .. and begins with the filter's -/
theorem bec_und {f : FB} {k : Int} {v s : ByteArray} (hh : holdP k (dl v) (dl s) = true) (he : becE f k v s = 0) (h0 : e0 f.path = false) (h1 : (f.whole || k == 1) = false) : holdP 2 (dl f.path) (dl (becT f k v s)) = true := by
  obtain ⟨hk, _⟩ := hold_kind hh
  unfold becT
  unfold becE at he
  rw [h0, h1] at he ⊢
  simp only [Bool.false_eq_true, if_false] at he ⊢
  rw [Bool.or_eq_false_iff] at h1
  have hk2 : k = 2 := by
    rcases hk with rfl | rfl
    · exact absurd h1.2 (by decide)
    · rfl
  subst hk2
  show holdP 2 (dl f.path) (mkB _).data.toList = true
  rw [mkB_list]
  exact (swap_isP he).2
theorem bec_whole {f : FB} {k : Int} {v s : ByteArray} (h0 : e0 f.path = false) (h1 : (f.whole || k == 1) = true) : becE f k v s = 0 ∧ becT f k v s = f.path := by
  unfold becE becT
  rw [h0, h1]
  exact ⟨rfl, rfl⟩
theorem bec_none {f : FB} {k : Int} {v s : ByteArray} (h0 : e0 f.path = true) : becE f k v s = 0 ∧ becT f k v s = s := by
  unfold becE becT
  rw [h0]
  exact ⟨rfl, rfl⟩

/-! ### what they make of a request -/
def stepF (k : Int) (v : ByteArray) (r : RB) (f : FB) : Except Int RB :=
  if f.kind = 1 then .ok { r with head := setQ r.head f.name f.val }
  else if f.kind = 2 then .ok { r with head := r.head ++ [(f.name, f.val)] }
  else if f.kind = 3 then .ok { r with head := dropQ r.head f.name }
  else if f.kind = 5 then (if becE f k v r.path = 0 then .ok { r with host := if e0 f.host then r.host else f.host, path := becT f k v r.path } else .error (becE f k v r.path))
  else .ok r
/-- and then -/
def andF (k : Int) (v : ByteArray) (o : Except Int RB) (f : FB) : Except Int RB := match o with
  | .ok r => stepF k v r f
  | .error e => .error e
def runF (k : Int) (v : ByteArray) (l : List FB) (r : RB) : Except Int RB := l.foldl (andF k v) (.ok r)
theorem run_nil (k : Int) (v : ByteArray) (r : RB) : runF k v [] r = .ok r := rfl
theorem run_snoc (k : Int) (v : ByteArray) (l : List FB) (f : FB) (r : RB) : runF k v (l ++ [f]) r = andF k v (runF k v l r) f := by
  unfold runF
  rw [List.foldl_append]
  rfl
theorem run_take {k : Int} {v : ByteArray} {l : List FB} {r : RB} {n : Nat} (hn : n < l.length) : runF k v (l.take (n + 1)) r = andF k v (runF k v (l.take n) r) l[n] := by
  rw [List.take_succ_eq_append_getElem hn, run_snoc]
theorem fold_error (k : Int) (v : ByteArray) (l : List FB) (e : Int) : l.foldl (andF k v) (.error e) = .error e := by
  induction l with
  | nil => rfl
  | cons f l ih => exact ih
/-- the first error is the answer -/
theorem run_stop {k : Int} {v : ByteArray} {l : List FB} {r : RB} {n : Nat} {e : Int} (h : runF k v (l.take n) r = .error e) : runF k v l r = .error e := by
  have := List.take_append_drop n l
  rw [← this]
  unfold runF at *
  rw [List.foldl_append, h]
  exact fold_error k v _ e
/-- a property that each step keeps -/
theorem run_keeps {k : Int} {v : ByteArray} {P : RB → Prop} : ∀ (l : List FB) (r a : RB), P r → (∀ f ∈ l, ∀ x y, P x → stepF k v x f = .ok y → P y) → runF k v l r = .ok a → P a
  | [], r, a, hr, _, h => by
    rw [run_nil] at h
    cases h
    exact hr
  | f :: l, r, a, hr, hs, h => by
    have e : runF k v (f :: l) r = l.foldl (andF k v) (stepF k v r f) := rfl
    rw [e] at h
    cases hst : stepF k v r f with
    | error x => rw [hst, fold_error] at h; cases h
    | ok y =>
      rw [hst] at h
      exact run_keeps l y a (hs f (by simp) r y hr hst) (fun g hg => hs g (by simp [hg])) h
theorem step_meth {k : Int} {v : ByteArray} {f : FB} {x y : RB} (h : stepF k v x f = .ok y) : y.meth = x.meth ∧ y.query = x.query := by
  unfold stepF at h
  split at h
  · cases h; exact ⟨rfl, rfl⟩
  · split at h
    · cases h; exact ⟨rfl, rfl⟩
    · split at h
      · cases h; exact ⟨rfl, rfl⟩
      · split at h
        · split at h
          · cases h; exact ⟨rfl, rfl⟩
          · cases h
        · cases h; exact ⟨rfl, rfl⟩
/-- method and query stay -/
theorem run_meth {k : Int} {v : ByteArray} {l : List FB} {r a : RB} (h : runF k v l r = .ok a) : a.meth = r.meth ∧ a.query = r.query :=
  run_keeps (P := fun x => x.meth = r.meth ∧ x.query = r.query) l r a ⟨rfl, rfl⟩ (fun f _ _ _ hx hs => by
    obtain ⟨h1, h2⟩ := step_meth hs
    exact ⟨h1.trans hx.1, h2.trans hx.2⟩) h
theorem step_other {k : Int} {v : ByteArray} {f : FB} {x y : RB} {n : ByteArray} (hn : f.kind < 4 → sameF f.name n = false) (h : stepF k v x f = .ok y) : allQ y.head n = allQ x.head n := by
  unfold stepF at h
  split at h
  · rename_i h1
    cases h
    exact Pb.all_set_other (hn (by omega)) _ _
  · split at h
    · rename_i h1 h2
      cases h
      show Pb.allP foldB (x.head ++ [(f.name, f.val)]) n = _
      have h3 : Pb.sm foldB f.name n = false := hn (by omega)
      rw [Pb.all_snoc, h3]
      simp
    · split at h
      · rename_i h1 h2 h3
        cases h
        exact Pb.all_drop_other (hn (by omega)) _
      · split at h
        · split at h
          · cases h; rfl
          · cases h
        · cases h; rfl
/-- fields of other names stay -/
theorem run_other {k : Int} {v : ByteArray} {l : List FB} {r a : RB} {n : ByteArray} (hn : ∀ f ∈ l, f.kind < 4 → sameF f.name n = false) (h : runF k v l r = .ok a) : allQ a.head n = allQ r.head n :=
  run_keeps (P := fun x => allQ x.head n = allQ r.head n) l r a rfl (fun f hf _ _ hx hs => (step_other (hn f hf) hs).trans hx) h
/-- what a filter that is alone with its name makes of its field -/
def madeF (f : FB) (was : List ByteArray) : List ByteArray := if f.kind = 1 then [f.val] else if f.kind = 2 then was ++ [f.val] else if f.kind = 3 then [] else was
theorem step_own {k : Int} {v : ByteArray} {f : FB} {x y : RB} (h : stepF k v x f = .ok y) : allQ y.head f.name = madeF f (allQ x.head f.name) := by
  unfold stepF at h
  unfold madeF
  split at h
  · rename_i h1
    rw [if_pos h1]
    cases h
    exact Pb.all_set _ _ _
  · rename_i h1
    rw [if_neg h1]
    split at h
    · rename_i h2
      rw [if_pos h2]
      cases h
      exact Pb.all_add _ _ _
    · rename_i h2
      rw [if_neg h2]
      split at h
      · rename_i h3
        rw [if_pos h3]
        cases h
        exact Pb.all_drop _ _
      · rename_i h3
        rw [if_neg h3]
        split at h
        · split at h
          · cases h; rfl
          · cases h
        · cases h; rfl
theorem run_split {k : Int} {v : ByteArray} {l : List FB} {r a : RB} {i : Nat} (hi : i < l.length) (h : runF k v l r = .ok a) : ∃ x y, runF k v (l.take i) r = .ok x ∧ stepF k v x l[i] = .ok y ∧ runF k v (l.drop (i + 1)) y = .ok a := by
  have e : l = l.take i ++ l[i] :: l.drop (i + 1) := by rw [← List.drop_eq_getElem_cons hi, List.take_append_drop]
  rw [e] at h
  unfold runF at h
  rw [List.foldl_append] at h
  cases h1 : runF k v (l.take i) r with
  | error x =>
    unfold runF at h1
    rw [h1, fold_error] at h
    cases h
  | ok x =>
    have h1' := h1
    unfold runF at h1'
    rw [h1'] at h
    have h2 : (l.drop (i + 1)).foldl (andF k v) (stepF k v x l[i]) = .ok a := h
    cases h3 : stepF k v x l[i] with
    | error z => rw [h3, fold_error] at h2; cases h2
    | ok y =>
      rw [h3] at h2
      exact ⟨x, y, rfl, h3, h2⟩
theorem run_own {k : Int} {v : ByteArray} {l : List FB} {r a : RB} {i : Nat} (hi : i < l.length) (ha : ∀ j (hj : j < l.length), j ≠ i → l[j].kind < 4 → sameF l[j].name l[i].name = false) (h : runF k v l r = .ok a) : allQ a.head l[i].name = madeF l[i] (allQ r.head l[i].name) := by
  obtain ⟨x, y, h1, h2, h3⟩ := run_split hi h
  have e3 := run_other (n := l[i].name) (fun f hf hk => by
    obtain ⟨j, hj, rfl⟩ := List.getElem_of_mem hf
    rw [List.length_drop] at hj
    rw [List.getElem_drop] at hk ⊢
    exact ha _ (by omega) (by omega) hk) h3
  have e1 := run_other (n := l[i].name) (fun f hf hk => by
    obtain ⟨j, hj, rfl⟩ := List.getElem_of_mem hf
    rw [List.length_take] at hj
    rw [List.getElem_take] at hk ⊢
    exact ha _ (by omega) (by omega) hk) h1
  rw [e3, step_own h2, e1]
def zeroR : RB := ⟨⟨#[]⟩, ⟨#[]⟩, ⟨#[]⟩, [], []⟩
/-- the request, and the error's number -/
def doF (l : List FB) (k : Int) (v : ByteArray) (r : RB) : RB × Int :=
  if (allF l && holdP k (dl v) (dl r.path)) = true then (match runF k v l r with
    | .error e => (zeroR, e)
    | .ok a => if 30 < a.head.length then (zeroR, 5) else (a, 0))
  else (zeroR, 1)
theorem run_error {k : Int} {v : ByteArray} : ∀ (l : List FB) (r : RB) (e : Int), runF k v l r = .error e → e = 1 ∨ e = 5
  | [], r, e, h => by rw [run_nil] at h; cases h
  | f :: l, r, e, h => by
    have e1 : runF k v (f :: l) r = l.foldl (andF k v) (stepF k v r f) := rfl
    rw [e1] at h
    cases hst : stepF k v r f with
    | ok y => rw [hst] at h; exact run_error l y e h
    | error x =>
      rw [hst, fold_error] at h
      cases h
      unfold stepF at hst
      split at hst
      · cases hst
      · split at hst
        · cases hst
        · split at hst
          · cases hst
          · split at hst
            · split at hst
              · cases hst
              · rename_i hb
                cases hst
                unfold becE at *
                split at hb
                · exact absurd rfl hb
                · split at hb
                  · exact absurd rfl hb
                  · rename_i a1 a2
                    rw [if_neg a1, if_neg a2] at *
                    rcases swapE_range k (dl v) (dl f.path) (dl r.path) with h0 | h0 | h0
                    · exact absurd h0 hb
                    · exact .inl h0
                    · exact .inr h0
            · cases hst
/-- it is done, or refused with an error and nothing -/
theorem do_cases (l : List FB) (k : Int) (v : ByteArray) (r : RB) : (∃ e, doF l k v r = (zeroR, e) ∧ (e = 1 ∨ e = 5)) ∨ ∃ a, doF l k v r = (a, 0) ∧ allF l = true ∧ holdP k (dl v) (dl r.path) = true ∧ runF k v l r = .ok a ∧ a.head.length ≤ 30 := by
  unfold doF
  split
  · rename_i h
    rw [Bool.and_eq_true] at h
    cases hr : runF k v l r with
    | error e => exact .inl ⟨e, rfl, run_error l r e hr⟩
    | ok a =>
      by_cases h30 : 30 < a.head.length
      · exact .inl ⟨5, by simp [h30], .inr rfl⟩
      · exact .inr ⟨a, by simp [h30], h.1, h.2, rfl, by omega⟩
  · exact .inl ⟨1, rfl, .inl rfl⟩
/-- without filters -/
theorem do_nil {k : Int} {v : ByteArray} {r : RB} (h : holdP k (dl v) (dl r.path) = true) : doF [] k v r = if 30 < r.head.length then (zeroR, 5) else (r, 0) := by
  unfold doF
  rw [all_nil, h]
  rfl

/-! ### where they send it -/
/-- a number's digits -/
def digs : Nat → Nat → List UInt8
  | 0, _ => []
  | fuel + 1, n => if n = 0 then [] else digs fuel (n / 10) ++ [UInt8.ofNat (48 + n % 10)]
def portT (port : Int) (tls : Bool) : List UInt8 := if port ≠ 0 ∧ ¬ (port = 80 ∧ tls = false) ∧ ¬ (port = 443 ∧ tls = true) then 58 :: digs 8 port.toNat else []
def scheme (tls : Bool) : List UInt8 := if tls then [104, 116, 116, 112, 115, 58, 47, 47] else [104, 116, 116, 112, 58, 47, 47]
def addrF (f : FB) (k : Int) (v : ByteArray) (host path : ByteArray) (tls : Bool) : List UInt8 := scheme tls ++ (dl (if e0 f.host then host else f.host) ++ portT f.port tls ++ dl (becT f k v path))
/-- a number and an address, and the error's number -/
def awayF (l : List FB) (k : Int) (v : ByteArray) (host path : ByteArray) (tls : Bool) : (Int × ByteArray) × Int :=
  if (allF l && holdP k (dl v) (dl path)) = true then (match l.find? fun f => f.kind == 4 with
    | none => ((0, ⟨#[]⟩), 3)
    | some f => if becE f k v path = 0 then ((f.code, mkB (addrF f k v host path tls)), 0) else ((0, ⟨#[]⟩), becE f k v path))
  else ((0, ⟨#[]⟩), 1)
theorem becE_range (f : FB) (k : Int) (v s : ByteArray) : becE f k v s = 0 ∨ becE f k v s = 1 ∨ becE f k v s = 5 := by
  unfold becE
  split
  · exact .inl rfl
  · split
    · exact .inl rfl
    · exact swapE_range _ _ _ _
/-- what is to be said of it -/
theorem away_cases (l : List FB) (k : Int) (v : ByteArray) (host path : ByteArray) (tls : Bool) :
    (∃ e, awayF l k v host path tls = ((0, ⟨#[]⟩), e) ∧ (e = 1 ∨ e = 5)) ∨ (awayF l k v host path tls = ((0, ⟨#[]⟩), 3) ∧ ∀ f ∈ l, (f.kind == 4) = false) ∨
    ∃ c rest, awayF l k v host path tls = ((c, mkB (scheme tls ++ rest)), 0) ∧ (c = 301 ∨ c = 302) ∧ rest ≠ [] ∧ ∃ f ∈ l, (f.kind == 4) = true := by
  unfold awayF
  split
  · rename_i h
    rw [Bool.and_eq_true] at h
    cases hf : l.find? fun f => f.kind == 4 with
    | none =>
      refine .inr (.inl ⟨rfl, fun f hf2 => ?_⟩)
      have := List.find?_eq_none.1 hf f hf2
      simpa using this
    | some f =>
      have hm := List.mem_of_find?_eq_some hf
      have hk : (f.kind == 4) = true := by have := List.find?_some hf; exact this
      have hk4 : f.kind = 4 := eq_of_beq hk
      by_cases hb : becE f k v path = 0
      · refine .inr (.inr ⟨f.code, _, by simp only [if_pos hb]; rfl, ?_, ?_, f, hm, hk⟩)
        · have := may_one h.1 hm
          unfold mayF at this
          rw [hk4] at this
          simp only [show ¬ ((4 : Int) = 1 ∨ (4 : Int) = 2) by decide, show ¬ (4 : Int) = 3 by decide, if_false, if_true, Bool.and_eq_true, Bool.or_eq_true, beq_iff_eq] at this
          exact this.2.2.2.2
        · intro e
          have hp := bec_isP (turn_of_may (may_one h.1 hm) (.inl hk4)) h.2 hb
          exact isP_ne hp (List.append_eq_nil_iff.1 e).2
      · refine .inl ⟨becE f k v path, by simp only [if_neg hb], ?_⟩
        rcases becE_range f k v path with h0 | h0 | h0
        · exact absurd h0 hb
        · exact .inl h0
        · exact .inr h0
  · exact .inl ⟨1, rfl, .inl rfl⟩

/-! ### a swap alone -/
theorem swap_alone {f : FB} {k : Int} {v : ByteArray} {r a : RB} (hk : f.kind = 5) (h : doF [f] k v r = (a, 0)) :
    a.host = (if e0 f.host then r.host else f.host) ∧ a.path = becT f k v r.path ∧ isP (dl a.path) = true ∧ becE f k v r.path = 0 ∧ holdP k (dl v) (dl r.path) = true := by
  rcases do_cases [f] k v r with ⟨e, he, h1⟩ | ⟨a', he, hA, hH, hR, _⟩
  · rw [he] at h
    have := congrArg Prod.snd h
    simp only at this
    omega
  · rw [he] at h
    cases h
    have hs : runF k v [f] r = stepF k v r f := rfl
    rw [hs] at hR
    unfold stepF at hR
    rw [hk] at hR
    simp only [show ¬ (5 : Int) = 1 by decide, show ¬ (5 : Int) = 2 by decide, show ¬ (5 : Int) = 3 by decide, if_false, if_true] at hR
    by_cases hb : becE f k v r.path = 0
    · rw [if_pos hb] at hR
      cases hR
      exact ⟨rfl, rfl, bec_isP (turn_of_may (may_one hA (by simp)) (.inr hk)) hH hb, hb, hH⟩
    · rw [if_neg hb] at hR
      cases hR
end Fi

end Go.Proofs.YtblmdcpcekoogaaGreatDoor
