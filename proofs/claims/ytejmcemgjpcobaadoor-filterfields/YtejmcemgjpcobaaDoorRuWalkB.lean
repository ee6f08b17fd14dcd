/-
  Walks: rule's mayHead, mayQuery, May, Holds.
-/
import Derived.Test.YtejmcemgjpcobaaDoorRuWalkA
namespace Go.Proofs.YtejmcemgjpcobaaDoor
set_option maxRecDepth 20000
open Go Go.RowKit Go.Shelf

attribute [local go_sem] gb_const

theorem token_b (s : ByteArray) (w : World) (hs : s.size ≤ maxLen) :
    Calls Tryd.prog 61 #[.string s] w fun e w' => e = .returned (.bool (tokenB s)) ∧ Below w.heap.size w w' :=
  (token_any s w hs).mono fun _ _ ⟨h, hw⟩ => ⟨h.is tokenB_iff, by rw [hw]; exact Below.refl _ _⟩
theorem value_b (s : ByteArray) (w : World) (hs : s.size ≤ maxLen) :
    Calls Tryd.prog 62 #[.string s] w fun e w' => e = .returned (.bool (valueB s)) ∧ Below w.heap.size w w' :=
  (value_any s w hs).mono fun _ _ ⟨h, hw⟩ => ⟨h.is valueB_iff, by rw [hw]; exact Below.refl _ _⟩

/-- the first ones of a list -/
theorem Prs.pre {w : World} {a : Option Addr} {n cap : Nat} {l : List PairB} (h : Prs w (.slice a n cap) l) {k : Nat} (hk : k ≤ l.length) : Prs w (.slice a k cap) (l.take k) := by
  obtain ⟨a', cap', hv, h1, h2, hc⟩ := h
  injection hv with e1 e2 e3
  subst e1 e2 e3
  have hl : (l.take k).length = k := by simp; omega
  refine ⟨a, cap, by rw [hl], by rw [hl]; omega, h2, fun i hi => ?_⟩
  rw [hl] at hi
  obtain ⟨g, off, ha, hg, c1, c2⟩ := hc i (by omega)
  exact ⟨g, off, ha, hg, by simpa using c1, by simpa using c2⟩

/-- which fields may be asked for -/
def headB (l : List PairB) : Bool := decide (l.length ≤ 8) && (l.all (fun p => tokenB p.1 && valueB p.2) && farB sameF l)
def queryB (l : List PairB) : Bool := decide (l.length ≤ 8) && (Qu.may (l.map pl) && farB sameE l)
theorem mayM_parts (m : MB) : mayM m = (mayP m.kind m.val.data.toList && ((m.meth.size == 0 || methB m.meth) && (headB m.head && queryB m.query))) := by
  unfold mayM headB queryB
  cases mayP m.kind m.val.data.toList <;> cases (m.meth.size == 0 || methB m.meth) <;> cases decide (m.head.length ≤ 8) <;> cases decide (m.query.length ≤ 8) <;> cases Qu.may (m.query.map pl) <;> cases m.head.all (fun p => tokenB p.1 && valueB p.2) <;> cases farB sameF m.head <;> cases farB sameE m.query <;> rfl

section
variable {same : ByteArray → ByteArray → Bool} {l : List PairB}
/-- no name of the first k like one ahead of it -/
def FarB (same : ByteArray → ByteArray → Bool) (l : List PairB) (k : Nat) : Prop := ∀ x y (hx : x < l.length) (hy : y < l.length), x < k → y < x → same l[y].1 l[x].1 = false
theorem far_next {k : Nat} (hk : k < l.length) (h : FarB same l k) (hn : namedB same l[k].1 (l.take k) = false) : FarB same l (k + 1) := by
  intro x y hx hy hxk hyx
  rcases Nat.lt_or_ge x k with h1 | h1
  · exact h x y hx hy h1 hyx
  · obtain rfl : x = k := by omega
    unfold namedB at hn
    rw [List.any_eq_false] at hn
    have hm : l[y] ∈ l.take x := by
      rw [List.mem_take_iff_getElem]
      exact ⟨y, by omega, rfl⟩
    have := hn _ hm
    simpa using this
theorem far_done (hs : ∀ a b, same a b = same b a) (h : FarB same l l.length) : farB same l = true := by
  rw [farB_iff]
  intro x y hx hy hyx
  rw [hs]
  exact h x y hx hy hx hyx
theorem far_not (hs : ∀ a b, same a b = same b a) {k : Nat} (hk : k < l.length) (hn : namedB same l[k].1 (l.take k) = true) : farB same l = false := by
  cases hf : farB same l
  · rfl
  · rw [farB_iff] at hf
    unfold namedB at hn
    rw [List.any_eq_true] at hn
    obtain ⟨p, hp, hps⟩ := hn
    rw [List.mem_take_iff_getElem] at hp
    obtain ⟨y, hy, rfl⟩ := hp
    have := hf k y hk (by omega) (by omega)
    rw [hs, hps] at this
    cases this
end
theorem head_long {l : List PairB} (h : 8 < l.length) : headB l = false := by
  unfold headB
  rw [decide_eq_false (by omega), Bool.false_and]
theorem query_long {l : List PairB} (h : 8 < l.length) : queryB l = false := by
  unfold queryB
  rw [decide_eq_false (by omega), Bool.false_and]
theorem head_bad {l : List PairB} {k : Nat} (hk : k < l.length) (h : (tokenB l[k].1 && valueB l[k].2) = false) : headB l = false := by
  have : l.all (fun p => tokenB p.1 && valueB p.2) = false := by
    rw [List.all_eq_false]
    exact ⟨_, List.getElem_mem hk, by rw [h]; decide⟩
  unfold headB
  rw [this, Bool.false_and, Bool.and_false]
theorem head_twice {l : List PairB} {k : Nat} (hk : k < l.length) (h : namedB sameF l[k].1 (l.take k) = true) : headB l = false := by
  unfold headB
  rw [far_not symF hk h, Bool.and_false, Bool.and_false]
theorem head_done {l : List PairB} (h8 : ¬ 8 < l.length) (h : ∀ j (hj : j < l.length), j < l.length → (tokenB l[j].1 && valueB l[j].2) = true) (hf : FarB sameF l l.length) : headB l = true := by
  have h1 : l.all (fun p => tokenB p.1 && valueB p.2) = true := by
    rw [List.all_eq_true]
    intro p hp
    obtain ⟨j, hj, rfl⟩ := List.getElem_of_mem hp
    exact h j hj hj
  unfold headB
  rw [h1, far_done symF hf, decide_eq_true (by omega)]
  rfl

theorem query_not {l : List PairB} (h : Qu.may (l.map pl) = false) : queryB l = false := by
  unfold queryB
  rw [h, Bool.false_and, Bool.and_false]
theorem query_twice {l : List PairB} {k : Nat} (hk : k < l.length) (h : namedB sameE l[k].1 (l.take k) = true) : queryB l = false := by
  unfold queryB
  rw [far_not symE hk h, Bool.and_false, Bool.and_false]
theorem query_done {l : List PairB} (h8 : ¬ 8 < l.length) (h : Qu.may (l.map pl) = true) (hf : FarB sameE l l.length) : queryB l = true := by
  unfold queryB
  rw [h, far_done symE hf, decide_eq_true (by omega)]
  rfl

end Go.Proofs.YtejmcemgjpcobaaDoor
