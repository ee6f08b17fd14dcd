/-
  A law for regions that draw their order. Operations that yield one value in every world that meets S, and of what was there turn nothing (a load, an address, a call that may lay blocks of its own), may be taken first, beside new variables that are laid at whatever time; the stores, that wait for all of them, come behind (S need not hold any more there).
-/
import Derived.Test.YtblmdcpcekoogaaGreatDoorCore
import Derived.OrdersHeld
import Derived.Deep.Quiet
namespace Go.Proofs.YtblmdcpcekoogaaGreatDoor
set_option maxRecDepth 20000
open Go Go.RowKit

/-- nothing that was there has turned -/
def Grow (w w' : World) : Prop := Below w.heap.size w w'
theorem Grow.refl (w : World) : Grow w w := Below.refl _ _
theorem Grow.trans {a b c : World} (h : Grow a b) (k : Grow b c) : Grow a c := Below.trans h (Below.mono k h.size)
theorem Grow.block {w w' : World} {n : Nat} {o : Obj} (h : Grow w w') (hn : w.heap[n]? = some o) : w'.heap[n]? = some o := by
  have hlt : n < w.heap.size := by
    by_cases e : n < w.heap.size
    · exact e
    · rw [Array.getElem?_eq_none (by omega)] at hn; cases hn
  rw [Below.block h n hlt]
  exact hn

section
variable {P : Program} {md : Region.Mode} {ops : Array Oper} {Q : Exit → Act → World → Prop} {S : World → Prop} {n : Nat}

/-- Whatever order is picked from here on, and however the world has grown meanwhile. The first n operations are to keep S; behind the others the plain walk goes on. -/
def wpG (P : Program) (md : Region.Mode) (ops : Array Oper) (Q : Exit → Act → World → Prop) (S : World → Prop) (n : Nat) : Nat → Array Bool → Act → World → Prop
  | 0, listed, a, w => ∀ w', Grow w w' → S w' → Region.ready md ops listed = [] ∧ Q .normal a w'
  | f + 1, listed, a, w => ∀ w', Grow w w' → S w' → (Region.ready md ops listed = [] → Q .normal a w') ∧
      ∀ i ∈ Region.ready md ops listed, wpOp P ops Q i (fun a' w2 => if i < n then S w2 ∧ wpG P md ops Q S n f (listed.setIfInBounds i true) a' w2 else wpAny P md ops Q f (listed.setIfInBounds i true) a' w2) a w'

theorem wpG_grow {f : Nat} {l : Array Bool} {a : Act} {w w2 : World} (h : wpG P md ops Q S n f l a w) (hg : Grow w w2) : wpG P md ops Q S n f l a w2 := by
  cases f with
  | zero => exact fun w' k hs => h w' (hg.trans k) hs
  | succ f => exact fun w' k hs => h w' (hg.trans k) hs

theorem wpAny_of_G : ∀ (f : Nat) (l : Array Bool) (a : Act) (w : World), wpG P md ops Q S n f l a w → S w → wpAny P md ops Q f l a w
  | 0, _, _, w, h, hs => h w (Grow.refl w) hs
  | f + 1, _, _, w, h, hs => by
    have hh := h w (Grow.refl w) hs
    refine ⟨hh.1, fun i hi => wpOp_mono (fun a' w2 k => ?_) (hh.2 i hi)⟩
    by_cases hin : i < n
    · rw [if_pos hin] at k
      exact wpAny_of_G f _ a' w2 k.2 k.1
    · rw [if_neg hin] at k
      exact k

/-- what has come up has come up behind all that it waits for -/
def ClosedL (md : Region.Mode) (ops : Array Oper) (l : Array Bool) : Prop := ∀ (j : Nat) (o : Oper), ops[j]? = some o → l.getD j false = true → ∀ e ∈ o.after, Region.binds md e = true → l.getD e.on false = true
theorem closed_set {l : Array Bool} {i : Nat} (hc : ClosedL md ops l) (hi : i ∈ Region.ready md ops l) : ClosedL md ops (l.setIfInBounds i true) := by
  intro j o ho hj e he hb
  by_cases hji : i = j
  · subst hji
    obtain ⟨_, o', ho', hall⟩ := mem_ready.1 hi
    rw [ho] at ho'
    cases ho'
    exact getD_set_true (hall e he hb)
  · rw [getD_set_ne false hji] at hj
    exact getD_set_true (hc j o ho hj e he hb)
def closedB (md : Region.Mode) (ops : Array Oper) (l : Array Bool) : Bool := (List.range ops.size).all fun j => match ops[j]? with
  | some o => !l.getD j false || o.after.all fun e => !Region.binds md e || l.getD e.on false
  | none => true
theorem closed_of_B {l : Array Bool} (h : closedB md ops l = true) : ClosedL md ops l := by
  intro j o ho hj e he hb
  have hlt : j < ops.size := (Array.getElem?_eq_some_iff.1 ho).1
  have h1 := List.all_eq_true.1 h j (List.mem_range.2 hlt)
  simp only [ho, hj, Bool.not_true, Bool.false_or] at h1
  have h2 := Array.all_eq_true_iff_forall_mem.1 h1 e he
  simpa [hb] using h2

/-- what some operations wait for, with themselves -/
def reachB (md : Region.Mode) (ops : Array Oper) (X : List Nat) : List Nat := (List.range ops.size).filter fun i => X.contains i || X.any fun x => match ops[x]? with
  | some o => o.after.any fun e => Region.binds md e && e.on == i
  | none => false
theorem reach_listed {l : Array Bool} {X : List Nat} (hc : ClosedL md ops l) (hX : ∀ x ∈ X, l.getD x false = true) : ∀ x ∈ reachB md ops X, l.getD x false = true := by
  intro x hx
  have h := (List.mem_filter.1 hx).2
  rcases Bool.or_eq_true _ _ ▸ h with h | h
  · exact hX x (by simpa using h)
  · obtain ⟨y, hy, hy2⟩ := List.any_eq_true.1 h
    split at hy2
    · rename_i o ho
      obtain ⟨e, he, hb⟩ := Array.any_eq_true'.1 hy2
      simp only [Bool.and_eq_true, beq_iff_eq] at hb
      rw [← hb.2]
      exact hc y o ho (hX y hy) e he hb.1
    · cases hy2
def reachN (md : Region.Mode) (ops : Array Oper) : Nat → List Nat → List Nat
  | 0, X => X
  | k + 1, X => reachN md ops k (reachB md ops X)
theorem reachN_listed {l : Array Bool} (hc : ClosedL md ops l) : ∀ (k : Nat) (X : List Nat), (∀ x ∈ X, l.getD x false = true) → ∀ x ∈ reachN md ops k X, l.getD x false = true
  | 0, _, hX => hX
  | k + 1, _, hX => reachN_listed hc k _ (reach_listed hc hX)
/-- each operation from number n on waits, by way of others, for all the first n -/
def gateB (md : Region.Mode) (ops : Array Oper) (n k : Nat) : Bool := (List.range ops.size).all fun j => decide (j < n) || match ops[j]? with
  | some o => (List.range n).all fun i => (reachN md ops k ((o.after.toList.filter (Region.binds md)).map (·.on))).contains i
  | none => true
theorem gate_of_B {k : Nat} {l : Array Bool} {i j : Nat} (hg : gateB md ops n k = true) (hc : ClosedL md ops l) (hj : j ∈ Region.ready md ops l) (hi : i < n) (hun : l.getD i false = false) : j < n := by
  obtain ⟨_, o, ho, hall⟩ := mem_ready.1 hj
  have hlt : j < ops.size := (Array.getElem?_eq_some_iff.1 ho).1
  have h1 := List.all_eq_true.1 hg j (List.mem_range.2 hlt)
  rcases Bool.or_eq_true _ _ ▸ h1 with h1 | h1
  · exact of_decide_eq_true h1
  · simp only [ho] at h1
    have h2 := List.all_eq_true.1 h1 i (List.mem_range.2 hi)
    have h3 := reachN_listed hc k ((o.after.toList.filter (Region.binds md)).map (·.on)) (fun x hx => by
      obtain ⟨e, he, rfl⟩ := List.mem_map.1 hx
      obtain ⟨he1, he2⟩ := List.mem_filter.1 he
      exact hall e (Array.mem_toList_iff.1 he1) he2) i (by simpa using h2)
    rw [hun] at h3
    cases h3

/-- In state a, in every world that meets S: o yields v, and of what was there nothing turns. -/
def YieldsG (P : Program) (ops : Array Oper) (S : World → Prop) (o : Oper) (v : Value) (a : Act) : Prop :=
  (Region.wanted o (yielded ops a.tmps) = true ∧ ∀ w, S w → o.quietAt P a (fun w2 => Grow w w2 ∧ S w2) w v) ∨ (Region.wanted o (yielded ops a.tmps) = false ∧ v = undef)
theorem YieldsG.same {o : Oper} {v : Value} {a a' : Act} (h : YieldsG P ops S o v a) (he : execOp a'.eval o = execOp a.eval o) (hw : Region.wanted o (yielded ops a'.tmps) = Region.wanted o (yielded ops a.tmps)) : YieldsG P ops S o v a' := by
  unfold YieldsG Oper.quietAt at *
  rw [he, hw]
  exact h

/-- it is carried out: what follows holds in each world that it may leave -/
theorem YieldsG.run {i : Nat} {o : Oper} {v : Value} {a : Act} {w : World} {K : Act → World → Prop} (hi : ops[i]? = some o) (h : YieldsG P ops S o v a) (hs : S w) (hk : ∀ w2, Grow w w2 → S w2 → K (a.put o.dst v) w2) : wpOp P ops Q i K a w := by
  unfold wpOp
  simp only [hi]
  rcases h with ⟨hw, h⟩ | ⟨hw, rfl⟩
  · simp only [hw, if_true]
    refine .inl ?_
    have h1 := h w hs
    unfold Oper.quietAt at h1
    unfold Oper.wp
    generalize (execOp a.eval o).run P w = r at *
    cases r with
    | ok x w1 =>
      cases x <;> simp only [Oper.quietUpon] at h1 <;> simp only [Oper.upon]
      case value u => obtain ⟨rfl, rfl⟩ := h1; exact hk _ (Grow.refl _) hs
      case skip => obtain ⟨rfl, rfl⟩ := h1; exact hk _ (Grow.refl _) hs
      case enter g args =>
        obtain ⟨rfl, hc⟩ := h1
        exact hc.mono fun e w2 ⟨he, h2, h3⟩ => by subst he; exact hk _ h2 h3
    | halt x w1 => simp only [Oper.quietUpon] at h1
  · simp only [hw, Bool.false_eq_true, if_false]
    exact hk w (Grow.refl w) hs

/-- an operation that is apart from another one: it makes no odds whether that one's value stands there already; and what the state said that it does not touch it still says -/
theorem wpOp_put_inv {j : Nat} {oi oj : Oper} {v : Value} {Y : Act → Prop} (hj : ops[j]? = some oj) (hap : oi.apart ops oj = true) (hsj : ∀ cs b, oj.op ≠ .select cs b)
    (hQ : ∀ c a w, Q (.panic c) (a.put oi.dst v) w → Q (.panic c) a w) (hY : ∀ a u, Y a → Y (a.put oj.dst u)) (hD : ∀ a d, Y a → Y { a with defers := d :: a.defers })
    {K : Act → World → Prop} {a : Act} {w : World} (hy : Y a) (h : wpOp P ops Q j K (a.put oi.dst v) w) : wpOp P ops Q j (fun a' w' => Y a' ∧ K (a'.put oi.dst v) w') a w := by
  obtain ⟨h1, h2, _⟩ := Oper.apart_spec hap
  unfold wpOp at *
  simp only [hj] at *
  rw [wanted_put oj a oi.dst v h1] at h
  by_cases hw : Region.wanted oj (yielded ops a.tmps) = true
  · simp only [hw, if_true] at h ⊢
    rcases h with h | ⟨ha, hl⟩
    · refine .inl ?_
      unfold Oper.wp at *
      rw [execOp_put oj hsj a oi.dst v h1] at h
      generalize (execOp a.eval oj).run P w = r at *
      cases r with
      | ok x w' =>
        cases x <;> simp only [Oper.upon] at h ⊢
        case value u => exact ⟨hY a u hy, by rw [← Act.put_comm a v u h2]; exact h⟩
        case skip => exact ⟨hY a _ hy, by rw [← Act.put_comm a v undef h2]; exact h⟩
        case defer d =>
          refine ⟨hY _ _ (hD a d hy), ?_⟩
          rw [← Act.put_comm _ v undef h2, ← Act.put_defers]
          exact h
        case enter g args =>
          refine Calls.mono h fun e w2 he => ?_
          cases e with
          | returned u => exact ⟨hY a u hy, by rw [← Act.put_comm a v u h2]; exact he⟩
          | panicked c => exact hQ _ _ _ he
          | outgrown => exact he
        case row row args => exact Rows.mono h fun u w2 he => ⟨hY a u hy, by rw [← Act.put_comm a v u h2]; exact he⟩
      | halt x w' =>
        cases x <;> simp only [Oper.upon] at h ⊢
        case panic u => exact hQ _ _ _ h
    · exact .inr ⟨by unfold Oper.asks at *; rw [execOp_put oj hsj a oi.dst v h1] at ha; exact ha, hl⟩
  · simp only [hw] at h ⊢
    exact ⟨hY a _ hy, by rw [← Act.put_comm a v undef h2]; exact h⟩

theorem wpG_first {i k : Nat} {oi : Oper} {v : Value} (hi : ops[i]? = some oi) (hsel : ∀ (j : Nat) (o : Oper) cs b, ops[j]? = some o → o.op ≠ .select cs b) (hin : i < n) (hg : gateB md ops n k = true)
    (hQ : ∀ c a w, Q (.panic c) (a.put oi.dst v) w → Q (.panic c) a w) :
    ∀ (f : Nat) (l : Array Bool) (a : Act) (w : World),
      (∀ j oj, ops[j]? = some oj → j ≠ i → l.getD j true = false → (∀ e ∈ oj.after, Region.binds md e = true → e.on ≠ i) → oi.apart ops oj = true) →
      ClosedL md ops l → i ∈ Region.ready md ops l → YieldsG P ops S oi v a →
      wpG P md ops Q S n f (l.setIfInBounds i true) (a.put oi.dst v) w → wpG P md ops Q S n (f + 1) l a w := by
  intro f
  induction f with
  | zero =>
    intro l a w _ _ hr hy H w' hg' hs
    refine ⟨fun h => (by rw [h] at hr; cases hr), fun j hj => ?_⟩
    by_cases hji : j = i
    · subst hji
      refine hy.run hi hs fun w2 g2 s2 => ?_
      rw [if_pos hin]
      exact ⟨s2, wpG_grow H (hg'.trans g2)⟩
    · have := ready_mono hj hji
      rw [(H w' hg' hs).1] at this
      cases this
  | succ f ih =>
    intro l a w hfree hc hr hy H w' hg' hs
    refine ⟨fun h => (by rw [h] at hr; cases hr), fun j hj => ?_⟩
    by_cases hji : j = i
    · subst hji
      refine hy.run hi hs fun w2 g2 s2 => ?_
      rw [if_pos hin]
      exact ⟨s2, wpG_grow H (hg'.trans g2)⟩
    · have h1 := (H w' hg' hs).2 j (ready_mono hj hji)
      obtain ⟨hjun, oj, hoj, hall⟩ := mem_ready.1 hj
      have hiun : l.getD i false = false := by
        have h0 := (mem_ready.1 hr).1
        rcases Nat.lt_or_ge i l.size with h' | h'
        · simp [h'] at h0 ⊢; exact h0
        · simp [Array.getElem?_eq_none h']
      have hjn : j < n := gate_of_B hg hc hj hin hiun
      have hnot : ∀ e ∈ oj.after, Region.binds md e = true → e.on ≠ i := fun e he hb heq => by
        have h2 := hall e he hb
        rw [heq, hiun] at h2
        cases h2
      have hap := hfree j oj hoj hji hjun hnot
      obtain ⟨_, _, h3⟩ := Oper.apart_spec hap
      have h2 := wpOp_put_inv (Y := fun a => YieldsG P ops S oi v a) hoj hap (fun cs b => hsel j oj cs b hoj) hQ
        (fun a u hya => hya.same (execOp_put oi (fun cs b => hsel i oi cs b hi) a oj.dst u h3) (wanted_put oi a oj.dst u h3)) (fun a d hya => hya.same rfl rfl) hy h1
      refine wpOp_mono (fun a' w2 h4 => ?_) h2
      rw [if_pos hjn] at h4 ⊢
      refine ⟨h4.2.1, ih (l.setIfInBounds j true) a' w2 ?_ (closed_set hc hj) (ready_mono hr (Ne.symm hji)) h4.1 ?_⟩
      · intro m om hm hmi hun hno
        refine hfree m om hm hmi ?_ hno
        by_cases hjm : j = m
        · subst hjm; exact hjun
        · rw [getD_set_ne true hjm] at hun; exact hun
      · rw [Array.setIfInBounds_comm _ _ hji]
        exact h4.2.2

/-- the i-th operation, written out -/
theorem op_at {i : Nat} {o : Oper} {rest : List Oper} (h : ops.toList.drop i = o :: rest) : ops[i]? = some o := by
  have := congrArg List.head? h
  rw [List.head?_drop, Array.getElem?_toList] at this
  exact this
/-- take number i first -/
theorem wpG_take {i : Nat} (k : Nat) {oi : Oper} {rest : List Oper} {v : Value} {f : Nat} {l : Array Bool} {a : Act} {w : World} (hi : ops.toList.drop i = oi :: rest) (hs : Region.noSelect ops = true) (hf : Region.free md ops l i = true) (hr : (Region.ready md ops l).contains i = true)
    (hin : i < n) (hg : gateB md ops n k = true) (hc : closedB md ops l = true) (hQ : ∀ c a w, Q (.panic c) (a.put oi.dst v) w → Q (.panic c) a w) (hy : YieldsG P ops S oi v a)
    (h : wpG P md ops Q S n f (l.setIfInBounds i true) (a.put oi.dst v) w) : wpG P md ops Q S n (f + 1) l a w :=
  wpG_first (op_at hi) (Region.noSelect_spec hs) hin hg hQ f l a w (Region.free_spec (op_at hi) hf) (closed_of_B hc) (by simpa using hr) hy h

/-- the region -/
theorem wp_region_G {id : Nat} {a : Act} {w : World} (n : Nat) (S : World → Prop) (hm : P.follows .mixedOrders = true) (hs : S w.drew) (h : wpG P .any ops Q S n ops.size (Array.replicate ops.size false) a w.drew) : (Code.region id ops true).wp P Q a w :=
  wp_region_any hm (wpAny_of_G _ _ _ _ h hs)

/-- whichever of the rest comes up -/
theorem wpG_ready {rs : List Nat} {f : Nat} {l : Array Bool} {a : Act} {w : World} (hr : Region.ready md ops l = rs) (hne : rs ≠ [])
    (h : ∀ w', Grow w w' → S w' → ∀ i ∈ rs, wpOp P ops Q i (fun a' w2 => if i < n then S w2 ∧ wpG P md ops Q S n f (l.setIfInBounds i true) a' w2 else wpAny P md ops Q f (l.setIfInBounds i true) a' w2) a w') : wpG P md ops Q S n (f + 1) l a w :=
  fun w' hg hs => ⟨fun h0 => absurd (hr ▸ h0) hne, hr ▸ h w' hg hs⟩
theorem wpAny_one {i : Nat} {f : Nat} {l : Array Bool} {a : Act} {w : World} (hr : Region.ready md ops l = [i]) (h : wpOp P ops Q i (wpAny P md ops Q f (l.setIfInBounds i true)) a w) : wpAny P md ops Q (f + 1) l a w :=
  ⟨fun h0 => (by rw [hr] at h0; cases h0), fun j hj => by rw [hr, List.mem_singleton] at hj; subst hj; exact h⟩
theorem wpAny_end {f : Nat} {l : Array Bool} {a : Act} {w : World} (hr : Region.ready md ops l = []) (h : Q .normal a w) : wpAny P md ops Q f l a w := by
  cases f with
  | zero => exact ⟨hr, h⟩
  | succ f => exact ⟨fun _ => h, fun i hi => by rw [hr] at hi; cases hi⟩
/-- one operation, what follows behind a variable -/
theorem wpOp_step {i : Nat} {o : Oper} {rest : List Oper} {K : Act → World → Prop} {a : Act} {w : World} (ho : ops.toList.drop i = o :: rest) (hw : Region.wanted o (yielded ops a.tmps) = true) (h : ∀ K' : Act → World → Prop, (∀ a w, K a w → K' a w) → o.wp P a w K' Q) : wpOp P ops Q i K a w := by
  unfold wpOp
  simp only [op_at ho, hw, if_true]
  exact .inl (h K fun _ _ h => h)
theorem wpG_kept {i f : Nat} {l : Array Bool} {a : Act} {w : World} (hin : i < n) (hs : S w) (h : wpG P md ops Q S n f l a w) : if i < n then S w ∧ wpG P md ops Q S n f l a w else wpAny P md ops Q f l a w := by
  rw [if_pos hin]
  exact ⟨hs, h⟩
theorem wpG_past {i f : Nat} {l : Array Bool} {a : Act} {w : World} (hin : ¬ i < n) (h : wpAny P md ops Q f l a w) : if i < n then S w ∧ wpG P md ops Q S n f l a w else wpAny P md ops Q f l a w := by
  rw [if_neg hin]
  exact h
end

/-- a callee's contract, for YieldsG -/
theorem calls_grow {P : Program} {f : FuncId} {args : Array Value} {w base : World} {B : Nat} {v : Value} (hS : Below B base w) (hB : B ≤ base.heap.size)
    (h : Calls P f args w fun e w' => e = .returned v ∧ Below w.heap.size w w') : Calls P f args w fun e w' => e = .returned v ∧ Grow w w' ∧ Below B base w' :=
  h.mono fun _ _ ⟨he, hb⟩ => ⟨he, hb, hS.trans (hb.mono (Nat.le_trans hB hS.size))⟩
theorem calls_grow_same {P : Program} {f : FuncId} {args : Array Value} {w base : World} {B : Nat} {v : Value} (hS : Below B base w)
    (h : Calls P f args w fun e w' => e = .returned v ∧ w' = w) : Calls P f args w fun e w' => e = .returned v ∧ Grow w w' ∧ Below B base w' :=
  h.mono fun _ _ ⟨he, hb⟩ => by subst hb; exact ⟨he, Grow.refl _, hS⟩

end Go.Proofs.YtblmdcpcekoogaaGreatDoor
