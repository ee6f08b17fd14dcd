/-
  A law for regions that draw their order, where each of the first n operations leaves a value and a fact of it, which stays as the world grows (a call that hands back memory of its own, a literal slice, a new variable, a load from what another operation has made): each operation is walked ONCE, with the facts of those that it waits for; whatever comes behind (stores) waits for all of them.
-/
import Derived.Test.YtecnjbaanbakoaaDoorGrow
namespace Go.Proofs.YtecnjbaanbakoaaDoor
open Go Go.RowKit

/-- values, laid into their temporaries -/
def putF (f : Nat → Value) : Nat → List (Option Nat) → Act → Act
  | _, [], a => a
  | k, d :: r, a => putF f (k + 1) r (a.put d (f k))
def updF (f : Nat → Value) (i : Nat) (v : Value) : Nat → Value := fun j => if j = i then v else f j

theorem put_put (a : Act) (d : Nat) (u v : Value) : (a.put (some d) u).put (some d) v = a.put (some d) v := by
  simp [Act.put]
theorem putF_far {f : Nat → Value} {y : Option Nat} {u : Value} : ∀ (D : List (Option Nat)) (k : Nat) (a : Act), (∀ d ∈ D, d ≠ y) → (putF f k D a).put y u = putF f k D (a.put y u)
  | [], _, _, _ => rfl
  | d :: r, k, a, h => by
    show (putF f (k + 1) r (a.put d (f k))).put y u = putF f (k + 1) r ((a.put y u).put d (f k))
    rw [putF_far r (k + 1) _ (fun d' hd' => h d' (List.mem_cons_of_mem _ hd')), Act.put_comm a (f k) u (fun x hx hy => h d List.mem_cons_self (by rw [hx, hy]))]
theorem putF_congr {f g : Nat → Value} : ∀ (D : List (Option Nat)) (k : Nat) (a : Act), (∀ j, k ≤ j → f j = g j) → putF f k D a = putF g k D a
  | [], _, _, _ => rfl
  | d :: r, k, a, h => by
    show putF f (k + 1) r (a.put d (f k)) = putF g (k + 1) r (a.put d (g k))
    rw [h k (Nat.le_refl _), putF_congr r (k + 1) _ (fun j hj => h j (by omega))]
theorem putF_upd {f : Nat → Value} {i d : Nat} {v : Value} : ∀ (D : List (Option Nat)) (k : Nat) (a : Act), k ≤ i → D[i - k]? = some (some d) → D.Pairwise (· ≠ ·) → (putF f k D a).put (some d) v = putF (updF f i v) k D a
  | [], _, _, _, h, _ => by simp at h
  | d0 :: r, k, a, hk, h, hp => by
    obtain ⟨hp1, hp2⟩ := List.pairwise_cons.1 hp
    show (putF f (k + 1) r (a.put d0 (f k))).put (some d) v = putF (updF f i v) (k + 1) r (a.put d0 (updF f i v k))
    by_cases hik : i = k
    · subst hik
      rw [Nat.sub_self] at h
      obtain rfl : d0 = some d := by simpa using h
      rw [putF_far r (i + 1) _ (fun d' hd' e => hp1 d' hd' e.symm), put_put]
      have e : updF f i v i = v := by simp [updF]
      rw [e]
      exact putF_congr r (i + 1) _ (fun j hj => by unfold updF; rw [if_neg (by omega)])
    · have e : updF f i v k = f k := by unfold updF; rw [if_neg (by omega)]
      rw [e]
      refine putF_upd r (k + 1) _ (by omega) ?_ hp2
      rw [show i - k = (i - (k + 1)) + 1 by omega] at h
      simpa using h

/-- how many are left -/
def leftN (l : Array Bool) (n : Nat) : Nat := (List.range n).countP fun j => !l.getD j false
theorem left_set_ge {l : Array Bool} {i : Nat} : ∀ n, n ≤ i → leftN (l.setIfInBounds i true) n = leftN l n := by
  intro n hn
  unfold leftN
  apply List.countP_congr
  intro j hj
  rw [getD_set_ne false (by have := List.mem_range.1 hj; omega)]
theorem left_set {l : Array Bool} {i : Nat} (hun : l.getD i false = false) (hlt : i < l.size) : ∀ n, i < n → leftN (l.setIfInBounds i true) n + 1 = leftN l n := by
  intro n
  induction n with
  | zero => intro h; omega
  | succ n ih =>
    intro h
    unfold leftN at *
    rw [List.range_succ, List.countP_append, List.countP_append]
    by_cases hin : i = n
    · subst hin
      have h1 := left_set_ge (l := l) i (Nat.le_refl i)
      unfold leftN at h1
      have h2 : (l.setIfInBounds i true).getD i false = true := by simp [hlt]
      rw [h1, List.countP_cons, List.countP_cons, h2, hun]
      simp
    · have h1 := ih (by omega)
      rw [List.countP_cons, List.countP_cons, getD_set_ne false hin]
      simp only [List.countP_nil]
      omega
theorem left_zero {l : Array Bool} : ∀ n, leftN l n = 0 → ∀ j, j < n → l.getD j false = true := by
  intro n h j hj
  unfold leftN at h
  rw [List.countP_eq_zero] at h
  have := h j (List.mem_range.2 hj)
  simpa using this

section
variable {P : Program} {md : Region.Mode} {ops : Array Oper} {Q : Exit → Act → World → Prop}

/-- operation i waits, by way of others, for operation j -/
def waitsB (md : Region.Mode) (ops : Array Oper) (k i j : Nat) : Bool := match ops[i]? with
  | some o => (reachN md ops k ((o.after.toList.filter (Region.binds md)).map (·.on))).contains j
  | none => false
theorem waits_listed {k i j : Nat} {l : Array Bool} (hc : ClosedL md ops l) (hi : i ∈ Region.ready md ops l) (h : waitsB md ops k i j = true) : l.getD j false = true := by
  obtain ⟨_, o, ho, hall⟩ := mem_ready.1 hi
  unfold waitsB at h
  simp only [ho] at h
  exact reachN_listed hc k _ (fun x hx => by
    obtain ⟨e, he, rfl⟩ := List.mem_map.1 hx
    obtain ⟨he1, he2⟩ := List.mem_filter.1 he
    exact hall e (Array.mem_toList_iff.1 he1) he2) j (by simpa using h)
theorem waits_closed {k i j : Nat} {l : Array Bool} (hc : ClosedL md ops l) (hi : l.getD i false = true) (h : waitsB md ops k i j = true) : l.getD j false = true := by
  unfold waitsB at h
  split at h
  · rename_i o ho
    exact reachN_listed hc k _ (fun x hx => by
      obtain ⟨e, he, rfl⟩ := List.mem_map.1 hx
      obtain ⟨he1, he2⟩ := List.mem_filter.1 he
      exact hc i o ho hi e (Array.mem_toList_iff.1 he1) he2) j (by simpa using h)
  · cases h
/-- each waits for earlier ones alone -/
def earlyB (md : Region.Mode) (ops : Array Oper) : Bool := (List.range ops.size).all fun i => match ops[i]? with
  | some o => o.after.all fun e => !Region.binds md e || decide (e.on < i)
  | none => true
theorem early_of_B (h : earlyB md ops = true) {i : Nat} {o : Oper} (ho : ops[i]? = some o) : ∀ e ∈ o.after, Region.binds md e = true → e.on < i := by
  intro e he hb
  have hlt : i < ops.size := (Array.getElem?_eq_some_iff.1 ho).1
  have h1 := List.all_eq_true.1 h i (List.mem_range.2 hlt)
  simp only [ho] at h1
  have h2 := Array.all_eq_true_iff_forall_mem.1 h1 e he
  rw [hb] at h2
  simpa using h2
/-- one that has not come up: then one may come up -/
theorem ready_some (he : earlyB md ops = true) {l : Array Bool} (hl : l.size = ops.size) : ∀ i, i < ops.size → l.getD i false = false → Region.ready md ops l ≠ [] := by
  intro i
  induction i using Nat.strongRecOn with
  | ind i ih =>
    intro hi hun hr
    obtain ⟨o, ho⟩ : ∃ o, ops[i]? = some o := ⟨_, Array.getElem?_eq_getElem hi⟩
    by_cases hall : ∀ e ∈ o.after, Region.binds md e = true → l.getD e.on false = true
    · have hm : i ∈ Region.ready md ops l := mem_ready.2 ⟨by
        have hlt : i < l.size := by omega
        simp [hlt] at hun ⊢
        exact hun, o, ho, hall⟩
      rw [hr] at hm
      cases hm
    · obtain ⟨e, hn⟩ := Classical.not_forall.1 hall
      obtain ⟨he1, hn⟩ := Classical.not_imp.1 hn
      obtain ⟨hb, hn⟩ := Classical.not_imp.1 hn
      have := early_of_B he ho e he1 hb
      exact ih e.on this (by omega) (by simpa using hn) hr

variable {S : World → Prop} {F : Nat → World → Value → Prop} {G : Nat → Nat → Value → Value → Prop} {n k : Nat} {D : List (Option Nat)} {a0 : Act}

/-- each of the first n operations has a temporary of its own, as D lists them -/
def dstB (ops : Array Oper) (D : List (Option Nat)) (n : Nat) : Bool := (List.range n).all fun i => match ops[i]?, D[i]? with
  | some o, some (some d) => decide (o.dst = some d)
  | _, _ => false
theorem dst_of_B (h : dstB ops D n = true) {i : Nat} (hi : i < n) {o : Oper} (ho : ops[i]? = some o) : ∃ d, o.dst = some d ∧ D[i]? = some (some d) := by
  have h1 := List.all_eq_true.1 h i (List.mem_range.2 hi)
  simp only [ho] at h1
  split at h1
  · rename_i o' d h2 h3
    obtain rfl : o = o' := Option.some.inj h2
    exact ⟨d, of_decide_eq_true h1, h3⟩
  · cases h1

/-- what is known while some have come up (L): each one's fact, and of each two -/
structure Known (S : World → Prop) (F : Nat → World → Value → Prop) (G : Nat → Nat → Value → Value → Prop) (L : Nat → Prop) (f : Nat → Value) (w : World) : Prop where
  hs : S w
  hf : ∀ j, L j → F j w (f j)
  hg : ∀ x y, L x → L y → x ≠ y → G x y (f x) (f y)

/-- what is to be shown of each of the first n operations -/
def StepF (P : Program) (md : Region.Mode) (ops : Array Oper) (Q : Exit → Act → World → Prop) (S : World → Prop) (F : Nat → World → Value → Prop) (G : Nat → Nat → Value → Value → Prop) (k : Nat) (D : List (Option Nat)) (a0 : Act) (i : Nat) : Prop :=
  ∀ (L : Nat → Prop) (f : Nat → Value) (w : World), Known S F G L f w → (∀ j, waitsB md ops k i j = true → L j) →
    wpOp P ops Q i (fun a' w' => ∃ v, (∀ o, ops[i]? = some o → a' = (putF f 0 D a0).put o.dst v) ∧ Grow w w' ∧ S w' ∧ F i w' v ∧ ∀ j, L j → j ≠ i → G i j v (f j)) (putF f 0 D a0) w

theorem wpAny_facts (hd : dstB ops D n = true) (hnd : D.Pairwise (· ≠ ·)) (he : earlyB md ops = true)
    (hst : ∀ i w w' v, Grow w w' → F i w v → F i w' v) (hsym : ∀ i j v u, G i j v u → G j i u v) (hstep : ∀ i, i < n → StepF P md ops Q S F G k D a0 i)
    (hlate : ∀ (l : Array Bool) (f : Nat → Value) (w : World) (m i : Nat), l.size = ops.size → ClosedL md ops l → (∀ j, l.getD j false = true → j < n) → Known S F G (fun j => l.getD j false = true) f w → leftN l ops.size = m + 1 → i ∈ Region.ready md ops l → ¬ i < n → wpOp P ops Q i (wpAny P md ops Q m (l.setIfInBounds i true)) (putF f 0 D a0) w)
    (hend : ∀ (f : Nat → Value) (w : World), ops.size ≤ n → Known S F G (fun j => j < ops.size) f w → Q .normal (putF f 0 D a0) w) :
    ∀ (m : Nat) (l : Array Bool) (f : Nat → Value) (w : World), leftN l ops.size = m → l.size = ops.size → ClosedL md ops l → (∀ j, l.getD j false = true → j < n) → Known S F G (fun j => l.getD j false = true) f w →
      wpAny P md ops Q m l (putF f 0 D a0) w := by
  intro m
  induction m with
  | zero =>
    intro l f w hm hl hc hn hk
    have hall := left_zero ops.size hm
    have hready : Region.ready md ops l = [] := by
      apply List.eq_nil_iff_forall_not_mem.2
      intro i hi
      obtain ⟨h0, o, ho, _⟩ := mem_ready.1 hi
      have hlt : i < ops.size := (Array.getElem?_eq_some_iff.1 ho).1
      have h1 := hall i hlt
      simp [show i < l.size by omega] at h0 h1
      rw [h0] at h1
      cases h1
    refine ⟨hready, hend f w ?_ ⟨hk.hs, fun j hj => hk.hf j (hall j hj), fun x y hx hy => hk.hg x y (hall x hx) (hall y hy)⟩⟩
    rcases Nat.lt_or_ge n ops.size with h | h
    · exact absurd (hn n (hall n h)) (Nat.lt_irrefl _)
    · exact h
  | succ m ih =>
    intro l f w hm hl hc hn hk
    have hex : ∃ i0, i0 < ops.size ∧ l.getD i0 false = false := by
      have : leftN l ops.size ≠ 0 := by omega
      unfold leftN at this
      rw [← Nat.pos_iff_ne_zero, List.countP_pos_iff] at this
      obtain ⟨j, hj, hb⟩ := this
      exact ⟨j, List.mem_range.1 hj, by simpa using hb⟩
    obtain ⟨i0, hi0, hun0⟩ := hex
    refine ⟨fun hr => absurd hr (ready_some he hl i0 hi0 hun0), fun i hi => ?_⟩
    by_cases hin : i < n
    · obtain ⟨h0, o, ho, _⟩ := mem_ready.1 hi
      have hlo : i < ops.size := (Array.getElem?_eq_some_iff.1 ho).1
      have hlt : i < l.size := by omega
      have hun : l.getD i false = false := by simp [hlt] at h0 ⊢; exact h0
      obtain ⟨d, hd1, hd2⟩ := dst_of_B hd hin ho
      refine wpOp_mono (fun a' w' ⟨v, ha, hgr, hs', hF, hGv⟩ => ?_) (hstep i hin _ f w hk (fun j hj => waits_listed hc hi hj))
      rw [ha o ho, hd1, putF_upd D 0 a0 (Nat.zero_le _) (by simpa using hd2) hnd]
      have up : ∀ z, z ≠ i → updF f i v z = f z := fun z hz => by unfold updF; rw [if_neg hz]
      have ui : updF f i v i = v := by simp [updF]
      have was : ∀ z, (l.setIfInBounds i true).getD z false = true → z ≠ i → l.getD z false = true := fun z hz hzi => by
        rw [getD_set_ne false (fun e => hzi e.symm)] at hz
        exact hz
      refine ih _ (updF f i v) w' (by have := left_set hun hlt ops.size hlo; omega) (by simpa using hl) (closed_set hc hi) (fun j hj => ?_) ⟨hs', fun j hj => ?_, fun x y hx hy hxy => ?_⟩
      · by_cases hji : j = i
        · subst hji; exact hin
        · exact hn j (was j hj hji)
      · by_cases hji : j = i
        · subst hji
          rw [ui]
          exact hF
        · rw [up j hji]
          exact hst j w w' _ hgr (hk.hf j (was j hj hji))
      · by_cases h1 : x = i
        · subst h1
          have h2 : y ≠ x := fun e => hxy e.symm
          rw [ui, up y h2]
          exact hGv y (was y hy h2) h2
        · by_cases h2 : y = i
          · subst h2
            rw [ui, up x h1]
            exact hsym _ _ _ _ (hGv x (was x hx h1) h1)
          · rw [up x h1, up y h2]
            exact hk.hg x y (was x hx h1) (was y hy h2) hxy
    · exact hlate l f w m i hl hc hn hk hm hi hin

theorem left_all (m : Nat) : leftN (Array.replicate m false) m = m := by
  unfold leftN
  have : (List.range m).countP (fun j => !(Array.replicate m false).getD j false) = (List.range m).length := by
    rw [List.countP_eq_length]
    intro j hj
    have := List.mem_range.1 hj
    simp [this]
  rw [this, List.length_range]

/-- THE LAW. n: the operations that lay facts; k: how many steps 'waits for' is followed; D: their temporaries. Whatever comes behind (hlate: a store, say) is met with all that is known then. -/
theorem wp_region_facts {id : Nat} {w : World} (n k : Nat) (S : World → Prop) (F : Nat → World → Value → Prop) (G : Nat → Nat → Value → Value → Prop) (D : List (Option Nat)) (f0 : Nat → Value) (hm : P.follows .mixedOrders = true) (hd : dstB ops D n = true) (hnd : D.Pairwise (· ≠ ·)) (he : earlyB .any ops = true)
    (h0 : putF f0 0 D a0 = a0) (hs : S w.drew) (hst : ∀ i w w' v, Grow w w' → F i w v → F i w' v) (hsym : ∀ i j v u, G i j v u → G j i u v) (hstep : ∀ i, i < n → StepF P .any ops Q S F G k D a0 i)
    (hlate : ∀ (l : Array Bool) (f : Nat → Value) (w : World) (m i : Nat), l.size = ops.size → ClosedL .any ops l → (∀ j, l.getD j false = true → j < n) → Known S F G (fun j => l.getD j false = true) f w → leftN l ops.size = m + 1 → i ∈ Region.ready .any ops l → ¬ i < n → wpOp P ops Q i (wpAny P .any ops Q m (l.setIfInBounds i true)) (putF f 0 D a0) w)
    (hend : ∀ (f : Nat → Value) (w : World), ops.size ≤ n → Known S F G (fun j => j < ops.size) f w → Q .normal (putF f 0 D a0) w) : (Code.region id ops true).wp P Q a0 w := by
  refine wp_region_any hm ?_
  have no : ∀ j, (Array.replicate ops.size false).getD j false = true → False := fun j hj => by
    by_cases hlt : j < ops.size
    · simp [hlt] at hj
    · simp [hlt] at hj
  have h1 := wpAny_facts hd hnd he hst hsym hstep hlate hend ops.size (Array.replicate ops.size false) f0 w.drew (left_all ops.size) (by simp) (fun j _ _ hj => (no j hj).elim) (fun j hj => (no j hj).elim) ⟨hs, fun j hj => (no j hj).elim, fun x _ hx => (no x hx).elim⟩
  rw [h0] at h1
  exact h1

/-- one operation: it is wanted, and leaves its value -/
theorem stepF_of {i : Nat} {o : Oper} {rest : List Oper} (ho : ops.toList.drop i = o :: rest)
    (h : ∀ (L : Nat → Prop) (f : Nat → Value) (w : World), Known S F G L f w → (∀ j, waitsB md ops k i j = true → L j) → Region.wanted o (yielded ops (putF f 0 D a0).tmps) = true ∧
      ∀ K' : Act → World → Prop, Hid (∀ a' w' v, a' = (putF f 0 D a0).put o.dst v → Grow w w' → S w' → F i w' v → (∀ j, L j → j ≠ i → G i j v (f j)) → K' a' w') → o.wp P (putF f 0 D a0) w K' Q) : StepF P md ops Q S F G k D a0 i := by
  intro L f w hk hw
  obtain ⟨h1, h2⟩ := h L f w hk hw
  refine wpOp_step ho h1 fun K' hK' => h2 K' fun a' w' v ha hg hs' hF hG => hK' _ _ ⟨v, fun o' ho' => ?_, hg, hs', hF, hG⟩
  have := op_at (ops := ops) ho
  rw [ho'] at this
  cases this
  exact ha
/-- the region, and what it leaves, told apart from what follows -/
theorem region_out {id : Nat} {w : World} (D : List (Option Nat)) (R : (Nat → Value) → World → Prop) (h : (Code.region id ops true).wp P (fun e a w' => e = .normal ∧ ∃ f, a = putF f 0 D a0 ∧ R f w') a0 w) (hR : ∀ f w', R f w' → Q .normal (putF f 0 D a0) w') : (Code.region id ops true).wp P Q a0 w :=
  Code.wp_mono (fun e a w' ⟨he, f, ha, hr⟩ => by rw [he, ha]; exact hR f w' hr) h
/-- an array of bits, by its bits -/
theorem bits_eq {l r : Array Bool} (h : l.size = r.size) (hb : ∀ j, j < r.size → l.getD j false = r.getD j false) : l = r := by
  apply Array.ext h
  intro j h1 h2
  have := hb j h2
  simpa [h1, h2] using this
end

end Go.Proofs.YtecnjbaanbakoaaDoor
