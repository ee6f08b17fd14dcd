/-
  Matches and requests, without a program: which matches may be, hold, come ahead; one thing less; a match's own request.
-/
import Derived.Test.YtblmdcpcekoogaaGreatDoorRuPlain
import Derived.Test.YtblmdcpcekoogaaGreatDoorPaPlain
import Derived.Test.YtblmdcpcekoogaaGreatDoorQuWalkA
import Derived.Test.YtblmdcpcekoogaaGreatDoorPbWalkD
import Derived.Test.YtblmdcpcekoogaaGreatDoorPbWalkE
namespace Go.Proofs.YtblmdcpcekoogaaGreatDoor
set_option maxRecDepth 20000
open Go Go.RowKit

/-- a match -/
structure MB where
  kind : Int
  val : ByteArray
  meth : ByteArray
  head : List PairB
  query : List PairB
/-- a request -/
structure RB where
  meth : ByteArray
  host : ByteArray
  path : ByteArray
  query : List PairB
  head : List PairB

def tokenB (s : ByteArray) : Bool := decide (1 ≤ s.size ∧ s.size ≤ 40 ∧ ∀ j (h : j < s.size), tokC s[j] = true)
def valueB (s : ByteArray) : Bool := decide (s.size ≤ 40 ∧ ∀ j (h : j < s.size), 32 ≤ s[j].toNat ∧ s[j].toNat ≤ 126 ∧ (s[j].toNat = 32 → j ≠ 0 ∧ j + 1 ≠ s.size))
theorem tokenB_iff {s : ByteArray} : tokenB s = true ↔ TokenP s := by
  unfold tokenB
  rw [decide_eq_true_eq]
  exact Iff.rfl
theorem valueB_iff {s : ByteArray} : valueB s = true ↔ ValueP s := by
  unfold valueB
  rw [decide_eq_true_eq]
  exact Iff.rfl
/-- what is told of a property is its Bool -/
theorem Tells.is {p : Prop} {b : Bool} {e : Ending} (h : Tells p e) (hb : b = true ↔ p) : e = .returned (.bool b) := by
  obtain ⟨c, rfl, hc⟩ := h
  rw [show c = b from Bool.eq_iff_iff.2 (hc.trans hb.symm)]
/-- a method -/
def MethP (s : ByteArray) : Prop := 1 ≤ s.size ∧ s.size ≤ 10 ∧ ∀ j (h : j < s.size), 65 ≤ s[j].toNat ∧ s[j].toNat ≤ 90
def methB (s : ByteArray) : Bool := decide (1 ≤ s.size ∧ s.size ≤ 10 ∧ ∀ j (h : j < s.size), 65 ≤ s[j].toNat ∧ s[j].toNat ≤ 90)
theorem methB_iff {s : ByteArray} : methB s = true ↔ MethP s := by
  unfold methB
  rw [decide_eq_true_eq]
  exact Iff.rfl

/-- no two names the same -/
def farB (same : ByteArray → ByteArray → Bool) (l : List PairB) : Bool := decide (∀ x (hx : x < l.length), ∀ y (hy : y < x), same l[x].1 (l[y]'(by omega)).1 = false)
theorem farB_iff {same : ByteArray → ByteArray → Bool} {l : List PairB} : farB same l = true ↔ ∀ x y (hx : x < l.length) (hy : y < l.length), y < x → same l[x].1 l[y].1 = false := by
  unfold farB
  rw [decide_eq_true_eq]
  exact ⟨fun h x y hx hy hyx => h x hx y hyx, fun h x hx y hyx => h x y hx (by omega) hyx⟩
theorem farB_pairs {same : ByteArray → ByteArray → Bool} {l : List PairB} : farB same l = true ↔ l.Pairwise fun p q => same q.1 p.1 = false := by
  rw [farB_iff, List.pairwise_iff_getElem]
  exact ⟨fun h i j hi hj hij => h j i hj hi hij, fun h x y hx hy hyx => h y x hy hx hyx⟩
/-- a pair less -/
abbrev cutAt (l : List PairB) (k : Nat) : List PairB := l.take k ++ l.drop (k + 1)
theorem cut_sub (l : List PairB) (k : Nat) : (cutAt l k).Sublist l := by
  have := List.eraseIdx_sublist l k
  rwa [List.eraseIdx_eq_take_drop_succ] at this
theorem cut_mem {l : List PairB} {k : Nat} {p : PairB} (h : p ∈ cutAt l k) : p ∈ l := (cut_sub l k).subset h
theorem cut_far {same : ByteArray → ByteArray → Bool} {l : List PairB} (k : Nat) (h : farB same l = true) : farB same (cutAt l k) = true := by
  rw [farB_pairs] at *
  exact h.sublist (cut_sub l k)
theorem cut_len (l : List PairB) (k : Nat) : (cutAt l k).length ≤ l.length := (cut_sub l k).length_le
theorem cut_all {f : PairB → Bool} {l : List PairB} (k : Nat) (h : l.all f = true) : (cutAt l k).all f = true := by
  rw [List.all_eq_true] at *
  exact fun p hp => h p (cut_mem hp)
theorem cut_query {l : List PairB} (k : Nat) (h : Qu.may (l.map pl) = true) : Qu.may ((cutAt l k).map pl) = true := by
  unfold Qu.may at *
  rw [Bool.and_eq_true, List.all_eq_true, decide_eq_true_eq] at *
  refine ⟨fun p hp => ?_, ?_⟩
  · obtain ⟨q, hq, rfl⟩ := List.mem_map.1 hp
    exact h.1 _ (List.mem_map.2 ⟨q, cut_mem hq, rfl⟩)
  · have := cut_len l k
    have h2 := h.2
    simp only [List.length_map] at *
    omega
theorem cut_holds {f : Bool} {l r : List PairB} (k : Nat) (h : holdsQ f l r = true) : holdsQ f (cutAt l k) r = true := by
  cases f
  · exact cut_all (f := Pb.asks sameE r) k h
  · exact cut_all (f := Pb.asks sameF r) k h

/-- may it be? -/
def mayM (m : MB) : Bool := mayP m.kind m.val.data.toList && ((m.meth.size == 0 || methB m.meth) && (decide (m.head.length ≤ 8) && (decide (m.query.length ≤ 8) && (Qu.may (m.query.map pl) && (m.head.all (fun p => tokenB p.1 && valueB p.2) && (farB sameF m.head && farB sameE m.query))))))
/-- does it hold? -/
def holdM (m : MB) (r : RB) : Bool := mayM m && (holdP m.kind m.val.data.toList r.path.data.toList && ((m.meth.size == 0 || decide (m.meth = r.meth)) && (holdsQ true m.head r.head && holdsQ false m.query r.query)))
/-- its rank -/
def keyM (m : MB) : Ru.Five := (m.kind, -(m.val.size : Int), if m.meth.size = 0 then 1 else 0, -(m.head.length : Int), -(m.query.length : Int))
def ahM (a b : MB) : Bool := Ru.lt5 (keyM a) (keyM b)
theorem ahM_rank : Ru.Rank ahM := Ru.lt5_rank keyM
abbrev ordM (a b : MB) : Int := Ru.ord ahM a b
abbrev bestM (r : RB) (l : List MB) : Option (Nat × MB) := Ru.best (fun m => holdM m r) ahM l

theorem mayM_iff {m : MB} : mayM m = true ↔ mayP m.kind m.val.data.toList = true ∧ (m.meth.size = 0 ∨ methB m.meth = true) ∧ m.head.length ≤ 8 ∧ m.query.length ≤ 8 ∧ Qu.may (m.query.map pl) = true ∧ m.head.all (fun p => tokenB p.1 && valueB p.2) = true ∧ farB sameF m.head = true ∧ farB sameE m.query = true := by
  unfold mayM
  simp only [Bool.and_eq_true, Bool.or_eq_true, beq_iff_eq, decide_eq_true_eq]
theorem holdM_iff {m : MB} {r : RB} : holdM m r = true ↔ mayM m = true ∧ holdP m.kind m.val.data.toList r.path.data.toList = true ∧ (m.meth.size = 0 ∨ m.meth = r.meth) ∧ holdsQ true m.head r.head = true ∧ holdsQ false m.query r.query = true := by
  unfold holdM
  simp only [Bool.and_eq_true, Bool.or_eq_true, beq_iff_eq, decide_eq_true_eq]
theorem holdM_not {m : MB} {r : RB} (h : mayM m = false) : holdM m r = false := by
  unfold holdM
  rw [h, Bool.false_and]

/-! ### one thing less -/
def noMeth (m : MB) : MB := { m with meth := ⟨#[]⟩ }
def noHead (m : MB) (k : Nat) : MB := { m with head := cutAt m.head k }
def noQuery (m : MB) (k : Nat) : MB := { m with query := cutAt m.query k }
theorem may_noMeth {m : MB} (h : mayM m = true) : mayM (noMeth m) = true := by
  rw [mayM_iff] at *
  exact ⟨h.1, .inl rfl, h.2.2⟩
theorem may_noHead {m : MB} (k : Nat) (h : mayM m = true) : mayM (noHead m k) = true := by
  rw [mayM_iff] at *
  obtain ⟨h1, h2, h3, h4, h5, h6, h7, h8⟩ := h
  exact ⟨h1, h2, Nat.le_trans (cut_len _ _) h3, h4, h5, cut_all k h6, cut_far k h7, h8⟩
theorem may_noQuery {m : MB} (k : Nat) (h : mayM m = true) : mayM (noQuery m k) = true := by
  rw [mayM_iff] at *
  obtain ⟨h1, h2, h3, h4, h5, h6, h7, h8⟩ := h
  exact ⟨h1, h2, h3, Nat.le_trans (cut_len _ _) h4, cut_query k h5, h6, h7, cut_far k h8⟩
theorem hold_noMeth {m : MB} {r : RB} (h : holdM m r = true) : holdM (noMeth m) r = true := by
  rw [holdM_iff] at *
  exact ⟨may_noMeth h.1, h.2.1, .inl rfl, h.2.2.2⟩
theorem hold_noHead {m : MB} {r : RB} (k : Nat) (h : holdM m r = true) : holdM (noHead m k) r = true := by
  rw [holdM_iff] at *
  obtain ⟨h1, h2, h3, h4, h5⟩ := h
  exact ⟨may_noHead k h1, h2, h3, cut_holds k h4, h5⟩
theorem hold_noQuery {m : MB} {r : RB} (k : Nat) (h : holdM m r = true) : holdM (noQuery m k) r = true := by
  rw [holdM_iff] at *
  obtain ⟨h1, h2, h3, h4, h5⟩ := h
  exact ⟨may_noQuery k h1, h2, h3, h4, cut_holds k h5⟩
theorem ord_ge {a b : MB} (h : ahM a b = false) : 0 ≤ ordM a b := by
  rcases Ru.ord_cases ahM a b with ⟨_, h1⟩ | ⟨e, _⟩ | ⟨e, _⟩
  · rw [h] at h1; cases h1
  · show 0 ≤ Ru.ord ahM a b; omega
  · show 0 ≤ Ru.ord ahM a b; omega
theorem less_meth (m : MB) : 0 ≤ ordM (noMeth m) m := by
  refine ord_ge ?_
  unfold ahM Ru.lt5 keyM noMeth
  simp only [decide_eq_false_iff_not]
  have : (⟨#[]⟩ : ByteArray).size = 0 := rfl
  rw [this, if_pos rfl]
  split <;> omega
theorem less_head (m : MB) (k : Nat) : 0 ≤ ordM (noHead m k) m := by
  refine ord_ge ?_
  unfold ahM Ru.lt5 keyM noHead
  have := cut_len m.head k
  simp only [decide_eq_false_iff_not]
  omega
theorem less_query (m : MB) (k : Nat) : 0 ≤ ordM (noQuery m k) m := by
  refine ord_ge ?_
  unfold ahM Ru.lt5 keyM noQuery
  have := cut_len m.query k
  simp only [decide_eq_false_iff_not]
  omega
theorem less_none (m : MB) : 0 ≤ ordM m m := ord_ge (ahM_rank.irr m)

/-! ### a match's own request -/
def ownR (m : MB) : RB := ⟨m.meth, ⟨#[]⟩, m.val, m.query, m.head⟩
theorem far_apartS {same : ByteArray → ByteArray → Bool} (hs : ∀ a b, same a b = same b a) {l : List PairB} (h : farB same l = true) : Pb.Apart same l := by
  rw [farB_iff] at h
  intro i j hi hj e
  rcases Nat.lt_trichotomy i j with h1 | h1 | h1
  · have := h j i hj hi h1
    rw [hs] at this
    rw [this] at e
    cases e
  · exact h1
  · rw [h i j hi hj h1] at e
    cases e
theorem hold_own (m : MB) : holdM m (ownR m) = mayM m := by
  cases hm : mayM m
  · exact holdM_not hm
  · have hm' := hm
    rw [mayM_iff] at hm'
    obtain ⟨h1, h2, h3, h4, h5, h6, h7, h8⟩ := hm'
    rw [holdM_iff]
    refine ⟨hm, ?_, .inr rfl, ?_, ?_⟩
    · show holdP m.kind m.val.data.toList m.val.data.toList = true
      unfold mayP at h1
      split at h1
      · rename_i e
        rw [e, hold1_self]
        exact h1
      · split at h1
        · rename_i e
          rw [e]
          exact hold2_self h1
        · cases h1
    · exact Pb.holds_self (same := sameF) Pb.sm_refl (far_apartS symF h7)
    · exact Pb.holds_self (same := sameE) (fun a => by simp) (far_apartS symE h8)

end Go.Proofs.YtblmdcpcekoogaaGreatDoor
