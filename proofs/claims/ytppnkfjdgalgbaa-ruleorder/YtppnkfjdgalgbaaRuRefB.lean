/-
  Walks: the document's ahead, Order, Same, First.
-/
import Derived.Test.YtppnkfjdgalgbaaRuRefA
import Derived.Test.YtppnkfjdgalgbaaRuWalkE
namespace Go.Proofs.Ytppnkfjdgalgbaa
open Go Go.RowKit Go.Shelf

attribute [local go_sem] gb_const

theorem ahM_eq (a b : MB) : ahM a b = decide (a.kind < b.kind ∨ a.kind = b.kind ∧ (-(a.val.size : Int) < -(b.val.size : Int) ∨ -(a.val.size : Int) = -(b.val.size : Int) ∧ ((if a.meth.size = 0 then (1 : Int) else 0) < (if b.meth.size = 0 then (1 : Int) else 0) ∨ (if a.meth.size = 0 then (1 : Int) else 0) = (if b.meth.size = 0 then (1 : Int) else 0) ∧ (-(a.head.length : Int) < -(b.head.length : Int) ∨ -(a.head.length : Int) = -(b.head.length : Int) ∧ -(a.query.length : Int) < -(b.query.length : Int))))) := rfl
/-- the order, as the document says it -/
def ahW (ka kb : Int) (na nb : Nat) (ea eb : Bool) (ha hb qa qb : Nat) : Bool := if (ka != kb) = true then decide (ka < kb) else if ((na : Int) != (nb : Int)) = true then decide (nb < na) else if (ea != eb) = true then !ea else if ((ha : Int) != (hb : Int)) = true then decide (hb < ha) else decide (qb < qa)
theorem ahM_walk (a b : MB) : ahM a b = ahW a.kind b.kind a.val.size b.val.size a.meth.toList.isEmpty b.meth.toList.isEmpty a.head.length b.head.length a.query.length b.query.length := by
  rw [ahM_eq]
  unfold ahW
  rw [empty_size, empty_size]
  generalize a.kind = ka
  generalize b.kind = kb
  generalize a.val.size = na
  generalize b.val.size = nb
  generalize a.head.length = ha
  generalize b.head.length = hb
  generalize a.query.length = qa
  generalize b.query.length = qb
  by_cases h1 : ka = kb
  · have e1 : (ka != kb) = false := by rw [bne_eq_false_iff_eq]; exact h1
    rw [e1, if_neg (show ¬ (false = true) by decide)]
    by_cases h2 : na = nb
    · have e2 : ((na : Int) != (nb : Int)) = false := by rw [bne_eq_false_iff_eq]; omega
      rw [e2, if_neg (show ¬ (false = true) by decide)]
      by_cases h3 : a.meth.size = 0
      · by_cases h4 : b.meth.size = 0
        · rw [if_pos h3, if_pos h4, h3, h4, show ((0 == 0) != (0 == 0)) = false from rfl]
          rw [if_neg (show ¬ (false = true) by decide)]
          by_cases h5 : ha = hb
          · have e5 : ((ha : Int) != (hb : Int)) = false := by rw [bne_eq_false_iff_eq]; omega
            rw [e5, if_neg (show ¬ (false = true) by decide), decide_eq_decide]
            omega
          · have e5 : ((ha : Int) != (hb : Int)) = true := by rw [bne_iff_ne]; omega
            rw [e5, if_pos rfl, decide_eq_decide]
            omega
        · have e4 : (b.meth.size == 0) = false := beq_eq_false_iff_ne.2 h4
          rw [if_pos h3, if_neg h4, h3, e4]
          refine decide_eq_false ?_
          omega
      · have e3 : (a.meth.size == 0) = false := beq_eq_false_iff_ne.2 h3
        by_cases h4 : b.meth.size = 0
        · rw [if_neg h3, if_pos h4, h4, e3]
          refine decide_eq_true ?_
          omega
        · have e4 : (b.meth.size == 0) = false := beq_eq_false_iff_ne.2 h4
          rw [if_neg h3, if_neg h4, e3, e4, show (false != false) = false from rfl]
          rw [if_neg (show ¬ (false = true) by decide)]
          by_cases h5 : ha = hb
          · have e5 : ((ha : Int) != (hb : Int)) = false := by rw [bne_eq_false_iff_eq]; omega
            rw [e5, if_neg (show ¬ (false = true) by decide), decide_eq_decide]
            omega
          · have e5 : ((ha : Int) != (hb : Int)) = true := by rw [bne_iff_ne]; omega
            rw [e5, if_pos rfl, decide_eq_decide]
            omega
    · have e2 : ((na : Int) != (nb : Int)) = true := by rw [bne_iff_ne]; omega
      rw [e2, if_pos rfl, decide_eq_decide]
      omega
  · have e1 : (ka != kb) = true := by rw [bne_iff_ne]; exact h1
    rw [e1, if_pos rfl, decide_eq_decide]
    omega

set_option maxHeartbeats 1600000 in
theorem rahead_m (a b : MB) (va vb vc vd : Value) (w : World) (ha1 : Prs w va a.head) (ha2 : Prs w vb a.query) (hb1 : Prs w vc b.head) (hb2 : Prs w vd b.query) :
    Calls Try.prog 42 #[mV a va vb, mV b vc vd] w fun e w' => e = .returned (.bool (ahM a b)) ∧ Below w.heap.size w w' := by
  have HP := hide (ahM_walk a b)
  have l1 := ha1.len
  have l2 := ha2.len
  have l3 := hb1.len
  have l4 := hb2.len
  generalize ahM a b = z at *
  obtain ⟨k, v, t, hd, qu⟩ := a
  obtain ⟨k', v', t', hd', qu'⟩ := b
  dsimp only at *
  obtain ⟨a1, c1, rfl, _, _, hx1⟩ := ha1
  obtain ⟨a2, c2, rfl, _, _, hx2⟩ := ha2
  obtain ⟨b1, d1, rfl, _, _, hx3⟩ := hb1
  obtain ⟨b2, d2, rfl, _, _, hx4⟩ := hb2
  clear hx1 hx2 hx3 hx4
  have B2 : Below w.heap.size w ((w.alloc (.cells #[.int .i64 k, .string v, .string t, .slice a1 hd.length c1, .slice a2 qu.length c2] 26)).alloc (.cells #[.int .i64 k', .string v', .string t', .slice b1 hd'.length d1, .slice b2 qu'.length d2] 26)) := ((Below.refl _ _).alloc (Nat.le_refl _) _).alloc (by simp) _
  cases e0 : (k != k')
  · cases e1 : ((v.size : Int) != (v'.size : Int))
    · cases e2 : t.toList.isEmpty
      · cases e3 : t'.toList.isEmpty
        · cases e4 : ((hd.length : Int) != (hd'.length : Int))
          · have HE : Hid (decide (qu'.length < qu.length) = z) := by unfold Hid; rw [HP.out]; unfold ahW; rw [e0, e1, e2, e3, e4]; rfl
            go_enter Try.func42, Try.ntmps42
            go_wp2_with fail
            go_ret
            exact ⟨ret_bool HE.out, B2⟩
          · have HE : Hid (decide (hd'.length < hd.length) = z) := by unfold Hid; rw [HP.out]; unfold ahW; rw [e0, e1, e2, e3, e4]; rfl
            go_enter Try.func42, Try.ntmps42
            go_wp2_with fail
            go_ret
            exact ⟨ret_bool HE.out, B2⟩
        · have HE : Hid (true = z) := by unfold Hid; rw [HP.out]; unfold ahW; rw [e0, e1, e2, e3]; rfl
          go_enter Try.func42, Try.ntmps42
          go_wp2_with fail
          go_ret
          exact ⟨ret_bool HE.out, B2⟩
      · cases e3 : t'.toList.isEmpty
        · have HE : Hid (false = z) := by unfold Hid; rw [HP.out]; unfold ahW; rw [e0, e1, e2, e3]; rfl
          go_enter Try.func42, Try.ntmps42
          go_wp2_with fail
          go_ret
          exact ⟨ret_bool HE.out, B2⟩
        · cases e4 : ((hd.length : Int) != (hd'.length : Int))
          · have HE : Hid (decide (qu'.length < qu.length) = z) := by unfold Hid; rw [HP.out]; unfold ahW; rw [e0, e1, e2, e3, e4]; rfl
            go_enter Try.func42, Try.ntmps42
            go_wp2_with fail
            go_ret
            exact ⟨ret_bool HE.out, B2⟩
          · have HE : Hid (decide (hd'.length < hd.length) = z) := by unfold Hid; rw [HP.out]; unfold ahW; rw [e0, e1, e2, e3, e4]; rfl
            go_enter Try.func42, Try.ntmps42
            go_wp2_with fail
            go_ret
            exact ⟨ret_bool HE.out, B2⟩
    · have HE : Hid (decide (v'.size < v.size) = z) := by unfold Hid; rw [HP.out]; unfold ahW; rw [e0, e1]; rfl
      go_enter Try.func42, Try.ntmps42
      go_wp2_with fail
      go_ret
      exact ⟨ret_bool HE.out, B2⟩
  · have HE : Hid (decide (k < k') = z) := by unfold Hid; rw [HP.out]; unfold ahW; rw [e0]; rfl
    go_enter Try.func42, Try.ntmps42
    go_wp2_with fail
    go_ret
    exact ⟨ret_bool HE.out, B2⟩

set_option maxHeartbeats 1600000 in
theorem rrorder_m (a b : MB) (va vb vc vd : Value) (w : World) (ha1 : Prs w va a.head) (ha2 : Prs w vb a.query) (hb1 : Prs w vc b.head) (hb2 : Prs w vd b.query) :
    Calls Try.prog 24 #[mV a va vb, mV b vc vd] w fun e w' => e = .returned (.int .i64 (ordM a b)) ∧ Below w.heap.size w w' := by
  have HO : Hid (ordM a b = if ahM a b then -1 else if ahM b a then 1 else 0) := rfl
  have C1 := fun W (h : Below w.heap.size w W) => hide (rahead_m a b va vb vc vd W (ha1.below h) (ha2.below h) (hb1.below h) (hb2.below h))
  have C2 := fun W (h : Below w.heap.size w W) => hide (rahead_m b a vc vd va vb W (hb1.below h) (hb2.below h) (ha1.below h) (ha2.below h))
  clear ha1 ha2 hb1 hb2
  generalize ordM a b = z at *
  generalize ahM a b = x at *
  generalize ahM b a = y at *
  have m0 := fun q : GB ((w.alloc (.cells #[.int .i64 a.kind, .string a.val, .string a.meth, va, vb] 26)).alloc (.cells #[.int .i64 b.kind, .string b.val, .string b.meth, vc, vd] 26)) => ((box55 q.h).1).1
  have m1 := fun q : GB ((w.alloc (.cells #[.int .i64 a.kind, .string a.val, .string a.meth, va, vb] 26)).alloc (.cells #[.int .i64 b.kind, .string b.val, .string b.meth, vc, vd] 26)) => ((box55 q.h).1).2.1
  have m2 := fun q : GB ((w.alloc (.cells #[.int .i64 a.kind, .string a.val, .string a.meth, va, vb] 26)).alloc (.cells #[.int .i64 b.kind, .string b.val, .string b.meth, vc, vd] 26)) => ((box55 q.h).1).2.2.1
  have m3 := fun q : GB ((w.alloc (.cells #[.int .i64 a.kind, .string a.val, .string a.meth, va, vb] 26)).alloc (.cells #[.int .i64 b.kind, .string b.val, .string b.meth, vc, vd] 26)) => ((box55 q.h).1).2.2.2.1
  have m4 := fun q : GB ((w.alloc (.cells #[.int .i64 a.kind, .string a.val, .string a.meth, va, vb] 26)).alloc (.cells #[.int .i64 b.kind, .string b.val, .string b.meth, vc, vd] 26)) => ((box55 q.h).1).2.2.2.2
  have n0 := fun q : GB ((w.alloc (.cells #[.int .i64 a.kind, .string a.val, .string a.meth, va, vb] 26)).alloc (.cells #[.int .i64 b.kind, .string b.val, .string b.meth, vc, vd] 26)) => ((box55 q.h).2).1
  have n1 := fun q : GB ((w.alloc (.cells #[.int .i64 a.kind, .string a.val, .string a.meth, va, vb] 26)).alloc (.cells #[.int .i64 b.kind, .string b.val, .string b.meth, vc, vd] 26)) => ((box55 q.h).2).2.1
  have n2 := fun q : GB ((w.alloc (.cells #[.int .i64 a.kind, .string a.val, .string a.meth, va, vb] 26)).alloc (.cells #[.int .i64 b.kind, .string b.val, .string b.meth, vc, vd] 26)) => ((box55 q.h).2).2.2.1
  have n3 := fun q : GB ((w.alloc (.cells #[.int .i64 a.kind, .string a.val, .string a.meth, va, vb] 26)).alloc (.cells #[.int .i64 b.kind, .string b.val, .string b.meth, vc, vd] 26)) => ((box55 q.h).2).2.2.2.1
  have n4 := fun q : GB ((w.alloc (.cells #[.int .i64 a.kind, .string a.val, .string a.meth, va, vb] 26)).alloc (.cells #[.int .i64 b.kind, .string b.val, .string b.meth, vc, vd] 26)) => ((box55 q.h).2).2.2.2.2
  have B2 : Below w.heap.size w ((w.alloc (.cells #[.int .i64 a.kind, .string a.val, .string a.meth, va, vb] 26)).alloc (.cells #[.int .i64 b.kind, .string b.val, .string b.meth, vc, vd] 26)) := ((Below.refl _ _).alloc (Nat.le_refl _) _).alloc (by simp) _
  cases x
  · cases y
    · have HE : Hid (0 = z) := HO.out.symm
      go_enter Try.func24, Try.ntmps24
      go_wp2_with fail
      refine (calls_gb0 ((C1 _ B2).out)).mono ?_
      rintro e x ⟨rfl, q, rfl⟩
      go_wp2_with fail
      refine (calls_gb ((C2 _ (below_2 q.h)).out)).mono ?_
      rintro e x ⟨rfl, q, rfl⟩
      go_wp2_with fail
      go_ret
      exact ⟨ret_int HE.out, below_2 q.h⟩
    · have HE : Hid (1 = z) := HO.out.symm
      go_enter Try.func24, Try.ntmps24
      go_wp2_with fail
      refine (calls_gb0 ((C1 _ B2).out)).mono ?_
      rintro e x ⟨rfl, q, rfl⟩
      go_wp2_with fail
      refine (calls_gb ((C2 _ (below_2 q.h)).out)).mono ?_
      rintro e x ⟨rfl, q, rfl⟩
      go_wp2_with fail
      go_ret
      exact ⟨ret_int HE.out, below_2 q.h⟩
  · have HE : Hid (-1 = z) := HO.out.symm
    go_enter Try.func24, Try.ntmps24
    go_wp2_with fail
    refine (calls_gb0 ((C1 _ B2).out)).mono ?_
    rintro e x ⟨rfl, q, rfl⟩
    go_wp2_with fail
    go_ret
    exact ⟨ret_int HE.out, below_2 q.h⟩

set_option maxHeartbeats 1600000 in
theorem rsame_m (a b : MB) (va vb vc vd : Value) (w : World) (ha1 : Prs w va a.head) (ha2 : Prs w vb a.query) (hb1 : Prs w vc b.head) (hb2 : Prs w vd b.query) :
    Calls Try.prog 26 #[mV a va vb, mV b vc vd] w fun e w' => e = .returned (.bool (sameM a b)) ∧ Below w.heap.size w w' := by
  have HP : Hid (sameM a b = ((a.kind == b.kind && a.val.toList == b.val.toList) && ((a.meth.toList == b.meth.toList) && (decide (a.head = b.head) && decide (a.query = b.query))))) := rfl
  have C1 := fun W (h : Below w.heap.size w W) => hide (psame_any W va vc a.head b.head (ha1.below h) (hb1.below h))
  have C2 := fun W (h : Below w.heap.size w W) => hide (psame_any W vb vd a.query b.query (ha2.below h) (hb2.below h))
  clear ha1 ha2 hb1 hb2
  generalize sameM a b = z at *
  generalize decide (a.head = b.head) = x3 at *
  generalize decide (a.query = b.query) = x4 at *
  have m0 := fun q : GB ((w.alloc (.cells #[.int .i64 a.kind, .string a.val, .string a.meth, va, vb] 26)).alloc (.cells #[.int .i64 b.kind, .string b.val, .string b.meth, vc, vd] 26)) => ((box55 q.h).1).1
  have m1 := fun q : GB ((w.alloc (.cells #[.int .i64 a.kind, .string a.val, .string a.meth, va, vb] 26)).alloc (.cells #[.int .i64 b.kind, .string b.val, .string b.meth, vc, vd] 26)) => ((box55 q.h).1).2.1
  have m2 := fun q : GB ((w.alloc (.cells #[.int .i64 a.kind, .string a.val, .string a.meth, va, vb] 26)).alloc (.cells #[.int .i64 b.kind, .string b.val, .string b.meth, vc, vd] 26)) => ((box55 q.h).1).2.2.1
  have m3 := fun q : GB ((w.alloc (.cells #[.int .i64 a.kind, .string a.val, .string a.meth, va, vb] 26)).alloc (.cells #[.int .i64 b.kind, .string b.val, .string b.meth, vc, vd] 26)) => ((box55 q.h).1).2.2.2.1
  have m4 := fun q : GB ((w.alloc (.cells #[.int .i64 a.kind, .string a.val, .string a.meth, va, vb] 26)).alloc (.cells #[.int .i64 b.kind, .string b.val, .string b.meth, vc, vd] 26)) => ((box55 q.h).1).2.2.2.2
  have n0 := fun q : GB ((w.alloc (.cells #[.int .i64 a.kind, .string a.val, .string a.meth, va, vb] 26)).alloc (.cells #[.int .i64 b.kind, .string b.val, .string b.meth, vc, vd] 26)) => ((box55 q.h).2).1
  have n1 := fun q : GB ((w.alloc (.cells #[.int .i64 a.kind, .string a.val, .string a.meth, va, vb] 26)).alloc (.cells #[.int .i64 b.kind, .string b.val, .string b.meth, vc, vd] 26)) => ((box55 q.h).2).2.1
  have n2 := fun q : GB ((w.alloc (.cells #[.int .i64 a.kind, .string a.val, .string a.meth, va, vb] 26)).alloc (.cells #[.int .i64 b.kind, .string b.val, .string b.meth, vc, vd] 26)) => ((box55 q.h).2).2.2.1
  have n3 := fun q : GB ((w.alloc (.cells #[.int .i64 a.kind, .string a.val, .string a.meth, va, vb] 26)).alloc (.cells #[.int .i64 b.kind, .string b.val, .string b.meth, vc, vd] 26)) => ((box55 q.h).2).2.2.2.1
  have n4 := fun q : GB ((w.alloc (.cells #[.int .i64 a.kind, .string a.val, .string a.meth, va, vb] 26)).alloc (.cells #[.int .i64 b.kind, .string b.val, .string b.meth, vc, vd] 26)) => ((box55 q.h).2).2.2.2.2
  have B2 : Below w.heap.size w ((w.alloc (.cells #[.int .i64 a.kind, .string a.val, .string a.meth, va, vb] 26)).alloc (.cells #[.int .i64 b.kind, .string b.val, .string b.meth, vc, vd] 26)) := ((Below.refl _ _).alloc (Nat.le_refl _) _).alloc (by simp) _
  cases e0 : (a.kind == b.kind)
  · rw [e0] at HP
    go_enter Try.func26, Try.ntmps26
    go_wp2_with fail
    go_ret
    exact ⟨ret_bool HP.out.symm, B2⟩
  cases e1 : (a.val.toList == b.val.toList)
  · rw [e0, e1] at HP
    go_enter Try.func26, Try.ntmps26
    go_wp2_with fail
    go_ret
    exact ⟨ret_bool HP.out.symm, B2⟩
  cases e2 : (a.meth.toList == b.meth.toList)
  · rw [e0, e1, e2] at HP
    go_enter Try.func26, Try.ntmps26
    go_wp2_with fail
    go_ret
    exact ⟨ret_bool HP.out.symm, B2⟩
  rw [e0, e1, e2] at HP
  cases x3
  · go_enter Try.func26, Try.ntmps26
    go_wp2_with fail
    refine (calls_gb0 ((C1 _ B2).out)).mono ?_
    rintro e x ⟨rfl, q, rfl⟩
    go_wp2_with fail
    go_ret
    exact ⟨ret_bool HP.out.symm, below_2 q.h⟩
  · go_enter Try.func26, Try.ntmps26
    go_wp2_with fail
    refine (calls_gb0 ((C1 _ B2).out)).mono ?_
    rintro e x ⟨rfl, q, rfl⟩
    go_wp2_with fail
    refine (calls_gb ((C2 _ (below_2 q.h)).out)).mono ?_
    rintro e x ⟨rfl, q, rfl⟩
    go_wp2_with fail
    go_ret
    exact ⟨ret_bool HP.out.symm, below_2 q.h⟩

/-- is it the first so far? -/
def topTo (r : RB) (l : List MB) (x : MB) (n : Nat) : Bool := holdM x r && (l.take n).all fun y => !(holdM y r && ahM y x)
theorem topTo_same {r : RB} {l : List MB} {x : MB} {n : Nat} (hn : n < l.length) (h : (holdM l[n] r && ahM l[n] x) = false) : topTo r l x (n + 1) = topTo r l x n := by
  unfold topTo
  rw [List.take_succ_eq_append_getElem hn, List.all_append]
  simp only [List.all_cons, List.all_nil, h, Bool.not_false, Bool.and_true]
theorem topTo_not {r : RB} {l : List MB} {x : MB} {n : Nat} (hn : n < l.length) (h : (holdM l[n] r && ahM l[n] x) = true) : topTo r l x (n + 1) = false := by
  unfold topTo
  rw [List.take_succ_eq_append_getElem hn, List.all_append]
  simp only [List.all_cons, List.all_nil, h, Bool.not_true, Bool.and_true, Bool.and_false]
theorem topTo_all (r : RB) (l : List MB) (x : MB) : topTo r l x l.length = Ru.top (fun m => holdM m r) ahM l x := by
  unfold topTo Ru.top
  rw [List.take_of_length_le (Nat.le_refl _)]

set_option maxHeartbeats 6400000 in
theorem rfirst_m (v : Value) (L : List MV) (r : RB) (vr vs : Value) (w : World) (hv : Mts w v L) (ok : ∀ x ∈ L, OkM x.m) (hr : Prs w vr r.query) (hs : Prs w vs r.head) (okr : OkR r) :
    Calls Try.prog 22 #[v, rV r vr vs] w fun e w' => e = .returned (.tuple #[.int .i64 (atI (bestM r (L.map MV.m)) : Nat), .bool (bestM r (L.map MV.m)).isSome]) ∧ Below w.heap.size w w' := by
  have hlen := hv.len
  have CH := fun (x : MV) W (hx : x.at_ W) (okx : OkM x.m) (h : Below w.heap.size w W) => hide (rholds_m x.m x.vh x.vq r vr vs W hx.1 hx.2 okx (hr.below h) (hs.below h) okr)
  have CO := fun (x y : MV) W (hx : x.at_ W) (hy : y.at_ W) => hide (rahead_m x.m y.m x.vh x.vq y.vh y.vq W hx.1 hx.2 hy.1 hy.2)
  have HW : Hid (∀ i (hi : i < L.length), Ru.top (fun m => holdM m r) ahM (L.map MV.m) L[i].m = true → (∀ j (hj : j < L.length), j < i → Ru.top (fun m => holdM m r) ahM (L.map MV.m) L[j].m = false) → bestM r (L.map MV.m) = some (i, L[i].m)) := fun i hi h1 h2 => by
    have := Ru.best_words (h := fun m => holdM m r) ahM_rank (l := L.map MV.m) (i := i) (by rw [List.length_map]; exact hi) (by rw [List.getElem_map]; exact h1) (fun j hj hji => by rw [List.getElem_map]; exact h2 j (by rwa [List.length_map] at hj) hji)
    rw [List.getElem_map] at this
    exact this
  have HWN : Hid ((∀ j (hj : j < L.length), Ru.top (fun m => holdM m r) ahM (L.map MV.m) L[j].m = false) → bestM r (L.map MV.m) = none) := fun h2 =>
    Ru.best_words_none (h := fun m => holdM m r) ahM_rank (l := L.map MV.m) (fun j hj => by rw [List.getElem_map]; exact h2 j (by rwa [List.length_map] at hj))
  obtain ⟨a, cap, rfl, _, _, hc⟩ := hv
  have HC := hide hc
  have HOK := hide ok
  clear hc ok hr hs okr
  go_enter Try.func22, Try.ntmps22
  go_wp2_with fail
  go_loopw [6] (fun i wr => ∃ k : Nat, k ≤ L.length ∧ i = .int .i64 k ∧ Hid (∀ j (hj : j < L.length), j < k → Ru.top (fun m => holdM m r) ahM (L.map MV.m) L[j].m = false) ∧ Below (w.alloc (.cells #[.string r.meth, .string r.host, .string r.path, vr, vs] 28)).heap.size (w.alloc (.cells #[.string r.meth, .string r.host, .string r.path, vr, vs] 28)) wr) (fun i _ => L.length - (intOf i).toNat)
  case atStart => exact ⟨0, Nat.zero_le _, rfl, fun _ _ h => absurd h (by omega), Below.refl _ _⟩
  case round =>
    obtain ⟨wo, rfl⟩ : ∃ x, x = wr := ⟨wr, rfl⟩
    obtain ⟨k, hk, rfl, hnot, hB⟩ := hrel
    have hW := below_box hB
    by_cases hlt : k < L.length
    · have hlt' : (k : Int) < (L.length : Int) := by omega
      obtain ⟨hat, g, off, rfl, hg, F⟩ := HC.out k hlt
      have okx := HOK.out _ (List.getElem_mem hlt)
      have HWK := hide (HW.out k hlt)
      have HNX : Hid (Ru.top (fun m => holdM m r) ahM (L.map MV.m) L[k].m = false → ∀ j (hj : j < L.length), j < k + 1 → Ru.top (fun m => holdM m r) ahM (L.map MV.m) L[j].m = false) := fun h j hj hjk => by
        rcases Nat.lt_or_ge j k with h1 | h1
        · exact hnot.out j hj h1
        · obtain rfl : j = k := by omega
          exact h
      generalize hx : L[k] = x at *
      clear hx
      have CH' := fun q : GB wo => CH x q.W (hat.below (bb2 hW q.h)) okx (bb2 hW q.h)
      have b0 := fun q : GB wo => (F.below hg (bb2 hW q.h)).1
      have b1 := fun q : GB wo => (F.below hg (bb2 hW q.h)).2.1
      have b2 := fun q : GB wo => (F.below hg (bb2 hW q.h)).2.2.1
      have b3 := fun q : GB wo => (F.below hg (bb2 hW q.h)).2.2.2.1
      have b4 := fun q : GB wo => (F.below hg (bb2 hW q.h)).2.2.2.2
      have r0 := fun q : GB wo => (box5 (hB.trans (q.h.mono hB.size))).1
      have r1 := fun q : GB wo => (box5 (hB.trans (q.h.mono hB.size))).2.1
      have r2 := fun q : GB wo => (box5 (hB.trans (q.h.mono hB.size))).2.2.1
      have r3 := fun q : GB wo => (box5 (hB.trans (q.h.mono hB.size))).2.2.2.1
      have r4 := fun q : GB wo => (box5 (hB.trans (q.h.mono hB.size))).2.2.2.2
      have HT0 : Hid (holdM x.m r = topTo r (L.map MV.m) x.m 0) := by unfold Hid topTo; simp
      rw [HT0.out] at CH'
      go_wp2_with fail
      refine wp_region_below (by kernel_rfl) (by kernel_rfl) ?_
      repeat (first | go_big_quiet_step ((go_at_call 16; exact calls_gb (CH' _).out)) | quiet_step ((go_at_call 16; exact calls_gb (CH' _).out)))
      refine wpQuiet_nil ?_
      intro _ hw'
      obtain ⟨qq, hw2⟩ := hw'
      subst hw2
      have hq := hB.trans (qq.h.mono hB.size)
      go_wp2_with fail
      clear b0 b1 b2 b3 b4 r0 r1 r2 r3 r4 CH' HT0
      go_loopw [7, 8] (fun fs j wi => ∃ n : Nat, n ≤ L.length ∧ j = .int .i64 n ∧ fs = .bool (topTo r (L.map MV.m) x.m n) ∧ Below (w.alloc (.cells #[.string r.meth, .string r.host, .string r.path, vr, vs] 28)).heap.size (w.alloc (.cells #[.string r.meth, .string r.host, .string r.path, vr, vs] 28)) wi) (fun _ j _ => L.length - (intOf j).toNat)
      case atStart => exact ⟨0, Nat.zero_le _, rfl, rfl, hq⟩
      case round =>
        clear hq hB hW
        obtain ⟨wi, rfl⟩ : ∃ x, x = wr := ⟨wr, rfl⟩
        obtain ⟨n, hn, rfl, rfl, hB⟩ := hrel
        have hW := below_box hB
        by_cases hnl : n < L.length
        · have hnl' : (n : Int) < (L.length : Int) := by omega
          obtain ⟨hat2, g', off', he', _, G⟩ := HC.out n hnl
          injection he' with he'
          injection he' with he1 he2
          subst he1 he2
          have oky := HOK.out _ (List.getElem_mem hnl)
          have HS1 : Hid ((holdM L[n].m r && ahM L[n].m x.m) = false → topTo r (L.map MV.m) x.m (n + 1) = topTo r (L.map MV.m) x.m n) := fun h => topTo_same (by rw [List.length_map]; exact hnl) (by rw [List.getElem_map]; exact h)
          have HS2 : Hid ((holdM L[n].m r && ahM L[n].m x.m) = true → topTo r (L.map MV.m) x.m (n + 1) = false) := fun h => topTo_not (by rw [List.length_map]; exact hnl) (by rw [List.getElem_map]; exact h)
          generalize hy : L[n] = y at *
          clear hy
          have CH' := fun q : GB wi => CH y q.W (hat2.below (bb2 hW q.h)) oky (bb2 hW q.h)
          have CO' := fun q : GB wi => CO y x q.W (hat2.below (bb2 hW q.h)) (hat.below (bb2 hW q.h))
          have b0 := fun q : GB wi => (F.below hg (bb2 hW q.h)).1
          have b1 := fun q : GB wi => (F.below hg (bb2 hW q.h)).2.1
          have b2 := fun q : GB wi => (F.below hg (bb2 hW q.h)).2.2.1
          have b3 := fun q : GB wi => (F.below hg (bb2 hW q.h)).2.2.2.1
          have b4 := fun q : GB wi => (F.below hg (bb2 hW q.h)).2.2.2.2
          have c0 := fun q : GB wi => (G.below hg (bb2 hW q.h)).1
          have c1 := fun q : GB wi => (G.below hg (bb2 hW q.h)).2.1
          have c2 := fun q : GB wi => (G.below hg (bb2 hW q.h)).2.2.1
          have c3 := fun q : GB wi => (G.below hg (bb2 hW q.h)).2.2.2.1
          have c4 := fun q : GB wi => (G.below hg (bb2 hW q.h)).2.2.2.2
          have r0 := fun q : GB wi => (box5 (hB.trans (q.h.mono hB.size))).1
          have r1 := fun q : GB wi => (box5 (hB.trans (q.h.mono hB.size))).2.1
          have r2 := fun q : GB wi => (box5 (hB.trans (q.h.mono hB.size))).2.2.1
          have r3 := fun q : GB wi => (box5 (hB.trans (q.h.mono hB.size))).2.2.2.1
          have r4 := fun q : GB wi => (box5 (hB.trans (q.h.mono hB.size))).2.2.2.2
          generalize topTo r (L.map MV.m) x.m n = tn at *
          cases hh : holdM y.m r
          · have HN := hide (HS1.out (by rw [hh]; rfl))
            rw [hh] at CH'
            clear hh HS1 HS2 CO'
            go_wp2_with fail
            refine wp_region_below (by kernel_rfl) (by kernel_rfl) ?_
            repeat (first | go_big_quiet_step ((go_at_call 16; exact calls_gb (CH' _).out)) | quiet_step ((go_at_call 16; exact calls_gb (CH' _).out)))
            refine wpQuiet_nil ?_
            intro _ hw'
            obtain ⟨qq, hw2⟩ := hw'
            subst hw2
            have hq := hB.trans (qq.h.mono hB.size)
            go_wp2_with fail
            exact ⟨⟨n + 1, by omega, by go_num, by rw [HN.out], hq⟩, by simp [intOf]; omega⟩
          · rw [hh] at CH'
            cases ha : ahM y.m x.m
            · have HN := hide (HS1.out (by rw [hh, ha]; rfl))
              rw [ha] at CO'
              clear hh ha HS1 HS2
              go_wp2_with fail
              refine wp_region_below (by kernel_rfl) (by kernel_rfl) ?_
              repeat (first | go_big_quiet_step ((first | (go_at_call 16; exact calls_gb (CH' _).out) | (go_at_call 42; exact calls_gb (CO' _).out))) | quiet_step ((first | (go_at_call 16; exact calls_gb (CH' _).out) | (go_at_call 42; exact calls_gb (CO' _).out))))
              refine wpQuiet_nil ?_
              intro _ hw'
              obtain ⟨qq, hw2⟩ := hw'
              subst hw2
              have hq := hB.trans (qq.h.mono hB.size)
              go_wp2_with fail
              exact ⟨⟨n + 1, by omega, by go_num, by rw [HN.out], hq⟩, by simp [intOf]; omega⟩
            · have HN := hide (HS2.out (by rw [hh, ha]; rfl))
              rw [ha] at CO'
              clear hh ha HS1 HS2
              go_wp2_with fail
              refine wp_region_below (by kernel_rfl) (by kernel_rfl) ?_
              repeat (first | go_big_quiet_step ((first | (go_at_call 16; exact calls_gb (CH' _).out) | (go_at_call 42; exact calls_gb (CO' _).out))) | quiet_step ((first | (go_at_call 16; exact calls_gb (CH' _).out) | (go_at_call 42; exact calls_gb (CO' _).out))))
              refine wpQuiet_nil ?_
              intro _ hw'
              obtain ⟨qq, hw2⟩ := hw'
              subst hw2
              have hq := hB.trans (qq.h.mono hB.size)
              go_wp2_with fail
              exact ⟨⟨n + 1, by omega, by go_num, by rw [HN.out], hq⟩, by simp [intOf]; omega⟩
        · have hnl' : ¬ (n : Int) < (L.length : Int) := by omega
          obtain rfl : n = L.length := by omega
          have HTA : Hid (topTo r (L.map MV.m) x.m L.length = Ru.top (fun m => holdM m r) ahM (L.map MV.m) x.m) := by
            have := topTo_all r (L.map MV.m) x.m
            rwa [List.length_map] at this
          rw [HTA.out]
          cases ht : Ru.top (fun m => holdM m r) ahM (L.map MV.m) x.m
          · have HN := hide (HNX.out ht)
            clear ht
            go_wp2_with fail
            exact ⟨⟨k + 1, by omega, by go_num, HN.out, hB⟩, by simp [intOf]; omega⟩
          · have HR := hide (HWK.out ht hnot.out)
            clear ht
            go_wp2_with fail
            go_ret2
            exact ⟨by rw [HR.out]; rfl, hW⟩
    · have hlt' : ¬ (k : Int) < (L.length : Int) := by omega
      have HR := hide (HWN.out (fun j hj => hnot.out j hj (by omega)))
      go_wp2_with fail
      go_ret2
      exact ⟨by rw [HR.out]; rfl, hW⟩

end Go.Proofs.Ytppnkfjdgalgbaa
