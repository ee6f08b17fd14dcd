/-
  Walks: slices.Index, slices.Contains (at sides), names, Lets.
-/
import Derived.Test.YthnodpdiocppgaaGreatDoorJ13
import Derived.Test.YthnodpdiocppgaaGreatDoorJ15
import Derived.Test.YthnodpdiocppgaaGreatDoorJ14
import Derived.Test.YthnodpdiocppgaaGreatDoorJ23
import Derived.Test.YthnodpdiocppgaaGreatDoorJ4
import Derived.Test.YthnodpdiocppgaaGreatDoorJ26
import Derived.Shelf.Abstract
import Derived.Shelf.RegionOpen
import Derived.OwnWalkIn
import Derived.TacticsInMore
import Derived.LoopNIn
import Derived.LoopIn
import Derived.Test.YthnodpdiocppgaaGreatDoorJ16
namespace Go.Proofs.YthnodpdiocppgaaGreatDoor
set_option maxRecDepth 20000
open Go Go.RowKit Go.Shelf

set_option maxHeartbeats 1600000 in
theorem gidx_any (va : Value) (l : List RfB) (r : RfB) (w : World) (hv : Sl ER w va l) :
    Calls Tryz.prog 64 #[va, rfV r] w fun e w' => e = .returned (.int .i64 (idxG (Ob.eqR r) l)) ∧ Below w.heap.size w w' := by
  have hlen := hv.len
  obtain ⟨a, cap, rfl⟩ := hv.form
  have HC := hide (fun W (hB : Below w.heap.size w W) k (hk : k < l.length) => oneD hv hB hk)
  clear hv
  obtain ⟨X, hX⟩ : ∃ z, z = w.alloc (.cells #[.int .i64 r.kind, .string r.space, .string r.name] 53) := ⟨_, rfl⟩
  have B1 : Below w.heap.size w X := by rw [hX]; exact (Below.refl _ _).alloc (Nat.le_refl _) _
  have K0 : X.heap[w.heap.size]? = some (.cells #[.int .i64 r.kind, .string r.space, .string r.name] 53) := by rw [hX]; exact alloc_new _ _
  have HB1 := hide B1
  have HK0 := hide K0
  clear B1 K0
  go_enter Tryz.func64, Tryz.ntmps64
  go_wp2_with fail
  go_loopw [8] (fun i wr => ∃ k : Nat, k ≤ l.length ∧ i = .int .i64 k ∧ Hid (∀ j (h : j < l.length), j < k → Ob.eqR r l[j] = false) ∧ Below X.heap.size X wr) (fun i _ => l.length - (intOf i).toNat)
  case atStart => exact ⟨0, Nat.zero_le _, rfl, fun j h hj => absurd hj (by omega), by rw [hX]; exact Below.refl _ _⟩
  case round =>
    clear hX
    obtain ⟨k, hk, rfl, hno, hB⟩ := hrel
    have hBw := hide (bb2 HB1.out hB)
    have kb := blk_below HK0.out hB
    have z0 := cellN kb (i := 0) rfl
    have z1 := cellN kb (i := 1) rfl
    have z2 := cellN kb (i := 2) rfl
    clear kb
    by_cases hlt : k < l.length
    · have hlt' : (k : Int) < (l.length : Int) := by omega
      obtain ⟨hA, gg, off, rfl, hgg, c0, c1, c2⟩ := HC.out _ hBw.out k hlt
      clear hA
      have HN : Hid (Ob.eqR r l[k] = false → ∀ j (h : j < l.length), j < k + 1 → Ob.eqR r l[j] = false) := fun h j h1 hj => by
        rcases Nat.lt_or_ge j k with h2 | h2
        · exact hno.out j h1 h2
        · obtain rfl : j = k := by omega
          exact h
      have HI : Hid (Ob.eqR r l[k] = true → (k : Int) = idxG (Ob.eqR r) l) := fun h => (idxG_yes hlt hno.out h).symm
      generalize l[k] = y at *
      have HQ : Hid (∀ W, (Op.equalIn 10000 53 (rfV r) (rfV y)).run Tryz.prog W = .ok (Ob.eqR r y) W) := by
        intro W
        rw [eqSide _ _ _ _ _ _ W]
        unfold Ob.eqR
        simp only [tl_iff]
      cases hq : Ob.eqR r y
      · have EQF := HQ.out
        have hn := hide (HN.out hq)
        rw [hq] at EQF
        clear hq HQ HN HI
        go_wp2_with fail
        go_region
        go_wp2_with fail
        exact ⟨⟨k + 1, by omega, by go_num, hn.out, hB.drew⟩, by simp [intOf]; omega⟩
      · have EQF := HQ.out
        have hn := hide (HI.out hq)
        rw [hq] at EQF
        clear hq HQ HN HI
        go_wp2_with fail
        go_region
        go_wp2_with fail
        go_ret
        exact ⟨ret_int hn.out, hBw.out.drew⟩
    · have hlt' : ¬ (k : Int) < (l.length : Int) := by omega
      have HI : Hid (-1 = idxG (Ob.eqR r) l) := (idxG_no (fun j h => hno.out j h (by omega))).symm
      go_wp2_with fail
      go_ret
      exact ⟨ret_int HI.out, hBw.out⟩

set_option maxHeartbeats 800000 in
theorem gcon_any (va : Value) (l : List RfB) (r : RfB) (w : World) (hv : Sl ER w va l) :
    Calls Tryz.prog 36 #[va, rfV r] w fun e w' => e = .returned (.bool (l.any (Ob.eqR r))) ∧ Below w.heap.size w w' := by
  have HE := hide (idxG_ge (Ob.eqR r) l)
  have B1 : Below w.heap.size w (w.alloc (.cells #[.int .i64 r.kind, .string r.space, .string r.name] 53)) := (Below.refl _ _).alloc (Nat.le_refl _) _
  have C1 := hide (gidx_any va l r _ (hv.below B1))
  have HB1 := hide B1
  clear hv B1
  go_enter Tryz.func36, Tryz.ntmps36
  go_wp2_with fail
  refine (C1.out).mono ?_
  rintro e w1 ⟨rfl, hb1⟩
  go_wp2_with fail
  go_ret
  exact ⟨ret_bool HE.out, bb2 HB1.out hb1⟩

/-- a grant's sides name kinds and spaces, kinds and names, alone -/
theorem lets_parts {o : OB} (hk : o.ref.kind = 7) (hm : Ob.mayO o = true) (k : Int) (sp : ByteArray) (t : RfB) :
    (o.frm.any (Ob.eqR ⟨k, sp, Ob.nil⟩) = o.frm.any (Gr.frmS k sp)) ∧ ((o.tos.any (Ob.eqR ⟨t.kind, Ob.nil, Ob.nil⟩) || o.tos.any (Ob.eqR ⟨t.kind, Ob.nil, t.name⟩)) = o.tos.any (Gr.toS t)) := by
  have hg := Ob.may7 hm (by omega) (by omega) (by omega) (by omega) (by omega) (by omega)
  unfold Ob.mayGr at hg
  rw [Bool.and_eq_true, Bool.and_eq_true] at hg
  have hf := (Ob.cnt_iff.1 hg.2.1).2.2
  have ht := (Ob.cnt_iff.1 hg.2.2).2.2
  constructor
  · rw [Bool.eq_iff_iff, List.any_eq_true, List.any_eq_true]
    refine exists_congr fun s => and_congr_right fun hs => ?_
    have hn := hf s hs
    unfold Ob.mayFr at hn
    rw [Bool.and_eq_true, Bool.and_eq_true] at hn
    have hn2 := Ob.e0_iff.1 hn.2.2
    unfold Ob.eqR Gr.frmS
    rw [hn2]
    simp only [decide_eq_true_eq, Bool.and_eq_true, and_true]
    exact ⟨fun ⟨a, b⟩ => ⟨a.symm, b.symm⟩, fun ⟨a, b⟩ => ⟨a.symm, b.symm⟩⟩
  · rw [Bool.eq_iff_iff, Bool.or_eq_true, List.any_eq_true, List.any_eq_true, List.any_eq_true, ← exists_or]
    refine exists_congr fun s => ?_
    rw [← and_or_left]
    refine and_congr_right fun hs => ?_
    have hn := ht s hs
    unfold Ob.mayTo at hn
    rw [Bool.and_eq_true, Bool.and_eq_true] at hn
    have hn2 := Ob.e0_iff.1 hn.2.1
    unfold Ob.eqR Gr.toS
    rw [hn2]
    simp only [decide_eq_true_eq, Bool.and_eq_true, Bool.or_eq_true, Ob.e0_iff, true_and]
    constructor
    · rintro (⟨a, b⟩ | ⟨a, b⟩)
      · exact ⟨a.symm, .inl b.symm⟩
      · exact ⟨a.symm, .inr b.symm⟩
    · rintro ⟨a, b | b⟩
      · exact .inl ⟨a.symm, b.symm⟩
      · exact .inr ⟨a.symm, b.symm⟩

set_option maxHeartbeats 1600000 in
theorem gnames_any (va : Value) (l : List RfB) (t : RfB) (w : World) (hv : Sl ER w va l) :
    Calls Tryz.prog 37 #[va, rfV t] w fun e w' => e = .returned (.bool (l.any (Ob.eqR ⟨t.kind, Ob.nil, Ob.nil⟩) || l.any (Ob.eqR ⟨t.kind, Ob.nil, t.name⟩))) ∧ Below w.heap.size w w' := by
  obtain ⟨tk, ts, tn⟩ := t
  obtain ⟨X, hX⟩ : ∃ z, z = ((w.alloc (.cells #[.int .i64 tk, .string ts, .string tn] 24)).alloc (.cells #[.int .i64 tk, .string ⟨#[]⟩, .string ⟨#[]⟩] 53)).alloc (.cells #[.int .i64 tk, .string ⟨#[]⟩, .string tn] 53) := ⟨_, rfl⟩
  have B1 : Below w.heap.size w X := by rw [hX]; exact (((Below.refl _ _).alloc (Nat.le_refl _) _).alloc (by simp) _).alloc (by simp; omega) _
  have K2 : X.heap[w.heap.size + 1 + 1]? = some (.cells #[.int .i64 tk, .string ⟨#[]⟩, .string tn] 53) := by
    rw [hX]
    have := alloc_new ((w.alloc (.cells #[.int .i64 tk, .string ts, .string tn] 24)).alloc (.cells #[.int .i64 tk, .string ⟨#[]⟩, .string ⟨#[]⟩] 53)) (.cells #[.int .i64 tk, .string ⟨#[]⟩, .string tn] 53)
    simpa using this
  have C1 := fun W (h : Below X.heap.size X W) r => hide (gcon_any va l r W (hv.below (bb2 B1 h)))
  have c0 := fun q : GB X => cellN (blk_below K2 q.h) (i := 0) rfl
  have c1 := fun q : GB X => cellN (blk_below K2 q.h) (i := 1) rfl
  have c2 := fun q : GB X => cellN (blk_below K2 q.h) (i := 2) rfl
  have HB1 := hide B1
  dsimp only
  cases h1 : l.any (Ob.eqR ⟨tk, Ob.nil, Ob.nil⟩)
  · have H1 := hide h1
    clear hv B1 K2 h1
    go_enter Tryz.func37, Tryz.ntmps37
    go_wp2_with fail
    rw [← hX]
    clear hX
    refine (calls_gb0 ((C1 _ (Below.refl _ _) ⟨tk, Ob.nil, Ob.nil⟩).out)).mono ?_
    rintro e x ⟨rfl, q, rfl⟩
    rw [H1.out]
    go_wp2_with fail
    refine (calls_gb ((C1 _ q.h ⟨tk, Ob.nil, tn⟩).out)).mono ?_
    rintro e x ⟨rfl, q, rfl⟩
    go_wp2_with fail
    go_ret
    exact ⟨ret_bool (Bool.false_or _).symm, bb2 HB1.out q.h⟩
  · have H1 := hide h1
    clear hv B1 K2 h1
    go_enter Tryz.func37, Tryz.ntmps37
    go_wp2_with fail
    rw [← hX]
    clear hX
    refine (calls_gb0 ((C1 _ (Below.refl _ _) ⟨tk, Ob.nil, Ob.nil⟩).out)).mono ?_
    rintro e x ⟨rfl, q, rfl⟩
    rw [H1.out]
    go_wp2_with fail
    go_ret
    exact ⟨ret_bool (Bool.true_or _).symm, bb2 HB1.out q.h⟩

theorem glets_no1 {o : OB} {k : Int} {sp : ByteArray} {t : RfB} (h : o.ref.kind ≠ 7) : Gr.lets o k sp t = false := by
  unfold Gr.lets
  rw [decide_eq_false h, Bool.false_and]
theorem glets_no2 {o : OB} {k : Int} {sp : ByteArray} {t : RfB} (h : o.ref.space ≠ t.space) : Gr.lets o k sp t = false := by
  unfold Gr.lets
  rw [decide_eq_false h, Bool.false_and, Bool.and_false]
theorem glets_no3 {o : OB} {k : Int} {sp : ByteArray} {t : RfB} (h : Ob.mayO o = false) : Gr.lets o k sp t = false := by
  unfold Gr.lets
  rw [h, Bool.false_and, Bool.and_false, Bool.and_false]
theorem glets_go {o : OB} {k : Int} {sp : ByteArray} {t : RfB} (h1 : o.ref.kind = 7) (h2 : o.ref.space = t.space) (h3 : Ob.mayO o = true) :
    Gr.lets o k sp t = (o.frm.any (Ob.eqR ⟨k, sp, Ob.nil⟩) && (o.tos.any (Ob.eqR ⟨t.kind, Ob.nil, Ob.nil⟩) || o.tos.any (Ob.eqR ⟨t.kind, Ob.nil, t.name⟩))) := by
  obtain ⟨e1, e2⟩ := lets_parts h1 h3 k sp t
  unfold Gr.lets
  rw [e1, e2, decide_eq_true h1, decide_eq_true h2, h3, Bool.true_and, Bool.true_and, Bool.true_and]

set_option linter.unusedVariables false in
set_option maxHeartbeats 3200000 in
theorem lets_any (x : OV) (k : Int) (sp : ByteArray) (t : RfB) (w : World) (hx : x.at_ w) (ok : OkO x) :
    Calls Tryz.prog 15 #[oV x, .int .i64 k, .string sp, rfV t] w fun e w' => e = .returned (.bool (Gr.lets x.b k sp t)) ∧ Below w.heap.size w w' := by
  obtain ⟨tk, ts, tn⟩ := t
  obtain ⟨X, hX⟩ : ∃ z, z = (w.alloc (.cells #[.int .i64 x.ref.kind, .string x.ref.space, .string x.ref.name, .bool x.good, x.vl, x.vp, .string x.cls, x.vi, x.vq, x.vh, x.vr, x.vf, x.vo] 36)).alloc (.cells #[.int .i64 tk, .string ts, .string tn] 24) := ⟨_, rfl⟩
  have B1 : Below w.heap.size w X := by rw [hX]; exact ((Below.refl _ _).alloc (Nat.le_refl _) _).alloc (by simp) _
  have K0 : X.heap[w.heap.size]? = some (.cells #[.int .i64 x.ref.kind, .string x.ref.space, .string x.ref.name, .bool x.good, x.vl, x.vp, .string x.cls, x.vi, x.vq, x.vh, x.vr, x.vf, x.vo] 36) := by rw [hX]; exact blk_below (alloc_new w _) ((Below.refl _ _).alloc (Nat.le_refl _) _)
  have K1 : X.heap[w.heap.size + 1]? = some (.cells #[.int .i64 tk, .string ts, .string tn] 24) := by
    rw [hX]
    have := alloc_new (w.alloc (.cells #[.int .i64 x.ref.kind, .string x.ref.space, .string x.ref.name, .bool x.good, x.vl, x.vp, .string x.cls, x.vi, x.vq, x.vh, x.vr, x.vf, x.vo] 36)) (.cells #[.int .i64 tk, .string ts, .string tn] 24)
    simpa using this
  obtain ⟨a0, a1, a2, a3, a4, a5, a6, a7, a8, a9, a10, a11, a12⟩ := q13 K0
  have b0 := fun q : GB X => cellN (blk_below K1 q.h) (i := 0) rfl
  have b1 := fun q : GB X => cellN (blk_below K1 q.h) (i := 1) rfl
  have b2 := fun q : GB X => cellN (blk_below K1 q.h) (i := 2) rfl
  have C1 := fun W (h : Below X.heap.size X W) => hide (omay_any x W (hx.below (bb2 B1 h)) ok)
  have C2 := fun W (h : Below X.heap.size X W) => hide (gcon_any x.vf x.frm ⟨k, sp, Ob.nil⟩ W (hx.frm.below (bb2 B1 h)))
  have C3 := fun W (h : Below X.heap.size X W) => hide (gnames_any x.vo x.tos ⟨tk, ts, tn⟩ W (hx.tos.below (bb2 B1 h)))
  have HB1 := hide B1
  have L1 := hide (@glets_no1 x.b k sp ⟨tk, ts, tn⟩)
  have L2 := hide (@glets_no2 x.b k sp ⟨tk, ts, tn⟩)
  have L3 := hide (@glets_no3 x.b k sp ⟨tk, ts, tn⟩)
  have L4 := hide (@glets_go x.b k sp ⟨tk, ts, tn⟩)
  clear K0 K1 B1 hx ok
  by_cases h7 : x.ref.kind = 7
  · have t7 : (x.ref.kind == 7) = true := by rw [h7]; rfl
    by_cases hs : x.ref.space = ts
    · have t8 : (x.ref.space.toList == ts.toList) = true := by rw [hs]; simp
      cases hm : Ob.mayO x.b
      · have HE := hide (L3.out hm)
        have HM := hide hm
        clear L1 L2 L3 L4 hm h7 hs C2 C3
        go_enter Tryz.func15, Tryz.ntmps15
        go_wp2_with fail
        rw [← hX]
        clear hX
        refine (calls_gb0 ((C1 _ (Below.refl _ _)).out)).mono ?_
        rintro e x ⟨rfl, q, rfl⟩
        rw [HM.out]
        go_wp2_with fail
        go_ret
        exact ⟨ret_bool HE.out.symm, bb2 HB1.out q.h⟩
      · have HE : Hid (Gr.lets x.b k sp ⟨tk, ts, tn⟩ = (x.frm.any (Ob.eqR ⟨k, sp, Ob.nil⟩) && (x.tos.any (Ob.eqR ⟨tk, Ob.nil, Ob.nil⟩) || x.tos.any (Ob.eqR ⟨tk, Ob.nil, tn⟩)))) := L4.out h7 hs hm
        have HM := hide hm
        clear L1 L2 L3 L4 hm h7 hs
        generalize (x.frm.any (Ob.eqR ⟨k, sp, Ob.nil⟩)) = y1 at *
        generalize (x.tos.any (Ob.eqR ⟨tk, Ob.nil, Ob.nil⟩) || x.tos.any (Ob.eqR ⟨tk, Ob.nil, tn⟩)) = y2 at *
        go_enter Tryz.func15, Tryz.ntmps15
        go_wp2_with fail
        rw [← hX]
        clear hX
        refine (calls_gb0 ((C1 _ (Below.refl _ _)).out)).mono ?_
        rintro e x ⟨rfl, q, rfl⟩
        rw [HM.out]
        go_wp2_with fail
        refine (calls_gb ((C2 _ q.h).out)).mono ?_
        rintro e x ⟨rfl, q, rfl⟩
        cases y1
        · go_wp2_with fail
          go_ret
          exact ⟨ret_bool HE.out.symm, bb2 HB1.out q.h⟩
        · go_wp2_with fail
          refine (calls_gb ((C3 _ q.h).out)).mono ?_
          rintro e x ⟨rfl, q, rfl⟩
          go_wp2_with fail
          go_ret
          exact ⟨ret_bool HE.out.symm, bb2 HB1.out q.h⟩
    · have t8 : (x.ref.space.toList == ts.toList) = false := by simpa [tl_iff] using hs
      have HE := hide (L2.out hs)
      clear L1 L2 L3 L4 h7 hs C1 C2 C3
      go_enter Tryz.func15, Tryz.ntmps15
      go_wp2_with fail
      go_ret
      exact ⟨ret_bool HE.out.symm, by rw [hX] at HB1; exact HB1.out⟩
  · have t7 : (x.ref.kind == 7) = false := by simpa using h7
    have HE := hide (L1.out h7)
    clear L1 L2 L3 L4 h7 C1 C2 C3
    go_enter Tryz.func15, Tryz.ntmps15
    go_wp2_with fail
    go_ret
    exact ⟨ret_bool HE.out.symm, by rw [hX] at HB1; exact HB1.out⟩

end Go.Proofs.YthnodpdiocppgaaGreatDoor
namespace Go.Proofs.YthnodpdiocppgaaGreatDoor
set_option maxRecDepth 20000
open Go Go.RowKit Go.Shelf

attribute [local go_sem] Oper.semAt_some

/-- some new blocks -/
def allocs (w : World) : List Obj → World
  | [] => w
  | o :: l => allocs (w.alloc o) l
theorem allocs_below : ∀ (l : List Obj) (w : World) (n : Nat), n ≤ w.heap.size → Below n w (allocs w l)
  | [], w, n, _ => Below.refl n w
  | o :: l, w, n, h => ((Below.refl n w).alloc h o).trans (allocs_below l (w.alloc o) n (by simp; omega))
theorem allocs_size : ∀ (l : List Obj) (w : World), (allocs w l).heap.size = w.heap.size + l.length
  | [], _ => rfl
  | o :: l, w => by
    rw [allocs, allocs_size l (w.alloc o), World.size_alloc, List.length_cons]
    omega
theorem allocs_at : ∀ (l : List Obj) (w : World) (i : Nat) (o : Obj), l[i]? = some o → (allocs w l).heap[w.heap.size + i]? = some o
  | [], _, _, _, h => by simp at h
  | o :: l, w, 0, x, h => by
    simp at h
    subst h
    have h1 := allocs_below l (w.alloc o) (w.heap.size + 1) (by simp)
    exact (h1.block _ (by omega)).trans (alloc_new w o)
  | o :: l, w, i + 1, x, h => by
    have := allocs_at l (w.alloc o) i x (by simpa using h)
    rw [World.size_alloc] at this
    rw [show w.heap.size + (i + 1) = w.heap.size + 1 + i by omega]
    exact this

abbrev bxK (k : Int) : Obj := .cells #[.int .i64 k] 3
abbrev bxS (s : ByteArray) : Obj := .cells #[.string s] 9
abbrev bxR (t : RfB) : Obj := .cells #[.int .i64 t.kind, .string t.space, .string t.name] 24
abbrev bxL (v : Value) : Obj := .cells #[v] 22
abbrev bxF (v : Value) : Obj := .cells #[v] 57

theorem letting_any (k : Int) (s : ByteArray) (t : RfB) (w : World) :
    Calls Tryz.prog 38 #[.int .i64 k, .string s, rfV t] w fun e w' => e = .returned (.func (.func 65) #[] #[.pointer (some ⟨w.heap.size, 0, none⟩), .pointer (some ⟨w.heap.size + 1, 0, none⟩), .pointer (some ⟨w.heap.size + 1 + 1, 0, none⟩)]) ∧ w' = allocs w [bxK k, bxS s, bxR t] := by
  go_enter Tryz.func38, Tryz.ntmps38
  go_wp2_with fail
  go_ret
  exact ⟨rfl, rfl⟩

/-- whether it lets it, as a closure -/
theorem letting1_any (x : OV) (k : Int) (s : ByteArray) (t : RfB) (b0 b1 b2 : Nat) (w : World) (hx : x.at_ w) (ok : OkO x) (h0 : w.heap[b0]? = some (bxK k)) (h1 : w.heap[b1]? = some (bxS s)) (h2 : w.heap[b2]? = some (bxR t)) :
    Calls Tryz.prog 65 #[oV x, .pointer (some ⟨b0, 0, none⟩), .pointer (some ⟨b1, 0, none⟩), .pointer (some ⟨b2, 0, none⟩)] w fun e w' => e = .returned (.bool (Gr.lets x.b k s t)) ∧ Below w.heap.size w w' := by
  obtain ⟨tk, ts, tn⟩ := t
  obtain ⟨X, hX⟩ : ∃ z, z = (w.alloc (.cells #[.int .i64 x.ref.kind, .string x.ref.space, .string x.ref.name, .bool x.good, x.vl, x.vp, .string x.cls, x.vi, x.vq, x.vh, x.vr, x.vf, x.vo] 36)) := ⟨_, rfl⟩
  have B1 : Below w.heap.size w X := by rw [hX]; exact (Below.refl _ _).alloc (Nat.le_refl _) _
  have K0 : X.heap[w.heap.size]? = some (.cells #[.int .i64 x.ref.kind, .string x.ref.space, .string x.ref.name, .bool x.good, x.vl, x.vp, .string x.cls, x.vi, x.vq, x.vh, x.vr, x.vf, x.vo] 36) := by rw [hX]; exact alloc_new w _
  have y0 := cellN (blk_below h0 B1) (i := 0) rfl
  have y1 := cellN (blk_below h1 B1) (i := 0) rfl
  have y2 := cellN (blk_below h2 B1) (i := 0) rfl
  have y3 := cellN (blk_below h2 B1) (i := 1) rfl
  have y4 := cellN (blk_below h2 B1) (i := 2) rfl
  rw [hX] at y0 y1 y2 y3 y4
  have C1 := hide (lets_any x k s ⟨tk, ts, tn⟩ X (hx.below B1) ok)
  have HB1 := hide B1
  clear hx ok h0 h1 h2 K0 B1
  go_enter Tryz.func65, Tryz.ntmps65
  go_wp2_with fail
  rw [← hX]
  clear hX y0 y1 y2 y3 y4
  refine (C1.out).mono ?_
  rintro e w1 ⟨rfl, hb1⟩
  go_wp2_with fail
  go_ret
  exact ⟨rfl, bb2 HB1.out hb1⟩

theorem those_any (v : Value) (f : Value) (hf : ∃ fn lb, f = .func fn #[] lb) (hv : ∃ a n c, v = .slice a n c) (w : World) :
    Calls Tryz.prog 29 #[v, f] w fun e w' => e = .returned (.func (.func 51) #[] #[.pointer (some ⟨w.heap.size, 0, none⟩), .pointer (some ⟨w.heap.size + 1, 0, none⟩)]) ∧ w' = allocs w [bxL v, bxF f] := by
  obtain ⟨fn, lb, rfl⟩ := hf
  obtain ⟨a, n, c, rfl⟩ := hv
  go_enter Tryz.func29, Tryz.ntmps29
  go_wp2_with fail
  go_ret
  exact ⟨rfl, rfl⟩

/-! ### what is yielded -/
theorem filt_at (L : List OV) (p : OV → Bool) (k : Nat) (hk : k < L.length) (hp : p L[k] = true) :
    ∃ h : ((L.take k).filter p).length < ((L.filter p).map oV).length, ((L.filter p).map oV)[((L.take k).filter p).length] = oV L[k] := by
  have e : L = L.take k ++ (L[k] :: L.drop (k + 1)) := by
    rw [← List.drop_eq_getElem_cons hk, List.take_append_drop]
  have e2 : (L.filter p).map oV = ((L.take k).filter p).map oV ++ (oV L[k] :: ((L.drop (k + 1)).filter p).map oV) := by
    conv => lhs; rw [e]
    rw [List.filter_append, List.filter_cons_of_pos (by exact hp), List.map_append, List.map_cons]
  have hl : (((L.take k).filter p).map oV).length = ((L.take k).filter p).length := List.length_map ..
  refine ⟨?_, ?_⟩
  · rw [e2, List.length_append, List.length_cons, hl]
    omega
  · have hlt : ((L.take k).filter p).length < ((L.filter p).map oV).length := by rw [e2, List.length_append, List.length_cons, hl]; omega
    have : ((L.filter p).map oV)[((L.take k).filter p).length]? = some (oV L[k]) := by
      rw [e2, List.getElem?_append_right (by rw [hl]; exact Nat.le_refl _), hl, Nat.sub_self]
      rfl
    rw [List.getElem?_eq_getElem hlt] at this
    exact Option.some.inj this
theorem filt_yes {L : List OV} {p : OV → Bool} {k : Nat} (hk : k < L.length) (hp : p L[k] = true) : ((L.take (k + 1)).filter p).length = ((L.take k).filter p).length + 1 := by
  rw [List.take_succ_eq_append_getElem hk, List.filter_append, List.filter_cons_of_pos (by exact hp), List.length_append]
  rfl
theorem filt_no {L : List OV} {p : OV → Bool} {k : Nat} (hk : k < L.length) (hp : p L[k] = false) : ((L.take (k + 1)).filter p).length = ((L.take k).filter p).length := by
  rw [List.take_succ_eq_append_getElem hk, List.filter_append, List.filter_cons_of_neg (by rw [hp]; decide)]
  simp

set_option maxRecDepth 100000 in
set_option maxHeartbeats 3200000 in
/-- THE ITERATOR's CONTRACT -/
theorem those_steps (n B : Nat) (a : Option Addr) (cap : Nat) (L : List OV) (sf : Nat) (slb : Array Value) (p : OV → Bool) (w0 : World) (hL : Sl EO w0 (.slice a L.length cap) L)
    (hent : ∀ (args : Array Value) (w : World), (callFunc sf args).run Tryz.prog w = .ok (.enter sf args) w) (Need : World → Prop)
    (hneed : ∀ W, Need W → Below w0.heap.size w0 W ∧ W.heap[B]? = some (bxL (.slice a L.length cap)) ∧ W.heap[B + 1]? = some (bxF (.func (.func sf) #[] slb)))
    (hgrow : ∀ W W', Need W → Below W.heap.size W W' → Need W')
    (hso : ∀ W, Need W → ∀ k (hk : k < L.length), Calls Tryz.prog sf (#[oV L[k]] ++ slb) W fun e w' => e = .returned (.bool (p L[k])) ∧ Below W.heap.size W w') :
    SeqGrows Fence.wide n Tryz.prog 51 #[.pointer (some ⟨B, 0, none⟩), .pointer (some ⟨B + 1, 0, none⟩)] ((L.filter p).map oV) Need := by
  intro l J Jx W gJ gJx nJ hY hJ0
  have hlen := hL.len
  have HO := hide (fun W (hB : Below w0.heap.size w0 W) k (hk : k < L.length) => oneO hL hB hk)
  have HN := hide (fun W h => hneed W h)
  have HG := hide hgrow
  have HS := hide hso
  have HY := hide hY
  have HgJ := hide gJ
  have HgJx := hide gJx
  have HnJ := hide nJ
  obtain ⟨_, k1, k2⟩ := hneed W (nJ 0 W hJ0)
  have g0 := cellN k1 (i := 0) rfl
  clear hL hneed hgrow hso hY gJ gJx nJ k1 k2
  refine callsIn_of_wp Tryz.func51 rfl trivial ?_ rfl
  simp only [Tryz.ntmps51, List.size_toArray, List.length_cons, List.length_nil, Nat.reduceAdd, Nat.reduceSub, Array.replicate_succ, Array.replicate_zero, List.push_toArray, List.append_toArray, List.nil_append, List.cons_append]
  gi_wp2
  gi_loopw [8] (fun i wr => ∃ k : Nat, k ≤ L.length ∧ i = .int .i64 k ∧ J ((L.take k).filter p).length wr) (fun i _ => L.length - (intOf i).toNat)
  case atStart => exact ⟨0, Nat.zero_le _, rfl, hJ0⟩
  case round =>
    clear g0 hJ0
    obtain ⟨k, hk, rfl, hJk⟩ := hrel
    by_cases hlt : k < L.length
    · have hlt' : (k : Int) < (L.length : Int) := by omega
      have hN := HnJ.out _ _ hJk
      obtain ⟨hB0, n1, n2⟩ := HN.out _ hN
      obtain ⟨hA, gg, off, rfl, hgg, c0, c1, c2, c3, c4, c5, c6, c7, c8, c9, c10, c11, c12⟩ := HO.out _ hB0 k hlt
      clear hA hgg
      have HSk := hide (fun W (h : Need W) => HS.out W h k hlt)
      have HNo : Hid (p L[k] = false → ∀ W1, J ((L.take k).filter p).length W1 → J ((L.take (k + 1)).filter p).length W1) := fun h W1 hJ => by rw [filt_no hlt h]; exact hJ
      have HYes : Hid (p L[k] = true → ∀ W1, J (((L.take k).filter p).length + 1) W1 → J ((L.take (k + 1)).filter p).length W1) := fun h W1 hJ => by rw [filt_yes hlt h]; exact hJ
      have HYk : Hid (p L[k] = true → ∀ W1, J ((L.take k).filter p).length W1 → YieldAt Fence.wide (n - 1) Tryz.prog l #[oV L[k]] W1 fun e W' => (e = .returned (.bool true) ∧ J (((L.take k).filter p).length + 1) W') ∨ (e = .returned (.bool false) ∧ Jx (((L.take k).filter p).length + 1) W')) := fun h W1 hJ => by
        obtain ⟨h1, h2⟩ := filt_at L p k hlt h
        have := HY.out _ W1 h1 hJ
        rw [h2] at this
        exact this
      have HLt : Hid (p L[k] = true → ((L.take k).filter p).length < ((L.filter p).map oV).length) := fun h => (filt_at L p k hlt h).1
      generalize L[k] = x at *
      obtain ⟨X, hX⟩ : ∃ z, z = wr.alloc (.cells #[.int .i64 x.ref.kind, .string x.ref.space, .string x.ref.name, .bool x.good, .slice x.al x.labels.length x.cl, .slice x.ap x.ports.length x.cp, .string x.cls, .slice x.ai x.lis.length x.ci, .slice x.aq x.pars.length x.cq, .slice x.ah x.hosts.length x.ch, .slice x.ar x.rules.length x.cr, .slice x.af x.frm.length x.cf, .slice x.ao x.tos.length x.co] 36) := ⟨_, rfl⟩
      have B1 : Below wr.heap.size wr X := by rw [hX]; exact (Below.refl _ _).alloc (Nat.le_refl _) _
      have K0 : X.heap[wr.heap.size]? = some (.cells #[.int .i64 x.ref.kind, .string x.ref.space, .string x.ref.name, .bool x.good, .slice x.al x.labels.length x.cl, .slice x.ap x.ports.length x.cp, .string x.cls, .slice x.ai x.lis.length x.ci, .slice x.aq x.pars.length x.cq, .slice x.ah x.hosts.length x.ch, .slice x.ar x.rules.length x.cr, .slice x.af x.frm.length x.cf, .slice x.ao x.tos.length x.co] 36) := by rw [hX]; exact alloc_new wr _
      have xf : X.cell? ⟨B + 1, 0, none⟩ = some (.func (.func sf) #[] slb) := cellN (blk_below n2 B1) (i := 0) rfl
      rw [hX] at xf
      have NX := HG.out _ _ hN B1
      have C1 := hide (HSk.out _ NX)
      have HJX := hide (HgJ.out _ _ _ hJk B1)
      have HK0 := hide K0
      clear K0 n1 n2 HSk HS HO HN HY hJk hN hB0
      cases hp : p x
      · have HP := hide hp
        have HM := hide (HNo.out hp)
        clear hp HNo HYes HYk HLt
        gi_wp2_with fail
        rw [← hX]
        refine ⟨trivial, wide_depth, (callsIn_wide.2 C1.out).mono ?_⟩
        clear hX xf c0 c1 c2 c3 c4 c5 c6 c7 c8 c9 c10 c11 c12
        rintro e w1 ⟨rfl, hb1⟩
        rw [HP.out]
        gi_wp2_with fail
        refine ⟨(fun _ h => by cases h), ?_⟩
        gi_wp2_with fail
        exact ⟨⟨k + 1, by omega, by go_num, HM.out _ (HgJ.out _ _ _ HJX.out hb1)⟩, by simp [intOf]; omega⟩
      · have HP := hide hp
        have HM := hide (HYes.out hp)
        have HR := hide (HYk.out hp)
        have HL := hide (HLt.out hp)
        clear hp HNo HYes HYk HLt
        gi_wp2_with fail
        rw [← hX]
        refine ⟨trivial, wide_depth, (callsIn_wide.2 C1.out).mono ?_⟩
        clear hX xf c0 c1 c2 c3 c4 c5 c6 c7 c8 c9 c10 c11 c12
        rintro e w1 ⟨rfl, hb1⟩
        rw [HP.out]
        have kb := blk_below HK0.out hb1
        obtain ⟨o0, o1, o2, o3, o4, o5, o6, o7, o8, o9, o10, o11, o12⟩ := w13 kb
        obtain ⟨fn, tmps, assign, body, hy, hRR⟩ := HR.out w1 (HgJ.out _ _ _ HJX.out hb1)
        clear kb
        gi_wp2_with fail
        refine ⟨wide_depth, hRR.mono ?_⟩
        rintro e W3 (⟨rfl, hJ3⟩ | ⟨rfl, hJx3⟩)
        · gi_wp2_with fail
          exact ⟨⟨k + 1, by omega, by go_num, HM.out _ hJ3⟩, by simp [intOf]; omega⟩
        · gi_wp2_with fail
          refine bodyPost_ret (results_none rfl _ _ _) rfl ?_
          exact ⟨⟨_, rfl⟩, .inr ⟨_, HL.out, hJx3⟩⟩
    · have hlt' : ¬ (k : Int) < (L.length : Int) := by omega
      have hk2 : k = L.length := by omega
      subst hk2
      gi_wp2_with fail
      go_end0
      refine ⟨⟨_, rfl⟩, .inl ?_⟩
      rw [List.take_length] at hJk
      exact hJk

end Go.Proofs.YthnodpdiocppgaaGreatDoor
namespace Go.Proofs.YthnodpdiocppgaaGreatDoor
set_option maxRecDepth 20000
open Go Go.RowKit Go.Shelf

attribute [local go_sem] Oper.semAt_some

abbrev pt (b : Nat) : Value := .pointer (some ⟨b, 0, none⟩)
/-- what the iterator over those that let it reads -/
structure LNeed (w0 : World) (A : Nat) (k : Int) (s : ByteArray) (t : RfB) (v : Value) (W : World) : Prop where
  b : Below w0.heap.size w0 W
  h0 : W.heap[A]? = some (bxK k)
  h1 : W.heap[A + 1]? = some (bxS s)
  h2 : W.heap[A + 1 + 1]? = some (bxR t)
  h3 : W.heap[A + 3]? = some (bxL v)
  h4 : W.heap[A + 3 + 1]? = some (bxF (.func (.func 65) #[] #[pt A, pt (A + 1), pt (A + 1 + 1)]))
theorem LNeed.grow {w0 : World} {A : Nat} {k : Int} {s : ByteArray} {t : RfB} {v : Value} {W W' : World} (h : LNeed w0 A k s t v W) (hb : Below W.heap.size W W') : LNeed w0 A k s t v W' :=
  ⟨h.b.trans (hb.mono h.b.size), blk_below h.h0 hb, blk_below h.h1 hb, blk_below h.h2 hb, blk_below h.h3 hb, blk_below h.h4 hb⟩
theorem LNeed.of_allocs {w0 w W : World} {k : Int} {s : ByteArray} {t : RfB} {v : Value} (hb : Below w0.heap.size w0 w)
    (hW : W = allocs (allocs w [bxK k, bxS s, bxR t]) [bxL v, bxF (.func (.func 65) #[] #[pt w.heap.size, pt (w.heap.size + 1), pt (w.heap.size + 1 + 1)])]) : LNeed w0 w.heap.size k s t v W := by
  subst hW
  have z := allocs_size [bxK k, bxS s, bxR t] w
  have B2 := allocs_below [bxL v, bxF (.func (.func 65) #[] #[pt w.heap.size, pt (w.heap.size + 1), pt (w.heap.size + 1 + 1)])] (allocs w [bxK k, bxS s, bxR t]) _ (Nat.le_refl _)
  have y := fun i o => allocs_at [bxL v, bxF (.func (.func 65) #[] #[pt w.heap.size, pt (w.heap.size + 1), pt (w.heap.size + 1 + 1)])] (allocs w [bxK k, bxS s, bxR t]) i o
  rw [z] at y
  exact ⟨(hb.trans ((allocs_below _ w _ (Nat.le_refl _)).mono hb.size)).trans (B2.mono (by rw [z]; have := hb.size; omega)), blk_below (allocs_at [bxK k, bxS s, bxR t] w 0 _ rfl) B2, blk_below (allocs_at [bxK k, bxS s, bxR t] w 1 _ rfl) B2, blk_below (allocs_at [bxK k, bxS s, bxR t] w 2 _ rfl) B2, y 0 _ rfl, y 1 _ rfl⟩
theorem LNeed.own {w0 : World} {A : Nat} {k : Int} {s : ByteArray} {t : RfB} {v : Value} {W W' : World} {row : Option Nat} (h : LNeed w0 A k s t v W) (hg : W.grownBy W' row) (hr : ∀ r, row = some r → A + 5 ≤ r) (hA : w0.heap.size ≤ A) : LNeed w0 A k s t v W' := by
  have y : ∀ i o, i < A + 5 → W.heap[i]? = some o → W'.heap[i]? = some o := fun i o hi ho => (hg.block i (lt_blk ho) (fun e => by have := hr i e.symm; omega)).trans ho
  exact ⟨h.b.grown hg h.b.size (fun r e => by have := hr r e; omega), y _ _ (by omega) h.h0, y _ _ (by omega) h.h1, y _ _ (by omega) h.h2, y _ _ (by omega) h.h3, y _ _ (by omega) h.h4⟩

theorem lets_steps (n : Nat) {a : Option Addr} {cap : Nat} {L : List OV} {w0 : World} (hL : Sl EO w0 (.slice a L.length cap) L) (ok : ∀ o ∈ L, OkO o) (A : Nat) (k : Int) (s : ByteArray) (t : RfB) :
    SeqGrows Fence.wide n Tryz.prog 51 #[pt (A + 3), pt (A + 3 + 1)] ((L.filter fun o => Gr.lets o.b k s t).map oV) (LNeed w0 A k s t (.slice a L.length cap)) :=
  those_steps n (A + 3) a cap L 65 #[pt A, pt (A + 1), pt (A + 1 + 1)] (fun o => Gr.lets o.b k s t) w0 hL (enters_of Tryz.func65 (by kernel_rfl) rfl) _
    (fun W h => ⟨h.b, h.h3, h.h4⟩) (fun W W' h hb => h.grow hb) (fun W h i hi => letting1_any L[i] k s t A (A + 1) (A + 1 + 1) W (oneO hL h.b hi).1 (ok _ (List.getElem_mem hi)) h.h0 h.h1 h.h2)

theorem permits_none {L : List OV} {k : Int} {s : ByteArray} {t : RfB} (hs : s ≠ t.space) (h : ((L.filter fun o => Gr.lets o.b k s t).map oV).length = 0) : Gr.permits (L.map OV.b) k s t = false := by
  unfold Gr.permits
  rw [decide_eq_false hs, Bool.false_or, List.any_map]
  rw [List.length_map] at h
  have := List.eq_nil_of_length_eq_zero h
  rw [List.any_eq_false]
  intro o ho hc
  have : o ∈ L.filter fun o => Gr.lets o.b k s t := List.mem_filter.2 ⟨ho, hc⟩
  simp_all
theorem permits_some {L : List OV} {k : Int} {s : ByteArray} {t : RfB} {i : Nat} (h : i < ((L.filter fun o => Gr.lets o.b k s t).map oV).length) : Gr.permits (L.map OV.b) k s t = true := by
  unfold Gr.permits
  rw [List.any_map, Bool.or_eq_true]
  right
  rw [List.length_map] at h
  have hm := List.getElem_mem h
  obtain ⟨h1, h2⟩ := List.mem_filter.1 hm
  exact List.any_eq_true.2 ⟨_, h1, h2⟩

set_option maxRecDepth 100000 in
set_option maxHeartbeats 3200000 in
theorem gpermits_any {a : Option Addr} {cap : Nat} {L : List OV} (k : Int) (s : ByteArray) (t : RfB) (w : World) (hL : Sl EO w (.slice a L.length cap) L) (ok : ∀ o ∈ L, OkO o) :
    Calls Tryz.prog 17 #[.slice a L.length cap, .int .i64 k, .string s, rfV t] w fun e w' => e = .returned (.bool (Gr.permits (L.map OV.b) k s t)) ∧ Below w.heap.size w w' := by
  obtain ⟨tk, ts, tn⟩ := t
  by_cases hs : s = ts
  · have hq : (ts.toList == s.toList) = true := by rw [hs]; simp
    have HR : Hid (Gr.permits (L.map OV.b) k s ⟨tk, ts, tn⟩ = true) := by unfold Hid Gr.permits; rw [decide_eq_true hs, Bool.true_or]
    clear hs hL ok
    go_enter Tryz.func17, Tryz.ntmps17
    go_wp2_with fail
    refine bodyPost_ret (v := .bool true) (by simp [results, Tryz.f17, go_sem]) rfl ⟨ret_bool HR.out.symm, ?_⟩
    exact ((Below.refl _ _).alloc (Nat.le_refl _) _).alloc (by simp) _
  · have hq : (ts.toList == s.toList) = false := by
      have : ¬ ts = s := fun e => hs e.symm
      simpa [tl_iff] using this
    have HN : Hid (((L.filter fun o => Gr.lets o.b k s ⟨tk, ts, tn⟩).map oV).length = 0 → Gr.permits (L.map OV.b) k s ⟨tk, ts, tn⟩ = false) := fun h => permits_none (fun e => hs e) h
    have HS : Hid (∀ i, i < ((L.filter fun o => Gr.lets o.b k s ⟨tk, ts, tn⟩).map oV).length → Gr.permits (L.map OV.b) k s ⟨tk, ts, tn⟩ = true) := fun i h => permits_some h
    have HST := hide (fun A => lets_steps 7 hL ok A k s ⟨tk, ts, tn⟩)
    have hlen := hL.len
    clear hs hL ok
    refine (callsIn_wide (n := 8)).1 ?_
    refine callsIn_of_wp_marks Tryz.func17 rfl trivial ?_ rfl
    simp only [Tryz.ntmps17, List.size_toArray, List.length_cons, List.length_nil, Nat.reduceAdd, Nat.reduceSub, Array.replicate_succ, Array.replicate_zero, List.push_toArray, List.append_toArray, List.nil_append, List.cons_append]
    gi_wp2_with fail
    refine ⟨trivial, (callsIn_wide.2 (letting_any _ _ ⟨tk, ts, tn⟩ _)).mono ?_⟩
    rintro e w1 ⟨rfl, hw1⟩
    have hsz1 : w1.heap.size = w.heap.size + 1 + 1 + 3 := by rw [hw1, allocs_size]; simp
    have HW1 := hide hw1
    clear hw1
    gi_wp2_with fail
    refine ⟨trivial, (callsIn_wide.2 (those_any _ _ ⟨_, _, rfl⟩ ⟨_, _, _, rfl⟩ _)).mono ?_⟩
    rintro e w2 ⟨rfl, hw2⟩
    have BX : Below w.heap.size w ((w.alloc (.cells #[.int .i64 tk, .string ts, .string tn] 24)).alloc (.cells #[.bool false] 4)) := ((Below.refl _ _).alloc (Nat.le_refl _) _).alloc (by simp) _
    have hb0 : Boxed ((w.alloc (.cells #[.int .i64 tk, .string ts, .string tn] 24)).alloc (.cells #[.bool false] 4)) (w.heap.size + 1) 4 (.bool false) := by
      have := Boxed.new (w.alloc (.cells #[.int .i64 tk, .string ts, .string tn] 24)) 4 (.bool false)
      rw [World.size_alloc] at this
      exact this
    have hw1 := HW1.out
    have hsz : w2.heap.size = w.heap.size + 7 := by rw [hw2, allocs_size, hsz1]; rfl
    have hN := LNeed.of_allocs (k := k) (s := s) (t := ⟨tk, ts, tn⟩) (v := .slice a L.length cap) BX (by rw [hw2, hw1]; simp only [World.size_alloc] : w2 = _)
    simp only [World.size_alloc] at hN
    have hb2 : Boxed w2 (w.heap.size + 1) 4 (.bool false) := by
      rw [hw2]
      refine blk_below (?_ : w1.heap[_]? = _) (allocs_below _ _ _ (Nat.le_refl _))
      rw [hw1]
      exact blk_below hb0 (allocs_below _ _ _ (Nat.le_refl _))
    have HW := hide (And.intro hw1 hw2)
    clear hw1 hw2 BX hb0
    gi_wp2_with fail
    refine wpIn_rangeFunc_grows rfl (by omega) (gf := 51) (lb := #[pt (w.heap.size + 1 + 1 + 3), pt (w.heap.size + 1 + 1 + 3 + 1)]) rfl trivial (enters_of Tryz.func51 (by kernel_rfl) rfl)
      (HST.out (w.heap.size + 1 + 1)) rfl
      (fun i W => LNeed w (w.heap.size + 1 + 1) k s ⟨tk, ts, tn⟩ (.slice a L.length cap) W ∧ Boxed W (w.heap.size + 1) 4 (.bool false) ∧ i = 0)
      (fun c _ W => c = .ret ∧ Boxed W (w.heap.size + 1) 4 (.bool true) ∧ Below w.heap.size w W)
      (OwnFrom.and (fun _ _ _ _ h hg hr => h.own hg (fun r e => by have := (hr r e).1; omega) (by omega)) (OwnFrom.and (Own.from (boxed_own _ _ _) _) (fun _ _ _ _ h _ _ => h)))
      (fun c => OwnFrom.and (fun _ _ _ _ h _ _ => h) (OwnFrom.and (Own.from (boxed_own _ _ _) _) (ownFrom_below (Nat.le_refl _) (by omega))))
      (GrownI.and (fun _ _ _ h hb => h.grow hb) (GrownI.and (GrownI.boxed _ _ _) (GrownI.const _)))
      (fun c => GrownI.and (GrownI.const _) (GrownI.and (GrownI.boxed _ _ _) (GrownI.below _ _ (Nat.le_refl _))))
      (fun _ _ h => h.1) ⟨hN, hb2, rfl⟩
      (fun x => { tmps := #[.slice a L.length cap, .int .i64 k, .string s, rfV ⟨tk, ts, tn⟩, undef, undef, undef, pt w.heap.size, pt (w.heap.size + 1), .pointer (some ⟨w.heap.size, 1, none⟩), .string ts, .string s, .bool false, .slice a L.length cap, .int .i64 k, .string s, .agg #[.int .i64 tk, .string ts, .string tn], .func (.func 65) #[] #[pt (w.heap.size + 1 + 1), pt (w.heap.size + 1 + 1 + 1), pt (w.heap.size + 1 + 1 + 1 + 1)], .func (.func 51) #[] #[pt (w.heap.size + 1 + 1 + 3), pt (w.heap.size + 1 + 1 + 3 + 1)], x], defers := [] }) ?assign ?body ?done ?stop
    case assign =>
      intro l x W K hK
      gi_wp2
      simp
      exact hK
    case body =>
      rintro l i W hi ⟨hN, hb, rfl⟩
      have hc := hb.cell
      have hf := hb.frozen
      have HNN := hide hN
      clear hN
      gi_wp2_with fail
      refine ⟨KeepsOthers.setCell _ _ _, rfl, hb.set _, HNN.out.b.setCell (p := ⟨w.heap.size + 1, 0, none⟩) (by show _ ≤ w.heap.size + 1; omega) _⟩
    case done =>
      rintro D W hD ⟨hN, hb, h0⟩ hK
      have HE := hide (HN.out h0)
      have HNN := hide hN
      clear hN h0
      have hc := hb.cell
      have hf := hb.frozen
      gi_wp2_with fail
      have hK' := (KeepsOthers.setCell W ⟨w.heap.size + 1, 0, none⟩ (.bool false)).same D _ hK rfl
      refine ⟨by simp, .inl ⟨_, _, rfl, run_takeDeferred hK', ?_⟩⟩
      have hc5 := cell_kept (World.cell?_setCell_same' W ⟨w.heap.size + 1, 0, none⟩ (.bool false) (by rw [hc]; rfl)) (grownBy_putObj' _ D (.deferred none)) (fun r e => by cases e; exact ⟨_, hK', rfl⟩)
      refine ⟨.bool false, ?_, ret_bool HE.out.symm, (HNN.out.b.setCell (p := ⟨w.heap.size + 1, 0, none⟩) (by show _ ≤ w.heap.size + 1; omega) _).trans (belowK_b (w := w) (Nat.le_refl _) _ D _ _ (by omega) hK' rfl rfl)⟩
      simp [results, Tryz.f17, go_sem, hc5]
    case stop =>
      rintro D c i W hD hi ⟨rfl, hb, hB⟩ hK
      have HE := hide (HS.out i hi)
      have hc := hb.cell
      gi_wp2_with fail
      refine ⟨by simp, .inl ⟨_, _, rfl, run_takeDeferred hK, ?_⟩⟩
      have hc5 := cell_kept hc (grownBy_putObj' _ D (.deferred none)) (fun r e => by cases e; exact ⟨_, hK, rfl⟩)
      refine ⟨.bool true, ?_, ret_bool HE.out.symm, hB.trans (belowK_b (w := w) (Nat.le_refl _) W D _ _ (by omega) hK rfl rfl)⟩
      simp [results, Tryz.f17, go_sem, hc5]

/-! ### By -/
theorem LNeed.set {w0 : World} {A : Nat} {k : Int} {s : ByteArray} {t : RfB} {v : Value} {W : World} (h : LNeed w0 A k s t v W) {b : Nat} (h1 : w0.heap.size ≤ b) (h2 : b < A) (u : Value) : LNeed w0 A k s t v (W.setCell ⟨b, 0, none⟩ u) := by
  have y : ∀ i o, A ≤ i → W.heap[i]? = some o → (W.setCell ⟨b, 0, none⟩ u).heap[i]? = some o := fun i o hi ho => (Below.heap_setCell W ⟨b, 0, none⟩ u i (by show i ≠ b; omega)).trans ho
  exact ⟨h.b.setCell (p := ⟨b, 0, none⟩) h1 u, y _ _ (by omega) h.h0, y _ _ (by omega) h.h1, y _ _ (by omega) h.h2, y _ _ (by omega) h.h3, y _ _ (by omega) h.h4⟩
/-- the box of the loop's variable -/
def OBox (F : List OV) (i p : Nat) (V : World) : Prop := ∃ x, F[i]? = some x ∧ V.heap[p]? = some (.cells #[.int .i64 x.ref.kind, .string x.ref.space, .string x.ref.name, .bool x.good, .slice x.al x.labels.length x.cl, .slice x.ap x.ports.length x.cp, .string x.cls, .slice x.ai x.lis.length x.ci, .slice x.aq x.pars.length x.cq, .slice x.ah x.hosts.length x.ch, .slice x.ar x.rules.length x.cr, .slice x.af x.frm.length x.cf, .slice x.ao x.tos.length x.co] 36)
theorem OBox.own (F : List OV) (B i : Nat) : OwnFrom B (OBox F i) := fun p W W' row h hg hr => by
  obtain ⟨x, hx, hb⟩ := h
  exact ⟨x, hx, (cells_own (β := Unit) (fun _ => _) (fun _ => _) (fun _ => p)) () W W' row hb hg (fun r e => (hr r e).2)⟩
end Go.Proofs.YthnodpdiocppgaaGreatDoor
namespace Go.Proofs.YthnodpdiocppgaaGreatDoor
set_option maxRecDepth 20000
open Go Go.RowKit Go.Shelf

/-- objects' rows stay where a box of another type is stored anew -/
theorem OwL.bxt {base B t : Nat} {v : Value} {L : List OV} {w w' : World} {old : Array Value} (h : OwL base v L w) (hx : BX B w.heap.size w w') (hz : w.heap[B]? = some (.cells old t)) (ht : ∀ e ∈ ownT, e ≠ t) (hO : 36 ≠ t) : OwL base v L w' :=
  ⟨hx.row hz h.row hO, fun o ho => (h.own o ho).bxt hx hz ht⟩
/-! ### awake -/
abbrev gWeb : ByteArray := ⟨#[119, 101, 98]⟩
abbrev gApp : ByteArray := ⟨#[97, 112, 112]⟩
abbrev gApi : ByteArray := ⟨#[97, 112, 105]⟩
abbrev gDb : ByteArray := ⟨#[100, 98]⟩
abbrev gOps : ByteArray := ⟨#[111, 112, 115]⟩
theorem service_any (s n : ByteArray) (w : World) : Calls Tryz.prog 39 #[.string s, .string n] w fun e w' => e = .returned (.agg #[.int .i64 3, .string s, .string n]) ∧ Below w.heap.size w w' := by
  go_enter Tryz.func39, Tryz.ntmps39
  go_wp2_with fail
  refine bodyPost_ret (v := .agg #[.int .i64 3, .string s, .string n]) (by simp [results, Tryz.f39, go_sem]) rfl ⟨rfl, ?_⟩
  exact (Below.refl _ _).alloc (Nat.le_refl _) _
/-- the grant of the chapter's examples -/
abbrev exG (b c : Nat) : OV := ⟨⟨7, gApp, ⟨#[103]⟩⟩, false, [], none, 0, [], none, 0, ⟨#[]⟩, [], none, 0, [], none, 0, [], none, 0, [], none, 0, [⟨6, gWeb, ⟨#[]⟩⟩], some ⟨b, 0, none⟩, 1, [⟨3, ⟨#[]⟩, gApi⟩], some ⟨c, 0, none⟩, 1⟩
theorem exG_ok (b c : Nat) : OkO (exG b c) := ⟨⟨Nat.le_of_ble_eq_true rfl, Nat.le_of_ble_eq_true rfl⟩, fun p hp => absurd hp (by simp), Nat.le_of_ble_eq_true rfl, fun p hp => absurd hp (by simp), fun p hp => absurd hp (by simp), fun p hp => absurd hp (by simp), fun p hp => absurd hp (by simp), fun r hr => by obtain rfl := List.mem_singleton.1 hr; exact ⟨by decide, by decide⟩, fun r hr => by obtain rfl := List.mem_singleton.1 hr; exact ⟨by decide, by decide⟩⟩
theorem ex_1 (b c : Nat) : Gr.permits [(exG b c).b] 6 gWeb ⟨3, gApp, gApi⟩ = true := by kernel_rfl
theorem ex_2 (b c : Nat) : Gr.permits [(exG b c).b] 6 gWeb ⟨3, gApp, gDb⟩ = false := by kernel_rfl
theorem ex_3 (b c : Nat) : Gr.permits [(exG b c).b] 6 gOps ⟨3, gApp, gApi⟩ = false := by kernel_rfl

set_option maxHeartbeats 3200000 in
theorem gawake_any (w : World) : Calls Tryz.prog 22 #[] w fun e w' => e = .returned (.bool true) ∧ Below w.heap.size w w' := by
  obtain ⟨X, hX⟩ : ∃ z, z = ((w.alloc (.cells #[.int .i64 6, .string gWeb, .string ⟨#[]⟩] 53)).alloc (.cells #[.int .i64 3, .string ⟨#[]⟩, .string gApi] 53)).alloc (.cells #[.int .i64 7, .string gApp, .string ⟨#[103]⟩, .bool false, .slice none 0 0, .slice none 0 0, .string ⟨#[]⟩, .slice none 0 0, .slice none 0 0, .slice none 0 0, .slice none 0 0, .slice (some ⟨w.heap.size, 0, none⟩) 1 1, .slice (some ⟨w.heap.size + 1, 0, none⟩) 1 1] 36) := ⟨_, rfl⟩
  have B1 : Below w.heap.size w X := by rw [hX]; exact allocs_below [(.cells #[.int .i64 6, .string gWeb, .string ⟨#[]⟩] 53), (.cells #[.int .i64 3, .string ⟨#[]⟩, .string gApi] 53), (.cells #[.int .i64 7, .string gApp, .string ⟨#[103]⟩, .bool false, .slice none 0 0, .slice none 0 0, .string ⟨#[]⟩, .slice none 0 0, .slice none 0 0, .slice none 0 0, .slice none 0 0, .slice (some ⟨w.heap.size, 0, none⟩) 1 1, .slice (some ⟨w.heap.size + 1, 0, none⟩) 1 1] 36)] w _ (Nat.le_refl _)
  have K0 : X.heap[w.heap.size]? = some (.cells #[.int .i64 6, .string gWeb, .string ⟨#[]⟩] 53) := by rw [hX]; exact allocs_at [(.cells #[.int .i64 6, .string gWeb, .string ⟨#[]⟩] 53), (.cells #[.int .i64 3, .string ⟨#[]⟩, .string gApi] 53), (.cells #[.int .i64 7, .string gApp, .string ⟨#[103]⟩, .bool false, .slice none 0 0, .slice none 0 0, .string ⟨#[]⟩, .slice none 0 0, .slice none 0 0, .slice none 0 0, .slice none 0 0, .slice (some ⟨w.heap.size, 0, none⟩) 1 1, .slice (some ⟨w.heap.size + 1, 0, none⟩) 1 1] 36)] w 0 _ rfl
  have K1 : X.heap[w.heap.size + 1]? = some (.cells #[.int .i64 3, .string ⟨#[]⟩, .string gApi] 53) := by rw [hX]; exact allocs_at [(.cells #[.int .i64 6, .string gWeb, .string ⟨#[]⟩] 53), (.cells #[.int .i64 3, .string ⟨#[]⟩, .string gApi] 53), (.cells #[.int .i64 7, .string gApp, .string ⟨#[103]⟩, .bool false, .slice none 0 0, .slice none 0 0, .string ⟨#[]⟩, .slice none 0 0, .slice none 0 0, .slice none 0 0, .slice none 0 0, .slice (some ⟨w.heap.size, 0, none⟩) 1 1, .slice (some ⟨w.heap.size + 1, 0, none⟩) 1 1] 36)] w 1 _ rfl
  have K2 : X.heap[w.heap.size + 1 + 1]? = some (.cells #[.int .i64 7, .string gApp, .string ⟨#[103]⟩, .bool false, .slice none 0 0, .slice none 0 0, .string ⟨#[]⟩, .slice none 0 0, .slice none 0 0, .slice none 0 0, .slice none 0 0, .slice (some ⟨w.heap.size, 0, none⟩) 1 1, .slice (some ⟨w.heap.size + 1, 0, none⟩) 1 1] 36) := by rw [hX]; exact allocs_at [(.cells #[.int .i64 6, .string gWeb, .string ⟨#[]⟩] 53), (.cells #[.int .i64 3, .string ⟨#[]⟩, .string gApi] 53), (.cells #[.int .i64 7, .string gApp, .string ⟨#[103]⟩, .bool false, .slice none 0 0, .slice none 0 0, .string ⟨#[]⟩, .slice none 0 0, .slice none 0 0, .slice none 0 0, .slice none 0 0, .slice (some ⟨w.heap.size, 0, none⟩) 1 1, .slice (some ⟨w.heap.size + 1, 0, none⟩) 1 1] 36)] w 2 _ rfl
  have HA : (exG w.heap.size (w.heap.size + 1)).at_ X := ⟨Prs.nil X, Sl.nil X, Sl.nil X, Sl.nil X, Sl.nil X, Sl.nil X, Sl.at_block (E := ER) (x := ⟨6, gWeb, ⟨#[]⟩⟩) K0 trivial, Sl.at_block (E := ER) (x := ⟨3, ⟨#[]⟩, gApi⟩) K1 trivial⟩
  have HS : Sl EO X (.slice (some ⟨w.heap.size + 1 + 1, 0, none⟩) 1 1) [exG w.heap.size (w.heap.size + 1)] := Sl.at_block (E := EO) K2 HA
  have CS := fun s n W => hide (service_any s n W)
  have CP := fun W (h : Below X.heap.size X W) s t => hide (gpermits_any 6 s t W (L := [exG w.heap.size (w.heap.size + 1)]) (hL := HS.below h) (fun o ho => by obtain rfl := List.mem_singleton.1 ho; exact exG_ok _ _))
  have HB1 := hide B1
  have e1 := hide (ex_1 w.heap.size (w.heap.size + 1))
  have e2 := hide (ex_2 w.heap.size (w.heap.size + 1))
  have e3 := hide (ex_3 w.heap.size (w.heap.size + 1))
  clear B1 K0 K1 K2 HA HS
  go_enter Tryz.func22, Tryz.ntmps22
  go_wp2_with fail
  rw [← hX]
  clear hX
  refine (calls_gb0 ((CS _ _ _).out)).mono ?_
  rintro e x ⟨rfl, q, rfl⟩
  go_wp2_with fail
  refine (calls_gb ((CP _ q.h gWeb ⟨3, gApp, gApi⟩).out)).mono ?_
  rintro e x ⟨rfl, q, rfl⟩
  rw [show Gr.permits (List.map OV.b [exG w.heap.size (w.heap.size + 1)]) 6 gWeb ⟨3, gApp, gApi⟩ = true from e1.out]
  go_wp2_with fail
  refine (calls_gb ((CS _ _ _).out)).mono ?_
  rintro e x ⟨rfl, q, rfl⟩
  go_wp2_with fail
  refine (calls_gb ((CP _ q.h gWeb ⟨3, gApp, gDb⟩).out)).mono ?_
  rintro e x ⟨rfl, q, rfl⟩
  rw [show Gr.permits (List.map OV.b [exG w.heap.size (w.heap.size + 1)]) 6 gWeb ⟨3, gApp, gDb⟩ = false from e2.out]
  go_wp2_with fail
  refine (calls_gb ((CS _ _ _).out)).mono ?_
  rintro e x ⟨rfl, q, rfl⟩
  go_wp2_with fail
  refine (calls_gb ((CP _ q.h gOps ⟨3, gApp, gApi⟩).out)).mono ?_
  rintro e x ⟨rfl, q, rfl⟩
  rw [show Gr.permits (List.map OV.b [exG w.heap.size (w.heap.size + 1)]) 6 gOps ⟨3, gApp, gApi⟩ = false from e3.out]
  go_wp2_with fail
  go_ret
  exact ⟨rfl, bb2 HB1.out q.h⟩

end Go.Proofs.YthnodpdiocppgaaGreatDoor
