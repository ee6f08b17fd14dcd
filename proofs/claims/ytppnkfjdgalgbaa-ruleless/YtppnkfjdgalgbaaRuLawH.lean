/-
  The law RuleLess.
-/
import Derived.Test.YtppnkfjdgalgbaaRuArg
import Derived.Test.YtppnkfjdgalgbaaRuLawB
namespace Go.Proofs.Ytppnkfjdgalgbaa
open Go Go.RowKit Go.Shelf Go.Deep

attribute [local go_sem] gb_const

theorem row_setc {W : World} {b0 e0 s n g i : Nat} {u x : Value} {xs : List Value} (h : W.ownsRow b0 e0 s u n xs) (hg : g < b0) : (W.setCell ⟨g, i, none⟩ x).ownsRow b0 e0 s u n xs := by
  obtain ⟨h1, h2⟩ := h
  refine ⟨h1, ?_⟩
  rcases h2 with h2 | ⟨g', cap, cur, hv, hb, hh, r⟩
  · exact .inl h2
  · refine .inr ⟨g', cap, cur, hv, hb, ?_, r⟩
    rw [set_far (by omega)]
    exact hh
theorem setc3 {W : World} {n : Nat} {a b c d e x : Value} {t : Nat} (h : W.heap[n]? = some (.cells #[a, b, c, d, e] t)) : (W.setCell ⟨n, 3, none⟩ x).heap[n]? = some (.cells #[a, b, c, x, e] t) := by
  simp [World.setCell, Array.getElem?_modify, h]
theorem setc4 {W : World} {n : Nat} {a b c d e x : Value} {t : Nat} (h : W.heap[n]? = some (.cells #[a, b, c, d, e] t)) : (W.setCell ⟨n, 4, none⟩ x).heap[n]? = some (.cells #[a, b, c, d, x] t) := by
  simp [World.setCell, Array.getElem?_modify, h]
/-- the last ones of a list -/
theorem Prs.suf {w : World} {g off n cap : Nat} {l : List PairB} (h : Prs w (.slice (some ⟨g, off, none⟩) n cap) l) {k : Nat} (hk : k ≤ l.length) : Prs w (.slice (if cap = k then some ⟨g, off, none⟩ else some ⟨g, off + k * 2, none⟩) (l.length - k) (cap - k)) (l.drop k) := by
  have h0 := h
  obtain ⟨a, cap', hv, h1, h2, _⟩ := h
  injection hv with e1 e2 e3
  subst e2 e3
  by_cases hc : cap = k
  · have hl : l.drop k = [] := List.drop_eq_nil_of_le (by omega)
    rw [if_pos hc, hl]
    exact ⟨_, cap - k, by rw [show l.length - k = 0 by omega]; rfl, by simp, by omega, fun i hi => absurd hi (by simp)⟩
  · rw [if_neg hc]
    have := h0.sub k (l.length - k) (cap - k) (by omega) (by omega) (by omega)
    rwa [List.take_of_length_le (by simp)] at this
theorem ok_noMeth {m : MB} (h : OkM m) : OkM (noMeth m) := ⟨h.val, by show (⟨#[]⟩ : ByteArray).size ≤ 100; decide, h.hlen, h.qlen, h.head, h.query⟩
theorem ok_noHead {m : MB} (h : OkM m) (k : Nat) : OkM (noHead m k) := ⟨h.val, h.meth, Nat.le_trans (cut_len _ _) h.hlen, h.qlen, fun p hp => h.head p (cut_mem hp), h.query⟩
theorem ok_noQuery {m : MB} (h : OkM m) (k : Nat) : OkM (noQuery m k) := ⟨h.val, h.meth, h.hlen, Nat.le_trans (cut_len _ _) h.qlen, h.head, fun p hp => h.query p (cut_mem hp)⟩

theorem owns_emptyPN (w : World) (n : Nat) (h : w.heap.size = n) : (w.alloc (.cells #[] 53)).ownsRow n 53 2 (.slice (some ⟨n, 0, none⟩) 0 0) 0 [] := by
  subst h
  exact owns_emptyP w

set_option maxHeartbeats 3200000 in
theorem less_law (v0 v1 : Value) (n2 : Int) (w : World) (h0 : ArgM w v0) (h1 : ArgR w v1) (h2 : (Lit.int .u8 n2).wf = true) :
    Calls Try.prog 7 #[v0, v1, .int .u8 n2] w fun e w' => e = .returned (.bool true) ∧ Below w.heap.size w w' := by
  obtain ⟨c, rfl⟩ := u8_lit h2
  clear h2
  have hc255 : c.toNat < 256 := c.toNat_lt
  obtain ⟨y0, rfl, hat0, raw0⟩ := h0
  obtain ⟨y1, rfl, hat1, raw1⟩ := h1
  have C0 := fun W (h : Below w.heap.size w W) => hide (mfew_any y0.m y0.vh y0.vq W raw0 (hat0.below h).1 (hat0.below h).2)
  have C1 := fun W (h : Below w.heap.size w W) => hide (asked_any y1.r y1.vq y1.vh W raw1 (hat1.below h).1 (hat1.below h).2)
  clear hat0 raw0 hat1 raw1
  obtain ⟨base, hbase⟩ : ∃ z, z = ((w.alloc (.cells #[.int .i64 y0.m.kind, .string y0.m.val, .string y0.m.meth, y0.vh, y0.vq] 26)).alloc (.cells #[.string y1.r.meth, .string y1.r.host, .string y1.r.path, y1.vq, y1.vh] 28)) := ⟨_, rfl⟩
  have HB : ∀ W, Below base.heap.size base W → W.heap[w.heap.size]? = some (.cells #[.int .i64 y0.m.kind, .string y0.m.val, .string y0.m.meth, y0.vh, y0.vq] 26) ∧ W.heap[w.heap.size + 1]? = some (.cells #[.string y1.r.meth, .string y1.r.host, .string y1.r.path, y1.vq, y1.vh] 28) := fun W h => blocks2 (by rw [← hbase]; exact h)
  have B0 : Below w.heap.size w base := by rw [hbase]; exact below2 w
  have hbs : Hid (base.heap.size = w.heap.size + 2) := by unfold Hid; rw [hbase]; simp
  have m00 := fun W h => (cell5 (HB W h).1).1
  have m01 := fun W h => (cell5 (HB W h).1).2.1
  have m02 := fun W h => (cell5 (HB W h).1).2.2.1
  have m03 := fun W h => (cell5 (HB W h).1).2.2.2.1
  have m04 := fun W h => (cell5 (HB W h).1).2.2.2.2
  have m10 := fun W h => (cell5 (HB W h).2).1
  have m11 := fun W h => (cell5 (HB W h).2).2.1
  have m12 := fun W h => (cell5 (HB W h).2).2.2.1
  have m13 := fun W h => (cell5 (HB W h).2).2.2.2.1
  have m14 := fun W h => (cell5 (HB W h).2).2.2.2.2
  have HBH := hide HB
  clear HB
  go_enter Try.func7, Try.ntmps7
  go_wp2_with fail
  rw [← hbase]
  clear hbase
  refine wp_region_G 4 (fun w' => Below base.heap.size base w') (by kernel_rfl) ((Below.refl _ _).drew) ?_
  refine wpG_take (i := 0) 5 (v := mV y0.m y0.vh y0.vq) rfl (by kernel_rfl) (by kernel_rfl) (by kernel_rfl) (by decide) (by kernel_rfl) (by kernel_rfl) (fun _ _ _ h => h) (Or.inl ⟨by rfl, fun w1 hS => ?_⟩) ?_
  · (try dsimp only at hS)
    go_simp
  simp only [Act.put, List.setIfInBounds_toArray, List.set_cons_zero, List.set_cons_succ]
  refine wpG_take (i := 2) 5 (v := rV y1.r y1.vq y1.vh) rfl (by kernel_rfl) (by kernel_rfl) (by kernel_rfl) (by decide) (by kernel_rfl) (by kernel_rfl) (fun _ _ _ h => h) (Or.inl ⟨by rfl, fun w1 hS => ?_⟩) ?_
  · (try dsimp only at hS)
    go_simp
  simp only [Act.put, List.setIfInBounds_toArray, List.set_cons_zero, List.set_cons_succ]
  clear m00 m01 m02 m03 m04 m10 m11 m12 m13 m14
  refine wpG_ready (rs := [1]) (by kernel_rfl) (by simp) (fun W1 hG1 hS1 i hi => ?_)
  obtain rfl : i = 1 := by simpa using hi
  clear hi
  refine wpOp_step rfl (by rfl) (fun K' hK' => ?_)
  replace hK' := hide hK'
  go_simp
  refine (C0 _ (B0.trans (hS1.mono B0.size))).out.mono ?_
  rintro e z0 ⟨x0, rfl, hx0, own0, hb0⟩
  have ok0 : OkM x0.m := by rw [hx0]; exact fewM_ok _
  clear hx0
  have BK0 := hS1.trans (hb0.mono hS1.size)
  go_wp2_with fail
  refine hK'.out _ _ (wpG_kept (by decide) BK0 ?_)
  clear hK' K' hG1 hb0 BK0
  clear hS1
  refine wpG_ready (rs := [3]) (by kernel_rfl) (by simp) (fun W3 hG3 hS3 i hi => ?_)
  obtain rfl : i = 3 := by simpa using hi
  clear hi
  refine wpOp_step rfl (by rfl) (fun K' hK' => ?_)
  replace hK' := hide hK'
  go_simp
  refine (C1 _ (B0.trans (hS3.mono B0.size))).out.mono ?_
  rintro e z1 ⟨x1, rfl, hx1, own1, hb1⟩
  have ok1 : OkR x1.r := by rw [hx1]; exact fewR_ok _
  clear hx1
  replace own0 := (own0.below hG3).below hb1
  have BK1 := hS3.trans (hb1.mono hS3.size)
  go_wp2_with fail
  refine hK'.out _ _ (wpG_kept (by decide) BK1 ?_)
  clear hK' K' hG3 hb1 BK1
  clear hS3
  refine wpG_ready (rs := [4]) (by kernel_rfl) (by simp) (fun W hG hS i hi => ?_)
  obtain rfl : i = 4 := by simpa using hi
  clear hi
  have k0 := (HBH.out W hS).1
  have k1 := (HBH.out W hS).2
  replace own0 := own0.below hG
  replace own1 := own1.below hG
  have BZ := B0.trans (hS.mono B0.size)
  clear hG hS HBH C0 C1
  obtain ⟨f0, f1, f2, f3, f4⟩ := cell5 k0
  have lv := live5 k0
  refine wpOp_step rfl (by rfl) (fun K' hK' => ?_)
  go_simp
  refine hK' _ _ (wpG_past (by decide) ?_)
  clear hK' K'
  clear f0 f1 f2 f3 f4 lv
  replace own0 := own0.set5 (a := .int .i64 x0.m.kind) (b := .string x0.m.val) (c := .string x0.m.meth) (d := x0.vh) (e := x0.vq) k0 (by decide)
  replace own1 := own1.set5 (a := .int .i64 x0.m.kind) (b := .string x0.m.val) (c := .string x0.m.meth) (d := x0.vh) (e := x0.vq) k0 (by decide)
  replace BZ := set5_below (n := w.heap.size) (a := .int .i64 x0.m.kind) (b := .string x0.m.val) (c := .string x0.m.meth) (d := x0.vh) (e := x0.vq) BZ (by omega)
  replace k1 := (set5_far (n := w.heap.size) (a := .int .i64 x0.m.kind) (b := .string x0.m.val) (c := .string x0.m.meth) (d := x0.vh) (e := x0.vq) (by omega)).trans k1
  replace k0 := set5_at (a' := .int .i64 x0.m.kind) (b' := .string x0.m.val) (c' := .string x0.m.meth) (d' := x0.vh) (e' := x0.vq) k0
  change wpAny _ _ _ _ _ _ _ (set5 W (w.heap.size) (.int .i64 x0.m.kind) (.string x0.m.val) (.string x0.m.meth) x0.vh x0.vq)
  generalize set5 W (w.heap.size) (.int .i64 x0.m.kind) (.string x0.m.val) (.string x0.m.meth) x0.vh x0.vq = Z0 at *
  refine wpAny_one (i := 5) (by kernel_rfl) ?_
  obtain ⟨f0, f1, f2, f3, f4⟩ := cell5 k1
  have lv := live5 k1
  refine wpOp_step rfl (by rfl) (fun K' hK' => ?_)
  go_simp
  refine hK' _ _ ?_
  clear hK' K'
  clear f0 f1 f2 f3 f4 lv
  replace own0 := own0.set5 (a := .string x1.r.meth) (b := .string x1.r.host) (c := .string x1.r.path) (d := x1.vq) (e := x1.vh) k1 (by decide)
  replace own1 := own1.set5 (a := .string x1.r.meth) (b := .string x1.r.host) (c := .string x1.r.path) (d := x1.vq) (e := x1.vh) k1 (by decide)
  replace BZ := set5_below (n := w.heap.size + 1) (a := .string x1.r.meth) (b := .string x1.r.host) (c := .string x1.r.path) (d := x1.vq) (e := x1.vh) BZ (by omega)
  replace k0 := (set5_far (n := w.heap.size + 1) (a := .string x1.r.meth) (b := .string x1.r.host) (c := .string x1.r.path) (d := x1.vq) (e := x1.vh) (by omega)).trans k0
  replace k1 := set5_at (a' := .string x1.r.meth) (b' := .string x1.r.host) (c' := .string x1.r.path) (d' := x1.vq) (e' := x1.vh) k1
  change wpAny _ _ _ _ _ _ _ (set5 Z0 (w.heap.size + 1) (.string x1.r.meth) (.string x1.r.host) (.string x1.r.path) x1.vq x1.vh)
  generalize set5 Z0 (w.heap.size + 1) (.string x1.r.meth) (.string x1.r.host) (.string x1.r.path) x1.vq x1.vh = Z1 at *
  refine wpAny_end (by kernel_rfl) ?_
  have at0 := own0.at_
  clear own0
  have at1 := own1.at_
  clear own1
  have b0 := fun q : GB Z1 => (cell5 ((q.h.block _ (blk_lt5 k0)).trans k0)).1
  have b1 := fun q : GB Z1 => (cell5 ((q.h.block _ (blk_lt5 k0)).trans k0)).2.1
  have b2 := fun q : GB Z1 => (cell5 ((q.h.block _ (blk_lt5 k0)).trans k0)).2.2.1
  have b3 := fun q : GB Z1 => (cell5 ((q.h.block _ (blk_lt5 k0)).trans k0)).2.2.2.1
  have b4 := fun q : GB Z1 => (cell5 ((q.h.block _ (blk_lt5 k0)).trans k0)).2.2.2.2
  have c0 := fun q : GB Z1 => (cell5 ((q.h.block _ (blk_lt5 k1)).trans k1)).1
  have c1 := fun q : GB Z1 => (cell5 ((q.h.block _ (blk_lt5 k1)).trans k1)).2.1
  have c2 := fun q : GB Z1 => (cell5 ((q.h.block _ (blk_lt5 k1)).trans k1)).2.2.1
  have c3 := fun q : GB Z1 => (cell5 ((q.h.block _ (blk_lt5 k1)).trans k1)).2.2.2.1
  have c4 := fun q : GB Z1 => (cell5 ((q.h.block _ (blk_lt5 k1)).trans k1)).2.2.2.2
  obtain ⟨⟨kk, vv, tt, hd, qu⟩, ah, ch, aq, cq⟩ := x0
  have ph : Prs Z1 (.slice ah hd.length ch) hd := at0.1
  have pq : Prs Z1 (.slice aq qu.length cq) qu := at0.2
  clear at0
  dsimp only [MV.vh, MV.vq] at *
  have E1 := fun q : GB Z1 => hide (may_m (⟨kk, vv, tt, hd, qu⟩ : MB) (.slice ah hd.length ch) (.slice aq qu.length cq) q.W (ph.below q.h) (pq.below q.h) ok0)
  obtain ⟨q, hq⟩ : ∃ q : GB Z1, q.W = Z1 := ⟨⟨Z1, Below.refl _ _⟩, rfl⟩
  rw [← hq]
  clear hq
  cases hmy : mayM (⟨kk, vv, tt, hd, qu⟩ : MB)
  · have E2 := fun q : GB Z1 => hide (holds_m (⟨kk, vv, tt, hd, qu⟩ : MB) (.slice ah hd.length ch) (.slice aq qu.length cq) x1.r x1.vq x1.vh q.W (ph.below q.h) (pq.below q.h) ok0 (at1.below q.h).1 (at1.below q.h).2 ok1)
    rw [holdM_not hmy] at E2
    rw [hmy] at E1
    clear hmy k0 k1
    go_wp2_with fail
    refine (calls_gb ((E1 _).out)).mono ?_
    rintro e x ⟨rfl, q, rfl⟩
    go_wp2_with fail
    refine (calls_gb ((E2 _).out)).mono ?_
    rintro e x ⟨rfl, q, rfl⟩
    go_wp2_with fail
    refine (calls_gb (ruawake_any _)).mono ?_
    rintro e x ⟨rfl, q, rfl⟩
    go_wp2_with fail
    go_ret
    exact ⟨rfl, bb2 BZ q.h⟩
  rw [hmy] at E1
  have HMY := hide hmy
  clear hmy
  by_cases h30 : c.toNat % 3 = 0
  · have t0 : ((c.toNat : Int) % 3 == 0) = true := by rw [beq_iff_eq]; omega
    clear h30
    go_wp2_with fail
    refine (calls_gb (E1 _).out).mono ?_
    rintro e x ⟨rfl, q, rfl⟩
    clear E1
    obtain ⟨WQ, hWQ⟩ : ∃ z, z = q.W := ⟨_, rfl⟩
    have BQ := q.h
    rw [← hWQ] at BQ ⊢
    clear hWQ q
    have BA : Below Z1.heap.size Z1 (WQ.alloc (.cells #[.int .i64 kk, .string vv, .string tt, .slice ah hd.length ch, .slice aq qu.length cq] 26)) := BQ.alloc BQ.size _
    have f3 := b3 ⟨(WQ.alloc (.cells #[.int .i64 kk, .string vv, .string tt, .slice ah hd.length ch, .slice aq qu.length cq] 26)), BA⟩
    have f4 := b4 ⟨(WQ.alloc (.cells #[.int .i64 kk, .string vv, .string tt, .slice ah hd.length ch, .slice aq qu.length cq] 26)), BA⟩
    have g0 := b0 ⟨WQ, BQ⟩
    have g1 := b1 ⟨WQ, BQ⟩
    have g2 := b2 ⟨WQ, BQ⟩
    have g3 := b3 ⟨WQ, BQ⟩
    have g4 := b4 ⟨WQ, BQ⟩
    dsimp only at f3 f4 g0 g1 g2 g3 g4
    go_wp2_with fail
    have BL : Below Z1.heap.size Z1 (WQ.alloc (.cells #[.int .i64 kk, .string vv, .string ⟨#[]⟩, .slice ah hd.length ch, .slice aq qu.length cq] 26)) := BQ.alloc BQ.size _
    have l0 := fun q : GB (WQ.alloc (.cells #[.int .i64 kk, .string vv, .string ⟨#[]⟩, .slice ah hd.length ch, .slice aq qu.length cq] 26)) => (box5 q.h).1
    have l1 := fun q : GB (WQ.alloc (.cells #[.int .i64 kk, .string vv, .string ⟨#[]⟩, .slice ah hd.length ch, .slice aq qu.length cq] 26)) => (box5 q.h).2.1
    have l2 := fun q : GB (WQ.alloc (.cells #[.int .i64 kk, .string vv, .string ⟨#[]⟩, .slice ah hd.length ch, .slice aq qu.length cq] 26)) => (box5 q.h).2.2.1
    have l3 := fun q : GB (WQ.alloc (.cells #[.int .i64 kk, .string vv, .string ⟨#[]⟩, .slice ah hd.length ch, .slice aq qu.length cq] 26)) => (box5 q.h).2.2.2.1
    have l4 := fun q : GB (WQ.alloc (.cells #[.int .i64 kk, .string vv, .string ⟨#[]⟩, .slice ah hd.length ch, .slice aq qu.length cq] 26)) => (box5 q.h).2.2.2.2
    have P0 := fun q : GB (WQ.alloc (.cells #[.int .i64 kk, .string vv, .string ⟨#[]⟩, .slice ah hd.length ch, .slice aq qu.length cq] 26)) => b0 ⟨q.W, bb2 BL q.h⟩
    have R0 := fun q : GB (WQ.alloc (.cells #[.int .i64 kk, .string vv, .string ⟨#[]⟩, .slice ah hd.length ch, .slice aq qu.length cq] 26)) => c0 ⟨q.W, bb2 BL q.h⟩
    have P1 := fun q : GB (WQ.alloc (.cells #[.int .i64 kk, .string vv, .string ⟨#[]⟩, .slice ah hd.length ch, .slice aq qu.length cq] 26)) => b1 ⟨q.W, bb2 BL q.h⟩
    have R1 := fun q : GB (WQ.alloc (.cells #[.int .i64 kk, .string vv, .string ⟨#[]⟩, .slice ah hd.length ch, .slice aq qu.length cq] 26)) => c1 ⟨q.W, bb2 BL q.h⟩
    have P2 := fun q : GB (WQ.alloc (.cells #[.int .i64 kk, .string vv, .string ⟨#[]⟩, .slice ah hd.length ch, .slice aq qu.length cq] 26)) => b2 ⟨q.W, bb2 BL q.h⟩
    have R2 := fun q : GB (WQ.alloc (.cells #[.int .i64 kk, .string vv, .string ⟨#[]⟩, .slice ah hd.length ch, .slice aq qu.length cq] 26)) => c2 ⟨q.W, bb2 BL q.h⟩
    have P3 := fun q : GB (WQ.alloc (.cells #[.int .i64 kk, .string vv, .string ⟨#[]⟩, .slice ah hd.length ch, .slice aq qu.length cq] 26)) => b3 ⟨q.W, bb2 BL q.h⟩
    have R3 := fun q : GB (WQ.alloc (.cells #[.int .i64 kk, .string vv, .string ⟨#[]⟩, .slice ah hd.length ch, .slice aq qu.length cq] 26)) => c3 ⟨q.W, bb2 BL q.h⟩
    have P4 := fun q : GB (WQ.alloc (.cells #[.int .i64 kk, .string vv, .string ⟨#[]⟩, .slice ah hd.length ch, .slice aq qu.length cq] 26)) => b4 ⟨q.W, bb2 BL q.h⟩
    have R4 := fun q : GB (WQ.alloc (.cells #[.int .i64 kk, .string vv, .string ⟨#[]⟩, .slice ah hd.length ch, .slice aq qu.length cq] 26)) => c4 ⟨q.W, bb2 BL q.h⟩
    dsimp only at P0 P1 P2 P3 P4 R0 R1 R2 R3 R4
    clear f3 f4 g0 g1 g2 g3 g4 b0 b1 b2 b3 b4 c0 c1 c2 c3 c4
    have ATL := (⟨ph.below BL, pq.below BL⟩ : Prs (WQ.alloc (.cells #[.int .i64 kk, .string vv, .string ⟨#[]⟩, .slice ah hd.length ch, .slice aq qu.length cq] 26)) (.slice ah hd.length ch) hd ∧ Prs (WQ.alloc (.cells #[.int .i64 kk, .string vv, .string ⟨#[]⟩, .slice ah hd.length ch, .slice aq qu.length cq] 26)) (.slice aq qu.length cq) qu)
    have OKL : OkM (noMeth (⟨kk, vv, tt, hd, qu⟩ : MB)) := ok_noMeth ok0
    have EM : Hid (Calls Try.prog 13 #[.agg #[.int .i64 kk, .string vv, .string ⟨#[]⟩, .slice ah hd.length ch, .slice aq qu.length cq]] (WQ.alloc (.cells #[.int .i64 kk, .string vv, .string ⟨#[]⟩, .slice ah hd.length ch, .slice aq qu.length cq] 26)) fun e w' => e = .returned (.bool true) ∧ Below ((WQ.alloc (.cells #[.int .i64 kk, .string vv, .string ⟨#[]⟩, .slice ah hd.length ch, .slice aq qu.length cq] 26))).heap.size (WQ.alloc (.cells #[.int .i64 kk, .string vv, .string ⟨#[]⟩, .slice ah hd.length ch, .slice aq qu.length cq] 26)) w') := by
      have := may_m (noMeth (⟨kk, vv, tt, hd, qu⟩ : MB)) (.slice ah hd.length ch) (.slice aq qu.length cq) (WQ.alloc (.cells #[.int .i64 kk, .string vv, .string ⟨#[]⟩, .slice ah hd.length ch, .slice aq qu.length cq] 26)) ATL.1 ATL.2 OKL
      rw [may_noMeth HMY.out] at this
      exact this
    have EH := fun q : GB (WQ.alloc (.cells #[.int .i64 kk, .string vv, .string ⟨#[]⟩, .slice ah hd.length ch, .slice aq qu.length cq] 26)) => hide (holds_m (⟨kk, vv, tt, hd, qu⟩ : MB) (.slice ah hd.length ch) (.slice aq qu.length cq) x1.r x1.vq x1.vh q.W (ph.below (bb2 BL q.h)) (pq.below (bb2 BL q.h)) ok0 (at1.below (bb2 BL q.h)).1 (at1.below (bb2 BL q.h)).2 ok1)
    have EL : ∀ q : GB (WQ.alloc (.cells #[.int .i64 kk, .string vv, .string ⟨#[]⟩, .slice ah hd.length ch, .slice aq qu.length cq] 26)), Hid (Calls Try.prog 15 #[.agg #[.int .i64 kk, .string vv, .string ⟨#[]⟩, .slice ah hd.length ch, .slice aq qu.length cq], rV x1.r x1.vq x1.vh] q.W fun e w' => e = .returned (.bool (holdM (noMeth (⟨kk, vv, tt, hd, qu⟩ : MB)) x1.r)) ∧ Below q.W.heap.size q.W w') := fun q => holds_m (noMeth (⟨kk, vv, tt, hd, qu⟩ : MB)) (.slice ah hd.length ch) (.slice aq qu.length cq) x1.r x1.vq x1.vh q.W (ATL.1.below q.h) (ATL.2.below q.h) OKL (at1.below (bb2 BL q.h)).1 (at1.below (bb2 BL q.h)).2 ok1
    have EO : ∀ q : GB (WQ.alloc (.cells #[.int .i64 kk, .string vv, .string ⟨#[]⟩, .slice ah hd.length ch, .slice aq qu.length cq] 26)), Hid (Calls Try.prog 23 #[.agg #[.int .i64 kk, .string vv, .string ⟨#[]⟩, .slice ah hd.length ch, .slice aq qu.length cq], mV (⟨kk, vv, tt, hd, qu⟩ : MB) (.slice ah hd.length ch) (.slice aq qu.length cq)] q.W fun e w' => e = .returned (.int .i64 (ordM (noMeth (⟨kk, vv, tt, hd, qu⟩ : MB)) (⟨kk, vv, tt, hd, qu⟩ : MB))) ∧ Below q.W.heap.size q.W w') := fun q => rorder_m (noMeth (⟨kk, vv, tt, hd, qu⟩ : MB)) (⟨kk, vv, tt, hd, qu⟩ : MB) (.slice ah hd.length ch) (.slice aq qu.length cq) (.slice ah hd.length ch) (.slice aq qu.length cq) q.W (ATL.1.below q.h) (ATL.2.below q.h) (ph.below (bb2 BL q.h)) (pq.below (bb2 BL q.h)) OKL.order ok0.order
    have ho : 0 ≤ ordM (noMeth (⟨kk, vv, tt, hd, qu⟩ : MB)) (⟨kk, vv, tt, hd, qu⟩ : MB) := less_meth _
    have HHL : Hid (holdM (⟨kk, vv, tt, hd, qu⟩ : MB) x1.r = true → holdM (noMeth (⟨kk, vv, tt, hd, qu⟩ : MB)) x1.r = true) := fun h => hold_noMeth h
    generalize ordM (noMeth (⟨kk, vv, tt, hd, qu⟩ : MB)) (⟨kk, vv, tt, hd, qu⟩ : MB) = od at *
    generalize holdM (noMeth (⟨kk, vv, tt, hd, qu⟩ : MB)) x1.r = hl at *
    generalize holdM (⟨kk, vv, tt, hd, qu⟩ : MB) x1.r = hm at *
    clear ATL OKL ok0 ok1 at1 ph pq HMY k0 k1
    cases hm
    · clear HHL EL
      refine (calls_gb0 (EM.out)).mono ?_
      rintro e x ⟨rfl, q, rfl⟩
      go_wp2_with fail
      refine (calls_gb ((EH _).out)).mono ?_
      rintro e x ⟨rfl, q, rfl⟩
      go_wp2_with fail
      refine (calls_gb ((EO _).out)).mono ?_
      rintro e x ⟨rfl, q, rfl⟩
      go_wp2_with fail
      refine (calls_gb (ruawake_any _)).mono ?_
      rintro e x ⟨rfl, q, rfl⟩
      go_wp2_with fail
      go_ret
      exact ⟨rfl, bb2 (bb2 BZ BL) q.h⟩
    · obtain rfl := HHL.out rfl
      refine (calls_gb0 (EM.out)).mono ?_
      rintro e x ⟨rfl, q, rfl⟩
      go_wp2_with fail
      refine (calls_gb ((EH _).out)).mono ?_
      rintro e x ⟨rfl, q, rfl⟩
      go_wp2_with fail
      refine (calls_gb ((EL _).out)).mono ?_
      rintro e x ⟨rfl, q, rfl⟩
      go_wp2_with fail
      refine (calls_gb ((EO _).out)).mono ?_
      rintro e x ⟨rfl, q, rfl⟩
      go_wp2_with fail
      refine (calls_gb (ruawake_any _)).mono ?_
      rintro e x ⟨rfl, q, rfl⟩
      go_wp2_with fail
      go_ret
      exact ⟨rfl, bb2 (bb2 BZ BL) q.h⟩
  have t0 : ((c.toNat : Int) % 3 == 0) = false := by rw [beq_eq_false_iff_ne]; omega
  clear h30
  by_cases h31 : c.toNat % 3 = 1 ∧ 0 < hd.length
  · have t1 : ((c.toNat : Int) % 3 == 1) = true := by rw [beq_iff_eq]; omega
    have hpos : 0 < hd.length := h31.2
    have hpos' : (0 : Int) < (hd.length : Int) := by omega
    clear h31
    have hkl : c.toNat / 3 % hd.length < hd.length := Nat.mod_lt _ hpos
    have HREM : Hid (((c.toNat : Int) / 3 % (hd.length : Int)) = ((c.toNat / 3 % hd.length : Nat) : Int)) := by
      unfold Hid
      have e : ((c.toNat / 3 : Nat) : Int) = (c.toNat : Int) / 3 := by omega
      rw [← e]
      generalize c.toNat / 3 = x
      omega
    have hl31 : hd.length ≤ 31 := ok0.hlen
    have PP := ph
    obtain ⟨aP, capP, hvP, hle1, hle2, hcP⟩ := PP
    injection hvP with e1 e2 e3
    subst e1 e3
    obtain ⟨gh, oh, rfl, hgh, _⟩ := hcP 0 hpos
    clear hcP e2
    have hz2 : ¬ (hd.length : Int) = 0 := by omega
    go_wp2_with fail
    refine (calls_gb (E1 _).out).mono ?_
    rintro e x ⟨rfl, q, rfl⟩
    clear E1
    obtain ⟨WQ, hWQ⟩ : ∃ z, z = q.W := ⟨_, rfl⟩
    have BQ := q.h
    rw [← hWQ] at BQ ⊢
    clear hWQ q
    have BA : Below Z1.heap.size Z1 (WQ.alloc (.cells #[.int .i64 kk, .string vv, .string tt, .slice (some ⟨gh, oh, none⟩) hd.length ch, .slice aq qu.length cq] 26)) := BQ.alloc BQ.size _
    have f3 := b3 ⟨(WQ.alloc (.cells #[.int .i64 kk, .string vv, .string tt, .slice (some ⟨gh, oh, none⟩) hd.length ch, .slice aq qu.length cq] 26)), BA⟩
    have f4 := b4 ⟨(WQ.alloc (.cells #[.int .i64 kk, .string vv, .string tt, .slice (some ⟨gh, oh, none⟩) hd.length ch, .slice aq qu.length cq] 26)), BA⟩
    have g0 := b0 ⟨WQ, BQ⟩
    have g1 := b1 ⟨WQ, BQ⟩
    have g2 := b2 ⟨WQ, BQ⟩
    have g3 := b3 ⟨WQ, BQ⟩
    have g4 := b4 ⟨WQ, BQ⟩
    dsimp only at f3 f4 g0 g1 g2 g3 g4
    go_wp2_with fail
    rw [HREM.out]
    clear HREM
    generalize c.toNat / 3 % hd.length = k at *
    have hk1 : (k : Int) < (hd.length : Int) := by omega
    have hk2 : (k : Int) ≤ (hd.length : Int) := by omega
    have hk3 : (k : Int) + 1 ≤ (hd.length : Int) := by omega
    have hk4 : k + 1 ≤ ch := by omega
    have hk5 : k ≤ ch := by omega
    have hk6 : k + 1 ≤ hd.length := by omega
    have hk7 : (hd.length : Int) ≤ (ch : Int) := by omega
    have hk8 : (k : Int) + 1 ≤ (ch : Int) := by omega
    have hk9 : (0 : Int) ≤ (k : Int) + 1 := by omega
    have hwr : IntKind.i64.wrap ((k : Int) + 1) = (k : Int) + 1 := (IntWalk.i64_left _).trans (IntWalk.wrap64_in _ (by omega))
    have M3 := fun W (h : Below WQ.heap.size WQ W) => b3 ⟨W, bb2 BQ h⟩
    have M4 := fun W (h : Below WQ.heap.size WQ W) => b4 ⟨W, bb2 BQ h⟩
    dsimp only at M3 M4
    have preP := (ph.below BA).pre (k := k) (by omega)
    have sufP := (ph.below BA).suf (k := k + 1) (by omega)
    have BAA : Below WQ.heap.size WQ (WQ.alloc (.cells #[.int .i64 kk, .string vv, .string tt, .slice (some ⟨gh, oh, none⟩) hd.length ch, .slice aq qu.length cq] 26)) := (Below.refl _ _).alloc (Nat.le_refl _) _
    have kA : ((WQ.alloc (.cells #[.int .i64 kk, .string vv, .string tt, .slice (some ⟨gh, oh, none⟩) hd.length ch, .slice aq qu.length cq] 26))).heap[WQ.heap.size]? = some (.cells #[.int .i64 kk, .string vv, .string tt, .slice (some ⟨gh, oh, none⟩) hd.length ch, .slice aq qu.length cq] 26) := alloc_new WQ _
    refine wp_region_noPanic ?_
    refine wp_region_held_drew (S := fun W => Below WQ.heap.size WQ W) (by kernel_rfl) (BAA.drew) (fun hHeld => ?_)
    refine wpAnyH_take (i := 1) (v := ?_) (op_at (rest := _) rfl) (by kernel_rfl) (by kernel_rfl) (by kernel_rfl) (fun _ _ _ h => h) (Or.inl ⟨by rfl, ?_⟩) (by assumption) ?_
    rotate_left 1
    · (intro W hSw; (try dsimp only at hSw); go_simp; (try with_reducible rfl))
    try simp only [Act.put, List.setIfInBounds_toArray, List.set_cons_zero, List.set_cons_succ]
    refine wpAnyH_take (i := 2) (v := ?_) (op_at (rest := _) rfl) (by kernel_rfl) (by kernel_rfl) (by kernel_rfl) (fun _ _ _ h => h) (Or.inl ⟨by rfl, ?_⟩) (by assumption) ?_
    rotate_left 1
    · (intro W hSw; (try dsimp only at hSw); have e3 := M3 W hSw; have e4 := M4 W hSw; go_simp; (try with_reducible rfl))
    try simp only [Act.put, List.setIfInBounds_toArray, List.set_cons_zero, List.set_cons_succ]
    refine wpAnyH_take (i := 3) (v := ?_) (op_at (rest := _) rfl) (by kernel_rfl) (by kernel_rfl) (by kernel_rfl) (fun _ _ _ h => h) (Or.inl ⟨by rfl, ?_⟩) (by assumption) ?_
    rotate_left 1
    · (intro W hSw; (try dsimp only at hSw); go_simp; (try with_reducible rfl))
    try simp only [Act.put, List.setIfInBounds_toArray, List.set_cons_zero, List.set_cons_succ]
    refine wpAnyH_take (i := 4) (v := ?_) (op_at (rest := _) rfl) (by kernel_rfl) (by kernel_rfl) (by kernel_rfl) (fun _ _ _ h => h) (Or.inl ⟨by rfl, ?_⟩) (by assumption) ?_
    rotate_left 1
    · (intro W hSw; (try dsimp only at hSw); go_simp; (try with_reducible rfl))
    try simp only [Act.put, List.setIfInBounds_toArray, List.set_cons_zero, List.set_cons_succ]
    refine wpAnyH_take (i := 6) (v := ?_) (op_at (rest := _) rfl) (by kernel_rfl) (by kernel_rfl) (by kernel_rfl) (fun _ _ _ h => h) (Or.inl ⟨by rfl, ?_⟩) (by assumption) ?_
    rotate_left 1
    · (intro W hSw; (try dsimp only at hSw); go_simp; (try with_reducible rfl))
    try simp only [Act.put, List.setIfInBounds_toArray, List.set_cons_zero, List.set_cons_succ]
    refine wpAnyH_take (i := 7) (v := ?_) (op_at (rest := _) rfl) (by kernel_rfl) (by kernel_rfl) (by kernel_rfl) (fun _ _ _ h => h) (Or.inl ⟨by rfl, ?_⟩) (by assumption) ?_
    rotate_left 1
    · (intro W hSw; (try dsimp only at hSw); have e3 := M3 W hSw; have e4 := M4 W hSw; go_simp; (try with_reducible rfl))
    try simp only [Act.put, List.setIfInBounds_toArray, List.set_cons_zero, List.set_cons_succ]
    refine wpAnyH_take (i := 8) (v := ?_) (op_at (rest := _) rfl) (by kernel_rfl) (by kernel_rfl) (by kernel_rfl) (fun _ _ _ h => h) (Or.inl ⟨by rfl, ?_⟩) (by assumption) ?_
    rotate_left 1
    · (intro W hSw; (try dsimp only at hSw); go_simp; (try with_reducible rfl))
    try simp only [Act.put, List.setIfInBounds_toArray, List.set_cons_zero, List.set_cons_succ]
    refine wpAnyH_take (i := 9) (v := ?_) (op_at (rest := _) rfl) (by kernel_rfl) (by kernel_rfl) (by kernel_rfl) (fun _ _ _ h => h) (Or.inl ⟨by rfl, ?_⟩) (by assumption) ?_
    rotate_left 1
    · (intro W hSw; (try dsimp only at hSw); go_simp; (try with_reducible rfl))
    try simp only [Act.put, List.setIfInBounds_toArray, List.set_cons_zero, List.set_cons_succ]
    refine wpAnyH_take (i := 10) (v := ?_) (op_at (rest := _) rfl) (by kernel_rfl) (by kernel_rfl) (by kernel_rfl) (fun _ _ _ h => h) (Or.inl ⟨by rfl, ?_⟩) (by assumption) ?_
    rotate_left 1
    · (intro W hSw; (try dsimp only at hSw); go_simp; (try with_reducible rfl))
    try simp only [Act.put, List.setIfInBounds_toArray, List.set_cons_zero, List.set_cons_succ]
    generalize (if ch = k + 1 then (some ⟨gh, oh, none⟩ : Option Addr) else some ⟨gh, oh + (k + 1) * 2, none⟩) = asf at *
    refine wpAnyH_ready (rs := [0]) (by kernel_rfl) (by simp) ?_
    refine AllReadyH.cons (op_at (rest := _) rfl) (fun K hK => ?_) AllReadyH.nil
    go_simp
    refine hK.out _ _ (hHeld.alloc hHeld.size _) (fun hH2 => ?_)
    clear hK K
    try simp only [Act.put, List.setIfInBounds_toArray, List.set_cons_zero, List.set_cons_succ]
    have hA2 : Below ((WQ.alloc (.cells #[.int .i64 kk, .string vv, .string tt, .slice (some ⟨gh, oh, none⟩) hd.length ch, .slice aq qu.length cq] 26))).heap.size (WQ.alloc (.cells #[.int .i64 kk, .string vv, .string tt, .slice (some ⟨gh, oh, none⟩) hd.length ch, .slice aq qu.length cq] 26)) (((WQ.alloc (.cells #[.int .i64 kk, .string vv, .string tt, .slice (some ⟨gh, oh, none⟩) hd.length ch, .slice aq qu.length cq] 26))).drew.alloc (.cells #[] 53)) := Below.alloc (Below.drew (Below.refl ((WQ.alloc (.cells #[.int .i64 kk, .string vv, .string tt, .slice (some ⟨gh, oh, none⟩) hd.length ch, .slice aq qu.length cq] 26))).heap.size ((WQ.alloc (.cells #[.int .i64 kk, .string vv, .string tt, .slice (some ⟨gh, oh, none⟩) hd.length ch, .slice aq qu.length cq] 26))))) (Nat.le_refl _) _
    refine wpAnyH_ready (rs := [5]) (by kernel_rfl) (by simp) ?_
    refine AllReadyH.cons (op_at (rest := _) rfl) (fun K hK => ?_) AllReadyH.nil
    refine step_append_prs _ _ _ rfl rfl (WQ.heap.size + 1) (.slice (some ⟨WQ.heap.size + 1, 0, none⟩) 0 0) 0 [] rfl (owns_emptyPN ((WQ.alloc (.cells #[.int .i64 kk, .string vv, .string tt, .slice (some ⟨gh, oh, none⟩) hd.length ch, .slice aq qu.length cq] 26))).drew (WQ.heap.size + 1) (by simp)) _ _ rfl (preP.below hA2) (by simp; omega) (by simp) ?_
    intro v5 w5 r5 g5
    have hS5 := hH2.grown g5 hH2.size (fun j e => Nat.le_trans (by omega) (ownBlock_ge (owns_emptyPN ((WQ.alloc (.cells #[.int .i64 kk, .string vv, .string tt, .slice (some ⟨gh, oh, none⟩) hd.length ch, .slice aq qu.length cq] 26))).drew (WQ.heap.size + 1) (by simp)) e))
    have hA5 := hA2.grown g5 hA2.size (fun j e => Nat.le_trans (by simp) (ownBlock_ge (owns_emptyPN ((WQ.alloc (.cells #[.int .i64 kk, .string vv, .string tt, .slice (some ⟨gh, oh, none⟩) hd.length ch, .slice aq qu.length cq] 26))).drew (WQ.heap.size + 1) (by simp)) e))
    refine hK.out _ _ hS5 (fun _ => ?_)
    clear hK K
    try simp only [Act.put, List.setIfInBounds_toArray, List.set_cons_zero, List.set_cons_succ]
    refine wpAnyH_ready (rs := [11]) (by kernel_rfl) (by simp) ?_
    refine AllReadyH.cons (op_at (rest := _) rfl) (fun K hK => ?_) AllReadyH.nil
    refine step_append_prs _ _ _ rfl rfl (WQ.heap.size + 1) _ _ _ rfl r5 _ _ rfl (sufP.below hA5) (by simp; omega) (by have := hA5.size; simp at this; omega) ?_
    intro v11 w11 r11 g11
    have hS11 := hS5.grown g11 hS5.size (fun j e => Nat.le_trans (by omega) (ownBlock_ge r5 e))
    have hA11 := hA5.grown g11 hA5.size (fun j e => Nat.le_trans (by simp) (ownBlock_ge r5 e))
    refine hK.out _ _ hS11 (fun _ => ?_)
    clear hK K
    try simp only [Act.put, List.setIfInBounds_toArray, List.set_cons_zero, List.set_cons_succ]
    obtain ⟨nl, hnl⟩ : ∃ z, z = cutAt hd k := ⟨_, rfl⟩
    have r11' : w11.ownsRow (WQ.heap.size + 1) 53 2 v11 nl.length (flat nl) := by
      rw [hnl]
      simpa using r11
    have HNL := hide hnl
    clear hnl r11
    obtain ⟨na, nc, hv11⟩ := row_form r11'
    subst hv11
    have kB : w11.heap[WQ.heap.size]? = some (.cells #[.int .i64 kk, .string vv, .string tt, .slice (some ⟨gh, oh, none⟩) hd.length ch, .slice aq qu.length cq] 26) := (hA11.block _ (by simp)).trans kA
    obtain ⟨z0, z1, z2, z3, z4⟩ := cell5 kB
    have lz := live5 kB
    refine wpAnyH_take (i := 12) (v := ?_) (op_at (rest := _) rfl) (by kernel_rfl) (by kernel_rfl) (by kernel_rfl) (fun _ _ _ h => h) (Or.inl ⟨by rfl, ?_⟩) (by assumption) ?_
    rotate_left 1
    · (intro W hSw; (try dsimp only at hSw); go_simp; (try with_reducible rfl))
    try simp only [Act.put, List.setIfInBounds_toArray, List.set_cons_zero, List.set_cons_succ]
    refine wpAnyH_ready (rs := [13]) (by kernel_rfl) (by simp) ?_
    refine AllReadyH.cons (op_at (rest := _) rfl) (fun K hK => ?_) AllReadyH.nil
    go_simp
    refine hK.out _ _ (hS11.setCell (p := ⟨WQ.heap.size, 3, none⟩) (Nat.le_refl _) _) (fun hSZ => ?_)
    clear hK K z0 z1 z2 z3 z4 lz
    try simp only [Act.put, List.setIfInBounds_toArray, List.set_cons_zero, List.set_cons_succ]
    refine wpAnyH_done (by kernel_rfl) ?_ _
    refine NoPanic.normal ?_
    have kL := setc3 (x := (.slice na nl.length nc)) kB
    have rL := row_setc (i := 3) (x := (.slice na nl.length nc)) r11' (Nat.lt_succ_self WQ.heap.size)
    clear kA kB r5 r11' g5 g11 hA2 hA5 hA11 hS5 hS11 hH2 hHeld preP sufP BAA M3 M4 f3 f4 g0 g1 g2 g3 g4
    generalize w11.setCell ⟨WQ.heap.size, 3, none⟩ (.slice na nl.length nc) = WL at *
    have BL : Below Z1.heap.size Z1 WL := bb2 BQ hSZ
    have prL := Prs.of_row rfl rL
    have l0 := fun q : GB WL => (cell5 ((q.h.block _ (blk_lt5 kL)).trans kL)).1
    have l1 := fun q : GB WL => (cell5 ((q.h.block _ (blk_lt5 kL)).trans kL)).2.1
    have l2 := fun q : GB WL => (cell5 ((q.h.block _ (blk_lt5 kL)).trans kL)).2.2.1
    have l3 := fun q : GB WL => (cell5 ((q.h.block _ (blk_lt5 kL)).trans kL)).2.2.2.1
    have l4 := fun q : GB WL => (cell5 ((q.h.block _ (blk_lt5 kL)).trans kL)).2.2.2.2
    obtain ⟨j0, j1, j2, j3, j4⟩ := cell5 kL
    go_wp2_with fail
    clear j0 j1 j2 j3 j4
    have P0 := fun q : GB WL => b0 ⟨q.W, bb2 BL q.h⟩
    have R0 := fun q : GB WL => c0 ⟨q.W, bb2 BL q.h⟩
    have P1 := fun q : GB WL => b1 ⟨q.W, bb2 BL q.h⟩
    have R1 := fun q : GB WL => c1 ⟨q.W, bb2 BL q.h⟩
    have P2 := fun q : GB WL => b2 ⟨q.W, bb2 BL q.h⟩
    have R2 := fun q : GB WL => c2 ⟨q.W, bb2 BL q.h⟩
    have P3 := fun q : GB WL => b3 ⟨q.W, bb2 BL q.h⟩
    have R3 := fun q : GB WL => c3 ⟨q.W, bb2 BL q.h⟩
    have P4 := fun q : GB WL => b4 ⟨q.W, bb2 BL q.h⟩
    have R4 := fun q : GB WL => c4 ⟨q.W, bb2 BL q.h⟩
    dsimp only at P0 P1 P2 P3 P4 R0 R1 R2 R3 R4
    clear b0 b1 b2 b3 b4 c0 c1 c2 c3 c4
    have ATL := (⟨by rw [← HNL.out]; exact prL, pq.below BL⟩ : Prs WL (.slice na nl.length nc) (cutAt hd k) ∧ Prs WL (.slice aq qu.length cq) qu)
    have OKL : OkM (noHead (⟨kk, vv, tt, hd, qu⟩ : MB) k) := ok_noHead ok0 k
    have EM : Hid (Calls Try.prog 13 #[.agg #[.int .i64 kk, .string vv, .string tt, .slice na nl.length nc, .slice aq qu.length cq]] WL fun e w' => e = .returned (.bool true) ∧ Below (WL).heap.size WL w') := by
      have := may_m (noHead (⟨kk, vv, tt, hd, qu⟩ : MB) k) (.slice na nl.length nc) (.slice aq qu.length cq) WL ATL.1 ATL.2 OKL
      rw [may_noHead k HMY.out] at this
      exact this
    have EH := fun q : GB WL => hide (holds_m (⟨kk, vv, tt, hd, qu⟩ : MB) (.slice (some ⟨gh, oh, none⟩) hd.length ch) (.slice aq qu.length cq) x1.r x1.vq x1.vh q.W (ph.below (bb2 BL q.h)) (pq.below (bb2 BL q.h)) ok0 (at1.below (bb2 BL q.h)).1 (at1.below (bb2 BL q.h)).2 ok1)
    have EL : ∀ q : GB WL, Hid (Calls Try.prog 15 #[.agg #[.int .i64 kk, .string vv, .string tt, .slice na nl.length nc, .slice aq qu.length cq], rV x1.r x1.vq x1.vh] q.W fun e w' => e = .returned (.bool (holdM (noHead (⟨kk, vv, tt, hd, qu⟩ : MB) k) x1.r)) ∧ Below q.W.heap.size q.W w') := fun q => holds_m (noHead (⟨kk, vv, tt, hd, qu⟩ : MB) k) (.slice na nl.length nc) (.slice aq qu.length cq) x1.r x1.vq x1.vh q.W (ATL.1.below q.h) (ATL.2.below q.h) OKL (at1.below (bb2 BL q.h)).1 (at1.below (bb2 BL q.h)).2 ok1
    have EO : ∀ q : GB WL, Hid (Calls Try.prog 23 #[.agg #[.int .i64 kk, .string vv, .string tt, .slice na nl.length nc, .slice aq qu.length cq], mV (⟨kk, vv, tt, hd, qu⟩ : MB) (.slice (some ⟨gh, oh, none⟩) hd.length ch) (.slice aq qu.length cq)] q.W fun e w' => e = .returned (.int .i64 (ordM (noHead (⟨kk, vv, tt, hd, qu⟩ : MB) k) (⟨kk, vv, tt, hd, qu⟩ : MB))) ∧ Below q.W.heap.size q.W w') := fun q => rorder_m (noHead (⟨kk, vv, tt, hd, qu⟩ : MB) k) (⟨kk, vv, tt, hd, qu⟩ : MB) (.slice na nl.length nc) (.slice aq qu.length cq) (.slice (some ⟨gh, oh, none⟩) hd.length ch) (.slice aq qu.length cq) q.W (ATL.1.below q.h) (ATL.2.below q.h) (ph.below (bb2 BL q.h)) (pq.below (bb2 BL q.h)) OKL.order ok0.order
    have ho : 0 ≤ ordM (noHead (⟨kk, vv, tt, hd, qu⟩ : MB) k) (⟨kk, vv, tt, hd, qu⟩ : MB) := less_head _ k
    have HHL : Hid (holdM (⟨kk, vv, tt, hd, qu⟩ : MB) x1.r = true → holdM (noHead (⟨kk, vv, tt, hd, qu⟩ : MB) k) x1.r = true) := fun h => hold_noHead k h
    generalize ordM (noHead (⟨kk, vv, tt, hd, qu⟩ : MB) k) (⟨kk, vv, tt, hd, qu⟩ : MB) = od at *
    generalize holdM (noHead (⟨kk, vv, tt, hd, qu⟩ : MB) k) x1.r = hl at *
    generalize holdM (⟨kk, vv, tt, hd, qu⟩ : MB) x1.r = hm at *
    clear ATL OKL ok0 ok1 at1 ph pq HMY k0 k1
    cases hm
    · clear HHL EL
      refine (calls_gb0 (EM.out)).mono ?_
      rintro e x ⟨rfl, q, rfl⟩
      go_wp2_with fail
      refine (calls_gb ((EH _).out)).mono ?_
      rintro e x ⟨rfl, q, rfl⟩
      go_wp2_with fail
      refine (calls_gb ((EO _).out)).mono ?_
      rintro e x ⟨rfl, q, rfl⟩
      go_wp2_with fail
      refine (calls_gb (ruawake_any _)).mono ?_
      rintro e x ⟨rfl, q, rfl⟩
      go_wp2_with fail
      go_ret
      exact ⟨rfl, bb2 (bb2 BZ BL) q.h⟩
    · obtain rfl := HHL.out rfl
      refine (calls_gb0 (EM.out)).mono ?_
      rintro e x ⟨rfl, q, rfl⟩
      go_wp2_with fail
      refine (calls_gb ((EH _).out)).mono ?_
      rintro e x ⟨rfl, q, rfl⟩
      go_wp2_with fail
      refine (calls_gb ((EL _).out)).mono ?_
      rintro e x ⟨rfl, q, rfl⟩
      go_wp2_with fail
      refine (calls_gb ((EO _).out)).mono ?_
      rintro e x ⟨rfl, q, rfl⟩
      go_wp2_with fail
      refine (calls_gb (ruawake_any _)).mono ?_
      rintro e x ⟨rfl, q, rfl⟩
      go_wp2_with fail
      go_ret
      exact ⟨rfl, bb2 (bb2 BZ BL) q.h⟩
  have key : (((c.toNat : Int) % 3 == 1) = false) ∨ (((c.toNat : Int) % 3 == 1) = true ∧ ¬ (0 : Int) < (hd.length : Int)) := by
    by_cases h : c.toNat % 3 = 1
    · exact .inr ⟨by rw [beq_iff_eq]; omega, by omega⟩
    · exact .inl (by rw [beq_eq_false_iff_ne]; omega)
  clear h31
  by_cases hpos : 0 < qu.length
  · have hpos' : (0 : Int) < (qu.length : Int) := by omega
    rcases key with t1 | ⟨t1, t2⟩
    · have hkl : c.toNat / 3 % qu.length < qu.length := Nat.mod_lt _ hpos
      have HREM : Hid (((c.toNat : Int) / 3 % (qu.length : Int)) = ((c.toNat / 3 % qu.length : Nat) : Int)) := by
        unfold Hid
        have e : ((c.toNat / 3 : Nat) : Int) = (c.toNat : Int) / 3 := by omega
        rw [← e]
        generalize c.toNat / 3 = x
        omega
      have hl31 : qu.length ≤ 31 := ok0.qlen
      have PP := pq
      obtain ⟨aP, capP, hvP, hle1, hle2, hcP⟩ := PP
      injection hvP with e1 e2 e3
      subst e1 e3
      obtain ⟨gh, oh, rfl, hgh, _⟩ := hcP 0 hpos
      clear hcP e2
      have hz2 : ¬ (qu.length : Int) = 0 := by omega
      go_wp2_with fail
      refine (calls_gb (E1 _).out).mono ?_
      rintro e x ⟨rfl, q, rfl⟩
      clear E1
      obtain ⟨WQ, hWQ⟩ : ∃ z, z = q.W := ⟨_, rfl⟩
      have BQ := q.h
      rw [← hWQ] at BQ ⊢
      clear hWQ q
      have BA : Below Z1.heap.size Z1 (WQ.alloc (.cells #[.int .i64 kk, .string vv, .string tt, .slice ah hd.length ch, .slice (some ⟨gh, oh, none⟩) qu.length cq] 26)) := BQ.alloc BQ.size _
      have f3 := b3 ⟨(WQ.alloc (.cells #[.int .i64 kk, .string vv, .string tt, .slice ah hd.length ch, .slice (some ⟨gh, oh, none⟩) qu.length cq] 26)), BA⟩
      have f4 := b4 ⟨(WQ.alloc (.cells #[.int .i64 kk, .string vv, .string tt, .slice ah hd.length ch, .slice (some ⟨gh, oh, none⟩) qu.length cq] 26)), BA⟩
      have g0 := b0 ⟨WQ, BQ⟩
      have g1 := b1 ⟨WQ, BQ⟩
      have g2 := b2 ⟨WQ, BQ⟩
      have g3 := b3 ⟨WQ, BQ⟩
      have g4 := b4 ⟨WQ, BQ⟩
      dsimp only at f3 f4 g0 g1 g2 g3 g4
      go_wp2_with fail
      rw [HREM.out]
      clear HREM
      generalize c.toNat / 3 % qu.length = k at *
      have hk1 : (k : Int) < (qu.length : Int) := by omega
      have hk2 : (k : Int) ≤ (qu.length : Int) := by omega
      have hk3 : (k : Int) + 1 ≤ (qu.length : Int) := by omega
      have hk4 : k + 1 ≤ cq := by omega
      have hk5 : k ≤ cq := by omega
      have hk6 : k + 1 ≤ qu.length := by omega
      have hk7 : (qu.length : Int) ≤ (cq : Int) := by omega
      have hk8 : (k : Int) + 1 ≤ (cq : Int) := by omega
      have hk9 : (0 : Int) ≤ (k : Int) + 1 := by omega
      have hwr : IntKind.i64.wrap ((k : Int) + 1) = (k : Int) + 1 := (IntWalk.i64_left _).trans (IntWalk.wrap64_in _ (by omega))
      have M3 := fun W (h : Below WQ.heap.size WQ W) => b3 ⟨W, bb2 BQ h⟩
      have M4 := fun W (h : Below WQ.heap.size WQ W) => b4 ⟨W, bb2 BQ h⟩
      dsimp only at M3 M4
      have preP := (pq.below BA).pre (k := k) (by omega)
      have sufP := (pq.below BA).suf (k := k + 1) (by omega)
      have BAA : Below WQ.heap.size WQ (WQ.alloc (.cells #[.int .i64 kk, .string vv, .string tt, .slice ah hd.length ch, .slice (some ⟨gh, oh, none⟩) qu.length cq] 26)) := (Below.refl _ _).alloc (Nat.le_refl _) _
      have kA : ((WQ.alloc (.cells #[.int .i64 kk, .string vv, .string tt, .slice ah hd.length ch, .slice (some ⟨gh, oh, none⟩) qu.length cq] 26))).heap[WQ.heap.size]? = some (.cells #[.int .i64 kk, .string vv, .string tt, .slice ah hd.length ch, .slice (some ⟨gh, oh, none⟩) qu.length cq] 26) := alloc_new WQ _
      refine wp_region_noPanic ?_
      refine wp_region_held_drew (S := fun W => Below WQ.heap.size WQ W) (by kernel_rfl) (BAA.drew) (fun hHeld => ?_)
      refine wpAnyH_take (i := 1) (v := ?_) (op_at (rest := _) rfl) (by kernel_rfl) (by kernel_rfl) (by kernel_rfl) (fun _ _ _ h => h) (Or.inl ⟨by rfl, ?_⟩) (by assumption) ?_
      rotate_left 1
      · (intro W hSw; (try dsimp only at hSw); go_simp; (try with_reducible rfl))
      try simp only [Act.put, List.setIfInBounds_toArray, List.set_cons_zero, List.set_cons_succ]
      refine wpAnyH_take (i := 2) (v := ?_) (op_at (rest := _) rfl) (by kernel_rfl) (by kernel_rfl) (by kernel_rfl) (fun _ _ _ h => h) (Or.inl ⟨by rfl, ?_⟩) (by assumption) ?_
      rotate_left 1
      · (intro W hSw; (try dsimp only at hSw); have e3 := M3 W hSw; have e4 := M4 W hSw; go_simp; (try with_reducible rfl))
      try simp only [Act.put, List.setIfInBounds_toArray, List.set_cons_zero, List.set_cons_succ]
      refine wpAnyH_take (i := 3) (v := ?_) (op_at (rest := _) rfl) (by kernel_rfl) (by kernel_rfl) (by kernel_rfl) (fun _ _ _ h => h) (Or.inl ⟨by rfl, ?_⟩) (by assumption) ?_
      rotate_left 1
      · (intro W hSw; (try dsimp only at hSw); go_simp; (try with_reducible rfl))
      try simp only [Act.put, List.setIfInBounds_toArray, List.set_cons_zero, List.set_cons_succ]
      refine wpAnyH_take (i := 4) (v := ?_) (op_at (rest := _) rfl) (by kernel_rfl) (by kernel_rfl) (by kernel_rfl) (fun _ _ _ h => h) (Or.inl ⟨by rfl, ?_⟩) (by assumption) ?_
      rotate_left 1
      · (intro W hSw; (try dsimp only at hSw); go_simp; (try with_reducible rfl))
      try simp only [Act.put, List.setIfInBounds_toArray, List.set_cons_zero, List.set_cons_succ]
      refine wpAnyH_take (i := 6) (v := ?_) (op_at (rest := _) rfl) (by kernel_rfl) (by kernel_rfl) (by kernel_rfl) (fun _ _ _ h => h) (Or.inl ⟨by rfl, ?_⟩) (by assumption) ?_
      rotate_left 1
      · (intro W hSw; (try dsimp only at hSw); go_simp; (try with_reducible rfl))
      try simp only [Act.put, List.setIfInBounds_toArray, List.set_cons_zero, List.set_cons_succ]
      refine wpAnyH_take (i := 7) (v := ?_) (op_at (rest := _) rfl) (by kernel_rfl) (by kernel_rfl) (by kernel_rfl) (fun _ _ _ h => h) (Or.inl ⟨by rfl, ?_⟩) (by assumption) ?_
      rotate_left 1
      · (intro W hSw; (try dsimp only at hSw); have e3 := M3 W hSw; have e4 := M4 W hSw; go_simp; (try with_reducible rfl))
      try simp only [Act.put, List.setIfInBounds_toArray, List.set_cons_zero, List.set_cons_succ]
      refine wpAnyH_take (i := 8) (v := ?_) (op_at (rest := _) rfl) (by kernel_rfl) (by kernel_rfl) (by kernel_rfl) (fun _ _ _ h => h) (Or.inl ⟨by rfl, ?_⟩) (by assumption) ?_
      rotate_left 1
      · (intro W hSw; (try dsimp only at hSw); go_simp; (try with_reducible rfl))
      try simp only [Act.put, List.setIfInBounds_toArray, List.set_cons_zero, List.set_cons_succ]
      refine wpAnyH_take (i := 9) (v := ?_) (op_at (rest := _) rfl) (by kernel_rfl) (by kernel_rfl) (by kernel_rfl) (fun _ _ _ h => h) (Or.inl ⟨by rfl, ?_⟩) (by assumption) ?_
      rotate_left 1
      · (intro W hSw; (try dsimp only at hSw); go_simp; (try with_reducible rfl))
      try simp only [Act.put, List.setIfInBounds_toArray, List.set_cons_zero, List.set_cons_succ]
      refine wpAnyH_take (i := 10) (v := ?_) (op_at (rest := _) rfl) (by kernel_rfl) (by kernel_rfl) (by kernel_rfl) (fun _ _ _ h => h) (Or.inl ⟨by rfl, ?_⟩) (by assumption) ?_
      rotate_left 1
      · (intro W hSw; (try dsimp only at hSw); go_simp; (try with_reducible rfl))
      try simp only [Act.put, List.setIfInBounds_toArray, List.set_cons_zero, List.set_cons_succ]
      generalize (if cq = k + 1 then (some ⟨gh, oh, none⟩ : Option Addr) else some ⟨gh, oh + (k + 1) * 2, none⟩) = asf at *
      refine wpAnyH_ready (rs := [0]) (by kernel_rfl) (by simp) ?_
      refine AllReadyH.cons (op_at (rest := _) rfl) (fun K hK => ?_) AllReadyH.nil
      go_simp
      refine hK.out _ _ (hHeld.alloc hHeld.size _) (fun hH2 => ?_)
      clear hK K
      try simp only [Act.put, List.setIfInBounds_toArray, List.set_cons_zero, List.set_cons_succ]
      have hA2 : Below ((WQ.alloc (.cells #[.int .i64 kk, .string vv, .string tt, .slice ah hd.length ch, .slice (some ⟨gh, oh, none⟩) qu.length cq] 26))).heap.size (WQ.alloc (.cells #[.int .i64 kk, .string vv, .string tt, .slice ah hd.length ch, .slice (some ⟨gh, oh, none⟩) qu.length cq] 26)) (((WQ.alloc (.cells #[.int .i64 kk, .string vv, .string tt, .slice ah hd.length ch, .slice (some ⟨gh, oh, none⟩) qu.length cq] 26))).drew.alloc (.cells #[] 53)) := Below.alloc (Below.drew (Below.refl ((WQ.alloc (.cells #[.int .i64 kk, .string vv, .string tt, .slice ah hd.length ch, .slice (some ⟨gh, oh, none⟩) qu.length cq] 26))).heap.size ((WQ.alloc (.cells #[.int .i64 kk, .string vv, .string tt, .slice ah hd.length ch, .slice (some ⟨gh, oh, none⟩) qu.length cq] 26))))) (Nat.le_refl _) _
      refine wpAnyH_ready (rs := [5]) (by kernel_rfl) (by simp) ?_
      refine AllReadyH.cons (op_at (rest := _) rfl) (fun K hK => ?_) AllReadyH.nil
      refine step_append_prs _ _ _ rfl rfl (WQ.heap.size + 1) (.slice (some ⟨WQ.heap.size + 1, 0, none⟩) 0 0) 0 [] rfl (owns_emptyPN ((WQ.alloc (.cells #[.int .i64 kk, .string vv, .string tt, .slice ah hd.length ch, .slice (some ⟨gh, oh, none⟩) qu.length cq] 26))).drew (WQ.heap.size + 1) (by simp)) _ _ rfl (preP.below hA2) (by simp; omega) (by simp) ?_
      intro v5 w5 r5 g5
      have hS5 := hH2.grown g5 hH2.size (fun j e => Nat.le_trans (by omega) (ownBlock_ge (owns_emptyPN ((WQ.alloc (.cells #[.int .i64 kk, .string vv, .string tt, .slice ah hd.length ch, .slice (some ⟨gh, oh, none⟩) qu.length cq] 26))).drew (WQ.heap.size + 1) (by simp)) e))
      have hA5 := hA2.grown g5 hA2.size (fun j e => Nat.le_trans (by simp) (ownBlock_ge (owns_emptyPN ((WQ.alloc (.cells #[.int .i64 kk, .string vv, .string tt, .slice ah hd.length ch, .slice (some ⟨gh, oh, none⟩) qu.length cq] 26))).drew (WQ.heap.size + 1) (by simp)) e))
      refine hK.out _ _ hS5 (fun _ => ?_)
      clear hK K
      try simp only [Act.put, List.setIfInBounds_toArray, List.set_cons_zero, List.set_cons_succ]
      refine wpAnyH_ready (rs := [11]) (by kernel_rfl) (by simp) ?_
      refine AllReadyH.cons (op_at (rest := _) rfl) (fun K hK => ?_) AllReadyH.nil
      refine step_append_prs _ _ _ rfl rfl (WQ.heap.size + 1) _ _ _ rfl r5 _ _ rfl (sufP.below hA5) (by simp; omega) (by have := hA5.size; simp at this; omega) ?_
      intro v11 w11 r11 g11
      have hS11 := hS5.grown g11 hS5.size (fun j e => Nat.le_trans (by omega) (ownBlock_ge r5 e))
      have hA11 := hA5.grown g11 hA5.size (fun j e => Nat.le_trans (by simp) (ownBlock_ge r5 e))
      refine hK.out _ _ hS11 (fun _ => ?_)
      clear hK K
      try simp only [Act.put, List.setIfInBounds_toArray, List.set_cons_zero, List.set_cons_succ]
      obtain ⟨nl, hnl⟩ : ∃ z, z = cutAt qu k := ⟨_, rfl⟩
      have r11' : w11.ownsRow (WQ.heap.size + 1) 53 2 v11 nl.length (flat nl) := by
        rw [hnl]
        simpa using r11
      have HNL := hide hnl
      clear hnl r11
      obtain ⟨na, nc, hv11⟩ := row_form r11'
      subst hv11
      have kB : w11.heap[WQ.heap.size]? = some (.cells #[.int .i64 kk, .string vv, .string tt, .slice ah hd.length ch, .slice (some ⟨gh, oh, none⟩) qu.length cq] 26) := (hA11.block _ (by simp)).trans kA
      obtain ⟨z0, z1, z2, z3, z4⟩ := cell5 kB
      have lz := live5 kB
      refine wpAnyH_take (i := 12) (v := ?_) (op_at (rest := _) rfl) (by kernel_rfl) (by kernel_rfl) (by kernel_rfl) (fun _ _ _ h => h) (Or.inl ⟨by rfl, ?_⟩) (by assumption) ?_
      rotate_left 1
      · (intro W hSw; (try dsimp only at hSw); go_simp; (try with_reducible rfl))
      try simp only [Act.put, List.setIfInBounds_toArray, List.set_cons_zero, List.set_cons_succ]
      refine wpAnyH_ready (rs := [13]) (by kernel_rfl) (by simp) ?_
      refine AllReadyH.cons (op_at (rest := _) rfl) (fun K hK => ?_) AllReadyH.nil
      go_simp
      refine hK.out _ _ (hS11.setCell (p := ⟨WQ.heap.size, 4, none⟩) (Nat.le_refl _) _) (fun hSZ => ?_)
      clear hK K z0 z1 z2 z3 z4 lz
      try simp only [Act.put, List.setIfInBounds_toArray, List.set_cons_zero, List.set_cons_succ]
      refine wpAnyH_done (by kernel_rfl) ?_ _
      refine NoPanic.normal ?_
      have kL := setc4 (x := (.slice na nl.length nc)) kB
      have rL := row_setc (i := 4) (x := (.slice na nl.length nc)) r11' (Nat.lt_succ_self WQ.heap.size)
      clear kA kB r5 r11' g5 g11 hA2 hA5 hA11 hS5 hS11 hH2 hHeld preP sufP BAA M3 M4 f3 f4 g0 g1 g2 g3 g4
      generalize w11.setCell ⟨WQ.heap.size, 4, none⟩ (.slice na nl.length nc) = WL at *
      have BL : Below Z1.heap.size Z1 WL := bb2 BQ hSZ
      have prL := Prs.of_row rfl rL
      have l0 := fun q : GB WL => (cell5 ((q.h.block _ (blk_lt5 kL)).trans kL)).1
      have l1 := fun q : GB WL => (cell5 ((q.h.block _ (blk_lt5 kL)).trans kL)).2.1
      have l2 := fun q : GB WL => (cell5 ((q.h.block _ (blk_lt5 kL)).trans kL)).2.2.1
      have l3 := fun q : GB WL => (cell5 ((q.h.block _ (blk_lt5 kL)).trans kL)).2.2.2.1
      have l4 := fun q : GB WL => (cell5 ((q.h.block _ (blk_lt5 kL)).trans kL)).2.2.2.2
      obtain ⟨j0, j1, j2, j3, j4⟩ := cell5 kL
      go_wp2_with fail
      clear j0 j1 j2 j3 j4
      have P0 := fun q : GB WL => b0 ⟨q.W, bb2 BL q.h⟩
      have R0 := fun q : GB WL => c0 ⟨q.W, bb2 BL q.h⟩
      have P1 := fun q : GB WL => b1 ⟨q.W, bb2 BL q.h⟩
      have R1 := fun q : GB WL => c1 ⟨q.W, bb2 BL q.h⟩
      have P2 := fun q : GB WL => b2 ⟨q.W, bb2 BL q.h⟩
      have R2 := fun q : GB WL => c2 ⟨q.W, bb2 BL q.h⟩
      have P3 := fun q : GB WL => b3 ⟨q.W, bb2 BL q.h⟩
      have R3 := fun q : GB WL => c3 ⟨q.W, bb2 BL q.h⟩
      have P4 := fun q : GB WL => b4 ⟨q.W, bb2 BL q.h⟩
      have R4 := fun q : GB WL => c4 ⟨q.W, bb2 BL q.h⟩
      dsimp only at P0 P1 P2 P3 P4 R0 R1 R2 R3 R4
      clear b0 b1 b2 b3 b4 c0 c1 c2 c3 c4
      have ATL := (⟨ph.below BL, by rw [← HNL.out]; exact prL⟩ : Prs WL (.slice ah hd.length ch) hd ∧ Prs WL (.slice na nl.length nc) (cutAt qu k))
      have OKL : OkM (noQuery (⟨kk, vv, tt, hd, qu⟩ : MB) k) := ok_noQuery ok0 k
      have EM : Hid (Calls Try.prog 13 #[.agg #[.int .i64 kk, .string vv, .string tt, .slice ah hd.length ch, .slice na nl.length nc]] WL fun e w' => e = .returned (.bool true) ∧ Below (WL).heap.size WL w') := by
        have := may_m (noQuery (⟨kk, vv, tt, hd, qu⟩ : MB) k) (.slice ah hd.length ch) (.slice na nl.length nc) WL ATL.1 ATL.2 OKL
        rw [may_noQuery k HMY.out] at this
        exact this
      have EH := fun q : GB WL => hide (holds_m (⟨kk, vv, tt, hd, qu⟩ : MB) (.slice ah hd.length ch) (.slice (some ⟨gh, oh, none⟩) qu.length cq) x1.r x1.vq x1.vh q.W (ph.below (bb2 BL q.h)) (pq.below (bb2 BL q.h)) ok0 (at1.below (bb2 BL q.h)).1 (at1.below (bb2 BL q.h)).2 ok1)
      have EL : ∀ q : GB WL, Hid (Calls Try.prog 15 #[.agg #[.int .i64 kk, .string vv, .string tt, .slice ah hd.length ch, .slice na nl.length nc], rV x1.r x1.vq x1.vh] q.W fun e w' => e = .returned (.bool (holdM (noQuery (⟨kk, vv, tt, hd, qu⟩ : MB) k) x1.r)) ∧ Below q.W.heap.size q.W w') := fun q => holds_m (noQuery (⟨kk, vv, tt, hd, qu⟩ : MB) k) (.slice ah hd.length ch) (.slice na nl.length nc) x1.r x1.vq x1.vh q.W (ATL.1.below q.h) (ATL.2.below q.h) OKL (at1.below (bb2 BL q.h)).1 (at1.below (bb2 BL q.h)).2 ok1
      have EO : ∀ q : GB WL, Hid (Calls Try.prog 23 #[.agg #[.int .i64 kk, .string vv, .string tt, .slice ah hd.length ch, .slice na nl.length nc], mV (⟨kk, vv, tt, hd, qu⟩ : MB) (.slice ah hd.length ch) (.slice (some ⟨gh, oh, none⟩) qu.length cq)] q.W fun e w' => e = .returned (.int .i64 (ordM (noQuery (⟨kk, vv, tt, hd, qu⟩ : MB) k) (⟨kk, vv, tt, hd, qu⟩ : MB))) ∧ Below q.W.heap.size q.W w') := fun q => rorder_m (noQuery (⟨kk, vv, tt, hd, qu⟩ : MB) k) (⟨kk, vv, tt, hd, qu⟩ : MB) (.slice ah hd.length ch) (.slice na nl.length nc) (.slice ah hd.length ch) (.slice (some ⟨gh, oh, none⟩) qu.length cq) q.W (ATL.1.below q.h) (ATL.2.below q.h) (ph.below (bb2 BL q.h)) (pq.below (bb2 BL q.h)) OKL.order ok0.order
      have ho : 0 ≤ ordM (noQuery (⟨kk, vv, tt, hd, qu⟩ : MB) k) (⟨kk, vv, tt, hd, qu⟩ : MB) := less_query _ k
      have HHL : Hid (holdM (⟨kk, vv, tt, hd, qu⟩ : MB) x1.r = true → holdM (noQuery (⟨kk, vv, tt, hd, qu⟩ : MB) k) x1.r = true) := fun h => hold_noQuery k h
      generalize ordM (noQuery (⟨kk, vv, tt, hd, qu⟩ : MB) k) (⟨kk, vv, tt, hd, qu⟩ : MB) = od at *
      generalize holdM (noQuery (⟨kk, vv, tt, hd, qu⟩ : MB) k) x1.r = hl at *
      generalize holdM (⟨kk, vv, tt, hd, qu⟩ : MB) x1.r = hm at *
      clear ATL OKL ok0 ok1 at1 ph pq HMY k0 k1
      cases hm
      · clear HHL EL
        refine (calls_gb0 (EM.out)).mono ?_
        rintro e x ⟨rfl, q, rfl⟩
        go_wp2_with fail
        refine (calls_gb ((EH _).out)).mono ?_
        rintro e x ⟨rfl, q, rfl⟩
        go_wp2_with fail
        refine (calls_gb ((EO _).out)).mono ?_
        rintro e x ⟨rfl, q, rfl⟩
        go_wp2_with fail
        refine (calls_gb (ruawake_any _)).mono ?_
        rintro e x ⟨rfl, q, rfl⟩
        go_wp2_with fail
        go_ret
        exact ⟨rfl, bb2 (bb2 BZ BL) q.h⟩
      · obtain rfl := HHL.out rfl
        refine (calls_gb0 (EM.out)).mono ?_
        rintro e x ⟨rfl, q, rfl⟩
        go_wp2_with fail
        refine (calls_gb ((EH _).out)).mono ?_
        rintro e x ⟨rfl, q, rfl⟩
        go_wp2_with fail
        refine (calls_gb ((EL _).out)).mono ?_
        rintro e x ⟨rfl, q, rfl⟩
        go_wp2_with fail
        refine (calls_gb ((EO _).out)).mono ?_
        rintro e x ⟨rfl, q, rfl⟩
        go_wp2_with fail
        refine (calls_gb (ruawake_any _)).mono ?_
        rintro e x ⟨rfl, q, rfl⟩
        go_wp2_with fail
        go_ret
        exact ⟨rfl, bb2 (bb2 BZ BL) q.h⟩
    · have hkl : c.toNat / 3 % qu.length < qu.length := Nat.mod_lt _ hpos
      have HREM : Hid (((c.toNat : Int) / 3 % (qu.length : Int)) = ((c.toNat / 3 % qu.length : Nat) : Int)) := by
        unfold Hid
        have e : ((c.toNat / 3 : Nat) : Int) = (c.toNat : Int) / 3 := by omega
        rw [← e]
        generalize c.toNat / 3 = x
        omega
      have hl31 : qu.length ≤ 31 := ok0.qlen
      have PP := pq
      obtain ⟨aP, capP, hvP, hle1, hle2, hcP⟩ := PP
      injection hvP with e1 e2 e3
      subst e1 e3
      obtain ⟨gh, oh, rfl, hgh, _⟩ := hcP 0 hpos
      clear hcP e2
      have hz2 : ¬ (qu.length : Int) = 0 := by omega
      go_wp2_with fail
      refine (calls_gb (E1 _).out).mono ?_
      rintro e x ⟨rfl, q, rfl⟩
      clear E1
      obtain ⟨WQ, hWQ⟩ : ∃ z, z = q.W := ⟨_, rfl⟩
      have BQ := q.h
      rw [← hWQ] at BQ ⊢
      clear hWQ q
      have BA : Below Z1.heap.size Z1 (WQ.alloc (.cells #[.int .i64 kk, .string vv, .string tt, .slice ah hd.length ch, .slice (some ⟨gh, oh, none⟩) qu.length cq] 26)) := BQ.alloc BQ.size _
      have f3 := b3 ⟨(WQ.alloc (.cells #[.int .i64 kk, .string vv, .string tt, .slice ah hd.length ch, .slice (some ⟨gh, oh, none⟩) qu.length cq] 26)), BA⟩
      have f4 := b4 ⟨(WQ.alloc (.cells #[.int .i64 kk, .string vv, .string tt, .slice ah hd.length ch, .slice (some ⟨gh, oh, none⟩) qu.length cq] 26)), BA⟩
      have g0 := b0 ⟨WQ, BQ⟩
      have g1 := b1 ⟨WQ, BQ⟩
      have g2 := b2 ⟨WQ, BQ⟩
      have g3 := b3 ⟨WQ, BQ⟩
      have g4 := b4 ⟨WQ, BQ⟩
      dsimp only at f3 f4 g0 g1 g2 g3 g4
      go_wp2_with fail
      rw [HREM.out]
      clear HREM
      generalize c.toNat / 3 % qu.length = k at *
      have hk1 : (k : Int) < (qu.length : Int) := by omega
      have hk2 : (k : Int) ≤ (qu.length : Int) := by omega
      have hk3 : (k : Int) + 1 ≤ (qu.length : Int) := by omega
      have hk4 : k + 1 ≤ cq := by omega
      have hk5 : k ≤ cq := by omega
      have hk6 : k + 1 ≤ qu.length := by omega
      have hk7 : (qu.length : Int) ≤ (cq : Int) := by omega
      have hk8 : (k : Int) + 1 ≤ (cq : Int) := by omega
      have hk9 : (0 : Int) ≤ (k : Int) + 1 := by omega
      have hwr : IntKind.i64.wrap ((k : Int) + 1) = (k : Int) + 1 := (IntWalk.i64_left _).trans (IntWalk.wrap64_in _ (by omega))
      have M3 := fun W (h : Below WQ.heap.size WQ W) => b3 ⟨W, bb2 BQ h⟩
      have M4 := fun W (h : Below WQ.heap.size WQ W) => b4 ⟨W, bb2 BQ h⟩
      dsimp only at M3 M4
      have preP := (pq.below BA).pre (k := k) (by omega)
      have sufP := (pq.below BA).suf (k := k + 1) (by omega)
      have BAA : Below WQ.heap.size WQ (WQ.alloc (.cells #[.int .i64 kk, .string vv, .string tt, .slice ah hd.length ch, .slice (some ⟨gh, oh, none⟩) qu.length cq] 26)) := (Below.refl _ _).alloc (Nat.le_refl _) _
      have kA : ((WQ.alloc (.cells #[.int .i64 kk, .string vv, .string tt, .slice ah hd.length ch, .slice (some ⟨gh, oh, none⟩) qu.length cq] 26))).heap[WQ.heap.size]? = some (.cells #[.int .i64 kk, .string vv, .string tt, .slice ah hd.length ch, .slice (some ⟨gh, oh, none⟩) qu.length cq] 26) := alloc_new WQ _
      refine wp_region_noPanic ?_
      refine wp_region_held_drew (S := fun W => Below WQ.heap.size WQ W) (by kernel_rfl) (BAA.drew) (fun hHeld => ?_)
      refine wpAnyH_take (i := 1) (v := ?_) (op_at (rest := _) rfl) (by kernel_rfl) (by kernel_rfl) (by kernel_rfl) (fun _ _ _ h => h) (Or.inl ⟨by rfl, ?_⟩) (by assumption) ?_
      rotate_left 1
      · (intro W hSw; (try dsimp only at hSw); go_simp; (try with_reducible rfl))
      try simp only [Act.put, List.setIfInBounds_toArray, List.set_cons_zero, List.set_cons_succ]
      refine wpAnyH_take (i := 2) (v := ?_) (op_at (rest := _) rfl) (by kernel_rfl) (by kernel_rfl) (by kernel_rfl) (fun _ _ _ h => h) (Or.inl ⟨by rfl, ?_⟩) (by assumption) ?_
      rotate_left 1
      · (intro W hSw; (try dsimp only at hSw); have e3 := M3 W hSw; have e4 := M4 W hSw; go_simp; (try with_reducible rfl))
      try simp only [Act.put, List.setIfInBounds_toArray, List.set_cons_zero, List.set_cons_succ]
      refine wpAnyH_take (i := 3) (v := ?_) (op_at (rest := _) rfl) (by kernel_rfl) (by kernel_rfl) (by kernel_rfl) (fun _ _ _ h => h) (Or.inl ⟨by rfl, ?_⟩) (by assumption) ?_
      rotate_left 1
      · (intro W hSw; (try dsimp only at hSw); go_simp; (try with_reducible rfl))
      try simp only [Act.put, List.setIfInBounds_toArray, List.set_cons_zero, List.set_cons_succ]
      refine wpAnyH_take (i := 4) (v := ?_) (op_at (rest := _) rfl) (by kernel_rfl) (by kernel_rfl) (by kernel_rfl) (fun _ _ _ h => h) (Or.inl ⟨by rfl, ?_⟩) (by assumption) ?_
      rotate_left 1
      · (intro W hSw; (try dsimp only at hSw); go_simp; (try with_reducible rfl))
      try simp only [Act.put, List.setIfInBounds_toArray, List.set_cons_zero, List.set_cons_succ]
      refine wpAnyH_take (i := 6) (v := ?_) (op_at (rest := _) rfl) (by kernel_rfl) (by kernel_rfl) (by kernel_rfl) (fun _ _ _ h => h) (Or.inl ⟨by rfl, ?_⟩) (by assumption) ?_
      rotate_left 1
      · (intro W hSw; (try dsimp only at hSw); go_simp; (try with_reducible rfl))
      try simp only [Act.put, List.setIfInBounds_toArray, List.set_cons_zero, List.set_cons_succ]
      refine wpAnyH_take (i := 7) (v := ?_) (op_at (rest := _) rfl) (by kernel_rfl) (by kernel_rfl) (by kernel_rfl) (fun _ _ _ h => h) (Or.inl ⟨by rfl, ?_⟩) (by assumption) ?_
      rotate_left 1
      · (intro W hSw; (try dsimp only at hSw); have e3 := M3 W hSw; have e4 := M4 W hSw; go_simp; (try with_reducible rfl))
      try simp only [Act.put, List.setIfInBounds_toArray, List.set_cons_zero, List.set_cons_succ]
      refine wpAnyH_take (i := 8) (v := ?_) (op_at (rest := _) rfl) (by kernel_rfl) (by kernel_rfl) (by kernel_rfl) (fun _ _ _ h => h) (Or.inl ⟨by rfl, ?_⟩) (by assumption) ?_
      rotate_left 1
      · (intro W hSw; (try dsimp only at hSw); go_simp; (try with_reducible rfl))
      try simp only [Act.put, List.setIfInBounds_toArray, List.set_cons_zero, List.set_cons_succ]
      refine wpAnyH_take (i := 9) (v := ?_) (op_at (rest := _) rfl) (by kernel_rfl) (by kernel_rfl) (by kernel_rfl) (fun _ _ _ h => h) (Or.inl ⟨by rfl, ?_⟩) (by assumption) ?_
      rotate_left 1
      · (intro W hSw; (try dsimp only at hSw); go_simp; (try with_reducible rfl))
      try simp only [Act.put, List.setIfInBounds_toArray, List.set_cons_zero, List.set_cons_succ]
      refine wpAnyH_take (i := 10) (v := ?_) (op_at (rest := _) rfl) (by kernel_rfl) (by kernel_rfl) (by kernel_rfl) (fun _ _ _ h => h) (Or.inl ⟨by rfl, ?_⟩) (by assumption) ?_
      rotate_left 1
      · (intro W hSw; (try dsimp only at hSw); go_simp; (try with_reducible rfl))
      try simp only [Act.put, List.setIfInBounds_toArray, List.set_cons_zero, List.set_cons_succ]
      generalize (if cq = k + 1 then (some ⟨gh, oh, none⟩ : Option Addr) else some ⟨gh, oh + (k + 1) * 2, none⟩) = asf at *
      refine wpAnyH_ready (rs := [0]) (by kernel_rfl) (by simp) ?_
      refine AllReadyH.cons (op_at (rest := _) rfl) (fun K hK => ?_) AllReadyH.nil
      go_simp
      refine hK.out _ _ (hHeld.alloc hHeld.size _) (fun hH2 => ?_)
      clear hK K
      try simp only [Act.put, List.setIfInBounds_toArray, List.set_cons_zero, List.set_cons_succ]
      have hA2 : Below ((WQ.alloc (.cells #[.int .i64 kk, .string vv, .string tt, .slice ah hd.length ch, .slice (some ⟨gh, oh, none⟩) qu.length cq] 26))).heap.size (WQ.alloc (.cells #[.int .i64 kk, .string vv, .string tt, .slice ah hd.length ch, .slice (some ⟨gh, oh, none⟩) qu.length cq] 26)) (((WQ.alloc (.cells #[.int .i64 kk, .string vv, .string tt, .slice ah hd.length ch, .slice (some ⟨gh, oh, none⟩) qu.length cq] 26))).drew.alloc (.cells #[] 53)) := Below.alloc (Below.drew (Below.refl ((WQ.alloc (.cells #[.int .i64 kk, .string vv, .string tt, .slice ah hd.length ch, .slice (some ⟨gh, oh, none⟩) qu.length cq] 26))).heap.size ((WQ.alloc (.cells #[.int .i64 kk, .string vv, .string tt, .slice ah hd.length ch, .slice (some ⟨gh, oh, none⟩) qu.length cq] 26))))) (Nat.le_refl _) _
      refine wpAnyH_ready (rs := [5]) (by kernel_rfl) (by simp) ?_
      refine AllReadyH.cons (op_at (rest := _) rfl) (fun K hK => ?_) AllReadyH.nil
      refine step_append_prs _ _ _ rfl rfl (WQ.heap.size + 1) (.slice (some ⟨WQ.heap.size + 1, 0, none⟩) 0 0) 0 [] rfl (owns_emptyPN ((WQ.alloc (.cells #[.int .i64 kk, .string vv, .string tt, .slice ah hd.length ch, .slice (some ⟨gh, oh, none⟩) qu.length cq] 26))).drew (WQ.heap.size + 1) (by simp)) _ _ rfl (preP.below hA2) (by simp; omega) (by simp) ?_
      intro v5 w5 r5 g5
      have hS5 := hH2.grown g5 hH2.size (fun j e => Nat.le_trans (by omega) (ownBlock_ge (owns_emptyPN ((WQ.alloc (.cells #[.int .i64 kk, .string vv, .string tt, .slice ah hd.length ch, .slice (some ⟨gh, oh, none⟩) qu.length cq] 26))).drew (WQ.heap.size + 1) (by simp)) e))
      have hA5 := hA2.grown g5 hA2.size (fun j e => Nat.le_trans (by simp) (ownBlock_ge (owns_emptyPN ((WQ.alloc (.cells #[.int .i64 kk, .string vv, .string tt, .slice ah hd.length ch, .slice (some ⟨gh, oh, none⟩) qu.length cq] 26))).drew (WQ.heap.size + 1) (by simp)) e))
      refine hK.out _ _ hS5 (fun _ => ?_)
      clear hK K
      try simp only [Act.put, List.setIfInBounds_toArray, List.set_cons_zero, List.set_cons_succ]
      refine wpAnyH_ready (rs := [11]) (by kernel_rfl) (by simp) ?_
      refine AllReadyH.cons (op_at (rest := _) rfl) (fun K hK => ?_) AllReadyH.nil
      refine step_append_prs _ _ _ rfl rfl (WQ.heap.size + 1) _ _ _ rfl r5 _ _ rfl (sufP.below hA5) (by simp; omega) (by have := hA5.size; simp at this; omega) ?_
      intro v11 w11 r11 g11
      have hS11 := hS5.grown g11 hS5.size (fun j e => Nat.le_trans (by omega) (ownBlock_ge r5 e))
      have hA11 := hA5.grown g11 hA5.size (fun j e => Nat.le_trans (by simp) (ownBlock_ge r5 e))
      refine hK.out _ _ hS11 (fun _ => ?_)
      clear hK K
      try simp only [Act.put, List.setIfInBounds_toArray, List.set_cons_zero, List.set_cons_succ]
      obtain ⟨nl, hnl⟩ : ∃ z, z = cutAt qu k := ⟨_, rfl⟩
      have r11' : w11.ownsRow (WQ.heap.size + 1) 53 2 v11 nl.length (flat nl) := by
        rw [hnl]
        simpa using r11
      have HNL := hide hnl
      clear hnl r11
      obtain ⟨na, nc, hv11⟩ := row_form r11'
      subst hv11
      have kB : w11.heap[WQ.heap.size]? = some (.cells #[.int .i64 kk, .string vv, .string tt, .slice ah hd.length ch, .slice (some ⟨gh, oh, none⟩) qu.length cq] 26) := (hA11.block _ (by simp)).trans kA
      obtain ⟨z0, z1, z2, z3, z4⟩ := cell5 kB
      have lz := live5 kB
      refine wpAnyH_take (i := 12) (v := ?_) (op_at (rest := _) rfl) (by kernel_rfl) (by kernel_rfl) (by kernel_rfl) (fun _ _ _ h => h) (Or.inl ⟨by rfl, ?_⟩) (by assumption) ?_
      rotate_left 1
      · (intro W hSw; (try dsimp only at hSw); go_simp; (try with_reducible rfl))
      try simp only [Act.put, List.setIfInBounds_toArray, List.set_cons_zero, List.set_cons_succ]
      refine wpAnyH_ready (rs := [13]) (by kernel_rfl) (by simp) ?_
      refine AllReadyH.cons (op_at (rest := _) rfl) (fun K hK => ?_) AllReadyH.nil
      go_simp
      refine hK.out _ _ (hS11.setCell (p := ⟨WQ.heap.size, 4, none⟩) (Nat.le_refl _) _) (fun hSZ => ?_)
      clear hK K z0 z1 z2 z3 z4 lz
      try simp only [Act.put, List.setIfInBounds_toArray, List.set_cons_zero, List.set_cons_succ]
      refine wpAnyH_done (by kernel_rfl) ?_ _
      refine NoPanic.normal ?_
      have kL := setc4 (x := (.slice na nl.length nc)) kB
      have rL := row_setc (i := 4) (x := (.slice na nl.length nc)) r11' (Nat.lt_succ_self WQ.heap.size)
      clear kA kB r5 r11' g5 g11 hA2 hA5 hA11 hS5 hS11 hH2 hHeld preP sufP BAA M3 M4 f3 f4 g0 g1 g2 g3 g4
      generalize w11.setCell ⟨WQ.heap.size, 4, none⟩ (.slice na nl.length nc) = WL at *
      have BL : Below Z1.heap.size Z1 WL := bb2 BQ hSZ
      have prL := Prs.of_row rfl rL
      have l0 := fun q : GB WL => (cell5 ((q.h.block _ (blk_lt5 kL)).trans kL)).1
      have l1 := fun q : GB WL => (cell5 ((q.h.block _ (blk_lt5 kL)).trans kL)).2.1
      have l2 := fun q : GB WL => (cell5 ((q.h.block _ (blk_lt5 kL)).trans kL)).2.2.1
      have l3 := fun q : GB WL => (cell5 ((q.h.block _ (blk_lt5 kL)).trans kL)).2.2.2.1
      have l4 := fun q : GB WL => (cell5 ((q.h.block _ (blk_lt5 kL)).trans kL)).2.2.2.2
      obtain ⟨j0, j1, j2, j3, j4⟩ := cell5 kL
      go_wp2_with fail
      clear j0 j1 j2 j3 j4
      have P0 := fun q : GB WL => b0 ⟨q.W, bb2 BL q.h⟩
      have R0 := fun q : GB WL => c0 ⟨q.W, bb2 BL q.h⟩
      have P1 := fun q : GB WL => b1 ⟨q.W, bb2 BL q.h⟩
      have R1 := fun q : GB WL => c1 ⟨q.W, bb2 BL q.h⟩
      have P2 := fun q : GB WL => b2 ⟨q.W, bb2 BL q.h⟩
      have R2 := fun q : GB WL => c2 ⟨q.W, bb2 BL q.h⟩
      have P3 := fun q : GB WL => b3 ⟨q.W, bb2 BL q.h⟩
      have R3 := fun q : GB WL => c3 ⟨q.W, bb2 BL q.h⟩
      have P4 := fun q : GB WL => b4 ⟨q.W, bb2 BL q.h⟩
      have R4 := fun q : GB WL => c4 ⟨q.W, bb2 BL q.h⟩
      dsimp only at P0 P1 P2 P3 P4 R0 R1 R2 R3 R4
      clear b0 b1 b2 b3 b4 c0 c1 c2 c3 c4
      have ATL := (⟨ph.below BL, by rw [← HNL.out]; exact prL⟩ : Prs WL (.slice ah hd.length ch) hd ∧ Prs WL (.slice na nl.length nc) (cutAt qu k))
      have OKL : OkM (noQuery (⟨kk, vv, tt, hd, qu⟩ : MB) k) := ok_noQuery ok0 k
      have EM : Hid (Calls Try.prog 13 #[.agg #[.int .i64 kk, .string vv, .string tt, .slice ah hd.length ch, .slice na nl.length nc]] WL fun e w' => e = .returned (.bool true) ∧ Below (WL).heap.size WL w') := by
        have := may_m (noQuery (⟨kk, vv, tt, hd, qu⟩ : MB) k) (.slice ah hd.length ch) (.slice na nl.length nc) WL ATL.1 ATL.2 OKL
        rw [may_noQuery k HMY.out] at this
        exact this
      have EH := fun q : GB WL => hide (holds_m (⟨kk, vv, tt, hd, qu⟩ : MB) (.slice ah hd.length ch) (.slice (some ⟨gh, oh, none⟩) qu.length cq) x1.r x1.vq x1.vh q.W (ph.below (bb2 BL q.h)) (pq.below (bb2 BL q.h)) ok0 (at1.below (bb2 BL q.h)).1 (at1.below (bb2 BL q.h)).2 ok1)
      have EL : ∀ q : GB WL, Hid (Calls Try.prog 15 #[.agg #[.int .i64 kk, .string vv, .string tt, .slice ah hd.length ch, .slice na nl.length nc], rV x1.r x1.vq x1.vh] q.W fun e w' => e = .returned (.bool (holdM (noQuery (⟨kk, vv, tt, hd, qu⟩ : MB) k) x1.r)) ∧ Below q.W.heap.size q.W w') := fun q => holds_m (noQuery (⟨kk, vv, tt, hd, qu⟩ : MB) k) (.slice ah hd.length ch) (.slice na nl.length nc) x1.r x1.vq x1.vh q.W (ATL.1.below q.h) (ATL.2.below q.h) OKL (at1.below (bb2 BL q.h)).1 (at1.below (bb2 BL q.h)).2 ok1
      have EO : ∀ q : GB WL, Hid (Calls Try.prog 23 #[.agg #[.int .i64 kk, .string vv, .string tt, .slice ah hd.length ch, .slice na nl.length nc], mV (⟨kk, vv, tt, hd, qu⟩ : MB) (.slice ah hd.length ch) (.slice (some ⟨gh, oh, none⟩) qu.length cq)] q.W fun e w' => e = .returned (.int .i64 (ordM (noQuery (⟨kk, vv, tt, hd, qu⟩ : MB) k) (⟨kk, vv, tt, hd, qu⟩ : MB))) ∧ Below q.W.heap.size q.W w') := fun q => rorder_m (noQuery (⟨kk, vv, tt, hd, qu⟩ : MB) k) (⟨kk, vv, tt, hd, qu⟩ : MB) (.slice ah hd.length ch) (.slice na nl.length nc) (.slice ah hd.length ch) (.slice (some ⟨gh, oh, none⟩) qu.length cq) q.W (ATL.1.below q.h) (ATL.2.below q.h) (ph.below (bb2 BL q.h)) (pq.below (bb2 BL q.h)) OKL.order ok0.order
      have ho : 0 ≤ ordM (noQuery (⟨kk, vv, tt, hd, qu⟩ : MB) k) (⟨kk, vv, tt, hd, qu⟩ : MB) := less_query _ k
      have HHL : Hid (holdM (⟨kk, vv, tt, hd, qu⟩ : MB) x1.r = true → holdM (noQuery (⟨kk, vv, tt, hd, qu⟩ : MB) k) x1.r = true) := fun h => hold_noQuery k h
      generalize ordM (noQuery (⟨kk, vv, tt, hd, qu⟩ : MB) k) (⟨kk, vv, tt, hd, qu⟩ : MB) = od at *
      generalize holdM (noQuery (⟨kk, vv, tt, hd, qu⟩ : MB) k) x1.r = hl at *
      generalize holdM (⟨kk, vv, tt, hd, qu⟩ : MB) x1.r = hm at *
      clear ATL OKL ok0 ok1 at1 ph pq HMY k0 k1
      cases hm
      · clear HHL EL
        refine (calls_gb0 (EM.out)).mono ?_
        rintro e x ⟨rfl, q, rfl⟩
        go_wp2_with fail
        refine (calls_gb ((EH _).out)).mono ?_
        rintro e x ⟨rfl, q, rfl⟩
        go_wp2_with fail
        refine (calls_gb ((EO _).out)).mono ?_
        rintro e x ⟨rfl, q, rfl⟩
        go_wp2_with fail
        refine (calls_gb (ruawake_any _)).mono ?_
        rintro e x ⟨rfl, q, rfl⟩
        go_wp2_with fail
        go_ret
        exact ⟨rfl, bb2 (bb2 BZ BL) q.h⟩
      · obtain rfl := HHL.out rfl
        refine (calls_gb0 (EM.out)).mono ?_
        rintro e x ⟨rfl, q, rfl⟩
        go_wp2_with fail
        refine (calls_gb ((EH _).out)).mono ?_
        rintro e x ⟨rfl, q, rfl⟩
        go_wp2_with fail
        refine (calls_gb ((EL _).out)).mono ?_
        rintro e x ⟨rfl, q, rfl⟩
        go_wp2_with fail
        refine (calls_gb ((EO _).out)).mono ?_
        rintro e x ⟨rfl, q, rfl⟩
        go_wp2_with fail
        refine (calls_gb (ruawake_any _)).mono ?_
        rintro e x ⟨rfl, q, rfl⟩
        go_wp2_with fail
        go_ret
        exact ⟨rfl, bb2 (bb2 BZ BL) q.h⟩
  · have hpos' : ¬ (0 : Int) < (qu.length : Int) := by omega
    clear hpos
    rcases key with t1 | ⟨t1, t2⟩
    · go_wp2_with fail
      refine (calls_gb (E1 _).out).mono ?_
      rintro e x ⟨rfl, q, rfl⟩
      clear E1
      obtain ⟨WQ, hWQ⟩ : ∃ z, z = q.W := ⟨_, rfl⟩
      have BQ := q.h
      rw [← hWQ] at BQ ⊢
      clear hWQ q
      have BA : Below Z1.heap.size Z1 (WQ.alloc (.cells #[.int .i64 kk, .string vv, .string tt, .slice ah hd.length ch, .slice aq qu.length cq] 26)) := BQ.alloc BQ.size _
      have f3 := b3 ⟨(WQ.alloc (.cells #[.int .i64 kk, .string vv, .string tt, .slice ah hd.length ch, .slice aq qu.length cq] 26)), BA⟩
      have f4 := b4 ⟨(WQ.alloc (.cells #[.int .i64 kk, .string vv, .string tt, .slice ah hd.length ch, .slice aq qu.length cq] 26)), BA⟩
      have g0 := b0 ⟨WQ, BQ⟩
      have g1 := b1 ⟨WQ, BQ⟩
      have g2 := b2 ⟨WQ, BQ⟩
      have g3 := b3 ⟨WQ, BQ⟩
      have g4 := b4 ⟨WQ, BQ⟩
      dsimp only at f3 f4 g0 g1 g2 g3 g4
      go_wp2_with fail
      have BL : Below Z1.heap.size Z1 (WQ.alloc (.cells #[.int .i64 kk, .string vv, .string tt, .slice ah hd.length ch, .slice aq qu.length cq] 26)) := BQ.alloc BQ.size _
      have l0 := fun q : GB (WQ.alloc (.cells #[.int .i64 kk, .string vv, .string tt, .slice ah hd.length ch, .slice aq qu.length cq] 26)) => (box5 q.h).1
      have l1 := fun q : GB (WQ.alloc (.cells #[.int .i64 kk, .string vv, .string tt, .slice ah hd.length ch, .slice aq qu.length cq] 26)) => (box5 q.h).2.1
      have l2 := fun q : GB (WQ.alloc (.cells #[.int .i64 kk, .string vv, .string tt, .slice ah hd.length ch, .slice aq qu.length cq] 26)) => (box5 q.h).2.2.1
      have l3 := fun q : GB (WQ.alloc (.cells #[.int .i64 kk, .string vv, .string tt, .slice ah hd.length ch, .slice aq qu.length cq] 26)) => (box5 q.h).2.2.2.1
      have l4 := fun q : GB (WQ.alloc (.cells #[.int .i64 kk, .string vv, .string tt, .slice ah hd.length ch, .slice aq qu.length cq] 26)) => (box5 q.h).2.2.2.2
      have P0 := fun q : GB (WQ.alloc (.cells #[.int .i64 kk, .string vv, .string tt, .slice ah hd.length ch, .slice aq qu.length cq] 26)) => b0 ⟨q.W, bb2 BL q.h⟩
      have R0 := fun q : GB (WQ.alloc (.cells #[.int .i64 kk, .string vv, .string tt, .slice ah hd.length ch, .slice aq qu.length cq] 26)) => c0 ⟨q.W, bb2 BL q.h⟩
      have P1 := fun q : GB (WQ.alloc (.cells #[.int .i64 kk, .string vv, .string tt, .slice ah hd.length ch, .slice aq qu.length cq] 26)) => b1 ⟨q.W, bb2 BL q.h⟩
      have R1 := fun q : GB (WQ.alloc (.cells #[.int .i64 kk, .string vv, .string tt, .slice ah hd.length ch, .slice aq qu.length cq] 26)) => c1 ⟨q.W, bb2 BL q.h⟩
      have P2 := fun q : GB (WQ.alloc (.cells #[.int .i64 kk, .string vv, .string tt, .slice ah hd.length ch, .slice aq qu.length cq] 26)) => b2 ⟨q.W, bb2 BL q.h⟩
      have R2 := fun q : GB (WQ.alloc (.cells #[.int .i64 kk, .string vv, .string tt, .slice ah hd.length ch, .slice aq qu.length cq] 26)) => c2 ⟨q.W, bb2 BL q.h⟩
      have P3 := fun q : GB (WQ.alloc (.cells #[.int .i64 kk, .string vv, .string tt, .slice ah hd.length ch, .slice aq qu.length cq] 26)) => b3 ⟨q.W, bb2 BL q.h⟩
      have R3 := fun q : GB (WQ.alloc (.cells #[.int .i64 kk, .string vv, .string tt, .slice ah hd.length ch, .slice aq qu.length cq] 26)) => c3 ⟨q.W, bb2 BL q.h⟩
      have P4 := fun q : GB (WQ.alloc (.cells #[.int .i64 kk, .string vv, .string tt, .slice ah hd.length ch, .slice aq qu.length cq] 26)) => b4 ⟨q.W, bb2 BL q.h⟩
      have R4 := fun q : GB (WQ.alloc (.cells #[.int .i64 kk, .string vv, .string tt, .slice ah hd.length ch, .slice aq qu.length cq] 26)) => c4 ⟨q.W, bb2 BL q.h⟩
      dsimp only at P0 P1 P2 P3 P4 R0 R1 R2 R3 R4
      clear f3 f4 g0 g1 g2 g3 g4 b0 b1 b2 b3 b4 c0 c1 c2 c3 c4
      have ATL := (⟨ph.below BL, pq.below BL⟩ : Prs (WQ.alloc (.cells #[.int .i64 kk, .string vv, .string tt, .slice ah hd.length ch, .slice aq qu.length cq] 26)) (.slice ah hd.length ch) hd ∧ Prs (WQ.alloc (.cells #[.int .i64 kk, .string vv, .string tt, .slice ah hd.length ch, .slice aq qu.length cq] 26)) (.slice aq qu.length cq) qu)
      have OKL : OkM (⟨kk, vv, tt, hd, qu⟩ : MB) := ok0
      have EM : Hid (Calls Try.prog 13 #[.agg #[.int .i64 kk, .string vv, .string tt, .slice ah hd.length ch, .slice aq qu.length cq]] (WQ.alloc (.cells #[.int .i64 kk, .string vv, .string tt, .slice ah hd.length ch, .slice aq qu.length cq] 26)) fun e w' => e = .returned (.bool true) ∧ Below ((WQ.alloc (.cells #[.int .i64 kk, .string vv, .string tt, .slice ah hd.length ch, .slice aq qu.length cq] 26))).heap.size (WQ.alloc (.cells #[.int .i64 kk, .string vv, .string tt, .slice ah hd.length ch, .slice aq qu.length cq] 26)) w') := by
        have := may_m (⟨kk, vv, tt, hd, qu⟩ : MB) (.slice ah hd.length ch) (.slice aq qu.length cq) (WQ.alloc (.cells #[.int .i64 kk, .string vv, .string tt, .slice ah hd.length ch, .slice aq qu.length cq] 26)) ATL.1 ATL.2 OKL
        rw [HMY.out] at this
        exact this
      have EH := fun q : GB (WQ.alloc (.cells #[.int .i64 kk, .string vv, .string tt, .slice ah hd.length ch, .slice aq qu.length cq] 26)) => hide (holds_m (⟨kk, vv, tt, hd, qu⟩ : MB) (.slice ah hd.length ch) (.slice aq qu.length cq) x1.r x1.vq x1.vh q.W (ph.below (bb2 BL q.h)) (pq.below (bb2 BL q.h)) ok0 (at1.below (bb2 BL q.h)).1 (at1.below (bb2 BL q.h)).2 ok1)
      have EL : ∀ q : GB (WQ.alloc (.cells #[.int .i64 kk, .string vv, .string tt, .slice ah hd.length ch, .slice aq qu.length cq] 26)), Hid (Calls Try.prog 15 #[.agg #[.int .i64 kk, .string vv, .string tt, .slice ah hd.length ch, .slice aq qu.length cq], rV x1.r x1.vq x1.vh] q.W fun e w' => e = .returned (.bool (holdM (⟨kk, vv, tt, hd, qu⟩ : MB) x1.r)) ∧ Below q.W.heap.size q.W w') := fun q => holds_m (⟨kk, vv, tt, hd, qu⟩ : MB) (.slice ah hd.length ch) (.slice aq qu.length cq) x1.r x1.vq x1.vh q.W (ATL.1.below q.h) (ATL.2.below q.h) OKL (at1.below (bb2 BL q.h)).1 (at1.below (bb2 BL q.h)).2 ok1
      have EO : ∀ q : GB (WQ.alloc (.cells #[.int .i64 kk, .string vv, .string tt, .slice ah hd.length ch, .slice aq qu.length cq] 26)), Hid (Calls Try.prog 23 #[.agg #[.int .i64 kk, .string vv, .string tt, .slice ah hd.length ch, .slice aq qu.length cq], mV (⟨kk, vv, tt, hd, qu⟩ : MB) (.slice ah hd.length ch) (.slice aq qu.length cq)] q.W fun e w' => e = .returned (.int .i64 (ordM (⟨kk, vv, tt, hd, qu⟩ : MB) (⟨kk, vv, tt, hd, qu⟩ : MB))) ∧ Below q.W.heap.size q.W w') := fun q => rorder_m (⟨kk, vv, tt, hd, qu⟩ : MB) (⟨kk, vv, tt, hd, qu⟩ : MB) (.slice ah hd.length ch) (.slice aq qu.length cq) (.slice ah hd.length ch) (.slice aq qu.length cq) q.W (ATL.1.below q.h) (ATL.2.below q.h) (ph.below (bb2 BL q.h)) (pq.below (bb2 BL q.h)) OKL.order ok0.order
      have ho : 0 ≤ ordM (⟨kk, vv, tt, hd, qu⟩ : MB) (⟨kk, vv, tt, hd, qu⟩ : MB) := less_none _
      have HHL : Hid (holdM (⟨kk, vv, tt, hd, qu⟩ : MB) x1.r = true → holdM (⟨kk, vv, tt, hd, qu⟩ : MB) x1.r = true) := fun h => h
      generalize ordM (⟨kk, vv, tt, hd, qu⟩ : MB) (⟨kk, vv, tt, hd, qu⟩ : MB) = od at *
      generalize holdM (⟨kk, vv, tt, hd, qu⟩ : MB) x1.r = hm at *
      clear ATL OKL ok0 ok1 at1 ph pq HMY k0 k1
      cases hm
      · clear HHL EL
        refine (calls_gb0 (EM.out)).mono ?_
        rintro e x ⟨rfl, q, rfl⟩
        go_wp2_with fail
        refine (calls_gb ((EH _).out)).mono ?_
        rintro e x ⟨rfl, q, rfl⟩
        go_wp2_with fail
        refine (calls_gb ((EO _).out)).mono ?_
        rintro e x ⟨rfl, q, rfl⟩
        go_wp2_with fail
        refine (calls_gb (ruawake_any _)).mono ?_
        rintro e x ⟨rfl, q, rfl⟩
        go_wp2_with fail
        go_ret
        exact ⟨rfl, bb2 (bb2 BZ BL) q.h⟩
      · clear HHL
        refine (calls_gb0 (EM.out)).mono ?_
        rintro e x ⟨rfl, q, rfl⟩
        go_wp2_with fail
        refine (calls_gb ((EH _).out)).mono ?_
        rintro e x ⟨rfl, q, rfl⟩
        go_wp2_with fail
        refine (calls_gb ((EL _).out)).mono ?_
        rintro e x ⟨rfl, q, rfl⟩
        go_wp2_with fail
        refine (calls_gb ((EO _).out)).mono ?_
        rintro e x ⟨rfl, q, rfl⟩
        go_wp2_with fail
        refine (calls_gb (ruawake_any _)).mono ?_
        rintro e x ⟨rfl, q, rfl⟩
        go_wp2_with fail
        go_ret
        exact ⟨rfl, bb2 (bb2 BZ BL) q.h⟩
    · go_wp2_with fail
      refine (calls_gb (E1 _).out).mono ?_
      rintro e x ⟨rfl, q, rfl⟩
      clear E1
      obtain ⟨WQ, hWQ⟩ : ∃ z, z = q.W := ⟨_, rfl⟩
      have BQ := q.h
      rw [← hWQ] at BQ ⊢
      clear hWQ q
      have BA : Below Z1.heap.size Z1 (WQ.alloc (.cells #[.int .i64 kk, .string vv, .string tt, .slice ah hd.length ch, .slice aq qu.length cq] 26)) := BQ.alloc BQ.size _
      have f3 := b3 ⟨(WQ.alloc (.cells #[.int .i64 kk, .string vv, .string tt, .slice ah hd.length ch, .slice aq qu.length cq] 26)), BA⟩
      have f4 := b4 ⟨(WQ.alloc (.cells #[.int .i64 kk, .string vv, .string tt, .slice ah hd.length ch, .slice aq qu.length cq] 26)), BA⟩
      have g0 := b0 ⟨WQ, BQ⟩
      have g1 := b1 ⟨WQ, BQ⟩
      have g2 := b2 ⟨WQ, BQ⟩
      have g3 := b3 ⟨WQ, BQ⟩
      have g4 := b4 ⟨WQ, BQ⟩
      dsimp only at f3 f4 g0 g1 g2 g3 g4
      go_wp2_with fail
      have BL : Below Z1.heap.size Z1 (WQ.alloc (.cells #[.int .i64 kk, .string vv, .string tt, .slice ah hd.length ch, .slice aq qu.length cq] 26)) := BQ.alloc BQ.size _
      have l0 := fun q : GB (WQ.alloc (.cells #[.int .i64 kk, .string vv, .string tt, .slice ah hd.length ch, .slice aq qu.length cq] 26)) => (box5 q.h).1
      have l1 := fun q : GB (WQ.alloc (.cells #[.int .i64 kk, .string vv, .string tt, .slice ah hd.length ch, .slice aq qu.length cq] 26)) => (box5 q.h).2.1
      have l2 := fun q : GB (WQ.alloc (.cells #[.int .i64 kk, .string vv, .string tt, .slice ah hd.length ch, .slice aq qu.length cq] 26)) => (box5 q.h).2.2.1
      have l3 := fun q : GB (WQ.alloc (.cells #[.int .i64 kk, .string vv, .string tt, .slice ah hd.length ch, .slice aq qu.length cq] 26)) => (box5 q.h).2.2.2.1
      have l4 := fun q : GB (WQ.alloc (.cells #[.int .i64 kk, .string vv, .string tt, .slice ah hd.length ch, .slice aq qu.length cq] 26)) => (box5 q.h).2.2.2.2
      have P0 := fun q : GB (WQ.alloc (.cells #[.int .i64 kk, .string vv, .string tt, .slice ah hd.length ch, .slice aq qu.length cq] 26)) => b0 ⟨q.W, bb2 BL q.h⟩
      have R0 := fun q : GB (WQ.alloc (.cells #[.int .i64 kk, .string vv, .string tt, .slice ah hd.length ch, .slice aq qu.length cq] 26)) => c0 ⟨q.W, bb2 BL q.h⟩
      have P1 := fun q : GB (WQ.alloc (.cells #[.int .i64 kk, .string vv, .string tt, .slice ah hd.length ch, .slice aq qu.length cq] 26)) => b1 ⟨q.W, bb2 BL q.h⟩
      have R1 := fun q : GB (WQ.alloc (.cells #[.int .i64 kk, .string vv, .string tt, .slice ah hd.length ch, .slice aq qu.length cq] 26)) => c1 ⟨q.W, bb2 BL q.h⟩
      have P2 := fun q : GB (WQ.alloc (.cells #[.int .i64 kk, .string vv, .string tt, .slice ah hd.length ch, .slice aq qu.length cq] 26)) => b2 ⟨q.W, bb2 BL q.h⟩
      have R2 := fun q : GB (WQ.alloc (.cells #[.int .i64 kk, .string vv, .string tt, .slice ah hd.length ch, .slice aq qu.length cq] 26)) => c2 ⟨q.W, bb2 BL q.h⟩
      have P3 := fun q : GB (WQ.alloc (.cells #[.int .i64 kk, .string vv, .string tt, .slice ah hd.length ch, .slice aq qu.length cq] 26)) => b3 ⟨q.W, bb2 BL q.h⟩
      have R3 := fun q : GB (WQ.alloc (.cells #[.int .i64 kk, .string vv, .string tt, .slice ah hd.length ch, .slice aq qu.length cq] 26)) => c3 ⟨q.W, bb2 BL q.h⟩
      have P4 := fun q : GB (WQ.alloc (.cells #[.int .i64 kk, .string vv, .string tt, .slice ah hd.length ch, .slice aq qu.length cq] 26)) => b4 ⟨q.W, bb2 BL q.h⟩
      have R4 := fun q : GB (WQ.alloc (.cells #[.int .i64 kk, .string vv, .string tt, .slice ah hd.length ch, .slice aq qu.length cq] 26)) => c4 ⟨q.W, bb2 BL q.h⟩
      dsimp only at P0 P1 P2 P3 P4 R0 R1 R2 R3 R4
      clear f3 f4 g0 g1 g2 g3 g4 b0 b1 b2 b3 b4 c0 c1 c2 c3 c4
      have ATL := (⟨ph.below BL, pq.below BL⟩ : Prs (WQ.alloc (.cells #[.int .i64 kk, .string vv, .string tt, .slice ah hd.length ch, .slice aq qu.length cq] 26)) (.slice ah hd.length ch) hd ∧ Prs (WQ.alloc (.cells #[.int .i64 kk, .string vv, .string tt, .slice ah hd.length ch, .slice aq qu.length cq] 26)) (.slice aq qu.length cq) qu)
      have OKL : OkM (⟨kk, vv, tt, hd, qu⟩ : MB) := ok0
      have EM : Hid (Calls Try.prog 13 #[.agg #[.int .i64 kk, .string vv, .string tt, .slice ah hd.length ch, .slice aq qu.length cq]] (WQ.alloc (.cells #[.int .i64 kk, .string vv, .string tt, .slice ah hd.length ch, .slice aq qu.length cq] 26)) fun e w' => e = .returned (.bool true) ∧ Below ((WQ.alloc (.cells #[.int .i64 kk, .string vv, .string tt, .slice ah hd.length ch, .slice aq qu.length cq] 26))).heap.size (WQ.alloc (.cells #[.int .i64 kk, .string vv, .string tt, .slice ah hd.length ch, .slice aq qu.length cq] 26)) w') := by
        have := may_m (⟨kk, vv, tt, hd, qu⟩ : MB) (.slice ah hd.length ch) (.slice aq qu.length cq) (WQ.alloc (.cells #[.int .i64 kk, .string vv, .string tt, .slice ah hd.length ch, .slice aq qu.length cq] 26)) ATL.1 ATL.2 OKL
        rw [HMY.out] at this
        exact this
      have EH := fun q : GB (WQ.alloc (.cells #[.int .i64 kk, .string vv, .string tt, .slice ah hd.length ch, .slice aq qu.length cq] 26)) => hide (holds_m (⟨kk, vv, tt, hd, qu⟩ : MB) (.slice ah hd.length ch) (.slice aq qu.length cq) x1.r x1.vq x1.vh q.W (ph.below (bb2 BL q.h)) (pq.below (bb2 BL q.h)) ok0 (at1.below (bb2 BL q.h)).1 (at1.below (bb2 BL q.h)).2 ok1)
      have EL : ∀ q : GB (WQ.alloc (.cells #[.int .i64 kk, .string vv, .string tt, .slice ah hd.length ch, .slice aq qu.length cq] 26)), Hid (Calls Try.prog 15 #[.agg #[.int .i64 kk, .string vv, .string tt, .slice ah hd.length ch, .slice aq qu.length cq], rV x1.r x1.vq x1.vh] q.W fun e w' => e = .returned (.bool (holdM (⟨kk, vv, tt, hd, qu⟩ : MB) x1.r)) ∧ Below q.W.heap.size q.W w') := fun q => holds_m (⟨kk, vv, tt, hd, qu⟩ : MB) (.slice ah hd.length ch) (.slice aq qu.length cq) x1.r x1.vq x1.vh q.W (ATL.1.below q.h) (ATL.2.below q.h) OKL (at1.below (bb2 BL q.h)).1 (at1.below (bb2 BL q.h)).2 ok1
      have EO : ∀ q : GB (WQ.alloc (.cells #[.int .i64 kk, .string vv, .string tt, .slice ah hd.length ch, .slice aq qu.length cq] 26)), Hid (Calls Try.prog 23 #[.agg #[.int .i64 kk, .string vv, .string tt, .slice ah hd.length ch, .slice aq qu.length cq], mV (⟨kk, vv, tt, hd, qu⟩ : MB) (.slice ah hd.length ch) (.slice aq qu.length cq)] q.W fun e w' => e = .returned (.int .i64 (ordM (⟨kk, vv, tt, hd, qu⟩ : MB) (⟨kk, vv, tt, hd, qu⟩ : MB))) ∧ Below q.W.heap.size q.W w') := fun q => rorder_m (⟨kk, vv, tt, hd, qu⟩ : MB) (⟨kk, vv, tt, hd, qu⟩ : MB) (.slice ah hd.length ch) (.slice aq qu.length cq) (.slice ah hd.length ch) (.slice aq qu.length cq) q.W (ATL.1.below q.h) (ATL.2.below q.h) (ph.below (bb2 BL q.h)) (pq.below (bb2 BL q.h)) OKL.order ok0.order
      have ho : 0 ≤ ordM (⟨kk, vv, tt, hd, qu⟩ : MB) (⟨kk, vv, tt, hd, qu⟩ : MB) := less_none _
      have HHL : Hid (holdM (⟨kk, vv, tt, hd, qu⟩ : MB) x1.r = true → holdM (⟨kk, vv, tt, hd, qu⟩ : MB) x1.r = true) := fun h => h
      generalize ordM (⟨kk, vv, tt, hd, qu⟩ : MB) (⟨kk, vv, tt, hd, qu⟩ : MB) = od at *
      generalize holdM (⟨kk, vv, tt, hd, qu⟩ : MB) x1.r = hm at *
      clear ATL OKL ok0 ok1 at1 ph pq HMY k0 k1
      cases hm
      · clear HHL EL
        refine (calls_gb0 (EM.out)).mono ?_
        rintro e x ⟨rfl, q, rfl⟩
        go_wp2_with fail
        refine (calls_gb ((EH _).out)).mono ?_
        rintro e x ⟨rfl, q, rfl⟩
        go_wp2_with fail
        refine (calls_gb ((EO _).out)).mono ?_
        rintro e x ⟨rfl, q, rfl⟩
        go_wp2_with fail
        refine (calls_gb (ruawake_any _)).mono ?_
        rintro e x ⟨rfl, q, rfl⟩
        go_wp2_with fail
        go_ret
        exact ⟨rfl, bb2 (bb2 BZ BL) q.h⟩
      · clear HHL
        refine (calls_gb0 (EM.out)).mono ?_
        rintro e x ⟨rfl, q, rfl⟩
        go_wp2_with fail
        refine (calls_gb ((EH _).out)).mono ?_
        rintro e x ⟨rfl, q, rfl⟩
        go_wp2_with fail
        refine (calls_gb ((EL _).out)).mono ?_
        rintro e x ⟨rfl, q, rfl⟩
        go_wp2_with fail
        refine (calls_gb ((EO _).out)).mono ?_
        rintro e x ⟨rfl, q, rfl⟩
        go_wp2_with fail
        refine (calls_gb (ruawake_any _)).mono ?_
        rintro e x ⟨rfl, q, rfl⟩
        go_wp2_with fail
        go_ret
        exact ⟨rfl, bb2 (bb2 BZ BL) q.h⟩

end Go.Proofs.Ytppnkfjdgalgbaa
