/-
  The law RuleFirst.
-/
import Derived.Test.YtppnkfjdgalgbaaRuArg
import Derived.Test.YtppnkfjdgalgbaaRuLawB
namespace Go.Proofs.Ytppnkfjdgalgbaa
open Go Go.RowKit Go.Shelf Go.Deep

attribute [local go_sem] gb_const

theorem Mts.at_block {w : World} {p : Nat} {x : MV} (hb : w.heap[p]? = some (.cells #[.int .i64 x.m.kind, .string x.m.val, .string x.m.meth, x.vh, x.vq] 26)) (hx : x.at_ w) : Mts w (.slice (some ⟨p, 0, none⟩) 1 1) [x] := by
  refine ⟨_, 1, rfl, Nat.le_refl _, by decide, fun i hi => ?_⟩
  have : i = 0 := by simpa using hi
  subst this
  obtain ⟨c0, c1, c2, c3, c4⟩ := cell5 hb
  exact ⟨hx, p, 0, rfl, blk_lt5 hb, c0, c1, c2, c3, c4⟩
theorem owns_emptyN (w : World) (n : Nat) (h : w.heap.size = n) : (w.alloc (.cells #[] 26)).ownsRow n 26 5 (.slice (some ⟨n, 0, none⟩) 0 0) 0 [] := by
  subst h
  exact owns_emptyM w
/-- what is first, and what follows of it -/
theorem first_facts (r : RB) (L : List MV) : (bestM r (L.map MV.m) = none ∧ ∀ k (hk : k < L.length), holdM L[k].m r = false) ∨
    ∃ (i : Nat) (hi : i < L.length), bestM r (L.map MV.m) = some (i, L[i].m) ∧ holdM L[i].m r = true ∧ ∀ k (hk : k < L.length), holdM L[k].m r = true → ahM L[k].m L[i].m = false := by
  cases hb : bestM r (L.map MV.m) with
  | none => exact .inl ⟨rfl, fun k hk => Ru.best_isnone (h := fun m => holdM m r) ahM_rank hb _ (List.mem_map.2 ⟨_, List.getElem_mem hk, rfl⟩)⟩
  | some p =>
    obtain ⟨i, y⟩ := p
    right
    have b := Ru.best_is (h := fun m => holdM m r) ahM_rank hb
    have hi : i < L.length := by have := b.lt; rwa [List.length_map] at this
    have e := b.at_
    rw [List.getElem?_map, List.getElem?_eq_getElem hi] at e
    have e' : L[i].m = y := Option.some.inj e
    subst e'
    exact ⟨i, hi, rfl, b.holds, fun k hk h => b.none_ahead k _ (by rw [List.length_map]; exact hk) (by rw [List.getElem?_map, List.getElem?_eq_getElem hk]; rfl) h⟩
theorem first_more {r : RB} {L : List MV} {i : Nat} {y : MB} (h : bestM r (L.map MV.m) = some (i, y)) (x : MV) : bestM r ((L ++ [x]).map MV.m) = if holdM x.m r && ahM x.m y then some (L.length, x.m) else some (i, y) := by
  rw [List.map_append]
  have := Ru.best_snoc (h := fun m => holdM m r) (ah := ahM) (L.map MV.m) x.m
  show Ru.best _ _ (L.map MV.m ++ [x.m]) = _
  rw [this, show Ru.best (fun m => holdM m r) ahM (L.map MV.m) = some (i, y) from h, List.length_map]
  rfl

set_option maxHeartbeats 6400000 in
theorem first_law (v0 v1 v2 : Value) (w : World) (h0 : ArgL w v0) (h1 : ArgR w v1) (h2 : ArgM w v2) :
    Calls Try.prog 6 #[v0, v1, v2] w fun e w' => e = .returned (.bool true) ∧ Below w.heap.size w w' := by
  obtain ⟨l0, hat0, raw0⟩ := h0
  obtain ⟨y1, rfl, hat1, raw1⟩ := h1
  obtain ⟨y2, rfl, hat2, raw2⟩ := h2
  have C0 := fun W (h : Below w.heap.size w W) => hide (some_any v0 l0 W (hat0.below h) raw0)
  have C1 := fun W (h : Below w.heap.size w W) => hide (asked_any y1.r y1.vq y1.vh W raw1 (hat1.below h).1 (hat1.below h).2)
  have C2 := fun W (h : Below w.heap.size w W) => hide (mfew_any y2.m y2.vh y2.vq W raw2 (hat2.below h).1 (hat2.below h).2)
  clear hat0 raw0 hat1 raw1 hat2 raw2
  obtain ⟨base, hbase⟩ : ∃ z, z = ((w.alloc (.cells #[.string y1.r.meth, .string y1.r.host, .string y1.r.path, y1.vq, y1.vh] 28)).alloc (.cells #[.int .i64 y2.m.kind, .string y2.m.val, .string y2.m.meth, y2.vh, y2.vq] 26)) := ⟨_, rfl⟩
  have HB : ∀ W, Below base.heap.size base W → W.heap[w.heap.size]? = some (.cells #[.string y1.r.meth, .string y1.r.host, .string y1.r.path, y1.vq, y1.vh] 28) ∧ W.heap[w.heap.size + 1]? = some (.cells #[.int .i64 y2.m.kind, .string y2.m.val, .string y2.m.meth, y2.vh, y2.vq] 26) := fun W h => blocks2 (by rw [← hbase]; exact h)
  have B0 : Below w.heap.size w base := by rw [hbase]; exact below2 w
  have hbs : Hid (base.heap.size = w.heap.size + 2) := by unfold Hid; rw [hbase]; simp
  have m10 := fun W h => (cell5 (HB W h).1).1
  have m11 := fun W h => (cell5 (HB W h).1).2.1
  have m12 := fun W h => (cell5 (HB W h).1).2.2.1
  have m13 := fun W h => (cell5 (HB W h).1).2.2.2.1
  have m14 := fun W h => (cell5 (HB W h).1).2.2.2.2
  have m20 := fun W h => (cell5 (HB W h).2).1
  have m21 := fun W h => (cell5 (HB W h).2).2.1
  have m22 := fun W h => (cell5 (HB W h).2).2.2.1
  have m23 := fun W h => (cell5 (HB W h).2).2.2.2.1
  have m24 := fun W h => (cell5 (HB W h).2).2.2.2.2
  have HBH := hide HB
  clear HB
  go_enter Try.func6, Try.ntmps6
  go_wp2_with fail
  rw [← hbase]
  clear hbase
  refine wp_region_G 6 (fun w' => Below base.heap.size base w') (by kernel_rfl) ((Below.refl _ _).drew) ?_
  refine wpG_take (i := 0) 5 (v := v0) rfl (by kernel_rfl) (by kernel_rfl) (by kernel_rfl) (by decide) (by kernel_rfl) (by kernel_rfl) (fun _ _ _ h => h) (Or.inl ⟨by rfl, fun w1 hS => ?_⟩) ?_
  · (try dsimp only at hS)
    go_simp
  simp only [Act.put, List.setIfInBounds_toArray, List.set_cons_zero, List.set_cons_succ]
  refine wpG_take (i := 2) 5 (v := rV y1.r y1.vq y1.vh) rfl (by kernel_rfl) (by kernel_rfl) (by kernel_rfl) (by decide) (by kernel_rfl) (by kernel_rfl) (fun _ _ _ h => h) (Or.inl ⟨by rfl, fun w1 hS => ?_⟩) ?_
  · (try dsimp only at hS)
    go_simp
  simp only [Act.put, List.setIfInBounds_toArray, List.set_cons_zero, List.set_cons_succ]
  refine wpG_take (i := 4) 5 (v := mV y2.m y2.vh y2.vq) rfl (by kernel_rfl) (by kernel_rfl) (by kernel_rfl) (by decide) (by kernel_rfl) (by kernel_rfl) (fun _ _ _ h => h) (Or.inl ⟨by rfl, fun w1 hS => ?_⟩) ?_
  · (try dsimp only at hS)
    go_simp
  simp only [Act.put, List.setIfInBounds_toArray, List.set_cons_zero, List.set_cons_succ]
  clear m10 m11 m12 m13 m14 m20 m21 m22 m23 m24
  refine wpG_ready (rs := [1]) (by kernel_rfl) (by simp) (fun W1 hG1 hS1 i hi => ?_)
  obtain rfl : i = 1 := by simpa using hi
  clear hi
  refine wpOp_step rfl (by rfl) (fun K' hK' => ?_)
  replace hK' := hide hK'
  go_simp
  refine (C0 _ (B0.trans (hS1.mono B0.size))).out.mono ?_
  rintro e z0 ⟨u0, rfl, L0, hx0, row0, own0, hb0⟩
  have hb0B : base.heap.size ≤ W1.heap.size := hS1.size
  have ok0 : ∀ x ∈ L0, OkM x.m := fun x hx => someM_ok _ _ (by rw [← hx0]; exact List.mem_map.2 ⟨x, hx, rfl⟩)
  have len0 : L0.length ≤ 10 := by
    have := someM_len (l0.map MV.m)
    rw [← hx0, List.length_map] at this
    exact this
  clear hx0
  have BK0 := hS1.trans (hb0.mono hS1.size)
  go_wp2_with fail
  refine hK'.out _ _ (wpG_kept (by decide) BK0 ?_)
  clear hK' K' hG1 hb0 BK0
  clear hS1
  obtain ⟨bl0, hbl0⟩ : ∃ z, z = W1.heap.size := ⟨_, rfl⟩
  rw [← hbl0] at row0 hb0B
  clear hbl0
  refine wpG_ready (rs := [3]) (by kernel_rfl) (by simp) (fun W3 hG3 hS3 i hi => ?_)
  obtain rfl : i = 3 := by simpa using hi
  clear hi
  refine wpOp_step rfl (by rfl) (fun K' hK' => ?_)
  replace hK' := hide hK'
  go_simp
  refine (C1 _ (B0.trans (hS3.mono B0.size))).out.mono ?_
  rintro e z1 ⟨x1, rfl, hx1, own1, hb1⟩
  have ok1 : OkR x1.r := by rw [hx1]; exact fewR_ok _
  clear hx1
  replace row0 := ownsRow_below (ownsRow_below row0 hG3) hb1
  replace own0 := fun x hx => ((own0 x hx).below hG3).below hb1
  have BK1 := hS3.trans (hb1.mono hS3.size)
  go_wp2_with fail
  refine hK'.out _ _ (wpG_kept (by decide) BK1 ?_)
  clear hK' K' hG3 hb1 BK1
  clear hS3
  refine wpG_ready (rs := [5]) (by kernel_rfl) (by simp) (fun W5 hG5 hS5 i hi => ?_)
  obtain rfl : i = 5 := by simpa using hi
  clear hi
  refine wpOp_step rfl (by rfl) (fun K' hK' => ?_)
  replace hK' := hide hK'
  go_simp
  refine (C2 _ (B0.trans (hS5.mono B0.size))).out.mono ?_
  rintro e z2 ⟨x2, rfl, hx2, own2, hb2⟩
  have ok2 : OkM x2.m := by rw [hx2]; exact fewM_ok _
  clear hx2
  replace row0 := ownsRow_below (ownsRow_below row0 hG5) hb2
  replace own0 := fun x hx => ((own0 x hx).below hG5).below hb2
  replace own1 := (own1.below hG5).below hb2
  have BK2 := hS5.trans (hb2.mono hS5.size)
  go_wp2_with fail
  refine hK'.out _ _ (wpG_kept (by decide) BK2 ?_)
  clear hK' K' hG5 hb2 BK2
  clear hS5
  refine wpG_ready (rs := [6]) (by kernel_rfl) (by simp) (fun W hG hS i hi => ?_)
  obtain rfl : i = 6 := by simpa using hi
  clear hi
  have k1 := (HBH.out W hS).1
  have k2 := (HBH.out W hS).2
  replace row0 := ownsRow_below row0 hG
  replace own0 := fun x hx => (own0 x hx).below hG
  replace own1 := own1.below hG
  replace own2 := own2.below hG
  have BZ := B0.trans (hS.mono B0.size)
  clear hG hS HBH C0 C1 C2
  refine wpOp_step rfl (by rfl) (fun K' hK' => ?_)
  go_simp
  refine hK' _ _ (wpG_past (by decide) ?_)
  clear hK' K'
  refine wpAny_one (i := 7) (by kernel_rfl) ?_
  obtain ⟨f0, f1, f2, f3, f4⟩ := cell5 k1
  have lv := live5 k1
  refine wpOp_step rfl (by rfl) (fun K' hK' => ?_)
  go_simp
  refine hK' _ _ ?_
  clear hK' K'
  clear f0 f1 f2 f3 f4 lv
  replace row0 := row_set5b (g := w.heap.size) (a := .string x1.r.meth) (b := .string x1.r.host) (c := .string x1.r.path) (d := x1.vq) (e := x1.vh) row0 (by have := hbs.out; omega)
  replace own0 := fun x hx => (own0 x hx).set5 (a := .string x1.r.meth) (b := .string x1.r.host) (c := .string x1.r.path) (d := x1.vq) (e := x1.vh) k1 (by decide)
  replace own1 := own1.set5 (a := .string x1.r.meth) (b := .string x1.r.host) (c := .string x1.r.path) (d := x1.vq) (e := x1.vh) k1 (by decide)
  replace own2 := own2.set5 (a := .string x1.r.meth) (b := .string x1.r.host) (c := .string x1.r.path) (d := x1.vq) (e := x1.vh) k1 (by decide)
  replace BZ := set5_below (n := w.heap.size) (a := .string x1.r.meth) (b := .string x1.r.host) (c := .string x1.r.path) (d := x1.vq) (e := x1.vh) BZ (by omega)
  replace k2 := (set5_far (n := w.heap.size) (a := .string x1.r.meth) (b := .string x1.r.host) (c := .string x1.r.path) (d := x1.vq) (e := x1.vh) (by omega)).trans k2
  replace k1 := set5_at (a' := .string x1.r.meth) (b' := .string x1.r.host) (c' := .string x1.r.path) (d' := x1.vq) (e' := x1.vh) k1
  change wpAny _ _ _ _ _ _ _ (set5 W (w.heap.size) (.string x1.r.meth) (.string x1.r.host) (.string x1.r.path) x1.vq x1.vh)
  generalize set5 W (w.heap.size) (.string x1.r.meth) (.string x1.r.host) (.string x1.r.path) x1.vq x1.vh = Z1 at *
  refine wpAny_one (i := 8) (by kernel_rfl) ?_
  obtain ⟨f0, f1, f2, f3, f4⟩ := cell5 k2
  have lv := live5 k2
  refine wpOp_step rfl (by rfl) (fun K' hK' => ?_)
  go_simp
  refine hK' _ _ ?_
  clear hK' K'
  clear f0 f1 f2 f3 f4 lv
  replace row0 := row_set5b (g := w.heap.size + 1) (a := .int .i64 x2.m.kind) (b := .string x2.m.val) (c := .string x2.m.meth) (d := x2.vh) (e := x2.vq) row0 (by have := hbs.out; omega)
  replace own0 := fun x hx => (own0 x hx).set5 (a := .int .i64 x2.m.kind) (b := .string x2.m.val) (c := .string x2.m.meth) (d := x2.vh) (e := x2.vq) k2 (by decide)
  replace own1 := own1.set5 (a := .int .i64 x2.m.kind) (b := .string x2.m.val) (c := .string x2.m.meth) (d := x2.vh) (e := x2.vq) k2 (by decide)
  replace own2 := own2.set5 (a := .int .i64 x2.m.kind) (b := .string x2.m.val) (c := .string x2.m.meth) (d := x2.vh) (e := x2.vq) k2 (by decide)
  replace BZ := set5_below (n := w.heap.size + 1) (a := .int .i64 x2.m.kind) (b := .string x2.m.val) (c := .string x2.m.meth) (d := x2.vh) (e := x2.vq) BZ (by omega)
  replace k1 := (set5_far (n := w.heap.size + 1) (a := .int .i64 x2.m.kind) (b := .string x2.m.val) (c := .string x2.m.meth) (d := x2.vh) (e := x2.vq) (by omega)).trans k1
  replace k2 := set5_at (a' := .int .i64 x2.m.kind) (b' := .string x2.m.val) (c' := .string x2.m.meth) (d' := x2.vh) (e' := x2.vq) k2
  change wpAny _ _ _ _ _ _ _ (set5 Z1 (w.heap.size + 1) (.int .i64 x2.m.kind) (.string x2.m.val) (.string x2.m.meth) x2.vh x2.vq)
  generalize set5 Z1 (w.heap.size + 1) (.int .i64 x2.m.kind) (.string x2.m.val) (.string x2.m.meth) x2.vh x2.vq = Z2 at *
  refine wpAny_end (by kernel_rfl) ?_
  have mt0 := Mts.of_row rfl row0 (fun x hx => (own0 x hx).at_)
  clear row0 own0
  have at1 := own1.at_
  clear own1
  have at2 := own2.at_
  clear own2
  have c0 := fun q : GB Z2 => (cell5 ((q.h.block _ (blk_lt5 k1)).trans k1)).1
  have c1 := fun q : GB Z2 => (cell5 ((q.h.block _ (blk_lt5 k1)).trans k1)).2.1
  have c2 := fun q : GB Z2 => (cell5 ((q.h.block _ (blk_lt5 k1)).trans k1)).2.2.1
  have c3 := fun q : GB Z2 => (cell5 ((q.h.block _ (blk_lt5 k1)).trans k1)).2.2.2.1
  have c4 := fun q : GB Z2 => (cell5 ((q.h.block _ (blk_lt5 k1)).trans k1)).2.2.2.2
  have d0 := fun q : GB Z2 => (cell5 ((q.h.block _ (blk_lt5 k2)).trans k2)).1
  have d1 := fun q : GB Z2 => (cell5 ((q.h.block _ (blk_lt5 k2)).trans k2)).2.1
  have d2 := fun q : GB Z2 => (cell5 ((q.h.block _ (blk_lt5 k2)).trans k2)).2.2.1
  have d3 := fun q : GB Z2 => (cell5 ((q.h.block _ (blk_lt5 k2)).trans k2)).2.2.2.1
  have d4 := fun q : GB Z2 => (cell5 ((q.h.block _ (blk_lt5 k2)).trans k2)).2.2.2.2
  have E1 := fun q : GB Z2 => hide (first_m u0 L0 x1.r x1.vq x1.vh q.W (mt0.below q.h) ok0 (at1.below q.h).1 (at1.below q.h).2 ok1)
  have CH := fun (x : MV) W (hx : x.at_ W) (okx : OkM x.m) (h : Below Z2.heap.size Z2 W) => hide (holds_m x.m x.vh x.vq x1.r x1.vq x1.vh W hx.1 hx.2 okx (at1.below h).1 (at1.below h).2 ok1)
  have CO := fun (x y : MV) W (hx : x.at_ W) (hy : y.at_ W) (okx : OkM x.m) (oky : OkM y.m) => hide (rorder_m x.m y.m x.vh x.vq y.vh y.vq W hx.1 hx.2 hy.1 hy.2 okx.order oky.order)
  have FF := hide (first_facts x1.r L0)
  have HM := hide mt0
  have hlen := mt0.len
  obtain ⟨ad, cap, rfl, hle1, hle2, hc⟩ := mt0
  have HC := hide hc
  clear hc k1 k2
  obtain ⟨q, hq⟩ : ∃ q : GB Z2, q.W = Z2 := ⟨⟨Z2, Below.refl _ _⟩, rfl⟩
  rw [← hq]
  clear hq
  rcases FF.out with ⟨HO, hno⟩ | ⟨i, hi, HO, hyes, hah⟩
  · rw [HO] at E1
    simp only [atI, Option.isSome_none] at E1
    have HOH := hide HO
    clear HO FF
    go_wp2_with fail
    refine (calls_gb ((E1 _).out)).mono ?_
    rintro e x ⟨rfl, q, rfl⟩
    go_wp2_with fail
    clear E1
    obtain ⟨WQ, hWQ⟩ : ∃ z, z = q.W := ⟨_, rfl⟩
    have hBQ := q.h
    rw [← hWQ] at hBQ ⊢
    clear hWQ q
    go_loopw [9] (fun n wr => ∃ k : Nat, k ≤ L0.length ∧ n = .int .i64 k ∧ Below Z2.heap.size Z2 wr) (fun n _ => L0.length - (intOf n).toNat)
    case atStart => exact ⟨0, Nat.zero_le _, rfl, hBQ⟩
    case round =>
      clear hBQ WQ
      obtain ⟨k, hk, rfl, hB⟩ := hrel
      by_cases hlt : k < L0.length
      · have hlt' : (k : Int) < (L0.length : Int) := by omega
        obtain ⟨hatx, g, off, rfl, hg, F⟩ := HC.out k hlt
        have okx := ok0 _ (List.getElem_mem hlt)
        have hh := hno k hlt
        generalize L0[k] = x at *
        have CH' := fun q : GB wr => CH x q.W (hatx.below (bb2 hB q.h)) okx (bb2 hB q.h)
        have a0 := fun q : GB wr => (F.below hg (bb2 hB q.h)).1
        have a1 := fun q : GB wr => (F.below hg (bb2 hB q.h)).2.1
        have a2 := fun q : GB wr => (F.below hg (bb2 hB q.h)).2.2.1
        have a3 := fun q : GB wr => (F.below hg (bb2 hB q.h)).2.2.2.1
        have a4 := fun q : GB wr => (F.below hg (bb2 hB q.h)).2.2.2.2
        have r0 := fun q : GB wr => c0 ⟨q.W, bb2 hB q.h⟩
        have r1 := fun q : GB wr => c1 ⟨q.W, bb2 hB q.h⟩
        have r2 := fun q : GB wr => c2 ⟨q.W, bb2 hB q.h⟩
        have r3 := fun q : GB wr => c3 ⟨q.W, bb2 hB q.h⟩
        have r4 := fun q : GB wr => c4 ⟨q.W, bb2 hB q.h⟩
        dsimp only at r0 r1 r2 r3 r4
        rw [hh] at CH'
        clear hh hatx okx F
        go_wp2_with fail
        refine wp_region_below (by kernel_rfl) (by kernel_rfl) ?_
        repeat (first | go_big_quiet_step ((go_at_call 15; exact calls_gb (CH' _).out)) | quiet_step ((go_at_call 15; exact calls_gb (CH' _).out)))
        refine wpQuiet_nil ?_
        intro _ hw'
        obtain ⟨q, hw2⟩ := hw'
        subst hw2
        go_wp2_with fail
        exact ⟨⟨k + 1, by omega, by go_num, bb2 hB q.h⟩, by simp [intOf]; omega⟩
      · have hlt' : ¬ (k : Int) < (L0.length : Int) := by omega
        go_wp2_with fail
        refine (ruawake_any _).mono ?_
        rintro e w7 ⟨rfl, hb7⟩
        go_wp2_with fail
        go_ret
        exact ⟨rfl, bb2 (bb2 BZ hB) hb7⟩
  · rw [HO] at E1
    simp only [atI, Option.isSome_some] at E1
    have HOH := hide HO
    clear HO FF
    go_wp2_with fail
    refine (calls_gb ((E1 _).out)).mono ?_
    rintro e x ⟨rfl, q, rfl⟩
    go_wp2_with fail
    clear E1
    obtain ⟨WQ, hWQ⟩ : ∃ z, z = q.W := ⟨_, rfl⟩
    have hBQ := q.h
    rw [← hWQ] at hBQ ⊢
    clear hWQ q
    go_loopw [9] (fun n wr => ∃ k : Nat, k ≤ L0.length ∧ n = .int .i64 k ∧ Below Z2.heap.size Z2 wr) (fun n _ => L0.length - (intOf n).toNat)
    case atStart => exact ⟨0, Nat.zero_le _, rfl, hBQ⟩
    case round =>
      clear hBQ WQ
      obtain ⟨k, hk, rfl, hB⟩ := hrel
      by_cases hlt : k < L0.length
      · have hlt' : (k : Int) < (L0.length : Int) := by omega
        obtain ⟨hatx, g, off, rfl, hg, F⟩ := HC.out k hlt
        have okx := ok0 _ (List.getElem_mem hlt)
        obtain ⟨haty, g', off', he', _, G⟩ := HC.out i hi
        injection he' with he'
        injection he' with he1 he2
        subst he1 he2
        have oky := ok0 _ (List.getElem_mem hi)
        have hi' : (i : Int) < (L0.length : Int) := by omega
        have hig : ¬ (L0.length : Int) ≤ (i : Int) := by omega
        have HAH := hah k hlt
        generalize L0[k] = x at *
        generalize L0[i] = y at *
        have CH' := fun q : GB wr => CH x q.W (hatx.below (bb2 hB q.h)) okx (bb2 hB q.h)
        have a0 := fun q : GB wr => (F.below hg (bb2 hB q.h)).1
        have a1 := fun q : GB wr => (F.below hg (bb2 hB q.h)).2.1
        have a2 := fun q : GB wr => (F.below hg (bb2 hB q.h)).2.2.1
        have a3 := fun q : GB wr => (F.below hg (bb2 hB q.h)).2.2.2.1
        have a4 := fun q : GB wr => (F.below hg (bb2 hB q.h)).2.2.2.2
        have r0 := fun q : GB wr => c0 ⟨q.W, bb2 hB q.h⟩
        have r1 := fun q : GB wr => c1 ⟨q.W, bb2 hB q.h⟩
        have r2 := fun q : GB wr => c2 ⟨q.W, bb2 hB q.h⟩
        have r3 := fun q : GB wr => c3 ⟨q.W, bb2 hB q.h⟩
        have r4 := fun q : GB wr => c4 ⟨q.W, bb2 hB q.h⟩
        dsimp only at r0 r1 r2 r3 r4
        have CO' := fun q : GB wr => CO x y q.W (hatx.below (bb2 hB q.h)) (haty.below (bb2 hB q.h)) okx oky
        have b0 := fun q : GB wr => (G.below hg (bb2 hB q.h)).1
        have b1 := fun q : GB wr => (G.below hg (bb2 hB q.h)).2.1
        have b2 := fun q : GB wr => (G.below hg (bb2 hB q.h)).2.2.1
        have b3 := fun q : GB wr => (G.below hg (bb2 hB q.h)).2.2.2.1
        have b4 := fun q : GB wr => (G.below hg (bb2 hB q.h)).2.2.2.2
        cases hh : holdM x.m x1.r
        · rw [hh] at CH'
          clear hh HAH CO' G hatx haty okx oky F
          go_wp2_with fail
          refine wp_region_below (by kernel_rfl) (by kernel_rfl) ?_
          repeat (first | go_big_quiet_step ((go_at_call 15; exact calls_gb (CH' _).out)) | quiet_step ((go_at_call 15; exact calls_gb (CH' _).out)))
          refine wpQuiet_nil ?_
          intro _ hw'
          obtain ⟨q, hw2⟩ := hw'
          subst hw2
          go_wp2_with fail
          exact ⟨⟨k + 1, by omega, by go_num, bb2 hB q.h⟩, by simp [intOf]; omega⟩
        · have ho : ¬ ordM x.m y.m < 0 := fun h => by
            rw [Ru.ord_lt, HAH hh] at h
            cases h
          rw [hh] at CH'
          clear hh HAH G hatx haty okx oky F
          generalize ordM x.m y.m = od at *
          go_wp2_with fail
          refine wp_region_below (by kernel_rfl) (by kernel_rfl) ?_
          repeat (first | go_big_quiet_step ((first | (go_at_call 15; exact calls_gb (CH' _).out) | (go_at_call 23; exact calls_gb (CO' _).out))) | quiet_step ((first | (go_at_call 15; exact calls_gb (CH' _).out) | (go_at_call 23; exact calls_gb (CO' _).out))))
          refine wpQuiet_nil ?_
          intro _ hw'
          obtain ⟨q, hw2⟩ := hw'
          subst hw2
          go_wp2_with fail
          exact ⟨⟨k + 1, by omega, by go_num, bb2 hB q.h⟩, by simp [intOf]; omega⟩
      · have hlt' : ¬ (k : Int) < (L0.length : Int) := by omega
        have hi' : (i : Int) < (L0.length : Int) := by omega
        have hig : ¬ (L0.length : Int) ≤ (i : Int) := by omega
        obtain ⟨haty, g, off, rfl, hg, G⟩ := HC.out i hi
        have oky := ok0 _ (List.getElem_mem hi)
        have CH' := fun q : GB wr => CH L0[i] q.W (haty.below (bb2 hB q.h)) oky (bb2 hB q.h)
        rw [hyes] at CH'
        have b0 := fun q : GB wr => (G.below hg (bb2 hB q.h)).1
        have b1 := fun q : GB wr => (G.below hg (bb2 hB q.h)).2.1
        have b2 := fun q : GB wr => (G.below hg (bb2 hB q.h)).2.2.1
        have b3 := fun q : GB wr => (G.below hg (bb2 hB q.h)).2.2.2.1
        have b4 := fun q : GB wr => (G.below hg (bb2 hB q.h)).2.2.2.2
        have r0 := fun q : GB wr => c0 ⟨q.W, bb2 hB q.h⟩
        have r1 := fun q : GB wr => c1 ⟨q.W, bb2 hB q.h⟩
        have r2 := fun q : GB wr => c2 ⟨q.W, bb2 hB q.h⟩
        have r3 := fun q : GB wr => c3 ⟨q.W, bb2 hB q.h⟩
        have r4 := fun q : GB wr => c4 ⟨q.W, bb2 hB q.h⟩
        dsimp only at r0 r1 r2 r3 r4
        clear haty oky G
        go_wp2_with fail
        refine wp_region_below (by kernel_rfl) (by kernel_rfl) ?_
        repeat (first | go_big_quiet_step ((go_at_call 15; exact calls_gb (CH' _).out)) | quiet_step ((go_at_call 15; exact calls_gb (CH' _).out)))
        refine wpQuiet_nil ?_
        intro _ hw'
        obtain ⟨q, hw2⟩ := hw'
        subst hw2
        clear b0 b1 b2 b3 b4 r0 r1 r2 r3 r4 CH'
        go_wp2_with fail
        obtain ⟨W12, hW12⟩ : ∃ z, z = q.W := ⟨_, rfl⟩
        have B12 := bb2 hB q.h
        rw [← hW12] at B12 ⊢
        clear hW12 q hB
        have mtL := HM.out.below B12
        have at2W := at2.below B12
        have atN : ∀ x ∈ L0 ++ [x2], x.at_ W12 := fun x hx => by
          rcases List.mem_append.1 hx with h1 | h1
          · exact mtL.all x h1
          · rw [List.mem_singleton] at h1
            subst h1
            exact at2W
        have okN : ∀ x ∈ L0 ++ [x2], OkM x.m := fun x hx => by
          rcases List.mem_append.1 hx with h1 | h1
          · exact ok0 x h1
          · rw [List.mem_singleton] at h1
            subst h1
            exact ok2
        have r12 : ∀ W, Below W12.heap.size W12 W → (W.cell? ⟨w.heap.size, 0, none⟩ = some (.string x1.r.meth) ∧ W.cell? ⟨w.heap.size, 1, none⟩ = some (.string x1.r.host) ∧ W.cell? ⟨w.heap.size, 2, none⟩ = some (.string x1.r.path) ∧ W.cell? ⟨w.heap.size, 3, none⟩ = some x1.vq ∧ W.cell? ⟨w.heap.size, 4, none⟩ = some x1.vh) := fun W h => ⟨c0 ⟨W, bb2 B12 h⟩, c1 ⟨W, bb2 B12 h⟩, c2 ⟨W, bb2 B12 h⟩, c3 ⟨W, bb2 B12 h⟩, c4 ⟨W, bb2 B12 h⟩⟩
        have m12 : ∀ W, Below W12.heap.size W12 W → (W.cell? ⟨w.heap.size + 1, 0, none⟩ = some (.int .i64 x2.m.kind) ∧ W.cell? ⟨w.heap.size + 1, 1, none⟩ = some (.string x2.m.val) ∧ W.cell? ⟨w.heap.size + 1, 2, none⟩ = some (.string x2.m.meth) ∧ W.cell? ⟨w.heap.size + 1, 3, none⟩ = some x2.vh ∧ W.cell? ⟨w.heap.size + 1, 4, none⟩ = some x2.vq) := fun W h => ⟨d0 ⟨W, bb2 B12 h⟩, d1 ⟨W, bb2 B12 h⟩, d2 ⟨W, bb2 B12 h⟩, d3 ⟨W, bb2 B12 h⟩, d4 ⟨W, bb2 B12 h⟩⟩
        cases hmo : holdM x2.m x1.r
        · have HN : Hid (bestM x1.r ((L0 ++ [x2]).map MV.m) = some (i, L0[i].m)) := by
            unfold Hid
            rw [first_more HOH.out x2, hmo, Bool.false_and]
            rfl
          have hil : ((i : Int) == (L0.length : Int)) = false := by rw [beq_eq_false_iff_ne]; omega
          have hi' : (i : Int) < (L0.length : Int) := by omega
          refine wp_region_noPanic ?_
          refine wp_region_held_drew (S := fun W => Below (W12).heap.size (W12) W) (by kernel_rfl) ((Below.refl _ _).drew) (fun hHeld => ?_)
          refine wpAnyH_take (i := 1) (v := ?_) (op_at (rest := _) rfl) (by kernel_rfl) (by kernel_rfl) (by kernel_rfl) (fun _ _ _ h => h) (Or.inl ⟨by rfl, ?_⟩) (by assumption) ?_
          rotate_left 1
          · (intro W hSw; (try dsimp only at hSw); go_simp; (try with_reducible rfl))
          try simp only [Act.put, List.setIfInBounds_toArray, List.set_cons_zero, List.set_cons_succ]
          refine wpAnyH_take (i := 3) (v := ?_) (op_at (rest := _) rfl) (by kernel_rfl) (by kernel_rfl) (by kernel_rfl) (fun _ _ _ h => h) (Or.inl ⟨by rfl, ?_⟩) (by assumption) ?_
          rotate_left 1
          · (intro W hSw; (try dsimp only at hSw); obtain ⟨e0, e1, e2, e3, e4⟩ := m12 W hSw; go_simp; (try with_reducible rfl))
          try simp only [Act.put, List.setIfInBounds_toArray, List.set_cons_zero, List.set_cons_succ]
          refine wpAnyH_take (i := 6) (v := ?_) (op_at (rest := _) rfl) (by kernel_rfl) (by kernel_rfl) (by kernel_rfl) (fun _ _ _ h => h) (Or.inl ⟨by rfl, ?_⟩) (by assumption) ?_
          rotate_left 1
          · (intro W hSw; (try dsimp only at hSw); obtain ⟨e0, e1, e2, e3, e4⟩ := r12 W hSw; go_simp; (try with_reducible rfl))
          try simp only [Act.put, List.setIfInBounds_toArray, List.set_cons_zero, List.set_cons_succ]
          refine wpAnyH_ready (rs := [0, 4]) (by kernel_rfl) (by simp) ?_
          refine AllReadyH.cons (op_at (rest := _) rfl) (fun K hK => ?_) (AllReadyH.cons (op_at (rest := _) rfl) (fun K hK => ?_) AllReadyH.nil)
          · go_simp
            refine hK.out _ _ (hHeld.alloc hHeld.size _) (fun hA => ?_)
            clear hK K
            try simp only [Act.put, List.setIfInBounds_toArray, List.set_cons_zero, List.set_cons_succ]
            refine wpAnyH_ready (rs := [2, 4]) (by kernel_rfl) (by simp) ?_
            refine AllReadyH.cons (op_at (rest := _) rfl) (fun K hK => ?_) (AllReadyH.cons (op_at (rest := _) rfl) (fun K hK => ?_) AllReadyH.nil)
            · refine step_append_mts _ _ _ rfl rfl W12.heap.size (.slice (some ⟨W12.heap.size, 0, none⟩) 0 0) 0 [] rfl (owns_emptyM W12.drew) _ _ rfl (mtL.below hA) (by simp; omega) (by first | exact hA.size | (simp; try omega)) ?_
              intro v2 w2 r2 g2
              have hB := hA.grown g2 hA.size (fun j e => (ownBlock_ge (owns_emptyM W12.drew) e))
              refine hK.out _ _ hB (fun _ => ?_)
              clear hK K
              try simp only [Act.put, List.setIfInBounds_toArray, List.set_cons_zero, List.set_cons_succ]
              refine wpAnyH_ready (rs := [4]) (by kernel_rfl) (by simp) ?_
              refine AllReadyH.cons (op_at (rest := _) rfl) (fun K hK => ?_) AllReadyH.nil
              go_simp
              refine hK.out _ _ (hB.alloc hB.size _) (fun hC => ?_)
              clear hK K
              try simp only [Act.put, List.setIfInBounds_toArray, List.set_cons_zero, List.set_cons_succ]
              refine wpAnyH_ready (rs := [5]) (by kernel_rfl) (by simp) ?_
              refine AllReadyH.cons (op_at (rest := _) rfl) (fun K hK => ?_) AllReadyH.nil
              refine step_append_mts _ _ _ rfl rfl W12.heap.size _ _ _ rfl (ownsRow_below r2 ((Below.refl _ _).alloc (Nat.le_refl _) _)) _ _ rfl (Mts.at_block (alloc_new w2 (.cells #[.int .i64 x2.m.kind, .string x2.m.val, .string x2.m.meth, x2.vh, x2.vq] 26)) (at2W.below hC)) (by simp; omega) (by first | exact hC.size | (simp; try omega)) ?_
              intro v5 w5 r5 g5
              have h5 := hC.grown g5 hC.size (fun j e => ownBlock_ge r2 e)
              refine hK.out _ _ h5 (fun _ => ?_)
              clear hK K
              try simp only [Act.put, List.setIfInBounds_toArray, List.set_cons_zero, List.set_cons_succ]
              have mtN : Mts w5 v5 (L0 ++ [x2]) := Mts.of_row (by simp) r5 (fun x hx => (atN x hx).below h5)
              replace hHeld := h5
              have CD := hide (first_m v5 (L0 ++ [x2]) x1.r x1.vq x1.vh w5 mtN okN (at1.below (bb2 B12 h5)).1 (at1.below (bb2 B12 h5)).2 ok1)
              rw [HN.out] at CD
              simp only [atI, Option.isSome_some] at CD
              refine wpAnyH_ready (rs := [7]) (by kernel_rfl) (by simp) ?_
              refine AllReadyH.cons (op_at (rest := _) rfl) (fun K hK => ?_) AllReadyH.nil
              go_simp
              refine (CD.out).mono ?_
              rintro e w13 ⟨rfl, hb13⟩
              go_wp2_with fail
              replace hHeld := hHeld.trans (hb13.mono hHeld.size)
              refine hK.out _ _ hHeld (fun _ => ?_)
              clear hK K
              try simp only [Act.put, List.setIfInBounds_toArray, List.set_cons_zero, List.set_cons_succ]
              refine wpAnyH_take (i := 8) (v := ?_) (op_at (rest := _) rfl) (by kernel_rfl) (by kernel_rfl) (by kernel_rfl) (fun _ _ _ h => h) (Or.inl ⟨by rfl, ?_⟩) (by assumption) ?_
              rotate_left 1
              · (intro W hSw; (try dsimp only at hSw); go_simp; (try with_reducible rfl))
              try simp only [Act.put, List.setIfInBounds_toArray, List.set_cons_zero, List.set_cons_succ]
              refine wpAnyH_take (i := 9) (v := ?_) (op_at (rest := _) rfl) (by kernel_rfl) (by kernel_rfl) (by kernel_rfl) (fun _ _ _ h => h) (Or.inl ⟨by rfl, ?_⟩) (by assumption) ?_
              rotate_left 1
              · (intro W hSw; (try dsimp only at hSw); go_simp; (try with_reducible rfl))
              try simp only [Act.put, List.setIfInBounds_toArray, List.set_cons_zero, List.set_cons_succ]
              refine wpAnyH_take (i := 10) (v := ?_) (op_at (rest := _) rfl) (by kernel_rfl) (by kernel_rfl) (by kernel_rfl) (fun _ _ _ h => h) (Or.inl ⟨by rfl, ?_⟩) (by assumption) ?_
              rotate_left 1
              · (intro W hSw; (try dsimp only at hSw); go_simp; (try with_reducible rfl))
              try simp only [Act.put, List.setIfInBounds_toArray, List.set_cons_zero, List.set_cons_succ]
              refine wpAnyH_take (i := 11) (v := ?_) (op_at (rest := _) rfl) (by kernel_rfl) (by kernel_rfl) (by kernel_rfl) (fun _ _ _ h => h) (Or.inl ⟨by rfl, ?_⟩) (by assumption) ?_
              rotate_left 1
              · (intro W hSw; (try dsimp only at hSw); go_simp; (try with_reducible rfl))
              try simp only [Act.put, List.setIfInBounds_toArray, List.set_cons_zero, List.set_cons_succ]
              refine wpAnyH_take (i := 12) (v := ?_) (op_at (rest := _) rfl) (by kernel_rfl) (by kernel_rfl) (by kernel_rfl) (fun _ _ _ h => h) (Or.inl ⟨by rfl, ?_⟩) (by assumption) ?_
              rotate_left 1
              · (intro W hSw; (try dsimp only at hSw); go_simp; (try with_reducible rfl))
              try simp only [Act.put, List.setIfInBounds_toArray, List.set_cons_zero, List.set_cons_succ]
              refine wpAnyH_done (by kernel_rfl) ?_ _
              refine NoPanic.normal ?_
              have B13 := bb2 B12 hHeld
              clear CD mtN r5 h5
              have p0 := fun q : GB w13 => d0 ⟨q.W, bb2 B13 q.h⟩
              have p1 := fun q : GB w13 => d1 ⟨q.W, bb2 B13 q.h⟩
              have p2 := fun q : GB w13 => d2 ⟨q.W, bb2 B13 q.h⟩
              have p3 := fun q : GB w13 => d3 ⟨q.W, bb2 B13 q.h⟩
              have p4 := fun q : GB w13 => d4 ⟨q.W, bb2 B13 q.h⟩
              have r0 := fun q : GB w13 => c0 ⟨q.W, bb2 B13 q.h⟩
              have r1 := fun q : GB w13 => c1 ⟨q.W, bb2 B13 q.h⟩
              have r2 := fun q : GB w13 => c2 ⟨q.W, bb2 B13 q.h⟩
              have r3 := fun q : GB w13 => c3 ⟨q.W, bb2 B13 q.h⟩
              have r4 := fun q : GB w13 => c4 ⟨q.W, bb2 B13 q.h⟩
              dsimp only at p0 p1 p2 p3 p4 r0 r1 r2 r3 r4
              obtain ⟨haty, g', off', he', hg', G⟩ := HC.out i hi
              injection he' with he'
              injection he' with he1 he2
              subst he1 he2
              have oky := ok0 _ (List.getElem_mem hi)
              clear HN
              generalize L0[i] = y at *
              have b0 := fun q : GB w13 => (G.below hg' (bb2 B13 q.h)).1
              have b1 := fun q : GB w13 => (G.below hg' (bb2 B13 q.h)).2.1
              have b2 := fun q : GB w13 => (G.below hg' (bb2 B13 q.h)).2.2.1
              have b3 := fun q : GB w13 => (G.below hg' (bb2 B13 q.h)).2.2.2.1
              have b4 := fun q : GB w13 => (G.below hg' (bb2 B13 q.h)).2.2.2.2
              have CH' := fun q : GB w13 => CH x2 q.W (at2.below (bb2 B13 q.h)) ok2 (bb2 B13 q.h)
              rw [hmo] at CH'
              clear hmo haty G oky
              go_wp2_with fail
              refine wp_region_below (by kernel_rfl) (by kernel_rfl) ?_
              repeat (first | go_big_quiet_step ((go_at_call 15; exact calls_gb (CH' _).out)) | quiet_step ((go_at_call 15; exact calls_gb (CH' _).out)))
              refine wpQuiet_nil ?_
              intro _ hw'
              obtain ⟨q, hw2⟩ := hw'
              subst hw2
              go_wp2_with fail
              refine (calls_gb (ruawake_any _)).mono ?_
              rintro e x ⟨rfl, q, rfl⟩
              go_wp2_with fail
              go_ret
              exact ⟨rfl, bb2 (bb2 BZ B13) q.h⟩
            · go_simp
              refine hK.out _ _ (hA.alloc hA.size _) (fun hB => ?_)
              clear hK K
              try simp only [Act.put, List.setIfInBounds_toArray, List.set_cons_zero, List.set_cons_succ]
              refine wpAnyH_ready (rs := [2]) (by kernel_rfl) (by simp) ?_
              refine AllReadyH.cons (op_at (rest := _) rfl) (fun K hK => ?_) AllReadyH.nil
              refine step_append_mts _ _ _ rfl rfl W12.heap.size (.slice (some ⟨W12.heap.size, 0, none⟩) 0 0) 0 [] rfl (ownsRow_below (owns_emptyM W12.drew) ((Below.refl _ _).alloc (Nat.le_refl _) _)) _ _ rfl (mtL.below hB) (by simp; omega) (by first | exact hB.size | (simp; try omega)) ?_
              intro v2 w2 r2 g2
              have hC := hB.grown g2 hB.size (fun j e => ownBlock_ge (owns_emptyM W12.drew) e)
              refine hK.out _ _ hC (fun _ => ?_)
              clear hK K
              try simp only [Act.put, List.setIfInBounds_toArray, List.set_cons_zero, List.set_cons_succ]
              have hp2 : w2.heap[W12.heap.size + 1]? = some (.cells #[.int .i64 x2.m.kind, .string x2.m.val, .string x2.m.meth, x2.vh, x2.vq] 26) := by
                rw [g2.block (W12.heap.size + 1) (by simp) (by show some (W12.heap.size + 1) ≠ some W12.heap.size; simp)]
                have := alloc_new (W12.drew.alloc (.cells #[] 26)) (.cells #[.int .i64 x2.m.kind, .string x2.m.val, .string x2.m.meth, x2.vh, x2.vq] 26)
                rw [show (W12.drew.alloc (.cells #[] 26)).heap.size = W12.heap.size + 1 by simp] at this
                exact this
              refine wpAnyH_ready (rs := [5]) (by kernel_rfl) (by simp) ?_
              refine AllReadyH.cons (op_at (rest := _) rfl) (fun K hK => ?_) AllReadyH.nil
              refine step_append_mts _ _ _ rfl rfl W12.heap.size _ _ _ rfl (r2) _ _ rfl (Mts.at_block hp2 (at2W.below hC)) (by simp; omega) (by first | exact hC.size | (simp; try omega)) ?_
              intro v5 w5 r5 g5
              have h5 := hC.grown g5 hC.size (fun j e => (ownBlock_ge (r2) e))
              refine hK.out _ _ h5 (fun _ => ?_)
              clear hK K
              try simp only [Act.put, List.setIfInBounds_toArray, List.set_cons_zero, List.set_cons_succ]
              have mtN : Mts w5 v5 (L0 ++ [x2]) := Mts.of_row (by simp) r5 (fun x hx => (atN x hx).below h5)
              replace hHeld := h5
              have CD := hide (first_m v5 (L0 ++ [x2]) x1.r x1.vq x1.vh w5 mtN okN (at1.below (bb2 B12 h5)).1 (at1.below (bb2 B12 h5)).2 ok1)
              rw [HN.out] at CD
              simp only [atI, Option.isSome_some] at CD
              refine wpAnyH_ready (rs := [7]) (by kernel_rfl) (by simp) ?_
              refine AllReadyH.cons (op_at (rest := _) rfl) (fun K hK => ?_) AllReadyH.nil
              go_simp
              refine (CD.out).mono ?_
              rintro e w13 ⟨rfl, hb13⟩
              go_wp2_with fail
              replace hHeld := hHeld.trans (hb13.mono hHeld.size)
              refine hK.out _ _ hHeld (fun _ => ?_)
              clear hK K
              try simp only [Act.put, List.setIfInBounds_toArray, List.set_cons_zero, List.set_cons_succ]
              refine wpAnyH_take (i := 8) (v := ?_) (op_at (rest := _) rfl) (by kernel_rfl) (by kernel_rfl) (by kernel_rfl) (fun _ _ _ h => h) (Or.inl ⟨by rfl, ?_⟩) (by assumption) ?_
              rotate_left 1
              · (intro W hSw; (try dsimp only at hSw); go_simp; (try with_reducible rfl))
              try simp only [Act.put, List.setIfInBounds_toArray, List.set_cons_zero, List.set_cons_succ]
              refine wpAnyH_take (i := 9) (v := ?_) (op_at (rest := _) rfl) (by kernel_rfl) (by kernel_rfl) (by kernel_rfl) (fun _ _ _ h => h) (Or.inl ⟨by rfl, ?_⟩) (by assumption) ?_
              rotate_left 1
              · (intro W hSw; (try dsimp only at hSw); go_simp; (try with_reducible rfl))
              try simp only [Act.put, List.setIfInBounds_toArray, List.set_cons_zero, List.set_cons_succ]
              refine wpAnyH_take (i := 10) (v := ?_) (op_at (rest := _) rfl) (by kernel_rfl) (by kernel_rfl) (by kernel_rfl) (fun _ _ _ h => h) (Or.inl ⟨by rfl, ?_⟩) (by assumption) ?_
              rotate_left 1
              · (intro W hSw; (try dsimp only at hSw); go_simp; (try with_reducible rfl))
              try simp only [Act.put, List.setIfInBounds_toArray, List.set_cons_zero, List.set_cons_succ]
              refine wpAnyH_take (i := 11) (v := ?_) (op_at (rest := _) rfl) (by kernel_rfl) (by kernel_rfl) (by kernel_rfl) (fun _ _ _ h => h) (Or.inl ⟨by rfl, ?_⟩) (by assumption) ?_
              rotate_left 1
              · (intro W hSw; (try dsimp only at hSw); go_simp; (try with_reducible rfl))
              try simp only [Act.put, List.setIfInBounds_toArray, List.set_cons_zero, List.set_cons_succ]
              refine wpAnyH_take (i := 12) (v := ?_) (op_at (rest := _) rfl) (by kernel_rfl) (by kernel_rfl) (by kernel_rfl) (fun _ _ _ h => h) (Or.inl ⟨by rfl, ?_⟩) (by assumption) ?_
              rotate_left 1
              · (intro W hSw; (try dsimp only at hSw); go_simp; (try with_reducible rfl))
              try simp only [Act.put, List.setIfInBounds_toArray, List.set_cons_zero, List.set_cons_succ]
              refine wpAnyH_done (by kernel_rfl) ?_ _
              refine NoPanic.normal ?_
              have B13 := bb2 B12 hHeld
              clear CD mtN r5 h5
              have p0 := fun q : GB w13 => d0 ⟨q.W, bb2 B13 q.h⟩
              have p1 := fun q : GB w13 => d1 ⟨q.W, bb2 B13 q.h⟩
              have p2 := fun q : GB w13 => d2 ⟨q.W, bb2 B13 q.h⟩
              have p3 := fun q : GB w13 => d3 ⟨q.W, bb2 B13 q.h⟩
              have p4 := fun q : GB w13 => d4 ⟨q.W, bb2 B13 q.h⟩
              have r0 := fun q : GB w13 => c0 ⟨q.W, bb2 B13 q.h⟩
              have r1 := fun q : GB w13 => c1 ⟨q.W, bb2 B13 q.h⟩
              have r2 := fun q : GB w13 => c2 ⟨q.W, bb2 B13 q.h⟩
              have r3 := fun q : GB w13 => c3 ⟨q.W, bb2 B13 q.h⟩
              have r4 := fun q : GB w13 => c4 ⟨q.W, bb2 B13 q.h⟩
              dsimp only at p0 p1 p2 p3 p4 r0 r1 r2 r3 r4
              obtain ⟨haty, g', off', he', hg', G⟩ := HC.out i hi
              injection he' with he'
              injection he' with he1 he2
              subst he1 he2
              have oky := ok0 _ (List.getElem_mem hi)
              clear HN
              generalize L0[i] = y at *
              have b0 := fun q : GB w13 => (G.below hg' (bb2 B13 q.h)).1
              have b1 := fun q : GB w13 => (G.below hg' (bb2 B13 q.h)).2.1
              have b2 := fun q : GB w13 => (G.below hg' (bb2 B13 q.h)).2.2.1
              have b3 := fun q : GB w13 => (G.below hg' (bb2 B13 q.h)).2.2.2.1
              have b4 := fun q : GB w13 => (G.below hg' (bb2 B13 q.h)).2.2.2.2
              have CH' := fun q : GB w13 => CH x2 q.W (at2.below (bb2 B13 q.h)) ok2 (bb2 B13 q.h)
              rw [hmo] at CH'
              clear hmo haty G oky
              go_wp2_with fail
              refine wp_region_below (by kernel_rfl) (by kernel_rfl) ?_
              repeat (first | go_big_quiet_step ((go_at_call 15; exact calls_gb (CH' _).out)) | quiet_step ((go_at_call 15; exact calls_gb (CH' _).out)))
              refine wpQuiet_nil ?_
              intro _ hw'
              obtain ⟨q, hw2⟩ := hw'
              subst hw2
              go_wp2_with fail
              refine (calls_gb (ruawake_any _)).mono ?_
              rintro e x ⟨rfl, q, rfl⟩
              go_wp2_with fail
              go_ret
              exact ⟨rfl, bb2 (bb2 BZ B13) q.h⟩
          · go_simp
            refine hK.out _ _ (hHeld.alloc hHeld.size _) (fun hA => ?_)
            clear hK K
            try simp only [Act.put, List.setIfInBounds_toArray, List.set_cons_zero, List.set_cons_succ]
            refine wpAnyH_ready (rs := [0]) (by kernel_rfl) (by simp) ?_
            refine AllReadyH.cons (op_at (rest := _) rfl) (fun K hK => ?_) AllReadyH.nil
            go_simp
            refine hK.out _ _ (hA.alloc hA.size _) (fun hB => ?_)
            clear hK K
            try simp only [Act.put, List.setIfInBounds_toArray, List.set_cons_zero, List.set_cons_succ]
            refine wpAnyH_ready (rs := [2]) (by kernel_rfl) (by simp) ?_
            refine AllReadyH.cons (op_at (rest := _) rfl) (fun K hK => ?_) AllReadyH.nil
            refine step_append_mts _ _ _ rfl rfl W12.heap.size (.slice (some ⟨W12.heap.size + 1, 0, none⟩) 0 0) 0 [] rfl (ownsRow_base (owns_emptyN (W12.drew.alloc (.cells #[.int .i64 x2.m.kind, .string x2.m.val, .string x2.m.meth, x2.vh, x2.vq] 26)) (W12.heap.size + 1) (by simp)) (by omega)) _ _ rfl (mtL.below hB) (by simp; omega) (by first | exact hB.size | (simp; try omega)) ?_
            intro v2 w2 r2 g2
            have hC := hB.grown g2 hB.size (fun j e => Nat.le_trans (by omega) (ownBlock_ge (owns_emptyN (W12.drew.alloc (.cells #[.int .i64 x2.m.kind, .string x2.m.val, .string x2.m.meth, x2.vh, x2.vq] 26)) (W12.heap.size + 1) (by simp)) e))
            refine hK.out _ _ hC (fun _ => ?_)
            clear hK K
            try simp only [Act.put, List.setIfInBounds_toArray, List.set_cons_zero, List.set_cons_succ]
            have hp2 : w2.heap[W12.heap.size]? = some (.cells #[.int .i64 x2.m.kind, .string x2.m.val, .string x2.m.meth, x2.vh, x2.vq] 26) := by
              rw [g2.block W12.heap.size (by simp; omega) (by show some W12.heap.size ≠ some (W12.heap.size + 1); simp)]
              show ((W12.drew.alloc (.cells #[.int .i64 x2.m.kind, .string x2.m.val, .string x2.m.meth, x2.vh, x2.vq] 26)).alloc (.cells #[] 26)).heap[W12.heap.size]? = _
              rw [Below.heap_alloc _ _ _ (by simp)]
              exact alloc_new W12.drew (.cells #[.int .i64 x2.m.kind, .string x2.m.val, .string x2.m.meth, x2.vh, x2.vq] 26)
            refine wpAnyH_ready (rs := [5]) (by kernel_rfl) (by simp) ?_
            refine AllReadyH.cons (op_at (rest := _) rfl) (fun K hK => ?_) AllReadyH.nil
            refine step_append_mts _ _ _ rfl rfl W12.heap.size _ _ _ rfl (r2) _ _ rfl (Mts.at_block hp2 (at2W.below hC)) (by simp; omega) (by first | exact hC.size | (simp; try omega)) ?_
            intro v5 w5 r5 g5
            have h5 := hC.grown g5 hC.size (fun j e => (ownBlock_ge (r2) e))
            refine hK.out _ _ h5 (fun _ => ?_)
            clear hK K
            try simp only [Act.put, List.setIfInBounds_toArray, List.set_cons_zero, List.set_cons_succ]
            have mtN : Mts w5 v5 (L0 ++ [x2]) := Mts.of_row (by simp) r5 (fun x hx => (atN x hx).below h5)
            replace hHeld := h5
            have CD := hide (first_m v5 (L0 ++ [x2]) x1.r x1.vq x1.vh w5 mtN okN (at1.below (bb2 B12 h5)).1 (at1.below (bb2 B12 h5)).2 ok1)
            rw [HN.out] at CD
            simp only [atI, Option.isSome_some] at CD
            refine wpAnyH_ready (rs := [7]) (by kernel_rfl) (by simp) ?_
            refine AllReadyH.cons (op_at (rest := _) rfl) (fun K hK => ?_) AllReadyH.nil
            go_simp
            refine (CD.out).mono ?_
            rintro e w13 ⟨rfl, hb13⟩
            go_wp2_with fail
            replace hHeld := hHeld.trans (hb13.mono hHeld.size)
            refine hK.out _ _ hHeld (fun _ => ?_)
            clear hK K
            try simp only [Act.put, List.setIfInBounds_toArray, List.set_cons_zero, List.set_cons_succ]
            refine wpAnyH_take (i := 8) (v := ?_) (op_at (rest := _) rfl) (by kernel_rfl) (by kernel_rfl) (by kernel_rfl) (fun _ _ _ h => h) (Or.inl ⟨by rfl, ?_⟩) (by assumption) ?_
            rotate_left 1
            · (intro W hSw; (try dsimp only at hSw); go_simp; (try with_reducible rfl))
            try simp only [Act.put, List.setIfInBounds_toArray, List.set_cons_zero, List.set_cons_succ]
            refine wpAnyH_take (i := 9) (v := ?_) (op_at (rest := _) rfl) (by kernel_rfl) (by kernel_rfl) (by kernel_rfl) (fun _ _ _ h => h) (Or.inl ⟨by rfl, ?_⟩) (by assumption) ?_
            rotate_left 1
            · (intro W hSw; (try dsimp only at hSw); go_simp; (try with_reducible rfl))
            try simp only [Act.put, List.setIfInBounds_toArray, List.set_cons_zero, List.set_cons_succ]
            refine wpAnyH_take (i := 10) (v := ?_) (op_at (rest := _) rfl) (by kernel_rfl) (by kernel_rfl) (by kernel_rfl) (fun _ _ _ h => h) (Or.inl ⟨by rfl, ?_⟩) (by assumption) ?_
            rotate_left 1
            · (intro W hSw; (try dsimp only at hSw); go_simp; (try with_reducible rfl))
            try simp only [Act.put, List.setIfInBounds_toArray, List.set_cons_zero, List.set_cons_succ]
            refine wpAnyH_take (i := 11) (v := ?_) (op_at (rest := _) rfl) (by kernel_rfl) (by kernel_rfl) (by kernel_rfl) (fun _ _ _ h => h) (Or.inl ⟨by rfl, ?_⟩) (by assumption) ?_
            rotate_left 1
            · (intro W hSw; (try dsimp only at hSw); go_simp; (try with_reducible rfl))
            try simp only [Act.put, List.setIfInBounds_toArray, List.set_cons_zero, List.set_cons_succ]
            refine wpAnyH_take (i := 12) (v := ?_) (op_at (rest := _) rfl) (by kernel_rfl) (by kernel_rfl) (by kernel_rfl) (fun _ _ _ h => h) (Or.inl ⟨by rfl, ?_⟩) (by assumption) ?_
            rotate_left 1
            · (intro W hSw; (try dsimp only at hSw); go_simp; (try with_reducible rfl))
            try simp only [Act.put, List.setIfInBounds_toArray, List.set_cons_zero, List.set_cons_succ]
            refine wpAnyH_done (by kernel_rfl) ?_ _
            refine NoPanic.normal ?_
            have B13 := bb2 B12 hHeld
            clear CD mtN r5 h5
            have p0 := fun q : GB w13 => d0 ⟨q.W, bb2 B13 q.h⟩
            have p1 := fun q : GB w13 => d1 ⟨q.W, bb2 B13 q.h⟩
            have p2 := fun q : GB w13 => d2 ⟨q.W, bb2 B13 q.h⟩
            have p3 := fun q : GB w13 => d3 ⟨q.W, bb2 B13 q.h⟩
            have p4 := fun q : GB w13 => d4 ⟨q.W, bb2 B13 q.h⟩
            have r0 := fun q : GB w13 => c0 ⟨q.W, bb2 B13 q.h⟩
            have r1 := fun q : GB w13 => c1 ⟨q.W, bb2 B13 q.h⟩
            have r2 := fun q : GB w13 => c2 ⟨q.W, bb2 B13 q.h⟩
            have r3 := fun q : GB w13 => c3 ⟨q.W, bb2 B13 q.h⟩
            have r4 := fun q : GB w13 => c4 ⟨q.W, bb2 B13 q.h⟩
            dsimp only at p0 p1 p2 p3 p4 r0 r1 r2 r3 r4
            obtain ⟨haty, g', off', he', hg', G⟩ := HC.out i hi
            injection he' with he'
            injection he' with he1 he2
            subst he1 he2
            have oky := ok0 _ (List.getElem_mem hi)
            clear HN
            generalize L0[i] = y at *
            have b0 := fun q : GB w13 => (G.below hg' (bb2 B13 q.h)).1
            have b1 := fun q : GB w13 => (G.below hg' (bb2 B13 q.h)).2.1
            have b2 := fun q : GB w13 => (G.below hg' (bb2 B13 q.h)).2.2.1
            have b3 := fun q : GB w13 => (G.below hg' (bb2 B13 q.h)).2.2.2.1
            have b4 := fun q : GB w13 => (G.below hg' (bb2 B13 q.h)).2.2.2.2
            have CH' := fun q : GB w13 => CH x2 q.W (at2.below (bb2 B13 q.h)) ok2 (bb2 B13 q.h)
            rw [hmo] at CH'
            clear hmo haty G oky
            go_wp2_with fail
            refine wp_region_below (by kernel_rfl) (by kernel_rfl) ?_
            repeat (first | go_big_quiet_step ((go_at_call 15; exact calls_gb (CH' _).out)) | quiet_step ((go_at_call 15; exact calls_gb (CH' _).out)))
            refine wpQuiet_nil ?_
            intro _ hw'
            obtain ⟨q, hw2⟩ := hw'
            subst hw2
            go_wp2_with fail
            refine (calls_gb (ruawake_any _)).mono ?_
            rintro e x ⟨rfl, q, rfl⟩
            go_wp2_with fail
            go_ret
            exact ⟨rfl, bb2 (bb2 BZ B13) q.h⟩
        cases hma : ahM x2.m L0[i].m
        · have HN : Hid (bestM x1.r ((L0 ++ [x2]).map MV.m) = some (i, L0[i].m)) := by
            unfold Hid
            rw [first_more HOH.out x2, hmo, hma, Bool.true_and]
            rfl
          have hil : ((i : Int) == (L0.length : Int)) = false := by rw [beq_eq_false_iff_ne]; omega
          have hi' : (i : Int) < (L0.length : Int) := by omega
          refine wp_region_noPanic ?_
          refine wp_region_held_drew (S := fun W => Below (W12).heap.size (W12) W) (by kernel_rfl) ((Below.refl _ _).drew) (fun hHeld => ?_)
          refine wpAnyH_take (i := 1) (v := ?_) (op_at (rest := _) rfl) (by kernel_rfl) (by kernel_rfl) (by kernel_rfl) (fun _ _ _ h => h) (Or.inl ⟨by rfl, ?_⟩) (by assumption) ?_
          rotate_left 1
          · (intro W hSw; (try dsimp only at hSw); go_simp; (try with_reducible rfl))
          try simp only [Act.put, List.setIfInBounds_toArray, List.set_cons_zero, List.set_cons_succ]
          refine wpAnyH_take (i := 3) (v := ?_) (op_at (rest := _) rfl) (by kernel_rfl) (by kernel_rfl) (by kernel_rfl) (fun _ _ _ h => h) (Or.inl ⟨by rfl, ?_⟩) (by assumption) ?_
          rotate_left 1
          · (intro W hSw; (try dsimp only at hSw); obtain ⟨e0, e1, e2, e3, e4⟩ := m12 W hSw; go_simp; (try with_reducible rfl))
          try simp only [Act.put, List.setIfInBounds_toArray, List.set_cons_zero, List.set_cons_succ]
          refine wpAnyH_take (i := 6) (v := ?_) (op_at (rest := _) rfl) (by kernel_rfl) (by kernel_rfl) (by kernel_rfl) (fun _ _ _ h => h) (Or.inl ⟨by rfl, ?_⟩) (by assumption) ?_
          rotate_left 1
          · (intro W hSw; (try dsimp only at hSw); obtain ⟨e0, e1, e2, e3, e4⟩ := r12 W hSw; go_simp; (try with_reducible rfl))
          try simp only [Act.put, List.setIfInBounds_toArray, List.set_cons_zero, List.set_cons_succ]
          refine wpAnyH_ready (rs := [0, 4]) (by kernel_rfl) (by simp) ?_
          refine AllReadyH.cons (op_at (rest := _) rfl) (fun K hK => ?_) (AllReadyH.cons (op_at (rest := _) rfl) (fun K hK => ?_) AllReadyH.nil)
          · go_simp
            refine hK.out _ _ (hHeld.alloc hHeld.size _) (fun hA => ?_)
            clear hK K
            try simp only [Act.put, List.setIfInBounds_toArray, List.set_cons_zero, List.set_cons_succ]
            refine wpAnyH_ready (rs := [2, 4]) (by kernel_rfl) (by simp) ?_
            refine AllReadyH.cons (op_at (rest := _) rfl) (fun K hK => ?_) (AllReadyH.cons (op_at (rest := _) rfl) (fun K hK => ?_) AllReadyH.nil)
            · refine step_append_mts _ _ _ rfl rfl W12.heap.size (.slice (some ⟨W12.heap.size, 0, none⟩) 0 0) 0 [] rfl (owns_emptyM W12.drew) _ _ rfl (mtL.below hA) (by simp; omega) (by first | exact hA.size | (simp; try omega)) ?_
              intro v2 w2 r2 g2
              have hB := hA.grown g2 hA.size (fun j e => (ownBlock_ge (owns_emptyM W12.drew) e))
              refine hK.out _ _ hB (fun _ => ?_)
              clear hK K
              try simp only [Act.put, List.setIfInBounds_toArray, List.set_cons_zero, List.set_cons_succ]
              refine wpAnyH_ready (rs := [4]) (by kernel_rfl) (by simp) ?_
              refine AllReadyH.cons (op_at (rest := _) rfl) (fun K hK => ?_) AllReadyH.nil
              go_simp
              refine hK.out _ _ (hB.alloc hB.size _) (fun hC => ?_)
              clear hK K
              try simp only [Act.put, List.setIfInBounds_toArray, List.set_cons_zero, List.set_cons_succ]
              refine wpAnyH_ready (rs := [5]) (by kernel_rfl) (by simp) ?_
              refine AllReadyH.cons (op_at (rest := _) rfl) (fun K hK => ?_) AllReadyH.nil
              refine step_append_mts _ _ _ rfl rfl W12.heap.size _ _ _ rfl (ownsRow_below r2 ((Below.refl _ _).alloc (Nat.le_refl _) _)) _ _ rfl (Mts.at_block (alloc_new w2 (.cells #[.int .i64 x2.m.kind, .string x2.m.val, .string x2.m.meth, x2.vh, x2.vq] 26)) (at2W.below hC)) (by simp; omega) (by first | exact hC.size | (simp; try omega)) ?_
              intro v5 w5 r5 g5
              have h5 := hC.grown g5 hC.size (fun j e => ownBlock_ge r2 e)
              refine hK.out _ _ h5 (fun _ => ?_)
              clear hK K
              try simp only [Act.put, List.setIfInBounds_toArray, List.set_cons_zero, List.set_cons_succ]
              have mtN : Mts w5 v5 (L0 ++ [x2]) := Mts.of_row (by simp) r5 (fun x hx => (atN x hx).below h5)
              replace hHeld := h5
              have CD := hide (first_m v5 (L0 ++ [x2]) x1.r x1.vq x1.vh w5 mtN okN (at1.below (bb2 B12 h5)).1 (at1.below (bb2 B12 h5)).2 ok1)
              rw [HN.out] at CD
              simp only [atI, Option.isSome_some] at CD
              refine wpAnyH_ready (rs := [7]) (by kernel_rfl) (by simp) ?_
              refine AllReadyH.cons (op_at (rest := _) rfl) (fun K hK => ?_) AllReadyH.nil
              go_simp
              refine (CD.out).mono ?_
              rintro e w13 ⟨rfl, hb13⟩
              go_wp2_with fail
              replace hHeld := hHeld.trans (hb13.mono hHeld.size)
              refine hK.out _ _ hHeld (fun _ => ?_)
              clear hK K
              try simp only [Act.put, List.setIfInBounds_toArray, List.set_cons_zero, List.set_cons_succ]
              refine wpAnyH_take (i := 8) (v := ?_) (op_at (rest := _) rfl) (by kernel_rfl) (by kernel_rfl) (by kernel_rfl) (fun _ _ _ h => h) (Or.inl ⟨by rfl, ?_⟩) (by assumption) ?_
              rotate_left 1
              · (intro W hSw; (try dsimp only at hSw); go_simp; (try with_reducible rfl))
              try simp only [Act.put, List.setIfInBounds_toArray, List.set_cons_zero, List.set_cons_succ]
              refine wpAnyH_take (i := 9) (v := ?_) (op_at (rest := _) rfl) (by kernel_rfl) (by kernel_rfl) (by kernel_rfl) (fun _ _ _ h => h) (Or.inl ⟨by rfl, ?_⟩) (by assumption) ?_
              rotate_left 1
              · (intro W hSw; (try dsimp only at hSw); go_simp; (try with_reducible rfl))
              try simp only [Act.put, List.setIfInBounds_toArray, List.set_cons_zero, List.set_cons_succ]
              refine wpAnyH_take (i := 10) (v := ?_) (op_at (rest := _) rfl) (by kernel_rfl) (by kernel_rfl) (by kernel_rfl) (fun _ _ _ h => h) (Or.inl ⟨by rfl, ?_⟩) (by assumption) ?_
              rotate_left 1
              · (intro W hSw; (try dsimp only at hSw); go_simp; (try with_reducible rfl))
              try simp only [Act.put, List.setIfInBounds_toArray, List.set_cons_zero, List.set_cons_succ]
              refine wpAnyH_take (i := 11) (v := ?_) (op_at (rest := _) rfl) (by kernel_rfl) (by kernel_rfl) (by kernel_rfl) (fun _ _ _ h => h) (Or.inl ⟨by rfl, ?_⟩) (by assumption) ?_
              rotate_left 1
              · (intro W hSw; (try dsimp only at hSw); go_simp; (try with_reducible rfl))
              try simp only [Act.put, List.setIfInBounds_toArray, List.set_cons_zero, List.set_cons_succ]
              refine wpAnyH_take (i := 12) (v := ?_) (op_at (rest := _) rfl) (by kernel_rfl) (by kernel_rfl) (by kernel_rfl) (fun _ _ _ h => h) (Or.inl ⟨by rfl, ?_⟩) (by assumption) ?_
              rotate_left 1
              · (intro W hSw; (try dsimp only at hSw); go_simp; (try with_reducible rfl))
              try simp only [Act.put, List.setIfInBounds_toArray, List.set_cons_zero, List.set_cons_succ]
              refine wpAnyH_done (by kernel_rfl) ?_ _
              refine NoPanic.normal ?_
              have B13 := bb2 B12 hHeld
              clear CD mtN r5 h5
              have p0 := fun q : GB w13 => d0 ⟨q.W, bb2 B13 q.h⟩
              have p1 := fun q : GB w13 => d1 ⟨q.W, bb2 B13 q.h⟩
              have p2 := fun q : GB w13 => d2 ⟨q.W, bb2 B13 q.h⟩
              have p3 := fun q : GB w13 => d3 ⟨q.W, bb2 B13 q.h⟩
              have p4 := fun q : GB w13 => d4 ⟨q.W, bb2 B13 q.h⟩
              have r0 := fun q : GB w13 => c0 ⟨q.W, bb2 B13 q.h⟩
              have r1 := fun q : GB w13 => c1 ⟨q.W, bb2 B13 q.h⟩
              have r2 := fun q : GB w13 => c2 ⟨q.W, bb2 B13 q.h⟩
              have r3 := fun q : GB w13 => c3 ⟨q.W, bb2 B13 q.h⟩
              have r4 := fun q : GB w13 => c4 ⟨q.W, bb2 B13 q.h⟩
              dsimp only at p0 p1 p2 p3 p4 r0 r1 r2 r3 r4
              obtain ⟨haty, g', off', he', hg', G⟩ := HC.out i hi
              injection he' with he'
              injection he' with he1 he2
              subst he1 he2
              have oky := ok0 _ (List.getElem_mem hi)
              have hmaK := hma
              clear HN
              generalize L0[i] = y at *
              have b0 := fun q : GB w13 => (G.below hg' (bb2 B13 q.h)).1
              have b1 := fun q : GB w13 => (G.below hg' (bb2 B13 q.h)).2.1
              have b2 := fun q : GB w13 => (G.below hg' (bb2 B13 q.h)).2.2.1
              have b3 := fun q : GB w13 => (G.below hg' (bb2 B13 q.h)).2.2.2.1
              have b4 := fun q : GB w13 => (G.below hg' (bb2 B13 q.h)).2.2.2.2
              have CH' := fun q : GB w13 => CH x2 q.W (at2.below (bb2 B13 q.h)) ok2 (bb2 B13 q.h)
              rw [hmo] at CH'
              have CO' := fun q : GB w13 => CO x2 y q.W (at2.below (bb2 B13 q.h)) (haty.below (bb2 B13 q.h)) ok2 oky
              have ho : decide (ordM x2.m y.m < 0) = false := decide_eq_false fun h => by
                rw [Ru.ord_lt, hmaK] at h
                cases h
              clear hmaK hma
              generalize ordM x2.m y.m = od at *
              clear hmo haty G oky
              go_wp2_with fail
              refine wp_region_below (by kernel_rfl) (by kernel_rfl) ?_
              repeat (first | go_big_quiet_step ((first | (go_at_call 15; exact calls_gb (CH' _).out) | (go_at_call 23; exact calls_gb (CO' _).out))) | quiet_step ((first | (go_at_call 15; exact calls_gb (CH' _).out) | (go_at_call 23; exact calls_gb (CO' _).out))))
              refine wpQuiet_nil ?_
              intro _ hw'
              obtain ⟨q, hw2⟩ := hw'
              subst hw2
              go_wp2_with fail
              refine (calls_gb (ruawake_any _)).mono ?_
              rintro e x ⟨rfl, q, rfl⟩
              go_wp2_with fail
              go_ret
              exact ⟨rfl, bb2 (bb2 BZ B13) q.h⟩
            · go_simp
              refine hK.out _ _ (hA.alloc hA.size _) (fun hB => ?_)
              clear hK K
              try simp only [Act.put, List.setIfInBounds_toArray, List.set_cons_zero, List.set_cons_succ]
              refine wpAnyH_ready (rs := [2]) (by kernel_rfl) (by simp) ?_
              refine AllReadyH.cons (op_at (rest := _) rfl) (fun K hK => ?_) AllReadyH.nil
              refine step_append_mts _ _ _ rfl rfl W12.heap.size (.slice (some ⟨W12.heap.size, 0, none⟩) 0 0) 0 [] rfl (ownsRow_below (owns_emptyM W12.drew) ((Below.refl _ _).alloc (Nat.le_refl _) _)) _ _ rfl (mtL.below hB) (by simp; omega) (by first | exact hB.size | (simp; try omega)) ?_
              intro v2 w2 r2 g2
              have hC := hB.grown g2 hB.size (fun j e => ownBlock_ge (owns_emptyM W12.drew) e)
              refine hK.out _ _ hC (fun _ => ?_)
              clear hK K
              try simp only [Act.put, List.setIfInBounds_toArray, List.set_cons_zero, List.set_cons_succ]
              have hp2 : w2.heap[W12.heap.size + 1]? = some (.cells #[.int .i64 x2.m.kind, .string x2.m.val, .string x2.m.meth, x2.vh, x2.vq] 26) := by
                rw [g2.block (W12.heap.size + 1) (by simp) (by show some (W12.heap.size + 1) ≠ some W12.heap.size; simp)]
                have := alloc_new (W12.drew.alloc (.cells #[] 26)) (.cells #[.int .i64 x2.m.kind, .string x2.m.val, .string x2.m.meth, x2.vh, x2.vq] 26)
                rw [show (W12.drew.alloc (.cells #[] 26)).heap.size = W12.heap.size + 1 by simp] at this
                exact this
              refine wpAnyH_ready (rs := [5]) (by kernel_rfl) (by simp) ?_
              refine AllReadyH.cons (op_at (rest := _) rfl) (fun K hK => ?_) AllReadyH.nil
              refine step_append_mts _ _ _ rfl rfl W12.heap.size _ _ _ rfl (r2) _ _ rfl (Mts.at_block hp2 (at2W.below hC)) (by simp; omega) (by first | exact hC.size | (simp; try omega)) ?_
              intro v5 w5 r5 g5
              have h5 := hC.grown g5 hC.size (fun j e => (ownBlock_ge (r2) e))
              refine hK.out _ _ h5 (fun _ => ?_)
              clear hK K
              try simp only [Act.put, List.setIfInBounds_toArray, List.set_cons_zero, List.set_cons_succ]
              have mtN : Mts w5 v5 (L0 ++ [x2]) := Mts.of_row (by simp) r5 (fun x hx => (atN x hx).below h5)
              replace hHeld := h5
              have CD := hide (first_m v5 (L0 ++ [x2]) x1.r x1.vq x1.vh w5 mtN okN (at1.below (bb2 B12 h5)).1 (at1.below (bb2 B12 h5)).2 ok1)
              rw [HN.out] at CD
              simp only [atI, Option.isSome_some] at CD
              refine wpAnyH_ready (rs := [7]) (by kernel_rfl) (by simp) ?_
              refine AllReadyH.cons (op_at (rest := _) rfl) (fun K hK => ?_) AllReadyH.nil
              go_simp
              refine (CD.out).mono ?_
              rintro e w13 ⟨rfl, hb13⟩
              go_wp2_with fail
              replace hHeld := hHeld.trans (hb13.mono hHeld.size)
              refine hK.out _ _ hHeld (fun _ => ?_)
              clear hK K
              try simp only [Act.put, List.setIfInBounds_toArray, List.set_cons_zero, List.set_cons_succ]
              refine wpAnyH_take (i := 8) (v := ?_) (op_at (rest := _) rfl) (by kernel_rfl) (by kernel_rfl) (by kernel_rfl) (fun _ _ _ h => h) (Or.inl ⟨by rfl, ?_⟩) (by assumption) ?_
              rotate_left 1
              · (intro W hSw; (try dsimp only at hSw); go_simp; (try with_reducible rfl))
              try simp only [Act.put, List.setIfInBounds_toArray, List.set_cons_zero, List.set_cons_succ]
              refine wpAnyH_take (i := 9) (v := ?_) (op_at (rest := _) rfl) (by kernel_rfl) (by kernel_rfl) (by kernel_rfl) (fun _ _ _ h => h) (Or.inl ⟨by rfl, ?_⟩) (by assumption) ?_
              rotate_left 1
              · (intro W hSw; (try dsimp only at hSw); go_simp; (try with_reducible rfl))
              try simp only [Act.put, List.setIfInBounds_toArray, List.set_cons_zero, List.set_cons_succ]
              refine wpAnyH_take (i := 10) (v := ?_) (op_at (rest := _) rfl) (by kernel_rfl) (by kernel_rfl) (by kernel_rfl) (fun _ _ _ h => h) (Or.inl ⟨by rfl, ?_⟩) (by assumption) ?_
              rotate_left 1
              · (intro W hSw; (try dsimp only at hSw); go_simp; (try with_reducible rfl))
              try simp only [Act.put, List.setIfInBounds_toArray, List.set_cons_zero, List.set_cons_succ]
              refine wpAnyH_take (i := 11) (v := ?_) (op_at (rest := _) rfl) (by kernel_rfl) (by kernel_rfl) (by kernel_rfl) (fun _ _ _ h => h) (Or.inl ⟨by rfl, ?_⟩) (by assumption) ?_
              rotate_left 1
              · (intro W hSw; (try dsimp only at hSw); go_simp; (try with_reducible rfl))
              try simp only [Act.put, List.setIfInBounds_toArray, List.set_cons_zero, List.set_cons_succ]
              refine wpAnyH_take (i := 12) (v := ?_) (op_at (rest := _) rfl) (by kernel_rfl) (by kernel_rfl) (by kernel_rfl) (fun _ _ _ h => h) (Or.inl ⟨by rfl, ?_⟩) (by assumption) ?_
              rotate_left 1
              · (intro W hSw; (try dsimp only at hSw); go_simp; (try with_reducible rfl))
              try simp only [Act.put, List.setIfInBounds_toArray, List.set_cons_zero, List.set_cons_succ]
              refine wpAnyH_done (by kernel_rfl) ?_ _
              refine NoPanic.normal ?_
              have B13 := bb2 B12 hHeld
              clear CD mtN r5 h5
              have p0 := fun q : GB w13 => d0 ⟨q.W, bb2 B13 q.h⟩
              have p1 := fun q : GB w13 => d1 ⟨q.W, bb2 B13 q.h⟩
              have p2 := fun q : GB w13 => d2 ⟨q.W, bb2 B13 q.h⟩
              have p3 := fun q : GB w13 => d3 ⟨q.W, bb2 B13 q.h⟩
              have p4 := fun q : GB w13 => d4 ⟨q.W, bb2 B13 q.h⟩
              have r0 := fun q : GB w13 => c0 ⟨q.W, bb2 B13 q.h⟩
              have r1 := fun q : GB w13 => c1 ⟨q.W, bb2 B13 q.h⟩
              have r2 := fun q : GB w13 => c2 ⟨q.W, bb2 B13 q.h⟩
              have r3 := fun q : GB w13 => c3 ⟨q.W, bb2 B13 q.h⟩
              have r4 := fun q : GB w13 => c4 ⟨q.W, bb2 B13 q.h⟩
              dsimp only at p0 p1 p2 p3 p4 r0 r1 r2 r3 r4
              obtain ⟨haty, g', off', he', hg', G⟩ := HC.out i hi
              injection he' with he'
              injection he' with he1 he2
              subst he1 he2
              have oky := ok0 _ (List.getElem_mem hi)
              have hmaK := hma
              clear HN
              generalize L0[i] = y at *
              have b0 := fun q : GB w13 => (G.below hg' (bb2 B13 q.h)).1
              have b1 := fun q : GB w13 => (G.below hg' (bb2 B13 q.h)).2.1
              have b2 := fun q : GB w13 => (G.below hg' (bb2 B13 q.h)).2.2.1
              have b3 := fun q : GB w13 => (G.below hg' (bb2 B13 q.h)).2.2.2.1
              have b4 := fun q : GB w13 => (G.below hg' (bb2 B13 q.h)).2.2.2.2
              have CH' := fun q : GB w13 => CH x2 q.W (at2.below (bb2 B13 q.h)) ok2 (bb2 B13 q.h)
              rw [hmo] at CH'
              have CO' := fun q : GB w13 => CO x2 y q.W (at2.below (bb2 B13 q.h)) (haty.below (bb2 B13 q.h)) ok2 oky
              have ho : decide (ordM x2.m y.m < 0) = false := decide_eq_false fun h => by
                rw [Ru.ord_lt, hmaK] at h
                cases h
              clear hmaK hma
              generalize ordM x2.m y.m = od at *
              clear hmo haty G oky
              go_wp2_with fail
              refine wp_region_below (by kernel_rfl) (by kernel_rfl) ?_
              repeat (first | go_big_quiet_step ((first | (go_at_call 15; exact calls_gb (CH' _).out) | (go_at_call 23; exact calls_gb (CO' _).out))) | quiet_step ((first | (go_at_call 15; exact calls_gb (CH' _).out) | (go_at_call 23; exact calls_gb (CO' _).out))))
              refine wpQuiet_nil ?_
              intro _ hw'
              obtain ⟨q, hw2⟩ := hw'
              subst hw2
              go_wp2_with fail
              refine (calls_gb (ruawake_any _)).mono ?_
              rintro e x ⟨rfl, q, rfl⟩
              go_wp2_with fail
              go_ret
              exact ⟨rfl, bb2 (bb2 BZ B13) q.h⟩
          · go_simp
            refine hK.out _ _ (hHeld.alloc hHeld.size _) (fun hA => ?_)
            clear hK K
            try simp only [Act.put, List.setIfInBounds_toArray, List.set_cons_zero, List.set_cons_succ]
            refine wpAnyH_ready (rs := [0]) (by kernel_rfl) (by simp) ?_
            refine AllReadyH.cons (op_at (rest := _) rfl) (fun K hK => ?_) AllReadyH.nil
            go_simp
            refine hK.out _ _ (hA.alloc hA.size _) (fun hB => ?_)
            clear hK K
            try simp only [Act.put, List.setIfInBounds_toArray, List.set_cons_zero, List.set_cons_succ]
            refine wpAnyH_ready (rs := [2]) (by kernel_rfl) (by simp) ?_
            refine AllReadyH.cons (op_at (rest := _) rfl) (fun K hK => ?_) AllReadyH.nil
            refine step_append_mts _ _ _ rfl rfl W12.heap.size (.slice (some ⟨W12.heap.size + 1, 0, none⟩) 0 0) 0 [] rfl (ownsRow_base (owns_emptyN (W12.drew.alloc (.cells #[.int .i64 x2.m.kind, .string x2.m.val, .string x2.m.meth, x2.vh, x2.vq] 26)) (W12.heap.size + 1) (by simp)) (by omega)) _ _ rfl (mtL.below hB) (by simp; omega) (by first | exact hB.size | (simp; try omega)) ?_
            intro v2 w2 r2 g2
            have hC := hB.grown g2 hB.size (fun j e => Nat.le_trans (by omega) (ownBlock_ge (owns_emptyN (W12.drew.alloc (.cells #[.int .i64 x2.m.kind, .string x2.m.val, .string x2.m.meth, x2.vh, x2.vq] 26)) (W12.heap.size + 1) (by simp)) e))
            refine hK.out _ _ hC (fun _ => ?_)
            clear hK K
            try simp only [Act.put, List.setIfInBounds_toArray, List.set_cons_zero, List.set_cons_succ]
            have hp2 : w2.heap[W12.heap.size]? = some (.cells #[.int .i64 x2.m.kind, .string x2.m.val, .string x2.m.meth, x2.vh, x2.vq] 26) := by
              rw [g2.block W12.heap.size (by simp; omega) (by show some W12.heap.size ≠ some (W12.heap.size + 1); simp)]
              show ((W12.drew.alloc (.cells #[.int .i64 x2.m.kind, .string x2.m.val, .string x2.m.meth, x2.vh, x2.vq] 26)).alloc (.cells #[] 26)).heap[W12.heap.size]? = _
              rw [Below.heap_alloc _ _ _ (by simp)]
              exact alloc_new W12.drew (.cells #[.int .i64 x2.m.kind, .string x2.m.val, .string x2.m.meth, x2.vh, x2.vq] 26)
            refine wpAnyH_ready (rs := [5]) (by kernel_rfl) (by simp) ?_
            refine AllReadyH.cons (op_at (rest := _) rfl) (fun K hK => ?_) AllReadyH.nil
            refine step_append_mts _ _ _ rfl rfl W12.heap.size _ _ _ rfl (r2) _ _ rfl (Mts.at_block hp2 (at2W.below hC)) (by simp; omega) (by first | exact hC.size | (simp; try omega)) ?_
            intro v5 w5 r5 g5
            have h5 := hC.grown g5 hC.size (fun j e => (ownBlock_ge (r2) e))
            refine hK.out _ _ h5 (fun _ => ?_)
            clear hK K
            try simp only [Act.put, List.setIfInBounds_toArray, List.set_cons_zero, List.set_cons_succ]
            have mtN : Mts w5 v5 (L0 ++ [x2]) := Mts.of_row (by simp) r5 (fun x hx => (atN x hx).below h5)
            replace hHeld := h5
            have CD := hide (first_m v5 (L0 ++ [x2]) x1.r x1.vq x1.vh w5 mtN okN (at1.below (bb2 B12 h5)).1 (at1.below (bb2 B12 h5)).2 ok1)
            rw [HN.out] at CD
            simp only [atI, Option.isSome_some] at CD
            refine wpAnyH_ready (rs := [7]) (by kernel_rfl) (by simp) ?_
            refine AllReadyH.cons (op_at (rest := _) rfl) (fun K hK => ?_) AllReadyH.nil
            go_simp
            refine (CD.out).mono ?_
            rintro e w13 ⟨rfl, hb13⟩
            go_wp2_with fail
            replace hHeld := hHeld.trans (hb13.mono hHeld.size)
            refine hK.out _ _ hHeld (fun _ => ?_)
            clear hK K
            try simp only [Act.put, List.setIfInBounds_toArray, List.set_cons_zero, List.set_cons_succ]
            refine wpAnyH_take (i := 8) (v := ?_) (op_at (rest := _) rfl) (by kernel_rfl) (by kernel_rfl) (by kernel_rfl) (fun _ _ _ h => h) (Or.inl ⟨by rfl, ?_⟩) (by assumption) ?_
            rotate_left 1
            · (intro W hSw; (try dsimp only at hSw); go_simp; (try with_reducible rfl))
            try simp only [Act.put, List.setIfInBounds_toArray, List.set_cons_zero, List.set_cons_succ]
            refine wpAnyH_take (i := 9) (v := ?_) (op_at (rest := _) rfl) (by kernel_rfl) (by kernel_rfl) (by kernel_rfl) (fun _ _ _ h => h) (Or.inl ⟨by rfl, ?_⟩) (by assumption) ?_
            rotate_left 1
            · (intro W hSw; (try dsimp only at hSw); go_simp; (try with_reducible rfl))
            try simp only [Act.put, List.setIfInBounds_toArray, List.set_cons_zero, List.set_cons_succ]
            refine wpAnyH_take (i := 10) (v := ?_) (op_at (rest := _) rfl) (by kernel_rfl) (by kernel_rfl) (by kernel_rfl) (fun _ _ _ h => h) (Or.inl ⟨by rfl, ?_⟩) (by assumption) ?_
            rotate_left 1
            · (intro W hSw; (try dsimp only at hSw); go_simp; (try with_reducible rfl))
            try simp only [Act.put, List.setIfInBounds_toArray, List.set_cons_zero, List.set_cons_succ]
            refine wpAnyH_take (i := 11) (v := ?_) (op_at (rest := _) rfl) (by kernel_rfl) (by kernel_rfl) (by kernel_rfl) (fun _ _ _ h => h) (Or.inl ⟨by rfl, ?_⟩) (by assumption) ?_
            rotate_left 1
            · (intro W hSw; (try dsimp only at hSw); go_simp; (try with_reducible rfl))
            try simp only [Act.put, List.setIfInBounds_toArray, List.set_cons_zero, List.set_cons_succ]
            refine wpAnyH_take (i := 12) (v := ?_) (op_at (rest := _) rfl) (by kernel_rfl) (by kernel_rfl) (by kernel_rfl) (fun _ _ _ h => h) (Or.inl ⟨by rfl, ?_⟩) (by assumption) ?_
            rotate_left 1
            · (intro W hSw; (try dsimp only at hSw); go_simp; (try with_reducible rfl))
            try simp only [Act.put, List.setIfInBounds_toArray, List.set_cons_zero, List.set_cons_succ]
            refine wpAnyH_done (by kernel_rfl) ?_ _
            refine NoPanic.normal ?_
            have B13 := bb2 B12 hHeld
            clear CD mtN r5 h5
            have p0 := fun q : GB w13 => d0 ⟨q.W, bb2 B13 q.h⟩
            have p1 := fun q : GB w13 => d1 ⟨q.W, bb2 B13 q.h⟩
            have p2 := fun q : GB w13 => d2 ⟨q.W, bb2 B13 q.h⟩
            have p3 := fun q : GB w13 => d3 ⟨q.W, bb2 B13 q.h⟩
            have p4 := fun q : GB w13 => d4 ⟨q.W, bb2 B13 q.h⟩
            have r0 := fun q : GB w13 => c0 ⟨q.W, bb2 B13 q.h⟩
            have r1 := fun q : GB w13 => c1 ⟨q.W, bb2 B13 q.h⟩
            have r2 := fun q : GB w13 => c2 ⟨q.W, bb2 B13 q.h⟩
            have r3 := fun q : GB w13 => c3 ⟨q.W, bb2 B13 q.h⟩
            have r4 := fun q : GB w13 => c4 ⟨q.W, bb2 B13 q.h⟩
            dsimp only at p0 p1 p2 p3 p4 r0 r1 r2 r3 r4
            obtain ⟨haty, g', off', he', hg', G⟩ := HC.out i hi
            injection he' with he'
            injection he' with he1 he2
            subst he1 he2
            have oky := ok0 _ (List.getElem_mem hi)
            have hmaK := hma
            clear HN
            generalize L0[i] = y at *
            have b0 := fun q : GB w13 => (G.below hg' (bb2 B13 q.h)).1
            have b1 := fun q : GB w13 => (G.below hg' (bb2 B13 q.h)).2.1
            have b2 := fun q : GB w13 => (G.below hg' (bb2 B13 q.h)).2.2.1
            have b3 := fun q : GB w13 => (G.below hg' (bb2 B13 q.h)).2.2.2.1
            have b4 := fun q : GB w13 => (G.below hg' (bb2 B13 q.h)).2.2.2.2
            have CH' := fun q : GB w13 => CH x2 q.W (at2.below (bb2 B13 q.h)) ok2 (bb2 B13 q.h)
            rw [hmo] at CH'
            have CO' := fun q : GB w13 => CO x2 y q.W (at2.below (bb2 B13 q.h)) (haty.below (bb2 B13 q.h)) ok2 oky
            have ho : decide (ordM x2.m y.m < 0) = false := decide_eq_false fun h => by
              rw [Ru.ord_lt, hmaK] at h
              cases h
            clear hmaK hma
            generalize ordM x2.m y.m = od at *
            clear hmo haty G oky
            go_wp2_with fail
            refine wp_region_below (by kernel_rfl) (by kernel_rfl) ?_
            repeat (first | go_big_quiet_step ((first | (go_at_call 15; exact calls_gb (CH' _).out) | (go_at_call 23; exact calls_gb (CO' _).out))) | quiet_step ((first | (go_at_call 15; exact calls_gb (CH' _).out) | (go_at_call 23; exact calls_gb (CO' _).out))))
            refine wpQuiet_nil ?_
            intro _ hw'
            obtain ⟨q, hw2⟩ := hw'
            subst hw2
            go_wp2_with fail
            refine (calls_gb (ruawake_any _)).mono ?_
            rintro e x ⟨rfl, q, rfl⟩
            go_wp2_with fail
            go_ret
            exact ⟨rfl, bb2 (bb2 BZ B13) q.h⟩
        · have HN : Hid (bestM x1.r ((L0 ++ [x2]).map MV.m) = some (L0.length, x2.m)) := by
            unfold Hid
            rw [first_more HOH.out x2, hmo, hma, Bool.true_and]
            rfl
          have hi' : (i : Int) < (L0.length : Int) := by omega
          refine wp_region_noPanic ?_
          refine wp_region_held_drew (S := fun W => Below (W12).heap.size (W12) W) (by kernel_rfl) ((Below.refl _ _).drew) (fun hHeld => ?_)
          refine wpAnyH_take (i := 1) (v := ?_) (op_at (rest := _) rfl) (by kernel_rfl) (by kernel_rfl) (by kernel_rfl) (fun _ _ _ h => h) (Or.inl ⟨by rfl, ?_⟩) (by assumption) ?_
          rotate_left 1
          · (intro W hSw; (try dsimp only at hSw); go_simp; (try with_reducible rfl))
          try simp only [Act.put, List.setIfInBounds_toArray, List.set_cons_zero, List.set_cons_succ]
          refine wpAnyH_take (i := 3) (v := ?_) (op_at (rest := _) rfl) (by kernel_rfl) (by kernel_rfl) (by kernel_rfl) (fun _ _ _ h => h) (Or.inl ⟨by rfl, ?_⟩) (by assumption) ?_
          rotate_left 1
          · (intro W hSw; (try dsimp only at hSw); obtain ⟨e0, e1, e2, e3, e4⟩ := m12 W hSw; go_simp; (try with_reducible rfl))
          try simp only [Act.put, List.setIfInBounds_toArray, List.set_cons_zero, List.set_cons_succ]
          refine wpAnyH_take (i := 6) (v := ?_) (op_at (rest := _) rfl) (by kernel_rfl) (by kernel_rfl) (by kernel_rfl) (fun _ _ _ h => h) (Or.inl ⟨by rfl, ?_⟩) (by assumption) ?_
          rotate_left 1
          · (intro W hSw; (try dsimp only at hSw); obtain ⟨e0, e1, e2, e3, e4⟩ := r12 W hSw; go_simp; (try with_reducible rfl))
          try simp only [Act.put, List.setIfInBounds_toArray, List.set_cons_zero, List.set_cons_succ]
          refine wpAnyH_ready (rs := [0, 4]) (by kernel_rfl) (by simp) ?_
          refine AllReadyH.cons (op_at (rest := _) rfl) (fun K hK => ?_) (AllReadyH.cons (op_at (rest := _) rfl) (fun K hK => ?_) AllReadyH.nil)
          · go_simp
            refine hK.out _ _ (hHeld.alloc hHeld.size _) (fun hA => ?_)
            clear hK K
            try simp only [Act.put, List.setIfInBounds_toArray, List.set_cons_zero, List.set_cons_succ]
            refine wpAnyH_ready (rs := [2, 4]) (by kernel_rfl) (by simp) ?_
            refine AllReadyH.cons (op_at (rest := _) rfl) (fun K hK => ?_) (AllReadyH.cons (op_at (rest := _) rfl) (fun K hK => ?_) AllReadyH.nil)
            · refine step_append_mts _ _ _ rfl rfl W12.heap.size (.slice (some ⟨W12.heap.size, 0, none⟩) 0 0) 0 [] rfl (owns_emptyM W12.drew) _ _ rfl (mtL.below hA) (by simp; omega) (by first | exact hA.size | (simp; try omega)) ?_
              intro v2 w2 r2 g2
              have hB := hA.grown g2 hA.size (fun j e => (ownBlock_ge (owns_emptyM W12.drew) e))
              refine hK.out _ _ hB (fun _ => ?_)
              clear hK K
              try simp only [Act.put, List.setIfInBounds_toArray, List.set_cons_zero, List.set_cons_succ]
              refine wpAnyH_ready (rs := [4]) (by kernel_rfl) (by simp) ?_
              refine AllReadyH.cons (op_at (rest := _) rfl) (fun K hK => ?_) AllReadyH.nil
              go_simp
              refine hK.out _ _ (hB.alloc hB.size _) (fun hC => ?_)
              clear hK K
              try simp only [Act.put, List.setIfInBounds_toArray, List.set_cons_zero, List.set_cons_succ]
              refine wpAnyH_ready (rs := [5]) (by kernel_rfl) (by simp) ?_
              refine AllReadyH.cons (op_at (rest := _) rfl) (fun K hK => ?_) AllReadyH.nil
              refine step_append_mts _ _ _ rfl rfl W12.heap.size _ _ _ rfl (ownsRow_below r2 ((Below.refl _ _).alloc (Nat.le_refl _) _)) _ _ rfl (Mts.at_block (alloc_new w2 (.cells #[.int .i64 x2.m.kind, .string x2.m.val, .string x2.m.meth, x2.vh, x2.vq] 26)) (at2W.below hC)) (by simp; omega) (by first | exact hC.size | (simp; try omega)) ?_
              intro v5 w5 r5 g5
              have h5 := hC.grown g5 hC.size (fun j e => ownBlock_ge r2 e)
              refine hK.out _ _ h5 (fun _ => ?_)
              clear hK K
              try simp only [Act.put, List.setIfInBounds_toArray, List.set_cons_zero, List.set_cons_succ]
              have mtN : Mts w5 v5 (L0 ++ [x2]) := Mts.of_row (by simp) r5 (fun x hx => (atN x hx).below h5)
              replace hHeld := h5
              have CD := hide (first_m v5 (L0 ++ [x2]) x1.r x1.vq x1.vh w5 mtN okN (at1.below (bb2 B12 h5)).1 (at1.below (bb2 B12 h5)).2 ok1)
              rw [HN.out] at CD
              simp only [atI, Option.isSome_some] at CD
              refine wpAnyH_ready (rs := [7]) (by kernel_rfl) (by simp) ?_
              refine AllReadyH.cons (op_at (rest := _) rfl) (fun K hK => ?_) AllReadyH.nil
              go_simp
              refine (CD.out).mono ?_
              rintro e w13 ⟨rfl, hb13⟩
              go_wp2_with fail
              replace hHeld := hHeld.trans (hb13.mono hHeld.size)
              refine hK.out _ _ hHeld (fun _ => ?_)
              clear hK K
              try simp only [Act.put, List.setIfInBounds_toArray, List.set_cons_zero, List.set_cons_succ]
              refine wpAnyH_take (i := 8) (v := ?_) (op_at (rest := _) rfl) (by kernel_rfl) (by kernel_rfl) (by kernel_rfl) (fun _ _ _ h => h) (Or.inl ⟨by rfl, ?_⟩) (by assumption) ?_
              rotate_left 1
              · (intro W hSw; (try dsimp only at hSw); go_simp; (try with_reducible rfl))
              try simp only [Act.put, List.setIfInBounds_toArray, List.set_cons_zero, List.set_cons_succ]
              refine wpAnyH_take (i := 9) (v := ?_) (op_at (rest := _) rfl) (by kernel_rfl) (by kernel_rfl) (by kernel_rfl) (fun _ _ _ h => h) (Or.inl ⟨by rfl, ?_⟩) (by assumption) ?_
              rotate_left 1
              · (intro W hSw; (try dsimp only at hSw); go_simp; (try with_reducible rfl))
              try simp only [Act.put, List.setIfInBounds_toArray, List.set_cons_zero, List.set_cons_succ]
              refine wpAnyH_take (i := 10) (v := ?_) (op_at (rest := _) rfl) (by kernel_rfl) (by kernel_rfl) (by kernel_rfl) (fun _ _ _ h => h) (Or.inl ⟨by rfl, ?_⟩) (by assumption) ?_
              rotate_left 1
              · (intro W hSw; (try dsimp only at hSw); go_simp; (try with_reducible rfl))
              try simp only [Act.put, List.setIfInBounds_toArray, List.set_cons_zero, List.set_cons_succ]
              refine wpAnyH_take (i := 11) (v := ?_) (op_at (rest := _) rfl) (by kernel_rfl) (by kernel_rfl) (by kernel_rfl) (fun _ _ _ h => h) (Or.inl ⟨by rfl, ?_⟩) (by assumption) ?_
              rotate_left 1
              · (intro W hSw; (try dsimp only at hSw); go_simp; (try with_reducible rfl))
              try simp only [Act.put, List.setIfInBounds_toArray, List.set_cons_zero, List.set_cons_succ]
              refine wpAnyH_take (i := 12) (v := ?_) (op_at (rest := _) rfl) (by kernel_rfl) (by kernel_rfl) (by kernel_rfl) (fun _ _ _ h => h) (Or.inl ⟨by rfl, ?_⟩) (by assumption) ?_
              rotate_left 1
              · (intro W hSw; (try dsimp only at hSw); go_simp; (try with_reducible rfl))
              try simp only [Act.put, List.setIfInBounds_toArray, List.set_cons_zero, List.set_cons_succ]
              refine wpAnyH_done (by kernel_rfl) ?_ _
              refine NoPanic.normal ?_
              have B13 := bb2 B12 hHeld
              clear CD mtN r5 h5
              have p0 := fun q : GB w13 => d0 ⟨q.W, bb2 B13 q.h⟩
              have p1 := fun q : GB w13 => d1 ⟨q.W, bb2 B13 q.h⟩
              have p2 := fun q : GB w13 => d2 ⟨q.W, bb2 B13 q.h⟩
              have p3 := fun q : GB w13 => d3 ⟨q.W, bb2 B13 q.h⟩
              have p4 := fun q : GB w13 => d4 ⟨q.W, bb2 B13 q.h⟩
              have r0 := fun q : GB w13 => c0 ⟨q.W, bb2 B13 q.h⟩
              have r1 := fun q : GB w13 => c1 ⟨q.W, bb2 B13 q.h⟩
              have r2 := fun q : GB w13 => c2 ⟨q.W, bb2 B13 q.h⟩
              have r3 := fun q : GB w13 => c3 ⟨q.W, bb2 B13 q.h⟩
              have r4 := fun q : GB w13 => c4 ⟨q.W, bb2 B13 q.h⟩
              dsimp only at p0 p1 p2 p3 p4 r0 r1 r2 r3 r4
              obtain ⟨haty, g', off', he', hg', G⟩ := HC.out i hi
              injection he' with he'
              injection he' with he1 he2
              subst he1 he2
              have oky := ok0 _ (List.getElem_mem hi)
              have hmaK := hma
              clear HN
              generalize L0[i] = y at *
              have b0 := fun q : GB w13 => (G.below hg' (bb2 B13 q.h)).1
              have b1 := fun q : GB w13 => (G.below hg' (bb2 B13 q.h)).2.1
              have b2 := fun q : GB w13 => (G.below hg' (bb2 B13 q.h)).2.2.1
              have b3 := fun q : GB w13 => (G.below hg' (bb2 B13 q.h)).2.2.2.1
              have b4 := fun q : GB w13 => (G.below hg' (bb2 B13 q.h)).2.2.2.2
              have CH' := fun q : GB w13 => CH x2 q.W (at2.below (bb2 B13 q.h)) ok2 (bb2 B13 q.h)
              rw [hmo] at CH'
              have CO' := fun q : GB w13 => CO x2 y q.W (at2.below (bb2 B13 q.h)) (haty.below (bb2 B13 q.h)) ok2 oky
              have ho : ordM x2.m y.m < 0 := (Ru.ord_lt _ _).2 hmaK
              clear hmaK hma
              generalize ordM x2.m y.m = od at *
              clear hmo haty G oky
              go_wp2_with fail
              refine wp_region_below (by kernel_rfl) (by kernel_rfl) ?_
              repeat (first | go_big_quiet_step ((first | (go_at_call 15; exact calls_gb (CH' _).out) | (go_at_call 23; exact calls_gb (CO' _).out))) | quiet_step ((first | (go_at_call 15; exact calls_gb (CH' _).out) | (go_at_call 23; exact calls_gb (CO' _).out))))
              refine wpQuiet_nil ?_
              intro _ hw'
              obtain ⟨q, hw2⟩ := hw'
              subst hw2
              go_wp2_with fail
              refine (calls_gb (ruawake_any _)).mono ?_
              rintro e x ⟨rfl, q, rfl⟩
              go_wp2_with fail
              go_ret
              exact ⟨rfl, bb2 (bb2 BZ B13) q.h⟩
            · go_simp
              refine hK.out _ _ (hA.alloc hA.size _) (fun hB => ?_)
              clear hK K
              try simp only [Act.put, List.setIfInBounds_toArray, List.set_cons_zero, List.set_cons_succ]
              refine wpAnyH_ready (rs := [2]) (by kernel_rfl) (by simp) ?_
              refine AllReadyH.cons (op_at (rest := _) rfl) (fun K hK => ?_) AllReadyH.nil
              refine step_append_mts _ _ _ rfl rfl W12.heap.size (.slice (some ⟨W12.heap.size, 0, none⟩) 0 0) 0 [] rfl (ownsRow_below (owns_emptyM W12.drew) ((Below.refl _ _).alloc (Nat.le_refl _) _)) _ _ rfl (mtL.below hB) (by simp; omega) (by first | exact hB.size | (simp; try omega)) ?_
              intro v2 w2 r2 g2
              have hC := hB.grown g2 hB.size (fun j e => ownBlock_ge (owns_emptyM W12.drew) e)
              refine hK.out _ _ hC (fun _ => ?_)
              clear hK K
              try simp only [Act.put, List.setIfInBounds_toArray, List.set_cons_zero, List.set_cons_succ]
              have hp2 : w2.heap[W12.heap.size + 1]? = some (.cells #[.int .i64 x2.m.kind, .string x2.m.val, .string x2.m.meth, x2.vh, x2.vq] 26) := by
                rw [g2.block (W12.heap.size + 1) (by simp) (by show some (W12.heap.size + 1) ≠ some W12.heap.size; simp)]
                have := alloc_new (W12.drew.alloc (.cells #[] 26)) (.cells #[.int .i64 x2.m.kind, .string x2.m.val, .string x2.m.meth, x2.vh, x2.vq] 26)
                rw [show (W12.drew.alloc (.cells #[] 26)).heap.size = W12.heap.size + 1 by simp] at this
                exact this
              refine wpAnyH_ready (rs := [5]) (by kernel_rfl) (by simp) ?_
              refine AllReadyH.cons (op_at (rest := _) rfl) (fun K hK => ?_) AllReadyH.nil
              refine step_append_mts _ _ _ rfl rfl W12.heap.size _ _ _ rfl (r2) _ _ rfl (Mts.at_block hp2 (at2W.below hC)) (by simp; omega) (by first | exact hC.size | (simp; try omega)) ?_
              intro v5 w5 r5 g5
              have h5 := hC.grown g5 hC.size (fun j e => (ownBlock_ge (r2) e))
              refine hK.out _ _ h5 (fun _ => ?_)
              clear hK K
              try simp only [Act.put, List.setIfInBounds_toArray, List.set_cons_zero, List.set_cons_succ]
              have mtN : Mts w5 v5 (L0 ++ [x2]) := Mts.of_row (by simp) r5 (fun x hx => (atN x hx).below h5)
              replace hHeld := h5
              have CD := hide (first_m v5 (L0 ++ [x2]) x1.r x1.vq x1.vh w5 mtN okN (at1.below (bb2 B12 h5)).1 (at1.below (bb2 B12 h5)).2 ok1)
              rw [HN.out] at CD
              simp only [atI, Option.isSome_some] at CD
              refine wpAnyH_ready (rs := [7]) (by kernel_rfl) (by simp) ?_
              refine AllReadyH.cons (op_at (rest := _) rfl) (fun K hK => ?_) AllReadyH.nil
              go_simp
              refine (CD.out).mono ?_
              rintro e w13 ⟨rfl, hb13⟩
              go_wp2_with fail
              replace hHeld := hHeld.trans (hb13.mono hHeld.size)
              refine hK.out _ _ hHeld (fun _ => ?_)
              clear hK K
              try simp only [Act.put, List.setIfInBounds_toArray, List.set_cons_zero, List.set_cons_succ]
              refine wpAnyH_take (i := 8) (v := ?_) (op_at (rest := _) rfl) (by kernel_rfl) (by kernel_rfl) (by kernel_rfl) (fun _ _ _ h => h) (Or.inl ⟨by rfl, ?_⟩) (by assumption) ?_
              rotate_left 1
              · (intro W hSw; (try dsimp only at hSw); go_simp; (try with_reducible rfl))
              try simp only [Act.put, List.setIfInBounds_toArray, List.set_cons_zero, List.set_cons_succ]
              refine wpAnyH_take (i := 9) (v := ?_) (op_at (rest := _) rfl) (by kernel_rfl) (by kernel_rfl) (by kernel_rfl) (fun _ _ _ h => h) (Or.inl ⟨by rfl, ?_⟩) (by assumption) ?_
              rotate_left 1
              · (intro W hSw; (try dsimp only at hSw); go_simp; (try with_reducible rfl))
              try simp only [Act.put, List.setIfInBounds_toArray, List.set_cons_zero, List.set_cons_succ]
              refine wpAnyH_take (i := 10) (v := ?_) (op_at (rest := _) rfl) (by kernel_rfl) (by kernel_rfl) (by kernel_rfl) (fun _ _ _ h => h) (Or.inl ⟨by rfl, ?_⟩) (by assumption) ?_
              rotate_left 1
              · (intro W hSw; (try dsimp only at hSw); go_simp; (try with_reducible rfl))
              try simp only [Act.put, List.setIfInBounds_toArray, List.set_cons_zero, List.set_cons_succ]
              refine wpAnyH_take (i := 11) (v := ?_) (op_at (rest := _) rfl) (by kernel_rfl) (by kernel_rfl) (by kernel_rfl) (fun _ _ _ h => h) (Or.inl ⟨by rfl, ?_⟩) (by assumption) ?_
              rotate_left 1
              · (intro W hSw; (try dsimp only at hSw); go_simp; (try with_reducible rfl))
              try simp only [Act.put, List.setIfInBounds_toArray, List.set_cons_zero, List.set_cons_succ]
              refine wpAnyH_take (i := 12) (v := ?_) (op_at (rest := _) rfl) (by kernel_rfl) (by kernel_rfl) (by kernel_rfl) (fun _ _ _ h => h) (Or.inl ⟨by rfl, ?_⟩) (by assumption) ?_
              rotate_left 1
              · (intro W hSw; (try dsimp only at hSw); go_simp; (try with_reducible rfl))
              try simp only [Act.put, List.setIfInBounds_toArray, List.set_cons_zero, List.set_cons_succ]
              refine wpAnyH_done (by kernel_rfl) ?_ _
              refine NoPanic.normal ?_
              have B13 := bb2 B12 hHeld
              clear CD mtN r5 h5
              have p0 := fun q : GB w13 => d0 ⟨q.W, bb2 B13 q.h⟩
              have p1 := fun q : GB w13 => d1 ⟨q.W, bb2 B13 q.h⟩
              have p2 := fun q : GB w13 => d2 ⟨q.W, bb2 B13 q.h⟩
              have p3 := fun q : GB w13 => d3 ⟨q.W, bb2 B13 q.h⟩
              have p4 := fun q : GB w13 => d4 ⟨q.W, bb2 B13 q.h⟩
              have r0 := fun q : GB w13 => c0 ⟨q.W, bb2 B13 q.h⟩
              have r1 := fun q : GB w13 => c1 ⟨q.W, bb2 B13 q.h⟩
              have r2 := fun q : GB w13 => c2 ⟨q.W, bb2 B13 q.h⟩
              have r3 := fun q : GB w13 => c3 ⟨q.W, bb2 B13 q.h⟩
              have r4 := fun q : GB w13 => c4 ⟨q.W, bb2 B13 q.h⟩
              dsimp only at p0 p1 p2 p3 p4 r0 r1 r2 r3 r4
              obtain ⟨haty, g', off', he', hg', G⟩ := HC.out i hi
              injection he' with he'
              injection he' with he1 he2
              subst he1 he2
              have oky := ok0 _ (List.getElem_mem hi)
              have hmaK := hma
              clear HN
              generalize L0[i] = y at *
              have b0 := fun q : GB w13 => (G.below hg' (bb2 B13 q.h)).1
              have b1 := fun q : GB w13 => (G.below hg' (bb2 B13 q.h)).2.1
              have b2 := fun q : GB w13 => (G.below hg' (bb2 B13 q.h)).2.2.1
              have b3 := fun q : GB w13 => (G.below hg' (bb2 B13 q.h)).2.2.2.1
              have b4 := fun q : GB w13 => (G.below hg' (bb2 B13 q.h)).2.2.2.2
              have CH' := fun q : GB w13 => CH x2 q.W (at2.below (bb2 B13 q.h)) ok2 (bb2 B13 q.h)
              rw [hmo] at CH'
              have CO' := fun q : GB w13 => CO x2 y q.W (at2.below (bb2 B13 q.h)) (haty.below (bb2 B13 q.h)) ok2 oky
              have ho : ordM x2.m y.m < 0 := (Ru.ord_lt _ _).2 hmaK
              clear hmaK hma
              generalize ordM x2.m y.m = od at *
              clear hmo haty G oky
              go_wp2_with fail
              refine wp_region_below (by kernel_rfl) (by kernel_rfl) ?_
              repeat (first | go_big_quiet_step ((first | (go_at_call 15; exact calls_gb (CH' _).out) | (go_at_call 23; exact calls_gb (CO' _).out))) | quiet_step ((first | (go_at_call 15; exact calls_gb (CH' _).out) | (go_at_call 23; exact calls_gb (CO' _).out))))
              refine wpQuiet_nil ?_
              intro _ hw'
              obtain ⟨q, hw2⟩ := hw'
              subst hw2
              go_wp2_with fail
              refine (calls_gb (ruawake_any _)).mono ?_
              rintro e x ⟨rfl, q, rfl⟩
              go_wp2_with fail
              go_ret
              exact ⟨rfl, bb2 (bb2 BZ B13) q.h⟩
          · go_simp
            refine hK.out _ _ (hHeld.alloc hHeld.size _) (fun hA => ?_)
            clear hK K
            try simp only [Act.put, List.setIfInBounds_toArray, List.set_cons_zero, List.set_cons_succ]
            refine wpAnyH_ready (rs := [0]) (by kernel_rfl) (by simp) ?_
            refine AllReadyH.cons (op_at (rest := _) rfl) (fun K hK => ?_) AllReadyH.nil
            go_simp
            refine hK.out _ _ (hA.alloc hA.size _) (fun hB => ?_)
            clear hK K
            try simp only [Act.put, List.setIfInBounds_toArray, List.set_cons_zero, List.set_cons_succ]
            refine wpAnyH_ready (rs := [2]) (by kernel_rfl) (by simp) ?_
            refine AllReadyH.cons (op_at (rest := _) rfl) (fun K hK => ?_) AllReadyH.nil
            refine step_append_mts _ _ _ rfl rfl W12.heap.size (.slice (some ⟨W12.heap.size + 1, 0, none⟩) 0 0) 0 [] rfl (ownsRow_base (owns_emptyN (W12.drew.alloc (.cells #[.int .i64 x2.m.kind, .string x2.m.val, .string x2.m.meth, x2.vh, x2.vq] 26)) (W12.heap.size + 1) (by simp)) (by omega)) _ _ rfl (mtL.below hB) (by simp; omega) (by first | exact hB.size | (simp; try omega)) ?_
            intro v2 w2 r2 g2
            have hC := hB.grown g2 hB.size (fun j e => Nat.le_trans (by omega) (ownBlock_ge (owns_emptyN (W12.drew.alloc (.cells #[.int .i64 x2.m.kind, .string x2.m.val, .string x2.m.meth, x2.vh, x2.vq] 26)) (W12.heap.size + 1) (by simp)) e))
            refine hK.out _ _ hC (fun _ => ?_)
            clear hK K
            try simp only [Act.put, List.setIfInBounds_toArray, List.set_cons_zero, List.set_cons_succ]
            have hp2 : w2.heap[W12.heap.size]? = some (.cells #[.int .i64 x2.m.kind, .string x2.m.val, .string x2.m.meth, x2.vh, x2.vq] 26) := by
              rw [g2.block W12.heap.size (by simp; omega) (by show some W12.heap.size ≠ some (W12.heap.size + 1); simp)]
              show ((W12.drew.alloc (.cells #[.int .i64 x2.m.kind, .string x2.m.val, .string x2.m.meth, x2.vh, x2.vq] 26)).alloc (.cells #[] 26)).heap[W12.heap.size]? = _
              rw [Below.heap_alloc _ _ _ (by simp)]
              exact alloc_new W12.drew (.cells #[.int .i64 x2.m.kind, .string x2.m.val, .string x2.m.meth, x2.vh, x2.vq] 26)
            refine wpAnyH_ready (rs := [5]) (by kernel_rfl) (by simp) ?_
            refine AllReadyH.cons (op_at (rest := _) rfl) (fun K hK => ?_) AllReadyH.nil
            refine step_append_mts _ _ _ rfl rfl W12.heap.size _ _ _ rfl (r2) _ _ rfl (Mts.at_block hp2 (at2W.below hC)) (by simp; omega) (by first | exact hC.size | (simp; try omega)) ?_
            intro v5 w5 r5 g5
            have h5 := hC.grown g5 hC.size (fun j e => (ownBlock_ge (r2) e))
            refine hK.out _ _ h5 (fun _ => ?_)
            clear hK K
            try simp only [Act.put, List.setIfInBounds_toArray, List.set_cons_zero, List.set_cons_succ]
            have mtN : Mts w5 v5 (L0 ++ [x2]) := Mts.of_row (by simp) r5 (fun x hx => (atN x hx).below h5)
            replace hHeld := h5
            have CD := hide (first_m v5 (L0 ++ [x2]) x1.r x1.vq x1.vh w5 mtN okN (at1.below (bb2 B12 h5)).1 (at1.below (bb2 B12 h5)).2 ok1)
            rw [HN.out] at CD
            simp only [atI, Option.isSome_some] at CD
            refine wpAnyH_ready (rs := [7]) (by kernel_rfl) (by simp) ?_
            refine AllReadyH.cons (op_at (rest := _) rfl) (fun K hK => ?_) AllReadyH.nil
            go_simp
            refine (CD.out).mono ?_
            rintro e w13 ⟨rfl, hb13⟩
            go_wp2_with fail
            replace hHeld := hHeld.trans (hb13.mono hHeld.size)
            refine hK.out _ _ hHeld (fun _ => ?_)
            clear hK K
            try simp only [Act.put, List.setIfInBounds_toArray, List.set_cons_zero, List.set_cons_succ]
            refine wpAnyH_take (i := 8) (v := ?_) (op_at (rest := _) rfl) (by kernel_rfl) (by kernel_rfl) (by kernel_rfl) (fun _ _ _ h => h) (Or.inl ⟨by rfl, ?_⟩) (by assumption) ?_
            rotate_left 1
            · (intro W hSw; (try dsimp only at hSw); go_simp; (try with_reducible rfl))
            try simp only [Act.put, List.setIfInBounds_toArray, List.set_cons_zero, List.set_cons_succ]
            refine wpAnyH_take (i := 9) (v := ?_) (op_at (rest := _) rfl) (by kernel_rfl) (by kernel_rfl) (by kernel_rfl) (fun _ _ _ h => h) (Or.inl ⟨by rfl, ?_⟩) (by assumption) ?_
            rotate_left 1
            · (intro W hSw; (try dsimp only at hSw); go_simp; (try with_reducible rfl))
            try simp only [Act.put, List.setIfInBounds_toArray, List.set_cons_zero, List.set_cons_succ]
            refine wpAnyH_take (i := 10) (v := ?_) (op_at (rest := _) rfl) (by kernel_rfl) (by kernel_rfl) (by kernel_rfl) (fun _ _ _ h => h) (Or.inl ⟨by rfl, ?_⟩) (by assumption) ?_
            rotate_left 1
            · (intro W hSw; (try dsimp only at hSw); go_simp; (try with_reducible rfl))
            try simp only [Act.put, List.setIfInBounds_toArray, List.set_cons_zero, List.set_cons_succ]
            refine wpAnyH_take (i := 11) (v := ?_) (op_at (rest := _) rfl) (by kernel_rfl) (by kernel_rfl) (by kernel_rfl) (fun _ _ _ h => h) (Or.inl ⟨by rfl, ?_⟩) (by assumption) ?_
            rotate_left 1
            · (intro W hSw; (try dsimp only at hSw); go_simp; (try with_reducible rfl))
            try simp only [Act.put, List.setIfInBounds_toArray, List.set_cons_zero, List.set_cons_succ]
            refine wpAnyH_take (i := 12) (v := ?_) (op_at (rest := _) rfl) (by kernel_rfl) (by kernel_rfl) (by kernel_rfl) (fun _ _ _ h => h) (Or.inl ⟨by rfl, ?_⟩) (by assumption) ?_
            rotate_left 1
            · (intro W hSw; (try dsimp only at hSw); go_simp; (try with_reducible rfl))
            try simp only [Act.put, List.setIfInBounds_toArray, List.set_cons_zero, List.set_cons_succ]
            refine wpAnyH_done (by kernel_rfl) ?_ _
            refine NoPanic.normal ?_
            have B13 := bb2 B12 hHeld
            clear CD mtN r5 h5
            have p0 := fun q : GB w13 => d0 ⟨q.W, bb2 B13 q.h⟩
            have p1 := fun q : GB w13 => d1 ⟨q.W, bb2 B13 q.h⟩
            have p2 := fun q : GB w13 => d2 ⟨q.W, bb2 B13 q.h⟩
            have p3 := fun q : GB w13 => d3 ⟨q.W, bb2 B13 q.h⟩
            have p4 := fun q : GB w13 => d4 ⟨q.W, bb2 B13 q.h⟩
            have r0 := fun q : GB w13 => c0 ⟨q.W, bb2 B13 q.h⟩
            have r1 := fun q : GB w13 => c1 ⟨q.W, bb2 B13 q.h⟩
            have r2 := fun q : GB w13 => c2 ⟨q.W, bb2 B13 q.h⟩
            have r3 := fun q : GB w13 => c3 ⟨q.W, bb2 B13 q.h⟩
            have r4 := fun q : GB w13 => c4 ⟨q.W, bb2 B13 q.h⟩
            dsimp only at p0 p1 p2 p3 p4 r0 r1 r2 r3 r4
            obtain ⟨haty, g', off', he', hg', G⟩ := HC.out i hi
            injection he' with he'
            injection he' with he1 he2
            subst he1 he2
            have oky := ok0 _ (List.getElem_mem hi)
            have hmaK := hma
            clear HN
            generalize L0[i] = y at *
            have b0 := fun q : GB w13 => (G.below hg' (bb2 B13 q.h)).1
            have b1 := fun q : GB w13 => (G.below hg' (bb2 B13 q.h)).2.1
            have b2 := fun q : GB w13 => (G.below hg' (bb2 B13 q.h)).2.2.1
            have b3 := fun q : GB w13 => (G.below hg' (bb2 B13 q.h)).2.2.2.1
            have b4 := fun q : GB w13 => (G.below hg' (bb2 B13 q.h)).2.2.2.2
            have CH' := fun q : GB w13 => CH x2 q.W (at2.below (bb2 B13 q.h)) ok2 (bb2 B13 q.h)
            rw [hmo] at CH'
            have CO' := fun q : GB w13 => CO x2 y q.W (at2.below (bb2 B13 q.h)) (haty.below (bb2 B13 q.h)) ok2 oky
            have ho : ordM x2.m y.m < 0 := (Ru.ord_lt _ _).2 hmaK
            clear hmaK hma
            generalize ordM x2.m y.m = od at *
            clear hmo haty G oky
            go_wp2_with fail
            refine wp_region_below (by kernel_rfl) (by kernel_rfl) ?_
            repeat (first | go_big_quiet_step ((first | (go_at_call 15; exact calls_gb (CH' _).out) | (go_at_call 23; exact calls_gb (CO' _).out))) | quiet_step ((first | (go_at_call 15; exact calls_gb (CH' _).out) | (go_at_call 23; exact calls_gb (CO' _).out))))
            refine wpQuiet_nil ?_
            intro _ hw'
            obtain ⟨q, hw2⟩ := hw'
            subst hw2
            go_wp2_with fail
            refine (calls_gb (ruawake_any _)).mono ?_
            rintro e x ⟨rfl, q, rfl⟩
            go_wp2_with fail
            go_ret
            exact ⟨rfl, bb2 (bb2 BZ B13) q.h⟩

end Go.Proofs.Ytppnkfjdgalgbaa
