/-
  The laws RuleRanks, RuleHolds.
-/
import Derived.Test.YtppnkfjdgalgbaaRuArg
import Derived.Test.YtppnkfjdgalgbaaRuLawB
import Derived.Test.YtppnkfjdgalgbaaRuRefB
namespace Go.Proofs.Ytppnkfjdgalgbaa
open Go Go.RowKit Go.Shelf

attribute [local go_sem] gb_const

set_option maxHeartbeats 6400000 in
theorem ranks_law (v0 v1 v2 : Value) (w : World) (h0 : ArgM w v0) (h1 : ArgM w v1) (h2 : ArgM w v2) :
    Calls Try.prog 5 #[v0, v1, v2] w fun e w' => e = .returned (.bool true) ∧ Below w.heap.size w w' := by
  obtain ⟨y0, rfl, hat0, raw0⟩ := h0
  obtain ⟨y1, rfl, hat1, raw1⟩ := h1
  obtain ⟨y2, rfl, hat2, raw2⟩ := h2
  have C0 := fun W (h : Below w.heap.size w W) => hide (mfew_any y0.m y0.vh y0.vq W raw0 (hat0.below h).1 (hat0.below h).2)
  have C1 := fun W (h : Below w.heap.size w W) => hide (mfew_any y1.m y1.vh y1.vq W raw1 (hat1.below h).1 (hat1.below h).2)
  have C2 := fun W (h : Below w.heap.size w W) => hide (mfew_any y2.m y2.vh y2.vq W raw2 (hat2.below h).1 (hat2.below h).2)
  clear hat0 raw0 hat1 raw1 hat2 raw2
  obtain ⟨base, hbase⟩ : ∃ z, z = (((w.alloc (.cells #[.int .i64 y0.m.kind, .string y0.m.val, .string y0.m.meth, y0.vh, y0.vq] 26)).alloc (.cells #[.int .i64 y1.m.kind, .string y1.m.val, .string y1.m.meth, y1.vh, y1.vq] 26)).alloc (.cells #[.int .i64 y2.m.kind, .string y2.m.val, .string y2.m.meth, y2.vh, y2.vq] 26)) := ⟨_, rfl⟩
  have HB : ∀ W, Below base.heap.size base W → W.heap[w.heap.size]? = some (.cells #[.int .i64 y0.m.kind, .string y0.m.val, .string y0.m.meth, y0.vh, y0.vq] 26) ∧ W.heap[w.heap.size + 1]? = some (.cells #[.int .i64 y1.m.kind, .string y1.m.val, .string y1.m.meth, y1.vh, y1.vq] 26) ∧ W.heap[w.heap.size + 1 + 1]? = some (.cells #[.int .i64 y2.m.kind, .string y2.m.val, .string y2.m.meth, y2.vh, y2.vq] 26) := fun W h => blocks3 (by rw [← hbase]; exact h)
  have B0 : Below w.heap.size w base := by rw [hbase]; exact below3 w
  have hbs : Hid (base.heap.size = w.heap.size + 3) := by unfold Hid; rw [hbase]; simp
  have m00 := fun W h => (cell5 (HB W h).1).1
  have m01 := fun W h => (cell5 (HB W h).1).2.1
  have m02 := fun W h => (cell5 (HB W h).1).2.2.1
  have m03 := fun W h => (cell5 (HB W h).1).2.2.2.1
  have m04 := fun W h => (cell5 (HB W h).1).2.2.2.2
  have m10 := fun W h => (cell5 (HB W h).2.1).1
  have m11 := fun W h => (cell5 (HB W h).2.1).2.1
  have m12 := fun W h => (cell5 (HB W h).2.1).2.2.1
  have m13 := fun W h => (cell5 (HB W h).2.1).2.2.2.1
  have m14 := fun W h => (cell5 (HB W h).2.1).2.2.2.2
  have m20 := fun W h => (cell5 (HB W h).2.2).1
  have m21 := fun W h => (cell5 (HB W h).2.2).2.1
  have m22 := fun W h => (cell5 (HB W h).2.2).2.2.1
  have m23 := fun W h => (cell5 (HB W h).2.2).2.2.2.1
  have m24 := fun W h => (cell5 (HB W h).2.2).2.2.2.2
  have HBH := hide HB
  clear HB
  go_enter Try.func5, Try.ntmps5
  go_wp2_with fail
  rw [← hbase]
  clear hbase
  refine wp_region_G 6 (fun w' => Below base.heap.size base w') (by kernel_rfl) ((Below.refl _ _).drew) ?_
  refine wpG_take (i := 0) 5 (v := mV y0.m y0.vh y0.vq) rfl (by kernel_rfl) (by kernel_rfl) (by kernel_rfl) (by decide) (by kernel_rfl) (by kernel_rfl) (fun _ _ _ h => h) (Or.inl ⟨by rfl, fun w1 hS => ?_⟩) ?_
  · (try dsimp only at hS)
    go_simp
  simp only [Act.put, List.setIfInBounds_toArray, List.set_cons_zero, List.set_cons_succ]
  refine wpG_take (i := 2) 5 (v := mV y1.m y1.vh y1.vq) rfl (by kernel_rfl) (by kernel_rfl) (by kernel_rfl) (by decide) (by kernel_rfl) (by kernel_rfl) (fun _ _ _ h => h) (Or.inl ⟨by rfl, fun w1 hS => ?_⟩) ?_
  · (try dsimp only at hS)
    go_simp
  simp only [Act.put, List.setIfInBounds_toArray, List.set_cons_zero, List.set_cons_succ]
  refine wpG_take (i := 4) 5 (v := mV y2.m y2.vh y2.vq) rfl (by kernel_rfl) (by kernel_rfl) (by kernel_rfl) (by decide) (by kernel_rfl) (by kernel_rfl) (fun _ _ _ h => h) (Or.inl ⟨by rfl, fun w1 hS => ?_⟩) ?_
  · (try dsimp only at hS)
    go_simp
  simp only [Act.put, List.setIfInBounds_toArray, List.set_cons_zero, List.set_cons_succ]
  clear m00 m01 m02 m03 m04 m10 m11 m12 m13 m14 m20 m21 m22 m23 m24
  refine wpG_ready (rs := [1]) (by kernel_rfl) (by simp) (fun W1 hG1 hS1 i hi => ?_)
  obtain rfl : i = 1 := by simpa using hi
  clear hi
  refine wpOp_step rfl (by rfl) (fun K' hK' => ?_)
  replace hK' := hide hK'
  go_simp
  refine (C0 _ (B0.trans (hS1.mono B0.size))).out.mono ?_
  rintro e z0 ⟨x0, rfl, hx0, own0, hb0⟩
  have ok0 : OkM x0.m := by rw [hx0]; exact fewM_ok _
  clear hx0
  have BK0 := hS1.trans (hb0.mono hS1.size)
  go_wp2_with fail
  refine hK'.out _ _ (wpG_kept (by decide) BK0 ?_)
  clear hK' K' hG1 hb0 BK0
  clear hS1
  refine wpG_ready (rs := [3]) (by kernel_rfl) (by simp) (fun W3 hG3 hS3 i hi => ?_)
  obtain rfl : i = 3 := by simpa using hi
  clear hi
  refine wpOp_step rfl (by rfl) (fun K' hK' => ?_)
  replace hK' := hide hK'
  go_simp
  refine (C1 _ (B0.trans (hS3.mono B0.size))).out.mono ?_
  rintro e z1 ⟨x1, rfl, hx1, own1, hb1⟩
  have ok1 : OkM x1.m := by rw [hx1]; exact fewM_ok _
  clear hx1
  replace own0 := (own0.below hG3).below hb1
  have BK1 := hS3.trans (hb1.mono hS3.size)
  go_wp2_with fail
  refine hK'.out _ _ (wpG_kept (by decide) BK1 ?_)
  clear hK' K' hG3 hb1 BK1
  clear hS3
  refine wpG_ready (rs := [5]) (by kernel_rfl) (by simp) (fun W5 hG5 hS5 i hi => ?_)
  obtain rfl : i = 5 := by simpa using hi
  clear hi
  refine wpOp_step rfl (by rfl) (fun K' hK' => ?_)
  replace hK' := hide hK'
  go_simp
  refine (C2 _ (B0.trans (hS5.mono B0.size))).out.mono ?_
  rintro e z2 ⟨x2, rfl, hx2, own2, hb2⟩
  have ok2 : OkM x2.m := by rw [hx2]; exact fewM_ok _
  clear hx2
  replace own0 := (own0.below hG5).below hb2
  replace own1 := (own1.below hG5).below hb2
  have BK2 := hS5.trans (hb2.mono hS5.size)
  go_wp2_with fail
  refine hK'.out _ _ (wpG_kept (by decide) BK2 ?_)
  clear hK' K' hG5 hb2 BK2
  clear hS5
  refine wpG_ready (rs := [6]) (by kernel_rfl) (by simp) (fun W hG hS i hi => ?_)
  obtain rfl : i = 6 := by simpa using hi
  clear hi
  have k0 := (HBH.out W hS).1
  have k1 := (HBH.out W hS).2.1
  have k2 := (HBH.out W hS).2.2
  replace own0 := own0.below hG
  replace own1 := own1.below hG
  replace own2 := own2.below hG
  have BZ := B0.trans (hS.mono B0.size)
  clear hG hS HBH C0 C1 C2
  obtain ⟨f0, f1, f2, f3, f4⟩ := cell5 k0
  have lv := live5 k0
  refine wpOp_step rfl (by rfl) (fun K' hK' => ?_)
  go_simp
  refine hK' _ _ (wpG_past (by decide) ?_)
  clear hK' K'
  clear f0 f1 f2 f3 f4 lv
  replace own0 := own0.set5 (a := .int .i64 x0.m.kind) (b := .string x0.m.val) (c := .string x0.m.meth) (d := x0.vh) (e := x0.vq) k0 (by decide)
  replace own1 := own1.set5 (a := .int .i64 x0.m.kind) (b := .string x0.m.val) (c := .string x0.m.meth) (d := x0.vh) (e := x0.vq) k0 (by decide)
  replace own2 := own2.set5 (a := .int .i64 x0.m.kind) (b := .string x0.m.val) (c := .string x0.m.meth) (d := x0.vh) (e := x0.vq) k0 (by decide)
  replace BZ := set5_below (n := w.heap.size) (a := .int .i64 x0.m.kind) (b := .string x0.m.val) (c := .string x0.m.meth) (d := x0.vh) (e := x0.vq) BZ (by omega)
  replace k1 := (set5_far (n := w.heap.size) (a := .int .i64 x0.m.kind) (b := .string x0.m.val) (c := .string x0.m.meth) (d := x0.vh) (e := x0.vq) (by omega)).trans k1
  replace k2 := (set5_far (n := w.heap.size) (a := .int .i64 x0.m.kind) (b := .string x0.m.val) (c := .string x0.m.meth) (d := x0.vh) (e := x0.vq) (by omega)).trans k2
  replace k0 := set5_at (a' := .int .i64 x0.m.kind) (b' := .string x0.m.val) (c' := .string x0.m.meth) (d' := x0.vh) (e' := x0.vq) k0
  change wpAny _ _ _ _ _ _ _ (set5 W (w.heap.size) (.int .i64 x0.m.kind) (.string x0.m.val) (.string x0.m.meth) x0.vh x0.vq)
  generalize set5 W (w.heap.size) (.int .i64 x0.m.kind) (.string x0.m.val) (.string x0.m.meth) x0.vh x0.vq = Z0 at *
  refine wpAny_one (i := 7) (by kernel_rfl) ?_
  obtain ⟨f0, f1, f2, f3, f4⟩ := cell5 k1
  have lv := live5 k1
  refine wpOp_step rfl (by rfl) (fun K' hK' => ?_)
  go_simp
  refine hK' _ _ ?_
  clear hK' K'
  clear f0 f1 f2 f3 f4 lv
  replace own0 := own0.set5 (a := .int .i64 x1.m.kind) (b := .string x1.m.val) (c := .string x1.m.meth) (d := x1.vh) (e := x1.vq) k1 (by decide)
  replace own1 := own1.set5 (a := .int .i64 x1.m.kind) (b := .string x1.m.val) (c := .string x1.m.meth) (d := x1.vh) (e := x1.vq) k1 (by decide)
  replace own2 := own2.set5 (a := .int .i64 x1.m.kind) (b := .string x1.m.val) (c := .string x1.m.meth) (d := x1.vh) (e := x1.vq) k1 (by decide)
  replace BZ := set5_below (n := w.heap.size + 1) (a := .int .i64 x1.m.kind) (b := .string x1.m.val) (c := .string x1.m.meth) (d := x1.vh) (e := x1.vq) BZ (by omega)
  replace k0 := (set5_far (n := w.heap.size + 1) (a := .int .i64 x1.m.kind) (b := .string x1.m.val) (c := .string x1.m.meth) (d := x1.vh) (e := x1.vq) (by omega)).trans k0
  replace k2 := (set5_far (n := w.heap.size + 1) (a := .int .i64 x1.m.kind) (b := .string x1.m.val) (c := .string x1.m.meth) (d := x1.vh) (e := x1.vq) (by omega)).trans k2
  replace k1 := set5_at (a' := .int .i64 x1.m.kind) (b' := .string x1.m.val) (c' := .string x1.m.meth) (d' := x1.vh) (e' := x1.vq) k1
  change wpAny _ _ _ _ _ _ _ (set5 Z0 (w.heap.size + 1) (.int .i64 x1.m.kind) (.string x1.m.val) (.string x1.m.meth) x1.vh x1.vq)
  generalize set5 Z0 (w.heap.size + 1) (.int .i64 x1.m.kind) (.string x1.m.val) (.string x1.m.meth) x1.vh x1.vq = Z1 at *
  refine wpAny_one (i := 8) (by kernel_rfl) ?_
  obtain ⟨f0, f1, f2, f3, f4⟩ := cell5 k2
  have lv := live5 k2
  refine wpOp_step rfl (by rfl) (fun K' hK' => ?_)
  go_simp
  refine hK' _ _ ?_
  clear hK' K'
  clear f0 f1 f2 f3 f4 lv
  replace own0 := own0.set5 (a := .int .i64 x2.m.kind) (b := .string x2.m.val) (c := .string x2.m.meth) (d := x2.vh) (e := x2.vq) k2 (by decide)
  replace own1 := own1.set5 (a := .int .i64 x2.m.kind) (b := .string x2.m.val) (c := .string x2.m.meth) (d := x2.vh) (e := x2.vq) k2 (by decide)
  replace own2 := own2.set5 (a := .int .i64 x2.m.kind) (b := .string x2.m.val) (c := .string x2.m.meth) (d := x2.vh) (e := x2.vq) k2 (by decide)
  replace BZ := set5_below (n := w.heap.size + 1 + 1) (a := .int .i64 x2.m.kind) (b := .string x2.m.val) (c := .string x2.m.meth) (d := x2.vh) (e := x2.vq) BZ (by omega)
  replace k0 := (set5_far (n := w.heap.size + 1 + 1) (a := .int .i64 x2.m.kind) (b := .string x2.m.val) (c := .string x2.m.meth) (d := x2.vh) (e := x2.vq) (by omega)).trans k0
  replace k1 := (set5_far (n := w.heap.size + 1 + 1) (a := .int .i64 x2.m.kind) (b := .string x2.m.val) (c := .string x2.m.meth) (d := x2.vh) (e := x2.vq) (by omega)).trans k1
  replace k2 := set5_at (a' := .int .i64 x2.m.kind) (b' := .string x2.m.val) (c' := .string x2.m.meth) (d' := x2.vh) (e' := x2.vq) k2
  change wpAny _ _ _ _ _ _ _ (set5 Z1 (w.heap.size + 1 + 1) (.int .i64 x2.m.kind) (.string x2.m.val) (.string x2.m.meth) x2.vh x2.vq)
  generalize set5 Z1 (w.heap.size + 1 + 1) (.int .i64 x2.m.kind) (.string x2.m.val) (.string x2.m.meth) x2.vh x2.vq = Z2 at *
  refine wpAny_end (by kernel_rfl) ?_
  have at0 := own0.at_
  clear own0
  have at1 := own1.at_
  clear own1
  have at2 := own2.at_
  clear own2
  have b0 := fun q : GB Z2 => (cell5 ((q.h.block _ (blk_lt5 k0)).trans k0)).1
  have b1 := fun q : GB Z2 => (cell5 ((q.h.block _ (blk_lt5 k0)).trans k0)).2.1
  have b2 := fun q : GB Z2 => (cell5 ((q.h.block _ (blk_lt5 k0)).trans k0)).2.2.1
  have b3 := fun q : GB Z2 => (cell5 ((q.h.block _ (blk_lt5 k0)).trans k0)).2.2.2.1
  have b4 := fun q : GB Z2 => (cell5 ((q.h.block _ (blk_lt5 k0)).trans k0)).2.2.2.2
  have c0 := fun q : GB Z2 => (cell5 ((q.h.block _ (blk_lt5 k1)).trans k1)).1
  have c1 := fun q : GB Z2 => (cell5 ((q.h.block _ (blk_lt5 k1)).trans k1)).2.1
  have c2 := fun q : GB Z2 => (cell5 ((q.h.block _ (blk_lt5 k1)).trans k1)).2.2.1
  have c3 := fun q : GB Z2 => (cell5 ((q.h.block _ (blk_lt5 k1)).trans k1)).2.2.2.1
  have c4 := fun q : GB Z2 => (cell5 ((q.h.block _ (blk_lt5 k1)).trans k1)).2.2.2.2
  have d0 := fun q : GB Z2 => (cell5 ((q.h.block _ (blk_lt5 k2)).trans k2)).1
  have d1 := fun q : GB Z2 => (cell5 ((q.h.block _ (blk_lt5 k2)).trans k2)).2.1
  have d2 := fun q : GB Z2 => (cell5 ((q.h.block _ (blk_lt5 k2)).trans k2)).2.2.1
  have d3 := fun q : GB Z2 => (cell5 ((q.h.block _ (blk_lt5 k2)).trans k2)).2.2.2.1
  have d4 := fun q : GB Z2 => (cell5 ((q.h.block _ (blk_lt5 k2)).trans k2)).2.2.2.2
  have D01 := fun q : GB Z2 => hide (rorder_m x0.m x1.m x0.vh x0.vq x1.vh x1.vq q.W (at0.below q.h).1 (at0.below q.h).2 (at1.below q.h).1 (at1.below q.h).2 ok0.order ok1.order)
  have D12 := fun q : GB Z2 => hide (rorder_m x1.m x2.m x1.vh x1.vq x2.vh x2.vq q.W (at1.below q.h).1 (at1.below q.h).2 (at2.below q.h).1 (at2.below q.h).2 ok1.order ok2.order)
  have D02 := fun q : GB Z2 => hide (rorder_m x0.m x2.m x0.vh x0.vq x2.vh x2.vq q.W (at0.below q.h).1 (at0.below q.h).2 (at2.below q.h).1 (at2.below q.h).2 ok0.order ok2.order)
  have D10 := fun q : GB Z2 => hide (rorder_m x1.m x0.m x1.vh x1.vq x0.vh x0.vq q.W (at1.below q.h).1 (at1.below q.h).2 (at0.below q.h).1 (at0.below q.h).2 ok1.order ok0.order)
  have D00 := fun q : GB Z2 => hide (rorder_m x0.m x0.m x0.vh x0.vq x0.vh x0.vq q.W (at0.below q.h).1 (at0.below q.h).2 (at0.below q.h).1 (at0.below q.h).2 ok0.order ok0.order)
  have HXX := hide (Ru.ord_self ahM_rank x0.m)
  have HYX := hide (Ru.ord_turn ahM_rank x0.m x1.m)
  have HT : Hid (ordM x0.m x1.m ≤ 0 → ordM x1.m x2.m ≤ 0 → ordM x0.m x2.m ≤ 0) := fun a b => Ru.ord_trans ahM_rank a b
  have HTL : Hid (ordM x0.m x1.m < 0 → ordM x1.m x2.m ≤ 0 → ordM x0.m x2.m < 0) := fun a b => Ru.ord_strict ahM_rank a b
  have HTZ : Hid (ordM x0.m x1.m = 0 → ordM x1.m x2.m = 0 → ordM x0.m x2.m = 0) := fun a b => Ru.ord_zero ahM_rank a b
  have hr1 : ordM x0.m x1.m = -1 ∨ ordM x0.m x1.m = 1 ∨ ordM x0.m x1.m = 0 := by
    rcases Ru.ord_cases ahM x0.m x1.m with ⟨e, _⟩ | ⟨e, _⟩ | ⟨e, _⟩
    · exact .inl e
    · exact .inr (.inl e)
    · exact .inr (.inr e)
  have hr2 : ordM x1.m x2.m = -1 ∨ ordM x1.m x2.m = 1 ∨ ordM x1.m x2.m = 0 := by
    rcases Ru.ord_cases ahM x1.m x2.m with ⟨e, _⟩ | ⟨e, _⟩ | ⟨e, _⟩
    · exact .inl e
    · exact .inr (.inl e)
    · exact .inr (.inr e)
  have HYX' : Hid (ordM x1.m x0.m = - ordM x0.m x1.m) := HYX.out
  have HXX' : Hid (ordM x0.m x0.m = 0) := HXX.out
  clear HYX HXX
  simp only [HXX'.out] at D00
  simp only [HYX'.out] at D10
  clear HXX' HYX'
  generalize ordM x0.m x1.m = ox at *
  generalize ordM x1.m x2.m = oy at *
  generalize ordM x0.m x2.m = oz at *
  clear ok0 ok1 ok2 at0 at1 at2 k0 k1 k2
  rcases hr1 with rfl | rfl | rfl
  · have hl := HTL.out (by omega)
    rcases hr2 with rfl | rfl | rfl
    · have z1 : decide (0 < oz) = false := decide_eq_false (by have := hl (by omega); omega)
      have z2 : decide (0 ≤ oz) = false := decide_eq_false (by have := hl (by omega); omega)
      clear hl HT HTL HTZ
      go_wp2_with fail
      refine wp_region_below (by kernel_rfl) (by kernel_rfl) ?_
      repeat (first | go_big_quiet_step ((go_at_call 23; first | with_reducible exact calls_gb (D01 _).out | with_reducible exact calls_gb (D12 _).out | with_reducible exact calls_gb (D02 _).out)) | quiet_step ((go_at_call 23; first | with_reducible exact calls_gb (D01 _).out | with_reducible exact calls_gb (D12 _).out | with_reducible exact calls_gb (D02 _).out)))
      refine wpQuiet_nil ?_
      intro _ hw'
      obtain ⟨q, hw2⟩ := hw'
      subst hw2
      go_wp2_with fail
      refine (calls_gb ((D10 _).out)).mono ?_
      rintro e x ⟨rfl, q, rfl⟩
      go_wp2_with fail
      refine (calls_gb ((D00 _).out)).mono ?_
      rintro e x ⟨rfl, q, rfl⟩
      go_wp2_with fail
      refine (calls_gb (ruawake_any _)).mono ?_
      rintro e x ⟨rfl, q, rfl⟩
      go_wp2_with fail
      go_ret
      exact ⟨rfl, bb2 BZ q.h⟩
    · clear hl HT HTL HTZ
      go_wp2_with fail
      refine wp_region_below (by kernel_rfl) (by kernel_rfl) ?_
      repeat (first | go_big_quiet_step ((go_at_call 23; first | with_reducible exact calls_gb (D01 _).out | with_reducible exact calls_gb (D12 _).out | with_reducible exact calls_gb (D02 _).out)) | quiet_step ((go_at_call 23; first | with_reducible exact calls_gb (D01 _).out | with_reducible exact calls_gb (D12 _).out | with_reducible exact calls_gb (D02 _).out)))
      refine wpQuiet_nil ?_
      intro _ hw'
      obtain ⟨q, hw2⟩ := hw'
      subst hw2
      go_wp2_with fail
      refine (calls_gb ((D10 _).out)).mono ?_
      rintro e x ⟨rfl, q, rfl⟩
      go_wp2_with fail
      refine (calls_gb ((D00 _).out)).mono ?_
      rintro e x ⟨rfl, q, rfl⟩
      go_wp2_with fail
      refine (calls_gb (ruawake_any _)).mono ?_
      rintro e x ⟨rfl, q, rfl⟩
      go_wp2_with fail
      go_ret
      exact ⟨rfl, bb2 BZ q.h⟩
    · have z1 : decide (0 < oz) = false := decide_eq_false (by have := hl (by omega); omega)
      have z2 : decide (0 ≤ oz) = false := decide_eq_false (by have := hl (by omega); omega)
      clear hl HT HTL HTZ
      go_wp2_with fail
      refine wp_region_below (by kernel_rfl) (by kernel_rfl) ?_
      repeat (first | go_big_quiet_step ((go_at_call 23; first | with_reducible exact calls_gb (D01 _).out | with_reducible exact calls_gb (D12 _).out | with_reducible exact calls_gb (D02 _).out)) | quiet_step ((go_at_call 23; first | with_reducible exact calls_gb (D01 _).out | with_reducible exact calls_gb (D12 _).out | with_reducible exact calls_gb (D02 _).out)))
      refine wpQuiet_nil ?_
      intro _ hw'
      obtain ⟨q, hw2⟩ := hw'
      subst hw2
      go_wp2_with fail
      refine (calls_gb ((D10 _).out)).mono ?_
      rintro e x ⟨rfl, q, rfl⟩
      go_wp2_with fail
      refine (calls_gb ((D00 _).out)).mono ?_
      rintro e x ⟨rfl, q, rfl⟩
      go_wp2_with fail
      refine (calls_gb (ruawake_any _)).mono ?_
      rintro e x ⟨rfl, q, rfl⟩
      go_wp2_with fail
      go_ret
      exact ⟨rfl, bb2 BZ q.h⟩
  · clear HT HTL HTZ hr2
    go_wp2_with fail
    refine wp_region_below (by kernel_rfl) (by kernel_rfl) ?_
    repeat (first | go_big_quiet_step ((go_at_call 23; first | with_reducible exact calls_gb (D01 _).out | with_reducible exact calls_gb (D12 _).out | with_reducible exact calls_gb (D02 _).out)) | quiet_step ((go_at_call 23; first | with_reducible exact calls_gb (D01 _).out | with_reducible exact calls_gb (D12 _).out | with_reducible exact calls_gb (D02 _).out)))
    refine wpQuiet_nil ?_
    intro _ hw'
    obtain ⟨q, hw2⟩ := hw'
    subst hw2
    go_wp2_with fail
    refine (calls_gb ((D10 _).out)).mono ?_
    rintro e x ⟨rfl, q, rfl⟩
    go_wp2_with fail
    refine (calls_gb ((D00 _).out)).mono ?_
    rintro e x ⟨rfl, q, rfl⟩
    go_wp2_with fail
    refine (calls_gb (ruawake_any _)).mono ?_
    rintro e x ⟨rfl, q, rfl⟩
    go_wp2_with fail
    go_ret
    exact ⟨rfl, bb2 BZ q.h⟩
  · rcases hr2 with rfl | rfl | rfl
    · have z1 : decide (0 < oz) = false := decide_eq_false (by have := HT.out (by omega) (by omega); omega)
      clear HT HTL HTZ
      go_wp2_with fail
      refine wp_region_below (by kernel_rfl) (by kernel_rfl) ?_
      repeat (first | go_big_quiet_step ((go_at_call 23; first | with_reducible exact calls_gb (D01 _).out | with_reducible exact calls_gb (D12 _).out | with_reducible exact calls_gb (D02 _).out)) | quiet_step ((go_at_call 23; first | with_reducible exact calls_gb (D01 _).out | with_reducible exact calls_gb (D12 _).out | with_reducible exact calls_gb (D02 _).out)))
      refine wpQuiet_nil ?_
      intro _ hw'
      obtain ⟨q, hw2⟩ := hw'
      subst hw2
      go_wp2_with fail
      refine (calls_gb ((D10 _).out)).mono ?_
      rintro e x ⟨rfl, q, rfl⟩
      go_wp2_with fail
      refine (calls_gb ((D00 _).out)).mono ?_
      rintro e x ⟨rfl, q, rfl⟩
      go_wp2_with fail
      refine (calls_gb (ruawake_any _)).mono ?_
      rintro e x ⟨rfl, q, rfl⟩
      go_wp2_with fail
      go_ret
      exact ⟨rfl, bb2 BZ q.h⟩
    · clear HT HTL HTZ
      go_wp2_with fail
      refine wp_region_below (by kernel_rfl) (by kernel_rfl) ?_
      repeat (first | go_big_quiet_step ((go_at_call 23; first | with_reducible exact calls_gb (D01 _).out | with_reducible exact calls_gb (D12 _).out | with_reducible exact calls_gb (D02 _).out)) | quiet_step ((go_at_call 23; first | with_reducible exact calls_gb (D01 _).out | with_reducible exact calls_gb (D12 _).out | with_reducible exact calls_gb (D02 _).out)))
      refine wpQuiet_nil ?_
      intro _ hw'
      obtain ⟨q, hw2⟩ := hw'
      subst hw2
      go_wp2_with fail
      refine (calls_gb ((D10 _).out)).mono ?_
      rintro e x ⟨rfl, q, rfl⟩
      go_wp2_with fail
      refine (calls_gb ((D00 _).out)).mono ?_
      rintro e x ⟨rfl, q, rfl⟩
      go_wp2_with fail
      refine (calls_gb (ruawake_any _)).mono ?_
      rintro e x ⟨rfl, q, rfl⟩
      go_wp2_with fail
      go_ret
      exact ⟨rfl, bb2 BZ q.h⟩
    · obtain rfl : oz = 0 := HTZ.out rfl rfl
      clear HT HTL HTZ
      go_wp2_with fail
      refine wp_region_below (by kernel_rfl) (by kernel_rfl) ?_
      repeat (first | go_big_quiet_step ((go_at_call 23; first | with_reducible exact calls_gb (D01 _).out | with_reducible exact calls_gb (D12 _).out | with_reducible exact calls_gb (D02 _).out)) | quiet_step ((go_at_call 23; first | with_reducible exact calls_gb (D01 _).out | with_reducible exact calls_gb (D12 _).out | with_reducible exact calls_gb (D02 _).out)))
      refine wpQuiet_nil ?_
      intro _ hw'
      obtain ⟨q, hw2⟩ := hw'
      subst hw2
      go_wp2_with fail
      refine (calls_gb ((D10 _).out)).mono ?_
      rintro e x ⟨rfl, q, rfl⟩
      go_wp2_with fail
      refine (calls_gb ((D00 _).out)).mono ?_
      rintro e x ⟨rfl, q, rfl⟩
      go_wp2_with fail
      refine (calls_gb (ruawake_any _)).mono ?_
      rintro e x ⟨rfl, q, rfl⟩
      go_wp2_with fail
      go_ret
      exact ⟨rfl, bb2 BZ q.h⟩

set_option maxHeartbeats 6400000 in
theorem holds_law (v0 v1 : Value) (s2 : ByteArray) (w : World) (h0 : ArgM w v0) (h1 : ArgR w v1) (hs2 : s2.size ≤ maxLen) :
    Calls Try.prog 3 #[v0, v1, .string s2] w fun e w' => e = .returned (.bool true) ∧ Below w.heap.size w w' := by
  obtain ⟨y0, rfl, hat0, raw0⟩ := h0
  obtain ⟨y1, rfl, hat1, raw1⟩ := h1
  have C0 := fun W (h : Below w.heap.size w W) => hide (mfew_any y0.m y0.vh y0.vq W raw0 (hat0.below h).1 (hat0.below h).2)
  have C1 := fun W (h : Below w.heap.size w W) => hide (asked_any y1.r y1.vq y1.vh W raw1 (hat1.below h).1 (hat1.below h).2)
  have C2 := fun W => hide (fewB_any s2 W hs2)
  have hf2 := fewB_le s2
  clear hat0 raw0 hat1 raw1
  obtain ⟨base, hbase⟩ : ∃ z, z = ((w.alloc (.cells #[.int .i64 y0.m.kind, .string y0.m.val, .string y0.m.meth, y0.vh, y0.vq] 26)).alloc (.cells #[.string y1.r.meth, .string y1.r.host, .string y1.r.path, y1.vq, y1.vh] 28)) := ⟨_, rfl⟩
  have HB : ∀ W, Below base.heap.size base W → W.heap[w.heap.size]? = some (.cells #[.int .i64 y0.m.kind, .string y0.m.val, .string y0.m.meth, y0.vh, y0.vq] 26) ∧ W.heap[w.heap.size + 1]? = some (.cells #[.string y1.r.meth, .string y1.r.host, .string y1.r.path, y1.vq, y1.vh] 28) := fun W h => blocks2 (by rw [← hbase]; exact h)
  have B0 : Below w.heap.size w base := by rw [hbase]; exact below2 w
  have hbs : Hid (base.heap.size = w.heap.size + 2) := by unfold Hid; rw [hbase]; simp
  have m00 := fun W h => (cell5 (HB W h).1).1
  have m01 := fun W h => (cell5 (HB W h).1).2.1
  have m02 := fun W h => (cell5 (HB W h).1).2.2.1
  have m03 := fun W h => (cell5 (HB W h).1).2.2.2.1
  have m04 := fun W h => (cell5 (HB W h).1).2.2.2.2
  have m10 := fun W h => (cell5 (HB W h).2).1
  have m11 := fun W h => (cell5 (HB W h).2).2.1
  have m12 := fun W h => (cell5 (HB W h).2).2.2.1
  have m13 := fun W h => (cell5 (HB W h).2).2.2.2.1
  have m14 := fun W h => (cell5 (HB W h).2).2.2.2.2
  have HBH := hide HB
  clear HB
  go_enter Try.func3, Try.ntmps3
  go_wp2_with fail
  rw [← hbase]
  clear hbase
  refine wp_region_G 6 (fun w' => Below base.heap.size base w') (by kernel_rfl) ((Below.refl _ _).drew) ?_
  refine wpG_take (i := 0) 5 (v := mV y0.m y0.vh y0.vq) rfl (by kernel_rfl) (by kernel_rfl) (by kernel_rfl) (by decide) (by kernel_rfl) (by kernel_rfl) (fun _ _ _ h => h) (Or.inl ⟨by rfl, fun w1 hS => ?_⟩) ?_
  · (try dsimp only at hS)
    go_simp
  simp only [Act.put, List.setIfInBounds_toArray, List.set_cons_zero, List.set_cons_succ]
  refine wpG_take (i := 2) 5 (v := rV y1.r y1.vq y1.vh) rfl (by kernel_rfl) (by kernel_rfl) (by kernel_rfl) (by decide) (by kernel_rfl) (by kernel_rfl) (fun _ _ _ h => h) (Or.inl ⟨by rfl, fun w1 hS => ?_⟩) ?_
  · (try dsimp only at hS)
    go_simp
  simp only [Act.put, List.setIfInBounds_toArray, List.set_cons_zero, List.set_cons_succ]
  refine wpG_take (i := 4) 5 (v := .string s2) rfl (by kernel_rfl) (by kernel_rfl) (by kernel_rfl) (by decide) (by kernel_rfl) (by kernel_rfl) (fun _ _ _ h => h) (Or.inl ⟨by rfl, fun w1 hS => ?_⟩) ?_
  · (try dsimp only at hS)
    go_simp
  simp only [Act.put, List.setIfInBounds_toArray, List.set_cons_zero, List.set_cons_succ]
  clear m00 m01 m02 m03 m04 m10 m11 m12 m13 m14
  refine wpG_ready (rs := [1]) (by kernel_rfl) (by simp) (fun W1 hG1 hS1 i hi => ?_)
  obtain rfl : i = 1 := by simpa using hi
  clear hi
  refine wpOp_step rfl (by rfl) (fun K' hK' => ?_)
  replace hK' := hide hK'
  go_simp
  refine (C0 _ (B0.trans (hS1.mono B0.size))).out.mono ?_
  rintro e z0 ⟨x0, rfl, hx0, own0, hb0⟩
  have ok0 : OkM x0.m := by rw [hx0]; exact fewM_ok _
  clear hx0
  have BK0 := hS1.trans (hb0.mono hS1.size)
  go_wp2_with fail
  refine hK'.out _ _ (wpG_kept (by decide) BK0 ?_)
  clear hK' K' hG1 hb0 BK0
  clear hS1
  refine wpG_ready (rs := [3]) (by kernel_rfl) (by simp) (fun W3 hG3 hS3 i hi => ?_)
  obtain rfl : i = 3 := by simpa using hi
  clear hi
  refine wpOp_step rfl (by rfl) (fun K' hK' => ?_)
  replace hK' := hide hK'
  go_simp
  refine (C1 _ (B0.trans (hS3.mono B0.size))).out.mono ?_
  rintro e z1 ⟨x1, rfl, hx1, own1, hb1⟩
  have ok1 : OkR x1.r := by rw [hx1]; exact fewR_ok _
  clear hx1
  replace own0 := (own0.below hG3).below hb1
  have BK1 := hS3.trans (hb1.mono hS3.size)
  go_wp2_with fail
  refine hK'.out _ _ (wpG_kept (by decide) BK1 ?_)
  clear hK' K' hG3 hb1 BK1
  clear hS3
  refine wpG_take (i := 5) 5 (v := .string (fewB s2)) rfl (by kernel_rfl) (by kernel_rfl) (by kernel_rfl) (by decide) (by kernel_rfl) (by kernel_rfl) (fun _ _ _ h => h) (Or.inl ⟨by rfl, fun w1 hS => ?_⟩) ?_
  · (try dsimp only at hS)
    go_simp
    exact calls_grow_same hS (C2 _).out
  simp only [Act.put, List.setIfInBounds_toArray, List.set_cons_zero, List.set_cons_succ]
  refine wpG_ready (rs := [6]) (by kernel_rfl) (by simp) (fun W hG hS i hi => ?_)
  obtain rfl : i = 6 := by simpa using hi
  clear hi
  have k0 := (HBH.out W hS).1
  have k1 := (HBH.out W hS).2
  replace own0 := own0.below hG
  replace own1 := own1.below hG
  have BZ := B0.trans (hS.mono B0.size)
  clear hG hS HBH C0 C1 C2
  obtain ⟨f0, f1, f2, f3, f4⟩ := cell5 k0
  have lv := live5 k0
  refine wpOp_step rfl (by rfl) (fun K' hK' => ?_)
  go_simp
  refine hK' _ _ (wpG_past (by decide) ?_)
  clear hK' K'
  clear f0 f1 f2 f3 f4 lv
  replace own0 := own0.set5 (a := .int .i64 x0.m.kind) (b := .string x0.m.val) (c := .string x0.m.meth) (d := x0.vh) (e := x0.vq) k0 (by decide)
  replace own1 := own1.set5 (a := .int .i64 x0.m.kind) (b := .string x0.m.val) (c := .string x0.m.meth) (d := x0.vh) (e := x0.vq) k0 (by decide)
  replace BZ := set5_below (n := w.heap.size) (a := .int .i64 x0.m.kind) (b := .string x0.m.val) (c := .string x0.m.meth) (d := x0.vh) (e := x0.vq) BZ (by omega)
  replace k1 := (set5_far (n := w.heap.size) (a := .int .i64 x0.m.kind) (b := .string x0.m.val) (c := .string x0.m.meth) (d := x0.vh) (e := x0.vq) (by omega)).trans k1
  replace k0 := set5_at (a' := .int .i64 x0.m.kind) (b' := .string x0.m.val) (c' := .string x0.m.meth) (d' := x0.vh) (e' := x0.vq) k0
  change wpAny _ _ _ _ _ _ _ (set5 W (w.heap.size) (.int .i64 x0.m.kind) (.string x0.m.val) (.string x0.m.meth) x0.vh x0.vq)
  generalize set5 W (w.heap.size) (.int .i64 x0.m.kind) (.string x0.m.val) (.string x0.m.meth) x0.vh x0.vq = Z0 at *
  refine wpAny_one (i := 7) (by kernel_rfl) ?_
  obtain ⟨f0, f1, f2, f3, f4⟩ := cell5 k1
  have lv := live5 k1
  refine wpOp_step rfl (by rfl) (fun K' hK' => ?_)
  go_simp
  refine hK' _ _ ?_
  clear hK' K'
  clear f0 f1 f2 f3 f4 lv
  replace own0 := own0.set5 (a := .string x1.r.meth) (b := .string x1.r.host) (c := .string x1.r.path) (d := x1.vq) (e := x1.vh) k1 (by decide)
  replace own1 := own1.set5 (a := .string x1.r.meth) (b := .string x1.r.host) (c := .string x1.r.path) (d := x1.vq) (e := x1.vh) k1 (by decide)
  replace BZ := set5_below (n := w.heap.size + 1) (a := .string x1.r.meth) (b := .string x1.r.host) (c := .string x1.r.path) (d := x1.vq) (e := x1.vh) BZ (by omega)
  replace k0 := (set5_far (n := w.heap.size + 1) (a := .string x1.r.meth) (b := .string x1.r.host) (c := .string x1.r.path) (d := x1.vq) (e := x1.vh) (by omega)).trans k0
  replace k1 := set5_at (a' := .string x1.r.meth) (b' := .string x1.r.host) (c' := .string x1.r.path) (d' := x1.vq) (e' := x1.vh) k1
  change wpAny _ _ _ _ _ _ _ (set5 Z0 (w.heap.size + 1) (.string x1.r.meth) (.string x1.r.host) (.string x1.r.path) x1.vq x1.vh)
  generalize set5 Z0 (w.heap.size + 1) (.string x1.r.meth) (.string x1.r.host) (.string x1.r.path) x1.vq x1.vh = Z1 at *
  refine wpAny_one (i := 8) (by kernel_rfl) ?_
  refine wpOp_step rfl (by rfl) (fun K' hK' => ?_)
  go_simp
  refine hK' _ _ ?_
  clear hK' K'
  refine wpAny_end (by kernel_rfl) ?_
  have at0 := own0.at_
  clear own0
  have at1 := own1.at_
  clear own1
  generalize fewB s2 = t2 at *
  clear hs2
  have b0 := fun q : GB Z1 => (cell5 ((q.h.block _ (blk_lt5 k0)).trans k0)).1
  have b1 := fun q : GB Z1 => (cell5 ((q.h.block _ (blk_lt5 k0)).trans k0)).2.1
  have b2 := fun q : GB Z1 => (cell5 ((q.h.block _ (blk_lt5 k0)).trans k0)).2.2.1
  have b3 := fun q : GB Z1 => (cell5 ((q.h.block _ (blk_lt5 k0)).trans k0)).2.2.2.1
  have b4 := fun q : GB Z1 => (cell5 ((q.h.block _ (blk_lt5 k0)).trans k0)).2.2.2.2
  have c0 := fun q : GB Z1 => (cell5 ((q.h.block _ (blk_lt5 k1)).trans k1)).1
  have c1 := fun q : GB Z1 => (cell5 ((q.h.block _ (blk_lt5 k1)).trans k1)).2.1
  have c2 := fun q : GB Z1 => (cell5 ((q.h.block _ (blk_lt5 k1)).trans k1)).2.2.1
  have c3 := fun q : GB Z1 => (cell5 ((q.h.block _ (blk_lt5 k1)).trans k1)).2.2.2.1
  have c4 := fun q : GB Z1 => (cell5 ((q.h.block _ (blk_lt5 k1)).trans k1)).2.2.2.2
  have E1 := fun q : GB Z1 => hide (may_m x0.m x0.vh x0.vq q.W (at0.below q.h).1 (at0.below q.h).2 ok0)
  have E2 := fun q : GB Z1 => hide (rmay_m x0.m x0.vh x0.vq q.W (at0.below q.h).1 (at0.below q.h).2 ok0)
  have E3 := fun q : GB Z1 => hide (holds_m x0.m x0.vh x0.vq x1.r x1.vq x1.vh q.W (at0.below q.h).1 (at0.below q.h).2 ok0 (at1.below q.h).1 (at1.below q.h).2 ok1)
  have E4 := fun q : GB Z1 => hide (rholds_m x0.m x0.vh x0.vq x1.r x1.vq x1.vh q.W (at0.below q.h).1 (at0.below q.h).2 ok0 (at1.below q.h).1 (at1.below q.h).2 ok1)
  have E5 := fun W => hide (method_b t2 W (small_len (by omega)))
  have E6 := fun W => hide (rmethod_b t2 W (small_len (by omega)))
  generalize holdM x0.m x1.r = b1 at *
  generalize mayM x0.m = b2 at *
  generalize methB t2 = b3 at *
  clear ok0 ok1 at0 at1 k0 k1
  go_wp2_with fail
  refine wp_region_below (by kernel_rfl) (by kernel_rfl) ?_
  repeat (first | go_big_quiet_step ((first | (go_at_call 13; exact calls_gb (E1 _).out) | (go_at_call 14; exact calls_gb (E2 _).out) | (go_at_call 15; exact calls_gb (E3 _).out) | (go_at_call 16; exact calls_gb (E4 _).out) | (go_at_call 17; exact calls_gb (E5 _).out) | (go_at_call 18; exact calls_gb (E6 _).out) | (go_at_call 19; exact calls_gb (ruawake_any _)))) | quiet_step ((first | (go_at_call 13; exact calls_gb (E1 _).out) | (go_at_call 14; exact calls_gb (E2 _).out) | (go_at_call 15; exact calls_gb (E3 _).out) | (go_at_call 16; exact calls_gb (E4 _).out) | (go_at_call 17; exact calls_gb (E5 _).out) | (go_at_call 18; exact calls_gb (E6 _).out) | (go_at_call 19; exact calls_gb (ruawake_any _)))))
  refine wpQuiet_nil ?_
  intro _ hw'
  obtain ⟨q, hw2⟩ := hw'
  subst hw2
  go_wp2_with fail
  go_ret
  exact ⟨rfl, bb2 BZ q.h⟩

end Go.Proofs.Ytppnkfjdgalgbaa
