/-
  FilterPaths.
-/
import Derived.Test.YtfoabpkiaihkiaaDoorFiArg
import Derived.Test.YtfoabpkiaihkiaaDoorFiCut
import Derived.Test.YtfoabpkiaihkiaaDoorFiLawB
namespace Go.Proofs.YtfoabpkiaihkiaaDoor
set_option maxRecDepth 20000
open Go Go.RowKit Go.Shelf Fi

attribute [local go_sem] gb_const

theorem und_cases {t s : ByteArray} (h : holdP 2 (dl t) (dl s) = true) : (t.toList == [47]) = true ∨ ((t.toList == [47]) = false ∧ (s.toList == t.toList) = true) ∨ ((t.toList == [47]) = false ∧ (s.toList == t.toList) = false ∧ t.size < s.size ∧ ((s.extract 0 (t.size + 1)).toList == (t ++ ⟨#[47]⟩).toList) = true) := by
  obtain ⟨_, _, hu⟩ := hold2_iff.1 h
  cases h1 : (t.toList == [47])
  · refine .inr ?_
    cases h2 : (s.toList == t.toList)
    · refine .inr ⟨rfl, rfl, ?_⟩
      rw [Lib.toList_data] at h1 h2
      rw [Lib.toList_data] at h2
      unfold und at hu
      rw [show (dl s == dl t) = false from h2, show (dl t == [47]) = false from h1, Bool.false_or, Bool.false_or] at hu
      have hp := hasP_iff.1 hu
      obtain ⟨r, hr⟩ := hp
      have hl := congrArg List.length hr
      simp at hl
      have hs1 : s.size = s.data.toList.length := rfl
      have ht1 : t.size = t.data.toList.length := rfl
      refine ⟨by rw [hs1, ht1]; show t.data.toList.length < s.data.toList.length; omega, ?_⟩
      rw [beq_iff_eq, Lib.toList_data, Lib.toList_data, app_data]
      rw [ByteArray.data_extract]
      simp only [Array.toList_extract, List.extract_eq_take_drop, List.drop_zero, Nat.sub_zero]
      show (s.data.toList).take (t.size + 1) = t.data.toList ++ [47]
      rw [show s.data.toList = (t.data.toList ++ [47]) ++ r from hr.symm, List.take_append_of_le_length (by rw [ht1]; simp), List.take_of_length_le (by rw [ht1]; simp)]
    · exact .inl ⟨rfl, rfl⟩
  · exact .inl rfl
theorem path_facts {s : ByteArray} (h : isP (dl s) = true) : 0 < s.size ∧ s.size ≤ 60 ∧ ∀ h0 : 0 < s.size, (s[0].toNat : Int) = 47 := by
  obtain ⟨h1, h2, _⟩ := isP_iff.1 h
  obtain ⟨⟨l⟩⟩ := s
  obtain ⟨r, hr⟩ := h2
  have : l = 47 :: r := hr.symm
  subst this
  exact ⟨Nat.succ_pos _, h1, fun _ => rfl⟩

set_option maxHeartbeats 12800000 in
theorem paths_law (v0 v1 v2 : Value) (w : World) (h0 : ArgF w v0) (h1 : ArgPt w v1) (h2 : ArgR w v2) :
    Calls Tryd.prog 8 #[v0, v1, v2] w fun e w' => e = .returned (.bool true) ∧ Below w.heap.size w w' := by
  obtain ⟨f, rfl, raw0⟩ := h0
  obtain ⟨pk, pv0, rfl, hpv0⟩ := h1
  obtain ⟨x0, rfl, hx0, rawx0⟩ := h2
  have C2 := fun W (g : Nat) (h : W.heap[g]? = some (.cells (fcells f).toArray 26)) => hide (ffew_any (.slice (some ⟨g, 0, none⟩) 1 1) [f] W (Sl.one h) (fun y hy => by rw [List.mem_singleton.1 hy]; exact raw0))
  have C6 := fun W => hide (pfew_any pk pv0 W hpv0)
  have C8 := fun W (h : Below w.heap.size w W) => hide (asked_any x0.r x0.vq x0.vh W rawx0 (hx0.below h).1 (hx0.below h).2)
  clear raw0 hpv0 hx0 rawx0
  obtain ⟨k0, n0, v0, h0, p0, t0, b0, z0⟩ := f
  obtain ⟨base, hbase⟩ : ∃ z, z = ((w.alloc (.cells #[.int .i64 k0, .string n0, .string v0, .string h0, .int .i64 p0, .string t0, .bool b0, .int .i64 z0] 26)).alloc (.cells #[.int .i64 pk, .string pv0] 30)).alloc (.cells #[.string x0.r.meth, .string x0.r.host, .string x0.r.path, .slice x0.aq x0.r.query.length x0.cq, .slice x0.ah x0.r.head.length x0.ch] 33) := ⟨_, rfl⟩
  have HB := fun W (h : Below base.heap.size base W) => (bx3 (w := w) (o1 := (.cells #[.int .i64 k0, .string n0, .string v0, .string h0, .int .i64 p0, .string t0, .bool b0, .int .i64 z0] 26)) (o2 := (.cells #[.int .i64 pk, .string pv0] 30)) (o3 := (.cells #[.string x0.r.meth, .string x0.r.host, .string x0.r.path, .slice x0.aq x0.r.query.length x0.cq, .slice x0.ah x0.r.head.length x0.ch] 33)) (by rw [← hbase]; exact h) : _ ∧ _ ∧ _)
  have B0 : Below w.heap.size w base := by rw [hbase]; exact below_3 _ _ _
  have m0 := fun W h => cellN (HB W h).1 (i := 0) rfl
  have m1 := fun W h => cellN (HB W h).1 (i := 1) rfl
  have m2 := fun W h => cellN (HB W h).1 (i := 2) rfl
  have m3 := fun W h => cellN (HB W h).1 (i := 3) rfl
  have m4 := fun W h => cellN (HB W h).1 (i := 4) rfl
  have m5 := fun W h => cellN (HB W h).1 (i := 5) rfl
  have m6 := fun W h => cellN (HB W h).1 (i := 6) rfl
  have m7 := fun W h => cellN (HB W h).1 (i := 7) rfl
  have mp0 := fun W h => cellN (HB W h).2.1 (i := 0) rfl
  have mp1 := fun W h => cellN (HB W h).2.1 (i := 1) rfl
  have mr0 := fun W h => cellN (HB W h).2.2 (i := 0) rfl
  have mr1 := fun W h => cellN (HB W h).2.2 (i := 1) rfl
  have mr2 := fun W h => cellN (HB W h).2.2 (i := 2) rfl
  have mr3 := fun W h => cellN (HB W h).2.2 (i := 3) rfl
  have mr4 := fun W h => cellN (HB W h).2.2 (i := 4) rfl
  have HBH := hide HB
  clear HB
  go_enter Tryd.func8, Tryd.ntmps8
  go_wp2_with fail
  rw [← hbase]
  clear hbase
  refine wp_region_G 9 (fun w' => Below base.heap.size base w') (by kernel_rfl) ((Below.refl _ _).drew) ?_
  refine wpG_take (i := 0) 5 (v := .agg #[.int .i64 k0, .string n0, .string v0, .string h0, .int .i64 p0, .string t0, .bool b0, .int .i64 z0]) rfl (by kernel_rfl) (by kernel_rfl) (by kernel_rfl) (by decide) (by kernel_rfl) (by kernel_rfl) (fun _ _ _ h => h) (Or.inl ⟨by rfl, fun w1 hS => ?_⟩) ?_
  · (try dsimp only at hS)
    go_simp
  simp only [Act.put, List.setIfInBounds_toArray, List.set_cons_zero, List.set_cons_succ]
  refine wpG_take (i := 5) 5 (v := .agg #[.int .i64 pk, .string pv0]) rfl (by kernel_rfl) (by kernel_rfl) (by kernel_rfl) (by decide) (by kernel_rfl) (by kernel_rfl) (fun _ _ _ h => h) (Or.inl ⟨by rfl, fun w1 hS => ?_⟩) ?_
  · (try dsimp only at hS)
    go_simp
  simp only [Act.put, List.setIfInBounds_toArray, List.set_cons_zero, List.set_cons_succ]
  refine wpG_take (i := 7) 5 (v := .agg #[.string x0.r.meth, .string x0.r.host, .string x0.r.path, .slice x0.aq x0.r.query.length x0.cq, .slice x0.ah x0.r.head.length x0.ch]) rfl (by kernel_rfl) (by kernel_rfl) (by kernel_rfl) (by decide) (by kernel_rfl) (by kernel_rfl) (fun _ _ _ h => h) (Or.inl ⟨by rfl, fun w1 hS => ?_⟩) ?_
  · (try dsimp only at hS)
    go_simp
  simp only [Act.put, List.setIfInBounds_toArray, List.set_cons_zero, List.set_cons_succ]
  clear m0 m1 m2 m3 m4 m5 m6 m7 mp0 mp1 mr0 mr1 mr2 mr3 mr4
  refine wpG_ready (rs := [1]) (by kernel_rfl) (by simp) (fun W1 hG1 hS1 i hi => ?_)
  obtain rfl : i = 1 := by simpa using hi
  clear hi
  refine wpOp_step rfl (by rfl) (fun K' hK' => ?_)
  go_simp
  have kb : (W1.alloc (.cells #[.int .i64 k0, .string n0, .string v0, .string h0, .int .i64 p0, .string t0, .bool b0, .int .i64 z0] 26)).heap[W1.heap.size]? = some (.cells #[.int .i64 k0, .string n0, .string v0, .string h0, .int .i64 p0, .string t0, .bool b0, .int .i64 z0] 26) := alloc_new _ _
  refine hK' _ _ (wpG_kept (by decide) (hS1.alloc hS1.size _) ?_)
  clear hK' K' hG1
  refine wpG_ready (rs := [2]) (by kernel_rfl) (by simp) (fun W2 hG2 hS2 i hi => ?_)
  obtain rfl : i = 2 := by simpa using hi
  clear hi
  refine wpOp_step rfl (by rfl) (fun K' hK' => ?_)
  replace hK' := hide hK'
  go_simp
  refine (C2 _ _ (blk_below kb hG2)).out.mono ?_
  rintro e z2 ⟨u2, rfl, r2, hb2⟩
  have B2 := hS2.trans (hb2.mono hS2.size)
  have mt2 := Sl.of_row (E := EF) rfl r2 (fun _ _ => trivial)
  obtain ⟨fa, fc, rfl, _, _, hc2⟩ := mt2
  obtain ⟨_, gg, off, rfl, hgg, hat⟩ := hc2 0 (show 0 < 1 by decide)
  have hpos1 : 0 < (someF [⟨k0, n0, v0, h0, p0, t0, b0, z0⟩]).length := (show 0 < 1 by decide)
  have EA : Hid (∀ W, Below z2.heap.size z2 W → EF.At W gg off (fewF ⟨k0, n0, v0, h0, p0, t0, b0, z0⟩)) := fun W h j u hu => (h.cell (p := ⟨gg, off + j, none⟩) hgg).trans (by have := hat j u hu; rw [Nat.zero_mul, Nat.add_zero] at this; exact this)
  go_wp2_with fail
  refine hK'.out _ _ (wpG_kept (by decide) B2 ?_)
  clear hK' K' hG2 hS2 hb2 B2 hS1 hc2 hat r2
  refine wpG_take (i := 3) 5 (v := .pointer (some ⟨gg, off, none⟩)) rfl (by kernel_rfl) (by kernel_rfl) (by kernel_rfl) (by decide) (by kernel_rfl) (by kernel_rfl) (fun _ _ _ h => h) (Or.inl ⟨by rfl, fun w1 hS => ?_⟩) ?_
  · (try dsimp only at hS)
    go_simp
  simp only [Act.put, List.setIfInBounds_toArray, List.set_cons_zero, List.set_cons_succ]
  clear hpos1
  have gZ0 : Below z2.heap.size z2 z2 := Below.refl _ _
  refine wpG_ready (rs := [4, 6]) (by kernel_rfl) (by simp) (fun WA hGA hSA i hi => ?_)
  rcases (show i = 4 ∨ i = 6 by simpa using hi) with rfl | rfl
  · clear hi
    have gZA : Below z2.heap.size z2 WA := bb2 gZ0 hGA
    obtain ⟨c0, c1, c2, c3, c4, c5, c6, c7⟩ := EF_at (EA.out WA (gZA))
    dsimp only [fewF] at c0 c1 c2 c3 c4 c5 c6 c7
    refine wpOp_step rfl (by rfl) (fun K' hK' => ?_)
    go_simp
    refine hK' _ _ (wpG_kept (by decide) hSA ?_)
    clear hK' K' c0 c1 c2 c3 c4 c5 c6 c7
    refine wpG_ready (rs := [6]) (by kernel_rfl) (by simp) (fun WB hGB hSB i hi => ?_)
    obtain rfl : i = 6 := by simpa using hi
    clear hi
    have gZB : Below z2.heap.size z2 WB := bb2 gZA hGB
    refine wpOp_step rfl (by rfl) (fun K' hK' => ?_)
    replace hK' := hide hK'
    go_simp
    refine (C6 _).out.mono ?_
    rintro e z6 ⟨rfl, hb6⟩
    have BK6 := hSB.trans (hb6.mono hSB.size)
    have g6 : Below z2.heap.size z2 z6 := bb2 gZB hb6
    go_wp2_with fail
    refine hK'.out _ _ (wpG_kept (by decide) BK6 ?_)
    clear hK' K' BK6
    refine wpG_ready (rs := [8]) (by kernel_rfl) (by simp) (fun WC hGC hSC i hi => ?_)
    obtain rfl : i = 8 := by simpa using hi
    clear hi
    have gZC : Below z2.heap.size z2 WC := bb2 g6 hGC
    refine wpOp_step rfl (by rfl) (fun K' hK' => ?_)
    replace hK' := hide hK'
    go_simp
    refine (C8 _ (bb2 B0 hSC)).out.mono ?_
    rintro e z8 ⟨x, rfl, hx8, own8, hb8⟩
    have HX8 := hide hx8
    clear hx8
    have BK8 := hSC.trans (hb8.mono hSC.size)
    have g8 : Below z2.heap.size z2 z8 := bb2 gZC hb8
    go_wp2_with fail
    refine hK'.out _ _ (wpG_kept (by decide) BK8 ?_)
    clear hK' K' BK8
    refine wpG_ready (rs := [9]) (by kernel_rfl) (by simp) (fun WZ hGZ hSZ i hi => ?_)
    obtain rfl : i = 9 := by simpa using hi
    clear hi
    obtain ⟨kf, kp, kr⟩ := HBH.out WZ hSZ
    replace own8 := own8.below hGZ
    have BZ := bb2 B0 hSZ
    clear hGZ hSZ HBH C2 C6 C8 EA
    have lv := liveN kf
    obtain ⟨y0, y1, y2, y3, y4, y5, y6, y7⟩ : _ ∧ _ ∧ _ ∧ _ ∧ _ ∧ _ ∧ _ ∧ _ := ⟨cellN kf (i := 0) rfl, cellN kf (i := 1) rfl, cellN kf (i := 2) rfl, cellN kf (i := 3) rfl, cellN kf (i := 4) rfl, cellN kf (i := 5) rfl, cellN kf (i := 6) rfl, cellN kf (i := 7) rfl⟩
    refine wpOp_step rfl (by rfl) (fun K' hK' => ?_)
    go_simp
    refine hK' _ _ (wpG_past (by decide) ?_)
    clear hK' K' lv y0 y1 y2 y3 y4 y5 y6 y7
    replace own8 := own8.setL (k := 0) (cs := [.int .i64 k0, .string (fewB n0), .string (fewB v0), .string (fewB h0), .int .i64 p0, .string (fewB t0), .bool b0, .int .i64 z0]) kf (by decide)
    replace BZ := setL_below (w := w) (B := w.heap.size) (g := w.heap.size) (by omega) [.int .i64 k0, .string (fewB n0), .string (fewB v0), .string (fewB h0), .int .i64 p0, .string (fewB t0), .bool b0, .int .i64 z0] _ 0 BZ
    replace kp := (setL_far (g := w.heap.size) (by omega) [.int .i64 k0, .string (fewB n0), .string (fewB v0), .string (fewB h0), .int .i64 p0, .string (fewB t0), .bool b0, .int .i64 z0] _ 0).trans kp
    replace kr := (setL_far (g := w.heap.size) (by omega) [.int .i64 k0, .string (fewB n0), .string (fewB v0), .string (fewB h0), .int .i64 p0, .string (fewB t0), .bool b0, .int .i64 z0] _ 0).trans kr
    replace kf := setL_all [.int .i64 k0, .string (fewB n0), .string (fewB v0), .string (fewB h0), .int .i64 p0, .string (fewB t0), .bool b0, .int .i64 z0] kf rfl
    change wpAny _ _ _ _ _ _ _ (setL WZ (w.heap.size) 0 [.int .i64 k0, .string (fewB n0), .string (fewB v0), .string (fewB h0), .int .i64 p0, .string (fewB t0), .bool b0, .int .i64 z0])
    generalize setL WZ (w.heap.size) 0 [.int .i64 k0, .string (fewB n0), .string (fewB v0), .string (fewB h0), .int .i64 p0, .string (fewB t0), .bool b0, .int .i64 z0] = V1 at *
    refine wpAny_one (i := 10) (by kernel_rfl) ?_
    have lv := liveN kp
    obtain ⟨y0, y1⟩ : _ ∧ _ := ⟨cellN kp (i := 0) rfl, cellN kp (i := 1) rfl⟩
    refine wpOp_step rfl (by rfl) (fun K' hK' => ?_)
    go_simp
    refine hK' _ _ ?_
    clear hK' K' lv y0 y1
    replace own8 := own8.setL (k := 0) (cs := [.int .i64 pk, .string (fewB pv0)]) kp (by decide)
    replace BZ := setL_below (w := w) (B := w.heap.size) (g := w.heap.size + 1) (by omega) [.int .i64 pk, .string (fewB pv0)] _ 0 BZ
    replace kf := (setL_far (g := w.heap.size + 1) (by omega) [.int .i64 pk, .string (fewB pv0)] _ 0).trans kf
    replace kr := (setL_far (g := w.heap.size + 1) (by omega) [.int .i64 pk, .string (fewB pv0)] _ 0).trans kr
    replace kp := setL_all [.int .i64 pk, .string (fewB pv0)] kp rfl
    change wpAny _ _ _ _ _ _ _ (setL V1 (w.heap.size + 1) 0 [.int .i64 pk, .string (fewB pv0)])
    generalize setL V1 (w.heap.size + 1) 0 [.int .i64 pk, .string (fewB pv0)] = V2 at *
    refine wpAny_one (i := 11) (by kernel_rfl) ?_
    have lv := liveN kr
    obtain ⟨y0, y1, y2, y3, y4⟩ : _ ∧ _ ∧ _ ∧ _ ∧ _ := ⟨cellN kr (i := 0) rfl, cellN kr (i := 1) rfl, cellN kr (i := 2) rfl, cellN kr (i := 3) rfl, cellN kr (i := 4) rfl⟩
    refine wpOp_step rfl (by rfl) (fun K' hK' => ?_)
    go_simp
    refine hK' _ _ ?_
    clear hK' K' lv y0 y1 y2 y3 y4
    replace own8 := own8.setL (k := 0) (cs := [.string x.r.meth, .string x.r.host, .string x.r.path, .slice x.aq x.r.query.length x.cq, .slice x.ah x.r.head.length x.ch]) kr (by decide)
    replace BZ := setL_below (w := w) (B := w.heap.size) (g := w.heap.size + 1 + 1) (by omega) [.string x.r.meth, .string x.r.host, .string x.r.path, .slice x.aq x.r.query.length x.cq, .slice x.ah x.r.head.length x.ch] _ 0 BZ
    replace kf := (setL_far (g := w.heap.size + 1 + 1) (by omega) [.string x.r.meth, .string x.r.host, .string x.r.path, .slice x.aq x.r.query.length x.cq, .slice x.ah x.r.head.length x.ch] _ 0).trans kf
    replace kp := (setL_far (g := w.heap.size + 1 + 1) (by omega) [.string x.r.meth, .string x.r.host, .string x.r.path, .slice x.aq x.r.query.length x.cq, .slice x.ah x.r.head.length x.ch] _ 0).trans kp
    replace kr := setL_all [.string x.r.meth, .string x.r.host, .string x.r.path, .slice x.aq x.r.query.length x.cq, .slice x.ah x.r.head.length x.ch] kr rfl
    change wpAny _ _ _ _ _ _ _ (setL V2 (w.heap.size + 1 + 1) 0 [.string x.r.meth, .string x.r.host, .string x.r.path, .slice x.aq x.r.query.length x.cq, .slice x.ah x.r.head.length x.ch])
    generalize setL V2 (w.heap.size + 1 + 1) 0 [.string x.r.meth, .string x.r.host, .string x.r.path, .slice x.aq x.r.query.length x.cq, .slice x.ah x.r.head.length x.ch] = V at *
    refine wpAny_end (by kernel_rfl) ?_
    have atx := own8.at_
    have okx : OkR x.r := by rw [HX8.out]; exact fewR_ok _
    have okf := fewF_ok ⟨k0, n0, v0, h0, p0, t0, b0, z0⟩
    dsimp only [fewF] at okf
    have pv100 := fewB_le pv0
    generalize fewB n0 = n1 at *
    generalize fewB v0 = v1 at *
    generalize fewB h0 = h1 at *
    generalize fewB t0 = t1 at *
    generalize fewB pv0 = pv at *
    obtain ⟨f0, f1, f2, f3, f4, f5, f6, f7⟩ : _ ∧ _ ∧ _ ∧ _ ∧ _ ∧ _ ∧ _ ∧ _ := ⟨cellN kf (i := 0) rfl, cellN kf (i := 1) rfl, cellN kf (i := 2) rfl, cellN kf (i := 3) rfl, cellN kf (i := 4) rfl, cellN kf (i := 5) rfl, cellN kf (i := 6) rfl, cellN kf (i := 7) rfl⟩
    obtain ⟨g0, g1⟩ : _ ∧ _ := ⟨cellN kp (i := 0) rfl, cellN kp (i := 1) rfl⟩
    obtain ⟨r0, r1, r2, r3, r4⟩ : _ ∧ _ ∧ _ ∧ _ ∧ _ := ⟨cellN kr (i := 0) rfl, cellN kr (i := 1) rfl, cellN kr (i := 2) rfl, cellN kr (i := 3) rfl, cellN kr (i := 4) rfl⟩
    by_cases hk5 : k0 = 5
    case neg =>
      have hk5' : (k0 != 5) = true := by simpa using hk5
      go_wp2_with fail
      refine (fawake_any _).mono ?_
      rintro e w20 ⟨rfl, hb20⟩
      go_wp2_with fail
      go_ret
      exact ⟨rfl, bb2 BZ hb20⟩
    subst hk5
    have BV := (Below.refl _ V).alloc (Nat.le_refl _) (.cells #[.int .i64 5, .string n1, .string v1, .string h1, .int .i64 p0, .string t1, .bool b0, .int .i64 z0] 26)
    have CD := hide (do_any (.slice (some ⟨V.heap.size, 0, none⟩) 1 1) [⟨5, n1, v1, h1, p0, t1, b0, z0⟩] pk pv x (V.alloc (.cells #[.int .i64 5, .string n1, .string v1, .string h1, .int .i64 p0, .string t1, .bool b0, .int .i64 z0] 26)) (Sl.one (f := ⟨5, n1, v1, h1, p0, t1, b0, z0⟩) (alloc_new V _)) (fun y hy => by rw [List.mem_singleton.1 hy]; exact okf) pv100 (atx.below BV) okx)
    have kp2 := blk_below kp BV
    have kr2 := blk_below kr BV
    have kf2 := blk_below kf BV
    obtain ⟨hg0, hg1⟩ : _ ∧ _ := ⟨cellN kp2 (i := 0) rfl, cellN kp2 (i := 1) rfl⟩
    obtain ⟨hr0, hr1, hr2, hr3, hr4⟩ : _ ∧ _ ∧ _ ∧ _ ∧ _ := ⟨cellN kr2 (i := 0) rfl, cellN kr2 (i := 1) rfl, cellN kr2 (i := 2) rfl, cellN kr2 (i := 3) rfl, cellN kr2 (i := 4) rfl⟩
    rcases do_cases [⟨5, n1, v1, h1, p0, t1, b0, z0⟩] pk pv x.r with ⟨er, hdo, her⟩ | ⟨ar, hdo, hall, hhold, hrun, h30⟩
    · rw [hdo] at CD
      dsimp only at CD
      have her' : (er != 0) = true := by rw [bne_iff_ne]; omega
      go_wp2_with fail
      refine CD.out.mono ?_
      rintro e w2 ⟨⟨ra, aqa, cqa, aha, cha⟩, rfl, ha, owna, hb2⟩
      dsimp only at ha
      subst ha
      clear CD
      have zp : zeroR.path.toList = [] := by rw [Lib.toList_data]; rfl
      go_wp2_with fail
      refine (fawake_any _).mono ?_
      rintro e w21 ⟨rfl, hb21⟩
      go_wp2_with fail
      go_ret
      exact ⟨rfl, bb2 BZ (bb2 BV (bb2 hb2 (below_box hb21)))⟩
    obtain ⟨q1, q2, q3, q4, q5⟩ := swap_alone rfl hdo
    rw [hdo] at CD
    dsimp only at CD q1
    have HBN : Hid (e0 t1 = true → ar.path = x.r.path) := fun h => by rw [q2]; exact (bec_none (f := ⟨5, n1, v1, h1, p0, t1, b0, z0⟩) h).2
    have HBW : Hid (e0 t1 = false → (b0 || pk == 1) = true → ar.path = t1) := fun h h' => by rw [q2]; exact (bec_whole (f := ⟨5, n1, v1, h1, p0, t1, b0, z0⟩) h h').2
    have HBU : Hid (e0 t1 = false → (b0 || pk == 1) = false → holdP 2 (dl t1) (dl ar.path) = true) := fun h h' => by rw [q2]; exact bec_und (f := ⟨5, n1, v1, h1, p0, t1, b0, z0⟩) q5 q4 h h'
    have HPT := hide (path_facts q3)
    clear q2 q3 q4 q5 hall hhold hrun h30 hdo
    go_wp2_with fail
    refine CD.out.mono ?_
    rintro e w2 ⟨⟨ra, aqa, cqa, aha, cha⟩, rfl, ha, owna, hb2⟩
    dsimp only at ha
    subst ha
    obtain ⟨am, aho, ap, qua, hda⟩ := ra
    dsimp only at *
    obtain ⟨u1, u2, u3⟩ := HPT.out
    have u1' : ((ap.size : Int) == 0) = false := by rw [beq_eq_false_iff_ne]; omega
    have u2' : ¬ (60 : Int) < (ap.size : Int) := by omega
    have u3' := u3 u1
    have u1i : (0 : Int) < (ap.size : Int) := by omega
    clear CD f0 f1 f2 f3 f4 f5 f6 f7 g0 g1 r0 r1 r2 r3 r4 hg0 hg1 hr0 hr1 hr2 hr3 hr4
    have BA := (Below.refl _ w2).alloc (Nat.le_refl _) (.cells #[.string am, .string aho, .string ap, .slice aqa qua.length cqa, .slice aha hda.length cha] 33)
    have kfw := blk_below kf2 (bb2 hb2 BA)
    have krw := blk_below kr2 (bb2 hb2 BA)
    have kpw := blk_below kp2 (bb2 hb2 BA)
    obtain ⟨F0, F1, F2, F3, F4, F5, F6, F7⟩ : _ ∧ _ ∧ _ ∧ _ ∧ _ ∧ _ ∧ _ ∧ _ := ⟨cellN kfw (i := 0) rfl, cellN kfw (i := 1) rfl, cellN kfw (i := 2) rfl, cellN kfw (i := 3) rfl, cellN kfw (i := 4) rfl, cellN kfw (i := 5) rfl, cellN kfw (i := 6) rfl, cellN kfw (i := 7) rfl⟩
    obtain ⟨P0, P1⟩ : _ ∧ _ := ⟨cellN kpw (i := 0) rfl, cellN kpw (i := 1) rfl⟩
    obtain ⟨R0, R1, R2, R3, R4⟩ : _ ∧ _ ∧ _ ∧ _ ∧ _ := ⟨cellN krw (i := 0) rfl, cellN krw (i := 1) rfl, cellN krw (i := 2) rfl, cellN krw (i := 3) rfl, cellN krw (i := 4) rfl⟩
    cases hh : h1.toList.isEmpty
    · have hho : aho = h1 := by
        rw [q1, if_neg (by rw [← tl_emp, hh]; decide)]
      clear q1
      subst hho
      cases ht : t1.toList.isEmpty
      · cases hw : (b0 || pk == 1)
        · have HU := hide (und_cases (HBU.out (by rw [← tl_emp]; exact ht) hw))
          obtain ⟨rfl, hpk⟩ : b0 = false ∧ (pk == 1) = false := by
            cases b0
            · exact ⟨rfl, by simpa using hw⟩
            · exact absurd hw (by simp)
          have Q5 := fun q : GB (w2.alloc (.cells #[.string am, .string aho, .string ap, .slice aqa qua.length cqa, .slice aha hda.length cha] 33)) => cellN (blk_below kfw q.h) (i := 5) rfl
          have Q2 := fun q : GB (w2.alloc (.cells #[.string am, .string aho, .string ap, .slice aqa qua.length cqa, .slice aha hda.length cha] 33)) => cellN (blk_below (alloc_new w2 (.cells #[.string am, .string aho, .string ap, .slice aqa qua.length cqa, .slice aha hda.length cha] 33)) q.h) (i := 2) rfl
          clear hw
          rcases HU.out with c1 | ⟨c0, c1⟩ | ⟨c0, c1, c2, c3⟩
          · go_wp2_with fail
            refine wp_region_below (by kernel_rfl) (by kernel_rfl) ?_
            repeat (first | go_big_quiet_step ((go_at_call 14; exact calls_gb (fawake_any _))) | quiet_step ((go_at_call 14; exact calls_gb (fawake_any _))))
            refine wpQuiet_nil ?_
            intro _ hw'
            obtain ⟨qq, hw2⟩ := hw'
            subst hw2
            have hq := qq.h
            go_wp2_with fail
            go_ret
            exact ⟨rfl, bb2 BZ (bb2 BV (bb2 hb2 (bb2 BA hq)))⟩
          · go_wp2_with fail
            refine wp_region_below (by kernel_rfl) (by kernel_rfl) ?_
            repeat (first | go_big_quiet_step ((go_at_call 14; exact calls_gb (fawake_any _))) | quiet_step ((go_at_call 14; exact calls_gb (fawake_any _))))
            refine wpQuiet_nil ?_
            intro _ hw'
            obtain ⟨qq, hw2⟩ := hw'
            subst hw2
            have hq := qq.h
            go_wp2_with fail
            go_ret
            exact ⟨rfl, bb2 BZ (bb2 BV (bb2 hb2 (bb2 BA hq)))⟩
          · have c2' : (t1.size : Int) < (ap.size : Int) := by omega
            have t100 : t1.size ≤ 100 := okf.path
            have c2b : (t1.size : Int) + 1 ≤ (ap.size : Int) := by omega
            have hwr : IntKind.i64.wrap ((t1.size : Int) + 1) = ((t1.size + 1 : Nat) : Int) := by rw [IntKind.wrap_i64]; omega
            have c2c : ((t1.size + 1 : Nat) : Int) ≤ (ap.size : Int) := by omega
            have c2d : t1.size + 1 ≤ ap.size := by omega
            go_wp2_with fail
            refine wp_region_below (by kernel_rfl) (by kernel_rfl) ?_
            repeat (first | go_big_quiet_step ((go_at_call 14; exact calls_gb (fawake_any _))) | quiet_step ((go_at_call 14; exact calls_gb (fawake_any _))))
            refine wpQuiet_nil ?_
            intro _ hw'
            obtain ⟨qq, hw2⟩ := hw'
            subst hw2
            have hq := qq.h
            go_wp2_with fail
            go_ret
            exact ⟨rfl, bb2 BZ (bb2 BV (bb2 hb2 (bb2 BA hq)))⟩
        · have hap : ap = t1 := (HBW.out (by rw [← tl_emp]; exact ht) hw)
          subst hap
          cases b0
          · have hpk : (pk == 1) = true := by simpa using hw
            go_wp2_with fail
            refine (fawake_any _).mono ?_
            rintro e w30 ⟨rfl, hb30⟩
            go_wp2_with fail
            go_ret
            exact ⟨rfl, bb2 BZ (bb2 BV (bb2 hb2 (bb2 BA hb30)))⟩
          · go_wp2_with fail
            refine (fawake_any _).mono ?_
            rintro e w30 ⟨rfl, hb30⟩
            go_wp2_with fail
            go_ret
            exact ⟨rfl, bb2 BZ (bb2 BV (bb2 hb2 (bb2 BA hb30)))⟩
      · have hap : ap = x.r.path := HBN.out (by rw [← tl_emp]; exact ht)
        subst hap
        go_wp2_with fail
        refine (fawake_any _).mono ?_
        rintro e w30 ⟨rfl, hb30⟩
        go_wp2_with fail
        go_ret
        exact ⟨rfl, bb2 BZ (bb2 BV (bb2 hb2 (bb2 BA hb30)))⟩
    · have hho : aho = x.r.host := by
        rw [q1, if_pos (by rw [← tl_emp]; exact hh)]
      clear q1
      subst hho
      cases ht : t1.toList.isEmpty
      · cases hw : (b0 || pk == 1)
        · have HU := hide (und_cases (HBU.out (by rw [← tl_emp]; exact ht) hw))
          obtain ⟨rfl, hpk⟩ : b0 = false ∧ (pk == 1) = false := by
            cases b0
            · exact ⟨rfl, by simpa using hw⟩
            · exact absurd hw (by simp)
          have Q5 := fun q : GB (w2.alloc (.cells #[.string am, .string x.r.host, .string ap, .slice aqa qua.length cqa, .slice aha hda.length cha] 33)) => cellN (blk_below kfw q.h) (i := 5) rfl
          have Q2 := fun q : GB (w2.alloc (.cells #[.string am, .string x.r.host, .string ap, .slice aqa qua.length cqa, .slice aha hda.length cha] 33)) => cellN (blk_below (alloc_new w2 (.cells #[.string am, .string x.r.host, .string ap, .slice aqa qua.length cqa, .slice aha hda.length cha] 33)) q.h) (i := 2) rfl
          clear hw
          rcases HU.out with c1 | ⟨c0, c1⟩ | ⟨c0, c1, c2, c3⟩
          · go_wp2_with fail
            refine wp_region_below (by kernel_rfl) (by kernel_rfl) ?_
            repeat (first | go_big_quiet_step ((go_at_call 14; exact calls_gb (fawake_any _))) | quiet_step ((go_at_call 14; exact calls_gb (fawake_any _))))
            refine wpQuiet_nil ?_
            intro _ hw'
            obtain ⟨qq, hw2⟩ := hw'
            subst hw2
            have hq := qq.h
            go_wp2_with fail
            go_ret
            exact ⟨rfl, bb2 BZ (bb2 BV (bb2 hb2 (bb2 BA hq)))⟩
          · go_wp2_with fail
            refine wp_region_below (by kernel_rfl) (by kernel_rfl) ?_
            repeat (first | go_big_quiet_step ((go_at_call 14; exact calls_gb (fawake_any _))) | quiet_step ((go_at_call 14; exact calls_gb (fawake_any _))))
            refine wpQuiet_nil ?_
            intro _ hw'
            obtain ⟨qq, hw2⟩ := hw'
            subst hw2
            have hq := qq.h
            go_wp2_with fail
            go_ret
            exact ⟨rfl, bb2 BZ (bb2 BV (bb2 hb2 (bb2 BA hq)))⟩
          · have c2' : (t1.size : Int) < (ap.size : Int) := by omega
            have t100 : t1.size ≤ 100 := okf.path
            have c2b : (t1.size : Int) + 1 ≤ (ap.size : Int) := by omega
            have hwr : IntKind.i64.wrap ((t1.size : Int) + 1) = ((t1.size + 1 : Nat) : Int) := by rw [IntKind.wrap_i64]; omega
            have c2c : ((t1.size + 1 : Nat) : Int) ≤ (ap.size : Int) := by omega
            have c2d : t1.size + 1 ≤ ap.size := by omega
            go_wp2_with fail
            refine wp_region_below (by kernel_rfl) (by kernel_rfl) ?_
            repeat (first | go_big_quiet_step ((go_at_call 14; exact calls_gb (fawake_any _))) | quiet_step ((go_at_call 14; exact calls_gb (fawake_any _))))
            refine wpQuiet_nil ?_
            intro _ hw'
            obtain ⟨qq, hw2⟩ := hw'
            subst hw2
            have hq := qq.h
            go_wp2_with fail
            go_ret
            exact ⟨rfl, bb2 BZ (bb2 BV (bb2 hb2 (bb2 BA hq)))⟩
        · have hap : ap = t1 := (HBW.out (by rw [← tl_emp]; exact ht) hw)
          subst hap
          cases b0
          · have hpk : (pk == 1) = true := by simpa using hw
            go_wp2_with fail
            refine (fawake_any _).mono ?_
            rintro e w30 ⟨rfl, hb30⟩
            go_wp2_with fail
            go_ret
            exact ⟨rfl, bb2 BZ (bb2 BV (bb2 hb2 (bb2 BA hb30)))⟩
          · go_wp2_with fail
            refine (fawake_any _).mono ?_
            rintro e w30 ⟨rfl, hb30⟩
            go_wp2_with fail
            go_ret
            exact ⟨rfl, bb2 BZ (bb2 BV (bb2 hb2 (bb2 BA hb30)))⟩
      · have hap : ap = x.r.path := HBN.out (by rw [← tl_emp]; exact ht)
        subst hap
        go_wp2_with fail
        refine (fawake_any _).mono ?_
        rintro e w30 ⟨rfl, hb30⟩
        go_wp2_with fail
        go_ret
        exact ⟨rfl, bb2 BZ (bb2 BV (bb2 hb2 (bb2 BA hb30)))⟩
  · clear hi
    have gZA : Below z2.heap.size z2 WA := bb2 gZ0 hGA
    refine wpOp_step rfl (by rfl) (fun K' hK' => ?_)
    replace hK' := hide hK'
    go_simp
    refine (C6 _).out.mono ?_
    rintro e z6 ⟨rfl, hb6⟩
    have BK6 := hSA.trans (hb6.mono hSA.size)
    have g6 : Below z2.heap.size z2 z6 := bb2 gZA hb6
    go_wp2_with fail
    refine hK'.out _ _ (wpG_kept (by decide) BK6 ?_)
    clear hK' K' BK6
    refine wpG_ready (rs := [4, 8]) (by kernel_rfl) (by simp) (fun WB hGB hSB i hi => ?_)
    rcases (show i = 4 ∨ i = 8 by simpa using hi) with rfl | rfl
    · clear hi
      have gZB : Below z2.heap.size z2 WB := bb2 g6 hGB
      obtain ⟨c0, c1, c2, c3, c4, c5, c6, c7⟩ := EF_at (EA.out WB (gZB))
      dsimp only [fewF] at c0 c1 c2 c3 c4 c5 c6 c7
      refine wpOp_step rfl (by rfl) (fun K' hK' => ?_)
      go_simp
      refine hK' _ _ (wpG_kept (by decide) hSB ?_)
      clear hK' K' c0 c1 c2 c3 c4 c5 c6 c7
      refine wpG_ready (rs := [8]) (by kernel_rfl) (by simp) (fun WC hGC hSC i hi => ?_)
      obtain rfl : i = 8 := by simpa using hi
      clear hi
      have gZC : Below z2.heap.size z2 WC := bb2 gZB hGC
      refine wpOp_step rfl (by rfl) (fun K' hK' => ?_)
      replace hK' := hide hK'
      go_simp
      refine (C8 _ (bb2 B0 hSC)).out.mono ?_
      rintro e z8 ⟨x, rfl, hx8, own8, hb8⟩
      have HX8 := hide hx8
      clear hx8
      have BK8 := hSC.trans (hb8.mono hSC.size)
      have g8 : Below z2.heap.size z2 z8 := bb2 gZC hb8
      go_wp2_with fail
      refine hK'.out _ _ (wpG_kept (by decide) BK8 ?_)
      clear hK' K' BK8
      refine wpG_ready (rs := [9]) (by kernel_rfl) (by simp) (fun WZ hGZ hSZ i hi => ?_)
      obtain rfl : i = 9 := by simpa using hi
      clear hi
      obtain ⟨kf, kp, kr⟩ := HBH.out WZ hSZ
      replace own8 := own8.below hGZ
      have BZ := bb2 B0 hSZ
      clear hGZ hSZ HBH C2 C6 C8 EA
      have lv := liveN kf
      obtain ⟨y0, y1, y2, y3, y4, y5, y6, y7⟩ : _ ∧ _ ∧ _ ∧ _ ∧ _ ∧ _ ∧ _ ∧ _ := ⟨cellN kf (i := 0) rfl, cellN kf (i := 1) rfl, cellN kf (i := 2) rfl, cellN kf (i := 3) rfl, cellN kf (i := 4) rfl, cellN kf (i := 5) rfl, cellN kf (i := 6) rfl, cellN kf (i := 7) rfl⟩
      refine wpOp_step rfl (by rfl) (fun K' hK' => ?_)
      go_simp
      refine hK' _ _ (wpG_past (by decide) ?_)
      clear hK' K' lv y0 y1 y2 y3 y4 y5 y6 y7
      replace own8 := own8.setL (k := 0) (cs := [.int .i64 k0, .string (fewB n0), .string (fewB v0), .string (fewB h0), .int .i64 p0, .string (fewB t0), .bool b0, .int .i64 z0]) kf (by decide)
      replace BZ := setL_below (w := w) (B := w.heap.size) (g := w.heap.size) (by omega) [.int .i64 k0, .string (fewB n0), .string (fewB v0), .string (fewB h0), .int .i64 p0, .string (fewB t0), .bool b0, .int .i64 z0] _ 0 BZ
      replace kp := (setL_far (g := w.heap.size) (by omega) [.int .i64 k0, .string (fewB n0), .string (fewB v0), .string (fewB h0), .int .i64 p0, .string (fewB t0), .bool b0, .int .i64 z0] _ 0).trans kp
      replace kr := (setL_far (g := w.heap.size) (by omega) [.int .i64 k0, .string (fewB n0), .string (fewB v0), .string (fewB h0), .int .i64 p0, .string (fewB t0), .bool b0, .int .i64 z0] _ 0).trans kr
      replace kf := setL_all [.int .i64 k0, .string (fewB n0), .string (fewB v0), .string (fewB h0), .int .i64 p0, .string (fewB t0), .bool b0, .int .i64 z0] kf rfl
      change wpAny _ _ _ _ _ _ _ (setL WZ (w.heap.size) 0 [.int .i64 k0, .string (fewB n0), .string (fewB v0), .string (fewB h0), .int .i64 p0, .string (fewB t0), .bool b0, .int .i64 z0])
      generalize setL WZ (w.heap.size) 0 [.int .i64 k0, .string (fewB n0), .string (fewB v0), .string (fewB h0), .int .i64 p0, .string (fewB t0), .bool b0, .int .i64 z0] = V1 at *
      refine wpAny_one (i := 10) (by kernel_rfl) ?_
      have lv := liveN kp
      obtain ⟨y0, y1⟩ : _ ∧ _ := ⟨cellN kp (i := 0) rfl, cellN kp (i := 1) rfl⟩
      refine wpOp_step rfl (by rfl) (fun K' hK' => ?_)
      go_simp
      refine hK' _ _ ?_
      clear hK' K' lv y0 y1
      replace own8 := own8.setL (k := 0) (cs := [.int .i64 pk, .string (fewB pv0)]) kp (by decide)
      replace BZ := setL_below (w := w) (B := w.heap.size) (g := w.heap.size + 1) (by omega) [.int .i64 pk, .string (fewB pv0)] _ 0 BZ
      replace kf := (setL_far (g := w.heap.size + 1) (by omega) [.int .i64 pk, .string (fewB pv0)] _ 0).trans kf
      replace kr := (setL_far (g := w.heap.size + 1) (by omega) [.int .i64 pk, .string (fewB pv0)] _ 0).trans kr
      replace kp := setL_all [.int .i64 pk, .string (fewB pv0)] kp rfl
      change wpAny _ _ _ _ _ _ _ (setL V1 (w.heap.size + 1) 0 [.int .i64 pk, .string (fewB pv0)])
      generalize setL V1 (w.heap.size + 1) 0 [.int .i64 pk, .string (fewB pv0)] = V2 at *
      refine wpAny_one (i := 11) (by kernel_rfl) ?_
      have lv := liveN kr
      obtain ⟨y0, y1, y2, y3, y4⟩ : _ ∧ _ ∧ _ ∧ _ ∧ _ := ⟨cellN kr (i := 0) rfl, cellN kr (i := 1) rfl, cellN kr (i := 2) rfl, cellN kr (i := 3) rfl, cellN kr (i := 4) rfl⟩
      refine wpOp_step rfl (by rfl) (fun K' hK' => ?_)
      go_simp
      refine hK' _ _ ?_
      clear hK' K' lv y0 y1 y2 y3 y4
      replace own8 := own8.setL (k := 0) (cs := [.string x.r.meth, .string x.r.host, .string x.r.path, .slice x.aq x.r.query.length x.cq, .slice x.ah x.r.head.length x.ch]) kr (by decide)
      replace BZ := setL_below (w := w) (B := w.heap.size) (g := w.heap.size + 1 + 1) (by omega) [.string x.r.meth, .string x.r.host, .string x.r.path, .slice x.aq x.r.query.length x.cq, .slice x.ah x.r.head.length x.ch] _ 0 BZ
      replace kf := (setL_far (g := w.heap.size + 1 + 1) (by omega) [.string x.r.meth, .string x.r.host, .string x.r.path, .slice x.aq x.r.query.length x.cq, .slice x.ah x.r.head.length x.ch] _ 0).trans kf
      replace kp := (setL_far (g := w.heap.size + 1 + 1) (by omega) [.string x.r.meth, .string x.r.host, .string x.r.path, .slice x.aq x.r.query.length x.cq, .slice x.ah x.r.head.length x.ch] _ 0).trans kp
      replace kr := setL_all [.string x.r.meth, .string x.r.host, .string x.r.path, .slice x.aq x.r.query.length x.cq, .slice x.ah x.r.head.length x.ch] kr rfl
      change wpAny _ _ _ _ _ _ _ (setL V2 (w.heap.size + 1 + 1) 0 [.string x.r.meth, .string x.r.host, .string x.r.path, .slice x.aq x.r.query.length x.cq, .slice x.ah x.r.head.length x.ch])
      generalize setL V2 (w.heap.size + 1 + 1) 0 [.string x.r.meth, .string x.r.host, .string x.r.path, .slice x.aq x.r.query.length x.cq, .slice x.ah x.r.head.length x.ch] = V at *
      refine wpAny_end (by kernel_rfl) ?_
      have atx := own8.at_
      have okx : OkR x.r := by rw [HX8.out]; exact fewR_ok _
      have okf := fewF_ok ⟨k0, n0, v0, h0, p0, t0, b0, z0⟩
      dsimp only [fewF] at okf
      have pv100 := fewB_le pv0
      generalize fewB n0 = n1 at *
      generalize fewB v0 = v1 at *
      generalize fewB h0 = h1 at *
      generalize fewB t0 = t1 at *
      generalize fewB pv0 = pv at *
      obtain ⟨f0, f1, f2, f3, f4, f5, f6, f7⟩ : _ ∧ _ ∧ _ ∧ _ ∧ _ ∧ _ ∧ _ ∧ _ := ⟨cellN kf (i := 0) rfl, cellN kf (i := 1) rfl, cellN kf (i := 2) rfl, cellN kf (i := 3) rfl, cellN kf (i := 4) rfl, cellN kf (i := 5) rfl, cellN kf (i := 6) rfl, cellN kf (i := 7) rfl⟩
      obtain ⟨g0, g1⟩ : _ ∧ _ := ⟨cellN kp (i := 0) rfl, cellN kp (i := 1) rfl⟩
      obtain ⟨r0, r1, r2, r3, r4⟩ : _ ∧ _ ∧ _ ∧ _ ∧ _ := ⟨cellN kr (i := 0) rfl, cellN kr (i := 1) rfl, cellN kr (i := 2) rfl, cellN kr (i := 3) rfl, cellN kr (i := 4) rfl⟩
      by_cases hk5 : k0 = 5
      case neg =>
        have hk5' : (k0 != 5) = true := by simpa using hk5
        go_wp2_with fail
        refine (fawake_any _).mono ?_
        rintro e w20 ⟨rfl, hb20⟩
        go_wp2_with fail
        go_ret
        exact ⟨rfl, bb2 BZ hb20⟩
      subst hk5
      have BV := (Below.refl _ V).alloc (Nat.le_refl _) (.cells #[.int .i64 5, .string n1, .string v1, .string h1, .int .i64 p0, .string t1, .bool b0, .int .i64 z0] 26)
      have CD := hide (do_any (.slice (some ⟨V.heap.size, 0, none⟩) 1 1) [⟨5, n1, v1, h1, p0, t1, b0, z0⟩] pk pv x (V.alloc (.cells #[.int .i64 5, .string n1, .string v1, .string h1, .int .i64 p0, .string t1, .bool b0, .int .i64 z0] 26)) (Sl.one (f := ⟨5, n1, v1, h1, p0, t1, b0, z0⟩) (alloc_new V _)) (fun y hy => by rw [List.mem_singleton.1 hy]; exact okf) pv100 (atx.below BV) okx)
      have kp2 := blk_below kp BV
      have kr2 := blk_below kr BV
      have kf2 := blk_below kf BV
      obtain ⟨hg0, hg1⟩ : _ ∧ _ := ⟨cellN kp2 (i := 0) rfl, cellN kp2 (i := 1) rfl⟩
      obtain ⟨hr0, hr1, hr2, hr3, hr4⟩ : _ ∧ _ ∧ _ ∧ _ ∧ _ := ⟨cellN kr2 (i := 0) rfl, cellN kr2 (i := 1) rfl, cellN kr2 (i := 2) rfl, cellN kr2 (i := 3) rfl, cellN kr2 (i := 4) rfl⟩
      rcases do_cases [⟨5, n1, v1, h1, p0, t1, b0, z0⟩] pk pv x.r with ⟨er, hdo, her⟩ | ⟨ar, hdo, hall, hhold, hrun, h30⟩
      · rw [hdo] at CD
        dsimp only at CD
        have her' : (er != 0) = true := by rw [bne_iff_ne]; omega
        go_wp2_with fail
        refine CD.out.mono ?_
        rintro e w2 ⟨⟨ra, aqa, cqa, aha, cha⟩, rfl, ha, owna, hb2⟩
        dsimp only at ha
        subst ha
        clear CD
        have zp : zeroR.path.toList = [] := by rw [Lib.toList_data]; rfl
        go_wp2_with fail
        refine (fawake_any _).mono ?_
        rintro e w21 ⟨rfl, hb21⟩
        go_wp2_with fail
        go_ret
        exact ⟨rfl, bb2 BZ (bb2 BV (bb2 hb2 (below_box hb21)))⟩
      obtain ⟨q1, q2, q3, q4, q5⟩ := swap_alone rfl hdo
      rw [hdo] at CD
      dsimp only at CD q1
      have HBN : Hid (e0 t1 = true → ar.path = x.r.path) := fun h => by rw [q2]; exact (bec_none (f := ⟨5, n1, v1, h1, p0, t1, b0, z0⟩) h).2
      have HBW : Hid (e0 t1 = false → (b0 || pk == 1) = true → ar.path = t1) := fun h h' => by rw [q2]; exact (bec_whole (f := ⟨5, n1, v1, h1, p0, t1, b0, z0⟩) h h').2
      have HBU : Hid (e0 t1 = false → (b0 || pk == 1) = false → holdP 2 (dl t1) (dl ar.path) = true) := fun h h' => by rw [q2]; exact bec_und (f := ⟨5, n1, v1, h1, p0, t1, b0, z0⟩) q5 q4 h h'
      have HPT := hide (path_facts q3)
      clear q2 q3 q4 q5 hall hhold hrun h30 hdo
      go_wp2_with fail
      refine CD.out.mono ?_
      rintro e w2 ⟨⟨ra, aqa, cqa, aha, cha⟩, rfl, ha, owna, hb2⟩
      dsimp only at ha
      subst ha
      obtain ⟨am, aho, ap, qua, hda⟩ := ra
      dsimp only at *
      obtain ⟨u1, u2, u3⟩ := HPT.out
      have u1' : ((ap.size : Int) == 0) = false := by rw [beq_eq_false_iff_ne]; omega
      have u2' : ¬ (60 : Int) < (ap.size : Int) := by omega
      have u3' := u3 u1
      have u1i : (0 : Int) < (ap.size : Int) := by omega
      clear CD f0 f1 f2 f3 f4 f5 f6 f7 g0 g1 r0 r1 r2 r3 r4 hg0 hg1 hr0 hr1 hr2 hr3 hr4
      have BA := (Below.refl _ w2).alloc (Nat.le_refl _) (.cells #[.string am, .string aho, .string ap, .slice aqa qua.length cqa, .slice aha hda.length cha] 33)
      have kfw := blk_below kf2 (bb2 hb2 BA)
      have krw := blk_below kr2 (bb2 hb2 BA)
      have kpw := blk_below kp2 (bb2 hb2 BA)
      obtain ⟨F0, F1, F2, F3, F4, F5, F6, F7⟩ : _ ∧ _ ∧ _ ∧ _ ∧ _ ∧ _ ∧ _ ∧ _ := ⟨cellN kfw (i := 0) rfl, cellN kfw (i := 1) rfl, cellN kfw (i := 2) rfl, cellN kfw (i := 3) rfl, cellN kfw (i := 4) rfl, cellN kfw (i := 5) rfl, cellN kfw (i := 6) rfl, cellN kfw (i := 7) rfl⟩
      obtain ⟨P0, P1⟩ : _ ∧ _ := ⟨cellN kpw (i := 0) rfl, cellN kpw (i := 1) rfl⟩
      obtain ⟨R0, R1, R2, R3, R4⟩ : _ ∧ _ ∧ _ ∧ _ ∧ _ := ⟨cellN krw (i := 0) rfl, cellN krw (i := 1) rfl, cellN krw (i := 2) rfl, cellN krw (i := 3) rfl, cellN krw (i := 4) rfl⟩
      cases hh : h1.toList.isEmpty
      · have hho : aho = h1 := by
          rw [q1, if_neg (by rw [← tl_emp, hh]; decide)]
        clear q1
        subst hho
        cases ht : t1.toList.isEmpty
        · cases hw : (b0 || pk == 1)
          · have HU := hide (und_cases (HBU.out (by rw [← tl_emp]; exact ht) hw))
            obtain ⟨rfl, hpk⟩ : b0 = false ∧ (pk == 1) = false := by
              cases b0
              · exact ⟨rfl, by simpa using hw⟩
              · exact absurd hw (by simp)
            have Q5 := fun q : GB (w2.alloc (.cells #[.string am, .string aho, .string ap, .slice aqa qua.length cqa, .slice aha hda.length cha] 33)) => cellN (blk_below kfw q.h) (i := 5) rfl
            have Q2 := fun q : GB (w2.alloc (.cells #[.string am, .string aho, .string ap, .slice aqa qua.length cqa, .slice aha hda.length cha] 33)) => cellN (blk_below (alloc_new w2 (.cells #[.string am, .string aho, .string ap, .slice aqa qua.length cqa, .slice aha hda.length cha] 33)) q.h) (i := 2) rfl
            clear hw
            rcases HU.out with c1 | ⟨c0, c1⟩ | ⟨c0, c1, c2, c3⟩
            · go_wp2_with fail
              refine wp_region_below (by kernel_rfl) (by kernel_rfl) ?_
              repeat (first | go_big_quiet_step ((go_at_call 14; exact calls_gb (fawake_any _))) | quiet_step ((go_at_call 14; exact calls_gb (fawake_any _))))
              refine wpQuiet_nil ?_
              intro _ hw'
              obtain ⟨qq, hw2⟩ := hw'
              subst hw2
              have hq := qq.h
              go_wp2_with fail
              go_ret
              exact ⟨rfl, bb2 BZ (bb2 BV (bb2 hb2 (bb2 BA hq)))⟩
            · go_wp2_with fail
              refine wp_region_below (by kernel_rfl) (by kernel_rfl) ?_
              repeat (first | go_big_quiet_step ((go_at_call 14; exact calls_gb (fawake_any _))) | quiet_step ((go_at_call 14; exact calls_gb (fawake_any _))))
              refine wpQuiet_nil ?_
              intro _ hw'
              obtain ⟨qq, hw2⟩ := hw'
              subst hw2
              have hq := qq.h
              go_wp2_with fail
              go_ret
              exact ⟨rfl, bb2 BZ (bb2 BV (bb2 hb2 (bb2 BA hq)))⟩
            · have c2' : (t1.size : Int) < (ap.size : Int) := by omega
              have t100 : t1.size ≤ 100 := okf.path
              have c2b : (t1.size : Int) + 1 ≤ (ap.size : Int) := by omega
              have hwr : IntKind.i64.wrap ((t1.size : Int) + 1) = ((t1.size + 1 : Nat) : Int) := by rw [IntKind.wrap_i64]; omega
              have c2c : ((t1.size + 1 : Nat) : Int) ≤ (ap.size : Int) := by omega
              have c2d : t1.size + 1 ≤ ap.size := by omega
              go_wp2_with fail
              refine wp_region_below (by kernel_rfl) (by kernel_rfl) ?_
              repeat (first | go_big_quiet_step ((go_at_call 14; exact calls_gb (fawake_any _))) | quiet_step ((go_at_call 14; exact calls_gb (fawake_any _))))
              refine wpQuiet_nil ?_
              intro _ hw'
              obtain ⟨qq, hw2⟩ := hw'
              subst hw2
              have hq := qq.h
              go_wp2_with fail
              go_ret
              exact ⟨rfl, bb2 BZ (bb2 BV (bb2 hb2 (bb2 BA hq)))⟩
          · have hap : ap = t1 := (HBW.out (by rw [← tl_emp]; exact ht) hw)
            subst hap
            cases b0
            · have hpk : (pk == 1) = true := by simpa using hw
              go_wp2_with fail
              refine (fawake_any _).mono ?_
              rintro e w30 ⟨rfl, hb30⟩
              go_wp2_with fail
              go_ret
              exact ⟨rfl, bb2 BZ (bb2 BV (bb2 hb2 (bb2 BA hb30)))⟩
            · go_wp2_with fail
              refine (fawake_any _).mono ?_
              rintro e w30 ⟨rfl, hb30⟩
              go_wp2_with fail
              go_ret
              exact ⟨rfl, bb2 BZ (bb2 BV (bb2 hb2 (bb2 BA hb30)))⟩
        · have hap : ap = x.r.path := HBN.out (by rw [← tl_emp]; exact ht)
          subst hap
          go_wp2_with fail
          refine (fawake_any _).mono ?_
          rintro e w30 ⟨rfl, hb30⟩
          go_wp2_with fail
          go_ret
          exact ⟨rfl, bb2 BZ (bb2 BV (bb2 hb2 (bb2 BA hb30)))⟩
      · have hho : aho = x.r.host := by
          rw [q1, if_pos (by rw [← tl_emp]; exact hh)]
        clear q1
        subst hho
        cases ht : t1.toList.isEmpty
        · cases hw : (b0 || pk == 1)
          · have HU := hide (und_cases (HBU.out (by rw [← tl_emp]; exact ht) hw))
            obtain ⟨rfl, hpk⟩ : b0 = false ∧ (pk == 1) = false := by
              cases b0
              · exact ⟨rfl, by simpa using hw⟩
              · exact absurd hw (by simp)
            have Q5 := fun q : GB (w2.alloc (.cells #[.string am, .string x.r.host, .string ap, .slice aqa qua.length cqa, .slice aha hda.length cha] 33)) => cellN (blk_below kfw q.h) (i := 5) rfl
            have Q2 := fun q : GB (w2.alloc (.cells #[.string am, .string x.r.host, .string ap, .slice aqa qua.length cqa, .slice aha hda.length cha] 33)) => cellN (blk_below (alloc_new w2 (.cells #[.string am, .string x.r.host, .string ap, .slice aqa qua.length cqa, .slice aha hda.length cha] 33)) q.h) (i := 2) rfl
            clear hw
            rcases HU.out with c1 | ⟨c0, c1⟩ | ⟨c0, c1, c2, c3⟩
            · go_wp2_with fail
              refine wp_region_below (by kernel_rfl) (by kernel_rfl) ?_
              repeat (first | go_big_quiet_step ((go_at_call 14; exact calls_gb (fawake_any _))) | quiet_step ((go_at_call 14; exact calls_gb (fawake_any _))))
              refine wpQuiet_nil ?_
              intro _ hw'
              obtain ⟨qq, hw2⟩ := hw'
              subst hw2
              have hq := qq.h
              go_wp2_with fail
              go_ret
              exact ⟨rfl, bb2 BZ (bb2 BV (bb2 hb2 (bb2 BA hq)))⟩
            · go_wp2_with fail
              refine wp_region_below (by kernel_rfl) (by kernel_rfl) ?_
              repeat (first | go_big_quiet_step ((go_at_call 14; exact calls_gb (fawake_any _))) | quiet_step ((go_at_call 14; exact calls_gb (fawake_any _))))
              refine wpQuiet_nil ?_
              intro _ hw'
              obtain ⟨qq, hw2⟩ := hw'
              subst hw2
              have hq := qq.h
              go_wp2_with fail
              go_ret
              exact ⟨rfl, bb2 BZ (bb2 BV (bb2 hb2 (bb2 BA hq)))⟩
            · have c2' : (t1.size : Int) < (ap.size : Int) := by omega
              have t100 : t1.size ≤ 100 := okf.path
              have c2b : (t1.size : Int) + 1 ≤ (ap.size : Int) := by omega
              have hwr : IntKind.i64.wrap ((t1.size : Int) + 1) = ((t1.size + 1 : Nat) : Int) := by rw [IntKind.wrap_i64]; omega
              have c2c : ((t1.size + 1 : Nat) : Int) ≤ (ap.size : Int) := by omega
              have c2d : t1.size + 1 ≤ ap.size := by omega
              go_wp2_with fail
              refine wp_region_below (by kernel_rfl) (by kernel_rfl) ?_
              repeat (first | go_big_quiet_step ((go_at_call 14; exact calls_gb (fawake_any _))) | quiet_step ((go_at_call 14; exact calls_gb (fawake_any _))))
              refine wpQuiet_nil ?_
              intro _ hw'
              obtain ⟨qq, hw2⟩ := hw'
              subst hw2
              have hq := qq.h
              go_wp2_with fail
              go_ret
              exact ⟨rfl, bb2 BZ (bb2 BV (bb2 hb2 (bb2 BA hq)))⟩
          · have hap : ap = t1 := (HBW.out (by rw [← tl_emp]; exact ht) hw)
            subst hap
            cases b0
            · have hpk : (pk == 1) = true := by simpa using hw
              go_wp2_with fail
              refine (fawake_any _).mono ?_
              rintro e w30 ⟨rfl, hb30⟩
              go_wp2_with fail
              go_ret
              exact ⟨rfl, bb2 BZ (bb2 BV (bb2 hb2 (bb2 BA hb30)))⟩
            · go_wp2_with fail
              refine (fawake_any _).mono ?_
              rintro e w30 ⟨rfl, hb30⟩
              go_wp2_with fail
              go_ret
              exact ⟨rfl, bb2 BZ (bb2 BV (bb2 hb2 (bb2 BA hb30)))⟩
        · have hap : ap = x.r.path := HBN.out (by rw [← tl_emp]; exact ht)
          subst hap
          go_wp2_with fail
          refine (fawake_any _).mono ?_
          rintro e w30 ⟨rfl, hb30⟩
          go_wp2_with fail
          go_ret
          exact ⟨rfl, bb2 BZ (bb2 BV (bb2 hb2 (bb2 BA hb30)))⟩
    · clear hi
      have gZB : Below z2.heap.size z2 WB := bb2 g6 hGB
      refine wpOp_step rfl (by rfl) (fun K' hK' => ?_)
      replace hK' := hide hK'
      go_simp
      refine (C8 _ (bb2 B0 hSB)).out.mono ?_
      rintro e z8 ⟨x, rfl, hx8, own8, hb8⟩
      have HX8 := hide hx8
      clear hx8
      have BK8 := hSB.trans (hb8.mono hSB.size)
      have g8 : Below z2.heap.size z2 z8 := bb2 gZB hb8
      go_wp2_with fail
      refine hK'.out _ _ (wpG_kept (by decide) BK8 ?_)
      clear hK' K' BK8
      refine wpG_ready (rs := [4]) (by kernel_rfl) (by simp) (fun WC hGC hSC i hi => ?_)
      obtain rfl : i = 4 := by simpa using hi
      clear hi
      have gZC : Below z2.heap.size z2 WC := bb2 g8 hGC
      obtain ⟨c0, c1, c2, c3, c4, c5, c6, c7⟩ := EF_at (EA.out WC (gZC))
      dsimp only [fewF] at c0 c1 c2 c3 c4 c5 c6 c7
      refine wpOp_step rfl (by rfl) (fun K' hK' => ?_)
      go_simp
      refine hK' _ _ (wpG_kept (by decide) hSC ?_)
      clear hK' K' c0 c1 c2 c3 c4 c5 c6 c7
      replace own8 := own8.below hGC
      refine wpG_ready (rs := [9]) (by kernel_rfl) (by simp) (fun WZ hGZ hSZ i hi => ?_)
      obtain rfl : i = 9 := by simpa using hi
      clear hi
      obtain ⟨kf, kp, kr⟩ := HBH.out WZ hSZ
      replace own8 := own8.below hGZ
      have BZ := bb2 B0 hSZ
      clear hGZ hSZ HBH C2 C6 C8 EA
      have lv := liveN kf
      obtain ⟨y0, y1, y2, y3, y4, y5, y6, y7⟩ : _ ∧ _ ∧ _ ∧ _ ∧ _ ∧ _ ∧ _ ∧ _ := ⟨cellN kf (i := 0) rfl, cellN kf (i := 1) rfl, cellN kf (i := 2) rfl, cellN kf (i := 3) rfl, cellN kf (i := 4) rfl, cellN kf (i := 5) rfl, cellN kf (i := 6) rfl, cellN kf (i := 7) rfl⟩
      refine wpOp_step rfl (by rfl) (fun K' hK' => ?_)
      go_simp
      refine hK' _ _ (wpG_past (by decide) ?_)
      clear hK' K' lv y0 y1 y2 y3 y4 y5 y6 y7
      replace own8 := own8.setL (k := 0) (cs := [.int .i64 k0, .string (fewB n0), .string (fewB v0), .string (fewB h0), .int .i64 p0, .string (fewB t0), .bool b0, .int .i64 z0]) kf (by decide)
      replace BZ := setL_below (w := w) (B := w.heap.size) (g := w.heap.size) (by omega) [.int .i64 k0, .string (fewB n0), .string (fewB v0), .string (fewB h0), .int .i64 p0, .string (fewB t0), .bool b0, .int .i64 z0] _ 0 BZ
      replace kp := (setL_far (g := w.heap.size) (by omega) [.int .i64 k0, .string (fewB n0), .string (fewB v0), .string (fewB h0), .int .i64 p0, .string (fewB t0), .bool b0, .int .i64 z0] _ 0).trans kp
      replace kr := (setL_far (g := w.heap.size) (by omega) [.int .i64 k0, .string (fewB n0), .string (fewB v0), .string (fewB h0), .int .i64 p0, .string (fewB t0), .bool b0, .int .i64 z0] _ 0).trans kr
      replace kf := setL_all [.int .i64 k0, .string (fewB n0), .string (fewB v0), .string (fewB h0), .int .i64 p0, .string (fewB t0), .bool b0, .int .i64 z0] kf rfl
      change wpAny _ _ _ _ _ _ _ (setL WZ (w.heap.size) 0 [.int .i64 k0, .string (fewB n0), .string (fewB v0), .string (fewB h0), .int .i64 p0, .string (fewB t0), .bool b0, .int .i64 z0])
      generalize setL WZ (w.heap.size) 0 [.int .i64 k0, .string (fewB n0), .string (fewB v0), .string (fewB h0), .int .i64 p0, .string (fewB t0), .bool b0, .int .i64 z0] = V1 at *
      refine wpAny_one (i := 10) (by kernel_rfl) ?_
      have lv := liveN kp
      obtain ⟨y0, y1⟩ : _ ∧ _ := ⟨cellN kp (i := 0) rfl, cellN kp (i := 1) rfl⟩
      refine wpOp_step rfl (by rfl) (fun K' hK' => ?_)
      go_simp
      refine hK' _ _ ?_
      clear hK' K' lv y0 y1
      replace own8 := own8.setL (k := 0) (cs := [.int .i64 pk, .string (fewB pv0)]) kp (by decide)
      replace BZ := setL_below (w := w) (B := w.heap.size) (g := w.heap.size + 1) (by omega) [.int .i64 pk, .string (fewB pv0)] _ 0 BZ
      replace kf := (setL_far (g := w.heap.size + 1) (by omega) [.int .i64 pk, .string (fewB pv0)] _ 0).trans kf
      replace kr := (setL_far (g := w.heap.size + 1) (by omega) [.int .i64 pk, .string (fewB pv0)] _ 0).trans kr
      replace kp := setL_all [.int .i64 pk, .string (fewB pv0)] kp rfl
      change wpAny _ _ _ _ _ _ _ (setL V1 (w.heap.size + 1) 0 [.int .i64 pk, .string (fewB pv0)])
      generalize setL V1 (w.heap.size + 1) 0 [.int .i64 pk, .string (fewB pv0)] = V2 at *
      refine wpAny_one (i := 11) (by kernel_rfl) ?_
      have lv := liveN kr
      obtain ⟨y0, y1, y2, y3, y4⟩ : _ ∧ _ ∧ _ ∧ _ ∧ _ := ⟨cellN kr (i := 0) rfl, cellN kr (i := 1) rfl, cellN kr (i := 2) rfl, cellN kr (i := 3) rfl, cellN kr (i := 4) rfl⟩
      refine wpOp_step rfl (by rfl) (fun K' hK' => ?_)
      go_simp
      refine hK' _ _ ?_
      clear hK' K' lv y0 y1 y2 y3 y4
      replace own8 := own8.setL (k := 0) (cs := [.string x.r.meth, .string x.r.host, .string x.r.path, .slice x.aq x.r.query.length x.cq, .slice x.ah x.r.head.length x.ch]) kr (by decide)
      replace BZ := setL_below (w := w) (B := w.heap.size) (g := w.heap.size + 1 + 1) (by omega) [.string x.r.meth, .string x.r.host, .string x.r.path, .slice x.aq x.r.query.length x.cq, .slice x.ah x.r.head.length x.ch] _ 0 BZ
      replace kf := (setL_far (g := w.heap.size + 1 + 1) (by omega) [.string x.r.meth, .string x.r.host, .string x.r.path, .slice x.aq x.r.query.length x.cq, .slice x.ah x.r.head.length x.ch] _ 0).trans kf
      replace kp := (setL_far (g := w.heap.size + 1 + 1) (by omega) [.string x.r.meth, .string x.r.host, .string x.r.path, .slice x.aq x.r.query.length x.cq, .slice x.ah x.r.head.length x.ch] _ 0).trans kp
      replace kr := setL_all [.string x.r.meth, .string x.r.host, .string x.r.path, .slice x.aq x.r.query.length x.cq, .slice x.ah x.r.head.length x.ch] kr rfl
      change wpAny _ _ _ _ _ _ _ (setL V2 (w.heap.size + 1 + 1) 0 [.string x.r.meth, .string x.r.host, .string x.r.path, .slice x.aq x.r.query.length x.cq, .slice x.ah x.r.head.length x.ch])
      generalize setL V2 (w.heap.size + 1 + 1) 0 [.string x.r.meth, .string x.r.host, .string x.r.path, .slice x.aq x.r.query.length x.cq, .slice x.ah x.r.head.length x.ch] = V at *
      refine wpAny_end (by kernel_rfl) ?_
      have atx := own8.at_
      have okx : OkR x.r := by rw [HX8.out]; exact fewR_ok _
      have okf := fewF_ok ⟨k0, n0, v0, h0, p0, t0, b0, z0⟩
      dsimp only [fewF] at okf
      have pv100 := fewB_le pv0
      generalize fewB n0 = n1 at *
      generalize fewB v0 = v1 at *
      generalize fewB h0 = h1 at *
      generalize fewB t0 = t1 at *
      generalize fewB pv0 = pv at *
      obtain ⟨f0, f1, f2, f3, f4, f5, f6, f7⟩ : _ ∧ _ ∧ _ ∧ _ ∧ _ ∧ _ ∧ _ ∧ _ := ⟨cellN kf (i := 0) rfl, cellN kf (i := 1) rfl, cellN kf (i := 2) rfl, cellN kf (i := 3) rfl, cellN kf (i := 4) rfl, cellN kf (i := 5) rfl, cellN kf (i := 6) rfl, cellN kf (i := 7) rfl⟩
      obtain ⟨g0, g1⟩ : _ ∧ _ := ⟨cellN kp (i := 0) rfl, cellN kp (i := 1) rfl⟩
      obtain ⟨r0, r1, r2, r3, r4⟩ : _ ∧ _ ∧ _ ∧ _ ∧ _ := ⟨cellN kr (i := 0) rfl, cellN kr (i := 1) rfl, cellN kr (i := 2) rfl, cellN kr (i := 3) rfl, cellN kr (i := 4) rfl⟩
      by_cases hk5 : k0 = 5
      case neg =>
        have hk5' : (k0 != 5) = true := by simpa using hk5
        go_wp2_with fail
        refine (fawake_any _).mono ?_
        rintro e w20 ⟨rfl, hb20⟩
        go_wp2_with fail
        go_ret
        exact ⟨rfl, bb2 BZ hb20⟩
      subst hk5
      have BV := (Below.refl _ V).alloc (Nat.le_refl _) (.cells #[.int .i64 5, .string n1, .string v1, .string h1, .int .i64 p0, .string t1, .bool b0, .int .i64 z0] 26)
      have CD := hide (do_any (.slice (some ⟨V.heap.size, 0, none⟩) 1 1) [⟨5, n1, v1, h1, p0, t1, b0, z0⟩] pk pv x (V.alloc (.cells #[.int .i64 5, .string n1, .string v1, .string h1, .int .i64 p0, .string t1, .bool b0, .int .i64 z0] 26)) (Sl.one (f := ⟨5, n1, v1, h1, p0, t1, b0, z0⟩) (alloc_new V _)) (fun y hy => by rw [List.mem_singleton.1 hy]; exact okf) pv100 (atx.below BV) okx)
      have kp2 := blk_below kp BV
      have kr2 := blk_below kr BV
      have kf2 := blk_below kf BV
      obtain ⟨hg0, hg1⟩ : _ ∧ _ := ⟨cellN kp2 (i := 0) rfl, cellN kp2 (i := 1) rfl⟩
      obtain ⟨hr0, hr1, hr2, hr3, hr4⟩ : _ ∧ _ ∧ _ ∧ _ ∧ _ := ⟨cellN kr2 (i := 0) rfl, cellN kr2 (i := 1) rfl, cellN kr2 (i := 2) rfl, cellN kr2 (i := 3) rfl, cellN kr2 (i := 4) rfl⟩
      rcases do_cases [⟨5, n1, v1, h1, p0, t1, b0, z0⟩] pk pv x.r with ⟨er, hdo, her⟩ | ⟨ar, hdo, hall, hhold, hrun, h30⟩
      · rw [hdo] at CD
        dsimp only at CD
        have her' : (er != 0) = true := by rw [bne_iff_ne]; omega
        go_wp2_with fail
        refine CD.out.mono ?_
        rintro e w2 ⟨⟨ra, aqa, cqa, aha, cha⟩, rfl, ha, owna, hb2⟩
        dsimp only at ha
        subst ha
        clear CD
        have zp : zeroR.path.toList = [] := by rw [Lib.toList_data]; rfl
        go_wp2_with fail
        refine (fawake_any _).mono ?_
        rintro e w21 ⟨rfl, hb21⟩
        go_wp2_with fail
        go_ret
        exact ⟨rfl, bb2 BZ (bb2 BV (bb2 hb2 (below_box hb21)))⟩
      obtain ⟨q1, q2, q3, q4, q5⟩ := swap_alone rfl hdo
      rw [hdo] at CD
      dsimp only at CD q1
      have HBN : Hid (e0 t1 = true → ar.path = x.r.path) := fun h => by rw [q2]; exact (bec_none (f := ⟨5, n1, v1, h1, p0, t1, b0, z0⟩) h).2
      have HBW : Hid (e0 t1 = false → (b0 || pk == 1) = true → ar.path = t1) := fun h h' => by rw [q2]; exact (bec_whole (f := ⟨5, n1, v1, h1, p0, t1, b0, z0⟩) h h').2
      have HBU : Hid (e0 t1 = false → (b0 || pk == 1) = false → holdP 2 (dl t1) (dl ar.path) = true) := fun h h' => by rw [q2]; exact bec_und (f := ⟨5, n1, v1, h1, p0, t1, b0, z0⟩) q5 q4 h h'
      have HPT := hide (path_facts q3)
      clear q2 q3 q4 q5 hall hhold hrun h30 hdo
      go_wp2_with fail
      refine CD.out.mono ?_
      rintro e w2 ⟨⟨ra, aqa, cqa, aha, cha⟩, rfl, ha, owna, hb2⟩
      dsimp only at ha
      subst ha
      obtain ⟨am, aho, ap, qua, hda⟩ := ra
      dsimp only at *
      obtain ⟨u1, u2, u3⟩ := HPT.out
      have u1' : ((ap.size : Int) == 0) = false := by rw [beq_eq_false_iff_ne]; omega
      have u2' : ¬ (60 : Int) < (ap.size : Int) := by omega
      have u3' := u3 u1
      have u1i : (0 : Int) < (ap.size : Int) := by omega
      clear CD f0 f1 f2 f3 f4 f5 f6 f7 g0 g1 r0 r1 r2 r3 r4 hg0 hg1 hr0 hr1 hr2 hr3 hr4
      have BA := (Below.refl _ w2).alloc (Nat.le_refl _) (.cells #[.string am, .string aho, .string ap, .slice aqa qua.length cqa, .slice aha hda.length cha] 33)
      have kfw := blk_below kf2 (bb2 hb2 BA)
      have krw := blk_below kr2 (bb2 hb2 BA)
      have kpw := blk_below kp2 (bb2 hb2 BA)
      obtain ⟨F0, F1, F2, F3, F4, F5, F6, F7⟩ : _ ∧ _ ∧ _ ∧ _ ∧ _ ∧ _ ∧ _ ∧ _ := ⟨cellN kfw (i := 0) rfl, cellN kfw (i := 1) rfl, cellN kfw (i := 2) rfl, cellN kfw (i := 3) rfl, cellN kfw (i := 4) rfl, cellN kfw (i := 5) rfl, cellN kfw (i := 6) rfl, cellN kfw (i := 7) rfl⟩
      obtain ⟨P0, P1⟩ : _ ∧ _ := ⟨cellN kpw (i := 0) rfl, cellN kpw (i := 1) rfl⟩
      obtain ⟨R0, R1, R2, R3, R4⟩ : _ ∧ _ ∧ _ ∧ _ ∧ _ := ⟨cellN krw (i := 0) rfl, cellN krw (i := 1) rfl, cellN krw (i := 2) rfl, cellN krw (i := 3) rfl, cellN krw (i := 4) rfl⟩
      cases hh : h1.toList.isEmpty
      · have hho : aho = h1 := by
          rw [q1, if_neg (by rw [← tl_emp, hh]; decide)]
        clear q1
        subst hho
        cases ht : t1.toList.isEmpty
        · cases hw : (b0 || pk == 1)
          · have HU := hide (und_cases (HBU.out (by rw [← tl_emp]; exact ht) hw))
            obtain ⟨rfl, hpk⟩ : b0 = false ∧ (pk == 1) = false := by
              cases b0
              · exact ⟨rfl, by simpa using hw⟩
              · exact absurd hw (by simp)
            have Q5 := fun q : GB (w2.alloc (.cells #[.string am, .string aho, .string ap, .slice aqa qua.length cqa, .slice aha hda.length cha] 33)) => cellN (blk_below kfw q.h) (i := 5) rfl
            have Q2 := fun q : GB (w2.alloc (.cells #[.string am, .string aho, .string ap, .slice aqa qua.length cqa, .slice aha hda.length cha] 33)) => cellN (blk_below (alloc_new w2 (.cells #[.string am, .string aho, .string ap, .slice aqa qua.length cqa, .slice aha hda.length cha] 33)) q.h) (i := 2) rfl
            clear hw
            rcases HU.out with c1 | ⟨c0, c1⟩ | ⟨c0, c1, c2, c3⟩
            · go_wp2_with fail
              refine wp_region_below (by kernel_rfl) (by kernel_rfl) ?_
              repeat (first | go_big_quiet_step ((go_at_call 14; exact calls_gb (fawake_any _))) | quiet_step ((go_at_call 14; exact calls_gb (fawake_any _))))
              refine wpQuiet_nil ?_
              intro _ hw'
              obtain ⟨qq, hw2⟩ := hw'
              subst hw2
              have hq := qq.h
              go_wp2_with fail
              go_ret
              exact ⟨rfl, bb2 BZ (bb2 BV (bb2 hb2 (bb2 BA hq)))⟩
            · go_wp2_with fail
              refine wp_region_below (by kernel_rfl) (by kernel_rfl) ?_
              repeat (first | go_big_quiet_step ((go_at_call 14; exact calls_gb (fawake_any _))) | quiet_step ((go_at_call 14; exact calls_gb (fawake_any _))))
              refine wpQuiet_nil ?_
              intro _ hw'
              obtain ⟨qq, hw2⟩ := hw'
              subst hw2
              have hq := qq.h
              go_wp2_with fail
              go_ret
              exact ⟨rfl, bb2 BZ (bb2 BV (bb2 hb2 (bb2 BA hq)))⟩
            · have c2' : (t1.size : Int) < (ap.size : Int) := by omega
              have t100 : t1.size ≤ 100 := okf.path
              have c2b : (t1.size : Int) + 1 ≤ (ap.size : Int) := by omega
              have hwr : IntKind.i64.wrap ((t1.size : Int) + 1) = ((t1.size + 1 : Nat) : Int) := by rw [IntKind.wrap_i64]; omega
              have c2c : ((t1.size + 1 : Nat) : Int) ≤ (ap.size : Int) := by omega
              have c2d : t1.size + 1 ≤ ap.size := by omega
              go_wp2_with fail
              refine wp_region_below (by kernel_rfl) (by kernel_rfl) ?_
              repeat (first | go_big_quiet_step ((go_at_call 14; exact calls_gb (fawake_any _))) | quiet_step ((go_at_call 14; exact calls_gb (fawake_any _))))
              refine wpQuiet_nil ?_
              intro _ hw'
              obtain ⟨qq, hw2⟩ := hw'
              subst hw2
              have hq := qq.h
              go_wp2_with fail
              go_ret
              exact ⟨rfl, bb2 BZ (bb2 BV (bb2 hb2 (bb2 BA hq)))⟩
          · have hap : ap = t1 := (HBW.out (by rw [← tl_emp]; exact ht) hw)
            subst hap
            cases b0
            · have hpk : (pk == 1) = true := by simpa using hw
              go_wp2_with fail
              refine (fawake_any _).mono ?_
              rintro e w30 ⟨rfl, hb30⟩
              go_wp2_with fail
              go_ret
              exact ⟨rfl, bb2 BZ (bb2 BV (bb2 hb2 (bb2 BA hb30)))⟩
            · go_wp2_with fail
              refine (fawake_any _).mono ?_
              rintro e w30 ⟨rfl, hb30⟩
              go_wp2_with fail
              go_ret
              exact ⟨rfl, bb2 BZ (bb2 BV (bb2 hb2 (bb2 BA hb30)))⟩
        · have hap : ap = x.r.path := HBN.out (by rw [← tl_emp]; exact ht)
          subst hap
          go_wp2_with fail
          refine (fawake_any _).mono ?_
          rintro e w30 ⟨rfl, hb30⟩
          go_wp2_with fail
          go_ret
          exact ⟨rfl, bb2 BZ (bb2 BV (bb2 hb2 (bb2 BA hb30)))⟩
      · have hho : aho = x.r.host := by
          rw [q1, if_pos (by rw [← tl_emp]; exact hh)]
        clear q1
        subst hho
        cases ht : t1.toList.isEmpty
        · cases hw : (b0 || pk == 1)
          · have HU := hide (und_cases (HBU.out (by rw [← tl_emp]; exact ht) hw))
            obtain ⟨rfl, hpk⟩ : b0 = false ∧ (pk == 1) = false := by
              cases b0
              · exact ⟨rfl, by simpa using hw⟩
              · exact absurd hw (by simp)
            have Q5 := fun q : GB (w2.alloc (.cells #[.string am, .string x.r.host, .string ap, .slice aqa qua.length cqa, .slice aha hda.length cha] 33)) => cellN (blk_below kfw q.h) (i := 5) rfl
            have Q2 := fun q : GB (w2.alloc (.cells #[.string am, .string x.r.host, .string ap, .slice aqa qua.length cqa, .slice aha hda.length cha] 33)) => cellN (blk_below (alloc_new w2 (.cells #[.string am, .string x.r.host, .string ap, .slice aqa qua.length cqa, .slice aha hda.length cha] 33)) q.h) (i := 2) rfl
            clear hw
            rcases HU.out with c1 | ⟨c0, c1⟩ | ⟨c0, c1, c2, c3⟩
            · go_wp2_with fail
              refine wp_region_below (by kernel_rfl) (by kernel_rfl) ?_
              repeat (first | go_big_quiet_step ((go_at_call 14; exact calls_gb (fawake_any _))) | quiet_step ((go_at_call 14; exact calls_gb (fawake_any _))))
              refine wpQuiet_nil ?_
              intro _ hw'
              obtain ⟨qq, hw2⟩ := hw'
              subst hw2
              have hq := qq.h
              go_wp2_with fail
              go_ret
              exact ⟨rfl, bb2 BZ (bb2 BV (bb2 hb2 (bb2 BA hq)))⟩
            · go_wp2_with fail
              refine wp_region_below (by kernel_rfl) (by kernel_rfl) ?_
              repeat (first | go_big_quiet_step ((go_at_call 14; exact calls_gb (fawake_any _))) | quiet_step ((go_at_call 14; exact calls_gb (fawake_any _))))
              refine wpQuiet_nil ?_
              intro _ hw'
              obtain ⟨qq, hw2⟩ := hw'
              subst hw2
              have hq := qq.h
              go_wp2_with fail
              go_ret
              exact ⟨rfl, bb2 BZ (bb2 BV (bb2 hb2 (bb2 BA hq)))⟩
            · have c2' : (t1.size : Int) < (ap.size : Int) := by omega
              have t100 : t1.size ≤ 100 := okf.path
              have c2b : (t1.size : Int) + 1 ≤ (ap.size : Int) := by omega
              have hwr : IntKind.i64.wrap ((t1.size : Int) + 1) = ((t1.size + 1 : Nat) : Int) := by rw [IntKind.wrap_i64]; omega
              have c2c : ((t1.size + 1 : Nat) : Int) ≤ (ap.size : Int) := by omega
              have c2d : t1.size + 1 ≤ ap.size := by omega
              go_wp2_with fail
              refine wp_region_below (by kernel_rfl) (by kernel_rfl) ?_
              repeat (first | go_big_quiet_step ((go_at_call 14; exact calls_gb (fawake_any _))) | quiet_step ((go_at_call 14; exact calls_gb (fawake_any _))))
              refine wpQuiet_nil ?_
              intro _ hw'
              obtain ⟨qq, hw2⟩ := hw'
              subst hw2
              have hq := qq.h
              go_wp2_with fail
              go_ret
              exact ⟨rfl, bb2 BZ (bb2 BV (bb2 hb2 (bb2 BA hq)))⟩
          · have hap : ap = t1 := (HBW.out (by rw [← tl_emp]; exact ht) hw)
            subst hap
            cases b0
            · have hpk : (pk == 1) = true := by simpa using hw
              go_wp2_with fail
              refine (fawake_any _).mono ?_
              rintro e w30 ⟨rfl, hb30⟩
              go_wp2_with fail
              go_ret
              exact ⟨rfl, bb2 BZ (bb2 BV (bb2 hb2 (bb2 BA hb30)))⟩
            · go_wp2_with fail
              refine (fawake_any _).mono ?_
              rintro e w30 ⟨rfl, hb30⟩
              go_wp2_with fail
              go_ret
              exact ⟨rfl, bb2 BZ (bb2 BV (bb2 hb2 (bb2 BA hb30)))⟩
        · have hap : ap = x.r.path := HBN.out (by rw [← tl_emp]; exact ht)
          subst hap
          go_wp2_with fail
          refine (fawake_any _).mono ?_
          rintro e w30 ⟨rfl, hb30⟩
          go_wp2_with fail
          go_ret
          exact ⟨rfl, bb2 BZ (bb2 BV (bb2 hb2 (bb2 BA hb30)))⟩

end Go.Proofs.YtfoabpkiaihkiaaDoor
