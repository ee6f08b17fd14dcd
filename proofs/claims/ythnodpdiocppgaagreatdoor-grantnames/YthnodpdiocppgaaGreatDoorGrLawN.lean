/-
  The law GrantNames.
-/
import Derived.Test.YthnodpdiocppgaaGreatDoorJ27
import Derived.BigQuiet
namespace Go.Proofs.YthnodpdiocppgaaGreatDoor
set_option maxRecDepth 20000
open Go Go.RowKit Go.Shelf
attribute [local go_sem] gb_const

set_option linter.unusedVariables false in
set_option linter.unusedSimpArgs false in
set_option maxHeartbeats 12800000 in
theorem gnames_law (v0 v1 : Value) (s0 : ByteArray) (w : World) (h0 : ArgOb w v0) (h1 : ArgRf w v1) (hs : s0.size ≤ maxLen) :
    Calls Tryz.prog 5 #[v0, v1, .string s0] w fun e w' => e = .returned (.bool true) ∧ Below w.heap.size w w' := by
  obtain ⟨x, rfl, hx, rawx⟩ := h0
  obtain ⟨r0, rfl, rr⟩ := h1
  obtain ⟨rk, rs0, rn0⟩ := r0
  have C0 := fun W (h : Below w.heap.size w W) => hide (fewO_any x W (hx.below h) rawx)
  have C1 := fun W => hide (fewRef_any ⟨rk, rs0, rn0⟩ W rr)
  have C2 := fun W => hide (fewB_any s0 W hs)
  obtain ⟨X, hX⟩ : ∃ z, z = (w.alloc (.cells #[.int .i64 x.ref.kind, .string x.ref.space, .string x.ref.name, .bool x.good, .slice x.al x.labels.length x.cl, .slice x.ap x.ports.length x.cp, .string x.cls, .slice x.ai x.lis.length x.ci, .slice x.aq x.pars.length x.cq, .slice x.ah x.hosts.length x.ch, .slice x.ar x.rules.length x.cr, .slice x.af x.frm.length x.cf, .slice x.ao x.tos.length x.co] 36)).alloc (.cells #[.int .i64 rk, .string rs0, .string rn0] 24) := ⟨_, rfl⟩
  have B1 : Below w.heap.size w X := by rw [hX]; exact ((Below.refl _ _).alloc (Nat.le_refl _) _).alloc (by simp) _
  have K0 : X.heap[w.heap.size]? = some (.cells #[.int .i64 x.ref.kind, .string x.ref.space, .string x.ref.name, .bool x.good, .slice x.al x.labels.length x.cl, .slice x.ap x.ports.length x.cp, .string x.cls, .slice x.ai x.lis.length x.ci, .slice x.aq x.pars.length x.cq, .slice x.ah x.hosts.length x.ch, .slice x.ar x.rules.length x.cr, .slice x.af x.frm.length x.cf, .slice x.ao x.tos.length x.co] 36) := by rw [hX]; exact blk_below (alloc_new w _) ((Below.refl _ _).alloc (Nat.le_refl _) _)
  have K1 : X.heap[w.heap.size + 1]? = some (.cells #[.int .i64 rk, .string rs0, .string rn0] 24) := by
    rw [hX]
    have := alloc_new (w.alloc (.cells #[.int .i64 x.ref.kind, .string x.ref.space, .string x.ref.name, .bool x.good, .slice x.al x.labels.length x.cl, .slice x.ap x.ports.length x.cp, .string x.cls, .slice x.ai x.lis.length x.ci, .slice x.aq x.pars.length x.cq, .slice x.ah x.hosts.length x.ch, .slice x.ar x.rules.length x.cr, .slice x.af x.frm.length x.cf, .slice x.ao x.tos.length x.co] 36)) (.cells #[.int .i64 rk, .string rs0, .string rn0] 24)
    simpa using this
  have HK0 := hide K0
  have HK1 := hide K1
  have HB1 := hide B1
  have m0 := fun W (h : Below X.heap.size X W) => cellN (blk_below K0 h) (i := 0) rfl
  have m1 := fun W (h : Below X.heap.size X W) => cellN (blk_below K0 h) (i := 1) rfl
  have m2 := fun W (h : Below X.heap.size X W) => cellN (blk_below K0 h) (i := 2) rfl
  have m3 := fun W (h : Below X.heap.size X W) => cellN (blk_below K0 h) (i := 3) rfl
  have m4 := fun W (h : Below X.heap.size X W) => cellN (blk_below K0 h) (i := 4) rfl
  have m5 := fun W (h : Below X.heap.size X W) => cellN (blk_below K0 h) (i := 5) rfl
  have m6 := fun W (h : Below X.heap.size X W) => cellN (blk_below K0 h) (i := 6) rfl
  have m7 := fun W (h : Below X.heap.size X W) => cellN (blk_below K0 h) (i := 7) rfl
  have m8 := fun W (h : Below X.heap.size X W) => cellN (blk_below K0 h) (i := 8) rfl
  have m9 := fun W (h : Below X.heap.size X W) => cellN (blk_below K0 h) (i := 9) rfl
  have m10 := fun W (h : Below X.heap.size X W) => cellN (blk_below K0 h) (i := 10) rfl
  have m11 := fun W (h : Below X.heap.size X W) => cellN (blk_below K0 h) (i := 11) rfl
  have m12 := fun W (h : Below X.heap.size X W) => cellN (blk_below K0 h) (i := 12) rfl
  have n0 := fun W (h : Below X.heap.size X W) => cellN (blk_below K1 h) (i := 0) rfl
  have n1 := fun W (h : Below X.heap.size X W) => cellN (blk_below K1 h) (i := 1) rfl
  have n2 := fun W (h : Below X.heap.size X W) => cellN (blk_below K1 h) (i := 2) rfl
  clear hx rawx K0 K1 B1 rr hs
  go_enter Tryz.func5, Tryz.ntmps5
  go_wp2_with fail
  rw [← hX]
  clear hX
  refine wp_region_G 6 (fun W => Below X.heap.size X W) (by kernel_rfl) ((Below.refl _ _).drew) ?_
  refine wpG_take (i := 0) 5 (v := .agg #[.int .i64 x.ref.kind, .string x.ref.space, .string x.ref.name, .bool x.good, .slice x.al x.labels.length x.cl, .slice x.ap x.ports.length x.cp, .string x.cls, .slice x.ai x.lis.length x.ci, .slice x.aq x.pars.length x.cq, .slice x.ah x.hosts.length x.ch, .slice x.ar x.rules.length x.cr, .slice x.af x.frm.length x.cf, .slice x.ao x.tos.length x.co]) rfl (by kernel_rfl) (by kernel_rfl) (by kernel_rfl) (by decide) (by kernel_rfl) (by kernel_rfl) (fun _ _ _ h => h) (Or.inl ⟨by rfl, fun w1 hS => ?_⟩) ?_
  · (try dsimp only at hS)
    go_simp
  simp only [Act.put, List.setIfInBounds_toArray, List.set_cons_zero, List.set_cons_succ]
  refine wpG_take (i := 2) 5 (v := .agg #[.int .i64 rk, .string rs0, .string rn0]) rfl (by kernel_rfl) (by kernel_rfl) (by kernel_rfl) (by decide) (by kernel_rfl) (by kernel_rfl) (fun _ _ _ h => h) (Or.inl ⟨by rfl, fun w1 hS => ?_⟩) ?_
  · (try dsimp only at hS)
    go_simp
  simp only [Act.put, List.setIfInBounds_toArray, List.set_cons_zero, List.set_cons_succ]
  refine wpG_take (i := 4) 5 (v := .string s0) rfl (by kernel_rfl) (by kernel_rfl) (by kernel_rfl) (by decide) (by kernel_rfl) (by kernel_rfl) (fun _ _ _ h => h) (Or.inl ⟨by rfl, fun w1 hS => ?_⟩) ?_
  · (try dsimp only at hS)
    go_simp
  simp only [Act.put, List.setIfInBounds_toArray, List.set_cons_zero, List.set_cons_succ]
  clear m0 m1 m2 m3 m4 m5 m6 m7 m8 m9 m10 m11 m12 n0 n1 n2
  refine wpG_ready (rs := [1]) (by kernel_rfl) (by simp) (fun W1 hG1 hS1 i hi => ?_)
  obtain rfl : i = 1 := by simpa using hi
  clear hi
  refine wpOp_step rfl (by rfl) (fun K' hK' => ?_)
  replace hK' := hide hK'
  go_simp
  refine (C0 _ (HB1.out.trans (hS1.mono HB1.out.size))).out.mono ?_
  rintro e w2 ⟨y, rfl, hy, owny, hb2⟩
  have HY := hide (fewO_ok hy)
  have BK0 := hS1.trans (hb2.mono hS1.size)
  go_wp2_with fail
  refine hK'.out _ _ (wpG_kept (by decide) BK0 ?_)
  clear hK' K' hG1 hb2 BK0 hS1 hy
  obtain ⟨rs, hrs⟩ : ∃ z, fewB rs0 = z := ⟨_, rfl⟩
  obtain ⟨rn, hrn⟩ : ∃ z, fewB rn0 = z := ⟨_, rfl⟩
  obtain ⟨nm, hnm⟩ : ∃ z, fewB s0 = z := ⟨_, rfl⟩
  unfold fewRf at C1
  dsimp only at C1
  rw [hrs, hrn] at C1
  rw [hnm] at C2
  refine wpG_take (i := 3) 5 (v := .agg #[.int .i64 rk, .string rs, .string rn]) rfl (by kernel_rfl) (by kernel_rfl) (by kernel_rfl) (by decide) (by kernel_rfl) (by kernel_rfl) (fun _ _ _ h => h) (Or.inl ⟨by rfl, fun w1 hS => ?_⟩) ?_
  · (try dsimp only at hS)
    go_simp
    exact calls_grow hS (Nat.le_refl _) (C1 _).out
  simp only [Act.put, List.setIfInBounds_toArray, List.set_cons_zero, List.set_cons_succ]
  refine wpG_take (i := 5) 5 (v := .string nm) rfl (by kernel_rfl) (by kernel_rfl) (by kernel_rfl) (by decide) (by kernel_rfl) (by kernel_rfl) (fun _ _ _ h => h) (Or.inl ⟨by rfl, fun w1 hS => ?_⟩) ?_
  · (try dsimp only at hS)
    go_simp
    exact calls_grow_same hS (C2 _).out
  simp only [Act.put, List.setIfInBounds_toArray, List.set_cons_zero, List.set_cons_succ]
  refine wpG_ready (rs := [6]) (by kernel_rfl) (by simp) (fun W hG hS i hi => ?_)
  obtain rfl : i = 6 := by simpa using hi
  clear hi
  replace owny := owny.below hG
  have ka := blk_below HK0.out hS
  have kb := blk_below HK1.out hS
  have BZ := HB1.out.trans (hS.mono HB1.out.size)
  clear hG hS C0 C1 C2 HK0 HK1 HB1 hrs hrn hnm
  have lz := liveN ka
  obtain ⟨o0, o1, o2, o3, o4, o5, o6, o7, o8, o9, o10, o11, o12⟩ : _ ∧ _ ∧ _ ∧ _ ∧ _ ∧ _ ∧ _ ∧ _ ∧ _ ∧ _ ∧ _ ∧ _ ∧ _ := ⟨cellN ka (i := 0) rfl, cellN ka (i := 1) rfl, cellN ka (i := 2) rfl, cellN ka (i := 3) rfl, cellN ka (i := 4) rfl, cellN ka (i := 5) rfl, cellN ka (i := 6) rfl, cellN ka (i := 7) rfl, cellN ka (i := 8) rfl, cellN ka (i := 9) rfl, cellN ka (i := 10) rfl, cellN ka (i := 11) rfl, cellN ka (i := 12) rfl⟩
  refine wpOp_step rfl (by rfl) (fun K' hK' => ?_)
  go_simp
  refine hK' _ _ (wpG_past (by decide) ?_)
  clear hK' K' lz o0 o1 o2 o3 o4 o5 o6 o7 o8 o9 o10 o11 o12
  change wpAny _ _ _ _ _ _ _ (setL W w.heap.size 0 [.int .i64 y.ref.kind, .string y.ref.space, .string y.ref.name, .bool y.good, .slice y.al y.labels.length y.cl, .slice y.ap y.ports.length y.cp, .string y.cls, .slice y.ai y.lis.length y.ci, .slice y.aq y.pars.length y.cq, .slice y.ah y.hosts.length y.ch, .slice y.ar y.rules.length y.cr, .slice y.af y.frm.length y.cf, .slice y.ao y.tos.length y.co])
  have k2 := setL_all [.int .i64 y.ref.kind, .string y.ref.space, .string y.ref.name, .bool y.good, .slice y.al y.labels.length y.cl, .slice y.ap y.ports.length y.cp, .string y.cls, .slice y.ai y.lis.length y.ci, .slice y.aq y.pars.length y.cq, .slice y.ah y.hosts.length y.ch, .slice y.ar y.rules.length y.cr, .slice y.af y.frm.length y.cf, .slice y.ao y.tos.length y.co] ka rfl
  have q2 := (setL_far (show w.heap.size + 1 ≠ w.heap.size by omega) [.int .i64 y.ref.kind, .string y.ref.space, .string y.ref.name, .bool y.good, .slice y.al y.labels.length y.cl, .slice y.ap y.ports.length y.cp, .string y.cls, .slice y.ai y.lis.length y.ci, .slice y.aq y.pars.length y.cq, .slice y.ah y.hosts.length y.ch, .slice y.ar y.rules.length y.cr, .slice y.af y.frm.length y.cf, .slice y.ao y.tos.length y.co] W 0).trans kb
  replace owny := owny.bx ((BX.refl w.heap.size W.heap.size W).setL 0 [.int .i64 y.ref.kind, .string y.ref.space, .string y.ref.name, .bool y.good, .slice y.al y.labels.length y.cl, .slice y.ap y.ports.length y.cp, .string y.cls, .slice y.ai y.lis.length y.ci, .slice y.aq y.pars.length y.cq, .slice y.ah y.hosts.length y.ch, .slice y.ar y.rules.length y.cr, .slice y.af y.frm.length y.cf, .slice y.ao y.tos.length y.co]) ka
  have BZ2 := setL_below (w := w) (B := w.heap.size) (g := w.heap.size) (Nat.le_refl _) [.int .i64 y.ref.kind, .string y.ref.space, .string y.ref.name, .bool y.good, .slice y.al y.labels.length y.cl, .slice y.ap y.ports.length y.cp, .string y.cls, .slice y.ai y.lis.length y.ci, .slice y.aq y.pars.length y.cq, .slice y.ah y.hosts.length y.ch, .slice y.ar y.rules.length y.cr, .slice y.af y.frm.length y.cf, .slice y.ao y.tos.length y.co] W 0 BZ
  clear ka kb BZ
  generalize setL W w.heap.size 0 [.int .i64 y.ref.kind, .string y.ref.space, .string y.ref.name, .bool y.good, .slice y.al y.labels.length y.cl, .slice y.ap y.ports.length y.cp, .string y.cls, .slice y.ai y.lis.length y.ci, .slice y.aq y.pars.length y.cq, .slice y.ah y.hosts.length y.ch, .slice y.ar y.rules.length y.cr, .slice y.af y.frm.length y.cf, .slice y.ao y.tos.length y.co] = V at *
  refine wpAny_one (i := 7) (by kernel_rfl) ?_
  have lz := liveN q2
  obtain ⟨o0, o1, o2⟩ : _ ∧ _ ∧ _ := ⟨cellN q2 (i := 0) rfl, cellN q2 (i := 1) rfl, cellN q2 (i := 2) rfl⟩
  refine wpOp_step rfl (by rfl) (fun K' hK' => ?_)
  go_simp
  refine hK' _ _ ?_
  clear hK' K' lz o0 o1 o2
  change wpAny _ _ _ _ _ _ _ (setL V (w.heap.size + 1) 0 [.int .i64 rk, .string rs, .string rn])
  have k3 := setL_all [.int .i64 rk, .string rs, .string rn] q2 rfl
  have q3 := (setL_far (show w.heap.size ≠ w.heap.size + 1 by omega) [.int .i64 rk, .string rs, .string rn] V 0).trans k2
  replace owny := owny.bxt ((BX.refl (w.heap.size + 1) V.heap.size V).setL 0 [.int .i64 rk, .string rs, .string rn]) q2 (by decide)
  have BZ3 := setL_below (w := w) (B := w.heap.size) (g := w.heap.size + 1) (Nat.le_succ _) [.int .i64 rk, .string rs, .string rn] V 0 BZ2
  clear k2 q2 BZ2
  generalize setL V (w.heap.size + 1) 0 [.int .i64 rk, .string rs, .string rn] = V2 at *
  refine wpAny_one (i := 8) (by kernel_rfl) ?_
  refine wpOp_step rfl (by rfl) (fun K' hK' => ?_)
  go_simp
  refine hK' _ _ ?_
  clear hK' K'
  refine wpAny_end (by kernel_rfl) ?_
  have aty := owny.at_
  clear owny
  obtain ⟨o0, o1, o2⟩ : _ ∧ _ ∧ _ := ⟨cellN k3 (i := 0) rfl, cellN k3 (i := 1) rfl, cellN k3 (i := 2) rfl⟩
  have hlt3 := lt_blk k3
  obtain ⟨Z, hZ⟩ : ∃ z, z = V2.alloc (.cells #[.int .i64 rk, .string rs, .string nm] 24) := ⟨_, rfl⟩
  have BVZ : Below V2.heap.size V2 Z := by rw [hZ]; exact (Below.refl _ _).alloc (Nat.le_refl _) _
  have KO : Z.heap[V2.heap.size]? = some (.cells #[.int .i64 rk, .string rs, .string nm] 24) := by rw [hZ]; exact alloc_new _ _
  have KX : Z.heap[w.heap.size]? = some (.cells #[.int .i64 y.ref.kind, .string y.ref.space, .string y.ref.name, .bool y.good, .slice y.al y.labels.length y.cl, .slice y.ap y.ports.length y.cp, .string y.cls, .slice y.ai y.lis.length y.ci, .slice y.aq y.pars.length y.cq, .slice y.ah y.hosts.length y.ch, .slice y.ar y.rules.length y.cr, .slice y.af y.frm.length y.cf, .slice y.ao y.tos.length y.co] 36) := blk_below q3 BVZ
  have KR : Z.heap[w.heap.size + 1]? = some (.cells #[.int .i64 rk, .string rs, .string rn] 24) := blk_below k3 BVZ
  have BQ : Below w.heap.size w Z := bb2 BZ3 BVZ
  have ATY := hide (aty.below BVZ)
  have HKO := hide KO
  have HKX := hide KX
  have HKR := hide KR
  have HBQ := hide BQ
  have hf24 : y.frm.length ≤ 9223372036854775807 := aty.frm.len
  have ht24 : y.tos.length ≤ 9223372036854775807 := aty.tos.len
  clear KO KX KR BQ k3 q3 aty BZ3 BVZ
  go_wp2_with fail
  go_loopw [8] (fun i wr => ∃ j : Nat, j ≤ y.frm.length ∧ i = .int .i64 j ∧ Below Z.heap.size Z wr) (fun i _ => y.frm.length - (intOf i).toNat)
  case atStart => exact ⟨0, Nat.zero_le _, rfl, by rw [hZ]; exact Below.refl _ _⟩
  case round =>
    clear hZ o0 o1 o2
    obtain ⟨j, hj, rfl, hB⟩ := hrel
    have kx := blk_below HKX.out hB
    have o11 := cellN kx (i := 11) rfl
    clear kx
    by_cases hlt : j < y.frm.length
    · have hlt' : (j : Int) < (y.frm.length : Int) := by omega
      obtain ⟨_, gf, off, haf, hgf, c0, c1, c2⟩ := oneD ATY.out.frm hB hlt
      rw [haf] at o11
      have hfs := (HY.out.frm _ (List.getElem_mem hlt)).space
      have hcat : ¬ 9223372036854775807 < y.frm[j].space.size + 1 := by omega
      have HK3 : Hid (y.frm.length = 1 → Gr.lets y.b y.frm[j].kind (y.frm[j].space ++ ⟨#[120]⟩) ⟨rk, rs, rn⟩ = false) := fun h => by
        refine Gr.lets_one (o := y.b) (f := y.frm[j]) ?_ (fun e => ?_)
        · show y.frm = _
          obtain ⟨z, hz⟩ := List.length_eq_one_iff.1 h
          have h0 : j = 0 := by omega
          subst h0
          simp [hz]
        · have := congrArg ByteArray.size e
          rw [ByteArray.size_append] at this
          have h1 : (⟨#[120]⟩ : ByteArray).size = 1 := rfl
          omega
      have HI1 := hide (@Gr.lets_all y.b y.frm[j].kind y.frm[j].space ⟨rk, rs, rn⟩ nm)
      have HJ1 := hide (@Gr.lets_named y.b y.frm[j].kind y.frm[j].space ⟨rk, rs, rn⟩ nm)
      clear haf
      generalize y.frm[j] = f at *
      obtain ⟨Y, hY⟩ : ∃ z, z = wr.alloc (.cells #[.int .i64 f.kind, .string f.space, .string f.name] 53) := ⟨_, rfl⟩
      have BY : Below wr.heap.size wr Y := by rw [hY]; exact (Below.refl _ _).alloc (Nat.le_refl _) _
      have KF := hide (show Y.heap[wr.heap.size]? = some (.cells #[.int .i64 f.kind, .string f.space, .string f.name] 53) by rw [hY]; exact alloc_new _ _)
      have HBY := hide (bb2 hB BY)
      have hwY := lt_blk KF.out
      have CL1 : ∀ q : GB Y, Hid (Calls Tryz.prog 15 #[.agg #[.int .i64 y.ref.kind, .string y.ref.space, .string y.ref.name, .bool y.good, .slice y.al y.labels.length y.cl, .slice y.ap y.ports.length y.cp, .string y.cls, .slice y.ai y.lis.length y.ci, .slice y.aq y.pars.length y.cq, .slice y.ah y.hosts.length y.ch, .slice y.ar y.rules.length y.cr, .slice y.af y.frm.length y.cf, .slice y.ao y.tos.length y.co], .int .i64 f.kind, .string f.space, .agg #[.int .i64 rk, .string rs, .string rn]] q.W fun e w' => e = .returned (.bool (Gr.lets y.b f.kind f.space ⟨rk, rs, rn⟩)) ∧ Below q.W.heap.size q.W w') := fun q => hide (lets_any y f.kind f.space ⟨rk, rs, rn⟩ q.W (ATY.out.below (bb2 HBY.out q.h)) HY.out)
      have CL2 : ∀ q : GB Y, Hid (Calls Tryz.prog 15 #[.agg #[.int .i64 y.ref.kind, .string y.ref.space, .string y.ref.name, .bool y.good, .slice y.al y.labels.length y.cl, .slice y.ap y.ports.length y.cp, .string y.cls, .slice y.ai y.lis.length y.ci, .slice y.aq y.pars.length y.cq, .slice y.ah y.hosts.length y.ch, .slice y.ar y.rules.length y.cr, .slice y.af y.frm.length y.cf, .slice y.ao y.tos.length y.co], .int .i64 f.kind, .string f.space, .agg #[.int .i64 rk, .string rs, .string nm]] q.W fun e w' => e = .returned (.bool (Gr.lets y.b f.kind f.space ⟨rk, rs, nm⟩)) ∧ Below q.W.heap.size q.W w') := fun q => hide (lets_any y f.kind f.space ⟨rk, rs, nm⟩ q.W (ATY.out.below (bb2 HBY.out q.h)) HY.out)
      have HI : Hid (Gr.lets y.b f.kind f.space ⟨rk, rs, rn⟩ = true → y.tos.any (fun s => decide (s.kind = rk) && Ob.e0 s.name) = true → Gr.lets y.b f.kind f.space ⟨rk, rs, nm⟩ = true) := fun a b => HI1.out a b
      have HJ : Hid (Gr.lets y.b f.kind f.space ⟨rk, rs, nm⟩ = true → y.tos.any (fun s => decide (s.kind = rk) && Ob.e0 s.name) = true ∨ y.tos.any (fun s => decide (s.kind = rk) && decide (s.name = nm)) = true) := fun a => HJ1.out a
      clear HI1 HJ1
      generalize Gr.lets y.b f.kind f.space ⟨rk, rs, rn⟩ = y1 at *
      generalize Gr.lets y.b f.kind f.space ⟨rk, rs, nm⟩ = y2 at *
      have kxq := fun q : GB Y => blk_below HKX.out (bb2 HBY.out q.h)
      obtain ⟨a0, a1, a2, a3, a4, a5, a6, a7, a8, a9, a10, a11, a12⟩ : _ ∧ _ ∧ _ ∧ _ ∧ _ ∧ _ ∧ _ ∧ _ ∧ _ ∧ _ ∧ _ ∧ _ ∧ _ := ⟨fun q : GB Y => cellN (kxq q) (i := 0) rfl, fun q : GB Y => cellN (kxq q) (i := 1) rfl, fun q : GB Y => cellN (kxq q) (i := 2) rfl, fun q : GB Y => cellN (kxq q) (i := 3) rfl, fun q : GB Y => cellN (kxq q) (i := 4) rfl, fun q : GB Y => cellN (kxq q) (i := 5) rfl, fun q : GB Y => cellN (kxq q) (i := 6) rfl, fun q : GB Y => cellN (kxq q) (i := 7) rfl, fun q : GB Y => cellN (kxq q) (i := 8) rfl, fun q : GB Y => cellN (kxq q) (i := 9) rfl, fun q : GB Y => cellN (kxq q) (i := 10) rfl, fun q : GB Y => cellN (kxq q) (i := 11) rfl, fun q : GB Y => cellN (kxq q) (i := 12) rfl⟩
      have krq := fun q : GB Y => blk_below HKR.out (bb2 HBY.out q.h)
      obtain ⟨b0, b1, b2⟩ : _ ∧ _ ∧ _ := ⟨fun q : GB Y => cellN (krq q) (i := 0) rfl, fun q : GB Y => cellN (krq q) (i := 1) rfl, fun q : GB Y => cellN (krq q) (i := 2) rfl⟩
      have koq := fun q : GB Y => blk_below HKO.out (bb2 HBY.out q.h)
      obtain ⟨d0, d1, d2⟩ : _ ∧ _ ∧ _ := ⟨fun q : GB Y => cellN (koq q) (i := 0) rfl, fun q : GB Y => cellN (koq q) (i := 1) rfl, fun q : GB Y => cellN (koq q) (i := 2) rfl⟩
      have kfq := fun q : GB Y => blk_below KF.out q.h
      obtain ⟨f0, f1, f2⟩ : _ ∧ _ ∧ _ := ⟨fun q : GB Y => cellN (kfq q) (i := 0) rfl, fun q : GB Y => cellN (kfq q) (i := 1) rfl, fun q : GB Y => cellN (kfq q) (i := 2) rfl⟩
      clear kxq krq koq kfq
      go_wp2_with fail
      rw [← hY]
      clear hY c0 c1 c2 o11
      refine wp_region_below (by kernel_rfl) (by kernel_rfl) ?_
      repeat (first | go_big_quiet_step ((go_at_call 15; first | with_reducible exact calls_gb (CL1 _).out | with_reducible exact calls_gb (CL2 _).out)) | quiet_step ((go_at_call 15; first | with_reducible exact calls_gb (CL1 _).out | with_reducible exact calls_gb (CL2 _).out)))
      refine wpQuiet_nil ?_
      intro _ hw'
      obtain ⟨qq, hw2⟩ := hw'
      subst hw2
      have hqq := qq.h
      go_wp2_with fail
      have BW := hide (bb2 HBY.out hqq)
      have HYX := hide (fun W (h : Below qq.W.heap.size qq.W W) => blk_below HKX.out (bb2 BW.out h))
      have HYR := hide (fun W (h : Below qq.W.heap.size qq.W W) => blk_below HKR.out (bb2 BW.out h))
      have HYF := hide (fun W (h : Below qq.W.heap.size qq.W W) => blk_below KF.out (bb2 hqq h))
      clear a0 a1 a2 a3 a4 a5 a6 a7 a8 a9 a10 a11 a12 b0 b1 b2 d0 d1 d2 f0 f1 f2 CL1 CL2
      go_loopw [12, 13, 14] (fun va vn t wr => ∃ k : Nat, k ≤ y.tos.length ∧ t = .int .i64 k ∧ va = .bool ((y.tos.take k).any (fun s => decide (s.kind = rk) && Ob.e0 s.name)) ∧ vn = .bool ((y.tos.take k).any (fun s => decide (s.kind = rk) && decide (s.name = nm))) ∧ Below qq.W.heap.size qq.W wr) (fun _ _ t _ => y.tos.length - (intOf t).toNat)
      case atStart => exact ⟨0, Nat.zero_le _, rfl, rfl, rfl, Below.refl _ _⟩
      case round =>
        obtain ⟨k, hk, rfl, rfl, rfl, hB2⟩ := hrel
        by_cases hlt2 : k < y.tos.length
        · have hlt2' : (k : Int) < (y.tos.length : Int) := by omega
          obtain ⟨_, gt, oft, hat, hgt, c0, c1, c2⟩ := oneD ATY.out.tos (bb2 BW.out hB2) hlt2
          have HYT := hide (fun W (h : Below qq.W.heap.size qq.W W) => show W.cell? ⟨w.heap.size, 12, none⟩ = some (.slice (some ⟨gt, oft, none⟩) y.tos.length y.co) from by rw [← hat]; exact cellN (HYX.out W h) (i := 12) rfl)
          have HTE := hide (fun W (h : Below qq.W.heap.size qq.W W) => show W.cell? ⟨gt, oft + k * 3, none⟩ = some (.int .i64 y.tos[k].kind) ∧ W.cell? ⟨gt, oft + k * 3 + 1, none⟩ = some (.string y.tos[k].space) ∧ W.cell? ⟨gt, oft + k * 3 + 2, none⟩ = some (.string y.tos[k].name) from by
            obtain ⟨_, g2, o2, h3, _, h4, h5, h6⟩ := oneD ATY.out.tos (bb2 BW.out h) hlt2
            rw [hat] at h3
            injection h3 with h3
            injection h3 with e1 e2
            subst e1 e2
            exact ⟨h4, h5, h6⟩)
          have o12 := HYT.out _ hB2
          have HA : Hid ((y.tos.take (k + 1)).any (fun s => decide (s.kind = rk) && Ob.e0 s.name) = ((y.tos.take k).any (fun s => decide (s.kind = rk) && Ob.e0 s.name) || ((y.tos[k].kind == rk) && y.tos[k].name.toList.isEmpty))) := by
            unfold Hid
            rw [List.take_succ_eq_append_getElem hlt2, List.any_append]
            simp only [List.any_cons, List.any_nil, Bool.or_false, e0_emp]
            rfl
          have HN : Hid ((y.tos.take (k + 1)).any (fun s => decide (s.kind = rk) && decide (s.name = nm)) = ((y.tos.take k).any (fun s => decide (s.kind = rk) && decide (s.name = nm)) || ((y.tos[k].kind == rk) && (y.tos[k].name.toList == nm.toList)))) := by
            have e : decide (y.tos[k].name = nm) = (y.tos[k].name.toList == nm.toList) := by rw [Bool.eq_iff_iff, decide_eq_true_eq, beq_iff_eq, tl_iff]
            unfold Hid
            rw [List.take_succ_eq_append_getElem hlt2, List.any_append]
            simp only [List.any_cons, List.any_nil, Bool.or_false]
            rw [e]
            rfl
          clear c0 c1 c2 hat
          generalize (y.tos.take k).any (fun s => decide (s.kind = rk) && Ob.e0 s.name) = av at *
          generalize (y.tos.take k).any (fun s => decide (s.kind = rk) && decide (s.name = nm)) = nv at *
          generalize y.tos[k] = s at *
          obtain ⟨sk, ss, sn⟩ := s
          dsimp only at HA HN HTE
          have qx := fun q : GB wr => HYT.out _ (bb2 hB2 q.h)
          have qt := fun q : GB wr => cellN (HYR.out _ (bb2 hB2 q.h)) (i := 0) rfl
          have qa := fun q : GB wr => (HTE.out _ (bb2 hB2 q.h)).1
          have qb := fun q : GB wr => (HTE.out _ (bb2 hB2 q.h)).2.1
          have qc := fun q : GB wr => (HTE.out _ (bb2 hB2 q.h)).2.2
          cases hk : (sk == rk)
          · rw [hk] at HA HN
            cases av
            · cases nv
              · go_wp2_with fail
                refine wp_region_below (by kernel_rfl) (by kernel_rfl) ?_
                repeat (first | go_big_quiet_step (fail) | quiet_step (fail))
                refine wpQuiet_nil ?_
                intro _ hw'
                obtain ⟨za, hw2⟩ := hw'
                subst hw2
                have hza := za.h
                go_wp2_with fail
                have hBa := bb2 hB2 hza
                have rx := fun q : GB za.W => HYT.out _ (bb2 hBa q.h)
                have rt := fun q : GB za.W => cellN (HYR.out _ (bb2 hBa q.h)) (i := 0) rfl
                have ra := fun q : GB za.W => (HTE.out _ (bb2 hBa q.h)).1
                have rb := fun q : GB za.W => (HTE.out _ (bb2 hBa q.h)).2.1
                have rc := fun q : GB za.W => (HTE.out _ (bb2 hBa q.h)).2.2
                clear qx qt qa qb qc
                refine wp_region_below (by kernel_rfl) (by kernel_rfl) ?_
                repeat (first | go_big_quiet_step (fail) | quiet_step (fail))
                refine wpQuiet_nil ?_
                intro _ hw'
                obtain ⟨zb, hw2⟩ := hw'
                subst hw2
                have hzb := zb.h
                go_wp2_with fail
                exact ⟨⟨k + 1, by omega, by go_num, by rw [HA.out]; rfl, by rw [HN.out]; rfl, bb2 hB2 (bb2 hza hzb)⟩, by simp [intOf]; omega⟩
              · go_wp2_with fail
                refine wp_region_below (by kernel_rfl) (by kernel_rfl) ?_
                repeat (first | go_big_quiet_step (fail) | quiet_step (fail))
                refine wpQuiet_nil ?_
                intro _ hw'
                obtain ⟨za, hw2⟩ := hw'
                subst hw2
                have hza := za.h
                go_wp2_with fail
                have hBa := bb2 hB2 hza
                have rx := fun q : GB za.W => HYT.out _ (bb2 hBa q.h)
                have rt := fun q : GB za.W => cellN (HYR.out _ (bb2 hBa q.h)) (i := 0) rfl
                have ra := fun q : GB za.W => (HTE.out _ (bb2 hBa q.h)).1
                have rb := fun q : GB za.W => (HTE.out _ (bb2 hBa q.h)).2.1
                have rc := fun q : GB za.W => (HTE.out _ (bb2 hBa q.h)).2.2
                clear qx qt qa qb qc
                refine wp_region_below (by kernel_rfl) (by kernel_rfl) ?_
                repeat (first | go_big_quiet_step (fail) | quiet_step (fail))
                refine wpQuiet_nil ?_
                intro _ hw'
                obtain ⟨zb, hw2⟩ := hw'
                subst hw2
                have hzb := zb.h
                go_wp2_with fail
                exact ⟨⟨k + 1, by omega, by go_num, by rw [HA.out]; rfl, by rw [HN.out]; rfl, bb2 hB2 (bb2 hza hzb)⟩, by simp [intOf]; omega⟩
            · cases nv
              · go_wp2_with fail
                refine wp_region_below (by kernel_rfl) (by kernel_rfl) ?_
                repeat (first | go_big_quiet_step (fail) | quiet_step (fail))
                refine wpQuiet_nil ?_
                intro _ hw'
                obtain ⟨za, hw2⟩ := hw'
                subst hw2
                have hza := za.h
                go_wp2_with fail
                have hBa := bb2 hB2 hza
                have rx := fun q : GB za.W => HYT.out _ (bb2 hBa q.h)
                have rt := fun q : GB za.W => cellN (HYR.out _ (bb2 hBa q.h)) (i := 0) rfl
                have ra := fun q : GB za.W => (HTE.out _ (bb2 hBa q.h)).1
                have rb := fun q : GB za.W => (HTE.out _ (bb2 hBa q.h)).2.1
                have rc := fun q : GB za.W => (HTE.out _ (bb2 hBa q.h)).2.2
                clear qx qt qa qb qc
                refine wp_region_below (by kernel_rfl) (by kernel_rfl) ?_
                repeat (first | go_big_quiet_step (fail) | quiet_step (fail))
                refine wpQuiet_nil ?_
                intro _ hw'
                obtain ⟨zb, hw2⟩ := hw'
                subst hw2
                have hzb := zb.h
                go_wp2_with fail
                exact ⟨⟨k + 1, by omega, by go_num, by rw [HA.out]; rfl, by rw [HN.out]; rfl, bb2 hB2 (bb2 hza hzb)⟩, by simp [intOf]; omega⟩
              · go_wp2_with fail
                refine wp_region_below (by kernel_rfl) (by kernel_rfl) ?_
                repeat (first | go_big_quiet_step (fail) | quiet_step (fail))
                refine wpQuiet_nil ?_
                intro _ hw'
                obtain ⟨za, hw2⟩ := hw'
                subst hw2
                have hza := za.h
                go_wp2_with fail
                have hBa := bb2 hB2 hza
                have rx := fun q : GB za.W => HYT.out _ (bb2 hBa q.h)
                have rt := fun q : GB za.W => cellN (HYR.out _ (bb2 hBa q.h)) (i := 0) rfl
                have ra := fun q : GB za.W => (HTE.out _ (bb2 hBa q.h)).1
                have rb := fun q : GB za.W => (HTE.out _ (bb2 hBa q.h)).2.1
                have rc := fun q : GB za.W => (HTE.out _ (bb2 hBa q.h)).2.2
                clear qx qt qa qb qc
                refine wp_region_below (by kernel_rfl) (by kernel_rfl) ?_
                repeat (first | go_big_quiet_step (fail) | quiet_step (fail))
                refine wpQuiet_nil ?_
                intro _ hw'
                obtain ⟨zb, hw2⟩ := hw'
                subst hw2
                have hzb := zb.h
                go_wp2_with fail
                exact ⟨⟨k + 1, by omega, by go_num, by rw [HA.out]; rfl, by rw [HN.out]; rfl, bb2 hB2 (bb2 hza hzb)⟩, by simp [intOf]; omega⟩
          · rw [hk] at HA HN
            cases av
            · cases he : sn.toList.isEmpty
              · rw [he] at HA
                cases nv
                · cases hn : (sn.toList == nm.toList)
                  · rw [hn] at HN
                    go_wp2_with fail
                    refine wp_region_below (by kernel_rfl) (by kernel_rfl) ?_
                    repeat (first | go_big_quiet_step (fail) | quiet_step (fail))
                    refine wpQuiet_nil ?_
                    intro _ hw'
                    obtain ⟨za, hw2⟩ := hw'
                    subst hw2
                    have hza := za.h
                    go_wp2_with fail
                    have hBa := bb2 hB2 hza
                    have rx := fun q : GB za.W => HYT.out _ (bb2 hBa q.h)
                    have rt := fun q : GB za.W => cellN (HYR.out _ (bb2 hBa q.h)) (i := 0) rfl
                    have ra := fun q : GB za.W => (HTE.out _ (bb2 hBa q.h)).1
                    have rb := fun q : GB za.W => (HTE.out _ (bb2 hBa q.h)).2.1
                    have rc := fun q : GB za.W => (HTE.out _ (bb2 hBa q.h)).2.2
                    clear qx qt qa qb qc
                    refine wp_region_below (by kernel_rfl) (by kernel_rfl) ?_
                    repeat (first | go_big_quiet_step (fail) | quiet_step (fail))
                    refine wpQuiet_nil ?_
                    intro _ hw'
                    obtain ⟨zb, hw2⟩ := hw'
                    subst hw2
                    have hzb := zb.h
                    go_wp2_with fail
                    exact ⟨⟨k + 1, by omega, by go_num, by rw [HA.out]; rfl, by rw [HN.out]; rfl, bb2 hB2 (bb2 hza hzb)⟩, by simp [intOf]; omega⟩
                  · rw [hn] at HN
                    go_wp2_with fail
                    refine wp_region_below (by kernel_rfl) (by kernel_rfl) ?_
                    repeat (first | go_big_quiet_step (fail) | quiet_step (fail))
                    refine wpQuiet_nil ?_
                    intro _ hw'
                    obtain ⟨za, hw2⟩ := hw'
                    subst hw2
                    have hza := za.h
                    go_wp2_with fail
                    have hBa := bb2 hB2 hza
                    have rx := fun q : GB za.W => HYT.out _ (bb2 hBa q.h)
                    have rt := fun q : GB za.W => cellN (HYR.out _ (bb2 hBa q.h)) (i := 0) rfl
                    have ra := fun q : GB za.W => (HTE.out _ (bb2 hBa q.h)).1
                    have rb := fun q : GB za.W => (HTE.out _ (bb2 hBa q.h)).2.1
                    have rc := fun q : GB za.W => (HTE.out _ (bb2 hBa q.h)).2.2
                    clear qx qt qa qb qc
                    refine wp_region_below (by kernel_rfl) (by kernel_rfl) ?_
                    repeat (first | go_big_quiet_step (fail) | quiet_step (fail))
                    refine wpQuiet_nil ?_
                    intro _ hw'
                    obtain ⟨zb, hw2⟩ := hw'
                    subst hw2
                    have hzb := zb.h
                    go_wp2_with fail
                    exact ⟨⟨k + 1, by omega, by go_num, by rw [HA.out]; rfl, by rw [HN.out]; rfl, bb2 hB2 (bb2 hza hzb)⟩, by simp [intOf]; omega⟩
                · go_wp2_with fail
                  refine wp_region_below (by kernel_rfl) (by kernel_rfl) ?_
                  repeat (first | go_big_quiet_step (fail) | quiet_step (fail))
                  refine wpQuiet_nil ?_
                  intro _ hw'
                  obtain ⟨za, hw2⟩ := hw'
                  subst hw2
                  have hza := za.h
                  go_wp2_with fail
                  have hBa := bb2 hB2 hza
                  have rx := fun q : GB za.W => HYT.out _ (bb2 hBa q.h)
                  have rt := fun q : GB za.W => cellN (HYR.out _ (bb2 hBa q.h)) (i := 0) rfl
                  have ra := fun q : GB za.W => (HTE.out _ (bb2 hBa q.h)).1
                  have rb := fun q : GB za.W => (HTE.out _ (bb2 hBa q.h)).2.1
                  have rc := fun q : GB za.W => (HTE.out _ (bb2 hBa q.h)).2.2
                  clear qx qt qa qb qc
                  refine wp_region_below (by kernel_rfl) (by kernel_rfl) ?_
                  repeat (first | go_big_quiet_step (fail) | quiet_step (fail))
                  refine wpQuiet_nil ?_
                  intro _ hw'
                  obtain ⟨zb, hw2⟩ := hw'
                  subst hw2
                  have hzb := zb.h
                  go_wp2_with fail
                  exact ⟨⟨k + 1, by omega, by go_num, by rw [HA.out]; rfl, by rw [HN.out]; rfl, bb2 hB2 (bb2 hza hzb)⟩, by simp [intOf]; omega⟩
              · rw [he] at HA
                cases nv
                · cases hn : (sn.toList == nm.toList)
                  · rw [hn] at HN
                    go_wp2_with fail
                    refine wp_region_below (by kernel_rfl) (by kernel_rfl) ?_
                    repeat (first | go_big_quiet_step (fail) | quiet_step (fail))
                    refine wpQuiet_nil ?_
                    intro _ hw'
                    obtain ⟨za, hw2⟩ := hw'
                    subst hw2
                    have hza := za.h
                    go_wp2_with fail
                    have hBa := bb2 hB2 hza
                    have rx := fun q : GB za.W => HYT.out _ (bb2 hBa q.h)
                    have rt := fun q : GB za.W => cellN (HYR.out _ (bb2 hBa q.h)) (i := 0) rfl
                    have ra := fun q : GB za.W => (HTE.out _ (bb2 hBa q.h)).1
                    have rb := fun q : GB za.W => (HTE.out _ (bb2 hBa q.h)).2.1
                    have rc := fun q : GB za.W => (HTE.out _ (bb2 hBa q.h)).2.2
                    clear qx qt qa qb qc
                    refine wp_region_below (by kernel_rfl) (by kernel_rfl) ?_
                    repeat (first | go_big_quiet_step (fail) | quiet_step (fail))
                    refine wpQuiet_nil ?_
                    intro _ hw'
                    obtain ⟨zb, hw2⟩ := hw'
                    subst hw2
                    have hzb := zb.h
                    go_wp2_with fail
                    exact ⟨⟨k + 1, by omega, by go_num, by rw [HA.out]; rfl, by rw [HN.out]; rfl, bb2 hB2 (bb2 hza hzb)⟩, by simp [intOf]; omega⟩
                  · rw [hn] at HN
                    go_wp2_with fail
                    refine wp_region_below (by kernel_rfl) (by kernel_rfl) ?_
                    repeat (first | go_big_quiet_step (fail) | quiet_step (fail))
                    refine wpQuiet_nil ?_
                    intro _ hw'
                    obtain ⟨za, hw2⟩ := hw'
                    subst hw2
                    have hza := za.h
                    go_wp2_with fail
                    have hBa := bb2 hB2 hza
                    have rx := fun q : GB za.W => HYT.out _ (bb2 hBa q.h)
                    have rt := fun q : GB za.W => cellN (HYR.out _ (bb2 hBa q.h)) (i := 0) rfl
                    have ra := fun q : GB za.W => (HTE.out _ (bb2 hBa q.h)).1
                    have rb := fun q : GB za.W => (HTE.out _ (bb2 hBa q.h)).2.1
                    have rc := fun q : GB za.W => (HTE.out _ (bb2 hBa q.h)).2.2
                    clear qx qt qa qb qc
                    refine wp_region_below (by kernel_rfl) (by kernel_rfl) ?_
                    repeat (first | go_big_quiet_step (fail) | quiet_step (fail))
                    refine wpQuiet_nil ?_
                    intro _ hw'
                    obtain ⟨zb, hw2⟩ := hw'
                    subst hw2
                    have hzb := zb.h
                    go_wp2_with fail
                    exact ⟨⟨k + 1, by omega, by go_num, by rw [HA.out]; rfl, by rw [HN.out]; rfl, bb2 hB2 (bb2 hza hzb)⟩, by simp [intOf]; omega⟩
                · go_wp2_with fail
                  refine wp_region_below (by kernel_rfl) (by kernel_rfl) ?_
                  repeat (first | go_big_quiet_step (fail) | quiet_step (fail))
                  refine wpQuiet_nil ?_
                  intro _ hw'
                  obtain ⟨za, hw2⟩ := hw'
                  subst hw2
                  have hza := za.h
                  go_wp2_with fail
                  have hBa := bb2 hB2 hza
                  have rx := fun q : GB za.W => HYT.out _ (bb2 hBa q.h)
                  have rt := fun q : GB za.W => cellN (HYR.out _ (bb2 hBa q.h)) (i := 0) rfl
                  have ra := fun q : GB za.W => (HTE.out _ (bb2 hBa q.h)).1
                  have rb := fun q : GB za.W => (HTE.out _ (bb2 hBa q.h)).2.1
                  have rc := fun q : GB za.W => (HTE.out _ (bb2 hBa q.h)).2.2
                  clear qx qt qa qb qc
                  refine wp_region_below (by kernel_rfl) (by kernel_rfl) ?_
                  repeat (first | go_big_quiet_step (fail) | quiet_step (fail))
                  refine wpQuiet_nil ?_
                  intro _ hw'
                  obtain ⟨zb, hw2⟩ := hw'
                  subst hw2
                  have hzb := zb.h
                  go_wp2_with fail
                  exact ⟨⟨k + 1, by omega, by go_num, by rw [HA.out]; rfl, by rw [HN.out]; rfl, bb2 hB2 (bb2 hza hzb)⟩, by simp [intOf]; omega⟩
            · cases nv
              · cases hn : (sn.toList == nm.toList)
                · rw [hn] at HN
                  go_wp2_with fail
                  refine wp_region_below (by kernel_rfl) (by kernel_rfl) ?_
                  repeat (first | go_big_quiet_step (fail) | quiet_step (fail))
                  refine wpQuiet_nil ?_
                  intro _ hw'
                  obtain ⟨za, hw2⟩ := hw'
                  subst hw2
                  have hza := za.h
                  go_wp2_with fail
                  have hBa := bb2 hB2 hza
                  have rx := fun q : GB za.W => HYT.out _ (bb2 hBa q.h)
                  have rt := fun q : GB za.W => cellN (HYR.out _ (bb2 hBa q.h)) (i := 0) rfl
                  have ra := fun q : GB za.W => (HTE.out _ (bb2 hBa q.h)).1
                  have rb := fun q : GB za.W => (HTE.out _ (bb2 hBa q.h)).2.1
                  have rc := fun q : GB za.W => (HTE.out _ (bb2 hBa q.h)).2.2
                  clear qx qt qa qb qc
                  refine wp_region_below (by kernel_rfl) (by kernel_rfl) ?_
                  repeat (first | go_big_quiet_step (fail) | quiet_step (fail))
                  refine wpQuiet_nil ?_
                  intro _ hw'
                  obtain ⟨zb, hw2⟩ := hw'
                  subst hw2
                  have hzb := zb.h
                  go_wp2_with fail
                  exact ⟨⟨k + 1, by omega, by go_num, by rw [HA.out]; rfl, by rw [HN.out]; rfl, bb2 hB2 (bb2 hza hzb)⟩, by simp [intOf]; omega⟩
                · rw [hn] at HN
                  go_wp2_with fail
                  refine wp_region_below (by kernel_rfl) (by kernel_rfl) ?_
                  repeat (first | go_big_quiet_step (fail) | quiet_step (fail))
                  refine wpQuiet_nil ?_
                  intro _ hw'
                  obtain ⟨za, hw2⟩ := hw'
                  subst hw2
                  have hza := za.h
                  go_wp2_with fail
                  have hBa := bb2 hB2 hza
                  have rx := fun q : GB za.W => HYT.out _ (bb2 hBa q.h)
                  have rt := fun q : GB za.W => cellN (HYR.out _ (bb2 hBa q.h)) (i := 0) rfl
                  have ra := fun q : GB za.W => (HTE.out _ (bb2 hBa q.h)).1
                  have rb := fun q : GB za.W => (HTE.out _ (bb2 hBa q.h)).2.1
                  have rc := fun q : GB za.W => (HTE.out _ (bb2 hBa q.h)).2.2
                  clear qx qt qa qb qc
                  refine wp_region_below (by kernel_rfl) (by kernel_rfl) ?_
                  repeat (first | go_big_quiet_step (fail) | quiet_step (fail))
                  refine wpQuiet_nil ?_
                  intro _ hw'
                  obtain ⟨zb, hw2⟩ := hw'
                  subst hw2
                  have hzb := zb.h
                  go_wp2_with fail
                  exact ⟨⟨k + 1, by omega, by go_num, by rw [HA.out]; rfl, by rw [HN.out]; rfl, bb2 hB2 (bb2 hza hzb)⟩, by simp [intOf]; omega⟩
              · go_wp2_with fail
                refine wp_region_below (by kernel_rfl) (by kernel_rfl) ?_
                repeat (first | go_big_quiet_step (fail) | quiet_step (fail))
                refine wpQuiet_nil ?_
                intro _ hw'
                obtain ⟨za, hw2⟩ := hw'
                subst hw2
                have hza := za.h
                go_wp2_with fail
                have hBa := bb2 hB2 hza
                have rx := fun q : GB za.W => HYT.out _ (bb2 hBa q.h)
                have rt := fun q : GB za.W => cellN (HYR.out _ (bb2 hBa q.h)) (i := 0) rfl
                have ra := fun q : GB za.W => (HTE.out _ (bb2 hBa q.h)).1
                have rb := fun q : GB za.W => (HTE.out _ (bb2 hBa q.h)).2.1
                have rc := fun q : GB za.W => (HTE.out _ (bb2 hBa q.h)).2.2
                clear qx qt qa qb qc
                refine wp_region_below (by kernel_rfl) (by kernel_rfl) ?_
                repeat (first | go_big_quiet_step (fail) | quiet_step (fail))
                refine wpQuiet_nil ?_
                intro _ hw'
                obtain ⟨zb, hw2⟩ := hw'
                subst hw2
                have hzb := zb.h
                go_wp2_with fail
                exact ⟨⟨k + 1, by omega, by go_num, by rw [HA.out]; rfl, by rw [HN.out]; rfl, bb2 hB2 (bb2 hza hzb)⟩, by simp [intOf]; omega⟩
        · have hlt2' : ¬ (k : Int) < (y.tos.length : Int) := by omega
          have hk2 : k = y.tos.length := by omega
          have e : y.tos.take k = y.tos := by rw [hk2, List.take_length]
          rw [e]
          clear e
          generalize y.tos.any (fun s => decide (s.kind = rk) && Ob.e0 s.name) = A at *
          generalize y.tos.any (fun s => decide (s.kind = rk) && decide (s.name = nm)) = Nn at *
          have kx := HYX.out _ hB2
          obtain ⟨o0, o1, o2, o3, o4, o5, o6, o7, o8, o9, o10, o11, o12⟩ : _ ∧ _ ∧ _ ∧ _ ∧ _ ∧ _ ∧ _ ∧ _ ∧ _ ∧ _ ∧ _ ∧ _ ∧ _ := ⟨cellN kx (i := 0) rfl, cellN kx (i := 1) rfl, cellN kx (i := 2) rfl, cellN kx (i := 3) rfl, cellN kx (i := 4) rfl, cellN kx (i := 5) rfl, cellN kx (i := 6) rfl, cellN kx (i := 7) rfl, cellN kx (i := 8) rfl, cellN kx (i := 9) rfl, cellN kx (i := 10) rfl, cellN kx (i := 11) rfl, cellN kx (i := 12) rfl⟩
          have kr := HYR.out _ hB2
          obtain ⟨p0, p1, p2⟩ : _ ∧ _ ∧ _ := ⟨cellN kr (i := 0) rfl, cellN kr (i := 1) rfl, cellN kr (i := 2) rfl⟩
          have kf := HYF.out _ hB2
          obtain ⟨f0, f1, f2⟩ : _ ∧ _ ∧ _ := ⟨cellN kf (i := 0) rfl, cellN kf (i := 1) rfl, cellN kf (i := 2) rfl⟩
          have hj3 : (k : Int) = (y.tos.length : Int) := by omega
          have CL3 := hide (lets_any y f.kind (f.space ++ ⟨#[120]⟩) ⟨rk, rs, rn⟩ wr (ATY.out.below (bb2 BW.out hB2)) HY.out)
          have HL1 : Hid (Gr.lets y.b f.kind (f.space ++ ⟨#[120]⟩) ⟨rk, rs, rn⟩ = true → ((y.frm.length : Int) == 1) = false) := fun h => by
            rw [beq_eq_false_iff_ne]
            intro e
            rw [HK3.out (by omega)] at h
            cases h
          have HX9 := hide (fun W (h : Below wr.heap.size wr W) => cellN (blk_below kx h) (i := 11) rfl)
          clear kx kr kf HK3
          generalize Gr.lets y.b f.kind (f.space ++ ⟨#[120]⟩) ⟨rk, rs, rn⟩ = y3 at *
          cases y1 <;> cases y2 <;> cases A <;> cases Nn
          all_goals
            first
            | exact absurd (HI.out rfl rfl) (by decide)
            | exact absurd (HJ.out rfl) (by decide)
            | (go_wp2_with fail
               refine CL3.out.mono ?_
               rintro e w9 ⟨rfl, hb9⟩
               have x9 := HX9.out _ hb9
               cases y3
               · go_wp2_with fail
                 exact ⟨⟨j + 1, by omega, by go_num, bb2 (bb2 BW.out hB2) hb9⟩, by simp [intOf]; omega⟩
               · have hl1 := HL1.out rfl
                 go_wp2_with fail
                 exact ⟨⟨j + 1, by omega, by go_num, bb2 (bb2 BW.out hB2) hb9⟩, by simp [intOf]; omega⟩)
    · have hlt' : ¬ (j : Int) < (y.frm.length : Int) := by omega
      go_wp2_with fail
      refine (gawake_any _).mono ?_
      rintro e w9 ⟨rfl, hb9⟩
      go_wp2_with fail
      go_ret
      exact ⟨rfl, bb2 HBQ.out (bb2 hB hb9)⟩

end Go.Proofs.YthnodpdiocppgaaGreatDoor
