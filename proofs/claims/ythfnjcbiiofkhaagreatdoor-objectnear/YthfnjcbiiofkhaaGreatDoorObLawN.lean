/-
  The law ObjectNear.
-/
import Derived.Test.YthfnjcbiiofkhaaGreatDoorJ27
import Derived.Test.YthfnjcbiiofkhaaGreatDoorJ18
import Derived.Test.YthfnjcbiiofkhaaGreatDoorJ16
import Derived.Test.YthfnjcbiiofkhaaGreatDoorJ2
namespace Go.Proofs.YthfnjcbiiofkhaaGreatDoor
set_option maxRecDepth 20000
open Go Go.RowKit Go.Shelf Go.Deep

theorem lt_cell {W : World} {p : Addr} {v : Value} (h : W.cell? p = some v) : p.block < W.heap.size := by
  rcases Nat.lt_or_ge p.block W.heap.size with h1 | h1
  · exact h1
  · exfalso
    simp only [World.cell?, Array.getElem?_eq_none h1] at h
    cases h
theorem rlTo_mem (y : OV) (i k : Nat) (r : RlV) : ({ r with bs := bkTo y.ref.space r k } : RlV) ∈ rlTo y i k r := by
  unfold rlTo
  exact List.mem_append_right _ (List.mem_cons_self ..)
theorem okO_fill {y : OV} (h : OkO y) : OkO { { y with pars := y.pars.map (Ob.fillP y.ref.space) } with rules := y.rules.map (fillV y.ref.space) } := by
  refine ⟨h.ref, h.labels, h.cls, h.lis, fun p hp => ?_, h.hosts, fun r hr => ?_, h.frm, h.tos⟩
  · obtain ⟨p0, hp0, rfl⟩ := List.mem_map.1 hp
    have := h.pars p0 hp0
    unfold Ob.fillP
    split
    · exact ⟨h.ref.space, this.name, this.sect⟩
    · exact this
  · obtain ⟨r0, hr0, rfl⟩ := List.mem_map.1 hr
    have := h.rules r0 hr0
    refine ⟨this.ms, this.fs, this.fl, fun b hb => ?_⟩
    obtain ⟨b0, hb0, rfl⟩ := List.mem_map.1 hb
    have hk := this.bs b0 hb0
    unfold Ob.fillB
    split
    · exact ⟨h.ref.space, hk.name⟩
    · exact hk

set_option linter.unusedSimpArgs false in
set_option linter.unusedVariables false in
set_option maxHeartbeats 12800000 in
theorem near_yes (x : OV) (w : World) (hx : x.at_ w) (raw : RawO x) (hk0 : (fewO x.b).ref.kind = 6) (hm0 : Ob.mayO (fewO x.b) = true) :
    Calls Tryz.prog 5 #[oV x] w fun e w' => e = .returned (.bool true) ∧ Below w.heap.size w w' := by
  have HK0 := hide hk0
  have HM0 := hide hm0
  clear hk0 hm0
  have CF := fun W (h : Below w.heap.size w W) => hide (fewO_apart x W (hx.below h) raw)
  have B1 : Below w.heap.size w (w.alloc (.cells #[.int .i64 x.ref.kind, .string x.ref.space, .string x.ref.name, .bool x.good, .slice x.al x.labels.length x.cl, .slice x.ap x.ports.length x.cp, .string x.cls, .slice x.ai x.lis.length x.ci, .slice x.aq x.pars.length x.cq, .slice x.ah x.hosts.length x.ch, .slice x.ar x.rules.length x.cr, .slice x.af x.frm.length x.cf, .slice x.ao x.tos.length x.co] 32)) := (Below.refl _ _).alloc (Nat.le_refl _) _
  clear hx raw
  go_enter Tryz.func5, Tryz.ntmps5
  go_wp2_with fail
  refine (CF _ B1).out.mono ?_
  rintro e w1 ⟨y, rfl, hy, hown, hb1, hap, hqn⟩
  have hz : w1.heap[w.heap.size]? = some (.cells #[.int .i64 x.ref.kind, .string x.ref.space, .string x.ref.name, .bool x.good, .slice x.al x.labels.length x.cl, .slice x.ap x.ports.length x.cp, .string x.cls, .slice x.ai x.lis.length x.ci, .slice x.aq x.pars.length x.cq, .slice x.ah x.hosts.length x.ch, .slice x.ar x.rules.length x.cr, .slice x.af x.frm.length x.cf, .slice x.ao x.tos.length x.co] 32) := box_block hb1
  have BB := bb2 B1 hb1
  have lz := liveN hz
  obtain ⟨z0, z1, z2, z3, z4, z5, z6, z7, z8, z9, z10, z11, z12⟩ : _ ∧ _ ∧ _ ∧ _ ∧ _ ∧ _ ∧ _ ∧ _ ∧ _ ∧ _ ∧ _ ∧ _ ∧ _ := ⟨cellN hz (i := 0) rfl, cellN hz (i := 1) rfl, cellN hz (i := 2) rfl, cellN hz (i := 3) rfl, cellN hz (i := 4) rfl, cellN hz (i := 5) rfl, cellN hz (i := 6) rfl, cellN hz (i := 7) rfl, cellN hz (i := 8) rfl, cellN hz (i := 9) rfl, cellN hz (i := 10) rfl, cellN hz (i := 11) rfl, cellN hz (i := 12) rfl⟩
  have K2 := hide (show ((((((((((((((w1.setCell ⟨w.heap.size, 0, none⟩ (.int .i64 6)).setCell ⟨w.heap.size, 1, none⟩ (.string y.ref.space)).setCell ⟨w.heap.size, 2, none⟩ (.string y.ref.name)).setCell ⟨w.heap.size, 3, none⟩ (.bool y.good)).setCell ⟨w.heap.size, 4, none⟩ (.slice y.al y.labels.length y.cl)).setCell ⟨w.heap.size, 5, none⟩ (.slice y.ap y.ports.length y.cp)).setCell ⟨w.heap.size, 6, none⟩ (.string y.cls)).setCell ⟨w.heap.size, 7, none⟩ (.slice y.ai y.lis.length y.ci)).setCell ⟨w.heap.size, 8, none⟩ (.slice y.aq y.pars.length y.cq)).setCell ⟨w.heap.size, 9, none⟩ (.slice y.ah y.hosts.length y.ch)).setCell ⟨w.heap.size, 10, none⟩ (.slice y.ar y.rules.length y.cr)).setCell ⟨w.heap.size, 11, none⟩ (.slice y.af y.frm.length y.cf)).setCell ⟨w.heap.size, 12, none⟩ (.slice y.ao y.tos.length y.co))).heap[w.heap.size]? = some (.cells #[.int .i64 6, .string y.ref.space, .string y.ref.name, .bool y.good, .slice y.al y.labels.length y.cl, .slice y.ap y.ports.length y.cp, .string y.cls, .slice y.ai y.lis.length y.ci, .slice y.aq y.pars.length y.cq, .slice y.ah y.hosts.length y.ch, .slice y.ar y.rules.length y.cr, .slice y.af y.frm.length y.cf, .slice y.ao y.tos.length y.co] 32) from setL_all [.int .i64 6, .string y.ref.space, .string y.ref.name, .bool y.good, .slice y.al y.labels.length y.cl, .slice y.ap y.ports.length y.cp, .string y.cls, .slice y.ai y.lis.length y.ci, .slice y.aq y.pars.length y.cq, .slice y.ah y.hosts.length y.ch, .slice y.ar y.rules.length y.cr, .slice y.af y.frm.length y.cf, .slice y.ao y.tos.length y.co] hz rfl)
  have own2 := hide (show OV.own y (((((((((((((w1.setCell ⟨w.heap.size, 0, none⟩ (.int .i64 6)).setCell ⟨w.heap.size, 1, none⟩ (.string y.ref.space)).setCell ⟨w.heap.size, 2, none⟩ (.string y.ref.name)).setCell ⟨w.heap.size, 3, none⟩ (.bool y.good)).setCell ⟨w.heap.size, 4, none⟩ (.slice y.al y.labels.length y.cl)).setCell ⟨w.heap.size, 5, none⟩ (.slice y.ap y.ports.length y.cp)).setCell ⟨w.heap.size, 6, none⟩ (.string y.cls)).setCell ⟨w.heap.size, 7, none⟩ (.slice y.ai y.lis.length y.ci)).setCell ⟨w.heap.size, 8, none⟩ (.slice y.aq y.pars.length y.cq)).setCell ⟨w.heap.size, 9, none⟩ (.slice y.ah y.hosts.length y.ch)).setCell ⟨w.heap.size, 10, none⟩ (.slice y.ar y.rules.length y.cr)).setCell ⟨w.heap.size, 11, none⟩ (.slice y.af y.frm.length y.cf)).setCell ⟨w.heap.size, 12, none⟩ (.slice y.ao y.tos.length y.co)) from hown.bx ((BX.refl w.heap.size w1.heap.size w1).setL 0 [.int .i64 6, .string y.ref.space, .string y.ref.name, .bool y.good, .slice y.al y.labels.length y.cl, .slice y.ap y.ports.length y.cp, .string y.cls, .slice y.ai y.lis.length y.ci, .slice y.aq y.pars.length y.cq, .slice y.ah y.hosts.length y.ch, .slice y.ar y.rules.length y.cr, .slice y.af y.frm.length y.cf, .slice y.ao y.tos.length y.co]) hz)
  have BB2 := hide (show Below w.heap.size w (((((((((((((w1.setCell ⟨w.heap.size, 0, none⟩ (.int .i64 6)).setCell ⟨w.heap.size, 1, none⟩ (.string y.ref.space)).setCell ⟨w.heap.size, 2, none⟩ (.string y.ref.name)).setCell ⟨w.heap.size, 3, none⟩ (.bool y.good)).setCell ⟨w.heap.size, 4, none⟩ (.slice y.al y.labels.length y.cl)).setCell ⟨w.heap.size, 5, none⟩ (.slice y.ap y.ports.length y.cp)).setCell ⟨w.heap.size, 6, none⟩ (.string y.cls)).setCell ⟨w.heap.size, 7, none⟩ (.slice y.ai y.lis.length y.ci)).setCell ⟨w.heap.size, 8, none⟩ (.slice y.aq y.pars.length y.cq)).setCell ⟨w.heap.size, 9, none⟩ (.slice y.ah y.hosts.length y.ch)).setCell ⟨w.heap.size, 10, none⟩ (.slice y.ar y.rules.length y.cr)).setCell ⟨w.heap.size, 11, none⟩ (.slice y.af y.frm.length y.cf)).setCell ⟨w.heap.size, 12, none⟩ (.slice y.ao y.tos.length y.co)) from setL_below (w := w) (B := w.heap.size) (g := w.heap.size) (Nat.le_refl _) [.int .i64 6, .string y.ref.space, .string y.ref.name, .bool y.good, .slice y.al y.labels.length y.cl, .slice y.ap y.ports.length y.cp, .string y.cls, .slice y.ai y.lis.length y.ci, .slice y.aq y.pars.length y.cq, .slice y.ah y.hosts.length y.ch, .slice y.ar y.rules.length y.cr, .slice y.af y.frm.length y.cf, .slice y.ao y.tos.length y.co] _ 0 BB)
  obtain ⟨d0, d1, d2, d3, d4, d5, d6, d7, d8, d9, d10, d11, d12⟩ : _ ∧ _ ∧ _ ∧ _ ∧ _ ∧ _ ∧ _ ∧ _ ∧ _ ∧ _ ∧ _ ∧ _ ∧ _ := ⟨cellN K2.out (i := 0) rfl, cellN K2.out (i := 1) rfl, cellN K2.out (i := 2) rfl, cellN K2.out (i := 3) rfl, cellN K2.out (i := 4) rfl, cellN K2.out (i := 5) rfl, cellN K2.out (i := 6) rfl, cellN K2.out (i := 7) rfl, cellN K2.out (i := 8) rfl, cellN K2.out (i := 9) rfl, cellN K2.out (i := 10) rfl, cellN K2.out (i := 11) rfl, cellN K2.out (i := 12) rfl⟩
  have ok := fewO_ok hy
  have HAP := hide (show Aparts w.heap.size y.rules from ⟨fun r hr g e => Nat.le_trans (by simp) (hap.up r hr g e), hap.pw⟩)
  have HQN := hide (show ∀ g, y.vq.ownBlock = some g → w.heap.size ≤ g from fun g e => Nat.le_trans (by simp) (hqn g e))
  have HM : Hid (Ob.mayO y.b = true) := hide (by rw [hy]; exact HM0.out)
  have k6 : y.ref.kind = 6 := (congrArg (fun o : OB => o.ref.kind) hy).trans HK0.out
  clear hap hqn HM0 HK0
  have HOK := hide ok
  have HY := hide hy
  clear hz hown BB B1 hb1 CF hy ok
  go_wp2_with fail
  have kq : ((((((((((((((w1.setCell ⟨w.heap.size, 0, none⟩ (.int .i64 6)).setCell ⟨w.heap.size, 1, none⟩ (.string y.ref.space)).setCell ⟨w.heap.size, 2, none⟩ (.string y.ref.name)).setCell ⟨w.heap.size, 3, none⟩ (.bool y.good)).setCell ⟨w.heap.size, 4, none⟩ (.slice y.al y.labels.length y.cl)).setCell ⟨w.heap.size, 5, none⟩ (.slice y.ap y.ports.length y.cp)).setCell ⟨w.heap.size, 6, none⟩ (.string y.cls)).setCell ⟨w.heap.size, 7, none⟩ (.slice y.ai y.lis.length y.ci)).setCell ⟨w.heap.size, 8, none⟩ (.slice y.aq y.pars.length y.cq)).setCell ⟨w.heap.size, 9, none⟩ (.slice y.ah y.hosts.length y.ch)).setCell ⟨w.heap.size, 10, none⟩ (.slice y.ar y.rules.length y.cr)).setCell ⟨w.heap.size, 11, none⟩ (.slice y.af y.frm.length y.cf)).setCell ⟨w.heap.size, 12, none⟩ (.slice y.ao y.tos.length y.co))).heap[w.heap.size]? = some (.cells #[.int .i64 6, .string y.ref.space, .string y.ref.name, .bool y.good, .slice y.al y.labels.length y.cl, .slice y.ap y.ports.length y.cp, .string y.cls, .slice y.ai y.lis.length y.ci, .slice y.aq y.pars.length y.cq, .slice y.ah y.hosts.length y.ch, .slice y.ar y.rules.length y.cr, .slice y.af y.frm.length y.cf, .slice y.ao y.tos.length y.co] 32) := K2.out
  have ownq : OV.own y (((((((((((((w1.setCell ⟨w.heap.size, 0, none⟩ (.int .i64 6)).setCell ⟨w.heap.size, 1, none⟩ (.string y.ref.space)).setCell ⟨w.heap.size, 2, none⟩ (.string y.ref.name)).setCell ⟨w.heap.size, 3, none⟩ (.bool y.good)).setCell ⟨w.heap.size, 4, none⟩ (.slice y.al y.labels.length y.cl)).setCell ⟨w.heap.size, 5, none⟩ (.slice y.ap y.ports.length y.cp)).setCell ⟨w.heap.size, 6, none⟩ (.string y.cls)).setCell ⟨w.heap.size, 7, none⟩ (.slice y.ai y.lis.length y.ci)).setCell ⟨w.heap.size, 8, none⟩ (.slice y.aq y.pars.length y.cq)).setCell ⟨w.heap.size, 9, none⟩ (.slice y.ah y.hosts.length y.ch)).setCell ⟨w.heap.size, 10, none⟩ (.slice y.ar y.rules.length y.cr)).setCell ⟨w.heap.size, 11, none⟩ (.slice y.af y.frm.length y.cf)).setCell ⟨w.heap.size, 12, none⟩ (.slice y.ao y.tos.length y.co)) := own2.out
  have BQ : Below w.heap.size w (((((((((((((w1.setCell ⟨w.heap.size, 0, none⟩ (.int .i64 6)).setCell ⟨w.heap.size, 1, none⟩ (.string y.ref.space)).setCell ⟨w.heap.size, 2, none⟩ (.string y.ref.name)).setCell ⟨w.heap.size, 3, none⟩ (.bool y.good)).setCell ⟨w.heap.size, 4, none⟩ (.slice y.al y.labels.length y.cl)).setCell ⟨w.heap.size, 5, none⟩ (.slice y.ap y.ports.length y.cp)).setCell ⟨w.heap.size, 6, none⟩ (.string y.cls)).setCell ⟨w.heap.size, 7, none⟩ (.slice y.ai y.lis.length y.ci)).setCell ⟨w.heap.size, 8, none⟩ (.slice y.aq y.pars.length y.cq)).setCell ⟨w.heap.size, 9, none⟩ (.slice y.ah y.hosts.length y.ch)).setCell ⟨w.heap.size, 10, none⟩ (.slice y.ar y.rules.length y.cr)).setCell ⟨w.heap.size, 11, none⟩ (.slice y.af y.frm.length y.cf)).setCell ⟨w.heap.size, 12, none⟩ (.slice y.ao y.tos.length y.co)) := BB2.out
  clear K2 own2 BB2 lz z0 z1 z2 z3 z4 z5 z6 z7 z8 z9 z10 z11 z12 d0 d1 d2 d3 d4 d5 d6 d7 d8 d9 d10 d11 d12
  generalize (((((((((((((w1.setCell ⟨w.heap.size, 0, none⟩ (.int .i64 6)).setCell ⟨w.heap.size, 1, none⟩ (.string y.ref.space)).setCell ⟨w.heap.size, 2, none⟩ (.string y.ref.name)).setCell ⟨w.heap.size, 3, none⟩ (.bool y.good)).setCell ⟨w.heap.size, 4, none⟩ (.slice y.al y.labels.length y.cl)).setCell ⟨w.heap.size, 5, none⟩ (.slice y.ap y.ports.length y.cp)).setCell ⟨w.heap.size, 6, none⟩ (.string y.cls)).setCell ⟨w.heap.size, 7, none⟩ (.slice y.ai y.lis.length y.ci)).setCell ⟨w.heap.size, 8, none⟩ (.slice y.aq y.pars.length y.cq)).setCell ⟨w.heap.size, 9, none⟩ (.slice y.ah y.hosts.length y.ch)).setCell ⟨w.heap.size, 10, none⟩ (.slice y.ar y.rules.length y.cr)).setCell ⟨w.heap.size, 11, none⟩ (.slice y.af y.frm.length y.cf)).setCell ⟨w.heap.size, 12, none⟩ (.slice y.ao y.tos.length y.co)) = V at *
  have at_ := ownq.at_
  have ok := HOK.out
  have EO : oV y = .agg #[.int .i64 6, .string y.ref.space, .string y.ref.name, .bool y.good, .slice y.al y.labels.length y.cl, .slice y.ap y.ports.length y.cp, .string y.cls, .slice y.ai y.lis.length y.ci, .slice y.aq y.pars.length y.cq, .slice y.ah y.hosts.length y.ch, .slice y.ar y.rules.length y.cr, .slice y.af y.frm.length y.cf, .slice y.ao y.tos.length y.co] := by show Value.agg #[.int .i64 y.ref.kind, .string y.ref.space, .string y.ref.name, .bool y.good, .slice y.al y.labels.length y.cl, .slice y.ap y.ports.length y.cp, .string y.cls, .slice y.ai y.lis.length y.ci, .slice y.aq y.pars.length y.cq, .slice y.ah y.hosts.length y.ch, .slice y.ar y.rules.length y.cr, .slice y.af y.frm.length y.cf, .slice y.ao y.tos.length y.co] = _; rw [k6]
  have CM := omay_any y V at_ ok
  rw [HM.out, EO] at CM
  refine CM.mono ?_
  rintro e w2 ⟨rfl, hb2⟩
  have k2 := blk_below kq hb2
  have HK2 := hide (show w2.heap[w.heap.size]? = some (.cells #[.int .i64 y.ref.kind, .string y.ref.space, .string y.ref.name, .bool y.good, .slice y.al y.labels.length y.cl, .slice y.ap y.ports.length y.cp, .string y.cls, .slice y.ai y.lis.length y.ci, .slice y.aq y.pars.length y.cq, .slice y.ah y.hosts.length y.ch, .slice y.ar y.rules.length y.cr, .slice y.af y.frm.length y.cf, .slice y.ao y.tos.length y.co] 32) by rw [k2, k6])
  obtain ⟨o0, o1, o2, o3, o4, o5, o6, o7, o8, o9, o10, o11, o12⟩ : _ ∧ _ ∧ _ ∧ _ ∧ _ ∧ _ ∧ _ ∧ _ ∧ _ ∧ _ ∧ _ ∧ _ ∧ _ := ⟨cellN k2 (i := 0) rfl, cellN k2 (i := 1) rfl, cellN k2 (i := 2) rfl, cellN k2 (i := 3) rfl, cellN k2 (i := 4) rfl, cellN k2 (i := 5) rfl, cellN k2 (i := 6) rfl, cellN k2 (i := 7) rfl, cellN k2 (i := 8) rfl, cellN k2 (i := 9) rfl, cellN k2 (i := 10) rfl, cellN k2 (i := 11) rfl, cellN k2 (i := 12) rfl⟩
  have HOW := hide (ownq.below hb2)
  have HB2 := hide (bb2 BQ hb2)
  have HQS : Hid (∀ g, y.vq.ownBlock = some g → g < w2.heap.size) := hide fun g e => by obtain ⟨b, h⟩ := HOW.out.pars; exact ownBlock_lt h e
  have HBS : Hid (∀ r ∈ y.rules, ∀ g, r.vb.ownBlock = some g → g < w2.heap.size) := hide fun r hr g e => by obtain ⟨b, h⟩ := (HOW.out.rulesA r hr).bs; exact ownBlock_lt h e
  have HAT := hide (at_.below hb2)
  have HK6 := hide k6
  clear kq ownq BQ hb2 at_ ok k2 CM
  go_wp2_with fail
  clear o0 o1 o2 o3 o4 o5 o6 o7 o8 o9 o10 o11 o12
  have CR := refs_rtA y w2 HAT.out HOK.out HM.out HK6.out
  rw [EO] at CR
  refine CR.mono ?_
  rintro e w3 ⟨v3, rfl, hsl, hb3, hup⟩
  have N0 : NS w w.heap.size w2.heap.size v3 (Ob.refsO y.b) y w3 := ⟨HOW.out.below hb3, blk_below HK2.out hb3, HAP.out, HQN.out, HQS.out, HBS.out, hsl, fun a n c e => hup a.block (by rw [e]; rfl), bb2 HB2.out hb3⟩
  have HN0 := hide N0
  clear N0 hsl hb3 HAT HK2 HOW HB2 HQS HBS HAP HQN
  obtain ⟨L, hL⟩ : ∃ z, z = Ob.refsO y.b := ⟨_, rfl⟩
  rw [← hL] at HN0
  have HLE := hide hL
  clear hL
  have hYl : y.pars.length ≤ 9223372036854775807 := by have := HOK.out; have h := HN0.out.own.at_.pars.len; exact h
  have HYL := hide hYl
  clear hYl hup
  generalize w2.heap.size = S at *
  go_upto_block 0 with fail
  go_cut [4] from 24 to 45 (fun _ wx => NS w w.heap.size S v3 L { y with pars := y.pars.map (Ob.fillP y.ref.space) } wx)
  case first =>
    go_wp2_with fail
    go_loopw [4] (fun i wr => ∃ k : Nat, k ≤ y.pars.length ∧ i = .int .i64 k ∧ NS w w.heap.size S v3 L { y with pars := ptTo y k } wr) (fun i _ => y.pars.length - (intOf i).toNat)
    case atStart => exact ⟨0, Nat.zero_le _, rfl, by rw [ptTo_zero]; exact HN0.out⟩
    case round =>
      obtain ⟨k, hk, rfl, N⟩ := hrel
      have HN := hide N
      have kb : wr.heap[w.heap.size]? = some (.cells #[.int .i64 6, .string y.ref.space, .string y.ref.name, .bool y.good, .slice y.al y.labels.length y.cl, .slice y.ap y.ports.length y.cp, .string y.cls, .slice y.ai y.lis.length y.ci, .slice y.aq y.pars.length y.cq, .slice y.ah y.hosts.length y.ch, .slice y.ar y.rules.length y.cr, .slice y.af y.frm.length y.cf, .slice y.ao y.tos.length y.co] 32) := by
        have := N.box
        unfold ocells OV.vq at this
        dsimp only at this
        rw [ptTo_len, HK6.out] at this
        exact this
      obtain ⟨o0, o1, o2, o3, o4, o5, o6, o7, o8, o9, o10, o11, o12⟩ : _ ∧ _ ∧ _ ∧ _ ∧ _ ∧ _ ∧ _ ∧ _ ∧ _ ∧ _ ∧ _ ∧ _ ∧ _ := ⟨cellN kb (i := 0) rfl, cellN kb (i := 1) rfl, cellN kb (i := 2) rfl, cellN kb (i := 3) rfl, cellN kb (i := 4) rfl, cellN kb (i := 5) rfl, cellN kb (i := 6) rfl, cellN kb (i := 7) rfl, cellN kb (i := 8) rfl, cellN kb (i := 9) rfl, cellN kb (i := 10) rfl, cellN kb (i := 11) rfl, cellN kb (i := 12) rfl⟩
      have hml := HYL.out
      by_cases hlt : k < y.pars.length
      · have hlt' : (k : Int) < (y.pars.length : Int) := by omega
        obtain ⟨g, ha, lv, c0, c1, c2, c3⟩ := NS.pt (y := { y with pars := ptTo y k }) N (k := k) (by dsimp only; rw [ptTo_len]; exact hlt)
        dsimp only at ha c0 c1 c2 c3
        rw [ptTo_at hlt] at c0 c1 c2 c3
        have hAl : ((y.pars.take k).map (Ob.fillP y.ref.space)).length = k := by simp; omega
        rw [ha] at o8
        clear N kb
        cases he : y.pars[k].space.toList.isEmpty
        · have HF : Hid (ptTo y (k + 1) = ptTo y k) := by
            unfold Hid
            rw [ptTo_next hlt, ptTo_split hlt]
            unfold Ob.fillP
            rw [← e0_emp, he]
            rfl
          clear c1 c2 c3
          go_wp2_with fail
          exact ⟨⟨k + 1, by omega, by go_num, by rw [HF.out]; exact HN.out⟩, by simp [intOf]; omega⟩
        · have N2 := HN.out.par (ptTo_split hlt) ha y.ref.space
          rw [hAl] at N2
          have HN2 : Hid (NS w w.heap.size S v3 L { y with pars := ptTo y (k + 1) } (setL wr g (k * 4) [.string y.ref.space])) := by
            unfold Hid
            rw [ptTo_next hlt]
            unfold Ob.fillP
            rw [← e0_emp, he]
            exact N2
          clear N2 c1 c2 c3
          go_wp2_with fail
          exact ⟨⟨k + 1, by omega, by go_num, HN2.out⟩, by simp [intOf]; omega⟩
      · obtain rfl : k = y.pars.length := by omega
        have hlt' : ¬ (y.pars.length : Int) < (y.pars.length : Int) := by omega
        clear N kb
        go_wp2_with fail
        go_meet
        case rel => have := HN.out; rw [ptTo_end] at this; exact this
  case rest =>
    obtain ⟨y1, hy1⟩ : ∃ z : OV, z = { y with pars := y.pars.map (Ob.fillP y.ref.space) } := ⟨_, rfl⟩
    rw [← hy1] at hcut
    have HN1 := hide hcut
    have HK61 : Hid (y1.ref.kind = 6) := hide (by rw [hy1]; exact HK6.out)
    have HB1 : Hid (y1.b = { y.b with pars := y.pars.map (Ob.fillP y.ref.space) }) := hide (by rw [hy1]; rfl)
    have HB2 : Hid (OV.b { y1 with rules := y1.rules.map (fillV y1.ref.space) } = Ob.fillO y.b) := by
      unfold Hid
      rw [hy1]
      unfold OV.b Ob.fillO
      simp only [List.map_map]
      rfl
    have hrl : y1.rules.length ≤ 9223372036854775807 := hcut.own.at_.rules.len
    have HRL := hide hrl
    have hy1c := hide hy1
    clear hcut hy1 hrl HN0
    go_upto_block 2 with fail
    go_cut [5] from 46 to 94 (fun _ wx => NS w w.heap.size S v3 L { y1 with rules := y1.rules.map (fillV y1.ref.space) } wx)
    case first =>
      go_wp2_with fail
      go_loopw [5] (fun i wr => ∃ k : Nat, k ≤ y1.rules.length ∧ i = .int .i64 k ∧ NS w w.heap.size S v3 L { y1 with rules := rlAt y1 k } wr) (fun i _ => y1.rules.length - (intOf i).toNat)
      case atStart => exact ⟨0, Nat.zero_le _, rfl, by rw [rlAt_zero]; exact HN1.out⟩
      case round =>
        obtain ⟨i, hi, rfl, N⟩ := hrel
        have HN := hide N
        have kb : wr.heap[w.heap.size]? = some (.cells #[.int .i64 6, .string y1.ref.space, .string y1.ref.name, .bool y1.good, .slice y1.al y1.labels.length y1.cl, .slice y1.ap y1.ports.length y1.cp, .string y1.cls, .slice y1.ai y1.lis.length y1.ci, .slice y1.aq y1.pars.length y1.cq, .slice y1.ah y1.hosts.length y1.ch, .slice y1.ar y1.rules.length y1.cr, .slice y1.af y1.frm.length y1.cf, .slice y1.ao y1.tos.length y1.co] 32) := by
          have := N.box
          unfold ocells OV.vr at this
          dsimp only at this
          rw [rlAt_len, HK61.out] at this
          exact this
        obtain ⟨o0, o1, o2, o3, o4, o5, o6, o7, o8, o9, o10, o11, o12⟩ : _ ∧ _ ∧ _ ∧ _ ∧ _ ∧ _ ∧ _ ∧ _ ∧ _ ∧ _ ∧ _ ∧ _ ∧ _ := ⟨cellN kb (i := 0) rfl, cellN kb (i := 1) rfl, cellN kb (i := 2) rfl, cellN kb (i := 3) rfl, cellN kb (i := 4) rfl, cellN kb (i := 5) rfl, cellN kb (i := 6) rfl, cellN kb (i := 7) rfl, cellN kb (i := 8) rfl, cellN kb (i := 9) rfl, cellN kb (i := 10) rfl, cellN kb (i := 11) rfl, cellN kb (i := 12) rfl⟩
        have hml := HRL.out
        by_cases hlt : i < y1.rules.length
        · have hlt' : (i : Int) < (y1.rules.length : Int) := by omega
          have HZ : Hid (rlAt y1 i = rlTo y1 i 0 y1.rules[i]) := hide (rlTo_zero hlt).symm
          have HE : Hid (rlTo y1 i y1.rules[i].bs.length y1.rules[i] = rlAt y1 (i + 1)) := hide (rlTo_end hlt)
          have HR0 : Hid ((y1.rules[i]).bs.length ≤ 9223372036854775807) := hide ((HN1.out.own.rulesA _ (List.getElem_mem hlt)).at_.bs.len)
          generalize y1.rules[i] = R at *
          have hRl : R.bs.length ≤ 9223372036854775807 := (HR0 : Hid (R.bs.length ≤ 9223372036854775807)).out
          have HRM := hide hRl
          clear N kb hRl HR0
          go_upto_block 4 with fail
          go_wp2_with fail
          go_loopw [6] (fun j wr => ∃ k : Nat, k ≤ R.bs.length ∧ j = .int .i64 k ∧ NS w w.heap.size S v3 L { y1 with rules := rlTo y1 i k R } wr) (fun j _ => R.bs.length - (intOf j).toNat)
          case atStart => exact ⟨0, Nat.zero_le _, rfl, by rw [← HZ.out]; exact HN.out⟩
          case round =>
            clear HN HZ o0 o1 o2 o3 o4 o5 o6 o7 o8 o9 o10 o11 o12
            obtain ⟨k, hk, rfl, N⟩ := hrel
            have HN := hide N
            have kb : wr.heap[w.heap.size]? = some (.cells #[.int .i64 6, .string y1.ref.space, .string y1.ref.name, .bool y1.good, .slice y1.al y1.labels.length y1.cl, .slice y1.ap y1.ports.length y1.cp, .string y1.cls, .slice y1.ai y1.lis.length y1.ci, .slice y1.aq y1.pars.length y1.cq, .slice y1.ah y1.hosts.length y1.ch, .slice y1.ar y1.rules.length y1.cr, .slice y1.af y1.frm.length y1.cf, .slice y1.ao y1.tos.length y1.co] 32) := by
              have := N.box
              unfold ocells OV.vr at this
              dsimp only at this
              rw [rlTo_len y1 k R hlt, HK61.out] at this
              exact this
            obtain ⟨o0, o1, o2, o3, o4, o5, o6, o7, o8, o9, o10, o11, o12⟩ : _ ∧ _ ∧ _ ∧ _ ∧ _ ∧ _ ∧ _ ∧ _ ∧ _ ∧ _ ∧ _ ∧ _ ∧ _ := ⟨cellN kb (i := 0) rfl, cellN kb (i := 1) rfl, cellN kb (i := 2) rfl, cellN kb (i := 3) rfl, cellN kb (i := 4) rfl, cellN kb (i := 5) rfl, cellN kb (i := 6) rfl, cellN kb (i := 7) rfl, cellN kb (i := 8) rfl, cellN kb (i := 9) rfl, cellN kb (i := 10) rfl, cellN kb (i := 11) rfl, cellN kb (i := 12) rfl⟩
            have hml2 := HRM.out
            obtain ⟨gr, har, lvr, cr⟩ := NS.rl (y := { y1 with rules := rlTo y1 i k R }) N (i := i) (by dsimp only; rw [rlTo_len y1 k R hlt]; exact hlt)
            dsimp only at har cr
            rw [rlTo_at hlt] at cr
            unfold RlV.vb at cr
            dsimp only at cr
            rw [bkTo_len] at cr
            rw [har] at o10
            by_cases hk2 : k < R.bs.length
            · have hk2' : (k : Int) < (R.bs.length : Int) := by omega
              obtain ⟨gb, hab, lvb, b0, b1, b2⟩ := NS.bk (y := { y1 with rules := rlTo y1 i k R }) N (r := { R with bs := bkTo y1.ref.space R k }) (rlTo_mem y1 i k R) (k := k) (by dsimp only; rw [bkTo_len]; exact hk2)
              dsimp only at hab b0 b1 b2
              rw [bkTo_at hk2] at b0 b1 b2
              rw [hab] at cr
              clear kb
              go_upto_region 17 with fail
              have N2 := HN.out.below ((Below.refl wr.heap.size wr).alloc (Nat.le_refl _) (.cells #[.int .i64 R.bs[k].ref.kind, .string R.bs[k].ref.space, .string R.bs[k].ref.name] 23))
              have kz := alloc_new wr (.cells #[.int .i64 R.bs[k].ref.kind, .string R.bs[k].ref.space, .string R.bs[k].ref.name] 23)
              generalize wr.alloc (.cells #[.int .i64 R.bs[k].ref.kind, .string R.bs[k].ref.space, .string R.bs[k].ref.name] 23) = wz at *
              obtain ⟨z0, z1⟩ : _ ∧ _ := ⟨cellN kz (i := 0) rfl, cellN kz (i := 1) rfl⟩
              have HN2 := hide N2
              have kb : wz.heap[w.heap.size]? = some (.cells #[.int .i64 6, .string y1.ref.space, .string y1.ref.name, .bool y1.good, .slice y1.al y1.labels.length y1.cl, .slice y1.ap y1.ports.length y1.cp, .string y1.cls, .slice y1.ai y1.lis.length y1.ci, .slice y1.aq y1.pars.length y1.cq, .slice y1.ah y1.hosts.length y1.ch, .slice y1.ar y1.rules.length y1.cr, .slice y1.af y1.frm.length y1.cf, .slice y1.ao y1.tos.length y1.co] 32) := by
                have := N2.box
                unfold ocells OV.vr at this
                dsimp only at this
                rw [rlTo_len y1 k R hlt, HK61.out] at this
                exact this
              clear o0 o1 o2 o3 o4 o5 o6 o7 o8 o9 o10 o11 o12 cr b0 b1 b2 lvr lvb
              obtain ⟨o0, o1, o2, o3, o4, o5, o6, o7, o8, o9, o10, o11, o12⟩ : _ ∧ _ ∧ _ ∧ _ ∧ _ ∧ _ ∧ _ ∧ _ ∧ _ ∧ _ ∧ _ ∧ _ ∧ _ := ⟨cellN kb (i := 0) rfl, cellN kb (i := 1) rfl, cellN kb (i := 2) rfl, cellN kb (i := 3) rfl, cellN kb (i := 4) rfl, cellN kb (i := 5) rfl, cellN kb (i := 6) rfl, cellN kb (i := 7) rfl, cellN kb (i := 8) rfl, cellN kb (i := 9) rfl, cellN kb (i := 10) rfl, cellN kb (i := 11) rfl, cellN kb (i := 12) rfl⟩
              obtain ⟨gr2, har2, lvr, cr⟩ := NS.rl (y := { y1 with rules := rlTo y1 i k R }) N2 (i := i) (by dsimp only; rw [rlTo_len y1 k R hlt]; exact hlt)
              dsimp only at har2 cr
              obtain rfl : gr = gr2 := by rw [har] at har2; injection har2 with e; injection e
              rw [rlTo_at hlt] at cr
              unfold RlV.vb at cr
              dsimp only at cr
              rw [bkTo_len, hab] at cr
              rw [har] at o10
              obtain ⟨gb2, hab2, lvb, b0, b1, b2⟩ := NS.bk (y := { y1 with rules := rlTo y1 i k R }) N2 (r := { R with bs := bkTo y1.ref.space R k }) (rlTo_mem y1 i k R) (k := k) (by dsimp only; rw [bkTo_len]; exact hk2)
              dsimp only at hab2 b0 b1 b2
              obtain rfl : gb = gb2 := by rw [hab] at hab2; injection hab2 with e; injection e
              rw [bkTo_at hk2] at b0 b1 b2
              clear N2 kz kb har2 hab2 N HN
              have HAB := hide hab
              cases he : R.bs[k].ref.space.toList.isEmpty
              · have HF : Hid (NS w w.heap.size S v3 L { y1 with rules := rlTo y1 i (k + 1) R } wz) := by
                  unfold Hid
                  rw [rlTo_keep hk2 (by rw [← e0_emp, he]; rfl)]
                  exact HN2.out
                clear HN2 HAB hab har
                go_wp2_with fail
                exact ⟨⟨k + 1, by omega, by go_num, HF.out⟩, by simp [intOf]; omega⟩
              · by_cases h2 : 2 < R.bs[k].ref.kind
                · have HF : Hid (NS w w.heap.size S v3 L { y1 with rules := rlTo y1 i (k + 1) R } (setL wz gb (k * 5 + 1) [.string y1.ref.space])) := by
                    unfold Hid
                    exact HN2.out.step hk2 HAB.out (by rw [← e0_emp, he]) h2
                  have h2' : decide (2 < R.bs[k].ref.kind) = true := decide_eq_true h2
                  have HF2 : Hid (∀ W, Below wz.heap.size wz W → NS w w.heap.size S v3 L { y1 with rules := rlTo y1 i (k + 1) R } (setL W gb (k * 5 + 1) [.string y1.ref.space])) := fun W h => (HN2.out.below h).step hk2 HAB.out (by rw [← e0_emp, he]) h2
                  have HLV : Hid (∀ W, Below wz.heap.size wz W → ∃ g, R.ab = some ⟨g, 0, none⟩ ∧ (∀ j, W.frozen? ⟨g, j, none⟩ = false) ∧ W.cell? ⟨g, k * 5 + 1, none⟩ = some (.string R.bs[k].ref.space)) := fun W h => by
                    obtain ⟨g, e1, e2, _, e3, _⟩ := NS.bk (y := { y1 with rules := rlTo y1 i k R }) (HN2.out.below h) (r := { R with bs := bkTo y1.ref.space R k }) (rlTo_mem y1 i k R) (k := k) (by dsimp only; rw [bkTo_len]; exact hk2)
                    dsimp only at e1 e3
                    rw [bkTo_at hk2] at e3
                    exact ⟨g, e1, e2, e3⟩
                  have m10 := fun W (h : Below wz.heap.size wz W) => (h.cell (p := ⟨w.heap.size, 10, none⟩) (lt_cell o10)).trans o10
                  have m1 := fun W (h : Below wz.heap.size wz W) => (h.cell (p := ⟨w.heap.size, 1, none⟩) (lt_cell o1)).trans o1
                  have mr := fun W (h : Below wz.heap.size wz W) => (h.cell (p := ⟨gr, i * 3 + 2, none⟩) (lt_cell cr)).trans cr
                  clear HN2 hab har h2 HF
                  go_wp2_with fail
                  clear o0 o1 o2 o3 o4 o5 o6 o7 o8 o9 o10 o11 o12 cr b0 b1 b2 lvr lvb z0 z1
                  refine wp_region_G 13 (fun W => Below wz.heap.size wz W) (by kernel_rfl) ((Below.refl _ _).drew) ?_
                  refine wpG_take (i := 0) 5 (v := .pointer (some ⟨w.heap.size, 10, none⟩)) rfl (by kernel_rfl) (by kernel_rfl) (by kernel_rfl) (by decide) (by kernel_rfl) (by kernel_rfl) (fun _ _ _ h => h) (Or.inl ⟨by rfl, fun w1 hS => ?_⟩) ?_
                  · (try dsimp only at hS)
                    go_simp
                  simp only [Act.put, List.setIfInBounds_toArray, List.set_cons_zero, List.set_cons_succ]
                  refine wpG_take (i := 1) 5 (v := .slice (some ⟨gr, 0, none⟩) y1.rules.length y1.cr) rfl (by kernel_rfl) (by kernel_rfl) (by kernel_rfl) (by decide) (by kernel_rfl) (by kernel_rfl) (fun _ _ _ h => h) (Or.inl ⟨by rfl, fun w1 hS => ?_⟩) ?_
                  · (try dsimp only at hS)
                    go_simp
                  simp only [Act.put, List.setIfInBounds_toArray, List.set_cons_zero, List.set_cons_succ]
                  refine wpG_take (i := 2) 5 (v := .int .i64 i) rfl (by kernel_rfl) (by kernel_rfl) (by kernel_rfl) (by decide) (by kernel_rfl) (by kernel_rfl) (fun _ _ _ h => h) (Or.inl ⟨by rfl, fun w1 hS => ?_⟩) ?_
                  · (try dsimp only at hS)
                    go_simp
                  simp only [Act.put, List.setIfInBounds_toArray, List.set_cons_zero, List.set_cons_succ]
                  refine wpG_take (i := 3) 5 (v := .pointer (some ⟨gr, i * 3, none⟩)) rfl (by kernel_rfl) (by kernel_rfl) (by kernel_rfl) (by decide) (by kernel_rfl) (by kernel_rfl) (fun _ _ _ h => h) (Or.inl ⟨by rfl, fun w1 hS => ?_⟩) ?_
                  · (try dsimp only at hS)
                    go_simp
                  simp only [Act.put, List.setIfInBounds_toArray, List.set_cons_zero, List.set_cons_succ]
                  refine wpG_take (i := 4) 5 (v := .pointer (some ⟨gr, i * 3 + 2, none⟩)) rfl (by kernel_rfl) (by kernel_rfl) (by kernel_rfl) (by decide) (by kernel_rfl) (by kernel_rfl) (fun _ _ _ h => h) (Or.inl ⟨by rfl, fun w1 hS => ?_⟩) ?_
                  · (try dsimp only at hS)
                    go_simp
                  simp only [Act.put, List.setIfInBounds_toArray, List.set_cons_zero, List.set_cons_succ]
                  refine wpG_take (i := 5) 5 (v := .slice (some ⟨gb, 0, none⟩) R.bs.length R.cb) rfl (by kernel_rfl) (by kernel_rfl) (by kernel_rfl) (by decide) (by kernel_rfl) (by kernel_rfl) (fun _ _ _ h => h) (Or.inl ⟨by rfl, fun w1 hS => ?_⟩) ?_
                  · (try dsimp only at hS)
                    go_simp
                  simp only [Act.put, List.setIfInBounds_toArray, List.set_cons_zero, List.set_cons_succ]
                  refine wpG_take (i := 6) 5 (v := .int .i64 k) rfl (by kernel_rfl) (by kernel_rfl) (by kernel_rfl) (by decide) (by kernel_rfl) (by kernel_rfl) (fun _ _ _ h => h) (Or.inl ⟨by rfl, fun w1 hS => ?_⟩) ?_
                  · (try dsimp only at hS)
                    go_simp
                  simp only [Act.put, List.setIfInBounds_toArray, List.set_cons_zero, List.set_cons_succ]
                  refine wpG_take (i := 7) 5 (v := .pointer (some ⟨w.heap.size, 0, none⟩)) rfl (by kernel_rfl) (by kernel_rfl) (by kernel_rfl) (by decide) (by kernel_rfl) (by kernel_rfl) (fun _ _ _ h => h) (Or.inl ⟨by rfl, fun w1 hS => ?_⟩) ?_
                  · (try dsimp only at hS)
                    go_simp
                  simp only [Act.put, List.setIfInBounds_toArray, List.set_cons_zero, List.set_cons_succ]
                  refine wpG_take (i := 8) 5 (v := .pointer (some ⟨w.heap.size, 1, none⟩)) rfl (by kernel_rfl) (by kernel_rfl) (by kernel_rfl) (by decide) (by kernel_rfl) (by kernel_rfl) (fun _ _ _ h => h) (Or.inl ⟨by rfl, fun w1 hS => ?_⟩) ?_
                  · (try dsimp only at hS)
                    go_simp
                  simp only [Act.put, List.setIfInBounds_toArray, List.set_cons_zero, List.set_cons_succ]
                  refine wpG_take (i := 9) 5 (v := .string y1.ref.space) rfl (by kernel_rfl) (by kernel_rfl) (by kernel_rfl) (by decide) (by kernel_rfl) (by kernel_rfl) (fun _ _ _ h => h) (Or.inl ⟨by rfl, fun w1 hS => ?_⟩) ?_
                  · (try dsimp only at hS)
                    go_simp
                  simp only [Act.put, List.setIfInBounds_toArray, List.set_cons_zero, List.set_cons_succ]
                  refine wpG_take (i := 10) 5 (v := .pointer (some ⟨gb, k * 5, none⟩)) rfl (by kernel_rfl) (by kernel_rfl) (by kernel_rfl) (by decide) (by kernel_rfl) (by kernel_rfl) (fun _ _ _ h => h) (Or.inl ⟨by rfl, fun w1 hS => ?_⟩) ?_
                  · (try dsimp only at hS)
                    go_simp
                  simp only [Act.put, List.setIfInBounds_toArray, List.set_cons_zero, List.set_cons_succ]
                  refine wpG_take (i := 11) 5 (v := .pointer (some ⟨gb, k * 5, none⟩)) rfl (by kernel_rfl) (by kernel_rfl) (by kernel_rfl) (by decide) (by kernel_rfl) (by kernel_rfl) (fun _ _ _ h => h) (Or.inl ⟨by rfl, fun w1 hS => ?_⟩) ?_
                  · (try dsimp only at hS)
                    go_simp
                  simp only [Act.put, List.setIfInBounds_toArray, List.set_cons_zero, List.set_cons_succ]
                  refine wpG_take (i := 12) 5 (v := .pointer (some ⟨gb, k * 5 + 1, none⟩)) rfl (by kernel_rfl) (by kernel_rfl) (by kernel_rfl) (by decide) (by kernel_rfl) (by kernel_rfl) (fun _ _ _ h => h) (Or.inl ⟨by rfl, fun w1 hS => ?_⟩) ?_
                  · (try dsimp only at hS)
                    go_simp
                  simp only [Act.put, List.setIfInBounds_toArray, List.set_cons_zero, List.set_cons_succ]
                  refine wpG_ready (rs := [13]) (by kernel_rfl) (by simp) (fun W hG hS j hj => ?_)
                  obtain rfl : j = 13 := by simpa using hj
                  clear hj
                  try dsimp only at hS
                  obtain ⟨gc, hgc, lvc, bc⟩ := HLV.out W hS
                  obtain rfl : gb = gc := by rw [HAB.out] at hgc; injection hgc with e; injection e
                  have HF := hide (HF2.out W hS)
                  clear HF2 HLV hgc m10 m1 mr hS hG HAB
                  refine wpOp_step rfl (by rfl) (fun K' hK' => ?_)
                  go_simp
                  refine hK' _ _ (wpG_past (by decide) ?_)
                  refine wpAny_end (by kernel_rfl) ?_
                  clear hK'
                  go_wp2_with fail
                  exact ⟨⟨k + 1, by omega, by go_num, HF.out⟩, by simp [intOf]; omega⟩
                · have HF : Hid (NS w w.heap.size S v3 L { y1 with rules := rlTo y1 i (k + 1) R } wz) := by
                    unfold Hid
                    rw [rlTo_keep hk2 (by rw [decide_eq_false h2, Bool.and_false])]
                    exact HN2.out
                  have h2' : decide (2 < R.bs[k].ref.kind) = false := decide_eq_false h2
                  clear HN2 HAB hab har h2
                  go_wp2_with fail
                  exact ⟨⟨k + 1, by omega, by go_num, HF.out⟩, by simp [intOf]; omega⟩
            · obtain rfl : k = R.bs.length := by omega
              have hk2' : ¬ (R.bs.length : Int) < (R.bs.length : Int) := by omega
              clear N kb
              go_wp2_with fail
              exact ⟨⟨i + 1, by omega, by go_num, by rw [← HE.out]; exact HN.out⟩, by simp [intOf]; omega⟩
        · obtain rfl : i = y1.rules.length := by omega
          have hlt' : ¬ (y1.rules.length : Int) < (y1.rules.length : Int) := by omega
          clear N kb
          go_wp2_with fail
          go_meet
          case rel => have := HN.out; rw [rlAt_end] at this; exact this
    case rest =>
      obtain ⟨y2, hy2⟩ : ∃ z : OV, z = { y1 with rules := y1.rules.map (fillV y1.ref.space) } := ⟨_, rfl⟩
      have HK62 : Hid (y2.ref.kind = 6) := hide (by rw [hy2]; exact HK61.out)
      rw [← hy2] at hcut HB2
      have HN2 := hide hcut
      have HM2 : Hid (Ob.mayO y2.b = Ob.dif Ob.eqP y2.pars) := hide (by rw [HB2.out, Ob.fill_may HM.out HK6.out, ← HB2.out]; rfl)
      have HR2 : Hid (Ob.mayO y2.b = true → Ob.refsO y2.b = L) := hide (fun h => by rw [HLE.out]; rw [HB2.out] at h ⊢; exact Ob.fill_refs HM.out HK6.out h)
      have HOK2 : Hid (OkO y2) := hide (by rw [hy2, hy1c.out]; exact okO_fill HOK.out)
      clear hcut hy2 hy1c HN1 HRL
      have hY2 : y2.pars.length ≤ 9223372036854775807 := HN2.out.own.at_.pars.len
      have HY2 := hide hY2
      have EO2 : oV y2 = .agg #[.int .i64 6, .string y2.ref.space, .string y2.ref.name, .bool y2.good, .slice y2.al y2.labels.length y2.cl, .slice y2.ap y2.ports.length y2.cp, .string y2.cls, .slice y2.ai y2.lis.length y2.ci, .slice y2.aq y2.pars.length y2.cq, .slice y2.ah y2.hosts.length y2.ch, .slice y2.ar y2.rules.length y2.cr, .slice y2.af y2.frm.length y2.cf, .slice y2.ao y2.tos.length y2.co] := by show Value.agg #[.int .i64 y2.ref.kind, .string y2.ref.space, .string y2.ref.name, .bool y2.good, .slice y2.al y2.labels.length y2.cl, .slice y2.ap y2.ports.length y2.cp, .string y2.cls, .slice y2.ai y2.lis.length y2.ci, .slice y2.aq y2.pars.length y2.cq, .slice y2.ah y2.hosts.length y2.ch, .slice y2.ar y2.rules.length y2.cr, .slice y2.af y2.frm.length y2.cf, .slice y2.ao y2.tos.length y2.co] = _; rw [HK62.out]
      have HEO2 := hide EO2
      clear hY2 EO2
      go_upto_block 6 with fail
      go_cut [8] from 95 to 123 (fun _ wx => NS w w.heap.size S v3 L y2 wx ∧ Ob.dif Ob.eqP y2.pars = true)
      case first =>
        go_wp2_with fail
        go_loopw [8] (fun i wr => ∃ k : Nat, k ≤ y2.pars.length ∧ i = .int .i64 k ∧ Hid (∀ j (hj : j < y2.pars.length), j < k → (y2.pars.take j).any (Ob.eqP y2.pars[j]) = false) ∧ NS w w.heap.size S v3 L y2 wr) (fun i _ => y2.pars.length - (intOf i).toNat)
        case atStart => exact ⟨0, Nat.zero_le _, rfl, fun j _ hj => absurd hj (by omega), HN2.out⟩
        case round =>
          clear HN2
          obtain ⟨k, hk, rfl, hall, N⟩ := hrel
          have HN := hide N
          have kb : wr.heap[w.heap.size]? = some (.cells #[.int .i64 6, .string y2.ref.space, .string y2.ref.name, .bool y2.good, .slice y2.al y2.labels.length y2.cl, .slice y2.ap y2.ports.length y2.cp, .string y2.cls, .slice y2.ai y2.lis.length y2.ci, .slice y2.aq y2.pars.length y2.cq, .slice y2.ah y2.hosts.length y2.ch, .slice y2.ar y2.rules.length y2.cr, .slice y2.af y2.frm.length y2.cf, .slice y2.ao y2.tos.length y2.co] 32) := by
            have := N.box
            unfold ocells at this
            rw [HK62.out] at this
            exact this
          obtain ⟨o0, o1, o2, o3, o4, o5, o6, o7, o8, o9, o10, o11, o12⟩ : _ ∧ _ ∧ _ ∧ _ ∧ _ ∧ _ ∧ _ ∧ _ ∧ _ ∧ _ ∧ _ ∧ _ ∧ _ := ⟨cellN kb (i := 0) rfl, cellN kb (i := 1) rfl, cellN kb (i := 2) rfl, cellN kb (i := 3) rfl, cellN kb (i := 4) rfl, cellN kb (i := 5) rfl, cellN kb (i := 6) rfl, cellN kb (i := 7) rfl, cellN kb (i := 8) rfl, cellN kb (i := 9) rfl, cellN kb (i := 10) rfl, cellN kb (i := 11) rfl, cellN kb (i := 12) rfl⟩
          have hml := HY2.out
          clear N kb
          by_cases hlt : k < y2.pars.length
          · have hlt' : (k : Int) < (y2.pars.length : Int) := by omega
            go_wp2_with fail
            go_loopw [9] (fun j wr => ∃ m : Nat, m ≤ k ∧ j = .int .i64 m ∧ Hid ((y2.pars.take m).any (Ob.eqP y2.pars[k]) = false) ∧ NS w w.heap.size S v3 L y2 wr) (fun j _ => k - (intOf j).toNat)
            case atStart => exact ⟨0, Nat.zero_le _, rfl, rfl, HN.out⟩
            case round =>
              clear HN o0 o1 o2 o3 o4 o5 o6 o7 o8 o9 o10 o11 o12
              obtain ⟨m, hm, rfl, hany, N⟩ := hrel
              have HN := hide N
              have kb : wr.heap[w.heap.size]? = some (.cells #[.int .i64 6, .string y2.ref.space, .string y2.ref.name, .bool y2.good, .slice y2.al y2.labels.length y2.cl, .slice y2.ap y2.ports.length y2.cp, .string y2.cls, .slice y2.ai y2.lis.length y2.ci, .slice y2.aq y2.pars.length y2.cq, .slice y2.ah y2.hosts.length y2.ch, .slice y2.ar y2.rules.length y2.cr, .slice y2.af y2.frm.length y2.cf, .slice y2.ao y2.tos.length y2.co] 32) := by
                have := N.box
                unfold ocells at this
                rw [HK62.out] at this
                exact this
              obtain ⟨o0, o1, o2, o3, o4, o5, o6, o7, o8, o9, o10, o11, o12⟩ : _ ∧ _ ∧ _ ∧ _ ∧ _ ∧ _ ∧ _ ∧ _ ∧ _ ∧ _ ∧ _ ∧ _ ∧ _ := ⟨cellN kb (i := 0) rfl, cellN kb (i := 1) rfl, cellN kb (i := 2) rfl, cellN kb (i := 3) rfl, cellN kb (i := 4) rfl, cellN kb (i := 5) rfl, cellN kb (i := 6) rfl, cellN kb (i := 7) rfl, cellN kb (i := 8) rfl, cellN kb (i := 9) rfl, cellN kb (i := 10) rfl, cellN kb (i := 11) rfl, cellN kb (i := 12) rfl⟩
              have hml2 := HY2.out
              by_cases hm2 : m < k
              · have hm2' : (m : Int) < (k : Int) := by omega
                have hml3 : m < y2.pars.length := by omega
                have hm3' : (m : Int) < (y2.pars.length : Int) := by omega
                obtain ⟨g, ha, lv, c0, c1, c2, c3⟩ := NS.pt N hlt
                obtain ⟨g2, ha2, lv2, d0, d1, d2, d3⟩ := NS.pt N hml3
                obtain rfl : g = g2 := by rw [ha] at ha2; injection ha2 with e; injection e
                rw [ha] at o8
                have EQ : ∀ W, (Op.equalIn 10000 41 (ptV y2.pars[k]) (ptV y2.pars[m])).run Tryz.prog W = .ok (Ob.eqP y2.pars[k] y2.pars[m]) W := fun W => by
                  rw [eqPar]
                  unfold Ob.eqP
                  simp only [tl_iff]
                have HA := hide ha
                clear N kb ha ha2 lv2
                cases hq : Ob.eqP y2.pars[k] y2.pars[m]
                · have HQ : Hid ((y2.pars.take (m + 1)).any (Ob.eqP y2.pars[k]) = false) := by
                    unfold Hid
                    rw [List.take_succ_eq_append_getElem hml3, List.any_append, hany.out]
                    simpa using hq
                  rw [hq] at EQ
                  clear hq hany
                  generalize y2.pars[k] = p at *
                  generalize y2.pars[m] = q at *
                  obtain ⟨ps, pn, pt, pp⟩ := p
                  obtain ⟨qs, qn, qt, qp⟩ := q
                  dsimp only at *
                  go_wp2_with fail
                  go_region
                  go_wp2_with fail
                  exact ⟨⟨m + 1, by omega, by go_num, HQ.out, HN.out.below (Below.refl _ _).drew⟩, by simp [intOf]; omega⟩
                · have HD : Hid (Ob.mayO y2.b = false) := by
                    unfold Hid
                    rw [HM2.out]
                    refine Ob.dif_not hlt ?_
                    rw [List.any_eq_true]
                    exact ⟨y2.pars[m], List.mem_take_iff_getElem.2 ⟨m, by omega, rfl⟩, hq⟩
                  rw [hq] at EQ
                  have CM := fun W (h : Below wr.heap.size wr W) => omay_any y2 W ((HN.out.own.at_).below h) HOK2.out
                  rw [HD.out, HEO2.out, HA.out] at CM
                  have HCM := hide CM
                  have HBel := hide HN.out.bel
                  clear hq hany HD CM HN hall
                  generalize y2.pars[k] = p at *
                  generalize y2.pars[m] = q at *
                  obtain ⟨ps, pn, pt, pp⟩ := p
                  obtain ⟨qs, qn, qt, qp⟩ := q
                  dsimp only at *
                  go_wp2_with fail
                  go_region
                  go_wp2_with fail
                  refine (HCM.out _ (Below.refl _ _).drew).mono ?_
                  rintro e w5 ⟨rfl, hb5⟩
                  go_wp2_with fail
                  refine (oawake_any _).mono ?_
                  rintro e w6 ⟨rfl, hb6⟩
                  go_wp2_with fail
                  go_ret
                  exact ⟨rfl, bb2 (bb2 (HBel.out.trans ((Below.refl _ _).drew.mono HBel.out.size)) hb5) hb6⟩
              · obtain rfl : m = k := by omega
                have hm2' : ¬ (m : Int) < (m : Int) := by omega
                have HA : Hid (∀ j (hj : j < y2.pars.length), j < m + 1 → (y2.pars.take j).any (Ob.eqP y2.pars[j]) = false) := fun j hj h => by
                  rcases Nat.lt_or_ge j m with h3 | h3
                  · exact hall.out j hj h3
                  · obtain rfl : j = m := by omega
                    exact hany.out
                clear N kb hall hany
                go_wp2_with fail
                exact ⟨⟨m + 1, by omega, by go_num, HA.out, HN.out⟩, by simp [intOf]; omega⟩
          · obtain rfl : k = y2.pars.length := by omega
            have hlt' : ¬ (y2.pars.length : Int) < (y2.pars.length : Int) := by omega
            have HD : Hid (Ob.dif Ob.eqP y2.pars = true) := Ob.dif_yes fun j hj => hall.out j hj hj
            clear hall
            go_wp2_with fail
            go_meet
            case rel => exact ⟨HN.out, HD.out⟩
      case rest =>
        obtain ⟨N, hd⟩ := hcut
        have HN := hide N
        have hm : Ob.mayO y2.b = true := HM2.out.trans hd
        have hr := HR2.out hm
        have kb : wc.heap[w.heap.size]? = some (.cells #[.int .i64 6, .string y2.ref.space, .string y2.ref.name, .bool y2.good, .slice y2.al y2.labels.length y2.cl, .slice y2.ap y2.ports.length y2.cp, .string y2.cls, .slice y2.ai y2.lis.length y2.ci, .slice y2.aq y2.pars.length y2.cq, .slice y2.ah y2.hosts.length y2.ch, .slice y2.ar y2.rules.length y2.cr, .slice y2.af y2.frm.length y2.cf, .slice y2.ao y2.tos.length y2.co] 32) := by
          have := N.box
          unfold ocells at this
          rw [HK62.out] at this
          exact this
        have CM := fun W (h : Below wc.heap.size wc W) => omay_any y2 W ((HN.out.own.at_).below h) HOK2.out
        have CR := fun W (h : Below wc.heap.size wc W) => refs_any y2 W ((HN.out.own.at_).below h) HOK2.out
        rw [hm, HEO2.out] at CM
        rw [hr, HEO2.out] at CR
        have HCM := hide CM
        have HCR := hide CR
        have HKB := hide kb
        have HL : Hid (Ob.eqL Ob.eqR L L = true) := (Ob.eqL_iff (fun a b => Ob.eqR_iff) L L).2 rfl
        obtain ⟨o0, o1, o2, o3, o4, o5, o6, o7, o8, o9, o10, o11, o12⟩ : _ ∧ _ ∧ _ ∧ _ ∧ _ ∧ _ ∧ _ ∧ _ ∧ _ ∧ _ ∧ _ ∧ _ ∧ _ := ⟨cellN kb (i := 0) rfl, cellN kb (i := 1) rfl, cellN kb (i := 2) rfl, cellN kb (i := 3) rfl, cellN kb (i := 4) rfl, cellN kb (i := 5) rfl, cellN kb (i := 6) rfl, cellN kb (i := 7) rfl, cellN kb (i := 8) rfl, cellN kb (i := 9) rfl, cellN kb (i := 10) rfl, cellN kb (i := 11) rfl, cellN kb (i := 12) rfl⟩
        clear hd N hm hr kb CM CR HN2
        go_wp2_with fail
        refine (HCM.out _ (Below.refl _ _)).mono ?_
        rintro e w5 ⟨rfl, hb5⟩
        have k5 := blk_below HKB.out hb5
        clear o0 o1 o2 o3 o4 o5 o6 o7 o8 o9 o10 o11 o12
        obtain ⟨o0, o1, o2, o3, o4, o5, o6, o7, o8, o9, o10, o11, o12⟩ : _ ∧ _ ∧ _ ∧ _ ∧ _ ∧ _ ∧ _ ∧ _ ∧ _ ∧ _ ∧ _ ∧ _ ∧ _ := ⟨cellN k5 (i := 0) rfl, cellN k5 (i := 1) rfl, cellN k5 (i := 2) rfl, cellN k5 (i := 3) rfl, cellN k5 (i := 4) rfl, cellN k5 (i := 5) rfl, cellN k5 (i := 6) rfl, cellN k5 (i := 7) rfl, cellN k5 (i := 8) rfl, cellN k5 (i := 9) rfl, cellN k5 (i := 10) rfl, cellN k5 (i := 11) rfl, cellN k5 (i := 12) rfl⟩
        clear k5
        go_wp2_with fail
        refine (HCR.out _ hb5).mono ?_
        rintro e w6 ⟨v6, rfl, hs6, hb6⟩
        have CS := sameRefs_any w6 v6 v3 L L hs6 (HN.out.was.below (bb2 hb5 hb6))
        rw [HL.out] at CS
        have HCS := hide CS
        clear CS hs6 o0 o1 o2 o3 o4 o5 o6 o7 o8 o9 o10 o11 o12
        go_wp2_with fail
        refine HCS.out.mono ?_
        rintro e w7 ⟨rfl, hb7⟩
        go_wp2_with fail
        refine (oawake_any _).mono ?_
        rintro e w8 ⟨rfl, hb8⟩
        go_wp2_with fail
        go_ret
        exact ⟨rfl, bb2 HN.out.bel (bb2 (bb2 (bb2 hb5 hb6) hb7) hb8)⟩

set_option linter.unusedSimpArgs false in
set_option linter.unusedVariables false in
set_option maxHeartbeats 12800000 in
theorem near_not (x : OV) (w : World) (hx : x.at_ w) (raw : RawO x) (hk0 : (fewO x.b).ref.kind = 6) (hm0 : Ob.mayO (fewO x.b) = false) :
    Calls Tryz.prog 5 #[oV x] w fun e w' => e = .returned (.bool true) ∧ Below w.heap.size w w' := by
  have HK0 := hide hk0
  have HM0 := hide hm0
  clear hk0 hm0
  have CF := fun W (h : Below w.heap.size w W) => hide (fewO_apart x W (hx.below h) raw)
  have B1 : Below w.heap.size w (w.alloc (.cells #[.int .i64 x.ref.kind, .string x.ref.space, .string x.ref.name, .bool x.good, .slice x.al x.labels.length x.cl, .slice x.ap x.ports.length x.cp, .string x.cls, .slice x.ai x.lis.length x.ci, .slice x.aq x.pars.length x.cq, .slice x.ah x.hosts.length x.ch, .slice x.ar x.rules.length x.cr, .slice x.af x.frm.length x.cf, .slice x.ao x.tos.length x.co] 32)) := (Below.refl _ _).alloc (Nat.le_refl _) _
  clear hx raw
  go_enter Tryz.func5, Tryz.ntmps5
  go_wp2_with fail
  refine (CF _ B1).out.mono ?_
  rintro e w1 ⟨y, rfl, hy, hown, hb1, hap, hqn⟩
  have hz : w1.heap[w.heap.size]? = some (.cells #[.int .i64 x.ref.kind, .string x.ref.space, .string x.ref.name, .bool x.good, .slice x.al x.labels.length x.cl, .slice x.ap x.ports.length x.cp, .string x.cls, .slice x.ai x.lis.length x.ci, .slice x.aq x.pars.length x.cq, .slice x.ah x.hosts.length x.ch, .slice x.ar x.rules.length x.cr, .slice x.af x.frm.length x.cf, .slice x.ao x.tos.length x.co] 32) := box_block hb1
  have BB := bb2 B1 hb1
  have lz := liveN hz
  obtain ⟨z0, z1, z2, z3, z4, z5, z6, z7, z8, z9, z10, z11, z12⟩ : _ ∧ _ ∧ _ ∧ _ ∧ _ ∧ _ ∧ _ ∧ _ ∧ _ ∧ _ ∧ _ ∧ _ ∧ _ := ⟨cellN hz (i := 0) rfl, cellN hz (i := 1) rfl, cellN hz (i := 2) rfl, cellN hz (i := 3) rfl, cellN hz (i := 4) rfl, cellN hz (i := 5) rfl, cellN hz (i := 6) rfl, cellN hz (i := 7) rfl, cellN hz (i := 8) rfl, cellN hz (i := 9) rfl, cellN hz (i := 10) rfl, cellN hz (i := 11) rfl, cellN hz (i := 12) rfl⟩
  have K2 := hide (show ((((((((((((((w1.setCell ⟨w.heap.size, 0, none⟩ (.int .i64 6)).setCell ⟨w.heap.size, 1, none⟩ (.string y.ref.space)).setCell ⟨w.heap.size, 2, none⟩ (.string y.ref.name)).setCell ⟨w.heap.size, 3, none⟩ (.bool y.good)).setCell ⟨w.heap.size, 4, none⟩ (.slice y.al y.labels.length y.cl)).setCell ⟨w.heap.size, 5, none⟩ (.slice y.ap y.ports.length y.cp)).setCell ⟨w.heap.size, 6, none⟩ (.string y.cls)).setCell ⟨w.heap.size, 7, none⟩ (.slice y.ai y.lis.length y.ci)).setCell ⟨w.heap.size, 8, none⟩ (.slice y.aq y.pars.length y.cq)).setCell ⟨w.heap.size, 9, none⟩ (.slice y.ah y.hosts.length y.ch)).setCell ⟨w.heap.size, 10, none⟩ (.slice y.ar y.rules.length y.cr)).setCell ⟨w.heap.size, 11, none⟩ (.slice y.af y.frm.length y.cf)).setCell ⟨w.heap.size, 12, none⟩ (.slice y.ao y.tos.length y.co))).heap[w.heap.size]? = some (.cells #[.int .i64 6, .string y.ref.space, .string y.ref.name, .bool y.good, .slice y.al y.labels.length y.cl, .slice y.ap y.ports.length y.cp, .string y.cls, .slice y.ai y.lis.length y.ci, .slice y.aq y.pars.length y.cq, .slice y.ah y.hosts.length y.ch, .slice y.ar y.rules.length y.cr, .slice y.af y.frm.length y.cf, .slice y.ao y.tos.length y.co] 32) from setL_all [.int .i64 6, .string y.ref.space, .string y.ref.name, .bool y.good, .slice y.al y.labels.length y.cl, .slice y.ap y.ports.length y.cp, .string y.cls, .slice y.ai y.lis.length y.ci, .slice y.aq y.pars.length y.cq, .slice y.ah y.hosts.length y.ch, .slice y.ar y.rules.length y.cr, .slice y.af y.frm.length y.cf, .slice y.ao y.tos.length y.co] hz rfl)
  have own2 := hide (show OV.own y (((((((((((((w1.setCell ⟨w.heap.size, 0, none⟩ (.int .i64 6)).setCell ⟨w.heap.size, 1, none⟩ (.string y.ref.space)).setCell ⟨w.heap.size, 2, none⟩ (.string y.ref.name)).setCell ⟨w.heap.size, 3, none⟩ (.bool y.good)).setCell ⟨w.heap.size, 4, none⟩ (.slice y.al y.labels.length y.cl)).setCell ⟨w.heap.size, 5, none⟩ (.slice y.ap y.ports.length y.cp)).setCell ⟨w.heap.size, 6, none⟩ (.string y.cls)).setCell ⟨w.heap.size, 7, none⟩ (.slice y.ai y.lis.length y.ci)).setCell ⟨w.heap.size, 8, none⟩ (.slice y.aq y.pars.length y.cq)).setCell ⟨w.heap.size, 9, none⟩ (.slice y.ah y.hosts.length y.ch)).setCell ⟨w.heap.size, 10, none⟩ (.slice y.ar y.rules.length y.cr)).setCell ⟨w.heap.size, 11, none⟩ (.slice y.af y.frm.length y.cf)).setCell ⟨w.heap.size, 12, none⟩ (.slice y.ao y.tos.length y.co)) from hown.bx ((BX.refl w.heap.size w1.heap.size w1).setL 0 [.int .i64 6, .string y.ref.space, .string y.ref.name, .bool y.good, .slice y.al y.labels.length y.cl, .slice y.ap y.ports.length y.cp, .string y.cls, .slice y.ai y.lis.length y.ci, .slice y.aq y.pars.length y.cq, .slice y.ah y.hosts.length y.ch, .slice y.ar y.rules.length y.cr, .slice y.af y.frm.length y.cf, .slice y.ao y.tos.length y.co]) hz)
  have BB2 := hide (show Below w.heap.size w (((((((((((((w1.setCell ⟨w.heap.size, 0, none⟩ (.int .i64 6)).setCell ⟨w.heap.size, 1, none⟩ (.string y.ref.space)).setCell ⟨w.heap.size, 2, none⟩ (.string y.ref.name)).setCell ⟨w.heap.size, 3, none⟩ (.bool y.good)).setCell ⟨w.heap.size, 4, none⟩ (.slice y.al y.labels.length y.cl)).setCell ⟨w.heap.size, 5, none⟩ (.slice y.ap y.ports.length y.cp)).setCell ⟨w.heap.size, 6, none⟩ (.string y.cls)).setCell ⟨w.heap.size, 7, none⟩ (.slice y.ai y.lis.length y.ci)).setCell ⟨w.heap.size, 8, none⟩ (.slice y.aq y.pars.length y.cq)).setCell ⟨w.heap.size, 9, none⟩ (.slice y.ah y.hosts.length y.ch)).setCell ⟨w.heap.size, 10, none⟩ (.slice y.ar y.rules.length y.cr)).setCell ⟨w.heap.size, 11, none⟩ (.slice y.af y.frm.length y.cf)).setCell ⟨w.heap.size, 12, none⟩ (.slice y.ao y.tos.length y.co)) from setL_below (w := w) (B := w.heap.size) (g := w.heap.size) (Nat.le_refl _) [.int .i64 6, .string y.ref.space, .string y.ref.name, .bool y.good, .slice y.al y.labels.length y.cl, .slice y.ap y.ports.length y.cp, .string y.cls, .slice y.ai y.lis.length y.ci, .slice y.aq y.pars.length y.cq, .slice y.ah y.hosts.length y.ch, .slice y.ar y.rules.length y.cr, .slice y.af y.frm.length y.cf, .slice y.ao y.tos.length y.co] _ 0 BB)
  obtain ⟨d0, d1, d2, d3, d4, d5, d6, d7, d8, d9, d10, d11, d12⟩ : _ ∧ _ ∧ _ ∧ _ ∧ _ ∧ _ ∧ _ ∧ _ ∧ _ ∧ _ ∧ _ ∧ _ ∧ _ := ⟨cellN K2.out (i := 0) rfl, cellN K2.out (i := 1) rfl, cellN K2.out (i := 2) rfl, cellN K2.out (i := 3) rfl, cellN K2.out (i := 4) rfl, cellN K2.out (i := 5) rfl, cellN K2.out (i := 6) rfl, cellN K2.out (i := 7) rfl, cellN K2.out (i := 8) rfl, cellN K2.out (i := 9) rfl, cellN K2.out (i := 10) rfl, cellN K2.out (i := 11) rfl, cellN K2.out (i := 12) rfl⟩
  have ok := fewO_ok hy
  have HAP := hide (show Aparts w.heap.size y.rules from ⟨fun r hr g e => Nat.le_trans (by simp) (hap.up r hr g e), hap.pw⟩)
  have HQN := hide (show ∀ g, y.vq.ownBlock = some g → w.heap.size ≤ g from fun g e => Nat.le_trans (by simp) (hqn g e))
  have HM : Hid (Ob.mayO y.b = false) := hide (by rw [hy]; exact HM0.out)
  have k6 : y.ref.kind = 6 := (congrArg (fun o : OB => o.ref.kind) hy).trans HK0.out
  clear hap hqn HM0 HK0
  have HOK := hide ok
  have HY := hide hy
  clear hz hown BB B1 hb1 CF hy ok
  go_wp2_with fail
  have kq : ((((((((((((((w1.setCell ⟨w.heap.size, 0, none⟩ (.int .i64 6)).setCell ⟨w.heap.size, 1, none⟩ (.string y.ref.space)).setCell ⟨w.heap.size, 2, none⟩ (.string y.ref.name)).setCell ⟨w.heap.size, 3, none⟩ (.bool y.good)).setCell ⟨w.heap.size, 4, none⟩ (.slice y.al y.labels.length y.cl)).setCell ⟨w.heap.size, 5, none⟩ (.slice y.ap y.ports.length y.cp)).setCell ⟨w.heap.size, 6, none⟩ (.string y.cls)).setCell ⟨w.heap.size, 7, none⟩ (.slice y.ai y.lis.length y.ci)).setCell ⟨w.heap.size, 8, none⟩ (.slice y.aq y.pars.length y.cq)).setCell ⟨w.heap.size, 9, none⟩ (.slice y.ah y.hosts.length y.ch)).setCell ⟨w.heap.size, 10, none⟩ (.slice y.ar y.rules.length y.cr)).setCell ⟨w.heap.size, 11, none⟩ (.slice y.af y.frm.length y.cf)).setCell ⟨w.heap.size, 12, none⟩ (.slice y.ao y.tos.length y.co))).heap[w.heap.size]? = some (.cells #[.int .i64 6, .string y.ref.space, .string y.ref.name, .bool y.good, .slice y.al y.labels.length y.cl, .slice y.ap y.ports.length y.cp, .string y.cls, .slice y.ai y.lis.length y.ci, .slice y.aq y.pars.length y.cq, .slice y.ah y.hosts.length y.ch, .slice y.ar y.rules.length y.cr, .slice y.af y.frm.length y.cf, .slice y.ao y.tos.length y.co] 32) := K2.out
  have ownq : OV.own y (((((((((((((w1.setCell ⟨w.heap.size, 0, none⟩ (.int .i64 6)).setCell ⟨w.heap.size, 1, none⟩ (.string y.ref.space)).setCell ⟨w.heap.size, 2, none⟩ (.string y.ref.name)).setCell ⟨w.heap.size, 3, none⟩ (.bool y.good)).setCell ⟨w.heap.size, 4, none⟩ (.slice y.al y.labels.length y.cl)).setCell ⟨w.heap.size, 5, none⟩ (.slice y.ap y.ports.length y.cp)).setCell ⟨w.heap.size, 6, none⟩ (.string y.cls)).setCell ⟨w.heap.size, 7, none⟩ (.slice y.ai y.lis.length y.ci)).setCell ⟨w.heap.size, 8, none⟩ (.slice y.aq y.pars.length y.cq)).setCell ⟨w.heap.size, 9, none⟩ (.slice y.ah y.hosts.length y.ch)).setCell ⟨w.heap.size, 10, none⟩ (.slice y.ar y.rules.length y.cr)).setCell ⟨w.heap.size, 11, none⟩ (.slice y.af y.frm.length y.cf)).setCell ⟨w.heap.size, 12, none⟩ (.slice y.ao y.tos.length y.co)) := own2.out
  have BQ : Below w.heap.size w (((((((((((((w1.setCell ⟨w.heap.size, 0, none⟩ (.int .i64 6)).setCell ⟨w.heap.size, 1, none⟩ (.string y.ref.space)).setCell ⟨w.heap.size, 2, none⟩ (.string y.ref.name)).setCell ⟨w.heap.size, 3, none⟩ (.bool y.good)).setCell ⟨w.heap.size, 4, none⟩ (.slice y.al y.labels.length y.cl)).setCell ⟨w.heap.size, 5, none⟩ (.slice y.ap y.ports.length y.cp)).setCell ⟨w.heap.size, 6, none⟩ (.string y.cls)).setCell ⟨w.heap.size, 7, none⟩ (.slice y.ai y.lis.length y.ci)).setCell ⟨w.heap.size, 8, none⟩ (.slice y.aq y.pars.length y.cq)).setCell ⟨w.heap.size, 9, none⟩ (.slice y.ah y.hosts.length y.ch)).setCell ⟨w.heap.size, 10, none⟩ (.slice y.ar y.rules.length y.cr)).setCell ⟨w.heap.size, 11, none⟩ (.slice y.af y.frm.length y.cf)).setCell ⟨w.heap.size, 12, none⟩ (.slice y.ao y.tos.length y.co)) := BB2.out
  clear K2 own2 BB2 lz z0 z1 z2 z3 z4 z5 z6 z7 z8 z9 z10 z11 z12 d0 d1 d2 d3 d4 d5 d6 d7 d8 d9 d10 d11 d12
  generalize (((((((((((((w1.setCell ⟨w.heap.size, 0, none⟩ (.int .i64 6)).setCell ⟨w.heap.size, 1, none⟩ (.string y.ref.space)).setCell ⟨w.heap.size, 2, none⟩ (.string y.ref.name)).setCell ⟨w.heap.size, 3, none⟩ (.bool y.good)).setCell ⟨w.heap.size, 4, none⟩ (.slice y.al y.labels.length y.cl)).setCell ⟨w.heap.size, 5, none⟩ (.slice y.ap y.ports.length y.cp)).setCell ⟨w.heap.size, 6, none⟩ (.string y.cls)).setCell ⟨w.heap.size, 7, none⟩ (.slice y.ai y.lis.length y.ci)).setCell ⟨w.heap.size, 8, none⟩ (.slice y.aq y.pars.length y.cq)).setCell ⟨w.heap.size, 9, none⟩ (.slice y.ah y.hosts.length y.ch)).setCell ⟨w.heap.size, 10, none⟩ (.slice y.ar y.rules.length y.cr)).setCell ⟨w.heap.size, 11, none⟩ (.slice y.af y.frm.length y.cf)).setCell ⟨w.heap.size, 12, none⟩ (.slice y.ao y.tos.length y.co)) = V at *
  have at_ := ownq.at_
  have ok := HOK.out
  have EO : oV y = .agg #[.int .i64 6, .string y.ref.space, .string y.ref.name, .bool y.good, .slice y.al y.labels.length y.cl, .slice y.ap y.ports.length y.cp, .string y.cls, .slice y.ai y.lis.length y.ci, .slice y.aq y.pars.length y.cq, .slice y.ah y.hosts.length y.ch, .slice y.ar y.rules.length y.cr, .slice y.af y.frm.length y.cf, .slice y.ao y.tos.length y.co] := by show Value.agg #[.int .i64 y.ref.kind, .string y.ref.space, .string y.ref.name, .bool y.good, .slice y.al y.labels.length y.cl, .slice y.ap y.ports.length y.cp, .string y.cls, .slice y.ai y.lis.length y.ci, .slice y.aq y.pars.length y.cq, .slice y.ah y.hosts.length y.ch, .slice y.ar y.rules.length y.cr, .slice y.af y.frm.length y.cf, .slice y.ao y.tos.length y.co] = _; rw [k6]
  have CM := omay_any y V at_ ok
  rw [HM.out, EO] at CM
  refine CM.mono ?_
  rintro e w2 ⟨rfl, hb2⟩
  have HB2 := hide (bb2 BQ hb2)
  clear kq ownq BQ at_ ok CM
  go_wp2_with fail
  refine (oawake_any _).mono ?_
  rintro e w6 ⟨rfl, hb6⟩
  go_wp2_with fail
  go_ret
  exact ⟨rfl, bb2 HB2.out hb6⟩

set_option linter.unusedSimpArgs false in
set_option linter.unusedVariables false in
set_option maxHeartbeats 12800000 in
theorem near_kind (x : OV) (w : World) (hx : x.at_ w) (raw : RawO x) (hk0 : (fewO x.b).ref.kind ≠ 6) :
    Calls Tryz.prog 5 #[oV x] w fun e w' => e = .returned (.bool true) ∧ Below w.heap.size w w' := by
  have HK0 := hide hk0
  clear hk0
  have CF := fun W (h : Below w.heap.size w W) => hide (fewO_any x W (hx.below h) raw)
  have B1 : Below w.heap.size w (w.alloc (.cells #[.int .i64 x.ref.kind, .string x.ref.space, .string x.ref.name, .bool x.good, .slice x.al x.labels.length x.cl, .slice x.ap x.ports.length x.cp, .string x.cls, .slice x.ai x.lis.length x.ci, .slice x.aq x.pars.length x.cq, .slice x.ah x.hosts.length x.ch, .slice x.ar x.rules.length x.cr, .slice x.af x.frm.length x.cf, .slice x.ao x.tos.length x.co] 32)) := (Below.refl _ _).alloc (Nat.le_refl _) _
  clear hx raw
  go_enter Tryz.func5, Tryz.ntmps5
  go_wp2_with fail
  refine (CF _ B1).out.mono ?_
  rintro e w1 ⟨y, rfl, hy, hown, hb1⟩
  have hz : w1.heap[w.heap.size]? = some (.cells #[.int .i64 x.ref.kind, .string x.ref.space, .string x.ref.name, .bool x.good, .slice x.al x.labels.length x.cl, .slice x.ap x.ports.length x.cp, .string x.cls, .slice x.ai x.lis.length x.ci, .slice x.aq x.pars.length x.cq, .slice x.ah x.hosts.length x.ch, .slice x.ar x.rules.length x.cr, .slice x.af x.frm.length x.cf, .slice x.ao x.tos.length x.co] 32) := box_block hb1
  have BB := bb2 B1 hb1
  have lz := liveN hz
  obtain ⟨z0, z1, z2, z3, z4, z5, z6, z7, z8, z9, z10, z11, z12⟩ : _ ∧ _ ∧ _ ∧ _ ∧ _ ∧ _ ∧ _ ∧ _ ∧ _ ∧ _ ∧ _ ∧ _ ∧ _ := ⟨cellN hz (i := 0) rfl, cellN hz (i := 1) rfl, cellN hz (i := 2) rfl, cellN hz (i := 3) rfl, cellN hz (i := 4) rfl, cellN hz (i := 5) rfl, cellN hz (i := 6) rfl, cellN hz (i := 7) rfl, cellN hz (i := 8) rfl, cellN hz (i := 9) rfl, cellN hz (i := 10) rfl, cellN hz (i := 11) rfl, cellN hz (i := 12) rfl⟩
  have K2 := hide (show ((((((((((((((w1.setCell ⟨w.heap.size, 0, none⟩ (.int .i64 y.ref.kind)).setCell ⟨w.heap.size, 1, none⟩ (.string y.ref.space)).setCell ⟨w.heap.size, 2, none⟩ (.string y.ref.name)).setCell ⟨w.heap.size, 3, none⟩ (.bool y.good)).setCell ⟨w.heap.size, 4, none⟩ (.slice y.al y.labels.length y.cl)).setCell ⟨w.heap.size, 5, none⟩ (.slice y.ap y.ports.length y.cp)).setCell ⟨w.heap.size, 6, none⟩ (.string y.cls)).setCell ⟨w.heap.size, 7, none⟩ (.slice y.ai y.lis.length y.ci)).setCell ⟨w.heap.size, 8, none⟩ (.slice y.aq y.pars.length y.cq)).setCell ⟨w.heap.size, 9, none⟩ (.slice y.ah y.hosts.length y.ch)).setCell ⟨w.heap.size, 10, none⟩ (.slice y.ar y.rules.length y.cr)).setCell ⟨w.heap.size, 11, none⟩ (.slice y.af y.frm.length y.cf)).setCell ⟨w.heap.size, 12, none⟩ (.slice y.ao y.tos.length y.co))).heap[w.heap.size]? = some (.cells #[.int .i64 y.ref.kind, .string y.ref.space, .string y.ref.name, .bool y.good, .slice y.al y.labels.length y.cl, .slice y.ap y.ports.length y.cp, .string y.cls, .slice y.ai y.lis.length y.ci, .slice y.aq y.pars.length y.cq, .slice y.ah y.hosts.length y.ch, .slice y.ar y.rules.length y.cr, .slice y.af y.frm.length y.cf, .slice y.ao y.tos.length y.co] 32) from setL_all [.int .i64 y.ref.kind, .string y.ref.space, .string y.ref.name, .bool y.good, .slice y.al y.labels.length y.cl, .slice y.ap y.ports.length y.cp, .string y.cls, .slice y.ai y.lis.length y.ci, .slice y.aq y.pars.length y.cq, .slice y.ah y.hosts.length y.ch, .slice y.ar y.rules.length y.cr, .slice y.af y.frm.length y.cf, .slice y.ao y.tos.length y.co] hz rfl)
  have own2 := hide (show OV.own y (((((((((((((w1.setCell ⟨w.heap.size, 0, none⟩ (.int .i64 y.ref.kind)).setCell ⟨w.heap.size, 1, none⟩ (.string y.ref.space)).setCell ⟨w.heap.size, 2, none⟩ (.string y.ref.name)).setCell ⟨w.heap.size, 3, none⟩ (.bool y.good)).setCell ⟨w.heap.size, 4, none⟩ (.slice y.al y.labels.length y.cl)).setCell ⟨w.heap.size, 5, none⟩ (.slice y.ap y.ports.length y.cp)).setCell ⟨w.heap.size, 6, none⟩ (.string y.cls)).setCell ⟨w.heap.size, 7, none⟩ (.slice y.ai y.lis.length y.ci)).setCell ⟨w.heap.size, 8, none⟩ (.slice y.aq y.pars.length y.cq)).setCell ⟨w.heap.size, 9, none⟩ (.slice y.ah y.hosts.length y.ch)).setCell ⟨w.heap.size, 10, none⟩ (.slice y.ar y.rules.length y.cr)).setCell ⟨w.heap.size, 11, none⟩ (.slice y.af y.frm.length y.cf)).setCell ⟨w.heap.size, 12, none⟩ (.slice y.ao y.tos.length y.co)) from hown.bx ((BX.refl w.heap.size w1.heap.size w1).setL 0 [.int .i64 y.ref.kind, .string y.ref.space, .string y.ref.name, .bool y.good, .slice y.al y.labels.length y.cl, .slice y.ap y.ports.length y.cp, .string y.cls, .slice y.ai y.lis.length y.ci, .slice y.aq y.pars.length y.cq, .slice y.ah y.hosts.length y.ch, .slice y.ar y.rules.length y.cr, .slice y.af y.frm.length y.cf, .slice y.ao y.tos.length y.co]) hz)
  have BB2 := hide (show Below w.heap.size w (((((((((((((w1.setCell ⟨w.heap.size, 0, none⟩ (.int .i64 y.ref.kind)).setCell ⟨w.heap.size, 1, none⟩ (.string y.ref.space)).setCell ⟨w.heap.size, 2, none⟩ (.string y.ref.name)).setCell ⟨w.heap.size, 3, none⟩ (.bool y.good)).setCell ⟨w.heap.size, 4, none⟩ (.slice y.al y.labels.length y.cl)).setCell ⟨w.heap.size, 5, none⟩ (.slice y.ap y.ports.length y.cp)).setCell ⟨w.heap.size, 6, none⟩ (.string y.cls)).setCell ⟨w.heap.size, 7, none⟩ (.slice y.ai y.lis.length y.ci)).setCell ⟨w.heap.size, 8, none⟩ (.slice y.aq y.pars.length y.cq)).setCell ⟨w.heap.size, 9, none⟩ (.slice y.ah y.hosts.length y.ch)).setCell ⟨w.heap.size, 10, none⟩ (.slice y.ar y.rules.length y.cr)).setCell ⟨w.heap.size, 11, none⟩ (.slice y.af y.frm.length y.cf)).setCell ⟨w.heap.size, 12, none⟩ (.slice y.ao y.tos.length y.co)) from setL_below (w := w) (B := w.heap.size) (g := w.heap.size) (Nat.le_refl _) [.int .i64 y.ref.kind, .string y.ref.space, .string y.ref.name, .bool y.good, .slice y.al y.labels.length y.cl, .slice y.ap y.ports.length y.cp, .string y.cls, .slice y.ai y.lis.length y.ci, .slice y.aq y.pars.length y.cq, .slice y.ah y.hosts.length y.ch, .slice y.ar y.rules.length y.cr, .slice y.af y.frm.length y.cf, .slice y.ao y.tos.length y.co] _ 0 BB)
  obtain ⟨d0, d1, d2, d3, d4, d5, d6, d7, d8, d9, d10, d11, d12⟩ : _ ∧ _ ∧ _ ∧ _ ∧ _ ∧ _ ∧ _ ∧ _ ∧ _ ∧ _ ∧ _ ∧ _ ∧ _ := ⟨cellN K2.out (i := 0) rfl, cellN K2.out (i := 1) rfl, cellN K2.out (i := 2) rfl, cellN K2.out (i := 3) rfl, cellN K2.out (i := 4) rfl, cellN K2.out (i := 5) rfl, cellN K2.out (i := 6) rfl, cellN K2.out (i := 7) rfl, cellN K2.out (i := 8) rfl, cellN K2.out (i := 9) rfl, cellN K2.out (i := 10) rfl, cellN K2.out (i := 11) rfl, cellN K2.out (i := 12) rfl⟩
  have ok := fewO_ok hy
  have hne : y.ref.kind ≠ 6 := fun e => HK0.out ((congrArg (fun o : OB => o.ref.kind) hy).symm.trans e)
  have kne : (y.ref.kind == 6) = false := by simpa using hne
  have kne' : (y.ref.kind != 6) = true := by simpa using hne
  clear HK0 hne
  have HOK := hide ok
  have HY := hide hy
  clear hz hown BB B1 hb1 CF hy ok
  go_wp2_with fail
  have kq : ((((((((((((((w1.setCell ⟨w.heap.size, 0, none⟩ (.int .i64 y.ref.kind)).setCell ⟨w.heap.size, 1, none⟩ (.string y.ref.space)).setCell ⟨w.heap.size, 2, none⟩ (.string y.ref.name)).setCell ⟨w.heap.size, 3, none⟩ (.bool y.good)).setCell ⟨w.heap.size, 4, none⟩ (.slice y.al y.labels.length y.cl)).setCell ⟨w.heap.size, 5, none⟩ (.slice y.ap y.ports.length y.cp)).setCell ⟨w.heap.size, 6, none⟩ (.string y.cls)).setCell ⟨w.heap.size, 7, none⟩ (.slice y.ai y.lis.length y.ci)).setCell ⟨w.heap.size, 8, none⟩ (.slice y.aq y.pars.length y.cq)).setCell ⟨w.heap.size, 9, none⟩ (.slice y.ah y.hosts.length y.ch)).setCell ⟨w.heap.size, 10, none⟩ (.slice y.ar y.rules.length y.cr)).setCell ⟨w.heap.size, 11, none⟩ (.slice y.af y.frm.length y.cf)).setCell ⟨w.heap.size, 12, none⟩ (.slice y.ao y.tos.length y.co))).heap[w.heap.size]? = some (.cells #[.int .i64 y.ref.kind, .string y.ref.space, .string y.ref.name, .bool y.good, .slice y.al y.labels.length y.cl, .slice y.ap y.ports.length y.cp, .string y.cls, .slice y.ai y.lis.length y.ci, .slice y.aq y.pars.length y.cq, .slice y.ah y.hosts.length y.ch, .slice y.ar y.rules.length y.cr, .slice y.af y.frm.length y.cf, .slice y.ao y.tos.length y.co] 32) := K2.out
  have ownq : OV.own y (((((((((((((w1.setCell ⟨w.heap.size, 0, none⟩ (.int .i64 y.ref.kind)).setCell ⟨w.heap.size, 1, none⟩ (.string y.ref.space)).setCell ⟨w.heap.size, 2, none⟩ (.string y.ref.name)).setCell ⟨w.heap.size, 3, none⟩ (.bool y.good)).setCell ⟨w.heap.size, 4, none⟩ (.slice y.al y.labels.length y.cl)).setCell ⟨w.heap.size, 5, none⟩ (.slice y.ap y.ports.length y.cp)).setCell ⟨w.heap.size, 6, none⟩ (.string y.cls)).setCell ⟨w.heap.size, 7, none⟩ (.slice y.ai y.lis.length y.ci)).setCell ⟨w.heap.size, 8, none⟩ (.slice y.aq y.pars.length y.cq)).setCell ⟨w.heap.size, 9, none⟩ (.slice y.ah y.hosts.length y.ch)).setCell ⟨w.heap.size, 10, none⟩ (.slice y.ar y.rules.length y.cr)).setCell ⟨w.heap.size, 11, none⟩ (.slice y.af y.frm.length y.cf)).setCell ⟨w.heap.size, 12, none⟩ (.slice y.ao y.tos.length y.co)) := own2.out
  have BQ : Below w.heap.size w (((((((((((((w1.setCell ⟨w.heap.size, 0, none⟩ (.int .i64 y.ref.kind)).setCell ⟨w.heap.size, 1, none⟩ (.string y.ref.space)).setCell ⟨w.heap.size, 2, none⟩ (.string y.ref.name)).setCell ⟨w.heap.size, 3, none⟩ (.bool y.good)).setCell ⟨w.heap.size, 4, none⟩ (.slice y.al y.labels.length y.cl)).setCell ⟨w.heap.size, 5, none⟩ (.slice y.ap y.ports.length y.cp)).setCell ⟨w.heap.size, 6, none⟩ (.string y.cls)).setCell ⟨w.heap.size, 7, none⟩ (.slice y.ai y.lis.length y.ci)).setCell ⟨w.heap.size, 8, none⟩ (.slice y.aq y.pars.length y.cq)).setCell ⟨w.heap.size, 9, none⟩ (.slice y.ah y.hosts.length y.ch)).setCell ⟨w.heap.size, 10, none⟩ (.slice y.ar y.rules.length y.cr)).setCell ⟨w.heap.size, 11, none⟩ (.slice y.af y.frm.length y.cf)).setCell ⟨w.heap.size, 12, none⟩ (.slice y.ao y.tos.length y.co)) := BB2.out
  clear K2 own2 BB2 lz z0 z1 z2 z3 z4 z5 z6 z7 z8 z9 z10 z11 z12 d0 d1 d2 d3 d4 d5 d6 d7 d8 d9 d10 d11 d12
  generalize (((((((((((((w1.setCell ⟨w.heap.size, 0, none⟩ (.int .i64 y.ref.kind)).setCell ⟨w.heap.size, 1, none⟩ (.string y.ref.space)).setCell ⟨w.heap.size, 2, none⟩ (.string y.ref.name)).setCell ⟨w.heap.size, 3, none⟩ (.bool y.good)).setCell ⟨w.heap.size, 4, none⟩ (.slice y.al y.labels.length y.cl)).setCell ⟨w.heap.size, 5, none⟩ (.slice y.ap y.ports.length y.cp)).setCell ⟨w.heap.size, 6, none⟩ (.string y.cls)).setCell ⟨w.heap.size, 7, none⟩ (.slice y.ai y.lis.length y.ci)).setCell ⟨w.heap.size, 8, none⟩ (.slice y.aq y.pars.length y.cq)).setCell ⟨w.heap.size, 9, none⟩ (.slice y.ah y.hosts.length y.ch)).setCell ⟨w.heap.size, 10, none⟩ (.slice y.ar y.rules.length y.cr)).setCell ⟨w.heap.size, 11, none⟩ (.slice y.af y.frm.length y.cf)).setCell ⟨w.heap.size, 12, none⟩ (.slice y.ao y.tos.length y.co)) = V at *
  have at_ := ownq.at_
  have ok := HOK.out
  refine (oawake_any _).mono ?_
  rintro e w6 ⟨rfl, hb6⟩
  go_wp2_with fail
  go_ret
  exact ⟨rfl, bb2 BQ hb6⟩

theorem near_law (v0 : Value) (w : World) (h0 : ArgOb w v0) :
    Calls Tryz.prog 5 #[v0] w fun e w' => e = .returned (.bool true) ∧ Below w.heap.size w w' := by
  obtain ⟨x, rfl, hx, raw⟩ := h0
  by_cases h6 : (fewO x.b).ref.kind = 6
  · cases hm : Ob.mayO (fewO x.b)
    · exact near_not x w hx raw h6 hm
    · exact near_yes x w hx raw h6 hm
  · exact near_kind x w hx raw h6

end Go.Proofs.YthfnjcbiiofkhaaGreatDoor
