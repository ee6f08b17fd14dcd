/-
  The law ObjectLess.
-/
import Derived.Test.YtblmdcpcekoogaaGreatDoorJ17
import Derived.Test.YtblmdcpcekoogaaGreatDoorObFewC
import Derived.Test.YtblmdcpcekoogaaGreatDoorJ18
import Derived.Test.YtblmdcpcekoogaaGreatDoorJ16
import Derived.Test.YtblmdcpcekoogaaGreatDoorJ13
import Derived.Test.YtblmdcpcekoogaaGreatDoorMObjectLess
namespace Go.Proofs.YtblmdcpcekoogaaGreatDoor
set_option maxRecDepth 20000
open Go Go.RowKit Go.Shelf

theorem Sl.sub {α : Type} {E : Elem α} {w : World} {g off n c : Nat} {l : List α} (h : Sl E w (.slice (some ⟨g, off, none⟩) n c) l) (k m c' : Nat) (hm : k + m ≤ l.length) (hc : m ≤ c') (hc' : c' ≤ maxLen) : Sl E w (.slice (some ⟨g, off + k * E.n, none⟩) m c') ((l.drop k).take m) := by
  obtain ⟨a, cap, hv, _, _, hcell⟩ := h
  injection hv with e1
  subst e1
  have hl : ((l.drop k).take m).length = m := by simp; omega
  refine ⟨_, c', by rw [hl], by omega, hc', fun i hi => ?_⟩
  have hi' : k + i < l.length := by omega
  obtain ⟨hA, g', off', he, hlt, hat⟩ := hcell (k + i) hi'
  obtain ⟨rfl, rfl⟩ : g = g' ∧ off = off' := by simpa using he
  have e : ((l.drop k).take m)[i] = l[k + i] := by simp
  rw [e]
  refine ⟨hA, g, off + k * E.n, rfl, hlt, ?_⟩
  have e2 : off + k * E.n + i * E.n = off + (k + i) * E.n := by rw [Nat.add_mul]; omega
  rw [e2]
  exact hat
theorem Sl.parts {α : Type} {E : Elem α} {w : World} {a : Option Addr} {n c : Nat} {l : List α} (h : Sl E w (.slice a n c) l) : l.length ≤ c ∧ c ≤ maxLen ∧ ∀ i (h : i < l.length), E.A l[i] w ∧ ∃ g off, a = some ⟨g, off, none⟩ ∧ g < w.heap.size ∧ E.At w g (off + i * E.n) l[i] := by
  obtain ⟨a', c', hv, h1, h2, h3⟩ := h
  injection hv with e1 e2 e3
  subst e1 e3
  exact ⟨h1, h2, h3⟩
theorem omf {x : OV} {W : World} {b : Bool} (h : Calls Tryz.prog 19 #[oV x] W fun e w' => e = .returned (.bool (Ob.mayO x.b)) ∧ Below W.heap.size W w') (hf : Ob.mayO x.b = b) :
    Calls Tryz.prog 19 #[oV x] W fun e w' => e = .returned (.bool b) ∧ Below W.heap.size W w' := by rwa [hf] at h
theorem map_less {α β : Type} (f : α → β) (l : List α) (k : Nat) : (Ob.less l k).map f = Ob.less (l.map f) k := by simp [Ob.less, List.map_take, List.map_drop]

set_option linter.unusedVariables false in
set_option linter.unusedSimpArgs false in
set_option maxHeartbeats 12800000 in
theorem oless_rules (x : OV) (cb : UInt8) (w : World) (hx : x.at_ w) (raw : RawO x) (hm0 : Ob.mayO (fewO x.b) = true) (h1 : 0 < (fewO x.b).rules.length) :
    Calls Tryz.prog 7 #[oV x, .int .u8 (cb.toNat : Int)] w fun e w' => e = .returned (.bool true) ∧ Below w.heap.size w w' := by
  have HM0 := hide hm0
  have HL0 := hide h1
  clear h1
  clear hm0
  have hn := cb.toNat_lt
  have hwn : IntKind.i64.wrap (cb.toNat : Int) = (cb.toNat : Int) := by rw [IntKind.wrap_i64]; omega
  have CF := fun W (h : Below w.heap.size w W) => hide (fewO_any x W (hx.below h) raw)
  have B1 : Below w.heap.size w (w.alloc (.cells #[.int .i64 x.ref.kind, .string x.ref.space, .string x.ref.name, .bool x.good, .slice x.al x.labels.length x.cl, .slice x.ap x.ports.length x.cp, .string x.cls, .slice x.ai x.lis.length x.ci, .slice x.aq x.pars.length x.cq, .slice x.ah x.hosts.length x.ch, .slice x.ar x.rules.length x.cr, .slice x.af x.frm.length x.cf, .slice x.ao x.tos.length x.co] 55)) := (Below.refl _ _).alloc (Nat.le_refl _) _
  clear hx raw
  go_enter Tryz.func7, Tryz.ntmps7
  go_wp2_with fail
  refine (CF _ B1).out.mono ?_
  rintro e w1 ⟨y, rfl, hy, hown, hb1⟩
  have hz : w1.heap[w.heap.size]? = some (.cells #[.int .i64 x.ref.kind, .string x.ref.space, .string x.ref.name, .bool x.good, .slice x.al x.labels.length x.cl, .slice x.ap x.ports.length x.cp, .string x.cls, .slice x.ai x.lis.length x.ci, .slice x.aq x.pars.length x.cq, .slice x.ah x.hosts.length x.ch, .slice x.ar x.rules.length x.cr, .slice x.af x.frm.length x.cf, .slice x.ao x.tos.length x.co] 55) := box_block hb1
  have BB := bb2 B1 hb1
  have lz := liveN hz
  obtain ⟨z0, z1, z2, z3, z4, z5, z6, z7, z8, z9, z10, z11, z12⟩ : _ ∧ _ ∧ _ ∧ _ ∧ _ ∧ _ ∧ _ ∧ _ ∧ _ ∧ _ ∧ _ ∧ _ ∧ _ := ⟨cellN hz (i := 0) rfl, cellN hz (i := 1) rfl, cellN hz (i := 2) rfl, cellN hz (i := 3) rfl, cellN hz (i := 4) rfl, cellN hz (i := 5) rfl, cellN hz (i := 6) rfl, cellN hz (i := 7) rfl, cellN hz (i := 8) rfl, cellN hz (i := 9) rfl, cellN hz (i := 10) rfl, cellN hz (i := 11) rfl, cellN hz (i := 12) rfl⟩
  have K2 := hide (show ((((((((((((((w1.setCell ⟨w.heap.size, 0, none⟩ (.int .i64 y.ref.kind)).setCell ⟨w.heap.size, 1, none⟩ (.string y.ref.space)).setCell ⟨w.heap.size, 2, none⟩ (.string y.ref.name)).setCell ⟨w.heap.size, 3, none⟩ (.bool y.good)).setCell ⟨w.heap.size, 4, none⟩ (.slice y.al y.labels.length y.cl)).setCell ⟨w.heap.size, 5, none⟩ (.slice y.ap y.ports.length y.cp)).setCell ⟨w.heap.size, 6, none⟩ (.string y.cls)).setCell ⟨w.heap.size, 7, none⟩ (.slice y.ai y.lis.length y.ci)).setCell ⟨w.heap.size, 8, none⟩ (.slice y.aq y.pars.length y.cq)).setCell ⟨w.heap.size, 9, none⟩ (.slice y.ah y.hosts.length y.ch)).setCell ⟨w.heap.size, 10, none⟩ (.slice y.ar y.rules.length y.cr)).setCell ⟨w.heap.size, 11, none⟩ (.slice y.af y.frm.length y.cf)).setCell ⟨w.heap.size, 12, none⟩ (.slice y.ao y.tos.length y.co))).heap[w.heap.size]? = some (.cells #[.int .i64 y.ref.kind, .string y.ref.space, .string y.ref.name, .bool y.good, .slice y.al y.labels.length y.cl, .slice y.ap y.ports.length y.cp, .string y.cls, .slice y.ai y.lis.length y.ci, .slice y.aq y.pars.length y.cq, .slice y.ah y.hosts.length y.ch, .slice y.ar y.rules.length y.cr, .slice y.af y.frm.length y.cf, .slice y.ao y.tos.length y.co] 55) from setL_all [.int .i64 y.ref.kind, .string y.ref.space, .string y.ref.name, .bool y.good, .slice y.al y.labels.length y.cl, .slice y.ap y.ports.length y.cp, .string y.cls, .slice y.ai y.lis.length y.ci, .slice y.aq y.pars.length y.cq, .slice y.ah y.hosts.length y.ch, .slice y.ar y.rules.length y.cr, .slice y.af y.frm.length y.cf, .slice y.ao y.tos.length y.co] hz rfl)
  have own2 := hide (show OV.own y (((((((((((((w1.setCell ⟨w.heap.size, 0, none⟩ (.int .i64 y.ref.kind)).setCell ⟨w.heap.size, 1, none⟩ (.string y.ref.space)).setCell ⟨w.heap.size, 2, none⟩ (.string y.ref.name)).setCell ⟨w.heap.size, 3, none⟩ (.bool y.good)).setCell ⟨w.heap.size, 4, none⟩ (.slice y.al y.labels.length y.cl)).setCell ⟨w.heap.size, 5, none⟩ (.slice y.ap y.ports.length y.cp)).setCell ⟨w.heap.size, 6, none⟩ (.string y.cls)).setCell ⟨w.heap.size, 7, none⟩ (.slice y.ai y.lis.length y.ci)).setCell ⟨w.heap.size, 8, none⟩ (.slice y.aq y.pars.length y.cq)).setCell ⟨w.heap.size, 9, none⟩ (.slice y.ah y.hosts.length y.ch)).setCell ⟨w.heap.size, 10, none⟩ (.slice y.ar y.rules.length y.cr)).setCell ⟨w.heap.size, 11, none⟩ (.slice y.af y.frm.length y.cf)).setCell ⟨w.heap.size, 12, none⟩ (.slice y.ao y.tos.length y.co)) from hown.bx ((BX.refl w.heap.size w1.heap.size w1).setL 0 [.int .i64 y.ref.kind, .string y.ref.space, .string y.ref.name, .bool y.good, .slice y.al y.labels.length y.cl, .slice y.ap y.ports.length y.cp, .string y.cls, .slice y.ai y.lis.length y.ci, .slice y.aq y.pars.length y.cq, .slice y.ah y.hosts.length y.ch, .slice y.ar y.rules.length y.cr, .slice y.af y.frm.length y.cf, .slice y.ao y.tos.length y.co]) hz)
  have BB2 := hide (show Below w.heap.size w (((((((((((((w1.setCell ⟨w.heap.size, 0, none⟩ (.int .i64 y.ref.kind)).setCell ⟨w.heap.size, 1, none⟩ (.string y.ref.space)).setCell ⟨w.heap.size, 2, none⟩ (.string y.ref.name)).setCell ⟨w.heap.size, 3, none⟩ (.bool y.good)).setCell ⟨w.heap.size, 4, none⟩ (.slice y.al y.labels.length y.cl)).setCell ⟨w.heap.size, 5, none⟩ (.slice y.ap y.ports.length y.cp)).setCell ⟨w.heap.size, 6, none⟩ (.string y.cls)).setCell ⟨w.heap.size, 7, none⟩ (.slice y.ai y.lis.length y.ci)).setCell ⟨w.heap.size, 8, none⟩ (.slice y.aq y.pars.length y.cq)).setCell ⟨w.heap.size, 9, none⟩ (.slice y.ah y.hosts.length y.ch)).setCell ⟨w.heap.size, 10, none⟩ (.slice y.ar y.rules.length y.cr)).setCell ⟨w.heap.size, 11, none⟩ (.slice y.af y.frm.length y.cf)).setCell ⟨w.heap.size, 12, none⟩ (.slice y.ao y.tos.length y.co)) from setL_below (w := w) (B := w.heap.size) (g := w.heap.size) (Nat.le_refl _) [.int .i64 y.ref.kind, .string y.ref.space, .string y.ref.name, .bool y.good, .slice y.al y.labels.length y.cl, .slice y.ap y.ports.length y.cp, .string y.cls, .slice y.ai y.lis.length y.ci, .slice y.aq y.pars.length y.cq, .slice y.ah y.hosts.length y.ch, .slice y.ar y.rules.length y.cr, .slice y.af y.frm.length y.cf, .slice y.ao y.tos.length y.co] _ 0 BB)
  obtain ⟨d0, d1, d2, d3, d4, d5, d6, d7, d8, d9, d10, d11, d12⟩ : _ ∧ _ ∧ _ ∧ _ ∧ _ ∧ _ ∧ _ ∧ _ ∧ _ ∧ _ ∧ _ ∧ _ ∧ _ := ⟨cellN K2.out (i := 0) rfl, cellN K2.out (i := 1) rfl, cellN K2.out (i := 2) rfl, cellN K2.out (i := 3) rfl, cellN K2.out (i := 4) rfl, cellN K2.out (i := 5) rfl, cellN K2.out (i := 6) rfl, cellN K2.out (i := 7) rfl, cellN K2.out (i := 8) rfl, cellN K2.out (i := 9) rfl, cellN K2.out (i := 10) rfl, cellN K2.out (i := 11) rfl, cellN K2.out (i := 12) rfl⟩
  have ok := fewO_ok hy
  have HOK := hide ok
  have HY := hide hy
  clear hz hown BB B1 hb1 CF hy ok
  go_wp2_with fail
  have kq : ((((((((((((((w1.setCell ⟨w.heap.size, 0, none⟩ (.int .i64 y.ref.kind)).setCell ⟨w.heap.size, 1, none⟩ (.string y.ref.space)).setCell ⟨w.heap.size, 2, none⟩ (.string y.ref.name)).setCell ⟨w.heap.size, 3, none⟩ (.bool y.good)).setCell ⟨w.heap.size, 4, none⟩ (.slice y.al y.labels.length y.cl)).setCell ⟨w.heap.size, 5, none⟩ (.slice y.ap y.ports.length y.cp)).setCell ⟨w.heap.size, 6, none⟩ (.string y.cls)).setCell ⟨w.heap.size, 7, none⟩ (.slice y.ai y.lis.length y.ci)).setCell ⟨w.heap.size, 8, none⟩ (.slice y.aq y.pars.length y.cq)).setCell ⟨w.heap.size, 9, none⟩ (.slice y.ah y.hosts.length y.ch)).setCell ⟨w.heap.size, 10, none⟩ (.slice y.ar y.rules.length y.cr)).setCell ⟨w.heap.size, 11, none⟩ (.slice y.af y.frm.length y.cf)).setCell ⟨w.heap.size, 12, none⟩ (.slice y.ao y.tos.length y.co))).heap[w.heap.size]? = some (.cells #[.int .i64 y.ref.kind, .string y.ref.space, .string y.ref.name, .bool y.good, .slice y.al y.labels.length y.cl, .slice y.ap y.ports.length y.cp, .string y.cls, .slice y.ai y.lis.length y.ci, .slice y.aq y.pars.length y.cq, .slice y.ah y.hosts.length y.ch, .slice y.ar y.rules.length y.cr, .slice y.af y.frm.length y.cf, .slice y.ao y.tos.length y.co] 55) := K2.out
  have ownq : OV.own y (((((((((((((w1.setCell ⟨w.heap.size, 0, none⟩ (.int .i64 y.ref.kind)).setCell ⟨w.heap.size, 1, none⟩ (.string y.ref.space)).setCell ⟨w.heap.size, 2, none⟩ (.string y.ref.name)).setCell ⟨w.heap.size, 3, none⟩ (.bool y.good)).setCell ⟨w.heap.size, 4, none⟩ (.slice y.al y.labels.length y.cl)).setCell ⟨w.heap.size, 5, none⟩ (.slice y.ap y.ports.length y.cp)).setCell ⟨w.heap.size, 6, none⟩ (.string y.cls)).setCell ⟨w.heap.size, 7, none⟩ (.slice y.ai y.lis.length y.ci)).setCell ⟨w.heap.size, 8, none⟩ (.slice y.aq y.pars.length y.cq)).setCell ⟨w.heap.size, 9, none⟩ (.slice y.ah y.hosts.length y.ch)).setCell ⟨w.heap.size, 10, none⟩ (.slice y.ar y.rules.length y.cr)).setCell ⟨w.heap.size, 11, none⟩ (.slice y.af y.frm.length y.cf)).setCell ⟨w.heap.size, 12, none⟩ (.slice y.ao y.tos.length y.co)) := own2.out
  have BQ : Below w.heap.size w (((((((((((((w1.setCell ⟨w.heap.size, 0, none⟩ (.int .i64 y.ref.kind)).setCell ⟨w.heap.size, 1, none⟩ (.string y.ref.space)).setCell ⟨w.heap.size, 2, none⟩ (.string y.ref.name)).setCell ⟨w.heap.size, 3, none⟩ (.bool y.good)).setCell ⟨w.heap.size, 4, none⟩ (.slice y.al y.labels.length y.cl)).setCell ⟨w.heap.size, 5, none⟩ (.slice y.ap y.ports.length y.cp)).setCell ⟨w.heap.size, 6, none⟩ (.string y.cls)).setCell ⟨w.heap.size, 7, none⟩ (.slice y.ai y.lis.length y.ci)).setCell ⟨w.heap.size, 8, none⟩ (.slice y.aq y.pars.length y.cq)).setCell ⟨w.heap.size, 9, none⟩ (.slice y.ah y.hosts.length y.ch)).setCell ⟨w.heap.size, 10, none⟩ (.slice y.ar y.rules.length y.cr)).setCell ⟨w.heap.size, 11, none⟩ (.slice y.af y.frm.length y.cf)).setCell ⟨w.heap.size, 12, none⟩ (.slice y.ao y.tos.length y.co)) := BB2.out
  clear K2 own2 BB2 lz z0 z1 z2 z3 z4 z5 z6 z7 z8 z9 z10 z11 z12 d0 d1 d2 d3 d4 d5 d6 d7 d8 d9 d10 d11 d12
  generalize (((((((((((((w1.setCell ⟨w.heap.size, 0, none⟩ (.int .i64 y.ref.kind)).setCell ⟨w.heap.size, 1, none⟩ (.string y.ref.space)).setCell ⟨w.heap.size, 2, none⟩ (.string y.ref.name)).setCell ⟨w.heap.size, 3, none⟩ (.bool y.good)).setCell ⟨w.heap.size, 4, none⟩ (.slice y.al y.labels.length y.cl)).setCell ⟨w.heap.size, 5, none⟩ (.slice y.ap y.ports.length y.cp)).setCell ⟨w.heap.size, 6, none⟩ (.string y.cls)).setCell ⟨w.heap.size, 7, none⟩ (.slice y.ai y.lis.length y.ci)).setCell ⟨w.heap.size, 8, none⟩ (.slice y.aq y.pars.length y.cq)).setCell ⟨w.heap.size, 9, none⟩ (.slice y.ah y.hosts.length y.ch)).setCell ⟨w.heap.size, 10, none⟩ (.slice y.ar y.rules.length y.cr)).setCell ⟨w.heap.size, 11, none⟩ (.slice y.af y.frm.length y.cf)).setCell ⟨w.heap.size, 12, none⟩ (.slice y.ao y.tos.length y.co)) = V at *
  have at_ := ownq.at_
  have ok := HOK.out
  have HMAY := hide (omay_any y V at_ ok)
  rw [show Ob.mayO y.b = true by rw [HY.out]; exact HM0.out] at HMAY
  have hmay : Ob.mayO y.b = true := by rw [HY.out]; exact HM0.out
  have hLs : y.rules.length ≤ 7 ∧ y.lis.length ≤ 9 ∧ y.ports.length ≤ 9 ∧ (fewO x.b).rules.length = y.rules.length ∧ (fewO x.b).lis.length = y.lis.length ∧ (fewO x.b).ports.length = y.ports.length := by
    have e1 : y.rules.map RlV.b = (x.b.rules.take 7).map fewRl := congrArg OB.rules HY.out
    have e2 : y.lis.map LiV.b = (x.b.lis.take 9).map fewLi := congrArg OB.lis HY.out
    have e3 : y.ports = x.b.ports.take 9 := congrArg OB.ports HY.out
    have f1 : (fewO x.b).rules.length = (y.rules.map RlV.b).length := by rw [← HY.out]; rfl
    have f2 : (fewO x.b).lis.length = (y.lis.map LiV.b).length := by rw [← HY.out]; rfl
    have f3 : (fewO x.b).ports.length = y.ports.length := by rw [← HY.out]; rfl
    rw [List.length_map] at f1 f2
    have l1 := congrArg List.length e1
    have l2 := congrArg List.length e2
    have l3 := congrArg List.length e3
    simp at l1 l2 l3
    refine ⟨by omega, by omega, by omega, f1, f2, f3⟩
  obtain ⟨hL1, hL2, hL3, g1, g2, g3⟩ := hLs
  have hl0 := HL0.out
  clear HY HOK HL0 HM0
  obtain ⟨⟨ork, ors, orn⟩, ogd, olb, oal, ocl, opo, oap, ocp, ocs, ols, oai, oci, opa, oaq, ocq, oho, oah, och, oru, oar, ocr, ofr, oaf, ocf, oto, oao, oco⟩ := y
  dsimp only at *
  rw [g1] at hl0
  clear g1 g2 g3
  refine HMAY.out.mono ?_
  rintro e w2 ⟨rfl, hb2⟩
  have kq2 := blk_below kq hb2
  obtain ⟨d0, d1, d2, d3, d4, d5, d6, d7, d8, d9, d10, d11, d12⟩ : _ ∧ _ ∧ _ ∧ _ ∧ _ ∧ _ ∧ _ ∧ _ ∧ _ ∧ _ ∧ _ ∧ _ ∧ _ := ⟨cellN kq2 (i := 0) rfl, cellN kq2 (i := 1) rfl, cellN kq2 (i := 2) rfl, cellN kq2 (i := 3) rfl, cellN kq2 (i := 4) rfl, cellN kq2 (i := 5) rfl, cellN kq2 (i := 6) rfl, cellN kq2 (i := 7) rfl, cellN kq2 (i := 8) rfl, cellN kq2 (i := 9) rfl, cellN kq2 (i := 10) rfl, cellN kq2 (i := 11) rfl, cellN kq2 (i := 12) rfl⟩
  have kq3 : (w2.alloc (.cells #[.int .i64 ork, .string ors, .string orn, .bool ogd, .slice oal olb.length ocl, .slice oap opo.length ocp, .string ocs, .slice oai ols.length oci, .slice oaq opa.length ocq, .slice oah oho.length och, .slice oar oru.length ocr, .slice oaf ofr.length ocf, .slice oao oto.length oco] 55)).heap[w.heap.size]? = _ := blk_below kq2 ((Below.refl _ _).alloc (Nat.le_refl _) _)
  have kl3 := alloc_new w2 (.cells #[.int .i64 ork, .string ors, .string orn, .bool ogd, .slice oal olb.length ocl, .slice oap opo.length ocp, .string ocs, .slice oai ols.length oci, .slice oaq opa.length ocq, .slice oah oho.length och, .slice oar oru.length ocr, .slice oaf ofr.length ocf, .slice oao oto.length oco] 55)
  have B23 : Below w2.heap.size w2 (w2.alloc (.cells #[.int .i64 ork, .string ors, .string orn, .bool ogd, .slice oal olb.length ocl, .slice oap opo.length ocp, .string ocs, .slice oai ols.length oci, .slice oaq opa.length ocq, .slice oah oho.length och, .slice oar oru.length ocr, .slice oaf ofr.length ocf, .slice oao oto.length oco] 55)) := (Below.refl _ _).alloc (Nat.le_refl _) _
  have at3 := at_.below (bb2 hb2 B23)
  have f10 := cellN kq3 (i := 10) rfl
  have f7 := cellN kq3 (i := 7) rfl
  have f5 := cellN kq3 (i := 5) rfl
  have hpos : 0 < oru.length := by omega
  have hpos2 : (0 : Int) < (oru.length : Int) := by omega
  have hLsmall : oru.length ≤ 10 := by omega
  clear hl0
  have hkl : cb.toNat % oru.length < oru.length := Nat.mod_lt _ hpos
  have hrem : ((cb.toNat : Int) % (oru.length : Int)) = ((cb.toNat % oru.length : Nat) : Int) := by omega
  have hz3 : ¬ (oru.length : Int) = 0 := by omega
  have SLX : Sl ERl (w2.alloc (.cells #[.int .i64 ork, .string ors, .string orn, .bool ogd, .slice oal olb.length ocl, .slice oap opo.length ocp, .string ocs, .slice oai ols.length oci, .slice oaq opa.length ocq, .slice oah oho.length och, .slice oar oru.length ocr, .slice oaf ofr.length ocf, .slice oao oto.length oco] 55)) (.slice oar oru.length ocr) oru := at3.rules
  generalize hkk : cb.toNat % oru.length = k at *
  clear hkk
  obtain ⟨hcap, hcm, hc⟩ := SLX.parts
  obtain ⟨_, g, off, rfl, hg, _⟩ := hc k hkl
  have SLX : Sl ERl (w2.alloc (.cells #[.int .i64 ork, .string ors, .string orn, .bool ogd, .slice oal olb.length ocl, .slice oap opo.length ocp, .string ocs, .slice oai ols.length oci, .slice oaq opa.length ocq, .slice oah oho.length och, .slice (some ⟨g, off, none⟩) oru.length ocr, .slice oaf ofr.length ocf, .slice oao oto.length oco] 55)) (.slice (some ⟨g, off, none⟩) oru.length ocr) oru := ⟨_, _, rfl, hcap, hcm, hc⟩
  have PRE := hide (show Sl ERl (w2.alloc (.cells #[.int .i64 ork, .string ors, .string orn, .bool ogd, .slice oal olb.length ocl, .slice oap opo.length ocp, .string ocs, .slice oai ols.length oci, .slice oaq opa.length ocq, .slice oah oho.length och, .slice (some ⟨g, off, none⟩) oru.length ocr, .slice oaf ofr.length ocf, .slice oao oto.length oco] 55)) (.slice (some ⟨g, off, none⟩) k ocr) (oru.take k) from by
    have := SLX.sub 0 k ocr (by omega) (by omega) hcm
    simpa using this)
  unfold maxLen at hcm
  have hk1 : (k : Int) < (oru.length : Int) := by omega
  have hk2 : (k : Int) ≤ (oru.length : Int) := by omega
  have hkc : (k : Int) ≤ (ocr : Int) := by omega
  have hwr : IntKind.i64.wrap ((k : Int) + 1) = ((k + 1 : Nat) : Int) := by rw [IntKind.wrap_i64]; omega
  have hm0 : (0 : Int) ≤ ((k + 1 : Nat) : Int) := by omega
  have hm1 : ((k + 1 : Nat) : Int) ≤ (oru.length : Int) := by omega
  have hm2 : ((k + 1 : Nat) : Int) ≤ (ocr : Int) := by omega
  have hm3 : k + 1 ≤ oru.length := by omega
  have hcI : (oru.length : Int) ≤ (ocr : Int) := by omega
  have HSX := hide SLX
  have HAT3 := hide at3
  have HE2 := hide hrem
  clear hc SLX at3
  go_wp2_with fail
  rw [HE2.out]
  clear hrem HE2 hz3
  generalize hX3 : w2.alloc (.cells #[.int .i64 ork, .string ors, .string orn, .bool ogd, .slice oal olb.length ocl, .slice oap opo.length ocp, .string ocs, .slice oai ols.length oci, .slice oaq opa.length ocq, .slice oah oho.length och, .slice (some ⟨g, off, none⟩) oru.length ocr, .slice oaf ofr.length ocf, .slice oao oto.length oco] 55) = X3 at *
  clear hX3
  obtain ⟨T, hT⟩ : ∃ T, T = Ob.less oru k := ⟨_, rfl⟩
  have HT := hide hT
  have HMK : Hid (T = oru.take k ++ oru.drop (k + 1)) := by rw [hT]; rfl
  clear hT
  generalize hmk : k + 1 = m at *
  have hmk2 := hide hmk
  clear hmk
  have n1' : ∀ W, Below X3.heap.size X3 W → W.cell? ⟨w.heap.size, 10, none⟩ = some (.slice (some ⟨g, off, none⟩) oru.length ocr) := fun W h => cellN (blk_below kq3 h) (i := 10) rfl
  have FIN : ∀ v11 wf (hSf : Below X3.heap.size X3 wf) (bs : Nat) (hbs : X3.heap.size ≤ bs) (r11 : wf.ownsRow bs 74 ERl.n v11 (0 + (oru.take k).length + (oru.drop m).length) (ERl.flat ([] ++ oru.take k ++ oru.drop m))),
      ∃ a11 c11, v11 = .slice a11 T.length c11 ∧ (setL wf w2.heap.size 10 [.slice a11 T.length c11]).heap[w2.heap.size]? = some (.cells #[.int .i64 ork, .string ors, .string orn, .bool ogd, .slice oal olb.length ocl, .slice oap opo.length ocp, .string ocs, .slice oai ols.length oci, .slice oaq opa.length ocq, .slice oah oho.length och, .slice a11 T.length c11, .slice oaf ofr.length ocf, .slice oao oto.length oco] 55) ∧ Below w2.heap.size w2 (setL wf w2.heap.size 10 [.slice a11 T.length c11]) ∧ Sl ERl (setL wf w2.heap.size 10 [.slice a11 T.length c11]) (.slice a11 T.length c11) T := by
    intro v11 wf hSf bs hbs r11
    obtain ⟨a11, c11, hv11⟩ := row_form r11
    have hlen : 0 + (oru.take k).length + (oru.drop m).length = T.length := by rw [HMK.out, ← hmk2.out]; simp
    rw [hlen] at hv11
    subst hv11
    rw [hlen, show [] ++ oru.take k ++ oru.drop m = T by rw [HMK.out, ← hmk2.out]; rfl] at r11
    have hz := blk_below kl3 hSf
    refine ⟨a11, c11, rfl, setL_one (g := w2.heap.size) (t := 55) [.int .i64 ork, .string ors, .string orn, .bool ogd, .slice oal olb.length ocl, .slice oap opo.length ocp, .string ocs, .slice oai ols.length oci, .slice oaq opa.length ocq, .slice oah oho.length och] [.slice oaf ofr.length ocf, .slice oao oto.length oco] (.slice (some ⟨g, off, none⟩) oru.length ocr) (.slice a11 T.length c11) wf hz, setL_below (w := w2) (B := w2.heap.size) (g := w2.heap.size) (Nat.le_refl _) [.slice a11 T.length c11] wf 10 (B23.trans (hSf.mono B23.size)), ?_⟩
    refine Sl.of_row (E := ERl) rfl (row_setL (k := 10) (cs := [.slice a11 T.length c11]) r11 hz (by decide)) (fun x hx => ?_)
    exact ERl.below _ _ _ (at_.rules.all x ((Ob.less_sub _ _).subset (by rw [← HT.out]; exact hx))) (setL_below (w := V) (B := V.heap.size) (g := w2.heap.size) hb2.size [.slice a11 T.length c11] wf 10 (bb2 hb2 (B23.trans (hSf.mono B23.size))))
  rcases Classical.em (ocr = m) with hcm2 | hcm2
  · subst hcm2
    have SUF := hide (show Sl ERl X3 (.slice (some ⟨g, off, none⟩) 0 0) (oru.drop ocr) from by
      have := HSX.out.sub 0 0 0 (by omega) (by omega) (by unfold maxLen; omega)
      rw [List.drop_eq_nil_of_le (by omega)]
      simpa using this)
    have hll : oru.length - ocr = 0 := by omega
    have hcc : ocr - ocr = 0 := by omega
    refine wp_region_G 13 (fun W => Below X3.heap.size X3 W) (by kernel_rfl) ((Below.refl _ _).drew) ?_
    refine wpG_take (i := 1) 6 (v := .pointer (some ⟨w.heap.size, 10, none⟩)) rfl (by kernel_rfl) (by kernel_rfl) (by kernel_rfl) (by decide) (by kernel_rfl) (by kernel_rfl) (fun _ _ _ h => h) (Or.inl ⟨by rfl, fun w1 hS => ?_⟩) ?_
    · (try dsimp only at hS)
      go_simp
    simp only [Act.put, List.setIfInBounds_toArray, List.set_cons_zero, List.set_cons_succ]
    refine wpG_take (i := 2) 6 (v := .slice (some ⟨g, off, none⟩) oru.length ocr) rfl (by kernel_rfl) (by kernel_rfl) (by kernel_rfl) (by decide) (by kernel_rfl) (by kernel_rfl) (fun _ _ _ h => h) (Or.inl ⟨by rfl, fun w1 hS => ?_⟩) ?_
    · (try dsimp only at hS)
      go_simp
    simp only [Act.put, List.setIfInBounds_toArray, List.set_cons_zero, List.set_cons_succ]
    refine wpG_take (i := 3) 6 (v := .int .i64 k) rfl (by kernel_rfl) (by kernel_rfl) (by kernel_rfl) (by decide) (by kernel_rfl) (by kernel_rfl) (fun _ _ _ h => h) (Or.inl ⟨by rfl, fun w1 hS => ?_⟩) ?_
    · (try dsimp only at hS)
      go_simp
    simp only [Act.put, List.setIfInBounds_toArray, List.set_cons_zero, List.set_cons_succ]
    refine wpG_take (i := 4) 6 (v := .slice (some ⟨g, off, none⟩) k ocr) rfl (by kernel_rfl) (by kernel_rfl) (by kernel_rfl) (by decide) (by kernel_rfl) (by kernel_rfl) (fun _ _ _ h => h) (Or.inl ⟨by rfl, fun w1 hS => ?_⟩) ?_
    · (try dsimp only at hS)
      go_simp
    simp only [Act.put, List.setIfInBounds_toArray, List.set_cons_zero, List.set_cons_succ]
    refine wpG_take (i := 6) 6 (v := .pointer (some ⟨w.heap.size, 10, none⟩)) rfl (by kernel_rfl) (by kernel_rfl) (by kernel_rfl) (by decide) (by kernel_rfl) (by kernel_rfl) (fun _ _ _ h => h) (Or.inl ⟨by rfl, fun w1 hS => ?_⟩) ?_
    · (try dsimp only at hS)
      go_simp
    simp only [Act.put, List.setIfInBounds_toArray, List.set_cons_zero, List.set_cons_succ]
    refine wpG_take (i := 7) 6 (v := .slice (some ⟨g, off, none⟩) oru.length ocr) rfl (by kernel_rfl) (by kernel_rfl) (by kernel_rfl) (by decide) (by kernel_rfl) (by kernel_rfl) (fun _ _ _ h => h) (Or.inl ⟨by rfl, fun w1 hS => ?_⟩) ?_
    · (try dsimp only at hS)
      go_simp
    simp only [Act.put, List.setIfInBounds_toArray, List.set_cons_zero, List.set_cons_succ]
    refine wpG_take (i := 8) 6 (v := .int .i64 k) rfl (by kernel_rfl) (by kernel_rfl) (by kernel_rfl) (by decide) (by kernel_rfl) (by kernel_rfl) (fun _ _ _ h => h) (Or.inl ⟨by rfl, fun w1 hS => ?_⟩) ?_
    · (try dsimp only at hS)
      go_simp
    simp only [Act.put, List.setIfInBounds_toArray, List.set_cons_zero, List.set_cons_succ]
    refine wpG_take (i := 9) 6 (v := .int .i64 ocr) rfl (by kernel_rfl) (by kernel_rfl) (by kernel_rfl) (by decide) (by kernel_rfl) (by kernel_rfl) (fun _ _ _ h => h) (Or.inl ⟨by rfl, fun w1 hS => ?_⟩) ?_
    · (try dsimp only at hS)
      go_simp
    simp only [Act.put, List.setIfInBounds_toArray, List.set_cons_zero, List.set_cons_succ]
    refine wpG_take (i := 10) 6 (v := .slice (some ⟨g, off, none⟩) 0 0) rfl (by kernel_rfl) (by kernel_rfl) (by kernel_rfl) (by decide) (by kernel_rfl) (by kernel_rfl) (fun _ _ _ h => h) (Or.inl ⟨by rfl, fun w1 hS => ?_⟩) ?_
    · (try dsimp only at hS)
      go_simp
    simp only [Act.put, List.setIfInBounds_toArray, List.set_cons_zero, List.set_cons_succ]
    clear n1'
    refine wpG_ready (rs := [0]) (by kernel_rfl) (by simp) (fun wa hGa hSa i hi => ?_)
    obtain rfl : i = 0 := by simpa using hi
    clear hi
    have R0 := owns_emptyT 74 ERl.n wa _ rfl
    refine wpOp_step rfl (by rfl) (fun K' hK' => ?_)
    replace hK' := hide hK'
    go_simp
    refine hK'.out _ _ (wpG_kept (by decide) (hSa.alloc hSa.size _) ?_)
    clear hK' K'
    refine wpG_ready (rs := [5]) (by kernel_rfl) (by simp) (fun wb hGb hSb i hi => ?_)
    obtain rfl : i = 5 := by simpa using hi
    clear hi
    have R1 := ownsRow_below R0 hGb
    have hab : wa.heap.size ≤ wb.heap.size := (below_box hGb).size
    refine wpOp_step rfl (by rfl) (fun K' hK' => ?_)
    refine wp_append_sl (E := ERl) 52 74 _ 72 Tryz.underlying52 Tryz.infoRl rfl (by decide) _ _ _ rfl wa.heap.size _ 0 [] rfl R1 _ _ rfl (PRE.out.below hSb) (by have := hLsmall; simp; omega) hab ?_
    intro v5 w5 r5 g5
    have hS5 : Below X3.heap.size X3 w5 := hSb.grown g5 (by have := hSa.size; omega) (fun j e => Nat.le_trans hSa.size (ownBlock_ge R1 e))
    have hbw := ((Below.refl wa.heap.size wb).grown g5 hab (fun j e => ownBlock_ge R1 e)).size
    refine hK' _ _ (wpG_kept (by decide) hS5 ?_)
    clear hK' K' hGa hGb hSb R0 g5
    try simp only [Act.put, List.setIfInBounds_toArray, List.set_cons_zero, List.set_cons_succ]
    refine wpG_ready (rs := [11]) (by kernel_rfl) (by simp) (fun wc hGc hSc i hi => ?_)
    obtain rfl : i = 11 := by simpa using hi
    clear hi
    have R2 := ownsRow_below r5 hGc
    have hac : wa.heap.size ≤ wc.heap.size := by have := hGc.size; omega
    refine wpOp_step rfl (by rfl) (fun K' hK' => ?_)
    refine wp_append_sl (E := ERl) 52 74 _ 72 Tryz.underlying52 Tryz.infoRl rfl (by decide) _ _ _ rfl wa.heap.size _ _ _ rfl R2 _ _ rfl (SUF.out.below hSc) (by have := hLsmall; simp; omega) hac ?_
    intro v11 w11 r11 g11
    have hS11 : Below X3.heap.size X3 w11 := hSc.grown g11 (by have := hSa.size; omega) (fun j e => Nat.le_trans hSa.size (ownBlock_ge R2 e))
    refine hK' _ _ (wpG_kept (by decide) hS11 ?_)
    clear hK' K' hGc hSc R1 R2 r5 g11 hS5
    try simp only [Act.put, List.setIfInBounds_toArray, List.set_cons_zero, List.set_cons_succ]
    refine wpG_take (i := 12) 6 (v := .pointer (some ⟨w2.heap.size, 10, none⟩)) rfl (by kernel_rfl) (by kernel_rfl) (by kernel_rfl) (by decide) (by kernel_rfl) (by kernel_rfl) (fun _ _ _ h => h) (Or.inl ⟨by rfl, fun w1 hS => ?_⟩) ?_
    · (try dsimp only at hS)
      go_simp
    simp only [Act.put, List.setIfInBounds_toArray, List.set_cons_zero, List.set_cons_succ]
    refine wpG_ready (rs := [13]) (by kernel_rfl) (by simp) (fun wf hGf hSf i hi => ?_)
    obtain rfl : i = 13 := by simpa using hi
    clear hi
    obtain ⟨a11, c11, rfl, kl4, B24, SL4⟩ := FIN _ wf hSf _ hSa.size (by have := ownsRow_below r11 hGf; simpa using this)
    have hz := blk_below kl3 hSf
    have z2 := cellN hz (i := 10) rfl
    have lz := liveN hz
    have kq4 : (setL wf w2.heap.size 10 [.slice a11 T.length c11]).heap[w.heap.size]? = some (.cells #[.int .i64 ork, .string ors, .string orn, .bool ogd, .slice oal olb.length ocl, .slice oap opo.length ocp, .string ocs, .slice oai ols.length oci, .slice oaq opa.length ocq, .slice oah oho.length och, .slice (some ⟨g, off, none⟩) oru.length ocr, .slice oaf ofr.length ocf, .slice oao oto.length oco] 55) := (setL_far (by have := lt_blk kq2; omega) _ _ _).trans (blk_below kq3 hSf)
    refine wpOp_step rfl (by rfl) (fun K' hK' => ?_)
    go_simp
    refine hK' _ _ (wpG_past (by decide) ?_)
    clear hK' K' z2 lz hz hGf hSf hSa r11 FIN HAT3 HSX PRE SUF
    refine wpAny_end (by kernel_rfl) ?_
    first | change Exit.inBlock _ _ _ _ (setL wf w2.heap.size 10 [.slice a11 T.length c11]) | change Exit.then _ _ _ _ (setL wf w2.heap.size 10 [.slice a11 T.length c11])
    generalize setL wf w2.heap.size 10 [.slice a11 T.length c11] = V4 at *
    have BQ4 := hide (bb2 BQ (bb2 hb2 B24))
    have HAT4 := hide (at_.below (bb2 hb2 B24))
    have HATL : Hid (OV.at_ (⟨⟨ork, ors, orn⟩, ogd, olb, oal, ocl, opo, oap, ocp, ocs, ols, oai, oci, opa, oaq, ocq, oho, oah, och, T, a11, c11, ofr, oaf, ocf, oto, oao, oco⟩ : OV) V4) := hide (let q := HAT4.out; ⟨q.labels, q.ports, q.lis, q.pars, q.hosts, SL4, q.frm, q.tos⟩)
    have HOKL : Hid (OkO (⟨⟨ork, ors, orn⟩, ogd, olb, oal, ocl, opo, oap, ocp, ocs, ols, oai, oci, opa, oaq, ocq, oho, oah, och, T, a11, c11, ofr, oaf, ocf, oto, oao, oco⟩ : OV)) := hide (let q := ok; ⟨q.ref, q.labels, q.cls, q.lis, q.pars, q.hosts, (fun r hr => q.rules r ((Ob.less_sub _ _).subset (by rw [← HT.out]; exact hr))), q.frm, q.tos⟩)
    have HML : Hid (Ob.mayO (OV.b (⟨⟨ork, ors, orn⟩, ogd, olb, oal, ocl, opo, oap, ocp, ocs, ols, oai, oci, opa, oaq, ocq, oho, oah, och, T, a11, c11, ofr, oaf, ocf, oto, oao, oco⟩ : OV)) = true) := by
      have := show Ob.mayO (OV.b ⟨⟨ork, ors, orn⟩, ogd, olb, oal, ocl, opo, oap, ocp, ocs, ols, oai, oci, opa, oaq, ocq, oho, oah, och, T, a11, c11, ofr, oaf, ocf, oto, oao, oco⟩) = true from by have := Ob.less_rules (o := OV.b ⟨⟨ork, ors, orn⟩, ogd, olb, oal, ocl, opo, oap, ocp, ocs, ols, oai, oci, opa, oaq, ocq, oho, oah, och, oru, (some ⟨g, off, none⟩), ocr, ofr, oaf, ocf, oto, oao, oco⟩) hmay (k := k) (by show k < (oru.map RlV.b).length; rw [List.length_map]; exact hkl); rw [show (OV.b (⟨⟨ork, ors, orn⟩, ogd, olb, oal, ocl, opo, oap, ocp, ocs, ols, oai, oci, opa, oaq, ocq, oho, oah, och, oru, (some ⟨g, off, none⟩), ocr, ofr, oaf, ocf, oto, oao, oco⟩ : OV)).rules = oru.map RlV.b from rfl, ← map_less, ← HT.out] at this; (try rw [List.length_map] at this); exact this
      exact this
    clear HMK hmk2

    have okL := HOKL.out
    have atL := HATL.out
    have at4 := HAT4.out
    obtain ⟨o0, o1, o2, o3, o4, o5, o6, o7, o8, o9, o10, o11, o12⟩ : _ ∧ _ ∧ _ ∧ _ ∧ _ ∧ _ ∧ _ ∧ _ ∧ _ ∧ _ ∧ _ ∧ _ ∧ _ := ⟨cellN kq4 (i := 0) rfl, cellN kq4 (i := 1) rfl, cellN kq4 (i := 2) rfl, cellN kq4 (i := 3) rfl, cellN kq4 (i := 4) rfl, cellN kq4 (i := 5) rfl, cellN kq4 (i := 6) rfl, cellN kq4 (i := 7) rfl, cellN kq4 (i := 8) rfl, cellN kq4 (i := 9) rfl, cellN kq4 (i := 10) rfl, cellN kq4 (i := 11) rfl, cellN kq4 (i := 12) rfl⟩
    by_cases h6 : ork = 6
    · subst h6
      have HODD := hide (Ob.odd_cls (o := OV.b ⟨⟨6, ors, orn⟩, ogd, olb, oal, ocl, opo, oap, ocp, ocs, ols, oai, oci, opa, oaq, ocq, oho, oah, och, oru, (some ⟨g, off, none⟩), ocr, ofr, oaf, ocf, oto, oao, oco⟩) rfl ⟨#[99]⟩ rfl)
      have B5 : Below V4.heap.size V4 (V4.alloc (.cells #[.int .i64 6, .string ors, .string orn, .bool ogd, .slice oal olb.length ocl, .slice oap opo.length ocp, .string ⟨#[99]⟩, .slice oai ols.length oci, .slice oaq opa.length ocq, .slice oah oho.length och, .slice (some ⟨g, off, none⟩) oru.length ocr, .slice oaf ofr.length ocf, .slice oao oto.length oco] 55)) := (Below.refl _ _).alloc (Nat.le_refl _) _
      have CL := hide (omay_any (⟨⟨6, ors, orn⟩, ogd, olb, oal, ocl, opo, oap, ocp, ocs, ols, oai, oci, opa, oaq, ocq, oho, oah, och, T, a11, c11, ofr, oaf, ocf, oto, oao, oco⟩) (V4.alloc (.cells #[.int .i64 6, .string ors, .string orn, .bool ogd, .slice oal olb.length ocl, .slice oap opo.length ocp, .string ⟨#[99]⟩, .slice oai ols.length oci, .slice oaq opa.length ocq, .slice oah oho.length och, .slice (some ⟨g, off, none⟩) oru.length ocr, .slice oaf ofr.length ocf, .slice oao oto.length oco] 55)) (atL.below B5) okL)
      have CO := fun W (h : Below V4.heap.size V4 W) => hide (omf (omay_any ⟨⟨6, ors, orn⟩, ogd, olb, oal, ocl, opo, oap, ocp, ⟨#[99]⟩, ols, oai, oci, opa, oaq, ocq, oho, oah, och, oru, (some ⟨g, off, none⟩), ocr, ofr, oaf, ocf, oto, oao, oco⟩ W ⟨at4.labels.below h, at4.ports.below h, at4.lis.below h, at4.pars.below h, at4.hosts.below h, at4.rules.below h, at4.frm.below h, at4.tos.below h⟩ ⟨ok.ref, ok.labels, (show (1 : Nat) ≤ 100 by decide), ok.lis, ok.pars, ok.hosts, ok.rules, ok.frm, ok.tos⟩) HODD.out)
      have KL5 := blk_below kl4 B5
      obtain ⟨l0, l1, l2, l3, l4, l5, l6, l7, l8, l9, l10, l11, l12⟩ : _ ∧ _ ∧ _ ∧ _ ∧ _ ∧ _ ∧ _ ∧ _ ∧ _ ∧ _ ∧ _ ∧ _ ∧ _ := ⟨cellN KL5 (i := 0) rfl, cellN KL5 (i := 1) rfl, cellN KL5 (i := 2) rfl, cellN KL5 (i := 3) rfl, cellN KL5 (i := 4) rfl, cellN KL5 (i := 5) rfl, cellN KL5 (i := 6) rfl, cellN KL5 (i := 7) rfl, cellN KL5 (i := 8) rfl, cellN KL5 (i := 9) rfl, cellN KL5 (i := 10) rfl, cellN KL5 (i := 11) rfl, cellN KL5 (i := 12) rfl⟩
      have HK6 := hide (alloc_new V4 (.cells #[.int .i64 6, .string ors, .string orn, .bool ogd, .slice oal olb.length ocl, .slice oap opo.length ocp, .string ⟨#[99]⟩, .slice oai ols.length oci, .slice oaq opa.length ocq, .slice oah oho.length och, .slice (some ⟨g, off, none⟩) oru.length ocr, .slice oaf ofr.length ocf, .slice oao oto.length oco] 55))
      have p0 : (V4.alloc (.cells #[.int .i64 6, .string ors, .string orn, .bool ogd, .slice oal olb.length ocl, .slice oap opo.length ocp, .string ocs, .slice oai ols.length oci, .slice oaq opa.length ocq, .slice oah oho.length och, .slice (some ⟨g, off, none⟩) oru.length ocr, .slice oaf ofr.length ocf, .slice oao oto.length oco] 55)).cell? ⟨w.heap.size, 0, none⟩ = some (.int .i64 6) := cellN (blk_below kq4 ((Below.refl _ _).alloc (Nat.le_refl _) _)) (i := 0) rfl
      rw [HML.out] at CL
      clear okL atL at4 KL5 kl4
      go_wp2_with fail
      clear p0
      refine CL.out.mono ?_
      rintro e w6 ⟨rfl, hb6⟩
      have K6 := blk_below HK6.out hb6
      have HB6 := hide (bb2 BQ4.out (bb2 B5 hb6))
      have CO1 := hide (CO w6 (bb2 B5 hb6)).out
      obtain ⟨e0, e1, e2, e3, e4, e5, e6, e7, e8, e9, e10, e11, e12⟩ : _ ∧ _ ∧ _ ∧ _ ∧ _ ∧ _ ∧ _ ∧ _ ∧ _ ∧ _ ∧ _ ∧ _ ∧ _ := ⟨cellN K6 (i := 0) rfl, cellN K6 (i := 1) rfl, cellN K6 (i := 2) rfl, cellN K6 (i := 3) rfl, cellN K6 (i := 4) rfl, cellN K6 (i := 5) rfl, cellN K6 (i := 6) rfl, cellN K6 (i := 7) rfl, cellN K6 (i := 8) rfl, cellN K6 (i := 9) rfl, cellN K6 (i := 10) rfl, cellN K6 (i := 11) rfl, cellN K6 (i := 12) rfl⟩
      clear o0 o1 o2 o3 o4 o5 o6 o7 o8 o9 o10 o11 o12 l0 l1 l2 l3 l4 l5 l6 l7 l8 l9 l10 l11 l12 CL CO B5 hb6 K6
      go_wp2_with fail
      refine CO1.out.mono ?_
      rintro e w7 ⟨rfl, hb7⟩
      clear e0 e1 e2 e3 e4 e5 e6 e7 e8 e9 e10 e11 e12 CO1
      go_wp2_with fail
      refine (oawake_any _).mono ?_
      rintro e w8 ⟨rfl, hb8⟩
      go_wp2_with fail
      go_ret
      exact ⟨rfl, bb2 HB6.out (bb2 hb7 hb8)⟩
    · have t6 : (ork == 6) = false := by simpa using h6
      have HODD := hide (Ob.odd_hosts (o := OV.b ⟨⟨ork, ors, orn⟩, ogd, olb, oal, ocl, opo, oap, ocp, ocs, ols, oai, oci, opa, oaq, ocq, oho, oah, och, oru, (some ⟨g, off, none⟩), ocr, ofr, oaf, ocf, oto, oao, oco⟩) h6 [⟨#[97]⟩] (by simp))
      obtain ⟨V5, hV5⟩ : ∃ z, z = (V4.alloc (.cells #[.int .i64 ork, .string ors, .string orn, .bool ogd, .slice oal olb.length ocl, .slice oap opo.length ocp, .string ocs, .slice oai ols.length oci, .slice oaq opa.length ocq, .slice (some ⟨V4.heap.size + 1, 0, none⟩) 1 1, .slice (some ⟨g, off, none⟩) oru.length ocr, .slice oaf ofr.length ocf, .slice oao oto.length oco] 55)).alloc (.cells #[.string ⟨#[97]⟩] 9) := ⟨_, rfl⟩
      have B5 : Below V4.heap.size V4 V5 := by
        rw [hV5]
        exact ((Below.refl _ _).alloc (Nat.le_refl _) _).alloc (by simp) _
      have K5 : V5.heap[V4.heap.size]? = some (.cells #[.int .i64 ork, .string ors, .string orn, .bool ogd, .slice oal olb.length ocl, .slice oap opo.length ocp, .string ocs, .slice oai ols.length oci, .slice oaq opa.length ocq, .slice (some ⟨V4.heap.size + 1, 0, none⟩) 1 1, .slice (some ⟨g, off, none⟩) oru.length ocr, .slice oaf ofr.length ocf, .slice oao oto.length oco] 55) := by
        rw [hV5]
        exact blk_below (alloc_new V4 _) ((Below.refl _ _).alloc (Nat.le_refl _) _)
      have S5 : V5.heap[V4.heap.size + 1]? = some (.cells #[.string ⟨#[97]⟩] 9) := by
        rw [hV5]
        have := alloc_new (V4.alloc (.cells #[.int .i64 ork, .string ors, .string orn, .bool ogd, .slice oal olb.length ocl, .slice oap opo.length ocp, .string ocs, .slice oai ols.length oci, .slice oaq opa.length ocq, .slice (some ⟨V4.heap.size + 1, 0, none⟩) 1 1, .slice (some ⟨g, off, none⟩) oru.length ocr, .slice oaf ofr.length ocf, .slice oao oto.length oco] 55)) (.cells #[.string ⟨#[97]⟩] 9)
        rw [World.size_alloc] at this
        exact this
      have CL := hide (omay_any (⟨⟨ork, ors, orn⟩, ogd, olb, oal, ocl, opo, oap, ocp, ocs, ols, oai, oci, opa, oaq, ocq, oho, oah, och, T, a11, c11, ofr, oaf, ocf, oto, oao, oco⟩) V5 (atL.below B5) okL)
      have SLH : Sl ES V5 (.slice (some ⟨V4.heap.size + 1, 0, none⟩) 1 1) [⟨#[97]⟩] := Sl.at_block (E := ES) (x := ⟨#[97]⟩) S5 trivial
      have CO := fun W (h : Below V5.heap.size V5 W) => hide (omf (omay_any ⟨⟨ork, ors, orn⟩, ogd, olb, oal, ocl, opo, oap, ocp, ocs, ols, oai, oci, opa, oaq, ocq, [⟨#[97]⟩], some ⟨V4.heap.size + 1, 0, none⟩, 1, oru, (some ⟨g, off, none⟩), ocr, ofr, oaf, ocf, oto, oao, oco⟩ W ⟨at4.labels.below (bb2 B5 h), at4.ports.below (bb2 B5 h), at4.lis.below (bb2 B5 h), at4.pars.below (bb2 B5 h), SLH.below h, at4.rules.below (bb2 B5 h), at4.frm.below (bb2 B5 h), at4.tos.below (bb2 B5 h)⟩ ⟨ok.ref, ok.labels, ok.cls, ok.lis, ok.pars, (fun s hs => by rw [List.mem_singleton] at hs; subst hs; exact (show (1 : Nat) ≤ 100 by decide)), ok.rules, ok.frm, ok.tos⟩) HODD.out)
      have KL5 := blk_below kl4 B5
      have HK5 := hide K5
      have HBV5 := hide (bb2 BQ4.out B5)
      rw [HML.out] at CL
      have p0 : (V4.alloc (.cells #[.int .i64 ork, .string ors, .string orn, .bool ogd, .slice oal olb.length ocl, .slice oap opo.length ocp, .string ocs, .slice oai ols.length oci, .slice oaq opa.length ocq, .slice oah oho.length och, .slice (some ⟨g, off, none⟩) oru.length ocr, .slice oaf ofr.length ocf, .slice oao oto.length oco] 55)).cell? ⟨w.heap.size, 0, none⟩ = some (.int .i64 ork) := cellN (blk_below kq4 ((Below.refl _ _).alloc (Nat.le_refl _) _)) (i := 0) rfl
      obtain ⟨l0, l1, l2, l3, l4, l5, l6, l7, l8, l9, l10, l11, l12⟩ : _ ∧ _ ∧ _ ∧ _ ∧ _ ∧ _ ∧ _ ∧ _ ∧ _ ∧ _ ∧ _ ∧ _ ∧ _ := ⟨cellN KL5 (i := 0) rfl, cellN KL5 (i := 1) rfl, cellN KL5 (i := 2) rfl, cellN KL5 (i := 3) rfl, cellN KL5 (i := 4) rfl, cellN KL5 (i := 5) rfl, cellN KL5 (i := 6) rfl, cellN KL5 (i := 7) rfl, cellN KL5 (i := 8) rfl, cellN KL5 (i := 9) rfl, cellN KL5 (i := 10) rfl, cellN KL5 (i := 11) rfl, cellN KL5 (i := 12) rfl⟩
      rw [hV5] at l0 l1 l2 l3 l4 l5 l6 l7 l8 l9 l10 l11 l12
      clear okL atL at4 KL5 kl4 K5 S5
      go_wp2_with fail
      rw [← hV5]
      clear p0 l0 l1 l2 l3 l4 l5 l6 l7 l8 l9 l10 l11 l12 hV5
      refine CL.out.mono ?_
      rintro e w6 ⟨rfl, hb6⟩
      have K6 := blk_below HK5.out hb6
      have HB6 := hide (bb2 HBV5.out hb6)
      have CO1 := hide (CO w6 hb6).out
      obtain ⟨e0, e1, e2, e3, e4, e5, e6, e7, e8, e9, e10, e11, e12⟩ : _ ∧ _ ∧ _ ∧ _ ∧ _ ∧ _ ∧ _ ∧ _ ∧ _ ∧ _ ∧ _ ∧ _ ∧ _ := ⟨cellN K6 (i := 0) rfl, cellN K6 (i := 1) rfl, cellN K6 (i := 2) rfl, cellN K6 (i := 3) rfl, cellN K6 (i := 4) rfl, cellN K6 (i := 5) rfl, cellN K6 (i := 6) rfl, cellN K6 (i := 7) rfl, cellN K6 (i := 8) rfl, cellN K6 (i := 9) rfl, cellN K6 (i := 10) rfl, cellN K6 (i := 11) rfl, cellN K6 (i := 12) rfl⟩
      clear o0 o1 o2 o3 o4 o5 o6 o7 o8 o9 o10 o11 o12 CL CO hb6 K6
      go_wp2_with fail
      refine CO1.out.mono ?_
      rintro e w7 ⟨rfl, hb7⟩
      clear e0 e1 e2 e3 e4 e5 e6 e7 e8 e9 e10 e11 e12 CO1
      go_wp2_with fail
      refine (oawake_any _).mono ?_
      rintro e w8 ⟨rfl, hb8⟩
      go_wp2_with fail
      go_ret
      exact ⟨rfl, bb2 HB6.out (bb2 hb7 hb8)⟩
  · have SUF := hide (show Sl ERl X3 (.slice (some ⟨g, off + m * 3, none⟩) (oru.length - m) (ocr - m)) (oru.drop m) from by
      have := HSX.out.sub m (oru.length - m) (ocr - m) (by omega) (by omega) (by unfold maxLen; omega)
      have e : (oru.drop m).take (oru.length - m) = oru.drop m := List.take_of_length_le (by simp)
      rw [e] at this
      simpa [ERl] using this)
    refine wp_region_G 13 (fun W => Below X3.heap.size X3 W) (by kernel_rfl) ((Below.refl _ _).drew) ?_
    refine wpG_take (i := 1) 6 (v := .pointer (some ⟨w.heap.size, 10, none⟩)) rfl (by kernel_rfl) (by kernel_rfl) (by kernel_rfl) (by decide) (by kernel_rfl) (by kernel_rfl) (fun _ _ _ h => h) (Or.inl ⟨by rfl, fun w1 hS => ?_⟩) ?_
    · (try dsimp only at hS)
      go_simp
    simp only [Act.put, List.setIfInBounds_toArray, List.set_cons_zero, List.set_cons_succ]
    refine wpG_take (i := 2) 6 (v := .slice (some ⟨g, off, none⟩) oru.length ocr) rfl (by kernel_rfl) (by kernel_rfl) (by kernel_rfl) (by decide) (by kernel_rfl) (by kernel_rfl) (fun _ _ _ h => h) (Or.inl ⟨by rfl, fun w1 hS => ?_⟩) ?_
    · (try dsimp only at hS)
      go_simp
    simp only [Act.put, List.setIfInBounds_toArray, List.set_cons_zero, List.set_cons_succ]
    refine wpG_take (i := 3) 6 (v := .int .i64 k) rfl (by kernel_rfl) (by kernel_rfl) (by kernel_rfl) (by decide) (by kernel_rfl) (by kernel_rfl) (fun _ _ _ h => h) (Or.inl ⟨by rfl, fun w1 hS => ?_⟩) ?_
    · (try dsimp only at hS)
      go_simp
    simp only [Act.put, List.setIfInBounds_toArray, List.set_cons_zero, List.set_cons_succ]
    refine wpG_take (i := 4) 6 (v := .slice (some ⟨g, off, none⟩) k ocr) rfl (by kernel_rfl) (by kernel_rfl) (by kernel_rfl) (by decide) (by kernel_rfl) (by kernel_rfl) (fun _ _ _ h => h) (Or.inl ⟨by rfl, fun w1 hS => ?_⟩) ?_
    · (try dsimp only at hS)
      go_simp
    simp only [Act.put, List.setIfInBounds_toArray, List.set_cons_zero, List.set_cons_succ]
    refine wpG_take (i := 6) 6 (v := .pointer (some ⟨w.heap.size, 10, none⟩)) rfl (by kernel_rfl) (by kernel_rfl) (by kernel_rfl) (by decide) (by kernel_rfl) (by kernel_rfl) (fun _ _ _ h => h) (Or.inl ⟨by rfl, fun w1 hS => ?_⟩) ?_
    · (try dsimp only at hS)
      go_simp
    simp only [Act.put, List.setIfInBounds_toArray, List.set_cons_zero, List.set_cons_succ]
    refine wpG_take (i := 7) 6 (v := .slice (some ⟨g, off, none⟩) oru.length ocr) rfl (by kernel_rfl) (by kernel_rfl) (by kernel_rfl) (by decide) (by kernel_rfl) (by kernel_rfl) (fun _ _ _ h => h) (Or.inl ⟨by rfl, fun w1 hS => ?_⟩) ?_
    · (try dsimp only at hS)
      go_simp
    simp only [Act.put, List.setIfInBounds_toArray, List.set_cons_zero, List.set_cons_succ]
    refine wpG_take (i := 8) 6 (v := .int .i64 k) rfl (by kernel_rfl) (by kernel_rfl) (by kernel_rfl) (by decide) (by kernel_rfl) (by kernel_rfl) (fun _ _ _ h => h) (Or.inl ⟨by rfl, fun w1 hS => ?_⟩) ?_
    · (try dsimp only at hS)
      go_simp
    simp only [Act.put, List.setIfInBounds_toArray, List.set_cons_zero, List.set_cons_succ]
    refine wpG_take (i := 9) 6 (v := .int .i64 m) rfl (by kernel_rfl) (by kernel_rfl) (by kernel_rfl) (by decide) (by kernel_rfl) (by kernel_rfl) (fun _ _ _ h => h) (Or.inl ⟨by rfl, fun w1 hS => ?_⟩) ?_
    · (try dsimp only at hS)
      go_simp
    simp only [Act.put, List.setIfInBounds_toArray, List.set_cons_zero, List.set_cons_succ]
    refine wpG_take (i := 10) 6 (v := .slice (some ⟨g, off + m * 3, none⟩) (oru.length - m) (ocr - m)) rfl (by kernel_rfl) (by kernel_rfl) (by kernel_rfl) (by decide) (by kernel_rfl) (by kernel_rfl) (fun _ _ _ h => h) (Or.inl ⟨by rfl, fun w1 hS => ?_⟩) ?_
    · (try dsimp only at hS)
      go_simp
    simp only [Act.put, List.setIfInBounds_toArray, List.set_cons_zero, List.set_cons_succ]
    clear n1'
    refine wpG_ready (rs := [0]) (by kernel_rfl) (by simp) (fun wa hGa hSa i hi => ?_)
    obtain rfl : i = 0 := by simpa using hi
    clear hi
    have R0 := owns_emptyT 74 ERl.n wa _ rfl
    refine wpOp_step rfl (by rfl) (fun K' hK' => ?_)
    replace hK' := hide hK'
    go_simp
    refine hK'.out _ _ (wpG_kept (by decide) (hSa.alloc hSa.size _) ?_)
    clear hK' K'
    refine wpG_ready (rs := [5]) (by kernel_rfl) (by simp) (fun wb hGb hSb i hi => ?_)
    obtain rfl : i = 5 := by simpa using hi
    clear hi
    have R1 := ownsRow_below R0 hGb
    have hab : wa.heap.size ≤ wb.heap.size := (below_box hGb).size
    refine wpOp_step rfl (by rfl) (fun K' hK' => ?_)
    refine wp_append_sl (E := ERl) 52 74 _ 72 Tryz.underlying52 Tryz.infoRl rfl (by decide) _ _ _ rfl wa.heap.size _ 0 [] rfl R1 _ _ rfl (PRE.out.below hSb) (by have := hLsmall; simp; omega) hab ?_
    intro v5 w5 r5 g5
    have hS5 : Below X3.heap.size X3 w5 := hSb.grown g5 (by have := hSa.size; omega) (fun j e => Nat.le_trans hSa.size (ownBlock_ge R1 e))
    have hbw := ((Below.refl wa.heap.size wb).grown g5 hab (fun j e => ownBlock_ge R1 e)).size
    refine hK' _ _ (wpG_kept (by decide) hS5 ?_)
    clear hK' K' hGa hGb hSb R0 g5
    try simp only [Act.put, List.setIfInBounds_toArray, List.set_cons_zero, List.set_cons_succ]
    refine wpG_ready (rs := [11]) (by kernel_rfl) (by simp) (fun wc hGc hSc i hi => ?_)
    obtain rfl : i = 11 := by simpa using hi
    clear hi
    have R2 := ownsRow_below r5 hGc
    have hac : wa.heap.size ≤ wc.heap.size := by have := hGc.size; omega
    refine wpOp_step rfl (by rfl) (fun K' hK' => ?_)
    refine wp_append_sl (E := ERl) 52 74 _ 72 Tryz.underlying52 Tryz.infoRl rfl (by decide) _ _ _ rfl wa.heap.size _ _ _ rfl R2 _ _ rfl (SUF.out.below hSc) (by have := hLsmall; simp; omega) hac ?_
    intro v11 w11 r11 g11
    have hS11 : Below X3.heap.size X3 w11 := hSc.grown g11 (by have := hSa.size; omega) (fun j e => Nat.le_trans hSa.size (ownBlock_ge R2 e))
    refine hK' _ _ (wpG_kept (by decide) hS11 ?_)
    clear hK' K' hGc hSc R1 R2 r5 g11 hS5
    try simp only [Act.put, List.setIfInBounds_toArray, List.set_cons_zero, List.set_cons_succ]
    refine wpG_take (i := 12) 6 (v := .pointer (some ⟨w2.heap.size, 10, none⟩)) rfl (by kernel_rfl) (by kernel_rfl) (by kernel_rfl) (by decide) (by kernel_rfl) (by kernel_rfl) (fun _ _ _ h => h) (Or.inl ⟨by rfl, fun w1 hS => ?_⟩) ?_
    · (try dsimp only at hS)
      go_simp
    simp only [Act.put, List.setIfInBounds_toArray, List.set_cons_zero, List.set_cons_succ]
    refine wpG_ready (rs := [13]) (by kernel_rfl) (by simp) (fun wf hGf hSf i hi => ?_)
    obtain rfl : i = 13 := by simpa using hi
    clear hi
    obtain ⟨a11, c11, rfl, kl4, B24, SL4⟩ := FIN _ wf hSf _ hSa.size (by have := ownsRow_below r11 hGf; simpa using this)
    have hz := blk_below kl3 hSf
    have z2 := cellN hz (i := 10) rfl
    have lz := liveN hz
    have kq4 : (setL wf w2.heap.size 10 [.slice a11 T.length c11]).heap[w.heap.size]? = some (.cells #[.int .i64 ork, .string ors, .string orn, .bool ogd, .slice oal olb.length ocl, .slice oap opo.length ocp, .string ocs, .slice oai ols.length oci, .slice oaq opa.length ocq, .slice oah oho.length och, .slice (some ⟨g, off, none⟩) oru.length ocr, .slice oaf ofr.length ocf, .slice oao oto.length oco] 55) := (setL_far (by have := lt_blk kq2; omega) _ _ _).trans (blk_below kq3 hSf)
    refine wpOp_step rfl (by rfl) (fun K' hK' => ?_)
    go_simp
    refine hK' _ _ (wpG_past (by decide) ?_)
    clear hK' K' z2 lz hz hGf hSf hSa r11 FIN HAT3 HSX PRE SUF
    refine wpAny_end (by kernel_rfl) ?_
    first | change Exit.inBlock _ _ _ _ (setL wf w2.heap.size 10 [.slice a11 T.length c11]) | change Exit.then _ _ _ _ (setL wf w2.heap.size 10 [.slice a11 T.length c11])
    generalize setL wf w2.heap.size 10 [.slice a11 T.length c11] = V4 at *
    have BQ4 := hide (bb2 BQ (bb2 hb2 B24))
    have HAT4 := hide (at_.below (bb2 hb2 B24))
    have HATL : Hid (OV.at_ (⟨⟨ork, ors, orn⟩, ogd, olb, oal, ocl, opo, oap, ocp, ocs, ols, oai, oci, opa, oaq, ocq, oho, oah, och, T, a11, c11, ofr, oaf, ocf, oto, oao, oco⟩ : OV) V4) := hide (let q := HAT4.out; ⟨q.labels, q.ports, q.lis, q.pars, q.hosts, SL4, q.frm, q.tos⟩)
    have HOKL : Hid (OkO (⟨⟨ork, ors, orn⟩, ogd, olb, oal, ocl, opo, oap, ocp, ocs, ols, oai, oci, opa, oaq, ocq, oho, oah, och, T, a11, c11, ofr, oaf, ocf, oto, oao, oco⟩ : OV)) := hide (let q := ok; ⟨q.ref, q.labels, q.cls, q.lis, q.pars, q.hosts, (fun r hr => q.rules r ((Ob.less_sub _ _).subset (by rw [← HT.out]; exact hr))), q.frm, q.tos⟩)
    have HML : Hid (Ob.mayO (OV.b (⟨⟨ork, ors, orn⟩, ogd, olb, oal, ocl, opo, oap, ocp, ocs, ols, oai, oci, opa, oaq, ocq, oho, oah, och, T, a11, c11, ofr, oaf, ocf, oto, oao, oco⟩ : OV)) = true) := by
      have := show Ob.mayO (OV.b ⟨⟨ork, ors, orn⟩, ogd, olb, oal, ocl, opo, oap, ocp, ocs, ols, oai, oci, opa, oaq, ocq, oho, oah, och, T, a11, c11, ofr, oaf, ocf, oto, oao, oco⟩) = true from by have := Ob.less_rules (o := OV.b ⟨⟨ork, ors, orn⟩, ogd, olb, oal, ocl, opo, oap, ocp, ocs, ols, oai, oci, opa, oaq, ocq, oho, oah, och, oru, (some ⟨g, off, none⟩), ocr, ofr, oaf, ocf, oto, oao, oco⟩) hmay (k := k) (by show k < (oru.map RlV.b).length; rw [List.length_map]; exact hkl); rw [show (OV.b (⟨⟨ork, ors, orn⟩, ogd, olb, oal, ocl, opo, oap, ocp, ocs, ols, oai, oci, opa, oaq, ocq, oho, oah, och, oru, (some ⟨g, off, none⟩), ocr, ofr, oaf, ocf, oto, oao, oco⟩ : OV)).rules = oru.map RlV.b from rfl, ← map_less, ← HT.out] at this; (try rw [List.length_map] at this); exact this
      exact this
    clear HMK hmk2

    have okL := HOKL.out
    have atL := HATL.out
    have at4 := HAT4.out
    obtain ⟨o0, o1, o2, o3, o4, o5, o6, o7, o8, o9, o10, o11, o12⟩ : _ ∧ _ ∧ _ ∧ _ ∧ _ ∧ _ ∧ _ ∧ _ ∧ _ ∧ _ ∧ _ ∧ _ ∧ _ := ⟨cellN kq4 (i := 0) rfl, cellN kq4 (i := 1) rfl, cellN kq4 (i := 2) rfl, cellN kq4 (i := 3) rfl, cellN kq4 (i := 4) rfl, cellN kq4 (i := 5) rfl, cellN kq4 (i := 6) rfl, cellN kq4 (i := 7) rfl, cellN kq4 (i := 8) rfl, cellN kq4 (i := 9) rfl, cellN kq4 (i := 10) rfl, cellN kq4 (i := 11) rfl, cellN kq4 (i := 12) rfl⟩
    by_cases h6 : ork = 6
    · subst h6
      have HODD := hide (Ob.odd_cls (o := OV.b ⟨⟨6, ors, orn⟩, ogd, olb, oal, ocl, opo, oap, ocp, ocs, ols, oai, oci, opa, oaq, ocq, oho, oah, och, oru, (some ⟨g, off, none⟩), ocr, ofr, oaf, ocf, oto, oao, oco⟩) rfl ⟨#[99]⟩ rfl)
      have B5 : Below V4.heap.size V4 (V4.alloc (.cells #[.int .i64 6, .string ors, .string orn, .bool ogd, .slice oal olb.length ocl, .slice oap opo.length ocp, .string ⟨#[99]⟩, .slice oai ols.length oci, .slice oaq opa.length ocq, .slice oah oho.length och, .slice (some ⟨g, off, none⟩) oru.length ocr, .slice oaf ofr.length ocf, .slice oao oto.length oco] 55)) := (Below.refl _ _).alloc (Nat.le_refl _) _
      have CL := hide (omay_any (⟨⟨6, ors, orn⟩, ogd, olb, oal, ocl, opo, oap, ocp, ocs, ols, oai, oci, opa, oaq, ocq, oho, oah, och, T, a11, c11, ofr, oaf, ocf, oto, oao, oco⟩) (V4.alloc (.cells #[.int .i64 6, .string ors, .string orn, .bool ogd, .slice oal olb.length ocl, .slice oap opo.length ocp, .string ⟨#[99]⟩, .slice oai ols.length oci, .slice oaq opa.length ocq, .slice oah oho.length och, .slice (some ⟨g, off, none⟩) oru.length ocr, .slice oaf ofr.length ocf, .slice oao oto.length oco] 55)) (atL.below B5) okL)
      have CO := fun W (h : Below V4.heap.size V4 W) => hide (omf (omay_any ⟨⟨6, ors, orn⟩, ogd, olb, oal, ocl, opo, oap, ocp, ⟨#[99]⟩, ols, oai, oci, opa, oaq, ocq, oho, oah, och, oru, (some ⟨g, off, none⟩), ocr, ofr, oaf, ocf, oto, oao, oco⟩ W ⟨at4.labels.below h, at4.ports.below h, at4.lis.below h, at4.pars.below h, at4.hosts.below h, at4.rules.below h, at4.frm.below h, at4.tos.below h⟩ ⟨ok.ref, ok.labels, (show (1 : Nat) ≤ 100 by decide), ok.lis, ok.pars, ok.hosts, ok.rules, ok.frm, ok.tos⟩) HODD.out)
      have KL5 := blk_below kl4 B5
      obtain ⟨l0, l1, l2, l3, l4, l5, l6, l7, l8, l9, l10, l11, l12⟩ : _ ∧ _ ∧ _ ∧ _ ∧ _ ∧ _ ∧ _ ∧ _ ∧ _ ∧ _ ∧ _ ∧ _ ∧ _ := ⟨cellN KL5 (i := 0) rfl, cellN KL5 (i := 1) rfl, cellN KL5 (i := 2) rfl, cellN KL5 (i := 3) rfl, cellN KL5 (i := 4) rfl, cellN KL5 (i := 5) rfl, cellN KL5 (i := 6) rfl, cellN KL5 (i := 7) rfl, cellN KL5 (i := 8) rfl, cellN KL5 (i := 9) rfl, cellN KL5 (i := 10) rfl, cellN KL5 (i := 11) rfl, cellN KL5 (i := 12) rfl⟩
      have HK6 := hide (alloc_new V4 (.cells #[.int .i64 6, .string ors, .string orn, .bool ogd, .slice oal olb.length ocl, .slice oap opo.length ocp, .string ⟨#[99]⟩, .slice oai ols.length oci, .slice oaq opa.length ocq, .slice oah oho.length och, .slice (some ⟨g, off, none⟩) oru.length ocr, .slice oaf ofr.length ocf, .slice oao oto.length oco] 55))
      have p0 : (V4.alloc (.cells #[.int .i64 6, .string ors, .string orn, .bool ogd, .slice oal olb.length ocl, .slice oap opo.length ocp, .string ocs, .slice oai ols.length oci, .slice oaq opa.length ocq, .slice oah oho.length och, .slice (some ⟨g, off, none⟩) oru.length ocr, .slice oaf ofr.length ocf, .slice oao oto.length oco] 55)).cell? ⟨w.heap.size, 0, none⟩ = some (.int .i64 6) := cellN (blk_below kq4 ((Below.refl _ _).alloc (Nat.le_refl _) _)) (i := 0) rfl
      rw [HML.out] at CL
      clear okL atL at4 KL5 kl4
      go_wp2_with fail
      clear p0
      refine CL.out.mono ?_
      rintro e w6 ⟨rfl, hb6⟩
      have K6 := blk_below HK6.out hb6
      have HB6 := hide (bb2 BQ4.out (bb2 B5 hb6))
      have CO1 := hide (CO w6 (bb2 B5 hb6)).out
      obtain ⟨e0, e1, e2, e3, e4, e5, e6, e7, e8, e9, e10, e11, e12⟩ : _ ∧ _ ∧ _ ∧ _ ∧ _ ∧ _ ∧ _ ∧ _ ∧ _ ∧ _ ∧ _ ∧ _ ∧ _ := ⟨cellN K6 (i := 0) rfl, cellN K6 (i := 1) rfl, cellN K6 (i := 2) rfl, cellN K6 (i := 3) rfl, cellN K6 (i := 4) rfl, cellN K6 (i := 5) rfl, cellN K6 (i := 6) rfl, cellN K6 (i := 7) rfl, cellN K6 (i := 8) rfl, cellN K6 (i := 9) rfl, cellN K6 (i := 10) rfl, cellN K6 (i := 11) rfl, cellN K6 (i := 12) rfl⟩
      clear o0 o1 o2 o3 o4 o5 o6 o7 o8 o9 o10 o11 o12 l0 l1 l2 l3 l4 l5 l6 l7 l8 l9 l10 l11 l12 CL CO B5 hb6 K6
      go_wp2_with fail
      refine CO1.out.mono ?_
      rintro e w7 ⟨rfl, hb7⟩
      clear e0 e1 e2 e3 e4 e5 e6 e7 e8 e9 e10 e11 e12 CO1
      go_wp2_with fail
      refine (oawake_any _).mono ?_
      rintro e w8 ⟨rfl, hb8⟩
      go_wp2_with fail
      go_ret
      exact ⟨rfl, bb2 HB6.out (bb2 hb7 hb8)⟩
    · have t6 : (ork == 6) = false := by simpa using h6
      have HODD := hide (Ob.odd_hosts (o := OV.b ⟨⟨ork, ors, orn⟩, ogd, olb, oal, ocl, opo, oap, ocp, ocs, ols, oai, oci, opa, oaq, ocq, oho, oah, och, oru, (some ⟨g, off, none⟩), ocr, ofr, oaf, ocf, oto, oao, oco⟩) h6 [⟨#[97]⟩] (by simp))
      obtain ⟨V5, hV5⟩ : ∃ z, z = (V4.alloc (.cells #[.int .i64 ork, .string ors, .string orn, .bool ogd, .slice oal olb.length ocl, .slice oap opo.length ocp, .string ocs, .slice oai ols.length oci, .slice oaq opa.length ocq, .slice (some ⟨V4.heap.size + 1, 0, none⟩) 1 1, .slice (some ⟨g, off, none⟩) oru.length ocr, .slice oaf ofr.length ocf, .slice oao oto.length oco] 55)).alloc (.cells #[.string ⟨#[97]⟩] 9) := ⟨_, rfl⟩
      have B5 : Below V4.heap.size V4 V5 := by
        rw [hV5]
        exact ((Below.refl _ _).alloc (Nat.le_refl _) _).alloc (by simp) _
      have K5 : V5.heap[V4.heap.size]? = some (.cells #[.int .i64 ork, .string ors, .string orn, .bool ogd, .slice oal olb.length ocl, .slice oap opo.length ocp, .string ocs, .slice oai ols.length oci, .slice oaq opa.length ocq, .slice (some ⟨V4.heap.size + 1, 0, none⟩) 1 1, .slice (some ⟨g, off, none⟩) oru.length ocr, .slice oaf ofr.length ocf, .slice oao oto.length oco] 55) := by
        rw [hV5]
        exact blk_below (alloc_new V4 _) ((Below.refl _ _).alloc (Nat.le_refl _) _)
      have S5 : V5.heap[V4.heap.size + 1]? = some (.cells #[.string ⟨#[97]⟩] 9) := by
        rw [hV5]
        have := alloc_new (V4.alloc (.cells #[.int .i64 ork, .string ors, .string orn, .bool ogd, .slice oal olb.length ocl, .slice oap opo.length ocp, .string ocs, .slice oai ols.length oci, .slice oaq opa.length ocq, .slice (some ⟨V4.heap.size + 1, 0, none⟩) 1 1, .slice (some ⟨g, off, none⟩) oru.length ocr, .slice oaf ofr.length ocf, .slice oao oto.length oco] 55)) (.cells #[.string ⟨#[97]⟩] 9)
        rw [World.size_alloc] at this
        exact this
      have CL := hide (omay_any (⟨⟨ork, ors, orn⟩, ogd, olb, oal, ocl, opo, oap, ocp, ocs, ols, oai, oci, opa, oaq, ocq, oho, oah, och, T, a11, c11, ofr, oaf, ocf, oto, oao, oco⟩) V5 (atL.below B5) okL)
      have SLH : Sl ES V5 (.slice (some ⟨V4.heap.size + 1, 0, none⟩) 1 1) [⟨#[97]⟩] := Sl.at_block (E := ES) (x := ⟨#[97]⟩) S5 trivial
      have CO := fun W (h : Below V5.heap.size V5 W) => hide (omf (omay_any ⟨⟨ork, ors, orn⟩, ogd, olb, oal, ocl, opo, oap, ocp, ocs, ols, oai, oci, opa, oaq, ocq, [⟨#[97]⟩], some ⟨V4.heap.size + 1, 0, none⟩, 1, oru, (some ⟨g, off, none⟩), ocr, ofr, oaf, ocf, oto, oao, oco⟩ W ⟨at4.labels.below (bb2 B5 h), at4.ports.below (bb2 B5 h), at4.lis.below (bb2 B5 h), at4.pars.below (bb2 B5 h), SLH.below h, at4.rules.below (bb2 B5 h), at4.frm.below (bb2 B5 h), at4.tos.below (bb2 B5 h)⟩ ⟨ok.ref, ok.labels, ok.cls, ok.lis, ok.pars, (fun s hs => by rw [List.mem_singleton] at hs; subst hs; exact (show (1 : Nat) ≤ 100 by decide)), ok.rules, ok.frm, ok.tos⟩) HODD.out)
      have KL5 := blk_below kl4 B5
      have HK5 := hide K5
      have HBV5 := hide (bb2 BQ4.out B5)
      rw [HML.out] at CL
      have p0 : (V4.alloc (.cells #[.int .i64 ork, .string ors, .string orn, .bool ogd, .slice oal olb.length ocl, .slice oap opo.length ocp, .string ocs, .slice oai ols.length oci, .slice oaq opa.length ocq, .slice oah oho.length och, .slice (some ⟨g, off, none⟩) oru.length ocr, .slice oaf ofr.length ocf, .slice oao oto.length oco] 55)).cell? ⟨w.heap.size, 0, none⟩ = some (.int .i64 ork) := cellN (blk_below kq4 ((Below.refl _ _).alloc (Nat.le_refl _) _)) (i := 0) rfl
      obtain ⟨l0, l1, l2, l3, l4, l5, l6, l7, l8, l9, l10, l11, l12⟩ : _ ∧ _ ∧ _ ∧ _ ∧ _ ∧ _ ∧ _ ∧ _ ∧ _ ∧ _ ∧ _ ∧ _ ∧ _ := ⟨cellN KL5 (i := 0) rfl, cellN KL5 (i := 1) rfl, cellN KL5 (i := 2) rfl, cellN KL5 (i := 3) rfl, cellN KL5 (i := 4) rfl, cellN KL5 (i := 5) rfl, cellN KL5 (i := 6) rfl, cellN KL5 (i := 7) rfl, cellN KL5 (i := 8) rfl, cellN KL5 (i := 9) rfl, cellN KL5 (i := 10) rfl, cellN KL5 (i := 11) rfl, cellN KL5 (i := 12) rfl⟩
      rw [hV5] at l0 l1 l2 l3 l4 l5 l6 l7 l8 l9 l10 l11 l12
      clear okL atL at4 KL5 kl4 K5 S5
      go_wp2_with fail
      rw [← hV5]
      clear p0 l0 l1 l2 l3 l4 l5 l6 l7 l8 l9 l10 l11 l12 hV5
      refine CL.out.mono ?_
      rintro e w6 ⟨rfl, hb6⟩
      have K6 := blk_below HK5.out hb6
      have HB6 := hide (bb2 HBV5.out hb6)
      have CO1 := hide (CO w6 hb6).out
      obtain ⟨e0, e1, e2, e3, e4, e5, e6, e7, e8, e9, e10, e11, e12⟩ : _ ∧ _ ∧ _ ∧ _ ∧ _ ∧ _ ∧ _ ∧ _ ∧ _ ∧ _ ∧ _ ∧ _ ∧ _ := ⟨cellN K6 (i := 0) rfl, cellN K6 (i := 1) rfl, cellN K6 (i := 2) rfl, cellN K6 (i := 3) rfl, cellN K6 (i := 4) rfl, cellN K6 (i := 5) rfl, cellN K6 (i := 6) rfl, cellN K6 (i := 7) rfl, cellN K6 (i := 8) rfl, cellN K6 (i := 9) rfl, cellN K6 (i := 10) rfl, cellN K6 (i := 11) rfl, cellN K6 (i := 12) rfl⟩
      clear o0 o1 o2 o3 o4 o5 o6 o7 o8 o9 o10 o11 o12 CL CO hb6 K6
      go_wp2_with fail
      refine CO1.out.mono ?_
      rintro e w7 ⟨rfl, hb7⟩
      clear e0 e1 e2 e3 e4 e5 e6 e7 e8 e9 e10 e11 e12 CO1
      go_wp2_with fail
      refine (oawake_any _).mono ?_
      rintro e w8 ⟨rfl, hb8⟩
      go_wp2_with fail
      go_ret
      exact ⟨rfl, bb2 HB6.out (bb2 hb7 hb8)⟩

set_option linter.unusedVariables false in
set_option linter.unusedSimpArgs false in
set_option maxHeartbeats 12800000 in
theorem oless_lis (x : OV) (cb : UInt8) (w : World) (hx : x.at_ w) (raw : RawO x) (hm0 : Ob.mayO (fewO x.b) = true) (h1 : (fewO x.b).rules.length = 0 ∧ 0 < (fewO x.b).lis.length) :
    Calls Tryz.prog 7 #[oV x, .int .u8 (cb.toNat : Int)] w fun e w' => e = .returned (.bool true) ∧ Below w.heap.size w w' := by
  have HM0 := hide hm0
  have HL0 := hide h1
  clear h1
  clear hm0
  have hn := cb.toNat_lt
  have hwn : IntKind.i64.wrap (cb.toNat : Int) = (cb.toNat : Int) := by rw [IntKind.wrap_i64]; omega
  have CF := fun W (h : Below w.heap.size w W) => hide (fewO_any x W (hx.below h) raw)
  have B1 : Below w.heap.size w (w.alloc (.cells #[.int .i64 x.ref.kind, .string x.ref.space, .string x.ref.name, .bool x.good, .slice x.al x.labels.length x.cl, .slice x.ap x.ports.length x.cp, .string x.cls, .slice x.ai x.lis.length x.ci, .slice x.aq x.pars.length x.cq, .slice x.ah x.hosts.length x.ch, .slice x.ar x.rules.length x.cr, .slice x.af x.frm.length x.cf, .slice x.ao x.tos.length x.co] 55)) := (Below.refl _ _).alloc (Nat.le_refl _) _
  clear hx raw
  go_enter Tryz.func7, Tryz.ntmps7
  go_wp2_with fail
  refine (CF _ B1).out.mono ?_
  rintro e w1 ⟨y, rfl, hy, hown, hb1⟩
  have hz : w1.heap[w.heap.size]? = some (.cells #[.int .i64 x.ref.kind, .string x.ref.space, .string x.ref.name, .bool x.good, .slice x.al x.labels.length x.cl, .slice x.ap x.ports.length x.cp, .string x.cls, .slice x.ai x.lis.length x.ci, .slice x.aq x.pars.length x.cq, .slice x.ah x.hosts.length x.ch, .slice x.ar x.rules.length x.cr, .slice x.af x.frm.length x.cf, .slice x.ao x.tos.length x.co] 55) := box_block hb1
  have BB := bb2 B1 hb1
  have lz := liveN hz
  obtain ⟨z0, z1, z2, z3, z4, z5, z6, z7, z8, z9, z10, z11, z12⟩ : _ ∧ _ ∧ _ ∧ _ ∧ _ ∧ _ ∧ _ ∧ _ ∧ _ ∧ _ ∧ _ ∧ _ ∧ _ := ⟨cellN hz (i := 0) rfl, cellN hz (i := 1) rfl, cellN hz (i := 2) rfl, cellN hz (i := 3) rfl, cellN hz (i := 4) rfl, cellN hz (i := 5) rfl, cellN hz (i := 6) rfl, cellN hz (i := 7) rfl, cellN hz (i := 8) rfl, cellN hz (i := 9) rfl, cellN hz (i := 10) rfl, cellN hz (i := 11) rfl, cellN hz (i := 12) rfl⟩
  have K2 := hide (show ((((((((((((((w1.setCell ⟨w.heap.size, 0, none⟩ (.int .i64 y.ref.kind)).setCell ⟨w.heap.size, 1, none⟩ (.string y.ref.space)).setCell ⟨w.heap.size, 2, none⟩ (.string y.ref.name)).setCell ⟨w.heap.size, 3, none⟩ (.bool y.good)).setCell ⟨w.heap.size, 4, none⟩ (.slice y.al y.labels.length y.cl)).setCell ⟨w.heap.size, 5, none⟩ (.slice y.ap y.ports.length y.cp)).setCell ⟨w.heap.size, 6, none⟩ (.string y.cls)).setCell ⟨w.heap.size, 7, none⟩ (.slice y.ai y.lis.length y.ci)).setCell ⟨w.heap.size, 8, none⟩ (.slice y.aq y.pars.length y.cq)).setCell ⟨w.heap.size, 9, none⟩ (.slice y.ah y.hosts.length y.ch)).setCell ⟨w.heap.size, 10, none⟩ (.slice y.ar y.rules.length y.cr)).setCell ⟨w.heap.size, 11, none⟩ (.slice y.af y.frm.length y.cf)).setCell ⟨w.heap.size, 12, none⟩ (.slice y.ao y.tos.length y.co))).heap[w.heap.size]? = some (.cells #[.int .i64 y.ref.kind, .string y.ref.space, .string y.ref.name, .bool y.good, .slice y.al y.labels.length y.cl, .slice y.ap y.ports.length y.cp, .string y.cls, .slice y.ai y.lis.length y.ci, .slice y.aq y.pars.length y.cq, .slice y.ah y.hosts.length y.ch, .slice y.ar y.rules.length y.cr, .slice y.af y.frm.length y.cf, .slice y.ao y.tos.length y.co] 55) from setL_all [.int .i64 y.ref.kind, .string y.ref.space, .string y.ref.name, .bool y.good, .slice y.al y.labels.length y.cl, .slice y.ap y.ports.length y.cp, .string y.cls, .slice y.ai y.lis.length y.ci, .slice y.aq y.pars.length y.cq, .slice y.ah y.hosts.length y.ch, .slice y.ar y.rules.length y.cr, .slice y.af y.frm.length y.cf, .slice y.ao y.tos.length y.co] hz rfl)
  have own2 := hide (show OV.own y (((((((((((((w1.setCell ⟨w.heap.size, 0, none⟩ (.int .i64 y.ref.kind)).setCell ⟨w.heap.size, 1, none⟩ (.string y.ref.space)).setCell ⟨w.heap.size, 2, none⟩ (.string y.ref.name)).setCell ⟨w.heap.size, 3, none⟩ (.bool y.good)).setCell ⟨w.heap.size, 4, none⟩ (.slice y.al y.labels.length y.cl)).setCell ⟨w.heap.size, 5, none⟩ (.slice y.ap y.ports.length y.cp)).setCell ⟨w.heap.size, 6, none⟩ (.string y.cls)).setCell ⟨w.heap.size, 7, none⟩ (.slice y.ai y.lis.length y.ci)).setCell ⟨w.heap.size, 8, none⟩ (.slice y.aq y.pars.length y.cq)).setCell ⟨w.heap.size, 9, none⟩ (.slice y.ah y.hosts.length y.ch)).setCell ⟨w.heap.size, 10, none⟩ (.slice y.ar y.rules.length y.cr)).setCell ⟨w.heap.size, 11, none⟩ (.slice y.af y.frm.length y.cf)).setCell ⟨w.heap.size, 12, none⟩ (.slice y.ao y.tos.length y.co)) from hown.bx ((BX.refl w.heap.size w1.heap.size w1).setL 0 [.int .i64 y.ref.kind, .string y.ref.space, .string y.ref.name, .bool y.good, .slice y.al y.labels.length y.cl, .slice y.ap y.ports.length y.cp, .string y.cls, .slice y.ai y.lis.length y.ci, .slice y.aq y.pars.length y.cq, .slice y.ah y.hosts.length y.ch, .slice y.ar y.rules.length y.cr, .slice y.af y.frm.length y.cf, .slice y.ao y.tos.length y.co]) hz)
  have BB2 := hide (show Below w.heap.size w (((((((((((((w1.setCell ⟨w.heap.size, 0, none⟩ (.int .i64 y.ref.kind)).setCell ⟨w.heap.size, 1, none⟩ (.string y.ref.space)).setCell ⟨w.heap.size, 2, none⟩ (.string y.ref.name)).setCell ⟨w.heap.size, 3, none⟩ (.bool y.good)).setCell ⟨w.heap.size, 4, none⟩ (.slice y.al y.labels.length y.cl)).setCell ⟨w.heap.size, 5, none⟩ (.slice y.ap y.ports.length y.cp)).setCell ⟨w.heap.size, 6, none⟩ (.string y.cls)).setCell ⟨w.heap.size, 7, none⟩ (.slice y.ai y.lis.length y.ci)).setCell ⟨w.heap.size, 8, none⟩ (.slice y.aq y.pars.length y.cq)).setCell ⟨w.heap.size, 9, none⟩ (.slice y.ah y.hosts.length y.ch)).setCell ⟨w.heap.size, 10, none⟩ (.slice y.ar y.rules.length y.cr)).setCell ⟨w.heap.size, 11, none⟩ (.slice y.af y.frm.length y.cf)).setCell ⟨w.heap.size, 12, none⟩ (.slice y.ao y.tos.length y.co)) from setL_below (w := w) (B := w.heap.size) (g := w.heap.size) (Nat.le_refl _) [.int .i64 y.ref.kind, .string y.ref.space, .string y.ref.name, .bool y.good, .slice y.al y.labels.length y.cl, .slice y.ap y.ports.length y.cp, .string y.cls, .slice y.ai y.lis.length y.ci, .slice y.aq y.pars.length y.cq, .slice y.ah y.hosts.length y.ch, .slice y.ar y.rules.length y.cr, .slice y.af y.frm.length y.cf, .slice y.ao y.tos.length y.co] _ 0 BB)
  obtain ⟨d0, d1, d2, d3, d4, d5, d6, d7, d8, d9, d10, d11, d12⟩ : _ ∧ _ ∧ _ ∧ _ ∧ _ ∧ _ ∧ _ ∧ _ ∧ _ ∧ _ ∧ _ ∧ _ ∧ _ := ⟨cellN K2.out (i := 0) rfl, cellN K2.out (i := 1) rfl, cellN K2.out (i := 2) rfl, cellN K2.out (i := 3) rfl, cellN K2.out (i := 4) rfl, cellN K2.out (i := 5) rfl, cellN K2.out (i := 6) rfl, cellN K2.out (i := 7) rfl, cellN K2.out (i := 8) rfl, cellN K2.out (i := 9) rfl, cellN K2.out (i := 10) rfl, cellN K2.out (i := 11) rfl, cellN K2.out (i := 12) rfl⟩
  have ok := fewO_ok hy
  have HOK := hide ok
  have HY := hide hy
  clear hz hown BB B1 hb1 CF hy ok
  go_wp2_with fail
  have kq : ((((((((((((((w1.setCell ⟨w.heap.size, 0, none⟩ (.int .i64 y.ref.kind)).setCell ⟨w.heap.size, 1, none⟩ (.string y.ref.space)).setCell ⟨w.heap.size, 2, none⟩ (.string y.ref.name)).setCell ⟨w.heap.size, 3, none⟩ (.bool y.good)).setCell ⟨w.heap.size, 4, none⟩ (.slice y.al y.labels.length y.cl)).setCell ⟨w.heap.size, 5, none⟩ (.slice y.ap y.ports.length y.cp)).setCell ⟨w.heap.size, 6, none⟩ (.string y.cls)).setCell ⟨w.heap.size, 7, none⟩ (.slice y.ai y.lis.length y.ci)).setCell ⟨w.heap.size, 8, none⟩ (.slice y.aq y.pars.length y.cq)).setCell ⟨w.heap.size, 9, none⟩ (.slice y.ah y.hosts.length y.ch)).setCell ⟨w.heap.size, 10, none⟩ (.slice y.ar y.rules.length y.cr)).setCell ⟨w.heap.size, 11, none⟩ (.slice y.af y.frm.length y.cf)).setCell ⟨w.heap.size, 12, none⟩ (.slice y.ao y.tos.length y.co))).heap[w.heap.size]? = some (.cells #[.int .i64 y.ref.kind, .string y.ref.space, .string y.ref.name, .bool y.good, .slice y.al y.labels.length y.cl, .slice y.ap y.ports.length y.cp, .string y.cls, .slice y.ai y.lis.length y.ci, .slice y.aq y.pars.length y.cq, .slice y.ah y.hosts.length y.ch, .slice y.ar y.rules.length y.cr, .slice y.af y.frm.length y.cf, .slice y.ao y.tos.length y.co] 55) := K2.out
  have ownq : OV.own y (((((((((((((w1.setCell ⟨w.heap.size, 0, none⟩ (.int .i64 y.ref.kind)).setCell ⟨w.heap.size, 1, none⟩ (.string y.ref.space)).setCell ⟨w.heap.size, 2, none⟩ (.string y.ref.name)).setCell ⟨w.heap.size, 3, none⟩ (.bool y.good)).setCell ⟨w.heap.size, 4, none⟩ (.slice y.al y.labels.length y.cl)).setCell ⟨w.heap.size, 5, none⟩ (.slice y.ap y.ports.length y.cp)).setCell ⟨w.heap.size, 6, none⟩ (.string y.cls)).setCell ⟨w.heap.size, 7, none⟩ (.slice y.ai y.lis.length y.ci)).setCell ⟨w.heap.size, 8, none⟩ (.slice y.aq y.pars.length y.cq)).setCell ⟨w.heap.size, 9, none⟩ (.slice y.ah y.hosts.length y.ch)).setCell ⟨w.heap.size, 10, none⟩ (.slice y.ar y.rules.length y.cr)).setCell ⟨w.heap.size, 11, none⟩ (.slice y.af y.frm.length y.cf)).setCell ⟨w.heap.size, 12, none⟩ (.slice y.ao y.tos.length y.co)) := own2.out
  have BQ : Below w.heap.size w (((((((((((((w1.setCell ⟨w.heap.size, 0, none⟩ (.int .i64 y.ref.kind)).setCell ⟨w.heap.size, 1, none⟩ (.string y.ref.space)).setCell ⟨w.heap.size, 2, none⟩ (.string y.ref.name)).setCell ⟨w.heap.size, 3, none⟩ (.bool y.good)).setCell ⟨w.heap.size, 4, none⟩ (.slice y.al y.labels.length y.cl)).setCell ⟨w.heap.size, 5, none⟩ (.slice y.ap y.ports.length y.cp)).setCell ⟨w.heap.size, 6, none⟩ (.string y.cls)).setCell ⟨w.heap.size, 7, none⟩ (.slice y.ai y.lis.length y.ci)).setCell ⟨w.heap.size, 8, none⟩ (.slice y.aq y.pars.length y.cq)).setCell ⟨w.heap.size, 9, none⟩ (.slice y.ah y.hosts.length y.ch)).setCell ⟨w.heap.size, 10, none⟩ (.slice y.ar y.rules.length y.cr)).setCell ⟨w.heap.size, 11, none⟩ (.slice y.af y.frm.length y.cf)).setCell ⟨w.heap.size, 12, none⟩ (.slice y.ao y.tos.length y.co)) := BB2.out
  clear K2 own2 BB2 lz z0 z1 z2 z3 z4 z5 z6 z7 z8 z9 z10 z11 z12 d0 d1 d2 d3 d4 d5 d6 d7 d8 d9 d10 d11 d12
  generalize (((((((((((((w1.setCell ⟨w.heap.size, 0, none⟩ (.int .i64 y.ref.kind)).setCell ⟨w.heap.size, 1, none⟩ (.string y.ref.space)).setCell ⟨w.heap.size, 2, none⟩ (.string y.ref.name)).setCell ⟨w.heap.size, 3, none⟩ (.bool y.good)).setCell ⟨w.heap.size, 4, none⟩ (.slice y.al y.labels.length y.cl)).setCell ⟨w.heap.size, 5, none⟩ (.slice y.ap y.ports.length y.cp)).setCell ⟨w.heap.size, 6, none⟩ (.string y.cls)).setCell ⟨w.heap.size, 7, none⟩ (.slice y.ai y.lis.length y.ci)).setCell ⟨w.heap.size, 8, none⟩ (.slice y.aq y.pars.length y.cq)).setCell ⟨w.heap.size, 9, none⟩ (.slice y.ah y.hosts.length y.ch)).setCell ⟨w.heap.size, 10, none⟩ (.slice y.ar y.rules.length y.cr)).setCell ⟨w.heap.size, 11, none⟩ (.slice y.af y.frm.length y.cf)).setCell ⟨w.heap.size, 12, none⟩ (.slice y.ao y.tos.length y.co)) = V at *
  have at_ := ownq.at_
  have ok := HOK.out
  have HMAY := hide (omay_any y V at_ ok)
  rw [show Ob.mayO y.b = true by rw [HY.out]; exact HM0.out] at HMAY
  have hmay : Ob.mayO y.b = true := by rw [HY.out]; exact HM0.out
  have hLs : y.rules.length ≤ 7 ∧ y.lis.length ≤ 9 ∧ y.ports.length ≤ 9 ∧ (fewO x.b).rules.length = y.rules.length ∧ (fewO x.b).lis.length = y.lis.length ∧ (fewO x.b).ports.length = y.ports.length := by
    have e1 : y.rules.map RlV.b = (x.b.rules.take 7).map fewRl := congrArg OB.rules HY.out
    have e2 : y.lis.map LiV.b = (x.b.lis.take 9).map fewLi := congrArg OB.lis HY.out
    have e3 : y.ports = x.b.ports.take 9 := congrArg OB.ports HY.out
    have f1 : (fewO x.b).rules.length = (y.rules.map RlV.b).length := by rw [← HY.out]; rfl
    have f2 : (fewO x.b).lis.length = (y.lis.map LiV.b).length := by rw [← HY.out]; rfl
    have f3 : (fewO x.b).ports.length = y.ports.length := by rw [← HY.out]; rfl
    rw [List.length_map] at f1 f2
    have l1 := congrArg List.length e1
    have l2 := congrArg List.length e2
    have l3 := congrArg List.length e3
    simp at l1 l2 l3
    refine ⟨by omega, by omega, by omega, f1, f2, f3⟩
  obtain ⟨hL1, hL2, hL3, g1, g2, g3⟩ := hLs
  have hl0 := HL0.out
  clear HY HOK HL0 HM0
  obtain ⟨⟨ork, ors, orn⟩, ogd, olb, oal, ocl, opo, oap, ocp, ocs, ols, oai, oci, opa, oaq, ocq, oho, oah, och, oru, oar, ocr, ofr, oaf, ocf, oto, oao, oco⟩ := y
  dsimp only at *
  rw [g1, g2] at hl0
  clear g1 g2 g3
  refine HMAY.out.mono ?_
  rintro e w2 ⟨rfl, hb2⟩
  have kq2 := blk_below kq hb2
  obtain ⟨d0, d1, d2, d3, d4, d5, d6, d7, d8, d9, d10, d11, d12⟩ : _ ∧ _ ∧ _ ∧ _ ∧ _ ∧ _ ∧ _ ∧ _ ∧ _ ∧ _ ∧ _ ∧ _ ∧ _ := ⟨cellN kq2 (i := 0) rfl, cellN kq2 (i := 1) rfl, cellN kq2 (i := 2) rfl, cellN kq2 (i := 3) rfl, cellN kq2 (i := 4) rfl, cellN kq2 (i := 5) rfl, cellN kq2 (i := 6) rfl, cellN kq2 (i := 7) rfl, cellN kq2 (i := 8) rfl, cellN kq2 (i := 9) rfl, cellN kq2 (i := 10) rfl, cellN kq2 (i := 11) rfl, cellN kq2 (i := 12) rfl⟩
  have kq3 : (w2.alloc (.cells #[.int .i64 ork, .string ors, .string orn, .bool ogd, .slice oal olb.length ocl, .slice oap opo.length ocp, .string ocs, .slice oai ols.length oci, .slice oaq opa.length ocq, .slice oah oho.length och, .slice oar oru.length ocr, .slice oaf ofr.length ocf, .slice oao oto.length oco] 55)).heap[w.heap.size]? = _ := blk_below kq2 ((Below.refl _ _).alloc (Nat.le_refl _) _)
  have kl3 := alloc_new w2 (.cells #[.int .i64 ork, .string ors, .string orn, .bool ogd, .slice oal olb.length ocl, .slice oap opo.length ocp, .string ocs, .slice oai ols.length oci, .slice oaq opa.length ocq, .slice oah oho.length och, .slice oar oru.length ocr, .slice oaf ofr.length ocf, .slice oao oto.length oco] 55)
  have B23 : Below w2.heap.size w2 (w2.alloc (.cells #[.int .i64 ork, .string ors, .string orn, .bool ogd, .slice oal olb.length ocl, .slice oap opo.length ocp, .string ocs, .slice oai ols.length oci, .slice oaq opa.length ocq, .slice oah oho.length och, .slice oar oru.length ocr, .slice oaf ofr.length ocf, .slice oao oto.length oco] 55)) := (Below.refl _ _).alloc (Nat.le_refl _) _
  have at3 := at_.below (bb2 hb2 B23)
  have f10 := cellN kq3 (i := 10) rfl
  have f7 := cellN kq3 (i := 7) rfl
  have f5 := cellN kq3 (i := 5) rfl
  have z_oru : ¬ (0 : Int) < (oru.length : Int) := by omega
  have hpos : 0 < ols.length := by omega
  have hpos2 : (0 : Int) < (ols.length : Int) := by omega
  have hLsmall : ols.length ≤ 10 := by omega
  obtain ⟨bb, hbb⟩ : ∃ z, z = decide (1 < ols.length) := ⟨_, rfl⟩
  have HBB : Hid (decide (1 < ols.length) = bb) := hbb.symm
  have hb1 : decide ((1 : Int) < (ols.length : Int)) = bb := by rw [hbb, decide_eq_decide]; omega
  clear hbb
  clear hl0
  have hkl : cb.toNat % ols.length < ols.length := Nat.mod_lt _ hpos
  have hrem : ((cb.toNat : Int) % (ols.length : Int)) = ((cb.toNat % ols.length : Nat) : Int) := by omega
  have hz3 : ¬ (ols.length : Int) = 0 := by omega
  have SLX : Sl ELi (w2.alloc (.cells #[.int .i64 ork, .string ors, .string orn, .bool ogd, .slice oal olb.length ocl, .slice oap opo.length ocp, .string ocs, .slice oai ols.length oci, .slice oaq opa.length ocq, .slice oah oho.length och, .slice oar oru.length ocr, .slice oaf ofr.length ocf, .slice oao oto.length oco] 55)) (.slice oai ols.length oci) ols := at3.lis
  generalize hkk : cb.toNat % ols.length = k at *
  clear hkk
  obtain ⟨hcap, hcm, hc⟩ := SLX.parts
  obtain ⟨_, g, off, rfl, hg, _⟩ := hc k hkl
  have SLX : Sl ELi (w2.alloc (.cells #[.int .i64 ork, .string ors, .string orn, .bool ogd, .slice oal olb.length ocl, .slice oap opo.length ocp, .string ocs, .slice (some ⟨g, off, none⟩) ols.length oci, .slice oaq opa.length ocq, .slice oah oho.length och, .slice oar oru.length ocr, .slice oaf ofr.length ocf, .slice oao oto.length oco] 55)) (.slice (some ⟨g, off, none⟩) ols.length oci) ols := ⟨_, _, rfl, hcap, hcm, hc⟩
  have PRE := hide (show Sl ELi (w2.alloc (.cells #[.int .i64 ork, .string ors, .string orn, .bool ogd, .slice oal olb.length ocl, .slice oap opo.length ocp, .string ocs, .slice (some ⟨g, off, none⟩) ols.length oci, .slice oaq opa.length ocq, .slice oah oho.length och, .slice oar oru.length ocr, .slice oaf ofr.length ocf, .slice oao oto.length oco] 55)) (.slice (some ⟨g, off, none⟩) k oci) (ols.take k) from by
    have := SLX.sub 0 k oci (by omega) (by omega) hcm
    simpa using this)
  unfold maxLen at hcm
  have hk1 : (k : Int) < (ols.length : Int) := by omega
  have hk2 : (k : Int) ≤ (ols.length : Int) := by omega
  have hkc : (k : Int) ≤ (oci : Int) := by omega
  have hwr : IntKind.i64.wrap ((k : Int) + 1) = ((k + 1 : Nat) : Int) := by rw [IntKind.wrap_i64]; omega
  have hm0 : (0 : Int) ≤ ((k + 1 : Nat) : Int) := by omega
  have hm1 : ((k + 1 : Nat) : Int) ≤ (ols.length : Int) := by omega
  have hm2 : ((k + 1 : Nat) : Int) ≤ (oci : Int) := by omega
  have hm3 : k + 1 ≤ ols.length := by omega
  have hcI : (ols.length : Int) ≤ (oci : Int) := by omega
  have HSX := hide SLX
  have HAT3 := hide at3
  have HE2 := hide hrem
  clear hc SLX at3
  go_wp2_with fail
  rw [HE2.out]
  clear hrem HE2 hz3
  generalize hX3 : w2.alloc (.cells #[.int .i64 ork, .string ors, .string orn, .bool ogd, .slice oal olb.length ocl, .slice oap opo.length ocp, .string ocs, .slice (some ⟨g, off, none⟩) ols.length oci, .slice oaq opa.length ocq, .slice oah oho.length och, .slice oar oru.length ocr, .slice oaf ofr.length ocf, .slice oao oto.length oco] 55) = X3 at *
  clear hX3
  obtain ⟨T, hT⟩ : ∃ T, T = Ob.less ols k := ⟨_, rfl⟩
  have HT := hide hT
  have HMK : Hid (T = ols.take k ++ ols.drop (k + 1)) := by rw [hT]; rfl
  clear hT
  generalize hmk : k + 1 = m at *
  have hmk2 := hide hmk
  clear hmk
  have n1' : ∀ W, Below X3.heap.size X3 W → W.cell? ⟨w.heap.size, 7, none⟩ = some (.slice (some ⟨g, off, none⟩) ols.length oci) := fun W h => cellN (blk_below kq3 h) (i := 7) rfl
  have FIN : ∀ v11 wf (hSf : Below X3.heap.size X3 wf) (bs : Nat) (hbs : X3.heap.size ≤ bs) (r11 : wf.ownsRow bs 106 ELi.n v11 (0 + (ols.take k).length + (ols.drop m).length) (ELi.flat ([] ++ ols.take k ++ ols.drop m))),
      ∃ a11 c11, v11 = .slice a11 T.length c11 ∧ (setL wf w2.heap.size 7 [.slice a11 T.length c11]).heap[w2.heap.size]? = some (.cells #[.int .i64 ork, .string ors, .string orn, .bool ogd, .slice oal olb.length ocl, .slice oap opo.length ocp, .string ocs, .slice a11 T.length c11, .slice oaq opa.length ocq, .slice oah oho.length och, .slice oar oru.length ocr, .slice oaf ofr.length ocf, .slice oao oto.length oco] 55) ∧ Below w2.heap.size w2 (setL wf w2.heap.size 7 [.slice a11 T.length c11]) ∧ Sl ELi (setL wf w2.heap.size 7 [.slice a11 T.length c11]) (.slice a11 T.length c11) T := by
    intro v11 wf hSf bs hbs r11
    obtain ⟨a11, c11, hv11⟩ := row_form r11
    have hlen : 0 + (ols.take k).length + (ols.drop m).length = T.length := by rw [HMK.out, ← hmk2.out]; simp
    rw [hlen] at hv11
    subst hv11
    rw [hlen, show [] ++ ols.take k ++ ols.drop m = T by rw [HMK.out, ← hmk2.out]; rfl] at r11
    have hz := blk_below kl3 hSf
    refine ⟨a11, c11, rfl, setL_one (g := w2.heap.size) (t := 55) [.int .i64 ork, .string ors, .string orn, .bool ogd, .slice oal olb.length ocl, .slice oap opo.length ocp, .string ocs] [.slice oaq opa.length ocq, .slice oah oho.length och, .slice oar oru.length ocr, .slice oaf ofr.length ocf, .slice oao oto.length oco] (.slice (some ⟨g, off, none⟩) ols.length oci) (.slice a11 T.length c11) wf hz, setL_below (w := w2) (B := w2.heap.size) (g := w2.heap.size) (Nat.le_refl _) [.slice a11 T.length c11] wf 7 (B23.trans (hSf.mono B23.size)), ?_⟩
    refine Sl.of_row (E := ELi) rfl (row_setL (k := 7) (cs := [.slice a11 T.length c11]) r11 hz (by decide)) (fun x hx => ?_)
    exact ELi.below _ _ _ (at_.lis.all x ((Ob.less_sub _ _).subset (by rw [← HT.out]; exact hx))) (setL_below (w := V) (B := V.heap.size) (g := w2.heap.size) hb2.size [.slice a11 T.length c11] wf 7 (bb2 hb2 (B23.trans (hSf.mono B23.size))))
  rcases Classical.em (oci = m) with hcm2 | hcm2
  · subst hcm2
    have SUF := hide (show Sl ELi X3 (.slice (some ⟨g, off, none⟩) 0 0) (ols.drop oci) from by
      have := HSX.out.sub 0 0 0 (by omega) (by omega) (by unfold maxLen; omega)
      rw [List.drop_eq_nil_of_le (by omega)]
      simpa using this)
    have hll : ols.length - oci = 0 := by omega
    have hcc : oci - oci = 0 := by omega
    refine wp_region_G 13 (fun W => Below X3.heap.size X3 W) (by kernel_rfl) ((Below.refl _ _).drew) ?_
    refine wpG_take (i := 1) 6 (v := .pointer (some ⟨w.heap.size, 7, none⟩)) rfl (by kernel_rfl) (by kernel_rfl) (by kernel_rfl) (by decide) (by kernel_rfl) (by kernel_rfl) (fun _ _ _ h => h) (Or.inl ⟨by rfl, fun w1 hS => ?_⟩) ?_
    · (try dsimp only at hS)
      go_simp
    simp only [Act.put, List.setIfInBounds_toArray, List.set_cons_zero, List.set_cons_succ]
    refine wpG_take (i := 2) 6 (v := .slice (some ⟨g, off, none⟩) ols.length oci) rfl (by kernel_rfl) (by kernel_rfl) (by kernel_rfl) (by decide) (by kernel_rfl) (by kernel_rfl) (fun _ _ _ h => h) (Or.inl ⟨by rfl, fun w1 hS => ?_⟩) ?_
    · (try dsimp only at hS)
      go_simp
    simp only [Act.put, List.setIfInBounds_toArray, List.set_cons_zero, List.set_cons_succ]
    refine wpG_take (i := 3) 6 (v := .int .i64 k) rfl (by kernel_rfl) (by kernel_rfl) (by kernel_rfl) (by decide) (by kernel_rfl) (by kernel_rfl) (fun _ _ _ h => h) (Or.inl ⟨by rfl, fun w1 hS => ?_⟩) ?_
    · (try dsimp only at hS)
      go_simp
    simp only [Act.put, List.setIfInBounds_toArray, List.set_cons_zero, List.set_cons_succ]
    refine wpG_take (i := 4) 6 (v := .slice (some ⟨g, off, none⟩) k oci) rfl (by kernel_rfl) (by kernel_rfl) (by kernel_rfl) (by decide) (by kernel_rfl) (by kernel_rfl) (fun _ _ _ h => h) (Or.inl ⟨by rfl, fun w1 hS => ?_⟩) ?_
    · (try dsimp only at hS)
      go_simp
    simp only [Act.put, List.setIfInBounds_toArray, List.set_cons_zero, List.set_cons_succ]
    refine wpG_take (i := 6) 6 (v := .pointer (some ⟨w.heap.size, 7, none⟩)) rfl (by kernel_rfl) (by kernel_rfl) (by kernel_rfl) (by decide) (by kernel_rfl) (by kernel_rfl) (fun _ _ _ h => h) (Or.inl ⟨by rfl, fun w1 hS => ?_⟩) ?_
    · (try dsimp only at hS)
      go_simp
    simp only [Act.put, List.setIfInBounds_toArray, List.set_cons_zero, List.set_cons_succ]
    refine wpG_take (i := 7) 6 (v := .slice (some ⟨g, off, none⟩) ols.length oci) rfl (by kernel_rfl) (by kernel_rfl) (by kernel_rfl) (by decide) (by kernel_rfl) (by kernel_rfl) (fun _ _ _ h => h) (Or.inl ⟨by rfl, fun w1 hS => ?_⟩) ?_
    · (try dsimp only at hS)
      go_simp
    simp only [Act.put, List.setIfInBounds_toArray, List.set_cons_zero, List.set_cons_succ]
    refine wpG_take (i := 8) 6 (v := .int .i64 k) rfl (by kernel_rfl) (by kernel_rfl) (by kernel_rfl) (by decide) (by kernel_rfl) (by kernel_rfl) (fun _ _ _ h => h) (Or.inl ⟨by rfl, fun w1 hS => ?_⟩) ?_
    · (try dsimp only at hS)
      go_simp
    simp only [Act.put, List.setIfInBounds_toArray, List.set_cons_zero, List.set_cons_succ]
    refine wpG_take (i := 9) 6 (v := .int .i64 oci) rfl (by kernel_rfl) (by kernel_rfl) (by kernel_rfl) (by decide) (by kernel_rfl) (by kernel_rfl) (fun _ _ _ h => h) (Or.inl ⟨by rfl, fun w1 hS => ?_⟩) ?_
    · (try dsimp only at hS)
      go_simp
    simp only [Act.put, List.setIfInBounds_toArray, List.set_cons_zero, List.set_cons_succ]
    refine wpG_take (i := 10) 6 (v := .slice (some ⟨g, off, none⟩) 0 0) rfl (by kernel_rfl) (by kernel_rfl) (by kernel_rfl) (by decide) (by kernel_rfl) (by kernel_rfl) (fun _ _ _ h => h) (Or.inl ⟨by rfl, fun w1 hS => ?_⟩) ?_
    · (try dsimp only at hS)
      go_simp
    simp only [Act.put, List.setIfInBounds_toArray, List.set_cons_zero, List.set_cons_succ]
    clear n1'
    refine wpG_ready (rs := [0]) (by kernel_rfl) (by simp) (fun wa hGa hSa i hi => ?_)
    obtain rfl : i = 0 := by simpa using hi
    clear hi
    have R0 := owns_emptyT 106 ELi.n wa _ rfl
    refine wpOp_step rfl (by rfl) (fun K' hK' => ?_)
    replace hK' := hide hK'
    go_simp
    refine hK'.out _ _ (wpG_kept (by decide) (hSa.alloc hSa.size _) ?_)
    clear hK' K'
    refine wpG_ready (rs := [5]) (by kernel_rfl) (by simp) (fun wb hGb hSb i hi => ?_)
    obtain rfl : i = 5 := by simpa using hi
    clear hi
    have R1 := ownsRow_below R0 hGb
    have hab : wa.heap.size ≤ wb.heap.size := (below_box hGb).size
    refine wpOp_step rfl (by rfl) (fun K' hK' => ?_)
    refine wp_append_sl (E := ELi) 49 106 _ 120 Tryz.underlying49 Tryz.infoLi rfl (by decide) _ _ _ rfl wa.heap.size _ 0 [] rfl R1 _ _ rfl (PRE.out.below hSb) (by have := hLsmall; simp; omega) hab ?_
    intro v5 w5 r5 g5
    have hS5 : Below X3.heap.size X3 w5 := hSb.grown g5 (by have := hSa.size; omega) (fun j e => Nat.le_trans hSa.size (ownBlock_ge R1 e))
    have hbw := ((Below.refl wa.heap.size wb).grown g5 hab (fun j e => ownBlock_ge R1 e)).size
    refine hK' _ _ (wpG_kept (by decide) hS5 ?_)
    clear hK' K' hGa hGb hSb R0 g5
    try simp only [Act.put, List.setIfInBounds_toArray, List.set_cons_zero, List.set_cons_succ]
    refine wpG_ready (rs := [11]) (by kernel_rfl) (by simp) (fun wc hGc hSc i hi => ?_)
    obtain rfl : i = 11 := by simpa using hi
    clear hi
    have R2 := ownsRow_below r5 hGc
    have hac : wa.heap.size ≤ wc.heap.size := by have := hGc.size; omega
    refine wpOp_step rfl (by rfl) (fun K' hK' => ?_)
    refine wp_append_sl (E := ELi) 49 106 _ 120 Tryz.underlying49 Tryz.infoLi rfl (by decide) _ _ _ rfl wa.heap.size _ _ _ rfl R2 _ _ rfl (SUF.out.below hSc) (by have := hLsmall; simp; omega) hac ?_
    intro v11 w11 r11 g11
    have hS11 : Below X3.heap.size X3 w11 := hSc.grown g11 (by have := hSa.size; omega) (fun j e => Nat.le_trans hSa.size (ownBlock_ge R2 e))
    refine hK' _ _ (wpG_kept (by decide) hS11 ?_)
    clear hK' K' hGc hSc R1 R2 r5 g11 hS5
    try simp only [Act.put, List.setIfInBounds_toArray, List.set_cons_zero, List.set_cons_succ]
    refine wpG_take (i := 12) 6 (v := .pointer (some ⟨w2.heap.size, 7, none⟩)) rfl (by kernel_rfl) (by kernel_rfl) (by kernel_rfl) (by decide) (by kernel_rfl) (by kernel_rfl) (fun _ _ _ h => h) (Or.inl ⟨by rfl, fun w1 hS => ?_⟩) ?_
    · (try dsimp only at hS)
      go_simp
    simp only [Act.put, List.setIfInBounds_toArray, List.set_cons_zero, List.set_cons_succ]
    refine wpG_ready (rs := [13]) (by kernel_rfl) (by simp) (fun wf hGf hSf i hi => ?_)
    obtain rfl : i = 13 := by simpa using hi
    clear hi
    obtain ⟨a11, c11, rfl, kl4, B24, SL4⟩ := FIN _ wf hSf _ hSa.size (by have := ownsRow_below r11 hGf; simpa using this)
    have hz := blk_below kl3 hSf
    have z2 := cellN hz (i := 7) rfl
    have lz := liveN hz
    have kq4 : (setL wf w2.heap.size 7 [.slice a11 T.length c11]).heap[w.heap.size]? = some (.cells #[.int .i64 ork, .string ors, .string orn, .bool ogd, .slice oal olb.length ocl, .slice oap opo.length ocp, .string ocs, .slice (some ⟨g, off, none⟩) ols.length oci, .slice oaq opa.length ocq, .slice oah oho.length och, .slice oar oru.length ocr, .slice oaf ofr.length ocf, .slice oao oto.length oco] 55) := (setL_far (by have := lt_blk kq2; omega) _ _ _).trans (blk_below kq3 hSf)
    refine wpOp_step rfl (by rfl) (fun K' hK' => ?_)
    go_simp
    refine hK' _ _ (wpG_past (by decide) ?_)
    clear hK' K' z2 lz hz hGf hSf hSa r11 FIN HAT3 HSX PRE SUF
    refine wpAny_end (by kernel_rfl) ?_
    first | change Exit.inBlock _ _ _ _ (setL wf w2.heap.size 7 [.slice a11 T.length c11]) | change Exit.then _ _ _ _ (setL wf w2.heap.size 7 [.slice a11 T.length c11])
    generalize setL wf w2.heap.size 7 [.slice a11 T.length c11] = V4 at *
    have BQ4 := hide (bb2 BQ (bb2 hb2 B24))
    have HAT4 := hide (at_.below (bb2 hb2 B24))
    have HATL : Hid (OV.at_ (⟨⟨ork, ors, orn⟩, ogd, olb, oal, ocl, opo, oap, ocp, ocs, T, a11, c11, opa, oaq, ocq, oho, oah, och, oru, oar, ocr, ofr, oaf, ocf, oto, oao, oco⟩ : OV) V4) := hide (let q := HAT4.out; ⟨q.labels, q.ports, SL4, q.pars, q.hosts, q.rules, q.frm, q.tos⟩)
    have HOKL : Hid (OkO (⟨⟨ork, ors, orn⟩, ogd, olb, oal, ocl, opo, oap, ocp, ocs, T, a11, c11, opa, oaq, ocq, oho, oah, och, oru, oar, ocr, ofr, oaf, ocf, oto, oao, oco⟩ : OV)) := hide (let q := ok; ⟨q.ref, q.labels, q.cls, (fun r hr => q.lis r ((Ob.less_sub _ _).subset (by rw [← HT.out]; exact hr))), q.pars, q.hosts, q.rules, q.frm, q.tos⟩)
    have HML : Hid (Ob.mayO (OV.b (⟨⟨ork, ors, orn⟩, ogd, olb, oal, ocl, opo, oap, ocp, ocs, T, a11, c11, opa, oaq, ocq, oho, oah, och, oru, oar, ocr, ofr, oaf, ocf, oto, oao, oco⟩ : OV)) = bb) := by
      have := show Ob.mayO (OV.b ⟨⟨ork, ors, orn⟩, ogd, olb, oal, ocl, opo, oap, ocp, ocs, T, a11, c11, opa, oaq, ocq, oho, oah, och, oru, oar, ocr, ofr, oaf, ocf, oto, oao, oco⟩) = bb from by have := Ob.less_lis (o := OV.b ⟨⟨ork, ors, orn⟩, ogd, olb, oal, ocl, opo, oap, ocp, ocs, ols, (some ⟨g, off, none⟩), oci, opa, oaq, ocq, oho, oah, och, oru, oar, ocr, ofr, oaf, ocf, oto, oao, oco⟩) hmay (k := k) (by show k < (ols.map LiV.b).length; rw [List.length_map]; exact hkl); rw [show (OV.b (⟨⟨ork, ors, orn⟩, ogd, olb, oal, ocl, opo, oap, ocp, ocs, ols, (some ⟨g, off, none⟩), oci, opa, oaq, ocq, oho, oah, och, oru, oar, ocr, ofr, oaf, ocf, oto, oao, oco⟩ : OV)).lis = ols.map LiV.b from rfl, ← map_less, ← HT.out] at this; (try rw [List.length_map] at this); exact this.trans HBB.out
      exact this
    clear HMK hmk2

    have okL := HOKL.out
    have atL := HATL.out
    have at4 := HAT4.out
    obtain ⟨o0, o1, o2, o3, o4, o5, o6, o7, o8, o9, o10, o11, o12⟩ : _ ∧ _ ∧ _ ∧ _ ∧ _ ∧ _ ∧ _ ∧ _ ∧ _ ∧ _ ∧ _ ∧ _ ∧ _ := ⟨cellN kq4 (i := 0) rfl, cellN kq4 (i := 1) rfl, cellN kq4 (i := 2) rfl, cellN kq4 (i := 3) rfl, cellN kq4 (i := 4) rfl, cellN kq4 (i := 5) rfl, cellN kq4 (i := 6) rfl, cellN kq4 (i := 7) rfl, cellN kq4 (i := 8) rfl, cellN kq4 (i := 9) rfl, cellN kq4 (i := 10) rfl, cellN kq4 (i := 11) rfl, cellN kq4 (i := 12) rfl⟩
    by_cases h6 : ork = 6
    · subst h6
      have HODD := hide (Ob.odd_cls (o := OV.b ⟨⟨6, ors, orn⟩, ogd, olb, oal, ocl, opo, oap, ocp, ocs, ols, (some ⟨g, off, none⟩), oci, opa, oaq, ocq, oho, oah, och, oru, oar, ocr, ofr, oaf, ocf, oto, oao, oco⟩) rfl ⟨#[99]⟩ rfl)
      have B5 : Below V4.heap.size V4 (V4.alloc (.cells #[.int .i64 6, .string ors, .string orn, .bool ogd, .slice oal olb.length ocl, .slice oap opo.length ocp, .string ⟨#[99]⟩, .slice (some ⟨g, off, none⟩) ols.length oci, .slice oaq opa.length ocq, .slice oah oho.length och, .slice oar oru.length ocr, .slice oaf ofr.length ocf, .slice oao oto.length oco] 55)) := (Below.refl _ _).alloc (Nat.le_refl _) _
      have CL := hide (omay_any (⟨⟨6, ors, orn⟩, ogd, olb, oal, ocl, opo, oap, ocp, ocs, T, a11, c11, opa, oaq, ocq, oho, oah, och, oru, oar, ocr, ofr, oaf, ocf, oto, oao, oco⟩) (V4.alloc (.cells #[.int .i64 6, .string ors, .string orn, .bool ogd, .slice oal olb.length ocl, .slice oap opo.length ocp, .string ⟨#[99]⟩, .slice (some ⟨g, off, none⟩) ols.length oci, .slice oaq opa.length ocq, .slice oah oho.length och, .slice oar oru.length ocr, .slice oaf ofr.length ocf, .slice oao oto.length oco] 55)) (atL.below B5) okL)
      have CO := fun W (h : Below V4.heap.size V4 W) => hide (omf (omay_any ⟨⟨6, ors, orn⟩, ogd, olb, oal, ocl, opo, oap, ocp, ⟨#[99]⟩, ols, (some ⟨g, off, none⟩), oci, opa, oaq, ocq, oho, oah, och, oru, oar, ocr, ofr, oaf, ocf, oto, oao, oco⟩ W ⟨at4.labels.below h, at4.ports.below h, at4.lis.below h, at4.pars.below h, at4.hosts.below h, at4.rules.below h, at4.frm.below h, at4.tos.below h⟩ ⟨ok.ref, ok.labels, (show (1 : Nat) ≤ 100 by decide), ok.lis, ok.pars, ok.hosts, ok.rules, ok.frm, ok.tos⟩) HODD.out)
      have KL5 := blk_below kl4 B5
      obtain ⟨l0, l1, l2, l3, l4, l5, l6, l7, l8, l9, l10, l11, l12⟩ : _ ∧ _ ∧ _ ∧ _ ∧ _ ∧ _ ∧ _ ∧ _ ∧ _ ∧ _ ∧ _ ∧ _ ∧ _ := ⟨cellN KL5 (i := 0) rfl, cellN KL5 (i := 1) rfl, cellN KL5 (i := 2) rfl, cellN KL5 (i := 3) rfl, cellN KL5 (i := 4) rfl, cellN KL5 (i := 5) rfl, cellN KL5 (i := 6) rfl, cellN KL5 (i := 7) rfl, cellN KL5 (i := 8) rfl, cellN KL5 (i := 9) rfl, cellN KL5 (i := 10) rfl, cellN KL5 (i := 11) rfl, cellN KL5 (i := 12) rfl⟩
      have HK6 := hide (alloc_new V4 (.cells #[.int .i64 6, .string ors, .string orn, .bool ogd, .slice oal olb.length ocl, .slice oap opo.length ocp, .string ⟨#[99]⟩, .slice (some ⟨g, off, none⟩) ols.length oci, .slice oaq opa.length ocq, .slice oah oho.length och, .slice oar oru.length ocr, .slice oaf ofr.length ocf, .slice oao oto.length oco] 55))
      have p0 : (V4.alloc (.cells #[.int .i64 6, .string ors, .string orn, .bool ogd, .slice oal olb.length ocl, .slice oap opo.length ocp, .string ocs, .slice (some ⟨g, off, none⟩) ols.length oci, .slice oaq opa.length ocq, .slice oah oho.length och, .slice oar oru.length ocr, .slice oaf ofr.length ocf, .slice oao oto.length oco] 55)).cell? ⟨w.heap.size, 0, none⟩ = some (.int .i64 6) := cellN (blk_below kq4 ((Below.refl _ _).alloc (Nat.le_refl _) _)) (i := 0) rfl
      rw [HML.out] at CL
      clear okL atL at4 KL5 kl4
      go_wp2_with fail
      clear p0
      refine CL.out.mono ?_
      rintro e w6 ⟨rfl, hb6⟩
      have K6 := blk_below HK6.out hb6
      have HB6 := hide (bb2 BQ4.out (bb2 B5 hb6))
      have CO1 := hide (CO w6 (bb2 B5 hb6)).out
      obtain ⟨e0, e1, e2, e3, e4, e5, e6, e7, e8, e9, e10, e11, e12⟩ : _ ∧ _ ∧ _ ∧ _ ∧ _ ∧ _ ∧ _ ∧ _ ∧ _ ∧ _ ∧ _ ∧ _ ∧ _ := ⟨cellN K6 (i := 0) rfl, cellN K6 (i := 1) rfl, cellN K6 (i := 2) rfl, cellN K6 (i := 3) rfl, cellN K6 (i := 4) rfl, cellN K6 (i := 5) rfl, cellN K6 (i := 6) rfl, cellN K6 (i := 7) rfl, cellN K6 (i := 8) rfl, cellN K6 (i := 9) rfl, cellN K6 (i := 10) rfl, cellN K6 (i := 11) rfl, cellN K6 (i := 12) rfl⟩
      clear o0 o1 o2 o3 o4 o5 o6 o7 o8 o9 o10 o11 o12 l0 l1 l2 l3 l4 l5 l6 l7 l8 l9 l10 l11 l12 CL CO B5 hb6 K6
      go_wp2_with fail
      refine CO1.out.mono ?_
      rintro e w7 ⟨rfl, hb7⟩
      clear e0 e1 e2 e3 e4 e5 e6 e7 e8 e9 e10 e11 e12 CO1
      go_wp2_with fail
      refine (oawake_any _).mono ?_
      rintro e w8 ⟨rfl, hb8⟩
      go_wp2_with fail
      go_ret
      exact ⟨rfl, bb2 HB6.out (bb2 hb7 hb8)⟩
    · have t6 : (ork == 6) = false := by simpa using h6
      have HODD := hide (Ob.odd_hosts (o := OV.b ⟨⟨ork, ors, orn⟩, ogd, olb, oal, ocl, opo, oap, ocp, ocs, ols, (some ⟨g, off, none⟩), oci, opa, oaq, ocq, oho, oah, och, oru, oar, ocr, ofr, oaf, ocf, oto, oao, oco⟩) h6 [⟨#[97]⟩] (by simp))
      obtain ⟨V5, hV5⟩ : ∃ z, z = (V4.alloc (.cells #[.int .i64 ork, .string ors, .string orn, .bool ogd, .slice oal olb.length ocl, .slice oap opo.length ocp, .string ocs, .slice (some ⟨g, off, none⟩) ols.length oci, .slice oaq opa.length ocq, .slice (some ⟨V4.heap.size + 1, 0, none⟩) 1 1, .slice oar oru.length ocr, .slice oaf ofr.length ocf, .slice oao oto.length oco] 55)).alloc (.cells #[.string ⟨#[97]⟩] 9) := ⟨_, rfl⟩
      have B5 : Below V4.heap.size V4 V5 := by
        rw [hV5]
        exact ((Below.refl _ _).alloc (Nat.le_refl _) _).alloc (by simp) _
      have K5 : V5.heap[V4.heap.size]? = some (.cells #[.int .i64 ork, .string ors, .string orn, .bool ogd, .slice oal olb.length ocl, .slice oap opo.length ocp, .string ocs, .slice (some ⟨g, off, none⟩) ols.length oci, .slice oaq opa.length ocq, .slice (some ⟨V4.heap.size + 1, 0, none⟩) 1 1, .slice oar oru.length ocr, .slice oaf ofr.length ocf, .slice oao oto.length oco] 55) := by
        rw [hV5]
        exact blk_below (alloc_new V4 _) ((Below.refl _ _).alloc (Nat.le_refl _) _)
      have S5 : V5.heap[V4.heap.size + 1]? = some (.cells #[.string ⟨#[97]⟩] 9) := by
        rw [hV5]
        have := alloc_new (V4.alloc (.cells #[.int .i64 ork, .string ors, .string orn, .bool ogd, .slice oal olb.length ocl, .slice oap opo.length ocp, .string ocs, .slice (some ⟨g, off, none⟩) ols.length oci, .slice oaq opa.length ocq, .slice (some ⟨V4.heap.size + 1, 0, none⟩) 1 1, .slice oar oru.length ocr, .slice oaf ofr.length ocf, .slice oao oto.length oco] 55)) (.cells #[.string ⟨#[97]⟩] 9)
        rw [World.size_alloc] at this
        exact this
      have CL := hide (omay_any (⟨⟨ork, ors, orn⟩, ogd, olb, oal, ocl, opo, oap, ocp, ocs, T, a11, c11, opa, oaq, ocq, oho, oah, och, oru, oar, ocr, ofr, oaf, ocf, oto, oao, oco⟩) V5 (atL.below B5) okL)
      have SLH : Sl ES V5 (.slice (some ⟨V4.heap.size + 1, 0, none⟩) 1 1) [⟨#[97]⟩] := Sl.at_block (E := ES) (x := ⟨#[97]⟩) S5 trivial
      have CO := fun W (h : Below V5.heap.size V5 W) => hide (omf (omay_any ⟨⟨ork, ors, orn⟩, ogd, olb, oal, ocl, opo, oap, ocp, ocs, ols, (some ⟨g, off, none⟩), oci, opa, oaq, ocq, [⟨#[97]⟩], some ⟨V4.heap.size + 1, 0, none⟩, 1, oru, oar, ocr, ofr, oaf, ocf, oto, oao, oco⟩ W ⟨at4.labels.below (bb2 B5 h), at4.ports.below (bb2 B5 h), at4.lis.below (bb2 B5 h), at4.pars.below (bb2 B5 h), SLH.below h, at4.rules.below (bb2 B5 h), at4.frm.below (bb2 B5 h), at4.tos.below (bb2 B5 h)⟩ ⟨ok.ref, ok.labels, ok.cls, ok.lis, ok.pars, (fun s hs => by rw [List.mem_singleton] at hs; subst hs; exact (show (1 : Nat) ≤ 100 by decide)), ok.rules, ok.frm, ok.tos⟩) HODD.out)
      have KL5 := blk_below kl4 B5
      have HK5 := hide K5
      have HBV5 := hide (bb2 BQ4.out B5)
      rw [HML.out] at CL
      have p0 : (V4.alloc (.cells #[.int .i64 ork, .string ors, .string orn, .bool ogd, .slice oal olb.length ocl, .slice oap opo.length ocp, .string ocs, .slice (some ⟨g, off, none⟩) ols.length oci, .slice oaq opa.length ocq, .slice oah oho.length och, .slice oar oru.length ocr, .slice oaf ofr.length ocf, .slice oao oto.length oco] 55)).cell? ⟨w.heap.size, 0, none⟩ = some (.int .i64 ork) := cellN (blk_below kq4 ((Below.refl _ _).alloc (Nat.le_refl _) _)) (i := 0) rfl
      obtain ⟨l0, l1, l2, l3, l4, l5, l6, l7, l8, l9, l10, l11, l12⟩ : _ ∧ _ ∧ _ ∧ _ ∧ _ ∧ _ ∧ _ ∧ _ ∧ _ ∧ _ ∧ _ ∧ _ ∧ _ := ⟨cellN KL5 (i := 0) rfl, cellN KL5 (i := 1) rfl, cellN KL5 (i := 2) rfl, cellN KL5 (i := 3) rfl, cellN KL5 (i := 4) rfl, cellN KL5 (i := 5) rfl, cellN KL5 (i := 6) rfl, cellN KL5 (i := 7) rfl, cellN KL5 (i := 8) rfl, cellN KL5 (i := 9) rfl, cellN KL5 (i := 10) rfl, cellN KL5 (i := 11) rfl, cellN KL5 (i := 12) rfl⟩
      rw [hV5] at l0 l1 l2 l3 l4 l5 l6 l7 l8 l9 l10 l11 l12
      clear okL atL at4 KL5 kl4 K5 S5
      go_wp2_with fail
      rw [← hV5]
      clear p0 l0 l1 l2 l3 l4 l5 l6 l7 l8 l9 l10 l11 l12 hV5
      refine CL.out.mono ?_
      rintro e w6 ⟨rfl, hb6⟩
      have K6 := blk_below HK5.out hb6
      have HB6 := hide (bb2 HBV5.out hb6)
      have CO1 := hide (CO w6 hb6).out
      obtain ⟨e0, e1, e2, e3, e4, e5, e6, e7, e8, e9, e10, e11, e12⟩ : _ ∧ _ ∧ _ ∧ _ ∧ _ ∧ _ ∧ _ ∧ _ ∧ _ ∧ _ ∧ _ ∧ _ ∧ _ := ⟨cellN K6 (i := 0) rfl, cellN K6 (i := 1) rfl, cellN K6 (i := 2) rfl, cellN K6 (i := 3) rfl, cellN K6 (i := 4) rfl, cellN K6 (i := 5) rfl, cellN K6 (i := 6) rfl, cellN K6 (i := 7) rfl, cellN K6 (i := 8) rfl, cellN K6 (i := 9) rfl, cellN K6 (i := 10) rfl, cellN K6 (i := 11) rfl, cellN K6 (i := 12) rfl⟩
      clear o0 o1 o2 o3 o4 o5 o6 o7 o8 o9 o10 o11 o12 CL CO hb6 K6
      go_wp2_with fail
      refine CO1.out.mono ?_
      rintro e w7 ⟨rfl, hb7⟩
      clear e0 e1 e2 e3 e4 e5 e6 e7 e8 e9 e10 e11 e12 CO1
      go_wp2_with fail
      refine (oawake_any _).mono ?_
      rintro e w8 ⟨rfl, hb8⟩
      go_wp2_with fail
      go_ret
      exact ⟨rfl, bb2 HB6.out (bb2 hb7 hb8)⟩
  · have SUF := hide (show Sl ELi X3 (.slice (some ⟨g, off + m * 9, none⟩) (ols.length - m) (oci - m)) (ols.drop m) from by
      have := HSX.out.sub m (ols.length - m) (oci - m) (by omega) (by omega) (by unfold maxLen; omega)
      have e : (ols.drop m).take (ols.length - m) = ols.drop m := List.take_of_length_le (by simp)
      rw [e] at this
      simpa [ELi] using this)
    refine wp_region_G 13 (fun W => Below X3.heap.size X3 W) (by kernel_rfl) ((Below.refl _ _).drew) ?_
    refine wpG_take (i := 1) 6 (v := .pointer (some ⟨w.heap.size, 7, none⟩)) rfl (by kernel_rfl) (by kernel_rfl) (by kernel_rfl) (by decide) (by kernel_rfl) (by kernel_rfl) (fun _ _ _ h => h) (Or.inl ⟨by rfl, fun w1 hS => ?_⟩) ?_
    · (try dsimp only at hS)
      go_simp
    simp only [Act.put, List.setIfInBounds_toArray, List.set_cons_zero, List.set_cons_succ]
    refine wpG_take (i := 2) 6 (v := .slice (some ⟨g, off, none⟩) ols.length oci) rfl (by kernel_rfl) (by kernel_rfl) (by kernel_rfl) (by decide) (by kernel_rfl) (by kernel_rfl) (fun _ _ _ h => h) (Or.inl ⟨by rfl, fun w1 hS => ?_⟩) ?_
    · (try dsimp only at hS)
      go_simp
    simp only [Act.put, List.setIfInBounds_toArray, List.set_cons_zero, List.set_cons_succ]
    refine wpG_take (i := 3) 6 (v := .int .i64 k) rfl (by kernel_rfl) (by kernel_rfl) (by kernel_rfl) (by decide) (by kernel_rfl) (by kernel_rfl) (fun _ _ _ h => h) (Or.inl ⟨by rfl, fun w1 hS => ?_⟩) ?_
    · (try dsimp only at hS)
      go_simp
    simp only [Act.put, List.setIfInBounds_toArray, List.set_cons_zero, List.set_cons_succ]
    refine wpG_take (i := 4) 6 (v := .slice (some ⟨g, off, none⟩) k oci) rfl (by kernel_rfl) (by kernel_rfl) (by kernel_rfl) (by decide) (by kernel_rfl) (by kernel_rfl) (fun _ _ _ h => h) (Or.inl ⟨by rfl, fun w1 hS => ?_⟩) ?_
    · (try dsimp only at hS)
      go_simp
    simp only [Act.put, List.setIfInBounds_toArray, List.set_cons_zero, List.set_cons_succ]
    refine wpG_take (i := 6) 6 (v := .pointer (some ⟨w.heap.size, 7, none⟩)) rfl (by kernel_rfl) (by kernel_rfl) (by kernel_rfl) (by decide) (by kernel_rfl) (by kernel_rfl) (fun _ _ _ h => h) (Or.inl ⟨by rfl, fun w1 hS => ?_⟩) ?_
    · (try dsimp only at hS)
      go_simp
    simp only [Act.put, List.setIfInBounds_toArray, List.set_cons_zero, List.set_cons_succ]
    refine wpG_take (i := 7) 6 (v := .slice (some ⟨g, off, none⟩) ols.length oci) rfl (by kernel_rfl) (by kernel_rfl) (by kernel_rfl) (by decide) (by kernel_rfl) (by kernel_rfl) (fun _ _ _ h => h) (Or.inl ⟨by rfl, fun w1 hS => ?_⟩) ?_
    · (try dsimp only at hS)
      go_simp
    simp only [Act.put, List.setIfInBounds_toArray, List.set_cons_zero, List.set_cons_succ]
    refine wpG_take (i := 8) 6 (v := .int .i64 k) rfl (by kernel_rfl) (by kernel_rfl) (by kernel_rfl) (by decide) (by kernel_rfl) (by kernel_rfl) (fun _ _ _ h => h) (Or.inl ⟨by rfl, fun w1 hS => ?_⟩) ?_
    · (try dsimp only at hS)
      go_simp
    simp only [Act.put, List.setIfInBounds_toArray, List.set_cons_zero, List.set_cons_succ]
    refine wpG_take (i := 9) 6 (v := .int .i64 m) rfl (by kernel_rfl) (by kernel_rfl) (by kernel_rfl) (by decide) (by kernel_rfl) (by kernel_rfl) (fun _ _ _ h => h) (Or.inl ⟨by rfl, fun w1 hS => ?_⟩) ?_
    · (try dsimp only at hS)
      go_simp
    simp only [Act.put, List.setIfInBounds_toArray, List.set_cons_zero, List.set_cons_succ]
    refine wpG_take (i := 10) 6 (v := .slice (some ⟨g, off + m * 9, none⟩) (ols.length - m) (oci - m)) rfl (by kernel_rfl) (by kernel_rfl) (by kernel_rfl) (by decide) (by kernel_rfl) (by kernel_rfl) (fun _ _ _ h => h) (Or.inl ⟨by rfl, fun w1 hS => ?_⟩) ?_
    · (try dsimp only at hS)
      go_simp
    simp only [Act.put, List.setIfInBounds_toArray, List.set_cons_zero, List.set_cons_succ]
    clear n1'
    refine wpG_ready (rs := [0]) (by kernel_rfl) (by simp) (fun wa hGa hSa i hi => ?_)
    obtain rfl : i = 0 := by simpa using hi
    clear hi
    have R0 := owns_emptyT 106 ELi.n wa _ rfl
    refine wpOp_step rfl (by rfl) (fun K' hK' => ?_)
    replace hK' := hide hK'
    go_simp
    refine hK'.out _ _ (wpG_kept (by decide) (hSa.alloc hSa.size _) ?_)
    clear hK' K'
    refine wpG_ready (rs := [5]) (by kernel_rfl) (by simp) (fun wb hGb hSb i hi => ?_)
    obtain rfl : i = 5 := by simpa using hi
    clear hi
    have R1 := ownsRow_below R0 hGb
    have hab : wa.heap.size ≤ wb.heap.size := (below_box hGb).size
    refine wpOp_step rfl (by rfl) (fun K' hK' => ?_)
    refine wp_append_sl (E := ELi) 49 106 _ 120 Tryz.underlying49 Tryz.infoLi rfl (by decide) _ _ _ rfl wa.heap.size _ 0 [] rfl R1 _ _ rfl (PRE.out.below hSb) (by have := hLsmall; simp; omega) hab ?_
    intro v5 w5 r5 g5
    have hS5 : Below X3.heap.size X3 w5 := hSb.grown g5 (by have := hSa.size; omega) (fun j e => Nat.le_trans hSa.size (ownBlock_ge R1 e))
    have hbw := ((Below.refl wa.heap.size wb).grown g5 hab (fun j e => ownBlock_ge R1 e)).size
    refine hK' _ _ (wpG_kept (by decide) hS5 ?_)
    clear hK' K' hGa hGb hSb R0 g5
    try simp only [Act.put, List.setIfInBounds_toArray, List.set_cons_zero, List.set_cons_succ]
    refine wpG_ready (rs := [11]) (by kernel_rfl) (by simp) (fun wc hGc hSc i hi => ?_)
    obtain rfl : i = 11 := by simpa using hi
    clear hi
    have R2 := ownsRow_below r5 hGc
    have hac : wa.heap.size ≤ wc.heap.size := by have := hGc.size; omega
    refine wpOp_step rfl (by rfl) (fun K' hK' => ?_)
    refine wp_append_sl (E := ELi) 49 106 _ 120 Tryz.underlying49 Tryz.infoLi rfl (by decide) _ _ _ rfl wa.heap.size _ _ _ rfl R2 _ _ rfl (SUF.out.below hSc) (by have := hLsmall; simp; omega) hac ?_
    intro v11 w11 r11 g11
    have hS11 : Below X3.heap.size X3 w11 := hSc.grown g11 (by have := hSa.size; omega) (fun j e => Nat.le_trans hSa.size (ownBlock_ge R2 e))
    refine hK' _ _ (wpG_kept (by decide) hS11 ?_)
    clear hK' K' hGc hSc R1 R2 r5 g11 hS5
    try simp only [Act.put, List.setIfInBounds_toArray, List.set_cons_zero, List.set_cons_succ]
    refine wpG_take (i := 12) 6 (v := .pointer (some ⟨w2.heap.size, 7, none⟩)) rfl (by kernel_rfl) (by kernel_rfl) (by kernel_rfl) (by decide) (by kernel_rfl) (by kernel_rfl) (fun _ _ _ h => h) (Or.inl ⟨by rfl, fun w1 hS => ?_⟩) ?_
    · (try dsimp only at hS)
      go_simp
    simp only [Act.put, List.setIfInBounds_toArray, List.set_cons_zero, List.set_cons_succ]
    refine wpG_ready (rs := [13]) (by kernel_rfl) (by simp) (fun wf hGf hSf i hi => ?_)
    obtain rfl : i = 13 := by simpa using hi
    clear hi
    obtain ⟨a11, c11, rfl, kl4, B24, SL4⟩ := FIN _ wf hSf _ hSa.size (by have := ownsRow_below r11 hGf; simpa using this)
    have hz := blk_below kl3 hSf
    have z2 := cellN hz (i := 7) rfl
    have lz := liveN hz
    have kq4 : (setL wf w2.heap.size 7 [.slice a11 T.length c11]).heap[w.heap.size]? = some (.cells #[.int .i64 ork, .string ors, .string orn, .bool ogd, .slice oal olb.length ocl, .slice oap opo.length ocp, .string ocs, .slice (some ⟨g, off, none⟩) ols.length oci, .slice oaq opa.length ocq, .slice oah oho.length och, .slice oar oru.length ocr, .slice oaf ofr.length ocf, .slice oao oto.length oco] 55) := (setL_far (by have := lt_blk kq2; omega) _ _ _).trans (blk_below kq3 hSf)
    refine wpOp_step rfl (by rfl) (fun K' hK' => ?_)
    go_simp
    refine hK' _ _ (wpG_past (by decide) ?_)
    clear hK' K' z2 lz hz hGf hSf hSa r11 FIN HAT3 HSX PRE SUF
    refine wpAny_end (by kernel_rfl) ?_
    first | change Exit.inBlock _ _ _ _ (setL wf w2.heap.size 7 [.slice a11 T.length c11]) | change Exit.then _ _ _ _ (setL wf w2.heap.size 7 [.slice a11 T.length c11])
    generalize setL wf w2.heap.size 7 [.slice a11 T.length c11] = V4 at *
    have BQ4 := hide (bb2 BQ (bb2 hb2 B24))
    have HAT4 := hide (at_.below (bb2 hb2 B24))
    have HATL : Hid (OV.at_ (⟨⟨ork, ors, orn⟩, ogd, olb, oal, ocl, opo, oap, ocp, ocs, T, a11, c11, opa, oaq, ocq, oho, oah, och, oru, oar, ocr, ofr, oaf, ocf, oto, oao, oco⟩ : OV) V4) := hide (let q := HAT4.out; ⟨q.labels, q.ports, SL4, q.pars, q.hosts, q.rules, q.frm, q.tos⟩)
    have HOKL : Hid (OkO (⟨⟨ork, ors, orn⟩, ogd, olb, oal, ocl, opo, oap, ocp, ocs, T, a11, c11, opa, oaq, ocq, oho, oah, och, oru, oar, ocr, ofr, oaf, ocf, oto, oao, oco⟩ : OV)) := hide (let q := ok; ⟨q.ref, q.labels, q.cls, (fun r hr => q.lis r ((Ob.less_sub _ _).subset (by rw [← HT.out]; exact hr))), q.pars, q.hosts, q.rules, q.frm, q.tos⟩)
    have HML : Hid (Ob.mayO (OV.b (⟨⟨ork, ors, orn⟩, ogd, olb, oal, ocl, opo, oap, ocp, ocs, T, a11, c11, opa, oaq, ocq, oho, oah, och, oru, oar, ocr, ofr, oaf, ocf, oto, oao, oco⟩ : OV)) = bb) := by
      have := show Ob.mayO (OV.b ⟨⟨ork, ors, orn⟩, ogd, olb, oal, ocl, opo, oap, ocp, ocs, T, a11, c11, opa, oaq, ocq, oho, oah, och, oru, oar, ocr, ofr, oaf, ocf, oto, oao, oco⟩) = bb from by have := Ob.less_lis (o := OV.b ⟨⟨ork, ors, orn⟩, ogd, olb, oal, ocl, opo, oap, ocp, ocs, ols, (some ⟨g, off, none⟩), oci, opa, oaq, ocq, oho, oah, och, oru, oar, ocr, ofr, oaf, ocf, oto, oao, oco⟩) hmay (k := k) (by show k < (ols.map LiV.b).length; rw [List.length_map]; exact hkl); rw [show (OV.b (⟨⟨ork, ors, orn⟩, ogd, olb, oal, ocl, opo, oap, ocp, ocs, ols, (some ⟨g, off, none⟩), oci, opa, oaq, ocq, oho, oah, och, oru, oar, ocr, ofr, oaf, ocf, oto, oao, oco⟩ : OV)).lis = ols.map LiV.b from rfl, ← map_less, ← HT.out] at this; (try rw [List.length_map] at this); exact this.trans HBB.out
      exact this
    clear HMK hmk2

    have okL := HOKL.out
    have atL := HATL.out
    have at4 := HAT4.out
    obtain ⟨o0, o1, o2, o3, o4, o5, o6, o7, o8, o9, o10, o11, o12⟩ : _ ∧ _ ∧ _ ∧ _ ∧ _ ∧ _ ∧ _ ∧ _ ∧ _ ∧ _ ∧ _ ∧ _ ∧ _ := ⟨cellN kq4 (i := 0) rfl, cellN kq4 (i := 1) rfl, cellN kq4 (i := 2) rfl, cellN kq4 (i := 3) rfl, cellN kq4 (i := 4) rfl, cellN kq4 (i := 5) rfl, cellN kq4 (i := 6) rfl, cellN kq4 (i := 7) rfl, cellN kq4 (i := 8) rfl, cellN kq4 (i := 9) rfl, cellN kq4 (i := 10) rfl, cellN kq4 (i := 11) rfl, cellN kq4 (i := 12) rfl⟩
    by_cases h6 : ork = 6
    · subst h6
      have HODD := hide (Ob.odd_cls (o := OV.b ⟨⟨6, ors, orn⟩, ogd, olb, oal, ocl, opo, oap, ocp, ocs, ols, (some ⟨g, off, none⟩), oci, opa, oaq, ocq, oho, oah, och, oru, oar, ocr, ofr, oaf, ocf, oto, oao, oco⟩) rfl ⟨#[99]⟩ rfl)
      have B5 : Below V4.heap.size V4 (V4.alloc (.cells #[.int .i64 6, .string ors, .string orn, .bool ogd, .slice oal olb.length ocl, .slice oap opo.length ocp, .string ⟨#[99]⟩, .slice (some ⟨g, off, none⟩) ols.length oci, .slice oaq opa.length ocq, .slice oah oho.length och, .slice oar oru.length ocr, .slice oaf ofr.length ocf, .slice oao oto.length oco] 55)) := (Below.refl _ _).alloc (Nat.le_refl _) _
      have CL := hide (omay_any (⟨⟨6, ors, orn⟩, ogd, olb, oal, ocl, opo, oap, ocp, ocs, T, a11, c11, opa, oaq, ocq, oho, oah, och, oru, oar, ocr, ofr, oaf, ocf, oto, oao, oco⟩) (V4.alloc (.cells #[.int .i64 6, .string ors, .string orn, .bool ogd, .slice oal olb.length ocl, .slice oap opo.length ocp, .string ⟨#[99]⟩, .slice (some ⟨g, off, none⟩) ols.length oci, .slice oaq opa.length ocq, .slice oah oho.length och, .slice oar oru.length ocr, .slice oaf ofr.length ocf, .slice oao oto.length oco] 55)) (atL.below B5) okL)
      have CO := fun W (h : Below V4.heap.size V4 W) => hide (omf (omay_any ⟨⟨6, ors, orn⟩, ogd, olb, oal, ocl, opo, oap, ocp, ⟨#[99]⟩, ols, (some ⟨g, off, none⟩), oci, opa, oaq, ocq, oho, oah, och, oru, oar, ocr, ofr, oaf, ocf, oto, oao, oco⟩ W ⟨at4.labels.below h, at4.ports.below h, at4.lis.below h, at4.pars.below h, at4.hosts.below h, at4.rules.below h, at4.frm.below h, at4.tos.below h⟩ ⟨ok.ref, ok.labels, (show (1 : Nat) ≤ 100 by decide), ok.lis, ok.pars, ok.hosts, ok.rules, ok.frm, ok.tos⟩) HODD.out)
      have KL5 := blk_below kl4 B5
      obtain ⟨l0, l1, l2, l3, l4, l5, l6, l7, l8, l9, l10, l11, l12⟩ : _ ∧ _ ∧ _ ∧ _ ∧ _ ∧ _ ∧ _ ∧ _ ∧ _ ∧ _ ∧ _ ∧ _ ∧ _ := ⟨cellN KL5 (i := 0) rfl, cellN KL5 (i := 1) rfl, cellN KL5 (i := 2) rfl, cellN KL5 (i := 3) rfl, cellN KL5 (i := 4) rfl, cellN KL5 (i := 5) rfl, cellN KL5 (i := 6) rfl, cellN KL5 (i := 7) rfl, cellN KL5 (i := 8) rfl, cellN KL5 (i := 9) rfl, cellN KL5 (i := 10) rfl, cellN KL5 (i := 11) rfl, cellN KL5 (i := 12) rfl⟩
      have HK6 := hide (alloc_new V4 (.cells #[.int .i64 6, .string ors, .string orn, .bool ogd, .slice oal olb.length ocl, .slice oap opo.length ocp, .string ⟨#[99]⟩, .slice (some ⟨g, off, none⟩) ols.length oci, .slice oaq opa.length ocq, .slice oah oho.length och, .slice oar oru.length ocr, .slice oaf ofr.length ocf, .slice oao oto.length oco] 55))
      have p0 : (V4.alloc (.cells #[.int .i64 6, .string ors, .string orn, .bool ogd, .slice oal olb.length ocl, .slice oap opo.length ocp, .string ocs, .slice (some ⟨g, off, none⟩) ols.length oci, .slice oaq opa.length ocq, .slice oah oho.length och, .slice oar oru.length ocr, .slice oaf ofr.length ocf, .slice oao oto.length oco] 55)).cell? ⟨w.heap.size, 0, none⟩ = some (.int .i64 6) := cellN (blk_below kq4 ((Below.refl _ _).alloc (Nat.le_refl _) _)) (i := 0) rfl
      rw [HML.out] at CL
      clear okL atL at4 KL5 kl4
      go_wp2_with fail
      clear p0
      refine CL.out.mono ?_
      rintro e w6 ⟨rfl, hb6⟩
      have K6 := blk_below HK6.out hb6
      have HB6 := hide (bb2 BQ4.out (bb2 B5 hb6))
      have CO1 := hide (CO w6 (bb2 B5 hb6)).out
      obtain ⟨e0, e1, e2, e3, e4, e5, e6, e7, e8, e9, e10, e11, e12⟩ : _ ∧ _ ∧ _ ∧ _ ∧ _ ∧ _ ∧ _ ∧ _ ∧ _ ∧ _ ∧ _ ∧ _ ∧ _ := ⟨cellN K6 (i := 0) rfl, cellN K6 (i := 1) rfl, cellN K6 (i := 2) rfl, cellN K6 (i := 3) rfl, cellN K6 (i := 4) rfl, cellN K6 (i := 5) rfl, cellN K6 (i := 6) rfl, cellN K6 (i := 7) rfl, cellN K6 (i := 8) rfl, cellN K6 (i := 9) rfl, cellN K6 (i := 10) rfl, cellN K6 (i := 11) rfl, cellN K6 (i := 12) rfl⟩
      clear o0 o1 o2 o3 o4 o5 o6 o7 o8 o9 o10 o11 o12 l0 l1 l2 l3 l4 l5 l6 l7 l8 l9 l10 l11 l12 CL CO B5 hb6 K6
      go_wp2_with fail
      refine CO1.out.mono ?_
      rintro e w7 ⟨rfl, hb7⟩
      clear e0 e1 e2 e3 e4 e5 e6 e7 e8 e9 e10 e11 e12 CO1
      go_wp2_with fail
      refine (oawake_any _).mono ?_
      rintro e w8 ⟨rfl, hb8⟩
      go_wp2_with fail
      go_ret
      exact ⟨rfl, bb2 HB6.out (bb2 hb7 hb8)⟩
    · have t6 : (ork == 6) = false := by simpa using h6
      have HODD := hide (Ob.odd_hosts (o := OV.b ⟨⟨ork, ors, orn⟩, ogd, olb, oal, ocl, opo, oap, ocp, ocs, ols, (some ⟨g, off, none⟩), oci, opa, oaq, ocq, oho, oah, och, oru, oar, ocr, ofr, oaf, ocf, oto, oao, oco⟩) h6 [⟨#[97]⟩] (by simp))
      obtain ⟨V5, hV5⟩ : ∃ z, z = (V4.alloc (.cells #[.int .i64 ork, .string ors, .string orn, .bool ogd, .slice oal olb.length ocl, .slice oap opo.length ocp, .string ocs, .slice (some ⟨g, off, none⟩) ols.length oci, .slice oaq opa.length ocq, .slice (some ⟨V4.heap.size + 1, 0, none⟩) 1 1, .slice oar oru.length ocr, .slice oaf ofr.length ocf, .slice oao oto.length oco] 55)).alloc (.cells #[.string ⟨#[97]⟩] 9) := ⟨_, rfl⟩
      have B5 : Below V4.heap.size V4 V5 := by
        rw [hV5]
        exact ((Below.refl _ _).alloc (Nat.le_refl _) _).alloc (by simp) _
      have K5 : V5.heap[V4.heap.size]? = some (.cells #[.int .i64 ork, .string ors, .string orn, .bool ogd, .slice oal olb.length ocl, .slice oap opo.length ocp, .string ocs, .slice (some ⟨g, off, none⟩) ols.length oci, .slice oaq opa.length ocq, .slice (some ⟨V4.heap.size + 1, 0, none⟩) 1 1, .slice oar oru.length ocr, .slice oaf ofr.length ocf, .slice oao oto.length oco] 55) := by
        rw [hV5]
        exact blk_below (alloc_new V4 _) ((Below.refl _ _).alloc (Nat.le_refl _) _)
      have S5 : V5.heap[V4.heap.size + 1]? = some (.cells #[.string ⟨#[97]⟩] 9) := by
        rw [hV5]
        have := alloc_new (V4.alloc (.cells #[.int .i64 ork, .string ors, .string orn, .bool ogd, .slice oal olb.length ocl, .slice oap opo.length ocp, .string ocs, .slice (some ⟨g, off, none⟩) ols.length oci, .slice oaq opa.length ocq, .slice (some ⟨V4.heap.size + 1, 0, none⟩) 1 1, .slice oar oru.length ocr, .slice oaf ofr.length ocf, .slice oao oto.length oco] 55)) (.cells #[.string ⟨#[97]⟩] 9)
        rw [World.size_alloc] at this
        exact this
      have CL := hide (omay_any (⟨⟨ork, ors, orn⟩, ogd, olb, oal, ocl, opo, oap, ocp, ocs, T, a11, c11, opa, oaq, ocq, oho, oah, och, oru, oar, ocr, ofr, oaf, ocf, oto, oao, oco⟩) V5 (atL.below B5) okL)
      have SLH : Sl ES V5 (.slice (some ⟨V4.heap.size + 1, 0, none⟩) 1 1) [⟨#[97]⟩] := Sl.at_block (E := ES) (x := ⟨#[97]⟩) S5 trivial
      have CO := fun W (h : Below V5.heap.size V5 W) => hide (omf (omay_any ⟨⟨ork, ors, orn⟩, ogd, olb, oal, ocl, opo, oap, ocp, ocs, ols, (some ⟨g, off, none⟩), oci, opa, oaq, ocq, [⟨#[97]⟩], some ⟨V4.heap.size + 1, 0, none⟩, 1, oru, oar, ocr, ofr, oaf, ocf, oto, oao, oco⟩ W ⟨at4.labels.below (bb2 B5 h), at4.ports.below (bb2 B5 h), at4.lis.below (bb2 B5 h), at4.pars.below (bb2 B5 h), SLH.below h, at4.rules.below (bb2 B5 h), at4.frm.below (bb2 B5 h), at4.tos.below (bb2 B5 h)⟩ ⟨ok.ref, ok.labels, ok.cls, ok.lis, ok.pars, (fun s hs => by rw [List.mem_singleton] at hs; subst hs; exact (show (1 : Nat) ≤ 100 by decide)), ok.rules, ok.frm, ok.tos⟩) HODD.out)
      have KL5 := blk_below kl4 B5
      have HK5 := hide K5
      have HBV5 := hide (bb2 BQ4.out B5)
      rw [HML.out] at CL
      have p0 : (V4.alloc (.cells #[.int .i64 ork, .string ors, .string orn, .bool ogd, .slice oal olb.length ocl, .slice oap opo.length ocp, .string ocs, .slice (some ⟨g, off, none⟩) ols.length oci, .slice oaq opa.length ocq, .slice oah oho.length och, .slice oar oru.length ocr, .slice oaf ofr.length ocf, .slice oao oto.length oco] 55)).cell? ⟨w.heap.size, 0, none⟩ = some (.int .i64 ork) := cellN (blk_below kq4 ((Below.refl _ _).alloc (Nat.le_refl _) _)) (i := 0) rfl
      obtain ⟨l0, l1, l2, l3, l4, l5, l6, l7, l8, l9, l10, l11, l12⟩ : _ ∧ _ ∧ _ ∧ _ ∧ _ ∧ _ ∧ _ ∧ _ ∧ _ ∧ _ ∧ _ ∧ _ ∧ _ := ⟨cellN KL5 (i := 0) rfl, cellN KL5 (i := 1) rfl, cellN KL5 (i := 2) rfl, cellN KL5 (i := 3) rfl, cellN KL5 (i := 4) rfl, cellN KL5 (i := 5) rfl, cellN KL5 (i := 6) rfl, cellN KL5 (i := 7) rfl, cellN KL5 (i := 8) rfl, cellN KL5 (i := 9) rfl, cellN KL5 (i := 10) rfl, cellN KL5 (i := 11) rfl, cellN KL5 (i := 12) rfl⟩
      rw [hV5] at l0 l1 l2 l3 l4 l5 l6 l7 l8 l9 l10 l11 l12
      clear okL atL at4 KL5 kl4 K5 S5
      go_wp2_with fail
      rw [← hV5]
      clear p0 l0 l1 l2 l3 l4 l5 l6 l7 l8 l9 l10 l11 l12 hV5
      refine CL.out.mono ?_
      rintro e w6 ⟨rfl, hb6⟩
      have K6 := blk_below HK5.out hb6
      have HB6 := hide (bb2 HBV5.out hb6)
      have CO1 := hide (CO w6 hb6).out
      obtain ⟨e0, e1, e2, e3, e4, e5, e6, e7, e8, e9, e10, e11, e12⟩ : _ ∧ _ ∧ _ ∧ _ ∧ _ ∧ _ ∧ _ ∧ _ ∧ _ ∧ _ ∧ _ ∧ _ ∧ _ := ⟨cellN K6 (i := 0) rfl, cellN K6 (i := 1) rfl, cellN K6 (i := 2) rfl, cellN K6 (i := 3) rfl, cellN K6 (i := 4) rfl, cellN K6 (i := 5) rfl, cellN K6 (i := 6) rfl, cellN K6 (i := 7) rfl, cellN K6 (i := 8) rfl, cellN K6 (i := 9) rfl, cellN K6 (i := 10) rfl, cellN K6 (i := 11) rfl, cellN K6 (i := 12) rfl⟩
      clear o0 o1 o2 o3 o4 o5 o6 o7 o8 o9 o10 o11 o12 CL CO hb6 K6
      go_wp2_with fail
      refine CO1.out.mono ?_
      rintro e w7 ⟨rfl, hb7⟩
      clear e0 e1 e2 e3 e4 e5 e6 e7 e8 e9 e10 e11 e12 CO1
      go_wp2_with fail
      refine (oawake_any _).mono ?_
      rintro e w8 ⟨rfl, hb8⟩
      go_wp2_with fail
      go_ret
      exact ⟨rfl, bb2 HB6.out (bb2 hb7 hb8)⟩

set_option linter.unusedVariables false in
set_option linter.unusedSimpArgs false in
set_option maxHeartbeats 12800000 in
theorem oless_ports (x : OV) (cb : UInt8) (w : World) (hx : x.at_ w) (raw : RawO x) (hm0 : Ob.mayO (fewO x.b) = true) (h1 : (fewO x.b).rules.length = 0 ∧ (fewO x.b).lis.length = 0 ∧ 0 < (fewO x.b).ports.length) :
    Calls Tryz.prog 7 #[oV x, .int .u8 (cb.toNat : Int)] w fun e w' => e = .returned (.bool true) ∧ Below w.heap.size w w' := by
  have HM0 := hide hm0
  have HL0 := hide h1
  clear h1
  clear hm0
  have hn := cb.toNat_lt
  have hwn : IntKind.i64.wrap (cb.toNat : Int) = (cb.toNat : Int) := by rw [IntKind.wrap_i64]; omega
  have CF := fun W (h : Below w.heap.size w W) => hide (fewO_any x W (hx.below h) raw)
  have B1 : Below w.heap.size w (w.alloc (.cells #[.int .i64 x.ref.kind, .string x.ref.space, .string x.ref.name, .bool x.good, .slice x.al x.labels.length x.cl, .slice x.ap x.ports.length x.cp, .string x.cls, .slice x.ai x.lis.length x.ci, .slice x.aq x.pars.length x.cq, .slice x.ah x.hosts.length x.ch, .slice x.ar x.rules.length x.cr, .slice x.af x.frm.length x.cf, .slice x.ao x.tos.length x.co] 55)) := (Below.refl _ _).alloc (Nat.le_refl _) _
  clear hx raw
  go_enter Tryz.func7, Tryz.ntmps7
  go_wp2_with fail
  refine (CF _ B1).out.mono ?_
  rintro e w1 ⟨y, rfl, hy, hown, hb1⟩
  have hz : w1.heap[w.heap.size]? = some (.cells #[.int .i64 x.ref.kind, .string x.ref.space, .string x.ref.name, .bool x.good, .slice x.al x.labels.length x.cl, .slice x.ap x.ports.length x.cp, .string x.cls, .slice x.ai x.lis.length x.ci, .slice x.aq x.pars.length x.cq, .slice x.ah x.hosts.length x.ch, .slice x.ar x.rules.length x.cr, .slice x.af x.frm.length x.cf, .slice x.ao x.tos.length x.co] 55) := box_block hb1
  have BB := bb2 B1 hb1
  have lz := liveN hz
  obtain ⟨z0, z1, z2, z3, z4, z5, z6, z7, z8, z9, z10, z11, z12⟩ : _ ∧ _ ∧ _ ∧ _ ∧ _ ∧ _ ∧ _ ∧ _ ∧ _ ∧ _ ∧ _ ∧ _ ∧ _ := ⟨cellN hz (i := 0) rfl, cellN hz (i := 1) rfl, cellN hz (i := 2) rfl, cellN hz (i := 3) rfl, cellN hz (i := 4) rfl, cellN hz (i := 5) rfl, cellN hz (i := 6) rfl, cellN hz (i := 7) rfl, cellN hz (i := 8) rfl, cellN hz (i := 9) rfl, cellN hz (i := 10) rfl, cellN hz (i := 11) rfl, cellN hz (i := 12) rfl⟩
  have K2 := hide (show ((((((((((((((w1.setCell ⟨w.heap.size, 0, none⟩ (.int .i64 y.ref.kind)).setCell ⟨w.heap.size, 1, none⟩ (.string y.ref.space)).setCell ⟨w.heap.size, 2, none⟩ (.string y.ref.name)).setCell ⟨w.heap.size, 3, none⟩ (.bool y.good)).setCell ⟨w.heap.size, 4, none⟩ (.slice y.al y.labels.length y.cl)).setCell ⟨w.heap.size, 5, none⟩ (.slice y.ap y.ports.length y.cp)).setCell ⟨w.heap.size, 6, none⟩ (.string y.cls)).setCell ⟨w.heap.size, 7, none⟩ (.slice y.ai y.lis.length y.ci)).setCell ⟨w.heap.size, 8, none⟩ (.slice y.aq y.pars.length y.cq)).setCell ⟨w.heap.size, 9, none⟩ (.slice y.ah y.hosts.length y.ch)).setCell ⟨w.heap.size, 10, none⟩ (.slice y.ar y.rules.length y.cr)).setCell ⟨w.heap.size, 11, none⟩ (.slice y.af y.frm.length y.cf)).setCell ⟨w.heap.size, 12, none⟩ (.slice y.ao y.tos.length y.co))).heap[w.heap.size]? = some (.cells #[.int .i64 y.ref.kind, .string y.ref.space, .string y.ref.name, .bool y.good, .slice y.al y.labels.length y.cl, .slice y.ap y.ports.length y.cp, .string y.cls, .slice y.ai y.lis.length y.ci, .slice y.aq y.pars.length y.cq, .slice y.ah y.hosts.length y.ch, .slice y.ar y.rules.length y.cr, .slice y.af y.frm.length y.cf, .slice y.ao y.tos.length y.co] 55) from setL_all [.int .i64 y.ref.kind, .string y.ref.space, .string y.ref.name, .bool y.good, .slice y.al y.labels.length y.cl, .slice y.ap y.ports.length y.cp, .string y.cls, .slice y.ai y.lis.length y.ci, .slice y.aq y.pars.length y.cq, .slice y.ah y.hosts.length y.ch, .slice y.ar y.rules.length y.cr, .slice y.af y.frm.length y.cf, .slice y.ao y.tos.length y.co] hz rfl)
  have own2 := hide (show OV.own y (((((((((((((w1.setCell ⟨w.heap.size, 0, none⟩ (.int .i64 y.ref.kind)).setCell ⟨w.heap.size, 1, none⟩ (.string y.ref.space)).setCell ⟨w.heap.size, 2, none⟩ (.string y.ref.name)).setCell ⟨w.heap.size, 3, none⟩ (.bool y.good)).setCell ⟨w.heap.size, 4, none⟩ (.slice y.al y.labels.length y.cl)).setCell ⟨w.heap.size, 5, none⟩ (.slice y.ap y.ports.length y.cp)).setCell ⟨w.heap.size, 6, none⟩ (.string y.cls)).setCell ⟨w.heap.size, 7, none⟩ (.slice y.ai y.lis.length y.ci)).setCell ⟨w.heap.size, 8, none⟩ (.slice y.aq y.pars.length y.cq)).setCell ⟨w.heap.size, 9, none⟩ (.slice y.ah y.hosts.length y.ch)).setCell ⟨w.heap.size, 10, none⟩ (.slice y.ar y.rules.length y.cr)).setCell ⟨w.heap.size, 11, none⟩ (.slice y.af y.frm.length y.cf)).setCell ⟨w.heap.size, 12, none⟩ (.slice y.ao y.tos.length y.co)) from hown.bx ((BX.refl w.heap.size w1.heap.size w1).setL 0 [.int .i64 y.ref.kind, .string y.ref.space, .string y.ref.name, .bool y.good, .slice y.al y.labels.length y.cl, .slice y.ap y.ports.length y.cp, .string y.cls, .slice y.ai y.lis.length y.ci, .slice y.aq y.pars.length y.cq, .slice y.ah y.hosts.length y.ch, .slice y.ar y.rules.length y.cr, .slice y.af y.frm.length y.cf, .slice y.ao y.tos.length y.co]) hz)
  have BB2 := hide (show Below w.heap.size w (((((((((((((w1.setCell ⟨w.heap.size, 0, none⟩ (.int .i64 y.ref.kind)).setCell ⟨w.heap.size, 1, none⟩ (.string y.ref.space)).setCell ⟨w.heap.size, 2, none⟩ (.string y.ref.name)).setCell ⟨w.heap.size, 3, none⟩ (.bool y.good)).setCell ⟨w.heap.size, 4, none⟩ (.slice y.al y.labels.length y.cl)).setCell ⟨w.heap.size, 5, none⟩ (.slice y.ap y.ports.length y.cp)).setCell ⟨w.heap.size, 6, none⟩ (.string y.cls)).setCell ⟨w.heap.size, 7, none⟩ (.slice y.ai y.lis.length y.ci)).setCell ⟨w.heap.size, 8, none⟩ (.slice y.aq y.pars.length y.cq)).setCell ⟨w.heap.size, 9, none⟩ (.slice y.ah y.hosts.length y.ch)).setCell ⟨w.heap.size, 10, none⟩ (.slice y.ar y.rules.length y.cr)).setCell ⟨w.heap.size, 11, none⟩ (.slice y.af y.frm.length y.cf)).setCell ⟨w.heap.size, 12, none⟩ (.slice y.ao y.tos.length y.co)) from setL_below (w := w) (B := w.heap.size) (g := w.heap.size) (Nat.le_refl _) [.int .i64 y.ref.kind, .string y.ref.space, .string y.ref.name, .bool y.good, .slice y.al y.labels.length y.cl, .slice y.ap y.ports.length y.cp, .string y.cls, .slice y.ai y.lis.length y.ci, .slice y.aq y.pars.length y.cq, .slice y.ah y.hosts.length y.ch, .slice y.ar y.rules.length y.cr, .slice y.af y.frm.length y.cf, .slice y.ao y.tos.length y.co] _ 0 BB)
  obtain ⟨d0, d1, d2, d3, d4, d5, d6, d7, d8, d9, d10, d11, d12⟩ : _ ∧ _ ∧ _ ∧ _ ∧ _ ∧ _ ∧ _ ∧ _ ∧ _ ∧ _ ∧ _ ∧ _ ∧ _ := ⟨cellN K2.out (i := 0) rfl, cellN K2.out (i := 1) rfl, cellN K2.out (i := 2) rfl, cellN K2.out (i := 3) rfl, cellN K2.out (i := 4) rfl, cellN K2.out (i := 5) rfl, cellN K2.out (i := 6) rfl, cellN K2.out (i := 7) rfl, cellN K2.out (i := 8) rfl, cellN K2.out (i := 9) rfl, cellN K2.out (i := 10) rfl, cellN K2.out (i := 11) rfl, cellN K2.out (i := 12) rfl⟩
  have ok := fewO_ok hy
  have HOK := hide ok
  have HY := hide hy
  clear hz hown BB B1 hb1 CF hy ok
  go_wp2_with fail
  have kq : ((((((((((((((w1.setCell ⟨w.heap.size, 0, none⟩ (.int .i64 y.ref.kind)).setCell ⟨w.heap.size, 1, none⟩ (.string y.ref.space)).setCell ⟨w.heap.size, 2, none⟩ (.string y.ref.name)).setCell ⟨w.heap.size, 3, none⟩ (.bool y.good)).setCell ⟨w.heap.size, 4, none⟩ (.slice y.al y.labels.length y.cl)).setCell ⟨w.heap.size, 5, none⟩ (.slice y.ap y.ports.length y.cp)).setCell ⟨w.heap.size, 6, none⟩ (.string y.cls)).setCell ⟨w.heap.size, 7, none⟩ (.slice y.ai y.lis.length y.ci)).setCell ⟨w.heap.size, 8, none⟩ (.slice y.aq y.pars.length y.cq)).setCell ⟨w.heap.size, 9, none⟩ (.slice y.ah y.hosts.length y.ch)).setCell ⟨w.heap.size, 10, none⟩ (.slice y.ar y.rules.length y.cr)).setCell ⟨w.heap.size, 11, none⟩ (.slice y.af y.frm.length y.cf)).setCell ⟨w.heap.size, 12, none⟩ (.slice y.ao y.tos.length y.co))).heap[w.heap.size]? = some (.cells #[.int .i64 y.ref.kind, .string y.ref.space, .string y.ref.name, .bool y.good, .slice y.al y.labels.length y.cl, .slice y.ap y.ports.length y.cp, .string y.cls, .slice y.ai y.lis.length y.ci, .slice y.aq y.pars.length y.cq, .slice y.ah y.hosts.length y.ch, .slice y.ar y.rules.length y.cr, .slice y.af y.frm.length y.cf, .slice y.ao y.tos.length y.co] 55) := K2.out
  have ownq : OV.own y (((((((((((((w1.setCell ⟨w.heap.size, 0, none⟩ (.int .i64 y.ref.kind)).setCell ⟨w.heap.size, 1, none⟩ (.string y.ref.space)).setCell ⟨w.heap.size, 2, none⟩ (.string y.ref.name)).setCell ⟨w.heap.size, 3, none⟩ (.bool y.good)).setCell ⟨w.heap.size, 4, none⟩ (.slice y.al y.labels.length y.cl)).setCell ⟨w.heap.size, 5, none⟩ (.slice y.ap y.ports.length y.cp)).setCell ⟨w.heap.size, 6, none⟩ (.string y.cls)).setCell ⟨w.heap.size, 7, none⟩ (.slice y.ai y.lis.length y.ci)).setCell ⟨w.heap.size, 8, none⟩ (.slice y.aq y.pars.length y.cq)).setCell ⟨w.heap.size, 9, none⟩ (.slice y.ah y.hosts.length y.ch)).setCell ⟨w.heap.size, 10, none⟩ (.slice y.ar y.rules.length y.cr)).setCell ⟨w.heap.size, 11, none⟩ (.slice y.af y.frm.length y.cf)).setCell ⟨w.heap.size, 12, none⟩ (.slice y.ao y.tos.length y.co)) := own2.out
  have BQ : Below w.heap.size w (((((((((((((w1.setCell ⟨w.heap.size, 0, none⟩ (.int .i64 y.ref.kind)).setCell ⟨w.heap.size, 1, none⟩ (.string y.ref.space)).setCell ⟨w.heap.size, 2, none⟩ (.string y.ref.name)).setCell ⟨w.heap.size, 3, none⟩ (.bool y.good)).setCell ⟨w.heap.size, 4, none⟩ (.slice y.al y.labels.length y.cl)).setCell ⟨w.heap.size, 5, none⟩ (.slice y.ap y.ports.length y.cp)).setCell ⟨w.heap.size, 6, none⟩ (.string y.cls)).setCell ⟨w.heap.size, 7, none⟩ (.slice y.ai y.lis.length y.ci)).setCell ⟨w.heap.size, 8, none⟩ (.slice y.aq y.pars.length y.cq)).setCell ⟨w.heap.size, 9, none⟩ (.slice y.ah y.hosts.length y.ch)).setCell ⟨w.heap.size, 10, none⟩ (.slice y.ar y.rules.length y.cr)).setCell ⟨w.heap.size, 11, none⟩ (.slice y.af y.frm.length y.cf)).setCell ⟨w.heap.size, 12, none⟩ (.slice y.ao y.tos.length y.co)) := BB2.out
  clear K2 own2 BB2 lz z0 z1 z2 z3 z4 z5 z6 z7 z8 z9 z10 z11 z12 d0 d1 d2 d3 d4 d5 d6 d7 d8 d9 d10 d11 d12
  generalize (((((((((((((w1.setCell ⟨w.heap.size, 0, none⟩ (.int .i64 y.ref.kind)).setCell ⟨w.heap.size, 1, none⟩ (.string y.ref.space)).setCell ⟨w.heap.size, 2, none⟩ (.string y.ref.name)).setCell ⟨w.heap.size, 3, none⟩ (.bool y.good)).setCell ⟨w.heap.size, 4, none⟩ (.slice y.al y.labels.length y.cl)).setCell ⟨w.heap.size, 5, none⟩ (.slice y.ap y.ports.length y.cp)).setCell ⟨w.heap.size, 6, none⟩ (.string y.cls)).setCell ⟨w.heap.size, 7, none⟩ (.slice y.ai y.lis.length y.ci)).setCell ⟨w.heap.size, 8, none⟩ (.slice y.aq y.pars.length y.cq)).setCell ⟨w.heap.size, 9, none⟩ (.slice y.ah y.hosts.length y.ch)).setCell ⟨w.heap.size, 10, none⟩ (.slice y.ar y.rules.length y.cr)).setCell ⟨w.heap.size, 11, none⟩ (.slice y.af y.frm.length y.cf)).setCell ⟨w.heap.size, 12, none⟩ (.slice y.ao y.tos.length y.co)) = V at *
  have at_ := ownq.at_
  have ok := HOK.out
  have HMAY := hide (omay_any y V at_ ok)
  rw [show Ob.mayO y.b = true by rw [HY.out]; exact HM0.out] at HMAY
  have hmay : Ob.mayO y.b = true := by rw [HY.out]; exact HM0.out
  have hLs : y.rules.length ≤ 7 ∧ y.lis.length ≤ 9 ∧ y.ports.length ≤ 9 ∧ (fewO x.b).rules.length = y.rules.length ∧ (fewO x.b).lis.length = y.lis.length ∧ (fewO x.b).ports.length = y.ports.length := by
    have e1 : y.rules.map RlV.b = (x.b.rules.take 7).map fewRl := congrArg OB.rules HY.out
    have e2 : y.lis.map LiV.b = (x.b.lis.take 9).map fewLi := congrArg OB.lis HY.out
    have e3 : y.ports = x.b.ports.take 9 := congrArg OB.ports HY.out
    have f1 : (fewO x.b).rules.length = (y.rules.map RlV.b).length := by rw [← HY.out]; rfl
    have f2 : (fewO x.b).lis.length = (y.lis.map LiV.b).length := by rw [← HY.out]; rfl
    have f3 : (fewO x.b).ports.length = y.ports.length := by rw [← HY.out]; rfl
    rw [List.length_map] at f1 f2
    have l1 := congrArg List.length e1
    have l2 := congrArg List.length e2
    have l3 := congrArg List.length e3
    simp at l1 l2 l3
    refine ⟨by omega, by omega, by omega, f1, f2, f3⟩
  obtain ⟨hL1, hL2, hL3, g1, g2, g3⟩ := hLs
  have hl0 := HL0.out
  clear HY HOK HL0 HM0
  obtain ⟨⟨ork, ors, orn⟩, ogd, olb, oal, ocl, opo, oap, ocp, ocs, ols, oai, oci, opa, oaq, ocq, oho, oah, och, oru, oar, ocr, ofr, oaf, ocf, oto, oao, oco⟩ := y
  dsimp only at *
  rw [g1, g2, g3] at hl0
  clear g1 g2 g3
  refine HMAY.out.mono ?_
  rintro e w2 ⟨rfl, hb2⟩
  have kq2 := blk_below kq hb2
  obtain ⟨d0, d1, d2, d3, d4, d5, d6, d7, d8, d9, d10, d11, d12⟩ : _ ∧ _ ∧ _ ∧ _ ∧ _ ∧ _ ∧ _ ∧ _ ∧ _ ∧ _ ∧ _ ∧ _ ∧ _ := ⟨cellN kq2 (i := 0) rfl, cellN kq2 (i := 1) rfl, cellN kq2 (i := 2) rfl, cellN kq2 (i := 3) rfl, cellN kq2 (i := 4) rfl, cellN kq2 (i := 5) rfl, cellN kq2 (i := 6) rfl, cellN kq2 (i := 7) rfl, cellN kq2 (i := 8) rfl, cellN kq2 (i := 9) rfl, cellN kq2 (i := 10) rfl, cellN kq2 (i := 11) rfl, cellN kq2 (i := 12) rfl⟩
  have kq3 : (w2.alloc (.cells #[.int .i64 ork, .string ors, .string orn, .bool ogd, .slice oal olb.length ocl, .slice oap opo.length ocp, .string ocs, .slice oai ols.length oci, .slice oaq opa.length ocq, .slice oah oho.length och, .slice oar oru.length ocr, .slice oaf ofr.length ocf, .slice oao oto.length oco] 55)).heap[w.heap.size]? = _ := blk_below kq2 ((Below.refl _ _).alloc (Nat.le_refl _) _)
  have kl3 := alloc_new w2 (.cells #[.int .i64 ork, .string ors, .string orn, .bool ogd, .slice oal olb.length ocl, .slice oap opo.length ocp, .string ocs, .slice oai ols.length oci, .slice oaq opa.length ocq, .slice oah oho.length och, .slice oar oru.length ocr, .slice oaf ofr.length ocf, .slice oao oto.length oco] 55)
  have B23 : Below w2.heap.size w2 (w2.alloc (.cells #[.int .i64 ork, .string ors, .string orn, .bool ogd, .slice oal olb.length ocl, .slice oap opo.length ocp, .string ocs, .slice oai ols.length oci, .slice oaq opa.length ocq, .slice oah oho.length och, .slice oar oru.length ocr, .slice oaf ofr.length ocf, .slice oao oto.length oco] 55)) := (Below.refl _ _).alloc (Nat.le_refl _) _
  have at3 := at_.below (bb2 hb2 B23)
  have f10 := cellN kq3 (i := 10) rfl
  have f7 := cellN kq3 (i := 7) rfl
  have f5 := cellN kq3 (i := 5) rfl
  have z_oru : ¬ (0 : Int) < (oru.length : Int) := by omega
  have z_ols : ¬ (0 : Int) < (ols.length : Int) := by omega
  have hpos : 0 < opo.length := by omega
  have hpos2 : (0 : Int) < (opo.length : Int) := by omega
  have hLsmall : opo.length ≤ 10 := by omega
  obtain ⟨bb, hbb⟩ : ∃ z, z = decide (1 < opo.length) := ⟨_, rfl⟩
  have HBB : Hid (decide (1 < opo.length) = bb) := hbb.symm
  have hb1 : decide ((1 : Int) < (opo.length : Int)) = bb := by rw [hbb, decide_eq_decide]; omega
  clear hbb
  clear hl0
  have hkl : cb.toNat % opo.length < opo.length := Nat.mod_lt _ hpos
  have hrem : ((cb.toNat : Int) % (opo.length : Int)) = ((cb.toNat % opo.length : Nat) : Int) := by omega
  have hz3 : ¬ (opo.length : Int) = 0 := by omega
  have SLX : Sl EI (w2.alloc (.cells #[.int .i64 ork, .string ors, .string orn, .bool ogd, .slice oal olb.length ocl, .slice oap opo.length ocp, .string ocs, .slice oai ols.length oci, .slice oaq opa.length ocq, .slice oah oho.length och, .slice oar oru.length ocr, .slice oaf ofr.length ocf, .slice oao oto.length oco] 55)) (.slice oap opo.length ocp) opo := at3.ports
  generalize hkk : cb.toNat % opo.length = k at *
  clear hkk
  obtain ⟨hcap, hcm, hc⟩ := SLX.parts
  obtain ⟨_, g, off, rfl, hg, _⟩ := hc k hkl
  have SLX : Sl EI (w2.alloc (.cells #[.int .i64 ork, .string ors, .string orn, .bool ogd, .slice oal olb.length ocl, .slice (some ⟨g, off, none⟩) opo.length ocp, .string ocs, .slice oai ols.length oci, .slice oaq opa.length ocq, .slice oah oho.length och, .slice oar oru.length ocr, .slice oaf ofr.length ocf, .slice oao oto.length oco] 55)) (.slice (some ⟨g, off, none⟩) opo.length ocp) opo := ⟨_, _, rfl, hcap, hcm, hc⟩
  have PRE := hide (show Sl EI (w2.alloc (.cells #[.int .i64 ork, .string ors, .string orn, .bool ogd, .slice oal olb.length ocl, .slice (some ⟨g, off, none⟩) opo.length ocp, .string ocs, .slice oai ols.length oci, .slice oaq opa.length ocq, .slice oah oho.length och, .slice oar oru.length ocr, .slice oaf ofr.length ocf, .slice oao oto.length oco] 55)) (.slice (some ⟨g, off, none⟩) k ocp) (opo.take k) from by
    have := SLX.sub 0 k ocp (by omega) (by omega) hcm
    simpa using this)
  unfold maxLen at hcm
  have hk1 : (k : Int) < (opo.length : Int) := by omega
  have hk2 : (k : Int) ≤ (opo.length : Int) := by omega
  have hkc : (k : Int) ≤ (ocp : Int) := by omega
  have hwr : IntKind.i64.wrap ((k : Int) + 1) = ((k + 1 : Nat) : Int) := by rw [IntKind.wrap_i64]; omega
  have hm0 : (0 : Int) ≤ ((k + 1 : Nat) : Int) := by omega
  have hm1 : ((k + 1 : Nat) : Int) ≤ (opo.length : Int) := by omega
  have hm2 : ((k + 1 : Nat) : Int) ≤ (ocp : Int) := by omega
  have hm3 : k + 1 ≤ opo.length := by omega
  have hcI : (opo.length : Int) ≤ (ocp : Int) := by omega
  have HSX := hide SLX
  have HAT3 := hide at3
  have HE2 := hide hrem
  clear hc SLX at3
  go_wp2_with fail
  rw [HE2.out]
  clear hrem HE2 hz3
  generalize hX3 : w2.alloc (.cells #[.int .i64 ork, .string ors, .string orn, .bool ogd, .slice oal olb.length ocl, .slice (some ⟨g, off, none⟩) opo.length ocp, .string ocs, .slice oai ols.length oci, .slice oaq opa.length ocq, .slice oah oho.length och, .slice oar oru.length ocr, .slice oaf ofr.length ocf, .slice oao oto.length oco] 55) = X3 at *
  clear hX3
  obtain ⟨T, hT⟩ : ∃ T, T = Ob.less opo k := ⟨_, rfl⟩
  have HT := hide hT
  have HMK : Hid (T = opo.take k ++ opo.drop (k + 1)) := by rw [hT]; rfl
  clear hT
  generalize hmk : k + 1 = m at *
  have hmk2 := hide hmk
  clear hmk
  have n1' : ∀ W, Below X3.heap.size X3 W → W.cell? ⟨w.heap.size, 5, none⟩ = some (.slice (some ⟨g, off, none⟩) opo.length ocp) := fun W h => cellN (blk_below kq3 h) (i := 5) rfl
  have FIN : ∀ v11 wf (hSf : Below X3.heap.size X3 wf) (bs : Nat) (hbs : X3.heap.size ≤ bs) (r11 : wf.ownsRow bs 3 EI.n v11 (0 + (opo.take k).length + (opo.drop m).length) (EI.flat ([] ++ opo.take k ++ opo.drop m))),
      ∃ a11 c11, v11 = .slice a11 T.length c11 ∧ (setL wf w2.heap.size 5 [.slice a11 T.length c11]).heap[w2.heap.size]? = some (.cells #[.int .i64 ork, .string ors, .string orn, .bool ogd, .slice oal olb.length ocl, .slice a11 T.length c11, .string ocs, .slice oai ols.length oci, .slice oaq opa.length ocq, .slice oah oho.length och, .slice oar oru.length ocr, .slice oaf ofr.length ocf, .slice oao oto.length oco] 55) ∧ Below w2.heap.size w2 (setL wf w2.heap.size 5 [.slice a11 T.length c11]) ∧ Sl EI (setL wf w2.heap.size 5 [.slice a11 T.length c11]) (.slice a11 T.length c11) T := by
    intro v11 wf hSf bs hbs r11
    obtain ⟨a11, c11, hv11⟩ := row_form r11
    have hlen : 0 + (opo.take k).length + (opo.drop m).length = T.length := by rw [HMK.out, ← hmk2.out]; simp
    rw [hlen] at hv11
    subst hv11
    rw [hlen, show [] ++ opo.take k ++ opo.drop m = T by rw [HMK.out, ← hmk2.out]; rfl] at r11
    have hz := blk_below kl3 hSf
    refine ⟨a11, c11, rfl, setL_one (g := w2.heap.size) (t := 55) [.int .i64 ork, .string ors, .string orn, .bool ogd, .slice oal olb.length ocl] [.string ocs, .slice oai ols.length oci, .slice oaq opa.length ocq, .slice oah oho.length och, .slice oar oru.length ocr, .slice oaf ofr.length ocf, .slice oao oto.length oco] (.slice (some ⟨g, off, none⟩) opo.length ocp) (.slice a11 T.length c11) wf hz, setL_below (w := w2) (B := w2.heap.size) (g := w2.heap.size) (Nat.le_refl _) [.slice a11 T.length c11] wf 5 (B23.trans (hSf.mono B23.size)), ?_⟩
    refine Sl.of_row (E := EI) rfl (row_setL (k := 5) (cs := [.slice a11 T.length c11]) r11 hz (by decide)) (fun x hx => ?_)
    exact EI.below _ _ _ (at_.ports.all x ((Ob.less_sub _ _).subset (by rw [← HT.out]; exact hx))) (setL_below (w := V) (B := V.heap.size) (g := w2.heap.size) hb2.size [.slice a11 T.length c11] wf 5 (bb2 hb2 (B23.trans (hSf.mono B23.size))))
  rcases Classical.em (ocp = m) with hcm2 | hcm2
  · subst hcm2
    have SUF := hide (show Sl EI X3 (.slice (some ⟨g, off, none⟩) 0 0) (opo.drop ocp) from by
      have := HSX.out.sub 0 0 0 (by omega) (by omega) (by unfold maxLen; omega)
      rw [List.drop_eq_nil_of_le (by omega)]
      simpa using this)
    have hll : opo.length - ocp = 0 := by omega
    have hcc : ocp - ocp = 0 := by omega
    refine wp_region_G 13 (fun W => Below X3.heap.size X3 W) (by kernel_rfl) ((Below.refl _ _).drew) ?_
    refine wpG_take (i := 1) 6 (v := .pointer (some ⟨w.heap.size, 5, none⟩)) rfl (by kernel_rfl) (by kernel_rfl) (by kernel_rfl) (by decide) (by kernel_rfl) (by kernel_rfl) (fun _ _ _ h => h) (Or.inl ⟨by rfl, fun w1 hS => ?_⟩) ?_
    · (try dsimp only at hS)
      go_simp
    simp only [Act.put, List.setIfInBounds_toArray, List.set_cons_zero, List.set_cons_succ]
    refine wpG_take (i := 2) 6 (v := .slice (some ⟨g, off, none⟩) opo.length ocp) rfl (by kernel_rfl) (by kernel_rfl) (by kernel_rfl) (by decide) (by kernel_rfl) (by kernel_rfl) (fun _ _ _ h => h) (Or.inl ⟨by rfl, fun w1 hS => ?_⟩) ?_
    · (try dsimp only at hS)
      go_simp
    simp only [Act.put, List.setIfInBounds_toArray, List.set_cons_zero, List.set_cons_succ]
    refine wpG_take (i := 3) 6 (v := .int .i64 k) rfl (by kernel_rfl) (by kernel_rfl) (by kernel_rfl) (by decide) (by kernel_rfl) (by kernel_rfl) (fun _ _ _ h => h) (Or.inl ⟨by rfl, fun w1 hS => ?_⟩) ?_
    · (try dsimp only at hS)
      go_simp
    simp only [Act.put, List.setIfInBounds_toArray, List.set_cons_zero, List.set_cons_succ]
    refine wpG_take (i := 4) 6 (v := .slice (some ⟨g, off, none⟩) k ocp) rfl (by kernel_rfl) (by kernel_rfl) (by kernel_rfl) (by decide) (by kernel_rfl) (by kernel_rfl) (fun _ _ _ h => h) (Or.inl ⟨by rfl, fun w1 hS => ?_⟩) ?_
    · (try dsimp only at hS)
      go_simp
    simp only [Act.put, List.setIfInBounds_toArray, List.set_cons_zero, List.set_cons_succ]
    refine wpG_take (i := 6) 6 (v := .pointer (some ⟨w.heap.size, 5, none⟩)) rfl (by kernel_rfl) (by kernel_rfl) (by kernel_rfl) (by decide) (by kernel_rfl) (by kernel_rfl) (fun _ _ _ h => h) (Or.inl ⟨by rfl, fun w1 hS => ?_⟩) ?_
    · (try dsimp only at hS)
      go_simp
    simp only [Act.put, List.setIfInBounds_toArray, List.set_cons_zero, List.set_cons_succ]
    refine wpG_take (i := 7) 6 (v := .slice (some ⟨g, off, none⟩) opo.length ocp) rfl (by kernel_rfl) (by kernel_rfl) (by kernel_rfl) (by decide) (by kernel_rfl) (by kernel_rfl) (fun _ _ _ h => h) (Or.inl ⟨by rfl, fun w1 hS => ?_⟩) ?_
    · (try dsimp only at hS)
      go_simp
    simp only [Act.put, List.setIfInBounds_toArray, List.set_cons_zero, List.set_cons_succ]
    refine wpG_take (i := 8) 6 (v := .int .i64 k) rfl (by kernel_rfl) (by kernel_rfl) (by kernel_rfl) (by decide) (by kernel_rfl) (by kernel_rfl) (fun _ _ _ h => h) (Or.inl ⟨by rfl, fun w1 hS => ?_⟩) ?_
    · (try dsimp only at hS)
      go_simp
    simp only [Act.put, List.setIfInBounds_toArray, List.set_cons_zero, List.set_cons_succ]
    refine wpG_take (i := 9) 6 (v := .int .i64 ocp) rfl (by kernel_rfl) (by kernel_rfl) (by kernel_rfl) (by decide) (by kernel_rfl) (by kernel_rfl) (fun _ _ _ h => h) (Or.inl ⟨by rfl, fun w1 hS => ?_⟩) ?_
    · (try dsimp only at hS)
      go_simp
    simp only [Act.put, List.setIfInBounds_toArray, List.set_cons_zero, List.set_cons_succ]
    refine wpG_take (i := 10) 6 (v := .slice (some ⟨g, off, none⟩) 0 0) rfl (by kernel_rfl) (by kernel_rfl) (by kernel_rfl) (by decide) (by kernel_rfl) (by kernel_rfl) (fun _ _ _ h => h) (Or.inl ⟨by rfl, fun w1 hS => ?_⟩) ?_
    · (try dsimp only at hS)
      go_simp
    simp only [Act.put, List.setIfInBounds_toArray, List.set_cons_zero, List.set_cons_succ]
    clear n1'
    refine wpG_ready (rs := [0]) (by kernel_rfl) (by simp) (fun wa hGa hSa i hi => ?_)
    obtain rfl : i = 0 := by simpa using hi
    clear hi
    have R0 := owns_emptyT 3 EI.n wa _ rfl
    refine wpOp_step rfl (by rfl) (fun K' hK' => ?_)
    replace hK' := hide hK'
    go_simp
    refine hK'.out _ _ (wpG_kept (by decide) (hSa.alloc hSa.size _) ?_)
    clear hK' K'
    refine wpG_ready (rs := [5]) (by kernel_rfl) (by simp) (fun wb hGb hSb i hi => ?_)
    obtain rfl : i = 5 := by simpa using hi
    clear hi
    have R1 := ownsRow_below R0 hGb
    have hab : wa.heap.size ≤ wb.heap.size := (below_box hGb).size
    refine wpOp_step rfl (by rfl) (fun K' hK' => ?_)
    refine wp_append_sl (E := EI) 48 3 _ 8 Tryz.underlying48 Tryz.infoInt rfl (by decide) _ _ _ rfl wa.heap.size _ 0 [] rfl R1 _ _ rfl (PRE.out.below hSb) (by have := hLsmall; simp; omega) hab ?_
    intro v5 w5 r5 g5
    have hS5 : Below X3.heap.size X3 w5 := hSb.grown g5 (by have := hSa.size; omega) (fun j e => Nat.le_trans hSa.size (ownBlock_ge R1 e))
    have hbw := ((Below.refl wa.heap.size wb).grown g5 hab (fun j e => ownBlock_ge R1 e)).size
    refine hK' _ _ (wpG_kept (by decide) hS5 ?_)
    clear hK' K' hGa hGb hSb R0 g5
    try simp only [Act.put, List.setIfInBounds_toArray, List.set_cons_zero, List.set_cons_succ]
    refine wpG_ready (rs := [11]) (by kernel_rfl) (by simp) (fun wc hGc hSc i hi => ?_)
    obtain rfl : i = 11 := by simpa using hi
    clear hi
    have R2 := ownsRow_below r5 hGc
    have hac : wa.heap.size ≤ wc.heap.size := by have := hGc.size; omega
    refine wpOp_step rfl (by rfl) (fun K' hK' => ?_)
    refine wp_append_sl (E := EI) 48 3 _ 8 Tryz.underlying48 Tryz.infoInt rfl (by decide) _ _ _ rfl wa.heap.size _ _ _ rfl R2 _ _ rfl (SUF.out.below hSc) (by have := hLsmall; simp; omega) hac ?_
    intro v11 w11 r11 g11
    have hS11 : Below X3.heap.size X3 w11 := hSc.grown g11 (by have := hSa.size; omega) (fun j e => Nat.le_trans hSa.size (ownBlock_ge R2 e))
    refine hK' _ _ (wpG_kept (by decide) hS11 ?_)
    clear hK' K' hGc hSc R1 R2 r5 g11 hS5
    try simp only [Act.put, List.setIfInBounds_toArray, List.set_cons_zero, List.set_cons_succ]
    refine wpG_take (i := 12) 6 (v := .pointer (some ⟨w2.heap.size, 5, none⟩)) rfl (by kernel_rfl) (by kernel_rfl) (by kernel_rfl) (by decide) (by kernel_rfl) (by kernel_rfl) (fun _ _ _ h => h) (Or.inl ⟨by rfl, fun w1 hS => ?_⟩) ?_
    · (try dsimp only at hS)
      go_simp
    simp only [Act.put, List.setIfInBounds_toArray, List.set_cons_zero, List.set_cons_succ]
    refine wpG_ready (rs := [13]) (by kernel_rfl) (by simp) (fun wf hGf hSf i hi => ?_)
    obtain rfl : i = 13 := by simpa using hi
    clear hi
    obtain ⟨a11, c11, rfl, kl4, B24, SL4⟩ := FIN _ wf hSf _ hSa.size (by have := ownsRow_below r11 hGf; simpa using this)
    have hz := blk_below kl3 hSf
    have z2 := cellN hz (i := 5) rfl
    have lz := liveN hz
    have kq4 : (setL wf w2.heap.size 5 [.slice a11 T.length c11]).heap[w.heap.size]? = some (.cells #[.int .i64 ork, .string ors, .string orn, .bool ogd, .slice oal olb.length ocl, .slice (some ⟨g, off, none⟩) opo.length ocp, .string ocs, .slice oai ols.length oci, .slice oaq opa.length ocq, .slice oah oho.length och, .slice oar oru.length ocr, .slice oaf ofr.length ocf, .slice oao oto.length oco] 55) := (setL_far (by have := lt_blk kq2; omega) _ _ _).trans (blk_below kq3 hSf)
    refine wpOp_step rfl (by rfl) (fun K' hK' => ?_)
    go_simp
    refine hK' _ _ (wpG_past (by decide) ?_)
    clear hK' K' z2 lz hz hGf hSf hSa r11 FIN HAT3 HSX PRE SUF
    refine wpAny_end (by kernel_rfl) ?_
    first | change Exit.inBlock _ _ _ _ (setL wf w2.heap.size 5 [.slice a11 T.length c11]) | change Exit.then _ _ _ _ (setL wf w2.heap.size 5 [.slice a11 T.length c11])
    generalize setL wf w2.heap.size 5 [.slice a11 T.length c11] = V4 at *
    have BQ4 := hide (bb2 BQ (bb2 hb2 B24))
    have HAT4 := hide (at_.below (bb2 hb2 B24))
    have HATL : Hid (OV.at_ (⟨⟨ork, ors, orn⟩, ogd, olb, oal, ocl, T, a11, c11, ocs, ols, oai, oci, opa, oaq, ocq, oho, oah, och, oru, oar, ocr, ofr, oaf, ocf, oto, oao, oco⟩ : OV) V4) := hide (let q := HAT4.out; ⟨q.labels, SL4, q.lis, q.pars, q.hosts, q.rules, q.frm, q.tos⟩)
    have HOKL : Hid (OkO (⟨⟨ork, ors, orn⟩, ogd, olb, oal, ocl, T, a11, c11, ocs, ols, oai, oci, opa, oaq, ocq, oho, oah, och, oru, oar, ocr, ofr, oaf, ocf, oto, oao, oco⟩ : OV)) := hide (let q := ok; ⟨q.ref, q.labels, q.cls, q.lis, q.pars, q.hosts, q.rules, q.frm, q.tos⟩)
    have HML : Hid (Ob.mayO (OV.b (⟨⟨ork, ors, orn⟩, ogd, olb, oal, ocl, T, a11, c11, ocs, ols, oai, oci, opa, oaq, ocq, oho, oah, och, oru, oar, ocr, ofr, oaf, ocf, oto, oao, oco⟩ : OV)) = bb) := by
      have := show Ob.mayO (OV.b ⟨⟨ork, ors, orn⟩, ogd, olb, oal, ocl, T, a11, c11, ocs, ols, oai, oci, opa, oaq, ocq, oho, oah, och, oru, oar, ocr, ofr, oaf, ocf, oto, oao, oco⟩) = bb from by have := Ob.less_ports (o := OV.b ⟨⟨ork, ors, orn⟩, ogd, olb, oal, ocl, opo, (some ⟨g, off, none⟩), ocp, ocs, ols, oai, oci, opa, oaq, ocq, oho, oah, och, oru, oar, ocr, ofr, oaf, ocf, oto, oao, oco⟩) hmay (k := k) (by show k < opo.length; exact hkl); rw [show (OV.b (⟨⟨ork, ors, orn⟩, ogd, olb, oal, ocl, opo, (some ⟨g, off, none⟩), ocp, ocs, ols, oai, oci, opa, oaq, ocq, oho, oah, och, oru, oar, ocr, ofr, oaf, ocf, oto, oao, oco⟩ : OV)).ports = opo from rfl, ← HT.out] at this; (try rw [List.length_map] at this); exact this.trans HBB.out
      exact this
    clear HMK hmk2

    have okL := HOKL.out
    have atL := HATL.out
    have at4 := HAT4.out
    obtain ⟨o0, o1, o2, o3, o4, o5, o6, o7, o8, o9, o10, o11, o12⟩ : _ ∧ _ ∧ _ ∧ _ ∧ _ ∧ _ ∧ _ ∧ _ ∧ _ ∧ _ ∧ _ ∧ _ ∧ _ := ⟨cellN kq4 (i := 0) rfl, cellN kq4 (i := 1) rfl, cellN kq4 (i := 2) rfl, cellN kq4 (i := 3) rfl, cellN kq4 (i := 4) rfl, cellN kq4 (i := 5) rfl, cellN kq4 (i := 6) rfl, cellN kq4 (i := 7) rfl, cellN kq4 (i := 8) rfl, cellN kq4 (i := 9) rfl, cellN kq4 (i := 10) rfl, cellN kq4 (i := 11) rfl, cellN kq4 (i := 12) rfl⟩
    by_cases h6 : ork = 6
    · subst h6
      have HODD := hide (Ob.odd_cls (o := OV.b ⟨⟨6, ors, orn⟩, ogd, olb, oal, ocl, opo, (some ⟨g, off, none⟩), ocp, ocs, ols, oai, oci, opa, oaq, ocq, oho, oah, och, oru, oar, ocr, ofr, oaf, ocf, oto, oao, oco⟩) rfl ⟨#[99]⟩ rfl)
      have B5 : Below V4.heap.size V4 (V4.alloc (.cells #[.int .i64 6, .string ors, .string orn, .bool ogd, .slice oal olb.length ocl, .slice (some ⟨g, off, none⟩) opo.length ocp, .string ⟨#[99]⟩, .slice oai ols.length oci, .slice oaq opa.length ocq, .slice oah oho.length och, .slice oar oru.length ocr, .slice oaf ofr.length ocf, .slice oao oto.length oco] 55)) := (Below.refl _ _).alloc (Nat.le_refl _) _
      have CL := hide (omay_any (⟨⟨6, ors, orn⟩, ogd, olb, oal, ocl, T, a11, c11, ocs, ols, oai, oci, opa, oaq, ocq, oho, oah, och, oru, oar, ocr, ofr, oaf, ocf, oto, oao, oco⟩) (V4.alloc (.cells #[.int .i64 6, .string ors, .string orn, .bool ogd, .slice oal olb.length ocl, .slice (some ⟨g, off, none⟩) opo.length ocp, .string ⟨#[99]⟩, .slice oai ols.length oci, .slice oaq opa.length ocq, .slice oah oho.length och, .slice oar oru.length ocr, .slice oaf ofr.length ocf, .slice oao oto.length oco] 55)) (atL.below B5) okL)
      have CO := fun W (h : Below V4.heap.size V4 W) => hide (omf (omay_any ⟨⟨6, ors, orn⟩, ogd, olb, oal, ocl, opo, (some ⟨g, off, none⟩), ocp, ⟨#[99]⟩, ols, oai, oci, opa, oaq, ocq, oho, oah, och, oru, oar, ocr, ofr, oaf, ocf, oto, oao, oco⟩ W ⟨at4.labels.below h, at4.ports.below h, at4.lis.below h, at4.pars.below h, at4.hosts.below h, at4.rules.below h, at4.frm.below h, at4.tos.below h⟩ ⟨ok.ref, ok.labels, (show (1 : Nat) ≤ 100 by decide), ok.lis, ok.pars, ok.hosts, ok.rules, ok.frm, ok.tos⟩) HODD.out)
      have KL5 := blk_below kl4 B5
      obtain ⟨l0, l1, l2, l3, l4, l5, l6, l7, l8, l9, l10, l11, l12⟩ : _ ∧ _ ∧ _ ∧ _ ∧ _ ∧ _ ∧ _ ∧ _ ∧ _ ∧ _ ∧ _ ∧ _ ∧ _ := ⟨cellN KL5 (i := 0) rfl, cellN KL5 (i := 1) rfl, cellN KL5 (i := 2) rfl, cellN KL5 (i := 3) rfl, cellN KL5 (i := 4) rfl, cellN KL5 (i := 5) rfl, cellN KL5 (i := 6) rfl, cellN KL5 (i := 7) rfl, cellN KL5 (i := 8) rfl, cellN KL5 (i := 9) rfl, cellN KL5 (i := 10) rfl, cellN KL5 (i := 11) rfl, cellN KL5 (i := 12) rfl⟩
      have HK6 := hide (alloc_new V4 (.cells #[.int .i64 6, .string ors, .string orn, .bool ogd, .slice oal olb.length ocl, .slice (some ⟨g, off, none⟩) opo.length ocp, .string ⟨#[99]⟩, .slice oai ols.length oci, .slice oaq opa.length ocq, .slice oah oho.length och, .slice oar oru.length ocr, .slice oaf ofr.length ocf, .slice oao oto.length oco] 55))
      have p0 : (V4.alloc (.cells #[.int .i64 6, .string ors, .string orn, .bool ogd, .slice oal olb.length ocl, .slice (some ⟨g, off, none⟩) opo.length ocp, .string ocs, .slice oai ols.length oci, .slice oaq opa.length ocq, .slice oah oho.length och, .slice oar oru.length ocr, .slice oaf ofr.length ocf, .slice oao oto.length oco] 55)).cell? ⟨w.heap.size, 0, none⟩ = some (.int .i64 6) := cellN (blk_below kq4 ((Below.refl _ _).alloc (Nat.le_refl _) _)) (i := 0) rfl
      rw [HML.out] at CL
      clear okL atL at4 KL5 kl4
      go_wp2_with fail
      clear p0
      refine CL.out.mono ?_
      rintro e w6 ⟨rfl, hb6⟩
      have K6 := blk_below HK6.out hb6
      have HB6 := hide (bb2 BQ4.out (bb2 B5 hb6))
      have CO1 := hide (CO w6 (bb2 B5 hb6)).out
      obtain ⟨e0, e1, e2, e3, e4, e5, e6, e7, e8, e9, e10, e11, e12⟩ : _ ∧ _ ∧ _ ∧ _ ∧ _ ∧ _ ∧ _ ∧ _ ∧ _ ∧ _ ∧ _ ∧ _ ∧ _ := ⟨cellN K6 (i := 0) rfl, cellN K6 (i := 1) rfl, cellN K6 (i := 2) rfl, cellN K6 (i := 3) rfl, cellN K6 (i := 4) rfl, cellN K6 (i := 5) rfl, cellN K6 (i := 6) rfl, cellN K6 (i := 7) rfl, cellN K6 (i := 8) rfl, cellN K6 (i := 9) rfl, cellN K6 (i := 10) rfl, cellN K6 (i := 11) rfl, cellN K6 (i := 12) rfl⟩
      clear o0 o1 o2 o3 o4 o5 o6 o7 o8 o9 o10 o11 o12 l0 l1 l2 l3 l4 l5 l6 l7 l8 l9 l10 l11 l12 CL CO B5 hb6 K6
      go_wp2_with fail
      refine CO1.out.mono ?_
      rintro e w7 ⟨rfl, hb7⟩
      clear e0 e1 e2 e3 e4 e5 e6 e7 e8 e9 e10 e11 e12 CO1
      go_wp2_with fail
      refine (oawake_any _).mono ?_
      rintro e w8 ⟨rfl, hb8⟩
      go_wp2_with fail
      go_ret
      exact ⟨rfl, bb2 HB6.out (bb2 hb7 hb8)⟩
    · have t6 : (ork == 6) = false := by simpa using h6
      have HODD := hide (Ob.odd_hosts (o := OV.b ⟨⟨ork, ors, orn⟩, ogd, olb, oal, ocl, opo, (some ⟨g, off, none⟩), ocp, ocs, ols, oai, oci, opa, oaq, ocq, oho, oah, och, oru, oar, ocr, ofr, oaf, ocf, oto, oao, oco⟩) h6 [⟨#[97]⟩] (by simp))
      obtain ⟨V5, hV5⟩ : ∃ z, z = (V4.alloc (.cells #[.int .i64 ork, .string ors, .string orn, .bool ogd, .slice oal olb.length ocl, .slice (some ⟨g, off, none⟩) opo.length ocp, .string ocs, .slice oai ols.length oci, .slice oaq opa.length ocq, .slice (some ⟨V4.heap.size + 1, 0, none⟩) 1 1, .slice oar oru.length ocr, .slice oaf ofr.length ocf, .slice oao oto.length oco] 55)).alloc (.cells #[.string ⟨#[97]⟩] 9) := ⟨_, rfl⟩
      have B5 : Below V4.heap.size V4 V5 := by
        rw [hV5]
        exact ((Below.refl _ _).alloc (Nat.le_refl _) _).alloc (by simp) _
      have K5 : V5.heap[V4.heap.size]? = some (.cells #[.int .i64 ork, .string ors, .string orn, .bool ogd, .slice oal olb.length ocl, .slice (some ⟨g, off, none⟩) opo.length ocp, .string ocs, .slice oai ols.length oci, .slice oaq opa.length ocq, .slice (some ⟨V4.heap.size + 1, 0, none⟩) 1 1, .slice oar oru.length ocr, .slice oaf ofr.length ocf, .slice oao oto.length oco] 55) := by
        rw [hV5]
        exact blk_below (alloc_new V4 _) ((Below.refl _ _).alloc (Nat.le_refl _) _)
      have S5 : V5.heap[V4.heap.size + 1]? = some (.cells #[.string ⟨#[97]⟩] 9) := by
        rw [hV5]
        have := alloc_new (V4.alloc (.cells #[.int .i64 ork, .string ors, .string orn, .bool ogd, .slice oal olb.length ocl, .slice (some ⟨g, off, none⟩) opo.length ocp, .string ocs, .slice oai ols.length oci, .slice oaq opa.length ocq, .slice (some ⟨V4.heap.size + 1, 0, none⟩) 1 1, .slice oar oru.length ocr, .slice oaf ofr.length ocf, .slice oao oto.length oco] 55)) (.cells #[.string ⟨#[97]⟩] 9)
        rw [World.size_alloc] at this
        exact this
      have CL := hide (omay_any (⟨⟨ork, ors, orn⟩, ogd, olb, oal, ocl, T, a11, c11, ocs, ols, oai, oci, opa, oaq, ocq, oho, oah, och, oru, oar, ocr, ofr, oaf, ocf, oto, oao, oco⟩) V5 (atL.below B5) okL)
      have SLH : Sl ES V5 (.slice (some ⟨V4.heap.size + 1, 0, none⟩) 1 1) [⟨#[97]⟩] := Sl.at_block (E := ES) (x := ⟨#[97]⟩) S5 trivial
      have CO := fun W (h : Below V5.heap.size V5 W) => hide (omf (omay_any ⟨⟨ork, ors, orn⟩, ogd, olb, oal, ocl, opo, (some ⟨g, off, none⟩), ocp, ocs, ols, oai, oci, opa, oaq, ocq, [⟨#[97]⟩], some ⟨V4.heap.size + 1, 0, none⟩, 1, oru, oar, ocr, ofr, oaf, ocf, oto, oao, oco⟩ W ⟨at4.labels.below (bb2 B5 h), at4.ports.below (bb2 B5 h), at4.lis.below (bb2 B5 h), at4.pars.below (bb2 B5 h), SLH.below h, at4.rules.below (bb2 B5 h), at4.frm.below (bb2 B5 h), at4.tos.below (bb2 B5 h)⟩ ⟨ok.ref, ok.labels, ok.cls, ok.lis, ok.pars, (fun s hs => by rw [List.mem_singleton] at hs; subst hs; exact (show (1 : Nat) ≤ 100 by decide)), ok.rules, ok.frm, ok.tos⟩) HODD.out)
      have KL5 := blk_below kl4 B5
      have HK5 := hide K5
      have HBV5 := hide (bb2 BQ4.out B5)
      rw [HML.out] at CL
      have p0 : (V4.alloc (.cells #[.int .i64 ork, .string ors, .string orn, .bool ogd, .slice oal olb.length ocl, .slice (some ⟨g, off, none⟩) opo.length ocp, .string ocs, .slice oai ols.length oci, .slice oaq opa.length ocq, .slice oah oho.length och, .slice oar oru.length ocr, .slice oaf ofr.length ocf, .slice oao oto.length oco] 55)).cell? ⟨w.heap.size, 0, none⟩ = some (.int .i64 ork) := cellN (blk_below kq4 ((Below.refl _ _).alloc (Nat.le_refl _) _)) (i := 0) rfl
      obtain ⟨l0, l1, l2, l3, l4, l5, l6, l7, l8, l9, l10, l11, l12⟩ : _ ∧ _ ∧ _ ∧ _ ∧ _ ∧ _ ∧ _ ∧ _ ∧ _ ∧ _ ∧ _ ∧ _ ∧ _ := ⟨cellN KL5 (i := 0) rfl, cellN KL5 (i := 1) rfl, cellN KL5 (i := 2) rfl, cellN KL5 (i := 3) rfl, cellN KL5 (i := 4) rfl, cellN KL5 (i := 5) rfl, cellN KL5 (i := 6) rfl, cellN KL5 (i := 7) rfl, cellN KL5 (i := 8) rfl, cellN KL5 (i := 9) rfl, cellN KL5 (i := 10) rfl, cellN KL5 (i := 11) rfl, cellN KL5 (i := 12) rfl⟩
      rw [hV5] at l0 l1 l2 l3 l4 l5 l6 l7 l8 l9 l10 l11 l12
      clear okL atL at4 KL5 kl4 K5 S5
      go_wp2_with fail
      rw [← hV5]
      clear p0 l0 l1 l2 l3 l4 l5 l6 l7 l8 l9 l10 l11 l12 hV5
      refine CL.out.mono ?_
      rintro e w6 ⟨rfl, hb6⟩
      have K6 := blk_below HK5.out hb6
      have HB6 := hide (bb2 HBV5.out hb6)
      have CO1 := hide (CO w6 hb6).out
      obtain ⟨e0, e1, e2, e3, e4, e5, e6, e7, e8, e9, e10, e11, e12⟩ : _ ∧ _ ∧ _ ∧ _ ∧ _ ∧ _ ∧ _ ∧ _ ∧ _ ∧ _ ∧ _ ∧ _ ∧ _ := ⟨cellN K6 (i := 0) rfl, cellN K6 (i := 1) rfl, cellN K6 (i := 2) rfl, cellN K6 (i := 3) rfl, cellN K6 (i := 4) rfl, cellN K6 (i := 5) rfl, cellN K6 (i := 6) rfl, cellN K6 (i := 7) rfl, cellN K6 (i := 8) rfl, cellN K6 (i := 9) rfl, cellN K6 (i := 10) rfl, cellN K6 (i := 11) rfl, cellN K6 (i := 12) rfl⟩
      clear o0 o1 o2 o3 o4 o5 o6 o7 o8 o9 o10 o11 o12 CL CO hb6 K6
      go_wp2_with fail
      refine CO1.out.mono ?_
      rintro e w7 ⟨rfl, hb7⟩
      clear e0 e1 e2 e3 e4 e5 e6 e7 e8 e9 e10 e11 e12 CO1
      go_wp2_with fail
      refine (oawake_any _).mono ?_
      rintro e w8 ⟨rfl, hb8⟩
      go_wp2_with fail
      go_ret
      exact ⟨rfl, bb2 HB6.out (bb2 hb7 hb8)⟩
  · have SUF := hide (show Sl EI X3 (.slice (some ⟨g, off + m, none⟩) (opo.length - m) (ocp - m)) (opo.drop m) from by
      have := HSX.out.sub m (opo.length - m) (ocp - m) (by omega) (by omega) (by unfold maxLen; omega)
      have e : (opo.drop m).take (opo.length - m) = opo.drop m := List.take_of_length_le (by simp)
      rw [e] at this
      simpa [EI] using this)
    refine wp_region_G 13 (fun W => Below X3.heap.size X3 W) (by kernel_rfl) ((Below.refl _ _).drew) ?_
    refine wpG_take (i := 1) 6 (v := .pointer (some ⟨w.heap.size, 5, none⟩)) rfl (by kernel_rfl) (by kernel_rfl) (by kernel_rfl) (by decide) (by kernel_rfl) (by kernel_rfl) (fun _ _ _ h => h) (Or.inl ⟨by rfl, fun w1 hS => ?_⟩) ?_
    · (try dsimp only at hS)
      go_simp
    simp only [Act.put, List.setIfInBounds_toArray, List.set_cons_zero, List.set_cons_succ]
    refine wpG_take (i := 2) 6 (v := .slice (some ⟨g, off, none⟩) opo.length ocp) rfl (by kernel_rfl) (by kernel_rfl) (by kernel_rfl) (by decide) (by kernel_rfl) (by kernel_rfl) (fun _ _ _ h => h) (Or.inl ⟨by rfl, fun w1 hS => ?_⟩) ?_
    · (try dsimp only at hS)
      go_simp
    simp only [Act.put, List.setIfInBounds_toArray, List.set_cons_zero, List.set_cons_succ]
    refine wpG_take (i := 3) 6 (v := .int .i64 k) rfl (by kernel_rfl) (by kernel_rfl) (by kernel_rfl) (by decide) (by kernel_rfl) (by kernel_rfl) (fun _ _ _ h => h) (Or.inl ⟨by rfl, fun w1 hS => ?_⟩) ?_
    · (try dsimp only at hS)
      go_simp
    simp only [Act.put, List.setIfInBounds_toArray, List.set_cons_zero, List.set_cons_succ]
    refine wpG_take (i := 4) 6 (v := .slice (some ⟨g, off, none⟩) k ocp) rfl (by kernel_rfl) (by kernel_rfl) (by kernel_rfl) (by decide) (by kernel_rfl) (by kernel_rfl) (fun _ _ _ h => h) (Or.inl ⟨by rfl, fun w1 hS => ?_⟩) ?_
    · (try dsimp only at hS)
      go_simp
    simp only [Act.put, List.setIfInBounds_toArray, List.set_cons_zero, List.set_cons_succ]
    refine wpG_take (i := 6) 6 (v := .pointer (some ⟨w.heap.size, 5, none⟩)) rfl (by kernel_rfl) (by kernel_rfl) (by kernel_rfl) (by decide) (by kernel_rfl) (by kernel_rfl) (fun _ _ _ h => h) (Or.inl ⟨by rfl, fun w1 hS => ?_⟩) ?_
    · (try dsimp only at hS)
      go_simp
    simp only [Act.put, List.setIfInBounds_toArray, List.set_cons_zero, List.set_cons_succ]
    refine wpG_take (i := 7) 6 (v := .slice (some ⟨g, off, none⟩) opo.length ocp) rfl (by kernel_rfl) (by kernel_rfl) (by kernel_rfl) (by decide) (by kernel_rfl) (by kernel_rfl) (fun _ _ _ h => h) (Or.inl ⟨by rfl, fun w1 hS => ?_⟩) ?_
    · (try dsimp only at hS)
      go_simp
    simp only [Act.put, List.setIfInBounds_toArray, List.set_cons_zero, List.set_cons_succ]
    refine wpG_take (i := 8) 6 (v := .int .i64 k) rfl (by kernel_rfl) (by kernel_rfl) (by kernel_rfl) (by decide) (by kernel_rfl) (by kernel_rfl) (fun _ _ _ h => h) (Or.inl ⟨by rfl, fun w1 hS => ?_⟩) ?_
    · (try dsimp only at hS)
      go_simp
    simp only [Act.put, List.setIfInBounds_toArray, List.set_cons_zero, List.set_cons_succ]
    refine wpG_take (i := 9) 6 (v := .int .i64 m) rfl (by kernel_rfl) (by kernel_rfl) (by kernel_rfl) (by decide) (by kernel_rfl) (by kernel_rfl) (fun _ _ _ h => h) (Or.inl ⟨by rfl, fun w1 hS => ?_⟩) ?_
    · (try dsimp only at hS)
      go_simp
    simp only [Act.put, List.setIfInBounds_toArray, List.set_cons_zero, List.set_cons_succ]
    refine wpG_take (i := 10) 6 (v := .slice (some ⟨g, off + m, none⟩) (opo.length - m) (ocp - m)) rfl (by kernel_rfl) (by kernel_rfl) (by kernel_rfl) (by decide) (by kernel_rfl) (by kernel_rfl) (fun _ _ _ h => h) (Or.inl ⟨by rfl, fun w1 hS => ?_⟩) ?_
    · (try dsimp only at hS)
      go_simp
    simp only [Act.put, List.setIfInBounds_toArray, List.set_cons_zero, List.set_cons_succ]
    clear n1'
    refine wpG_ready (rs := [0]) (by kernel_rfl) (by simp) (fun wa hGa hSa i hi => ?_)
    obtain rfl : i = 0 := by simpa using hi
    clear hi
    have R0 := owns_emptyT 3 EI.n wa _ rfl
    refine wpOp_step rfl (by rfl) (fun K' hK' => ?_)
    replace hK' := hide hK'
    go_simp
    refine hK'.out _ _ (wpG_kept (by decide) (hSa.alloc hSa.size _) ?_)
    clear hK' K'
    refine wpG_ready (rs := [5]) (by kernel_rfl) (by simp) (fun wb hGb hSb i hi => ?_)
    obtain rfl : i = 5 := by simpa using hi
    clear hi
    have R1 := ownsRow_below R0 hGb
    have hab : wa.heap.size ≤ wb.heap.size := (below_box hGb).size
    refine wpOp_step rfl (by rfl) (fun K' hK' => ?_)
    refine wp_append_sl (E := EI) 48 3 _ 8 Tryz.underlying48 Tryz.infoInt rfl (by decide) _ _ _ rfl wa.heap.size _ 0 [] rfl R1 _ _ rfl (PRE.out.below hSb) (by have := hLsmall; simp; omega) hab ?_
    intro v5 w5 r5 g5
    have hS5 : Below X3.heap.size X3 w5 := hSb.grown g5 (by have := hSa.size; omega) (fun j e => Nat.le_trans hSa.size (ownBlock_ge R1 e))
    have hbw := ((Below.refl wa.heap.size wb).grown g5 hab (fun j e => ownBlock_ge R1 e)).size
    refine hK' _ _ (wpG_kept (by decide) hS5 ?_)
    clear hK' K' hGa hGb hSb R0 g5
    try simp only [Act.put, List.setIfInBounds_toArray, List.set_cons_zero, List.set_cons_succ]
    refine wpG_ready (rs := [11]) (by kernel_rfl) (by simp) (fun wc hGc hSc i hi => ?_)
    obtain rfl : i = 11 := by simpa using hi
    clear hi
    have R2 := ownsRow_below r5 hGc
    have hac : wa.heap.size ≤ wc.heap.size := by have := hGc.size; omega
    refine wpOp_step rfl (by rfl) (fun K' hK' => ?_)
    refine wp_append_sl (E := EI) 48 3 _ 8 Tryz.underlying48 Tryz.infoInt rfl (by decide) _ _ _ rfl wa.heap.size _ _ _ rfl R2 _ _ rfl (SUF.out.below hSc) (by have := hLsmall; simp; omega) hac ?_
    intro v11 w11 r11 g11
    have hS11 : Below X3.heap.size X3 w11 := hSc.grown g11 (by have := hSa.size; omega) (fun j e => Nat.le_trans hSa.size (ownBlock_ge R2 e))
    refine hK' _ _ (wpG_kept (by decide) hS11 ?_)
    clear hK' K' hGc hSc R1 R2 r5 g11 hS5
    try simp only [Act.put, List.setIfInBounds_toArray, List.set_cons_zero, List.set_cons_succ]
    refine wpG_take (i := 12) 6 (v := .pointer (some ⟨w2.heap.size, 5, none⟩)) rfl (by kernel_rfl) (by kernel_rfl) (by kernel_rfl) (by decide) (by kernel_rfl) (by kernel_rfl) (fun _ _ _ h => h) (Or.inl ⟨by rfl, fun w1 hS => ?_⟩) ?_
    · (try dsimp only at hS)
      go_simp
    simp only [Act.put, List.setIfInBounds_toArray, List.set_cons_zero, List.set_cons_succ]
    refine wpG_ready (rs := [13]) (by kernel_rfl) (by simp) (fun wf hGf hSf i hi => ?_)
    obtain rfl : i = 13 := by simpa using hi
    clear hi
    obtain ⟨a11, c11, rfl, kl4, B24, SL4⟩ := FIN _ wf hSf _ hSa.size (by have := ownsRow_below r11 hGf; simpa using this)
    have hz := blk_below kl3 hSf
    have z2 := cellN hz (i := 5) rfl
    have lz := liveN hz
    have kq4 : (setL wf w2.heap.size 5 [.slice a11 T.length c11]).heap[w.heap.size]? = some (.cells #[.int .i64 ork, .string ors, .string orn, .bool ogd, .slice oal olb.length ocl, .slice (some ⟨g, off, none⟩) opo.length ocp, .string ocs, .slice oai ols.length oci, .slice oaq opa.length ocq, .slice oah oho.length och, .slice oar oru.length ocr, .slice oaf ofr.length ocf, .slice oao oto.length oco] 55) := (setL_far (by have := lt_blk kq2; omega) _ _ _).trans (blk_below kq3 hSf)
    refine wpOp_step rfl (by rfl) (fun K' hK' => ?_)
    go_simp
    refine hK' _ _ (wpG_past (by decide) ?_)
    clear hK' K' z2 lz hz hGf hSf hSa r11 FIN HAT3 HSX PRE SUF
    refine wpAny_end (by kernel_rfl) ?_
    first | change Exit.inBlock _ _ _ _ (setL wf w2.heap.size 5 [.slice a11 T.length c11]) | change Exit.then _ _ _ _ (setL wf w2.heap.size 5 [.slice a11 T.length c11])
    generalize setL wf w2.heap.size 5 [.slice a11 T.length c11] = V4 at *
    have BQ4 := hide (bb2 BQ (bb2 hb2 B24))
    have HAT4 := hide (at_.below (bb2 hb2 B24))
    have HATL : Hid (OV.at_ (⟨⟨ork, ors, orn⟩, ogd, olb, oal, ocl, T, a11, c11, ocs, ols, oai, oci, opa, oaq, ocq, oho, oah, och, oru, oar, ocr, ofr, oaf, ocf, oto, oao, oco⟩ : OV) V4) := hide (let q := HAT4.out; ⟨q.labels, SL4, q.lis, q.pars, q.hosts, q.rules, q.frm, q.tos⟩)
    have HOKL : Hid (OkO (⟨⟨ork, ors, orn⟩, ogd, olb, oal, ocl, T, a11, c11, ocs, ols, oai, oci, opa, oaq, ocq, oho, oah, och, oru, oar, ocr, ofr, oaf, ocf, oto, oao, oco⟩ : OV)) := hide (let q := ok; ⟨q.ref, q.labels, q.cls, q.lis, q.pars, q.hosts, q.rules, q.frm, q.tos⟩)
    have HML : Hid (Ob.mayO (OV.b (⟨⟨ork, ors, orn⟩, ogd, olb, oal, ocl, T, a11, c11, ocs, ols, oai, oci, opa, oaq, ocq, oho, oah, och, oru, oar, ocr, ofr, oaf, ocf, oto, oao, oco⟩ : OV)) = bb) := by
      have := show Ob.mayO (OV.b ⟨⟨ork, ors, orn⟩, ogd, olb, oal, ocl, T, a11, c11, ocs, ols, oai, oci, opa, oaq, ocq, oho, oah, och, oru, oar, ocr, ofr, oaf, ocf, oto, oao, oco⟩) = bb from by have := Ob.less_ports (o := OV.b ⟨⟨ork, ors, orn⟩, ogd, olb, oal, ocl, opo, (some ⟨g, off, none⟩), ocp, ocs, ols, oai, oci, opa, oaq, ocq, oho, oah, och, oru, oar, ocr, ofr, oaf, ocf, oto, oao, oco⟩) hmay (k := k) (by show k < opo.length; exact hkl); rw [show (OV.b (⟨⟨ork, ors, orn⟩, ogd, olb, oal, ocl, opo, (some ⟨g, off, none⟩), ocp, ocs, ols, oai, oci, opa, oaq, ocq, oho, oah, och, oru, oar, ocr, ofr, oaf, ocf, oto, oao, oco⟩ : OV)).ports = opo from rfl, ← HT.out] at this; (try rw [List.length_map] at this); exact this.trans HBB.out
      exact this
    clear HMK hmk2

    have okL := HOKL.out
    have atL := HATL.out
    have at4 := HAT4.out
    obtain ⟨o0, o1, o2, o3, o4, o5, o6, o7, o8, o9, o10, o11, o12⟩ : _ ∧ _ ∧ _ ∧ _ ∧ _ ∧ _ ∧ _ ∧ _ ∧ _ ∧ _ ∧ _ ∧ _ ∧ _ := ⟨cellN kq4 (i := 0) rfl, cellN kq4 (i := 1) rfl, cellN kq4 (i := 2) rfl, cellN kq4 (i := 3) rfl, cellN kq4 (i := 4) rfl, cellN kq4 (i := 5) rfl, cellN kq4 (i := 6) rfl, cellN kq4 (i := 7) rfl, cellN kq4 (i := 8) rfl, cellN kq4 (i := 9) rfl, cellN kq4 (i := 10) rfl, cellN kq4 (i := 11) rfl, cellN kq4 (i := 12) rfl⟩
    by_cases h6 : ork = 6
    · subst h6
      have HODD := hide (Ob.odd_cls (o := OV.b ⟨⟨6, ors, orn⟩, ogd, olb, oal, ocl, opo, (some ⟨g, off, none⟩), ocp, ocs, ols, oai, oci, opa, oaq, ocq, oho, oah, och, oru, oar, ocr, ofr, oaf, ocf, oto, oao, oco⟩) rfl ⟨#[99]⟩ rfl)
      have B5 : Below V4.heap.size V4 (V4.alloc (.cells #[.int .i64 6, .string ors, .string orn, .bool ogd, .slice oal olb.length ocl, .slice (some ⟨g, off, none⟩) opo.length ocp, .string ⟨#[99]⟩, .slice oai ols.length oci, .slice oaq opa.length ocq, .slice oah oho.length och, .slice oar oru.length ocr, .slice oaf ofr.length ocf, .slice oao oto.length oco] 55)) := (Below.refl _ _).alloc (Nat.le_refl _) _
      have CL := hide (omay_any (⟨⟨6, ors, orn⟩, ogd, olb, oal, ocl, T, a11, c11, ocs, ols, oai, oci, opa, oaq, ocq, oho, oah, och, oru, oar, ocr, ofr, oaf, ocf, oto, oao, oco⟩) (V4.alloc (.cells #[.int .i64 6, .string ors, .string orn, .bool ogd, .slice oal olb.length ocl, .slice (some ⟨g, off, none⟩) opo.length ocp, .string ⟨#[99]⟩, .slice oai ols.length oci, .slice oaq opa.length ocq, .slice oah oho.length och, .slice oar oru.length ocr, .slice oaf ofr.length ocf, .slice oao oto.length oco] 55)) (atL.below B5) okL)
      have CO := fun W (h : Below V4.heap.size V4 W) => hide (omf (omay_any ⟨⟨6, ors, orn⟩, ogd, olb, oal, ocl, opo, (some ⟨g, off, none⟩), ocp, ⟨#[99]⟩, ols, oai, oci, opa, oaq, ocq, oho, oah, och, oru, oar, ocr, ofr, oaf, ocf, oto, oao, oco⟩ W ⟨at4.labels.below h, at4.ports.below h, at4.lis.below h, at4.pars.below h, at4.hosts.below h, at4.rules.below h, at4.frm.below h, at4.tos.below h⟩ ⟨ok.ref, ok.labels, (show (1 : Nat) ≤ 100 by decide), ok.lis, ok.pars, ok.hosts, ok.rules, ok.frm, ok.tos⟩) HODD.out)
      have KL5 := blk_below kl4 B5
      obtain ⟨l0, l1, l2, l3, l4, l5, l6, l7, l8, l9, l10, l11, l12⟩ : _ ∧ _ ∧ _ ∧ _ ∧ _ ∧ _ ∧ _ ∧ _ ∧ _ ∧ _ ∧ _ ∧ _ ∧ _ := ⟨cellN KL5 (i := 0) rfl, cellN KL5 (i := 1) rfl, cellN KL5 (i := 2) rfl, cellN KL5 (i := 3) rfl, cellN KL5 (i := 4) rfl, cellN KL5 (i := 5) rfl, cellN KL5 (i := 6) rfl, cellN KL5 (i := 7) rfl, cellN KL5 (i := 8) rfl, cellN KL5 (i := 9) rfl, cellN KL5 (i := 10) rfl, cellN KL5 (i := 11) rfl, cellN KL5 (i := 12) rfl⟩
      have HK6 := hide (alloc_new V4 (.cells #[.int .i64 6, .string ors, .string orn, .bool ogd, .slice oal olb.length ocl, .slice (some ⟨g, off, none⟩) opo.length ocp, .string ⟨#[99]⟩, .slice oai ols.length oci, .slice oaq opa.length ocq, .slice oah oho.length och, .slice oar oru.length ocr, .slice oaf ofr.length ocf, .slice oao oto.length oco] 55))
      have p0 : (V4.alloc (.cells #[.int .i64 6, .string ors, .string orn, .bool ogd, .slice oal olb.length ocl, .slice (some ⟨g, off, none⟩) opo.length ocp, .string ocs, .slice oai ols.length oci, .slice oaq opa.length ocq, .slice oah oho.length och, .slice oar oru.length ocr, .slice oaf ofr.length ocf, .slice oao oto.length oco] 55)).cell? ⟨w.heap.size, 0, none⟩ = some (.int .i64 6) := cellN (blk_below kq4 ((Below.refl _ _).alloc (Nat.le_refl _) _)) (i := 0) rfl
      rw [HML.out] at CL
      clear okL atL at4 KL5 kl4
      go_wp2_with fail
      clear p0
      refine CL.out.mono ?_
      rintro e w6 ⟨rfl, hb6⟩
      have K6 := blk_below HK6.out hb6
      have HB6 := hide (bb2 BQ4.out (bb2 B5 hb6))
      have CO1 := hide (CO w6 (bb2 B5 hb6)).out
      obtain ⟨e0, e1, e2, e3, e4, e5, e6, e7, e8, e9, e10, e11, e12⟩ : _ ∧ _ ∧ _ ∧ _ ∧ _ ∧ _ ∧ _ ∧ _ ∧ _ ∧ _ ∧ _ ∧ _ ∧ _ := ⟨cellN K6 (i := 0) rfl, cellN K6 (i := 1) rfl, cellN K6 (i := 2) rfl, cellN K6 (i := 3) rfl, cellN K6 (i := 4) rfl, cellN K6 (i := 5) rfl, cellN K6 (i := 6) rfl, cellN K6 (i := 7) rfl, cellN K6 (i := 8) rfl, cellN K6 (i := 9) rfl, cellN K6 (i := 10) rfl, cellN K6 (i := 11) rfl, cellN K6 (i := 12) rfl⟩
      clear o0 o1 o2 o3 o4 o5 o6 o7 o8 o9 o10 o11 o12 l0 l1 l2 l3 l4 l5 l6 l7 l8 l9 l10 l11 l12 CL CO B5 hb6 K6
      go_wp2_with fail
      refine CO1.out.mono ?_
      rintro e w7 ⟨rfl, hb7⟩
      clear e0 e1 e2 e3 e4 e5 e6 e7 e8 e9 e10 e11 e12 CO1
      go_wp2_with fail
      refine (oawake_any _).mono ?_
      rintro e w8 ⟨rfl, hb8⟩
      go_wp2_with fail
      go_ret
      exact ⟨rfl, bb2 HB6.out (bb2 hb7 hb8)⟩
    · have t6 : (ork == 6) = false := by simpa using h6
      have HODD := hide (Ob.odd_hosts (o := OV.b ⟨⟨ork, ors, orn⟩, ogd, olb, oal, ocl, opo, (some ⟨g, off, none⟩), ocp, ocs, ols, oai, oci, opa, oaq, ocq, oho, oah, och, oru, oar, ocr, ofr, oaf, ocf, oto, oao, oco⟩) h6 [⟨#[97]⟩] (by simp))
      obtain ⟨V5, hV5⟩ : ∃ z, z = (V4.alloc (.cells #[.int .i64 ork, .string ors, .string orn, .bool ogd, .slice oal olb.length ocl, .slice (some ⟨g, off, none⟩) opo.length ocp, .string ocs, .slice oai ols.length oci, .slice oaq opa.length ocq, .slice (some ⟨V4.heap.size + 1, 0, none⟩) 1 1, .slice oar oru.length ocr, .slice oaf ofr.length ocf, .slice oao oto.length oco] 55)).alloc (.cells #[.string ⟨#[97]⟩] 9) := ⟨_, rfl⟩
      have B5 : Below V4.heap.size V4 V5 := by
        rw [hV5]
        exact ((Below.refl _ _).alloc (Nat.le_refl _) _).alloc (by simp) _
      have K5 : V5.heap[V4.heap.size]? = some (.cells #[.int .i64 ork, .string ors, .string orn, .bool ogd, .slice oal olb.length ocl, .slice (some ⟨g, off, none⟩) opo.length ocp, .string ocs, .slice oai ols.length oci, .slice oaq opa.length ocq, .slice (some ⟨V4.heap.size + 1, 0, none⟩) 1 1, .slice oar oru.length ocr, .slice oaf ofr.length ocf, .slice oao oto.length oco] 55) := by
        rw [hV5]
        exact blk_below (alloc_new V4 _) ((Below.refl _ _).alloc (Nat.le_refl _) _)
      have S5 : V5.heap[V4.heap.size + 1]? = some (.cells #[.string ⟨#[97]⟩] 9) := by
        rw [hV5]
        have := alloc_new (V4.alloc (.cells #[.int .i64 ork, .string ors, .string orn, .bool ogd, .slice oal olb.length ocl, .slice (some ⟨g, off, none⟩) opo.length ocp, .string ocs, .slice oai ols.length oci, .slice oaq opa.length ocq, .slice (some ⟨V4.heap.size + 1, 0, none⟩) 1 1, .slice oar oru.length ocr, .slice oaf ofr.length ocf, .slice oao oto.length oco] 55)) (.cells #[.string ⟨#[97]⟩] 9)
        rw [World.size_alloc] at this
        exact this
      have CL := hide (omay_any (⟨⟨ork, ors, orn⟩, ogd, olb, oal, ocl, T, a11, c11, ocs, ols, oai, oci, opa, oaq, ocq, oho, oah, och, oru, oar, ocr, ofr, oaf, ocf, oto, oao, oco⟩) V5 (atL.below B5) okL)
      have SLH : Sl ES V5 (.slice (some ⟨V4.heap.size + 1, 0, none⟩) 1 1) [⟨#[97]⟩] := Sl.at_block (E := ES) (x := ⟨#[97]⟩) S5 trivial
      have CO := fun W (h : Below V5.heap.size V5 W) => hide (omf (omay_any ⟨⟨ork, ors, orn⟩, ogd, olb, oal, ocl, opo, (some ⟨g, off, none⟩), ocp, ocs, ols, oai, oci, opa, oaq, ocq, [⟨#[97]⟩], some ⟨V4.heap.size + 1, 0, none⟩, 1, oru, oar, ocr, ofr, oaf, ocf, oto, oao, oco⟩ W ⟨at4.labels.below (bb2 B5 h), at4.ports.below (bb2 B5 h), at4.lis.below (bb2 B5 h), at4.pars.below (bb2 B5 h), SLH.below h, at4.rules.below (bb2 B5 h), at4.frm.below (bb2 B5 h), at4.tos.below (bb2 B5 h)⟩ ⟨ok.ref, ok.labels, ok.cls, ok.lis, ok.pars, (fun s hs => by rw [List.mem_singleton] at hs; subst hs; exact (show (1 : Nat) ≤ 100 by decide)), ok.rules, ok.frm, ok.tos⟩) HODD.out)
      have KL5 := blk_below kl4 B5
      have HK5 := hide K5
      have HBV5 := hide (bb2 BQ4.out B5)
      rw [HML.out] at CL
      have p0 : (V4.alloc (.cells #[.int .i64 ork, .string ors, .string orn, .bool ogd, .slice oal olb.length ocl, .slice (some ⟨g, off, none⟩) opo.length ocp, .string ocs, .slice oai ols.length oci, .slice oaq opa.length ocq, .slice oah oho.length och, .slice oar oru.length ocr, .slice oaf ofr.length ocf, .slice oao oto.length oco] 55)).cell? ⟨w.heap.size, 0, none⟩ = some (.int .i64 ork) := cellN (blk_below kq4 ((Below.refl _ _).alloc (Nat.le_refl _) _)) (i := 0) rfl
      obtain ⟨l0, l1, l2, l3, l4, l5, l6, l7, l8, l9, l10, l11, l12⟩ : _ ∧ _ ∧ _ ∧ _ ∧ _ ∧ _ ∧ _ ∧ _ ∧ _ ∧ _ ∧ _ ∧ _ ∧ _ := ⟨cellN KL5 (i := 0) rfl, cellN KL5 (i := 1) rfl, cellN KL5 (i := 2) rfl, cellN KL5 (i := 3) rfl, cellN KL5 (i := 4) rfl, cellN KL5 (i := 5) rfl, cellN KL5 (i := 6) rfl, cellN KL5 (i := 7) rfl, cellN KL5 (i := 8) rfl, cellN KL5 (i := 9) rfl, cellN KL5 (i := 10) rfl, cellN KL5 (i := 11) rfl, cellN KL5 (i := 12) rfl⟩
      rw [hV5] at l0 l1 l2 l3 l4 l5 l6 l7 l8 l9 l10 l11 l12
      clear okL atL at4 KL5 kl4 K5 S5
      go_wp2_with fail
      rw [← hV5]
      clear p0 l0 l1 l2 l3 l4 l5 l6 l7 l8 l9 l10 l11 l12 hV5
      refine CL.out.mono ?_
      rintro e w6 ⟨rfl, hb6⟩
      have K6 := blk_below HK5.out hb6
      have HB6 := hide (bb2 HBV5.out hb6)
      have CO1 := hide (CO w6 hb6).out
      obtain ⟨e0, e1, e2, e3, e4, e5, e6, e7, e8, e9, e10, e11, e12⟩ : _ ∧ _ ∧ _ ∧ _ ∧ _ ∧ _ ∧ _ ∧ _ ∧ _ ∧ _ ∧ _ ∧ _ ∧ _ := ⟨cellN K6 (i := 0) rfl, cellN K6 (i := 1) rfl, cellN K6 (i := 2) rfl, cellN K6 (i := 3) rfl, cellN K6 (i := 4) rfl, cellN K6 (i := 5) rfl, cellN K6 (i := 6) rfl, cellN K6 (i := 7) rfl, cellN K6 (i := 8) rfl, cellN K6 (i := 9) rfl, cellN K6 (i := 10) rfl, cellN K6 (i := 11) rfl, cellN K6 (i := 12) rfl⟩
      clear o0 o1 o2 o3 o4 o5 o6 o7 o8 o9 o10 o11 o12 CL CO hb6 K6
      go_wp2_with fail
      refine CO1.out.mono ?_
      rintro e w7 ⟨rfl, hb7⟩
      clear e0 e1 e2 e3 e4 e5 e6 e7 e8 e9 e10 e11 e12 CO1
      go_wp2_with fail
      refine (oawake_any _).mono ?_
      rintro e w8 ⟨rfl, hb8⟩
      go_wp2_with fail
      go_ret
      exact ⟨rfl, bb2 HB6.out (bb2 hb7 hb8)⟩

set_option linter.unusedVariables false in
set_option linter.unusedSimpArgs false in
set_option maxHeartbeats 12800000 in
theorem oless_none (x : OV) (cb : UInt8) (w : World) (hx : x.at_ w) (raw : RawO x) (hm0 : Ob.mayO (fewO x.b) = true) (h1 : (fewO x.b).rules.length = 0 ∧ (fewO x.b).lis.length = 0 ∧ (fewO x.b).ports.length = 0) :
    Calls Tryz.prog 7 #[oV x, .int .u8 (cb.toNat : Int)] w fun e w' => e = .returned (.bool true) ∧ Below w.heap.size w w' := by
  have HM0 := hide hm0
  have HL0 := hide h1
  clear h1
  clear hm0
  have hn := cb.toNat_lt
  have hwn : IntKind.i64.wrap (cb.toNat : Int) = (cb.toNat : Int) := by rw [IntKind.wrap_i64]; omega
  have CF := fun W (h : Below w.heap.size w W) => hide (fewO_any x W (hx.below h) raw)
  have B1 : Below w.heap.size w (w.alloc (.cells #[.int .i64 x.ref.kind, .string x.ref.space, .string x.ref.name, .bool x.good, .slice x.al x.labels.length x.cl, .slice x.ap x.ports.length x.cp, .string x.cls, .slice x.ai x.lis.length x.ci, .slice x.aq x.pars.length x.cq, .slice x.ah x.hosts.length x.ch, .slice x.ar x.rules.length x.cr, .slice x.af x.frm.length x.cf, .slice x.ao x.tos.length x.co] 55)) := (Below.refl _ _).alloc (Nat.le_refl _) _
  clear hx raw
  go_enter Tryz.func7, Tryz.ntmps7
  go_wp2_with fail
  refine (CF _ B1).out.mono ?_
  rintro e w1 ⟨y, rfl, hy, hown, hb1⟩
  have hz : w1.heap[w.heap.size]? = some (.cells #[.int .i64 x.ref.kind, .string x.ref.space, .string x.ref.name, .bool x.good, .slice x.al x.labels.length x.cl, .slice x.ap x.ports.length x.cp, .string x.cls, .slice x.ai x.lis.length x.ci, .slice x.aq x.pars.length x.cq, .slice x.ah x.hosts.length x.ch, .slice x.ar x.rules.length x.cr, .slice x.af x.frm.length x.cf, .slice x.ao x.tos.length x.co] 55) := box_block hb1
  have BB := bb2 B1 hb1
  have lz := liveN hz
  obtain ⟨z0, z1, z2, z3, z4, z5, z6, z7, z8, z9, z10, z11, z12⟩ : _ ∧ _ ∧ _ ∧ _ ∧ _ ∧ _ ∧ _ ∧ _ ∧ _ ∧ _ ∧ _ ∧ _ ∧ _ := ⟨cellN hz (i := 0) rfl, cellN hz (i := 1) rfl, cellN hz (i := 2) rfl, cellN hz (i := 3) rfl, cellN hz (i := 4) rfl, cellN hz (i := 5) rfl, cellN hz (i := 6) rfl, cellN hz (i := 7) rfl, cellN hz (i := 8) rfl, cellN hz (i := 9) rfl, cellN hz (i := 10) rfl, cellN hz (i := 11) rfl, cellN hz (i := 12) rfl⟩
  have K2 := hide (show ((((((((((((((w1.setCell ⟨w.heap.size, 0, none⟩ (.int .i64 y.ref.kind)).setCell ⟨w.heap.size, 1, none⟩ (.string y.ref.space)).setCell ⟨w.heap.size, 2, none⟩ (.string y.ref.name)).setCell ⟨w.heap.size, 3, none⟩ (.bool y.good)).setCell ⟨w.heap.size, 4, none⟩ (.slice y.al y.labels.length y.cl)).setCell ⟨w.heap.size, 5, none⟩ (.slice y.ap y.ports.length y.cp)).setCell ⟨w.heap.size, 6, none⟩ (.string y.cls)).setCell ⟨w.heap.size, 7, none⟩ (.slice y.ai y.lis.length y.ci)).setCell ⟨w.heap.size, 8, none⟩ (.slice y.aq y.pars.length y.cq)).setCell ⟨w.heap.size, 9, none⟩ (.slice y.ah y.hosts.length y.ch)).setCell ⟨w.heap.size, 10, none⟩ (.slice y.ar y.rules.length y.cr)).setCell ⟨w.heap.size, 11, none⟩ (.slice y.af y.frm.length y.cf)).setCell ⟨w.heap.size, 12, none⟩ (.slice y.ao y.tos.length y.co))).heap[w.heap.size]? = some (.cells #[.int .i64 y.ref.kind, .string y.ref.space, .string y.ref.name, .bool y.good, .slice y.al y.labels.length y.cl, .slice y.ap y.ports.length y.cp, .string y.cls, .slice y.ai y.lis.length y.ci, .slice y.aq y.pars.length y.cq, .slice y.ah y.hosts.length y.ch, .slice y.ar y.rules.length y.cr, .slice y.af y.frm.length y.cf, .slice y.ao y.tos.length y.co] 55) from setL_all [.int .i64 y.ref.kind, .string y.ref.space, .string y.ref.name, .bool y.good, .slice y.al y.labels.length y.cl, .slice y.ap y.ports.length y.cp, .string y.cls, .slice y.ai y.lis.length y.ci, .slice y.aq y.pars.length y.cq, .slice y.ah y.hosts.length y.ch, .slice y.ar y.rules.length y.cr, .slice y.af y.frm.length y.cf, .slice y.ao y.tos.length y.co] hz rfl)
  have own2 := hide (show OV.own y (((((((((((((w1.setCell ⟨w.heap.size, 0, none⟩ (.int .i64 y.ref.kind)).setCell ⟨w.heap.size, 1, none⟩ (.string y.ref.space)).setCell ⟨w.heap.size, 2, none⟩ (.string y.ref.name)).setCell ⟨w.heap.size, 3, none⟩ (.bool y.good)).setCell ⟨w.heap.size, 4, none⟩ (.slice y.al y.labels.length y.cl)).setCell ⟨w.heap.size, 5, none⟩ (.slice y.ap y.ports.length y.cp)).setCell ⟨w.heap.size, 6, none⟩ (.string y.cls)).setCell ⟨w.heap.size, 7, none⟩ (.slice y.ai y.lis.length y.ci)).setCell ⟨w.heap.size, 8, none⟩ (.slice y.aq y.pars.length y.cq)).setCell ⟨w.heap.size, 9, none⟩ (.slice y.ah y.hosts.length y.ch)).setCell ⟨w.heap.size, 10, none⟩ (.slice y.ar y.rules.length y.cr)).setCell ⟨w.heap.size, 11, none⟩ (.slice y.af y.frm.length y.cf)).setCell ⟨w.heap.size, 12, none⟩ (.slice y.ao y.tos.length y.co)) from hown.bx ((BX.refl w.heap.size w1.heap.size w1).setL 0 [.int .i64 y.ref.kind, .string y.ref.space, .string y.ref.name, .bool y.good, .slice y.al y.labels.length y.cl, .slice y.ap y.ports.length y.cp, .string y.cls, .slice y.ai y.lis.length y.ci, .slice y.aq y.pars.length y.cq, .slice y.ah y.hosts.length y.ch, .slice y.ar y.rules.length y.cr, .slice y.af y.frm.length y.cf, .slice y.ao y.tos.length y.co]) hz)
  have BB2 := hide (show Below w.heap.size w (((((((((((((w1.setCell ⟨w.heap.size, 0, none⟩ (.int .i64 y.ref.kind)).setCell ⟨w.heap.size, 1, none⟩ (.string y.ref.space)).setCell ⟨w.heap.size, 2, none⟩ (.string y.ref.name)).setCell ⟨w.heap.size, 3, none⟩ (.bool y.good)).setCell ⟨w.heap.size, 4, none⟩ (.slice y.al y.labels.length y.cl)).setCell ⟨w.heap.size, 5, none⟩ (.slice y.ap y.ports.length y.cp)).setCell ⟨w.heap.size, 6, none⟩ (.string y.cls)).setCell ⟨w.heap.size, 7, none⟩ (.slice y.ai y.lis.length y.ci)).setCell ⟨w.heap.size, 8, none⟩ (.slice y.aq y.pars.length y.cq)).setCell ⟨w.heap.size, 9, none⟩ (.slice y.ah y.hosts.length y.ch)).setCell ⟨w.heap.size, 10, none⟩ (.slice y.ar y.rules.length y.cr)).setCell ⟨w.heap.size, 11, none⟩ (.slice y.af y.frm.length y.cf)).setCell ⟨w.heap.size, 12, none⟩ (.slice y.ao y.tos.length y.co)) from setL_below (w := w) (B := w.heap.size) (g := w.heap.size) (Nat.le_refl _) [.int .i64 y.ref.kind, .string y.ref.space, .string y.ref.name, .bool y.good, .slice y.al y.labels.length y.cl, .slice y.ap y.ports.length y.cp, .string y.cls, .slice y.ai y.lis.length y.ci, .slice y.aq y.pars.length y.cq, .slice y.ah y.hosts.length y.ch, .slice y.ar y.rules.length y.cr, .slice y.af y.frm.length y.cf, .slice y.ao y.tos.length y.co] _ 0 BB)
  obtain ⟨d0, d1, d2, d3, d4, d5, d6, d7, d8, d9, d10, d11, d12⟩ : _ ∧ _ ∧ _ ∧ _ ∧ _ ∧ _ ∧ _ ∧ _ ∧ _ ∧ _ ∧ _ ∧ _ ∧ _ := ⟨cellN K2.out (i := 0) rfl, cellN K2.out (i := 1) rfl, cellN K2.out (i := 2) rfl, cellN K2.out (i := 3) rfl, cellN K2.out (i := 4) rfl, cellN K2.out (i := 5) rfl, cellN K2.out (i := 6) rfl, cellN K2.out (i := 7) rfl, cellN K2.out (i := 8) rfl, cellN K2.out (i := 9) rfl, cellN K2.out (i := 10) rfl, cellN K2.out (i := 11) rfl, cellN K2.out (i := 12) rfl⟩
  have ok := fewO_ok hy
  have HOK := hide ok
  have HY := hide hy
  clear hz hown BB B1 hb1 CF hy ok
  go_wp2_with fail
  have kq : ((((((((((((((w1.setCell ⟨w.heap.size, 0, none⟩ (.int .i64 y.ref.kind)).setCell ⟨w.heap.size, 1, none⟩ (.string y.ref.space)).setCell ⟨w.heap.size, 2, none⟩ (.string y.ref.name)).setCell ⟨w.heap.size, 3, none⟩ (.bool y.good)).setCell ⟨w.heap.size, 4, none⟩ (.slice y.al y.labels.length y.cl)).setCell ⟨w.heap.size, 5, none⟩ (.slice y.ap y.ports.length y.cp)).setCell ⟨w.heap.size, 6, none⟩ (.string y.cls)).setCell ⟨w.heap.size, 7, none⟩ (.slice y.ai y.lis.length y.ci)).setCell ⟨w.heap.size, 8, none⟩ (.slice y.aq y.pars.length y.cq)).setCell ⟨w.heap.size, 9, none⟩ (.slice y.ah y.hosts.length y.ch)).setCell ⟨w.heap.size, 10, none⟩ (.slice y.ar y.rules.length y.cr)).setCell ⟨w.heap.size, 11, none⟩ (.slice y.af y.frm.length y.cf)).setCell ⟨w.heap.size, 12, none⟩ (.slice y.ao y.tos.length y.co))).heap[w.heap.size]? = some (.cells #[.int .i64 y.ref.kind, .string y.ref.space, .string y.ref.name, .bool y.good, .slice y.al y.labels.length y.cl, .slice y.ap y.ports.length y.cp, .string y.cls, .slice y.ai y.lis.length y.ci, .slice y.aq y.pars.length y.cq, .slice y.ah y.hosts.length y.ch, .slice y.ar y.rules.length y.cr, .slice y.af y.frm.length y.cf, .slice y.ao y.tos.length y.co] 55) := K2.out
  have ownq : OV.own y (((((((((((((w1.setCell ⟨w.heap.size, 0, none⟩ (.int .i64 y.ref.kind)).setCell ⟨w.heap.size, 1, none⟩ (.string y.ref.space)).setCell ⟨w.heap.size, 2, none⟩ (.string y.ref.name)).setCell ⟨w.heap.size, 3, none⟩ (.bool y.good)).setCell ⟨w.heap.size, 4, none⟩ (.slice y.al y.labels.length y.cl)).setCell ⟨w.heap.size, 5, none⟩ (.slice y.ap y.ports.length y.cp)).setCell ⟨w.heap.size, 6, none⟩ (.string y.cls)).setCell ⟨w.heap.size, 7, none⟩ (.slice y.ai y.lis.length y.ci)).setCell ⟨w.heap.size, 8, none⟩ (.slice y.aq y.pars.length y.cq)).setCell ⟨w.heap.size, 9, none⟩ (.slice y.ah y.hosts.length y.ch)).setCell ⟨w.heap.size, 10, none⟩ (.slice y.ar y.rules.length y.cr)).setCell ⟨w.heap.size, 11, none⟩ (.slice y.af y.frm.length y.cf)).setCell ⟨w.heap.size, 12, none⟩ (.slice y.ao y.tos.length y.co)) := own2.out
  have BQ : Below w.heap.size w (((((((((((((w1.setCell ⟨w.heap.size, 0, none⟩ (.int .i64 y.ref.kind)).setCell ⟨w.heap.size, 1, none⟩ (.string y.ref.space)).setCell ⟨w.heap.size, 2, none⟩ (.string y.ref.name)).setCell ⟨w.heap.size, 3, none⟩ (.bool y.good)).setCell ⟨w.heap.size, 4, none⟩ (.slice y.al y.labels.length y.cl)).setCell ⟨w.heap.size, 5, none⟩ (.slice y.ap y.ports.length y.cp)).setCell ⟨w.heap.size, 6, none⟩ (.string y.cls)).setCell ⟨w.heap.size, 7, none⟩ (.slice y.ai y.lis.length y.ci)).setCell ⟨w.heap.size, 8, none⟩ (.slice y.aq y.pars.length y.cq)).setCell ⟨w.heap.size, 9, none⟩ (.slice y.ah y.hosts.length y.ch)).setCell ⟨w.heap.size, 10, none⟩ (.slice y.ar y.rules.length y.cr)).setCell ⟨w.heap.size, 11, none⟩ (.slice y.af y.frm.length y.cf)).setCell ⟨w.heap.size, 12, none⟩ (.slice y.ao y.tos.length y.co)) := BB2.out
  clear K2 own2 BB2 lz z0 z1 z2 z3 z4 z5 z6 z7 z8 z9 z10 z11 z12 d0 d1 d2 d3 d4 d5 d6 d7 d8 d9 d10 d11 d12
  generalize (((((((((((((w1.setCell ⟨w.heap.size, 0, none⟩ (.int .i64 y.ref.kind)).setCell ⟨w.heap.size, 1, none⟩ (.string y.ref.space)).setCell ⟨w.heap.size, 2, none⟩ (.string y.ref.name)).setCell ⟨w.heap.size, 3, none⟩ (.bool y.good)).setCell ⟨w.heap.size, 4, none⟩ (.slice y.al y.labels.length y.cl)).setCell ⟨w.heap.size, 5, none⟩ (.slice y.ap y.ports.length y.cp)).setCell ⟨w.heap.size, 6, none⟩ (.string y.cls)).setCell ⟨w.heap.size, 7, none⟩ (.slice y.ai y.lis.length y.ci)).setCell ⟨w.heap.size, 8, none⟩ (.slice y.aq y.pars.length y.cq)).setCell ⟨w.heap.size, 9, none⟩ (.slice y.ah y.hosts.length y.ch)).setCell ⟨w.heap.size, 10, none⟩ (.slice y.ar y.rules.length y.cr)).setCell ⟨w.heap.size, 11, none⟩ (.slice y.af y.frm.length y.cf)).setCell ⟨w.heap.size, 12, none⟩ (.slice y.ao y.tos.length y.co)) = V at *
  have at_ := ownq.at_
  have ok := HOK.out
  have HMAY := hide (omay_any y V at_ ok)
  rw [show Ob.mayO y.b = true by rw [HY.out]; exact HM0.out] at HMAY
  have hmay : Ob.mayO y.b = true := by rw [HY.out]; exact HM0.out
  have hLs : y.rules.length ≤ 7 ∧ y.lis.length ≤ 9 ∧ y.ports.length ≤ 9 ∧ (fewO x.b).rules.length = y.rules.length ∧ (fewO x.b).lis.length = y.lis.length ∧ (fewO x.b).ports.length = y.ports.length := by
    have e1 : y.rules.map RlV.b = (x.b.rules.take 7).map fewRl := congrArg OB.rules HY.out
    have e2 : y.lis.map LiV.b = (x.b.lis.take 9).map fewLi := congrArg OB.lis HY.out
    have e3 : y.ports = x.b.ports.take 9 := congrArg OB.ports HY.out
    have f1 : (fewO x.b).rules.length = (y.rules.map RlV.b).length := by rw [← HY.out]; rfl
    have f2 : (fewO x.b).lis.length = (y.lis.map LiV.b).length := by rw [← HY.out]; rfl
    have f3 : (fewO x.b).ports.length = y.ports.length := by rw [← HY.out]; rfl
    rw [List.length_map] at f1 f2
    have l1 := congrArg List.length e1
    have l2 := congrArg List.length e2
    have l3 := congrArg List.length e3
    simp at l1 l2 l3
    refine ⟨by omega, by omega, by omega, f1, f2, f3⟩
  obtain ⟨hL1, hL2, hL3, g1, g2, g3⟩ := hLs
  have hl0 := HL0.out
  clear HY HOK HL0 HM0
  obtain ⟨⟨ork, ors, orn⟩, ogd, olb, oal, ocl, opo, oap, ocp, ocs, ols, oai, oci, opa, oaq, ocq, oho, oah, och, oru, oar, ocr, ofr, oaf, ocf, oto, oao, oco⟩ := y
  dsimp only at *
  rw [g1, g2, g3] at hl0
  clear g1 g2 g3
  refine HMAY.out.mono ?_
  rintro e w2 ⟨rfl, hb2⟩
  have kq2 := blk_below kq hb2
  obtain ⟨d0, d1, d2, d3, d4, d5, d6, d7, d8, d9, d10, d11, d12⟩ : _ ∧ _ ∧ _ ∧ _ ∧ _ ∧ _ ∧ _ ∧ _ ∧ _ ∧ _ ∧ _ ∧ _ ∧ _ := ⟨cellN kq2 (i := 0) rfl, cellN kq2 (i := 1) rfl, cellN kq2 (i := 2) rfl, cellN kq2 (i := 3) rfl, cellN kq2 (i := 4) rfl, cellN kq2 (i := 5) rfl, cellN kq2 (i := 6) rfl, cellN kq2 (i := 7) rfl, cellN kq2 (i := 8) rfl, cellN kq2 (i := 9) rfl, cellN kq2 (i := 10) rfl, cellN kq2 (i := 11) rfl, cellN kq2 (i := 12) rfl⟩
  have kq3 : (w2.alloc (.cells #[.int .i64 ork, .string ors, .string orn, .bool ogd, .slice oal olb.length ocl, .slice oap opo.length ocp, .string ocs, .slice oai ols.length oci, .slice oaq opa.length ocq, .slice oah oho.length och, .slice oar oru.length ocr, .slice oaf ofr.length ocf, .slice oao oto.length oco] 55)).heap[w.heap.size]? = _ := blk_below kq2 ((Below.refl _ _).alloc (Nat.le_refl _) _)
  have kl3 := alloc_new w2 (.cells #[.int .i64 ork, .string ors, .string orn, .bool ogd, .slice oal olb.length ocl, .slice oap opo.length ocp, .string ocs, .slice oai ols.length oci, .slice oaq opa.length ocq, .slice oah oho.length och, .slice oar oru.length ocr, .slice oaf ofr.length ocf, .slice oao oto.length oco] 55)
  have B23 : Below w2.heap.size w2 (w2.alloc (.cells #[.int .i64 ork, .string ors, .string orn, .bool ogd, .slice oal olb.length ocl, .slice oap opo.length ocp, .string ocs, .slice oai ols.length oci, .slice oaq opa.length ocq, .slice oah oho.length och, .slice oar oru.length ocr, .slice oaf ofr.length ocf, .slice oao oto.length oco] 55)) := (Below.refl _ _).alloc (Nat.le_refl _) _
  have at3 := at_.below (bb2 hb2 B23)
  have f10 := cellN kq3 (i := 10) rfl
  have f7 := cellN kq3 (i := 7) rfl
  have f5 := cellN kq3 (i := 5) rfl
  have z_oru : ¬ (0 : Int) < (oru.length : Int) := by omega
  have z_ols : ¬ (0 : Int) < (ols.length : Int) := by omega
  have z_opo : ¬ (0 : Int) < (opo.length : Int) := by omega
  clear hl0
  have kq4 := kq3
  have kl4 := kl3
  have BQ4 := hide (bb2 BQ (bb2 hb2 B23))
  have HAT4 := hide at3
  have HATL := hide at3
  have HOKL := hide ok
  have HML : Hid (Ob.mayO (OV.b ⟨⟨ork, ors, orn⟩, ogd, olb, oal, ocl, opo, oap, ocp, ocs, ols, oai, oci, opa, oaq, ocq, oho, oah, och, oru, oar, ocr, ofr, oaf, ocf, oto, oao, oco⟩) = true) := hide hmay
  clear at3
  have okL := HOKL.out
  have atL := HATL.out
  have at4 := HAT4.out
  obtain ⟨o0, o1, o2, o3, o4, o5, o6, o7, o8, o9, o10, o11, o12⟩ : _ ∧ _ ∧ _ ∧ _ ∧ _ ∧ _ ∧ _ ∧ _ ∧ _ ∧ _ ∧ _ ∧ _ ∧ _ := ⟨cellN kq4 (i := 0) rfl, cellN kq4 (i := 1) rfl, cellN kq4 (i := 2) rfl, cellN kq4 (i := 3) rfl, cellN kq4 (i := 4) rfl, cellN kq4 (i := 5) rfl, cellN kq4 (i := 6) rfl, cellN kq4 (i := 7) rfl, cellN kq4 (i := 8) rfl, cellN kq4 (i := 9) rfl, cellN kq4 (i := 10) rfl, cellN kq4 (i := 11) rfl, cellN kq4 (i := 12) rfl⟩
  by_cases h6 : ork = 6
  · subst h6
    have HODD := hide (Ob.odd_cls (o := OV.b ⟨⟨6, ors, orn⟩, ogd, olb, oal, ocl, opo, oap, ocp, ocs, ols, oai, oci, opa, oaq, ocq, oho, oah, och, oru, oar, ocr, ofr, oaf, ocf, oto, oao, oco⟩) rfl ⟨#[99]⟩ rfl)
    have B5 : Below (w2.alloc (.cells #[.int .i64 6, .string ors, .string orn, .bool ogd, .slice oal olb.length ocl, .slice oap opo.length ocp, .string ocs, .slice oai ols.length oci, .slice oaq opa.length ocq, .slice oah oho.length och, .slice oar oru.length ocr, .slice oaf ofr.length ocf, .slice oao oto.length oco] 55)).heap.size (w2.alloc (.cells #[.int .i64 6, .string ors, .string orn, .bool ogd, .slice oal olb.length ocl, .slice oap opo.length ocp, .string ocs, .slice oai ols.length oci, .slice oaq opa.length ocq, .slice oah oho.length och, .slice oar oru.length ocr, .slice oaf ofr.length ocf, .slice oao oto.length oco] 55)) ((w2.alloc (.cells #[.int .i64 6, .string ors, .string orn, .bool ogd, .slice oal olb.length ocl, .slice oap opo.length ocp, .string ocs, .slice oai ols.length oci, .slice oaq opa.length ocq, .slice oah oho.length och, .slice oar oru.length ocr, .slice oaf ofr.length ocf, .slice oao oto.length oco] 55)).alloc (.cells #[.int .i64 6, .string ors, .string orn, .bool ogd, .slice oal olb.length ocl, .slice oap opo.length ocp, .string ⟨#[99]⟩, .slice oai ols.length oci, .slice oaq opa.length ocq, .slice oah oho.length och, .slice oar oru.length ocr, .slice oaf ofr.length ocf, .slice oao oto.length oco] 55)) := (Below.refl _ _).alloc (Nat.le_refl _) _
    have CL := hide (omay_any (⟨⟨6, ors, orn⟩, ogd, olb, oal, ocl, opo, oap, ocp, ocs, ols, oai, oci, opa, oaq, ocq, oho, oah, och, oru, oar, ocr, ofr, oaf, ocf, oto, oao, oco⟩) ((w2.alloc (.cells #[.int .i64 6, .string ors, .string orn, .bool ogd, .slice oal olb.length ocl, .slice oap opo.length ocp, .string ocs, .slice oai ols.length oci, .slice oaq opa.length ocq, .slice oah oho.length och, .slice oar oru.length ocr, .slice oaf ofr.length ocf, .slice oao oto.length oco] 55)).alloc (.cells #[.int .i64 6, .string ors, .string orn, .bool ogd, .slice oal olb.length ocl, .slice oap opo.length ocp, .string ⟨#[99]⟩, .slice oai ols.length oci, .slice oaq opa.length ocq, .slice oah oho.length och, .slice oar oru.length ocr, .slice oaf ofr.length ocf, .slice oao oto.length oco] 55)) (atL.below B5) okL)
    have CO := fun W (h : Below (w2.alloc (.cells #[.int .i64 6, .string ors, .string orn, .bool ogd, .slice oal olb.length ocl, .slice oap opo.length ocp, .string ocs, .slice oai ols.length oci, .slice oaq opa.length ocq, .slice oah oho.length och, .slice oar oru.length ocr, .slice oaf ofr.length ocf, .slice oao oto.length oco] 55)).heap.size (w2.alloc (.cells #[.int .i64 6, .string ors, .string orn, .bool ogd, .slice oal olb.length ocl, .slice oap opo.length ocp, .string ocs, .slice oai ols.length oci, .slice oaq opa.length ocq, .slice oah oho.length och, .slice oar oru.length ocr, .slice oaf ofr.length ocf, .slice oao oto.length oco] 55)) W) => hide (omf (omay_any ⟨⟨6, ors, orn⟩, ogd, olb, oal, ocl, opo, oap, ocp, ⟨#[99]⟩, ols, oai, oci, opa, oaq, ocq, oho, oah, och, oru, oar, ocr, ofr, oaf, ocf, oto, oao, oco⟩ W ⟨at4.labels.below h, at4.ports.below h, at4.lis.below h, at4.pars.below h, at4.hosts.below h, at4.rules.below h, at4.frm.below h, at4.tos.below h⟩ ⟨ok.ref, ok.labels, (show (1 : Nat) ≤ 100 by decide), ok.lis, ok.pars, ok.hosts, ok.rules, ok.frm, ok.tos⟩) HODD.out)
    have KL5 := blk_below kl4 B5
    obtain ⟨l0, l1, l2, l3, l4, l5, l6, l7, l8, l9, l10, l11, l12⟩ : _ ∧ _ ∧ _ ∧ _ ∧ _ ∧ _ ∧ _ ∧ _ ∧ _ ∧ _ ∧ _ ∧ _ ∧ _ := ⟨cellN KL5 (i := 0) rfl, cellN KL5 (i := 1) rfl, cellN KL5 (i := 2) rfl, cellN KL5 (i := 3) rfl, cellN KL5 (i := 4) rfl, cellN KL5 (i := 5) rfl, cellN KL5 (i := 6) rfl, cellN KL5 (i := 7) rfl, cellN KL5 (i := 8) rfl, cellN KL5 (i := 9) rfl, cellN KL5 (i := 10) rfl, cellN KL5 (i := 11) rfl, cellN KL5 (i := 12) rfl⟩
    have HK6 := hide (alloc_new (w2.alloc (.cells #[.int .i64 6, .string ors, .string orn, .bool ogd, .slice oal olb.length ocl, .slice oap opo.length ocp, .string ocs, .slice oai ols.length oci, .slice oaq opa.length ocq, .slice oah oho.length och, .slice oar oru.length ocr, .slice oaf ofr.length ocf, .slice oao oto.length oco] 55)) (.cells #[.int .i64 6, .string ors, .string orn, .bool ogd, .slice oal olb.length ocl, .slice oap opo.length ocp, .string ⟨#[99]⟩, .slice oai ols.length oci, .slice oaq opa.length ocq, .slice oah oho.length och, .slice oar oru.length ocr, .slice oaf ofr.length ocf, .slice oao oto.length oco] 55))
    have p0 : ((w2.alloc (.cells #[.int .i64 6, .string ors, .string orn, .bool ogd, .slice oal olb.length ocl, .slice oap opo.length ocp, .string ocs, .slice oai ols.length oci, .slice oaq opa.length ocq, .slice oah oho.length och, .slice oar oru.length ocr, .slice oaf ofr.length ocf, .slice oao oto.length oco] 55)).alloc (.cells #[.int .i64 6, .string ors, .string orn, .bool ogd, .slice oal olb.length ocl, .slice oap opo.length ocp, .string ocs, .slice oai ols.length oci, .slice oaq opa.length ocq, .slice oah oho.length och, .slice oar oru.length ocr, .slice oaf ofr.length ocf, .slice oao oto.length oco] 55)).cell? ⟨w.heap.size, 0, none⟩ = some (.int .i64 6) := cellN (blk_below kq4 ((Below.refl _ _).alloc (Nat.le_refl _) _)) (i := 0) rfl
    rw [HML.out] at CL
    clear okL atL at4 KL5 kl4
    go_wp2_with fail
    clear p0
    refine CL.out.mono ?_
    rintro e w6 ⟨rfl, hb6⟩
    have K6 := blk_below HK6.out hb6
    have HB6 := hide (bb2 BQ4.out (bb2 B5 hb6))
    have CO1 := hide (CO w6 (bb2 B5 hb6)).out
    obtain ⟨e0, e1, e2, e3, e4, e5, e6, e7, e8, e9, e10, e11, e12⟩ : _ ∧ _ ∧ _ ∧ _ ∧ _ ∧ _ ∧ _ ∧ _ ∧ _ ∧ _ ∧ _ ∧ _ ∧ _ := ⟨cellN K6 (i := 0) rfl, cellN K6 (i := 1) rfl, cellN K6 (i := 2) rfl, cellN K6 (i := 3) rfl, cellN K6 (i := 4) rfl, cellN K6 (i := 5) rfl, cellN K6 (i := 6) rfl, cellN K6 (i := 7) rfl, cellN K6 (i := 8) rfl, cellN K6 (i := 9) rfl, cellN K6 (i := 10) rfl, cellN K6 (i := 11) rfl, cellN K6 (i := 12) rfl⟩
    simp only [World.size_alloc] at e0 e1 e2 e3 e4 e5 e6 e7 e8 e9 e10 e11 e12
    clear o0 o1 o2 o3 o4 o5 o6 o7 o8 o9 o10 o11 o12 l0 l1 l2 l3 l4 l5 l6 l7 l8 l9 l10 l11 l12 CL CO B5 hb6 K6
    go_wp2_with fail
    refine CO1.out.mono ?_
    rintro e w7 ⟨rfl, hb7⟩
    clear e0 e1 e2 e3 e4 e5 e6 e7 e8 e9 e10 e11 e12 CO1
    go_wp2_with fail
    refine (oawake_any _).mono ?_
    rintro e w8 ⟨rfl, hb8⟩
    go_wp2_with fail
    go_ret
    exact ⟨rfl, bb2 HB6.out (bb2 hb7 hb8)⟩
  · have t6 : (ork == 6) = false := by simpa using h6
    have HODD := hide (Ob.odd_hosts (o := OV.b ⟨⟨ork, ors, orn⟩, ogd, olb, oal, ocl, opo, oap, ocp, ocs, ols, oai, oci, opa, oaq, ocq, oho, oah, och, oru, oar, ocr, ofr, oaf, ocf, oto, oao, oco⟩) h6 [⟨#[97]⟩] (by simp))
    obtain ⟨V5, hV5⟩ : ∃ z, z = ((w2.alloc (.cells #[.int .i64 ork, .string ors, .string orn, .bool ogd, .slice oal olb.length ocl, .slice oap opo.length ocp, .string ocs, .slice oai ols.length oci, .slice oaq opa.length ocq, .slice oah oho.length och, .slice oar oru.length ocr, .slice oaf ofr.length ocf, .slice oao oto.length oco] 55)).alloc (.cells #[.int .i64 ork, .string ors, .string orn, .bool ogd, .slice oal olb.length ocl, .slice oap opo.length ocp, .string ocs, .slice oai ols.length oci, .slice oaq opa.length ocq, .slice (some ⟨(w2.alloc (.cells #[.int .i64 ork, .string ors, .string orn, .bool ogd, .slice oal olb.length ocl, .slice oap opo.length ocp, .string ocs, .slice oai ols.length oci, .slice oaq opa.length ocq, .slice oah oho.length och, .slice oar oru.length ocr, .slice oaf ofr.length ocf, .slice oao oto.length oco] 55)).heap.size + 1, 0, none⟩) 1 1, .slice oar oru.length ocr, .slice oaf ofr.length ocf, .slice oao oto.length oco] 55)).alloc (.cells #[.string ⟨#[97]⟩] 9) := ⟨_, rfl⟩
    have B5 : Below (w2.alloc (.cells #[.int .i64 ork, .string ors, .string orn, .bool ogd, .slice oal olb.length ocl, .slice oap opo.length ocp, .string ocs, .slice oai ols.length oci, .slice oaq opa.length ocq, .slice oah oho.length och, .slice oar oru.length ocr, .slice oaf ofr.length ocf, .slice oao oto.length oco] 55)).heap.size (w2.alloc (.cells #[.int .i64 ork, .string ors, .string orn, .bool ogd, .slice oal olb.length ocl, .slice oap opo.length ocp, .string ocs, .slice oai ols.length oci, .slice oaq opa.length ocq, .slice oah oho.length och, .slice oar oru.length ocr, .slice oaf ofr.length ocf, .slice oao oto.length oco] 55)) V5 := by
      rw [hV5]
      exact ((Below.refl _ _).alloc (Nat.le_refl _) _).alloc (by simp) _
    have K5 : V5.heap[(w2.alloc (.cells #[.int .i64 ork, .string ors, .string orn, .bool ogd, .slice oal olb.length ocl, .slice oap opo.length ocp, .string ocs, .slice oai ols.length oci, .slice oaq opa.length ocq, .slice oah oho.length och, .slice oar oru.length ocr, .slice oaf ofr.length ocf, .slice oao oto.length oco] 55)).heap.size]? = some (.cells #[.int .i64 ork, .string ors, .string orn, .bool ogd, .slice oal olb.length ocl, .slice oap opo.length ocp, .string ocs, .slice oai ols.length oci, .slice oaq opa.length ocq, .slice (some ⟨(w2.alloc (.cells #[.int .i64 ork, .string ors, .string orn, .bool ogd, .slice oal olb.length ocl, .slice oap opo.length ocp, .string ocs, .slice oai ols.length oci, .slice oaq opa.length ocq, .slice oah oho.length och, .slice oar oru.length ocr, .slice oaf ofr.length ocf, .slice oao oto.length oco] 55)).heap.size + 1, 0, none⟩) 1 1, .slice oar oru.length ocr, .slice oaf ofr.length ocf, .slice oao oto.length oco] 55) := by
      rw [hV5]
      exact blk_below (alloc_new (w2.alloc (.cells #[.int .i64 ork, .string ors, .string orn, .bool ogd, .slice oal olb.length ocl, .slice oap opo.length ocp, .string ocs, .slice oai ols.length oci, .slice oaq opa.length ocq, .slice oah oho.length och, .slice oar oru.length ocr, .slice oaf ofr.length ocf, .slice oao oto.length oco] 55)) _) ((Below.refl _ _).alloc (Nat.le_refl _) _)
    have S5 : V5.heap[(w2.alloc (.cells #[.int .i64 ork, .string ors, .string orn, .bool ogd, .slice oal olb.length ocl, .slice oap opo.length ocp, .string ocs, .slice oai ols.length oci, .slice oaq opa.length ocq, .slice oah oho.length och, .slice oar oru.length ocr, .slice oaf ofr.length ocf, .slice oao oto.length oco] 55)).heap.size + 1]? = some (.cells #[.string ⟨#[97]⟩] 9) := by
      rw [hV5]
      have := alloc_new ((w2.alloc (.cells #[.int .i64 ork, .string ors, .string orn, .bool ogd, .slice oal olb.length ocl, .slice oap opo.length ocp, .string ocs, .slice oai ols.length oci, .slice oaq opa.length ocq, .slice oah oho.length och, .slice oar oru.length ocr, .slice oaf ofr.length ocf, .slice oao oto.length oco] 55)).alloc (.cells #[.int .i64 ork, .string ors, .string orn, .bool ogd, .slice oal olb.length ocl, .slice oap opo.length ocp, .string ocs, .slice oai ols.length oci, .slice oaq opa.length ocq, .slice (some ⟨(w2.alloc (.cells #[.int .i64 ork, .string ors, .string orn, .bool ogd, .slice oal olb.length ocl, .slice oap opo.length ocp, .string ocs, .slice oai ols.length oci, .slice oaq opa.length ocq, .slice oah oho.length och, .slice oar oru.length ocr, .slice oaf ofr.length ocf, .slice oao oto.length oco] 55)).heap.size + 1, 0, none⟩) 1 1, .slice oar oru.length ocr, .slice oaf ofr.length ocf, .slice oao oto.length oco] 55)) (.cells #[.string ⟨#[97]⟩] 9)
      simp only [World.size_alloc] at this ⊢
      exact this
    have CL := hide (omay_any (⟨⟨ork, ors, orn⟩, ogd, olb, oal, ocl, opo, oap, ocp, ocs, ols, oai, oci, opa, oaq, ocq, oho, oah, och, oru, oar, ocr, ofr, oaf, ocf, oto, oao, oco⟩) V5 (atL.below B5) okL)
    have SLH : Sl ES V5 (.slice (some ⟨(w2.alloc (.cells #[.int .i64 ork, .string ors, .string orn, .bool ogd, .slice oal olb.length ocl, .slice oap opo.length ocp, .string ocs, .slice oai ols.length oci, .slice oaq opa.length ocq, .slice oah oho.length och, .slice oar oru.length ocr, .slice oaf ofr.length ocf, .slice oao oto.length oco] 55)).heap.size + 1, 0, none⟩) 1 1) [⟨#[97]⟩] := Sl.at_block (E := ES) (x := ⟨#[97]⟩) S5 trivial
    have CO := fun W (h : Below V5.heap.size V5 W) => hide (omf (omay_any ⟨⟨ork, ors, orn⟩, ogd, olb, oal, ocl, opo, oap, ocp, ocs, ols, oai, oci, opa, oaq, ocq, [⟨#[97]⟩], some ⟨(w2.alloc (.cells #[.int .i64 ork, .string ors, .string orn, .bool ogd, .slice oal olb.length ocl, .slice oap opo.length ocp, .string ocs, .slice oai ols.length oci, .slice oaq opa.length ocq, .slice oah oho.length och, .slice oar oru.length ocr, .slice oaf ofr.length ocf, .slice oao oto.length oco] 55)).heap.size + 1, 0, none⟩, 1, oru, oar, ocr, ofr, oaf, ocf, oto, oao, oco⟩ W ⟨at4.labels.below (bb2 B5 h), at4.ports.below (bb2 B5 h), at4.lis.below (bb2 B5 h), at4.pars.below (bb2 B5 h), SLH.below h, at4.rules.below (bb2 B5 h), at4.frm.below (bb2 B5 h), at4.tos.below (bb2 B5 h)⟩ ⟨ok.ref, ok.labels, ok.cls, ok.lis, ok.pars, (fun s hs => by rw [List.mem_singleton] at hs; subst hs; exact (show (1 : Nat) ≤ 100 by decide)), ok.rules, ok.frm, ok.tos⟩) HODD.out)
    have KL5 := blk_below kl4 B5
    have HK5 := hide K5
    have HBV5 := hide (bb2 BQ4.out B5)
    rw [HML.out] at CL
    have p0 : ((w2.alloc (.cells #[.int .i64 ork, .string ors, .string orn, .bool ogd, .slice oal olb.length ocl, .slice oap opo.length ocp, .string ocs, .slice oai ols.length oci, .slice oaq opa.length ocq, .slice oah oho.length och, .slice oar oru.length ocr, .slice oaf ofr.length ocf, .slice oao oto.length oco] 55)).alloc (.cells #[.int .i64 ork, .string ors, .string orn, .bool ogd, .slice oal olb.length ocl, .slice oap opo.length ocp, .string ocs, .slice oai ols.length oci, .slice oaq opa.length ocq, .slice oah oho.length och, .slice oar oru.length ocr, .slice oaf ofr.length ocf, .slice oao oto.length oco] 55)).cell? ⟨w.heap.size, 0, none⟩ = some (.int .i64 ork) := cellN (blk_below kq4 ((Below.refl _ _).alloc (Nat.le_refl _) _)) (i := 0) rfl
    obtain ⟨l0, l1, l2, l3, l4, l5, l6, l7, l8, l9, l10, l11, l12⟩ : _ ∧ _ ∧ _ ∧ _ ∧ _ ∧ _ ∧ _ ∧ _ ∧ _ ∧ _ ∧ _ ∧ _ ∧ _ := ⟨cellN KL5 (i := 0) rfl, cellN KL5 (i := 1) rfl, cellN KL5 (i := 2) rfl, cellN KL5 (i := 3) rfl, cellN KL5 (i := 4) rfl, cellN KL5 (i := 5) rfl, cellN KL5 (i := 6) rfl, cellN KL5 (i := 7) rfl, cellN KL5 (i := 8) rfl, cellN KL5 (i := 9) rfl, cellN KL5 (i := 10) rfl, cellN KL5 (i := 11) rfl, cellN KL5 (i := 12) rfl⟩
    rw [hV5] at l0 l1 l2 l3 l4 l5 l6 l7 l8 l9 l10 l11 l12
    simp only [World.size_alloc] at *
    clear okL atL at4 KL5 kl4 K5 S5
    go_wp2_with fail
    rw [← hV5]
    clear p0 l0 l1 l2 l3 l4 l5 l6 l7 l8 l9 l10 l11 l12 hV5
    refine CL.out.mono ?_
    rintro e w6 ⟨rfl, hb6⟩
    have K6 := blk_below HK5.out hb6
    have HB6 := hide (bb2 HBV5.out hb6)
    have CO1 := hide (CO w6 hb6).out
    obtain ⟨e0, e1, e2, e3, e4, e5, e6, e7, e8, e9, e10, e11, e12⟩ : _ ∧ _ ∧ _ ∧ _ ∧ _ ∧ _ ∧ _ ∧ _ ∧ _ ∧ _ ∧ _ ∧ _ ∧ _ := ⟨cellN K6 (i := 0) rfl, cellN K6 (i := 1) rfl, cellN K6 (i := 2) rfl, cellN K6 (i := 3) rfl, cellN K6 (i := 4) rfl, cellN K6 (i := 5) rfl, cellN K6 (i := 6) rfl, cellN K6 (i := 7) rfl, cellN K6 (i := 8) rfl, cellN K6 (i := 9) rfl, cellN K6 (i := 10) rfl, cellN K6 (i := 11) rfl, cellN K6 (i := 12) rfl⟩
    clear o0 o1 o2 o3 o4 o5 o6 o7 o8 o9 o10 o11 o12 CL CO hb6 K6
    go_wp2_with fail
    refine CO1.out.mono ?_
    rintro e w7 ⟨rfl, hb7⟩
    clear e0 e1 e2 e3 e4 e5 e6 e7 e8 e9 e10 e11 e12 CO1
    go_wp2_with fail
    refine (oawake_any _).mono ?_
    rintro e w8 ⟨rfl, hb8⟩
    go_wp2_with fail
    go_ret
    exact ⟨rfl, bb2 HB6.out (bb2 hb7 hb8)⟩

set_option linter.unusedVariables false in
set_option linter.unusedSimpArgs false in
set_option maxHeartbeats 12800000 in
theorem oless_not (x : OV) (cb : UInt8) (w : World) (hx : x.at_ w) (raw : RawO x) (hm0 : Ob.mayO (fewO x.b) = false) :
    Calls Tryz.prog 7 #[oV x, .int .u8 (cb.toNat : Int)] w fun e w' => e = .returned (.bool true) ∧ Below w.heap.size w w' := by
  have HM0 := hide hm0
  clear hm0
  have hn := cb.toNat_lt
  have hwn : IntKind.i64.wrap (cb.toNat : Int) = (cb.toNat : Int) := by rw [IntKind.wrap_i64]; omega
  have CF := fun W (h : Below w.heap.size w W) => hide (fewO_any x W (hx.below h) raw)
  have B1 : Below w.heap.size w (w.alloc (.cells #[.int .i64 x.ref.kind, .string x.ref.space, .string x.ref.name, .bool x.good, .slice x.al x.labels.length x.cl, .slice x.ap x.ports.length x.cp, .string x.cls, .slice x.ai x.lis.length x.ci, .slice x.aq x.pars.length x.cq, .slice x.ah x.hosts.length x.ch, .slice x.ar x.rules.length x.cr, .slice x.af x.frm.length x.cf, .slice x.ao x.tos.length x.co] 55)) := (Below.refl _ _).alloc (Nat.le_refl _) _
  clear hx raw
  go_enter Tryz.func7, Tryz.ntmps7
  go_wp2_with fail
  refine (CF _ B1).out.mono ?_
  rintro e w1 ⟨y, rfl, hy, hown, hb1⟩
  have hz : w1.heap[w.heap.size]? = some (.cells #[.int .i64 x.ref.kind, .string x.ref.space, .string x.ref.name, .bool x.good, .slice x.al x.labels.length x.cl, .slice x.ap x.ports.length x.cp, .string x.cls, .slice x.ai x.lis.length x.ci, .slice x.aq x.pars.length x.cq, .slice x.ah x.hosts.length x.ch, .slice x.ar x.rules.length x.cr, .slice x.af x.frm.length x.cf, .slice x.ao x.tos.length x.co] 55) := box_block hb1
  have BB := bb2 B1 hb1
  have lz := liveN hz
  obtain ⟨z0, z1, z2, z3, z4, z5, z6, z7, z8, z9, z10, z11, z12⟩ : _ ∧ _ ∧ _ ∧ _ ∧ _ ∧ _ ∧ _ ∧ _ ∧ _ ∧ _ ∧ _ ∧ _ ∧ _ := ⟨cellN hz (i := 0) rfl, cellN hz (i := 1) rfl, cellN hz (i := 2) rfl, cellN hz (i := 3) rfl, cellN hz (i := 4) rfl, cellN hz (i := 5) rfl, cellN hz (i := 6) rfl, cellN hz (i := 7) rfl, cellN hz (i := 8) rfl, cellN hz (i := 9) rfl, cellN hz (i := 10) rfl, cellN hz (i := 11) rfl, cellN hz (i := 12) rfl⟩
  have K2 := hide (show ((((((((((((((w1.setCell ⟨w.heap.size, 0, none⟩ (.int .i64 y.ref.kind)).setCell ⟨w.heap.size, 1, none⟩ (.string y.ref.space)).setCell ⟨w.heap.size, 2, none⟩ (.string y.ref.name)).setCell ⟨w.heap.size, 3, none⟩ (.bool y.good)).setCell ⟨w.heap.size, 4, none⟩ (.slice y.al y.labels.length y.cl)).setCell ⟨w.heap.size, 5, none⟩ (.slice y.ap y.ports.length y.cp)).setCell ⟨w.heap.size, 6, none⟩ (.string y.cls)).setCell ⟨w.heap.size, 7, none⟩ (.slice y.ai y.lis.length y.ci)).setCell ⟨w.heap.size, 8, none⟩ (.slice y.aq y.pars.length y.cq)).setCell ⟨w.heap.size, 9, none⟩ (.slice y.ah y.hosts.length y.ch)).setCell ⟨w.heap.size, 10, none⟩ (.slice y.ar y.rules.length y.cr)).setCell ⟨w.heap.size, 11, none⟩ (.slice y.af y.frm.length y.cf)).setCell ⟨w.heap.size, 12, none⟩ (.slice y.ao y.tos.length y.co))).heap[w.heap.size]? = some (.cells #[.int .i64 y.ref.kind, .string y.ref.space, .string y.ref.name, .bool y.good, .slice y.al y.labels.length y.cl, .slice y.ap y.ports.length y.cp, .string y.cls, .slice y.ai y.lis.length y.ci, .slice y.aq y.pars.length y.cq, .slice y.ah y.hosts.length y.ch, .slice y.ar y.rules.length y.cr, .slice y.af y.frm.length y.cf, .slice y.ao y.tos.length y.co] 55) from setL_all [.int .i64 y.ref.kind, .string y.ref.space, .string y.ref.name, .bool y.good, .slice y.al y.labels.length y.cl, .slice y.ap y.ports.length y.cp, .string y.cls, .slice y.ai y.lis.length y.ci, .slice y.aq y.pars.length y.cq, .slice y.ah y.hosts.length y.ch, .slice y.ar y.rules.length y.cr, .slice y.af y.frm.length y.cf, .slice y.ao y.tos.length y.co] hz rfl)
  have own2 := hide (show OV.own y (((((((((((((w1.setCell ⟨w.heap.size, 0, none⟩ (.int .i64 y.ref.kind)).setCell ⟨w.heap.size, 1, none⟩ (.string y.ref.space)).setCell ⟨w.heap.size, 2, none⟩ (.string y.ref.name)).setCell ⟨w.heap.size, 3, none⟩ (.bool y.good)).setCell ⟨w.heap.size, 4, none⟩ (.slice y.al y.labels.length y.cl)).setCell ⟨w.heap.size, 5, none⟩ (.slice y.ap y.ports.length y.cp)).setCell ⟨w.heap.size, 6, none⟩ (.string y.cls)).setCell ⟨w.heap.size, 7, none⟩ (.slice y.ai y.lis.length y.ci)).setCell ⟨w.heap.size, 8, none⟩ (.slice y.aq y.pars.length y.cq)).setCell ⟨w.heap.size, 9, none⟩ (.slice y.ah y.hosts.length y.ch)).setCell ⟨w.heap.size, 10, none⟩ (.slice y.ar y.rules.length y.cr)).setCell ⟨w.heap.size, 11, none⟩ (.slice y.af y.frm.length y.cf)).setCell ⟨w.heap.size, 12, none⟩ (.slice y.ao y.tos.length y.co)) from hown.bx ((BX.refl w.heap.size w1.heap.size w1).setL 0 [.int .i64 y.ref.kind, .string y.ref.space, .string y.ref.name, .bool y.good, .slice y.al y.labels.length y.cl, .slice y.ap y.ports.length y.cp, .string y.cls, .slice y.ai y.lis.length y.ci, .slice y.aq y.pars.length y.cq, .slice y.ah y.hosts.length y.ch, .slice y.ar y.rules.length y.cr, .slice y.af y.frm.length y.cf, .slice y.ao y.tos.length y.co]) hz)
  have BB2 := hide (show Below w.heap.size w (((((((((((((w1.setCell ⟨w.heap.size, 0, none⟩ (.int .i64 y.ref.kind)).setCell ⟨w.heap.size, 1, none⟩ (.string y.ref.space)).setCell ⟨w.heap.size, 2, none⟩ (.string y.ref.name)).setCell ⟨w.heap.size, 3, none⟩ (.bool y.good)).setCell ⟨w.heap.size, 4, none⟩ (.slice y.al y.labels.length y.cl)).setCell ⟨w.heap.size, 5, none⟩ (.slice y.ap y.ports.length y.cp)).setCell ⟨w.heap.size, 6, none⟩ (.string y.cls)).setCell ⟨w.heap.size, 7, none⟩ (.slice y.ai y.lis.length y.ci)).setCell ⟨w.heap.size, 8, none⟩ (.slice y.aq y.pars.length y.cq)).setCell ⟨w.heap.size, 9, none⟩ (.slice y.ah y.hosts.length y.ch)).setCell ⟨w.heap.size, 10, none⟩ (.slice y.ar y.rules.length y.cr)).setCell ⟨w.heap.size, 11, none⟩ (.slice y.af y.frm.length y.cf)).setCell ⟨w.heap.size, 12, none⟩ (.slice y.ao y.tos.length y.co)) from setL_below (w := w) (B := w.heap.size) (g := w.heap.size) (Nat.le_refl _) [.int .i64 y.ref.kind, .string y.ref.space, .string y.ref.name, .bool y.good, .slice y.al y.labels.length y.cl, .slice y.ap y.ports.length y.cp, .string y.cls, .slice y.ai y.lis.length y.ci, .slice y.aq y.pars.length y.cq, .slice y.ah y.hosts.length y.ch, .slice y.ar y.rules.length y.cr, .slice y.af y.frm.length y.cf, .slice y.ao y.tos.length y.co] _ 0 BB)
  obtain ⟨d0, d1, d2, d3, d4, d5, d6, d7, d8, d9, d10, d11, d12⟩ : _ ∧ _ ∧ _ ∧ _ ∧ _ ∧ _ ∧ _ ∧ _ ∧ _ ∧ _ ∧ _ ∧ _ ∧ _ := ⟨cellN K2.out (i := 0) rfl, cellN K2.out (i := 1) rfl, cellN K2.out (i := 2) rfl, cellN K2.out (i := 3) rfl, cellN K2.out (i := 4) rfl, cellN K2.out (i := 5) rfl, cellN K2.out (i := 6) rfl, cellN K2.out (i := 7) rfl, cellN K2.out (i := 8) rfl, cellN K2.out (i := 9) rfl, cellN K2.out (i := 10) rfl, cellN K2.out (i := 11) rfl, cellN K2.out (i := 12) rfl⟩
  have ok := fewO_ok hy
  have HOK := hide ok
  have HY := hide hy
  clear hz hown BB B1 hb1 CF hy ok
  go_wp2_with fail
  have kq : ((((((((((((((w1.setCell ⟨w.heap.size, 0, none⟩ (.int .i64 y.ref.kind)).setCell ⟨w.heap.size, 1, none⟩ (.string y.ref.space)).setCell ⟨w.heap.size, 2, none⟩ (.string y.ref.name)).setCell ⟨w.heap.size, 3, none⟩ (.bool y.good)).setCell ⟨w.heap.size, 4, none⟩ (.slice y.al y.labels.length y.cl)).setCell ⟨w.heap.size, 5, none⟩ (.slice y.ap y.ports.length y.cp)).setCell ⟨w.heap.size, 6, none⟩ (.string y.cls)).setCell ⟨w.heap.size, 7, none⟩ (.slice y.ai y.lis.length y.ci)).setCell ⟨w.heap.size, 8, none⟩ (.slice y.aq y.pars.length y.cq)).setCell ⟨w.heap.size, 9, none⟩ (.slice y.ah y.hosts.length y.ch)).setCell ⟨w.heap.size, 10, none⟩ (.slice y.ar y.rules.length y.cr)).setCell ⟨w.heap.size, 11, none⟩ (.slice y.af y.frm.length y.cf)).setCell ⟨w.heap.size, 12, none⟩ (.slice y.ao y.tos.length y.co))).heap[w.heap.size]? = some (.cells #[.int .i64 y.ref.kind, .string y.ref.space, .string y.ref.name, .bool y.good, .slice y.al y.labels.length y.cl, .slice y.ap y.ports.length y.cp, .string y.cls, .slice y.ai y.lis.length y.ci, .slice y.aq y.pars.length y.cq, .slice y.ah y.hosts.length y.ch, .slice y.ar y.rules.length y.cr, .slice y.af y.frm.length y.cf, .slice y.ao y.tos.length y.co] 55) := K2.out
  have ownq : OV.own y (((((((((((((w1.setCell ⟨w.heap.size, 0, none⟩ (.int .i64 y.ref.kind)).setCell ⟨w.heap.size, 1, none⟩ (.string y.ref.space)).setCell ⟨w.heap.size, 2, none⟩ (.string y.ref.name)).setCell ⟨w.heap.size, 3, none⟩ (.bool y.good)).setCell ⟨w.heap.size, 4, none⟩ (.slice y.al y.labels.length y.cl)).setCell ⟨w.heap.size, 5, none⟩ (.slice y.ap y.ports.length y.cp)).setCell ⟨w.heap.size, 6, none⟩ (.string y.cls)).setCell ⟨w.heap.size, 7, none⟩ (.slice y.ai y.lis.length y.ci)).setCell ⟨w.heap.size, 8, none⟩ (.slice y.aq y.pars.length y.cq)).setCell ⟨w.heap.size, 9, none⟩ (.slice y.ah y.hosts.length y.ch)).setCell ⟨w.heap.size, 10, none⟩ (.slice y.ar y.rules.length y.cr)).setCell ⟨w.heap.size, 11, none⟩ (.slice y.af y.frm.length y.cf)).setCell ⟨w.heap.size, 12, none⟩ (.slice y.ao y.tos.length y.co)) := own2.out
  have BQ : Below w.heap.size w (((((((((((((w1.setCell ⟨w.heap.size, 0, none⟩ (.int .i64 y.ref.kind)).setCell ⟨w.heap.size, 1, none⟩ (.string y.ref.space)).setCell ⟨w.heap.size, 2, none⟩ (.string y.ref.name)).setCell ⟨w.heap.size, 3, none⟩ (.bool y.good)).setCell ⟨w.heap.size, 4, none⟩ (.slice y.al y.labels.length y.cl)).setCell ⟨w.heap.size, 5, none⟩ (.slice y.ap y.ports.length y.cp)).setCell ⟨w.heap.size, 6, none⟩ (.string y.cls)).setCell ⟨w.heap.size, 7, none⟩ (.slice y.ai y.lis.length y.ci)).setCell ⟨w.heap.size, 8, none⟩ (.slice y.aq y.pars.length y.cq)).setCell ⟨w.heap.size, 9, none⟩ (.slice y.ah y.hosts.length y.ch)).setCell ⟨w.heap.size, 10, none⟩ (.slice y.ar y.rules.length y.cr)).setCell ⟨w.heap.size, 11, none⟩ (.slice y.af y.frm.length y.cf)).setCell ⟨w.heap.size, 12, none⟩ (.slice y.ao y.tos.length y.co)) := BB2.out
  clear K2 own2 BB2 lz z0 z1 z2 z3 z4 z5 z6 z7 z8 z9 z10 z11 z12 d0 d1 d2 d3 d4 d5 d6 d7 d8 d9 d10 d11 d12
  generalize (((((((((((((w1.setCell ⟨w.heap.size, 0, none⟩ (.int .i64 y.ref.kind)).setCell ⟨w.heap.size, 1, none⟩ (.string y.ref.space)).setCell ⟨w.heap.size, 2, none⟩ (.string y.ref.name)).setCell ⟨w.heap.size, 3, none⟩ (.bool y.good)).setCell ⟨w.heap.size, 4, none⟩ (.slice y.al y.labels.length y.cl)).setCell ⟨w.heap.size, 5, none⟩ (.slice y.ap y.ports.length y.cp)).setCell ⟨w.heap.size, 6, none⟩ (.string y.cls)).setCell ⟨w.heap.size, 7, none⟩ (.slice y.ai y.lis.length y.ci)).setCell ⟨w.heap.size, 8, none⟩ (.slice y.aq y.pars.length y.cq)).setCell ⟨w.heap.size, 9, none⟩ (.slice y.ah y.hosts.length y.ch)).setCell ⟨w.heap.size, 10, none⟩ (.slice y.ar y.rules.length y.cr)).setCell ⟨w.heap.size, 11, none⟩ (.slice y.af y.frm.length y.cf)).setCell ⟨w.heap.size, 12, none⟩ (.slice y.ao y.tos.length y.co)) = V at *
  have at_ := ownq.at_
  have ok := HOK.out
  have HMAY := hide (omay_any y V at_ ok)
  rw [show Ob.mayO y.b = false by rw [HY.out]; exact HM0.out] at HMAY
  refine HMAY.out.mono ?_
  rintro e w2 ⟨rfl, hb2⟩
  have kq2 := blk_below kq hb2
  obtain ⟨d0, d1, d2, d3, d4, d5, d6, d7, d8, d9, d10, d11, d12⟩ : _ ∧ _ ∧ _ ∧ _ ∧ _ ∧ _ ∧ _ ∧ _ ∧ _ ∧ _ ∧ _ ∧ _ ∧ _ := ⟨cellN kq2 (i := 0) rfl, cellN kq2 (i := 1) rfl, cellN kq2 (i := 2) rfl, cellN kq2 (i := 3) rfl, cellN kq2 (i := 4) rfl, cellN kq2 (i := 5) rfl, cellN kq2 (i := 6) rfl, cellN kq2 (i := 7) rfl, cellN kq2 (i := 8) rfl, cellN kq2 (i := 9) rfl, cellN kq2 (i := 10) rfl, cellN kq2 (i := 11) rfl, cellN kq2 (i := 12) rfl⟩
  have CR := hide (refs_any y w2 (at_.below hb2) ok)
  have HL0 : Hid ((Ob.refsO y.b).length = 0) := by
    show (Ob.refsO y.b).length = 0
    rw [Ob.refs_no (by rw [HY.out]; exact HM0.out)]
    rfl
  have HB2 := hide (bb2 BQ hb2)
  clear kq2 HMAY HY at_ ok kq ownq BQ hb2
  go_wp2_with fail
  refine CR.out.mono ?_
  rintro e w3 ⟨v3, rfl, hsl, hb3⟩
  obtain ⟨ad, cap, rfl, _, _, _⟩ := hsl
  have t0 : (((Ob.refsO y.b).length : Int) == 0) = true := by rw [HL0.out]; rfl
  have HB3 := hide (bb2 HB2.out hb3)
  clear d0 d1 d2 d3 d4 d5 d6 d7 d8 d9 d10 d11 d12 CR hb3
  go_wp2_with fail
  refine (oawake_any _).mono ?_
  rintro e w8 ⟨rfl, hb8⟩
  go_wp2_with fail
  go_ret
  exact ⟨rfl, bb2 HB3.out hb8⟩

theorem less_law (v0 : Value) (n1 : Int) (w : World) (h0 : ArgOb w v0) (h1 : (Lit.int .u8 n1).wf = true) :
    Calls Tryz.prog 7 #[v0, .int .u8 n1] w fun e w' => e = .returned (.bool true) ∧ Below w.heap.size w w' := by
  obtain ⟨x, rfl, hx, raw⟩ := h0
  obtain ⟨cb, rfl⟩ := u8_lit h1
  cases hm : Ob.mayO (fewO x.b)
  · exact oless_not x cb w hx raw hm
  · by_cases h1 : 0 < (fewO x.b).rules.length
    · exact oless_rules x cb w hx raw hm h1
    · by_cases h2 : 0 < (fewO x.b).lis.length
      · exact oless_lis x cb w hx raw hm ⟨by omega, h2⟩
      · by_cases h3 : 0 < (fewO x.b).ports.length
        · exact oless_ports x cb w hx raw hm ⟨by omega, by omega, h3⟩
        · exact oless_none x cb w hx raw hm ⟨by omega, by omega, by omega⟩

end Go.Proofs.YtblmdcpcekoogaaGreatDoor
