/-
  The law ObjectKnown.
-/
import Derived.Test.YtblmdcpcekoogaaGreatDoorJ17
import Derived.Test.YtblmdcpcekoogaaGreatDoorObFewC
import Derived.Test.YtblmdcpcekoogaaGreatDoorJ18
import Derived.Test.YtblmdcpcekoogaaGreatDoorJ16
import Derived.Test.YtblmdcpcekoogaaGreatDoorObMap
import Derived.Test.YtblmdcpcekoogaaGreatDoorJ13
namespace Go.Proofs.YtblmdcpcekoogaaGreatDoor
set_option maxRecDepth 20000
open Go Go.RowKit Go.Shelf

/-- how the first loop stands -/
structure MapAt (w2 : World) (m : Nat) (L : List RfB) (k : Nat) (W : World) : Prop where
  bx : BX m (m + 1) (w2.alloc (.map #[] 0)) W
  blk : W.heap[m]? = some (.map (mapEs (L.take k) 0).toArray (L.take k).length)
theorem MapAt.under {w2 W : World} {m k : Nat} {L : List RfB} (h : MapAt w2 m L k W) (hm : m = w2.heap.size) : Below w2.heap.size w2 W := by
  subst hm
  exact ((Below.refl _ _).alloc (Nat.le_refl _) _).trans (h.bx.under (m := w2.heap.size) (Nat.le_refl _) (by omega))
theorem take_not {L : List RfB} (h : Ob.Asc L) {k : Nat} (hk : k < L.length) : ∀ x ∈ L.take k, x ≠ L[k] := fun x hx e => by
  obtain ⟨j, hj, hjx⟩ := List.getElem_of_mem hx
  rw [List.getElem_take] at hjx
  have hjk : j < k := by simp at hj; omega
  have := List.pairwise_iff_getElem.1 h j k (by omega) hk hjk
  rw [hjx, e, Ob.ordR_self] at this
  omega

set_option linter.unusedVariables false in
set_option maxHeartbeats 12800000 in
theorem known_five (x : OV) (w : World) (hx : x.at_ w) (raw : RawO x) (hk : x.ref.kind = 5) :
    Calls Tryz.prog 8 #[oV x] w fun e w' => e = .returned (.bool true) ∧ Below w.heap.size w w' := by
  have hmm := @run_makeMap Tryz.prog
  have HK := hide hk
  clear hk
  have CF := fun W (h : Below w.heap.size w W) => hide (fewO_any x W (hx.below h) raw)
  have B1 : Below w.heap.size w (w.alloc (.cells #[.int .i64 x.ref.kind, .string x.ref.space, .string x.ref.name, .bool x.good, .slice x.al x.labels.length x.cl, .slice x.ap x.ports.length x.cp, .string x.cls, .slice x.ai x.lis.length x.ci, .slice x.aq x.pars.length x.cq, .slice x.ah x.hosts.length x.ch, .slice x.ar x.rules.length x.cr, .slice x.af x.frm.length x.cf, .slice x.ao x.tos.length x.co] 55)) := (Below.refl _ _).alloc (Nat.le_refl _) _
  clear hx raw
  go_enter Tryz.func8, Tryz.ntmps8
  go_wp2_with fail
  refine (CF _ B1).out.mono ?_
  rintro e w1 ⟨y, rfl, hy, hown, hb1⟩
  have hz : w1.heap[w.heap.size]? = some (.cells #[.int .i64 x.ref.kind, .string x.ref.space, .string x.ref.name, .bool x.good, .slice x.al x.labels.length x.cl, .slice x.ap x.ports.length x.cp, .string x.cls, .slice x.ai x.lis.length x.ci, .slice x.aq x.pars.length x.cq, .slice x.ah x.hosts.length x.ch, .slice x.ar x.rules.length x.cr, .slice x.af x.frm.length x.cf, .slice x.ao x.tos.length x.co] 55) := box_block hb1
  have BB := bb2 B1 hb1
  have lz := liveN hz
  obtain ⟨z0, z1, z2, z3, z4, z5, z6, z7, z8, z9, z10, z11, z12⟩ : _ ∧ _ ∧ _ ∧ _ ∧ _ ∧ _ ∧ _ ∧ _ ∧ _ ∧ _ ∧ _ ∧ _ ∧ _ := ⟨cellN hz (i := 0) rfl, cellN hz (i := 1) rfl, cellN hz (i := 2) rfl, cellN hz (i := 3) rfl, cellN hz (i := 4) rfl, cellN hz (i := 5) rfl, cellN hz (i := 6) rfl, cellN hz (i := 7) rfl, cellN hz (i := 8) rfl, cellN hz (i := 9) rfl, cellN hz (i := 10) rfl, cellN hz (i := 11) rfl, cellN hz (i := 12) rfl⟩
  have K2 := hide (show ((((((((((((((w1.setCell ⟨w.heap.size, 0, none⟩ (.int .i64 y.ref.kind)).setCell ⟨w.heap.size, 1, none⟩ (.string y.ref.space)).setCell ⟨w.heap.size, 2, none⟩ (.string y.ref.name)).setCell ⟨w.heap.size, 3, none⟩ (.bool y.good)).setCell ⟨w.heap.size, 4, none⟩ (.slice y.al y.labels.length y.cl)).setCell ⟨w.heap.size, 5, none⟩ (.slice y.ap y.ports.length y.cp)).setCell ⟨w.heap.size, 6, none⟩ (.string y.cls)).setCell ⟨w.heap.size, 7, none⟩ (.slice y.ai y.lis.length y.ci)).setCell ⟨w.heap.size, 8, none⟩ (.slice y.aq y.pars.length y.cq)).setCell ⟨w.heap.size, 9, none⟩ (.slice y.ah y.hosts.length y.ch)).setCell ⟨w.heap.size, 10, none⟩ (.slice y.ar y.rules.length y.cr)).setCell ⟨w.heap.size, 11, none⟩ (.slice y.af y.frm.length y.cf)).setCell ⟨w.heap.size, 12, none⟩ (.slice y.ao y.tos.length y.co))).heap[w.heap.size]? = some (.cells #[.int .i64 y.ref.kind, .string y.ref.space, .string y.ref.name, .bool y.good, .slice y.al y.labels.length y.cl, .slice y.ap y.ports.length y.cp, .string y.cls, .slice y.ai y.lis.length y.ci, .slice y.aq y.pars.length y.cq, .slice y.ah y.hosts.length y.ch, .slice y.ar y.rules.length y.cr, .slice y.af y.frm.length y.cf, .slice y.ao y.tos.length y.co] 55) from setL_all [.int .i64 y.ref.kind, .string y.ref.space, .string y.ref.name, .bool y.good, .slice y.al y.labels.length y.cl, .slice y.ap y.ports.length y.cp, .string y.cls, .slice y.ai y.lis.length y.ci, .slice y.aq y.pars.length y.cq, .slice y.ah y.hosts.length y.ch, .slice y.ar y.rules.length y.cr, .slice y.af y.frm.length y.cf, .slice y.ao y.tos.length y.co] hz rfl)
  have own2 := hide (show OV.own y (((((((((((((w1.setCell ⟨w.heap.size, 0, none⟩ (.int .i64 y.ref.kind)).setCell ⟨w.heap.size, 1, none⟩ (.string y.ref.space)).setCell ⟨w.heap.size, 2, none⟩ (.string y.ref.name)).setCell ⟨w.heap.size, 3, none⟩ (.bool y.good)).setCell ⟨w.heap.size, 4, none⟩ (.slice y.al y.labels.length y.cl)).setCell ⟨w.heap.size, 5, none⟩ (.slice y.ap y.ports.length y.cp)).setCell ⟨w.heap.size, 6, none⟩ (.string y.cls)).setCell ⟨w.heap.size, 7, none⟩ (.slice y.ai y.lis.length y.ci)).setCell ⟨w.heap.size, 8, none⟩ (.slice y.aq y.pars.length y.cq)).setCell ⟨w.heap.size, 9, none⟩ (.slice y.ah y.hosts.length y.ch)).setCell ⟨w.heap.size, 10, none⟩ (.slice y.ar y.rules.length y.cr)).setCell ⟨w.heap.size, 11, none⟩ (.slice y.af y.frm.length y.cf)).setCell ⟨w.heap.size, 12, none⟩ (.slice y.ao y.tos.length y.co)) from hown.bx ((BX.refl w.heap.size w1.heap.size w1).setL 0 [.int .i64 y.ref.kind, .string y.ref.space, .string y.ref.name, .bool y.good, .slice y.al y.labels.length y.cl, .slice y.ap y.ports.length y.cp, .string y.cls, .slice y.ai y.lis.length y.ci, .slice y.aq y.pars.length y.cq, .slice y.ah y.hosts.length y.ch, .slice y.ar y.rules.length y.cr, .slice y.af y.frm.length y.cf, .slice y.ao y.tos.length y.co]) hz)
  have BB2 := hide (show Below w.heap.size w (((((((((((((w1.setCell ⟨w.heap.size, 0, none⟩ (.int .i64 y.ref.kind)).setCell ⟨w.heap.size, 1, none⟩ (.string y.ref.space)).setCell ⟨w.heap.size, 2, none⟩ (.string y.ref.name)).setCell ⟨w.heap.size, 3, none⟩ (.bool y.good)).setCell ⟨w.heap.size, 4, none⟩ (.slice y.al y.labels.length y.cl)).setCell ⟨w.heap.size, 5, none⟩ (.slice y.ap y.ports.length y.cp)).setCell ⟨w.heap.size, 6, none⟩ (.string y.cls)).setCell ⟨w.heap.size, 7, none⟩ (.slice y.ai y.lis.length y.ci)).setCell ⟨w.heap.size, 8, none⟩ (.slice y.aq y.pars.length y.cq)).setCell ⟨w.heap.size, 9, none⟩ (.slice y.ah y.hosts.length y.ch)).setCell ⟨w.heap.size, 10, none⟩ (.slice y.ar y.rules.length y.cr)).setCell ⟨w.heap.size, 11, none⟩ (.slice y.af y.frm.length y.cf)).setCell ⟨w.heap.size, 12, none⟩ (.slice y.ao y.tos.length y.co)) from setL_below (w := w) (B := w.heap.size) (g := w.heap.size) (Nat.le_refl _) [.int .i64 y.ref.kind, .string y.ref.space, .string y.ref.name, .bool y.good, .slice y.al y.labels.length y.cl, .slice y.ap y.ports.length y.cp, .string y.cls, .slice y.ai y.lis.length y.ci, .slice y.aq y.pars.length y.cq, .slice y.ah y.hosts.length y.ch, .slice y.ar y.rules.length y.cr, .slice y.af y.frm.length y.cf, .slice y.ao y.tos.length y.co] _ 0 BB)
  obtain ⟨d0, d1, d2, d3, d4, d5, d6, d7, d8, d9, d10, d11, d12⟩ : _ ∧ _ ∧ _ ∧ _ ∧ _ ∧ _ ∧ _ ∧ _ ∧ _ ∧ _ ∧ _ ∧ _ ∧ _ := ⟨cellN K2.out (i := 0) rfl, cellN K2.out (i := 1) rfl, cellN K2.out (i := 2) rfl, cellN K2.out (i := 3) rfl, cellN K2.out (i := 4) rfl, cellN K2.out (i := 5) rfl, cellN K2.out (i := 6) rfl, cellN K2.out (i := 7) rfl, cellN K2.out (i := 8) rfl, cellN K2.out (i := 9) rfl, cellN K2.out (i := 10) rfl, cellN K2.out (i := 11) rfl, cellN K2.out (i := 12) rfl⟩
  have ok := fewO_ok hy
  have HOK := hide ok
  have HY := hide hy
  clear hz hown BB B1 hb1 CF hy ok
  go_wp2_with fail
  have kq : ((((((((((((((w1.setCell ⟨w.heap.size, 0, none⟩ (.int .i64 y.ref.kind)).setCell ⟨w.heap.size, 1, none⟩ (.string y.ref.space)).setCell ⟨w.heap.size, 2, none⟩ (.string y.ref.name)).setCell ⟨w.heap.size, 3, none⟩ (.bool y.good)).setCell ⟨w.heap.size, 4, none⟩ (.slice y.al y.labels.length y.cl)).setCell ⟨w.heap.size, 5, none⟩ (.slice y.ap y.ports.length y.cp)).setCell ⟨w.heap.size, 6, none⟩ (.string y.cls)).setCell ⟨w.heap.size, 7, none⟩ (.slice y.ai y.lis.length y.ci)).setCell ⟨w.heap.size, 8, none⟩ (.slice y.aq y.pars.length y.cq)).setCell ⟨w.heap.size, 9, none⟩ (.slice y.ah y.hosts.length y.ch)).setCell ⟨w.heap.size, 10, none⟩ (.slice y.ar y.rules.length y.cr)).setCell ⟨w.heap.size, 11, none⟩ (.slice y.af y.frm.length y.cf)).setCell ⟨w.heap.size, 12, none⟩ (.slice y.ao y.tos.length y.co))).heap[w.heap.size]? = some (.cells #[.int .i64 y.ref.kind, .string y.ref.space, .string y.ref.name, .bool y.good, .slice y.al y.labels.length y.cl, .slice y.ap y.ports.length y.cp, .string y.cls, .slice y.ai y.lis.length y.ci, .slice y.aq y.pars.length y.cq, .slice y.ah y.hosts.length y.ch, .slice y.ar y.rules.length y.cr, .slice y.af y.frm.length y.cf, .slice y.ao y.tos.length y.co] 55) := K2.out
  have ownq : OV.own y (((((((((((((w1.setCell ⟨w.heap.size, 0, none⟩ (.int .i64 y.ref.kind)).setCell ⟨w.heap.size, 1, none⟩ (.string y.ref.space)).setCell ⟨w.heap.size, 2, none⟩ (.string y.ref.name)).setCell ⟨w.heap.size, 3, none⟩ (.bool y.good)).setCell ⟨w.heap.size, 4, none⟩ (.slice y.al y.labels.length y.cl)).setCell ⟨w.heap.size, 5, none⟩ (.slice y.ap y.ports.length y.cp)).setCell ⟨w.heap.size, 6, none⟩ (.string y.cls)).setCell ⟨w.heap.size, 7, none⟩ (.slice y.ai y.lis.length y.ci)).setCell ⟨w.heap.size, 8, none⟩ (.slice y.aq y.pars.length y.cq)).setCell ⟨w.heap.size, 9, none⟩ (.slice y.ah y.hosts.length y.ch)).setCell ⟨w.heap.size, 10, none⟩ (.slice y.ar y.rules.length y.cr)).setCell ⟨w.heap.size, 11, none⟩ (.slice y.af y.frm.length y.cf)).setCell ⟨w.heap.size, 12, none⟩ (.slice y.ao y.tos.length y.co)) := own2.out
  have BQ : Below w.heap.size w (((((((((((((w1.setCell ⟨w.heap.size, 0, none⟩ (.int .i64 y.ref.kind)).setCell ⟨w.heap.size, 1, none⟩ (.string y.ref.space)).setCell ⟨w.heap.size, 2, none⟩ (.string y.ref.name)).setCell ⟨w.heap.size, 3, none⟩ (.bool y.good)).setCell ⟨w.heap.size, 4, none⟩ (.slice y.al y.labels.length y.cl)).setCell ⟨w.heap.size, 5, none⟩ (.slice y.ap y.ports.length y.cp)).setCell ⟨w.heap.size, 6, none⟩ (.string y.cls)).setCell ⟨w.heap.size, 7, none⟩ (.slice y.ai y.lis.length y.ci)).setCell ⟨w.heap.size, 8, none⟩ (.slice y.aq y.pars.length y.cq)).setCell ⟨w.heap.size, 9, none⟩ (.slice y.ah y.hosts.length y.ch)).setCell ⟨w.heap.size, 10, none⟩ (.slice y.ar y.rules.length y.cr)).setCell ⟨w.heap.size, 11, none⟩ (.slice y.af y.frm.length y.cf)).setCell ⟨w.heap.size, 12, none⟩ (.slice y.ao y.tos.length y.co)) := BB2.out
  clear K2 own2 BB2 lz z0 z1 z2 z3 z4 z5 z6 z7 z8 z9 z10 z11 z12 d0 d1 d2 d3 d4 d5 d6 d7 d8 d9 d10 d11 d12
  generalize (((((((((((((w1.setCell ⟨w.heap.size, 0, none⟩ (.int .i64 y.ref.kind)).setCell ⟨w.heap.size, 1, none⟩ (.string y.ref.space)).setCell ⟨w.heap.size, 2, none⟩ (.string y.ref.name)).setCell ⟨w.heap.size, 3, none⟩ (.bool y.good)).setCell ⟨w.heap.size, 4, none⟩ (.slice y.al y.labels.length y.cl)).setCell ⟨w.heap.size, 5, none⟩ (.slice y.ap y.ports.length y.cp)).setCell ⟨w.heap.size, 6, none⟩ (.string y.cls)).setCell ⟨w.heap.size, 7, none⟩ (.slice y.ai y.lis.length y.ci)).setCell ⟨w.heap.size, 8, none⟩ (.slice y.aq y.pars.length y.cq)).setCell ⟨w.heap.size, 9, none⟩ (.slice y.ah y.hosts.length y.ch)).setCell ⟨w.heap.size, 10, none⟩ (.slice y.ar y.rules.length y.cr)).setCell ⟨w.heap.size, 11, none⟩ (.slice y.af y.frm.length y.cf)).setCell ⟨w.heap.size, 12, none⟩ (.slice y.ao y.tos.length y.co)) = V at *
  have at_ := ownq.at_
  have ok := HOK.out
  refine (refs_any y V at_ ok).mono ?_
  rintro e w2 ⟨v2, rfl, hsl, hb2⟩
  have hky : y.ref.kind = x.ref.kind := congrArg (fun o : OB => o.ref.kind) HY.out
  rw [HK.out] at hky
  have HKN : Hid (∀ r ∈ Ob.refsO y.b, Ob.Kn r ∧ (2 < r.kind → Ob.e0 r.space = false)) := fun r hr => Ob.refs_known hr
  have HASC := hide (Ob.refsO_asc y.b)
  have HNO : Hid (Ob.mayO y.b = false → (Ob.refsO y.b).length = 0) := fun h => by rw [Ob.refs_no h]; rfl
  have HCL : Hid (Ob.mayO y.b = true → y.ref.kind = 5 → (⟨1, Ob.nil, y.cls⟩ : RfB) ∈ Ob.refsO y.b) := fun h h5 => Ob.refs_class h h5
  have HOW : Hid (Ob.mayO y.b = true → y.ref.kind = 6 → (⟨2, Ob.nil, y.ref.space⟩ : RfB) ∈ Ob.refsO y.b) := fun h h6 => Ob.refs_own h h6
  have HPA : Hid (Ob.mayO y.b = true → ∀ p ∈ y.pars, (⟨5, if Ob.e0 p.space then y.ref.space else p.space, p.name⟩ : RfB) ∈ Ob.refsO y.b) := fun h p hp => Ob.refs_par h hp
  have CM := fun W (h : Below V.heap.size V W) => hide (omay_any y W (at_.below h) ok)
  have HPR := hide at_.pars
  have hPl : y.pars.length ≤ 9223372036854775807 := by
    obtain ⟨_, _, _, p1, p2, _⟩ := at_.pars
    unfold maxLen at p2
    omega
  generalize Ob.refsO y.b = L at *
  generalize Ob.mayO y.b = bm at *
  obtain ⟨ad, cap, rfl, hle1, hle2, hc⟩ := hsl
  have HC := hide hc
  have hLm : L.length ≤ 9223372036854775807 := by have h1 := hle1; have h2 := hle2; unfold maxLen at h2; omega
  have HB2 := hide (bb2 BQ hb2)
  have HKQ := hide (blk_below kq hb2)
  have HV2 := hide hb2
  obtain ⟨⟨ork, ors, orn⟩, ogd, olb, oal, ocl, opo, oap, ocp, ocs, ols, oai, oci, opa, oaq, ocq, oho, oah, och, oru, oar, ocr, ofr, oaf, ocf, oto, oao, oco⟩ := y
  dsimp only at *
  subst hky
  clear hc at_ ok ownq kq BQ hb2 HOK HY
  go_wp2_with fail
  go_loopw [5] (fun i wr => ∃ k : Nat, k ≤ L.length ∧ i = .int .i64 k ∧ MapAt w2 w2.heap.size L k wr) (fun i _ => L.length - (intOf i).toNat)
  case atStart => exact ⟨0, Nat.zero_le _, rfl, ⟨BX.refl _ _ _, alloc_new w2 _⟩⟩
  case round =>
    obtain ⟨k, hk, rfl, hM⟩ := hrel
    by_cases hlt : k < L.length
    · have hlt' : (k : Int) < (L.length : Int) := by omega
      obtain ⟨_, g1, p1, rfl, hg1, hat1⟩ := HC.out k hlt
      have HTK : Hid (L.take (k + 1) = L.take k ++ [L[k]]) := List.take_succ_eq_append_getElem hlt
      have hup := upd_ref L[k] hM.blk (take_not HASC.out hlt)
      have M2 : MapAt w2 w2.heap.size L (k + 1) (mapW wr w2.heap.size (L.take k ++ [L[k]])) := ⟨mapW_bx hM.bx _, by rw [HTK.out]; exact mapW_at hM.blk _⟩
      obtain ⟨c0, c1, c2⟩ := ER_at (show ER.At wr g1 (p1 + k * 3) L[k] from hat1.below hg1 (hM.under rfl))
      obtain ⟨f0, f1, f2⟩ := ER_at (show ER.At (mapW wr w2.heap.size (L.take k ++ [L[k]])) g1 (p1 + k * 3) L[k] from hat1.below hg1 (M2.under rfl))
      obtain ⟨kn, ksp⟩ := HKN.out L[k] (List.getElem_mem hlt)
      obtain ⟨hlo, hhi, hnm⟩ := kn
      have HM2 := hide M2
      clear HTK M2 hM hat1
      generalize L.take k ++ [L[k]] = T2 at *
      generalize L[k] = r at *
      obtain ⟨rk, rs, rn⟩ := r
      try dsimp only at *
      have t1 : decide (rk < 1) = false := decide_eq_false (by omega)
      have t2 : decide (7 < rk) = false := decide_eq_false (by omega)
      have t3 : rn.toList.isEmpty = false := by rw [e0_emp]; exact hnm
      cases t4 : rs.toList.isEmpty
      · clear hlo hhi hnm ksp
        go_wp2_with fail
        exact ⟨⟨k + 1, by omega, by go_num, HM2.out⟩, by simp [intOf]; omega⟩
      · have t5 : decide (2 < rk) = false := decide_eq_false (fun h => by
          have := ksp h
          rw [← e0_emp, t4] at this
          cases this)
        clear hlo hhi hnm ksp
        go_wp2_with fail
        exact ⟨⟨k + 1, by omega, by go_num, HM2.out⟩, by simp [intOf]; omega⟩
    · obtain rfl : k = L.length := by omega
      have hlt' : ¬ (L.length : Int) < (L.length : Int) := by omega
      have hU := hM.under rfl
      have hMB := hM.blk
      rw [List.take_length] at hMB
      have kq := blk_below HKQ.out hU
      have BQ := bb2 HB2.out hU
      have CM1 := hide (CM wr (bb2 HV2.out hU)).out
      have HV1 := hide (bb2 HV2.out hU)
      obtain ⟨o0, o1, o2, o3, o4, o5, o6, o7, o8, o9, o10, o11, o12⟩ : _ ∧ _ ∧ _ ∧ _ ∧ _ ∧ _ ∧ _ ∧ _ ∧ _ ∧ _ ∧ _ ∧ _ ∧ _ := ⟨cellN kq (i := 0) rfl, cellN kq (i := 1) rfl, cellN kq (i := 2) rfl, cellN kq (i := 3) rfl, cellN kq (i := 4) rfl, cellN kq (i := 5) rfl, cellN kq (i := 6) rfl, cellN kq (i := 7) rfl, cellN kq (i := 8) rfl, cellN kq (i := 9) rfl, cellN kq (i := 10) rfl, cellN kq (i := 11) rfl, cellN kq (i := 12) rfl⟩
      have HKQ1 := hide kq
      have HB1 := hide BQ
      have HMB := hide hMB
      generalize w2.heap.size = m at *
      clear hM hU CM HC HKN kq BQ hMB HKQ HB2 HASC
      cases bm
      · have hL0 := HNO.out rfl
        have t0 : ((L.length : Int) == 0) = true := by rw [hL0]; rfl
        clear hL0
        go_wp2_with fail
        refine CM1.out.mono ?_
        rintro e w5 ⟨rfl, hb5⟩
        clear o0 o1 o2 o3 o4 o5 o6 o7 o8 o9 o10 o11 o12
        go_wp2_with fail
        refine (oawake_any _).mono ?_
        rintro e w6 ⟨rfl, hb6⟩
        go_wp2_with fail
        go_ret
        exact ⟨rfl, bb2 HB1.out (bb2 hb5 hb6)⟩
      · have HCL1 := hide (HCL.out rfl)
        have HOW1 := hide (HOW.out rfl)
        have HPA1 := hide (HPA.out rfl)
        clear HCL HOW HPA HNO
        go_wp2_with fail
        refine CM1.out.mono ?_
        rintro e w5 ⟨rfl, hb5⟩
        have kq := blk_below HKQ1.out hb5
        have hMB := blk_below HMB.out hb5
        have HKQ5 := hide kq
        have HMB5 := hide hMB
        have HB5 := hide (bb2 HB1.out hb5)
        have HV5 := hide (bb2 HV1.out hb5)
        clear o0 o1 o2 o3 o4 o5 o6 o7 o8 o9 o10 o11 o12 CM1 HKQ1 HMB HB1 HV2 HV1
        obtain ⟨o0, o1, o2, o3, o4, o5, o6, o7, o8, o9, o10, o11, o12⟩ : _ ∧ _ ∧ _ ∧ _ ∧ _ ∧ _ ∧ _ ∧ _ ∧ _ ∧ _ ∧ _ ∧ _ ∧ _ := ⟨cellN kq (i := 0) rfl, cellN kq (i := 1) rfl, cellN kq (i := 2) rfl, cellN kq (i := 3) rfl, cellN kq (i := 4) rfl, cellN kq (i := 5) rfl, cellN kq (i := 6) rfl, cellN kq (i := 7) rfl, cellN kq (i := 8) rfl, cellN kq (i := 9) rfl, cellN kq (i := 10) rfl, cellN kq (i := 11) rfl, cellN kq (i := 12) rfl⟩
        have LK := look_ref ⟨1, Ob.nil, ocs⟩ hMB (by first | exact HCL1.out rfl | exact HCL1.out trivial | exact HCL1.out)
        try dsimp only at LK
        clear kq hMB hb5
        go_wp2_with fail
        clear o0 o1 o2 o3 o4 o5 o6 o7 o8 o9 o10 o11 o12
        go_loopw [6] (fun i wr => ∃ k : Nat, k ≤ opa.length ∧ i = .int .i64 k ∧ Below w5.heap.size w5 wr) (fun i _ => opa.length - (intOf i).toNat)
        case atStart => exact ⟨0, Nat.zero_le _, rfl, Below.refl _ _⟩
        case round =>
          obtain ⟨k, hk, rfl, hB⟩ := hrel
          have kq := blk_below HKQ5.out hB
          have hMB := blk_below HMB5.out hB
          have o8 := cellN kq (i := 8) rfl
          by_cases hlt : k < opa.length
          · have hlt' : (k : Int) < (opa.length : Int) := by omega
            obtain ⟨_, g, off, rfl, hg, q0, q1, q2, q3⟩ := onePt HPR.out (bb2 HV5.out hB) hlt
            have hmem := HPA1.out opa[k] (List.getElem_mem hlt)
            have hwk : w.heap.size < wr.heap.size := lt_blk kq
            have hgk : g < wr.heap.size := by have := HV5.out.size; have := hB.size; omega
            generalize opa[k] = p at *
            obtain ⟨ps, pn, pe, pp⟩ := p
            dsimp only at *
            have HBw := hide (bb2 HB5.out hB)
            have HB55 := hide hB
            have n1 : ∀ W, Below wr.heap.size wr W → W.cell? ⟨w.heap.size, 8, none⟩ = some (.slice (some ⟨g, off, none⟩) opa.length ocq) := fun W hW => (hW.cell (p := ⟨w.heap.size, 8, none⟩) hwk).trans o8
            have n2 : ∀ W, Below wr.heap.size wr W → W.cell? ⟨g, off + k * 4, none⟩ = some (.string ps) := fun W hW => (hW.cell (p := ⟨g, off + k * 4, none⟩) hgk).trans q0
            have n3 : ∀ W, Below wr.heap.size wr W → W.cell? ⟨g, off + k * 4 + 1, none⟩ = some (.string pn) := fun W hW => (hW.cell (p := ⟨g, off + k * 4 + 1, none⟩) hgk).trans q1
            have HKW := hide kq
            have HMW := hide hMB
            clear kq hMB q0 q1 q2 q3 hB
            go_wp2_with fail
            clear o8
            refine wp_region_G 14 (fun W => Below wr.heap.size wr W) (by kernel_rfl) ((Below.refl _ _).drew) ?_
            refine wpG_take (i := 0) 6 (v := .pointer (some ⟨w.heap.size, 8, none⟩)) rfl (by kernel_rfl) (by kernel_rfl) (by kernel_rfl) (by decide) (by kernel_rfl) (by kernel_rfl) (fun _ _ _ h => h) (Or.inl ⟨by rfl, fun w1 hS => ?_⟩) ?_
            · (try dsimp only at hS)
              go_simp
            simp only [Act.put, List.setIfInBounds_toArray, List.set_cons_zero, List.set_cons_succ]
            refine wpG_take (i := 1) 6 (v := .slice (some ⟨g, off, none⟩) opa.length ocq) rfl (by kernel_rfl) (by kernel_rfl) (by kernel_rfl) (by decide) (by kernel_rfl) (by kernel_rfl) (fun _ _ _ h => h) (Or.inl ⟨by rfl, fun w1 hS => ?_⟩) ?_
            · (try dsimp only at hS)
              go_simp
            simp only [Act.put, List.setIfInBounds_toArray, List.set_cons_zero, List.set_cons_succ]
            refine wpG_take (i := 2) 6 (v := .int .i64 k) rfl (by kernel_rfl) (by kernel_rfl) (by kernel_rfl) (by decide) (by kernel_rfl) (by kernel_rfl) (fun _ _ _ h => h) (Or.inl ⟨by rfl, fun w1 hS => ?_⟩) ?_
            · (try dsimp only at hS)
              go_simp
            simp only [Act.put, List.setIfInBounds_toArray, List.set_cons_zero, List.set_cons_succ]
            refine wpG_take (i := 3) 6 (v := .pointer (some ⟨g, off + k * 4, none⟩)) rfl (by kernel_rfl) (by kernel_rfl) (by kernel_rfl) (by decide) (by kernel_rfl) (by kernel_rfl) (fun _ _ _ h => h) (Or.inl ⟨by rfl, fun w1 hS => ?_⟩) ?_
            · (try dsimp only at hS)
              go_simp
            simp only [Act.put, List.setIfInBounds_toArray, List.set_cons_zero, List.set_cons_succ]
            refine wpG_take (i := 4) 6 (v := .pointer (some ⟨g, off + k * 4, none⟩)) rfl (by kernel_rfl) (by kernel_rfl) (by kernel_rfl) (by decide) (by kernel_rfl) (by kernel_rfl) (fun _ _ _ h => h) (Or.inl ⟨by rfl, fun w1 hS => ?_⟩) ?_
            · (try dsimp only at hS)
              go_simp
            simp only [Act.put, List.setIfInBounds_toArray, List.set_cons_zero, List.set_cons_succ]
            refine wpG_take (i := 5) 6 (v := .string ps) rfl (by kernel_rfl) (by kernel_rfl) (by kernel_rfl) (by decide) (by kernel_rfl) (by kernel_rfl) (fun _ _ _ h => h) (Or.inl ⟨by rfl, fun w1 hS => ?_⟩) ?_
            · (try dsimp only at hS)
              go_simp
            simp only [Act.put, List.setIfInBounds_toArray, List.set_cons_zero, List.set_cons_succ]
            refine wpG_take (i := 6) 6 (v := .pointer (some ⟨w.heap.size, 8, none⟩)) rfl (by kernel_rfl) (by kernel_rfl) (by kernel_rfl) (by decide) (by kernel_rfl) (by kernel_rfl) (fun _ _ _ h => h) (Or.inl ⟨by rfl, fun w1 hS => ?_⟩) ?_
            · (try dsimp only at hS)
              go_simp
            simp only [Act.put, List.setIfInBounds_toArray, List.set_cons_zero, List.set_cons_succ]
            refine wpG_take (i := 7) 6 (v := .slice (some ⟨g, off, none⟩) opa.length ocq) rfl (by kernel_rfl) (by kernel_rfl) (by kernel_rfl) (by decide) (by kernel_rfl) (by kernel_rfl) (fun _ _ _ h => h) (Or.inl ⟨by rfl, fun w1 hS => ?_⟩) ?_
            · (try dsimp only at hS)
              go_simp
            simp only [Act.put, List.setIfInBounds_toArray, List.set_cons_zero, List.set_cons_succ]
            refine wpG_take (i := 8) 6 (v := .int .i64 k) rfl (by kernel_rfl) (by kernel_rfl) (by kernel_rfl) (by decide) (by kernel_rfl) (by kernel_rfl) (fun _ _ _ h => h) (Or.inl ⟨by rfl, fun w1 hS => ?_⟩) ?_
            · (try dsimp only at hS)
              go_simp
            simp only [Act.put, List.setIfInBounds_toArray, List.set_cons_zero, List.set_cons_succ]
            refine wpG_take (i := 9) 6 (v := .pointer (some ⟨g, off + k * 4, none⟩)) rfl (by kernel_rfl) (by kernel_rfl) (by kernel_rfl) (by decide) (by kernel_rfl) (by kernel_rfl) (fun _ _ _ h => h) (Or.inl ⟨by rfl, fun w1 hS => ?_⟩) ?_
            · (try dsimp only at hS)
              go_simp
            simp only [Act.put, List.setIfInBounds_toArray, List.set_cons_zero, List.set_cons_succ]
            refine wpG_take (i := 10) 6 (v := .pointer (some ⟨g, off + k * 4 + 1, none⟩)) rfl (by kernel_rfl) (by kernel_rfl) (by kernel_rfl) (by decide) (by kernel_rfl) (by kernel_rfl) (fun _ _ _ h => h) (Or.inl ⟨by rfl, fun w1 hS => ?_⟩) ?_
            · (try dsimp only at hS)
              go_simp
            simp only [Act.put, List.setIfInBounds_toArray, List.set_cons_zero, List.set_cons_succ]
            refine wpG_take (i := 11) 6 (v := .string pn) rfl (by kernel_rfl) (by kernel_rfl) (by kernel_rfl) (by decide) (by kernel_rfl) (by kernel_rfl) (fun _ _ _ h => h) (Or.inl ⟨by rfl, fun w1 hS => ?_⟩) ?_
            · (try dsimp only at hS)
              go_simp
            simp only [Act.put, List.setIfInBounds_toArray, List.set_cons_zero, List.set_cons_succ]
            refine wpG_take (i := 12) 6 (v := .agg #[.int .i64 5, .string ps, .string pn]) rfl (by kernel_rfl) (by kernel_rfl) (by kernel_rfl) (by decide) (by kernel_rfl) (by kernel_rfl) (fun _ _ _ h => h) (Or.inl ⟨by rfl, fun w1 hS => ?_⟩) ?_
            · (try dsimp only at hS)
              go_simp
            simp only [Act.put, List.setIfInBounds_toArray, List.set_cons_zero, List.set_cons_succ]
            clear n1 n2 n3
            refine wpG_ready (rs := [13]) (by kernel_rfl) (by simp) (fun wd hGd hSd i hi => ?_)
            obtain rfl : i = 13 := by simpa using hi
            clear hi
            refine wpOp_step rfl (by rfl) (fun K' hK' => ?_)
            replace hK' := hide hK'
            go_simp
            refine hK'.out _ _ (wpG_kept (by decide) (hSd.alloc hSd.size _) ?_)
            clear hK' K'
            refine wpG_ready (rs := [14]) (by kernel_rfl) (by simp) (fun wf hGf hSf i hi => ?_)
            obtain rfl : i = 14 := by simpa using hi
            clear hi
            have hz := box_block hGf
            have hgB : wr.heap.size ≤ wd.heap.size := hSd.size
            have lz := liveN hz
            obtain ⟨z0, z1, z2⟩ : _ ∧ _ ∧ _ := ⟨cellN hz (i := 0) rfl, cellN hz (i := 1) rfl, cellN hz (i := 2) rfl⟩
            have HZ := hide hz
            have HSf := hide hSf
            refine wpOp_step rfl (by rfl) (fun K' hK' => ?_)
            go_simp
            refine hK' _ _ (wpG_past (by decide) ?_)
            clear hK' K' lz z0 z1 z2 hz hGd hGf hSd hSf
            refine wpAny_end (by kernel_rfl) ?_
            change Exit.then _ _ _ _ (setL wf wd.heap.size 0 [.int .i64 5, .string ps, .string pn])
            have KB := setL_all [.int .i64 5, .string ps, .string pn] HZ.out rfl
            have SB := setL_below (w := wr) (B := wr.heap.size) hgB [.int .i64 5, .string ps, .string pn] wf 0 HSf.out
            generalize setL wf wd.heap.size 0 [.int .i64 5, .string ps, .string pn] = V2 at *
            generalize wd.heap.size = gb at *
            have l2 := liveN KB
            obtain ⟨z0, z1, z2⟩ : _ ∧ _ ∧ _ := ⟨cellN KB (i := 0) rfl, cellN KB (i := 1) rfl, cellN KB (i := 2) rfl⟩
            have o1 := cellN (blk_below HKW.out SB) (i := 1) rfl
            have hMV := blk_below HMW.out SB
            cases hem : ps.toList.isEmpty
            · rw [← e0_emp, hem] at hmem
              simp only [Bool.false_eq_true, if_false] at hmem
              have LK := look_ref ⟨5, ps, pn⟩ hMV hmem
              try dsimp only at LK
              have HR := hide (HB55.out.trans (SB.mono HB55.out.size))
              clear HZ HSf KB SB hMV hmem
              go_wp2_with fail
              exact ⟨⟨k + 1, by omega, by go_num, HR.out⟩, by simp [intOf]; omega⟩
            · rw [← e0_emp, hem] at hmem
              simp only [if_true] at hmem
              have K3 := set_blk (i := 1) (.string ors) KB
              have S3 : Below wr.heap.size wr (V2.setCell ⟨gb, 1, none⟩ (.string ors)) := setL_below (w := wr) (B := wr.heap.size) (g := gb) hgB [.string ors] V2 1 SB
              have hM3 : (V2.setCell ⟨gb, 1, none⟩ (.string ors)).heap[m]? = _ := blk_below HMW.out S3
              have LK := look_ref ⟨5, ors, pn⟩ hM3 hmem
              try dsimp only at LK
              obtain ⟨y0, y1, y2⟩ : _ ∧ _ ∧ _ := ⟨cellN K3 (i := 0) rfl, cellN K3 (i := 1) rfl, cellN K3 (i := 2) rfl⟩
              have HR := hide (HB55.out.trans (S3.mono HB55.out.size))
              clear HZ HSf KB SB hMV hmem K3 S3 hM3
              go_wp2_with fail
              exact ⟨⟨k + 1, by omega, by go_num, HR.out⟩, by simp [intOf]; omega⟩
          · have hlt' : ¬ (k : Int) < (opa.length : Int) := by omega
            have HBw := hide (bb2 HB5.out hB)
            clear kq hMB hB
            go_wp2_with fail
            refine (oawake_any _).mono ?_
            rintro e w8 ⟨rfl, hb8⟩
            go_wp2_with fail
            go_ret
            exact ⟨rfl, bb2 HBw.out hb8⟩

set_option linter.unusedVariables false in
set_option maxHeartbeats 12800000 in
theorem known_six (x : OV) (w : World) (hx : x.at_ w) (raw : RawO x) (hk : x.ref.kind = 6) :
    Calls Tryz.prog 8 #[oV x] w fun e w' => e = .returned (.bool true) ∧ Below w.heap.size w w' := by
  have hmm := @run_makeMap Tryz.prog
  have HK := hide hk
  clear hk
  have CF := fun W (h : Below w.heap.size w W) => hide (fewO_any x W (hx.below h) raw)
  have B1 : Below w.heap.size w (w.alloc (.cells #[.int .i64 x.ref.kind, .string x.ref.space, .string x.ref.name, .bool x.good, .slice x.al x.labels.length x.cl, .slice x.ap x.ports.length x.cp, .string x.cls, .slice x.ai x.lis.length x.ci, .slice x.aq x.pars.length x.cq, .slice x.ah x.hosts.length x.ch, .slice x.ar x.rules.length x.cr, .slice x.af x.frm.length x.cf, .slice x.ao x.tos.length x.co] 55)) := (Below.refl _ _).alloc (Nat.le_refl _) _
  clear hx raw
  go_enter Tryz.func8, Tryz.ntmps8
  go_wp2_with fail
  refine (CF _ B1).out.mono ?_
  rintro e w1 ⟨y, rfl, hy, hown, hb1⟩
  have hz : w1.heap[w.heap.size]? = some (.cells #[.int .i64 x.ref.kind, .string x.ref.space, .string x.ref.name, .bool x.good, .slice x.al x.labels.length x.cl, .slice x.ap x.ports.length x.cp, .string x.cls, .slice x.ai x.lis.length x.ci, .slice x.aq x.pars.length x.cq, .slice x.ah x.hosts.length x.ch, .slice x.ar x.rules.length x.cr, .slice x.af x.frm.length x.cf, .slice x.ao x.tos.length x.co] 55) := box_block hb1
  have BB := bb2 B1 hb1
  have lz := liveN hz
  obtain ⟨z0, z1, z2, z3, z4, z5, z6, z7, z8, z9, z10, z11, z12⟩ : _ ∧ _ ∧ _ ∧ _ ∧ _ ∧ _ ∧ _ ∧ _ ∧ _ ∧ _ ∧ _ ∧ _ ∧ _ := ⟨cellN hz (i := 0) rfl, cellN hz (i := 1) rfl, cellN hz (i := 2) rfl, cellN hz (i := 3) rfl, cellN hz (i := 4) rfl, cellN hz (i := 5) rfl, cellN hz (i := 6) rfl, cellN hz (i := 7) rfl, cellN hz (i := 8) rfl, cellN hz (i := 9) rfl, cellN hz (i := 10) rfl, cellN hz (i := 11) rfl, cellN hz (i := 12) rfl⟩
  have K2 := hide (show ((((((((((((((w1.setCell ⟨w.heap.size, 0, none⟩ (.int .i64 y.ref.kind)).setCell ⟨w.heap.size, 1, none⟩ (.string y.ref.space)).setCell ⟨w.heap.size, 2, none⟩ (.string y.ref.name)).setCell ⟨w.heap.size, 3, none⟩ (.bool y.good)).setCell ⟨w.heap.size, 4, none⟩ (.slice y.al y.labels.length y.cl)).setCell ⟨w.heap.size, 5, none⟩ (.slice y.ap y.ports.length y.cp)).setCell ⟨w.heap.size, 6, none⟩ (.string y.cls)).setCell ⟨w.heap.size, 7, none⟩ (.slice y.ai y.lis.length y.ci)).setCell ⟨w.heap.size, 8, none⟩ (.slice y.aq y.pars.length y.cq)).setCell ⟨w.heap.size, 9, none⟩ (.slice y.ah y.hosts.length y.ch)).setCell ⟨w.heap.size, 10, none⟩ (.slice y.ar y.rules.length y.cr)).setCell ⟨w.heap.size, 11, none⟩ (.slice y.af y.frm.length y.cf)).setCell ⟨w.heap.size, 12, none⟩ (.slice y.ao y.tos.length y.co))).heap[w.heap.size]? = some (.cells #[.int .i64 y.ref.kind, .string y.ref.space, .string y.ref.name, .bool y.good, .slice y.al y.labels.length y.cl, .slice y.ap y.ports.length y.cp, .string y.cls, .slice y.ai y.lis.length y.ci, .slice y.aq y.pars.length y.cq, .slice y.ah y.hosts.length y.ch, .slice y.ar y.rules.length y.cr, .slice y.af y.frm.length y.cf, .slice y.ao y.tos.length y.co] 55) from setL_all [.int .i64 y.ref.kind, .string y.ref.space, .string y.ref.name, .bool y.good, .slice y.al y.labels.length y.cl, .slice y.ap y.ports.length y.cp, .string y.cls, .slice y.ai y.lis.length y.ci, .slice y.aq y.pars.length y.cq, .slice y.ah y.hosts.length y.ch, .slice y.ar y.rules.length y.cr, .slice y.af y.frm.length y.cf, .slice y.ao y.tos.length y.co] hz rfl)
  have own2 := hide (show OV.own y (((((((((((((w1.setCell ⟨w.heap.size, 0, none⟩ (.int .i64 y.ref.kind)).setCell ⟨w.heap.size, 1, none⟩ (.string y.ref.space)).setCell ⟨w.heap.size, 2, none⟩ (.string y.ref.name)).setCell ⟨w.heap.size, 3, none⟩ (.bool y.good)).setCell ⟨w.heap.size, 4, none⟩ (.slice y.al y.labels.length y.cl)).setCell ⟨w.heap.size, 5, none⟩ (.slice y.ap y.ports.length y.cp)).setCell ⟨w.heap.size, 6, none⟩ (.string y.cls)).setCell ⟨w.heap.size, 7, none⟩ (.slice y.ai y.lis.length y.ci)).setCell ⟨w.heap.size, 8, none⟩ (.slice y.aq y.pars.length y.cq)).setCell ⟨w.heap.size, 9, none⟩ (.slice y.ah y.hosts.length y.ch)).setCell ⟨w.heap.size, 10, none⟩ (.slice y.ar y.rules.length y.cr)).setCell ⟨w.heap.size, 11, none⟩ (.slice y.af y.frm.length y.cf)).setCell ⟨w.heap.size, 12, none⟩ (.slice y.ao y.tos.length y.co)) from hown.bx ((BX.refl w.heap.size w1.heap.size w1).setL 0 [.int .i64 y.ref.kind, .string y.ref.space, .string y.ref.name, .bool y.good, .slice y.al y.labels.length y.cl, .slice y.ap y.ports.length y.cp, .string y.cls, .slice y.ai y.lis.length y.ci, .slice y.aq y.pars.length y.cq, .slice y.ah y.hosts.length y.ch, .slice y.ar y.rules.length y.cr, .slice y.af y.frm.length y.cf, .slice y.ao y.tos.length y.co]) hz)
  have BB2 := hide (show Below w.heap.size w (((((((((((((w1.setCell ⟨w.heap.size, 0, none⟩ (.int .i64 y.ref.kind)).setCell ⟨w.heap.size, 1, none⟩ (.string y.ref.space)).setCell ⟨w.heap.size, 2, none⟩ (.string y.ref.name)).setCell ⟨w.heap.size, 3, none⟩ (.bool y.good)).setCell ⟨w.heap.size, 4, none⟩ (.slice y.al y.labels.length y.cl)).setCell ⟨w.heap.size, 5, none⟩ (.slice y.ap y.ports.length y.cp)).setCell ⟨w.heap.size, 6, none⟩ (.string y.cls)).setCell ⟨w.heap.size, 7, none⟩ (.slice y.ai y.lis.length y.ci)).setCell ⟨w.heap.size, 8, none⟩ (.slice y.aq y.pars.length y.cq)).setCell ⟨w.heap.size, 9, none⟩ (.slice y.ah y.hosts.length y.ch)).setCell ⟨w.heap.size, 10, none⟩ (.slice y.ar y.rules.length y.cr)).setCell ⟨w.heap.size, 11, none⟩ (.slice y.af y.frm.length y.cf)).setCell ⟨w.heap.size, 12, none⟩ (.slice y.ao y.tos.length y.co)) from setL_below (w := w) (B := w.heap.size) (g := w.heap.size) (Nat.le_refl _) [.int .i64 y.ref.kind, .string y.ref.space, .string y.ref.name, .bool y.good, .slice y.al y.labels.length y.cl, .slice y.ap y.ports.length y.cp, .string y.cls, .slice y.ai y.lis.length y.ci, .slice y.aq y.pars.length y.cq, .slice y.ah y.hosts.length y.ch, .slice y.ar y.rules.length y.cr, .slice y.af y.frm.length y.cf, .slice y.ao y.tos.length y.co] _ 0 BB)
  obtain ⟨d0, d1, d2, d3, d4, d5, d6, d7, d8, d9, d10, d11, d12⟩ : _ ∧ _ ∧ _ ∧ _ ∧ _ ∧ _ ∧ _ ∧ _ ∧ _ ∧ _ ∧ _ ∧ _ ∧ _ := ⟨cellN K2.out (i := 0) rfl, cellN K2.out (i := 1) rfl, cellN K2.out (i := 2) rfl, cellN K2.out (i := 3) rfl, cellN K2.out (i := 4) rfl, cellN K2.out (i := 5) rfl, cellN K2.out (i := 6) rfl, cellN K2.out (i := 7) rfl, cellN K2.out (i := 8) rfl, cellN K2.out (i := 9) rfl, cellN K2.out (i := 10) rfl, cellN K2.out (i := 11) rfl, cellN K2.out (i := 12) rfl⟩
  have ok := fewO_ok hy
  have HOK := hide ok
  have HY := hide hy
  clear hz hown BB B1 hb1 CF hy ok
  go_wp2_with fail
  have kq : ((((((((((((((w1.setCell ⟨w.heap.size, 0, none⟩ (.int .i64 y.ref.kind)).setCell ⟨w.heap.size, 1, none⟩ (.string y.ref.space)).setCell ⟨w.heap.size, 2, none⟩ (.string y.ref.name)).setCell ⟨w.heap.size, 3, none⟩ (.bool y.good)).setCell ⟨w.heap.size, 4, none⟩ (.slice y.al y.labels.length y.cl)).setCell ⟨w.heap.size, 5, none⟩ (.slice y.ap y.ports.length y.cp)).setCell ⟨w.heap.size, 6, none⟩ (.string y.cls)).setCell ⟨w.heap.size, 7, none⟩ (.slice y.ai y.lis.length y.ci)).setCell ⟨w.heap.size, 8, none⟩ (.slice y.aq y.pars.length y.cq)).setCell ⟨w.heap.size, 9, none⟩ (.slice y.ah y.hosts.length y.ch)).setCell ⟨w.heap.size, 10, none⟩ (.slice y.ar y.rules.length y.cr)).setCell ⟨w.heap.size, 11, none⟩ (.slice y.af y.frm.length y.cf)).setCell ⟨w.heap.size, 12, none⟩ (.slice y.ao y.tos.length y.co))).heap[w.heap.size]? = some (.cells #[.int .i64 y.ref.kind, .string y.ref.space, .string y.ref.name, .bool y.good, .slice y.al y.labels.length y.cl, .slice y.ap y.ports.length y.cp, .string y.cls, .slice y.ai y.lis.length y.ci, .slice y.aq y.pars.length y.cq, .slice y.ah y.hosts.length y.ch, .slice y.ar y.rules.length y.cr, .slice y.af y.frm.length y.cf, .slice y.ao y.tos.length y.co] 55) := K2.out
  have ownq : OV.own y (((((((((((((w1.setCell ⟨w.heap.size, 0, none⟩ (.int .i64 y.ref.kind)).setCell ⟨w.heap.size, 1, none⟩ (.string y.ref.space)).setCell ⟨w.heap.size, 2, none⟩ (.string y.ref.name)).setCell ⟨w.heap.size, 3, none⟩ (.bool y.good)).setCell ⟨w.heap.size, 4, none⟩ (.slice y.al y.labels.length y.cl)).setCell ⟨w.heap.size, 5, none⟩ (.slice y.ap y.ports.length y.cp)).setCell ⟨w.heap.size, 6, none⟩ (.string y.cls)).setCell ⟨w.heap.size, 7, none⟩ (.slice y.ai y.lis.length y.ci)).setCell ⟨w.heap.size, 8, none⟩ (.slice y.aq y.pars.length y.cq)).setCell ⟨w.heap.size, 9, none⟩ (.slice y.ah y.hosts.length y.ch)).setCell ⟨w.heap.size, 10, none⟩ (.slice y.ar y.rules.length y.cr)).setCell ⟨w.heap.size, 11, none⟩ (.slice y.af y.frm.length y.cf)).setCell ⟨w.heap.size, 12, none⟩ (.slice y.ao y.tos.length y.co)) := own2.out
  have BQ : Below w.heap.size w (((((((((((((w1.setCell ⟨w.heap.size, 0, none⟩ (.int .i64 y.ref.kind)).setCell ⟨w.heap.size, 1, none⟩ (.string y.ref.space)).setCell ⟨w.heap.size, 2, none⟩ (.string y.ref.name)).setCell ⟨w.heap.size, 3, none⟩ (.bool y.good)).setCell ⟨w.heap.size, 4, none⟩ (.slice y.al y.labels.length y.cl)).setCell ⟨w.heap.size, 5, none⟩ (.slice y.ap y.ports.length y.cp)).setCell ⟨w.heap.size, 6, none⟩ (.string y.cls)).setCell ⟨w.heap.size, 7, none⟩ (.slice y.ai y.lis.length y.ci)).setCell ⟨w.heap.size, 8, none⟩ (.slice y.aq y.pars.length y.cq)).setCell ⟨w.heap.size, 9, none⟩ (.slice y.ah y.hosts.length y.ch)).setCell ⟨w.heap.size, 10, none⟩ (.slice y.ar y.rules.length y.cr)).setCell ⟨w.heap.size, 11, none⟩ (.slice y.af y.frm.length y.cf)).setCell ⟨w.heap.size, 12, none⟩ (.slice y.ao y.tos.length y.co)) := BB2.out
  clear K2 own2 BB2 lz z0 z1 z2 z3 z4 z5 z6 z7 z8 z9 z10 z11 z12 d0 d1 d2 d3 d4 d5 d6 d7 d8 d9 d10 d11 d12
  generalize (((((((((((((w1.setCell ⟨w.heap.size, 0, none⟩ (.int .i64 y.ref.kind)).setCell ⟨w.heap.size, 1, none⟩ (.string y.ref.space)).setCell ⟨w.heap.size, 2, none⟩ (.string y.ref.name)).setCell ⟨w.heap.size, 3, none⟩ (.bool y.good)).setCell ⟨w.heap.size, 4, none⟩ (.slice y.al y.labels.length y.cl)).setCell ⟨w.heap.size, 5, none⟩ (.slice y.ap y.ports.length y.cp)).setCell ⟨w.heap.size, 6, none⟩ (.string y.cls)).setCell ⟨w.heap.size, 7, none⟩ (.slice y.ai y.lis.length y.ci)).setCell ⟨w.heap.size, 8, none⟩ (.slice y.aq y.pars.length y.cq)).setCell ⟨w.heap.size, 9, none⟩ (.slice y.ah y.hosts.length y.ch)).setCell ⟨w.heap.size, 10, none⟩ (.slice y.ar y.rules.length y.cr)).setCell ⟨w.heap.size, 11, none⟩ (.slice y.af y.frm.length y.cf)).setCell ⟨w.heap.size, 12, none⟩ (.slice y.ao y.tos.length y.co)) = V at *
  have at_ := ownq.at_
  have ok := HOK.out
  refine (refs_any y V at_ ok).mono ?_
  rintro e w2 ⟨v2, rfl, hsl, hb2⟩
  have hky : y.ref.kind = x.ref.kind := congrArg (fun o : OB => o.ref.kind) HY.out
  rw [HK.out] at hky
  have HKN : Hid (∀ r ∈ Ob.refsO y.b, Ob.Kn r ∧ (2 < r.kind → Ob.e0 r.space = false)) := fun r hr => Ob.refs_known hr
  have HASC := hide (Ob.refsO_asc y.b)
  have HNO : Hid (Ob.mayO y.b = false → (Ob.refsO y.b).length = 0) := fun h => by rw [Ob.refs_no h]; rfl
  have HCL : Hid (Ob.mayO y.b = true → y.ref.kind = 5 → (⟨1, Ob.nil, y.cls⟩ : RfB) ∈ Ob.refsO y.b) := fun h h5 => Ob.refs_class h h5
  have HOW : Hid (Ob.mayO y.b = true → y.ref.kind = 6 → (⟨2, Ob.nil, y.ref.space⟩ : RfB) ∈ Ob.refsO y.b) := fun h h6 => Ob.refs_own h h6
  have HPA : Hid (Ob.mayO y.b = true → ∀ p ∈ y.pars, (⟨5, if Ob.e0 p.space then y.ref.space else p.space, p.name⟩ : RfB) ∈ Ob.refsO y.b) := fun h p hp => Ob.refs_par h hp
  have CM := fun W (h : Below V.heap.size V W) => hide (omay_any y W (at_.below h) ok)
  have HPR := hide at_.pars
  have hPl : y.pars.length ≤ 9223372036854775807 := by
    obtain ⟨_, _, _, p1, p2, _⟩ := at_.pars
    unfold maxLen at p2
    omega
  generalize Ob.refsO y.b = L at *
  generalize Ob.mayO y.b = bm at *
  obtain ⟨ad, cap, rfl, hle1, hle2, hc⟩ := hsl
  have HC := hide hc
  have hLm : L.length ≤ 9223372036854775807 := by have h1 := hle1; have h2 := hle2; unfold maxLen at h2; omega
  have HB2 := hide (bb2 BQ hb2)
  have HKQ := hide (blk_below kq hb2)
  have HV2 := hide hb2
  obtain ⟨⟨ork, ors, orn⟩, ogd, olb, oal, ocl, opo, oap, ocp, ocs, ols, oai, oci, opa, oaq, ocq, oho, oah, och, oru, oar, ocr, ofr, oaf, ocf, oto, oao, oco⟩ := y
  dsimp only at *
  subst hky
  clear hc at_ ok ownq kq BQ hb2 HOK HY
  go_wp2_with fail
  go_loopw [5] (fun i wr => ∃ k : Nat, k ≤ L.length ∧ i = .int .i64 k ∧ MapAt w2 w2.heap.size L k wr) (fun i _ => L.length - (intOf i).toNat)
  case atStart => exact ⟨0, Nat.zero_le _, rfl, ⟨BX.refl _ _ _, alloc_new w2 _⟩⟩
  case round =>
    obtain ⟨k, hk, rfl, hM⟩ := hrel
    by_cases hlt : k < L.length
    · have hlt' : (k : Int) < (L.length : Int) := by omega
      obtain ⟨_, g1, p1, rfl, hg1, hat1⟩ := HC.out k hlt
      have HTK : Hid (L.take (k + 1) = L.take k ++ [L[k]]) := List.take_succ_eq_append_getElem hlt
      have hup := upd_ref L[k] hM.blk (take_not HASC.out hlt)
      have M2 : MapAt w2 w2.heap.size L (k + 1) (mapW wr w2.heap.size (L.take k ++ [L[k]])) := ⟨mapW_bx hM.bx _, by rw [HTK.out]; exact mapW_at hM.blk _⟩
      obtain ⟨c0, c1, c2⟩ := ER_at (show ER.At wr g1 (p1 + k * 3) L[k] from hat1.below hg1 (hM.under rfl))
      obtain ⟨f0, f1, f2⟩ := ER_at (show ER.At (mapW wr w2.heap.size (L.take k ++ [L[k]])) g1 (p1 + k * 3) L[k] from hat1.below hg1 (M2.under rfl))
      obtain ⟨kn, ksp⟩ := HKN.out L[k] (List.getElem_mem hlt)
      obtain ⟨hlo, hhi, hnm⟩ := kn
      have HM2 := hide M2
      clear HTK M2 hM hat1
      generalize L.take k ++ [L[k]] = T2 at *
      generalize L[k] = r at *
      obtain ⟨rk, rs, rn⟩ := r
      try dsimp only at *
      have t1 : decide (rk < 1) = false := decide_eq_false (by omega)
      have t2 : decide (7 < rk) = false := decide_eq_false (by omega)
      have t3 : rn.toList.isEmpty = false := by rw [e0_emp]; exact hnm
      cases t4 : rs.toList.isEmpty
      · clear hlo hhi hnm ksp
        go_wp2_with fail
        exact ⟨⟨k + 1, by omega, by go_num, HM2.out⟩, by simp [intOf]; omega⟩
      · have t5 : decide (2 < rk) = false := decide_eq_false (fun h => by
          have := ksp h
          rw [← e0_emp, t4] at this
          cases this)
        clear hlo hhi hnm ksp
        go_wp2_with fail
        exact ⟨⟨k + 1, by omega, by go_num, HM2.out⟩, by simp [intOf]; omega⟩
    · obtain rfl : k = L.length := by omega
      have hlt' : ¬ (L.length : Int) < (L.length : Int) := by omega
      have hU := hM.under rfl
      have hMB := hM.blk
      rw [List.take_length] at hMB
      have kq := blk_below HKQ.out hU
      have BQ := bb2 HB2.out hU
      have CM1 := hide (CM wr (bb2 HV2.out hU)).out
      have HV1 := hide (bb2 HV2.out hU)
      obtain ⟨o0, o1, o2, o3, o4, o5, o6, o7, o8, o9, o10, o11, o12⟩ : _ ∧ _ ∧ _ ∧ _ ∧ _ ∧ _ ∧ _ ∧ _ ∧ _ ∧ _ ∧ _ ∧ _ ∧ _ := ⟨cellN kq (i := 0) rfl, cellN kq (i := 1) rfl, cellN kq (i := 2) rfl, cellN kq (i := 3) rfl, cellN kq (i := 4) rfl, cellN kq (i := 5) rfl, cellN kq (i := 6) rfl, cellN kq (i := 7) rfl, cellN kq (i := 8) rfl, cellN kq (i := 9) rfl, cellN kq (i := 10) rfl, cellN kq (i := 11) rfl, cellN kq (i := 12) rfl⟩
      have HKQ1 := hide kq
      have HB1 := hide BQ
      have HMB := hide hMB
      generalize w2.heap.size = m at *
      clear hM hU CM HC HKN kq BQ hMB HKQ HB2 HASC
      cases bm
      · have hL0 := HNO.out rfl
        have t0 : ((L.length : Int) == 0) = true := by rw [hL0]; rfl
        clear hL0
        go_wp2_with fail
        refine CM1.out.mono ?_
        rintro e w5 ⟨rfl, hb5⟩
        clear o0 o1 o2 o3 o4 o5 o6 o7 o8 o9 o10 o11 o12
        go_wp2_with fail
        refine (oawake_any _).mono ?_
        rintro e w6 ⟨rfl, hb6⟩
        go_wp2_with fail
        go_ret
        exact ⟨rfl, bb2 HB1.out (bb2 hb5 hb6)⟩
      · have HCL1 := hide (HCL.out rfl)
        have HOW1 := hide (HOW.out rfl)
        have HPA1 := hide (HPA.out rfl)
        clear HCL HOW HPA HNO
        go_wp2_with fail
        refine CM1.out.mono ?_
        rintro e w5 ⟨rfl, hb5⟩
        have kq := blk_below HKQ1.out hb5
        have hMB := blk_below HMB.out hb5
        have HKQ5 := hide kq
        have HMB5 := hide hMB
        have HB5 := hide (bb2 HB1.out hb5)
        have HV5 := hide (bb2 HV1.out hb5)
        clear o0 o1 o2 o3 o4 o5 o6 o7 o8 o9 o10 o11 o12 CM1 HKQ1 HMB HB1 HV2 HV1
        obtain ⟨o0, o1, o2, o3, o4, o5, o6, o7, o8, o9, o10, o11, o12⟩ : _ ∧ _ ∧ _ ∧ _ ∧ _ ∧ _ ∧ _ ∧ _ ∧ _ ∧ _ ∧ _ ∧ _ ∧ _ := ⟨cellN kq (i := 0) rfl, cellN kq (i := 1) rfl, cellN kq (i := 2) rfl, cellN kq (i := 3) rfl, cellN kq (i := 4) rfl, cellN kq (i := 5) rfl, cellN kq (i := 6) rfl, cellN kq (i := 7) rfl, cellN kq (i := 8) rfl, cellN kq (i := 9) rfl, cellN kq (i := 10) rfl, cellN kq (i := 11) rfl, cellN kq (i := 12) rfl⟩
        have LK := look_ref ⟨2, Ob.nil, ors⟩ hMB (by first | exact HOW1.out rfl | exact HOW1.out trivial | exact HOW1.out)
        try dsimp only at LK
        clear kq hMB hb5
        go_wp2_with fail
        clear o0 o1 o2 o3 o4 o5 o6 o7 o8 o9 o10 o11 o12
        go_loopw [6] (fun i wr => ∃ k : Nat, k ≤ opa.length ∧ i = .int .i64 k ∧ Below w5.heap.size w5 wr) (fun i _ => opa.length - (intOf i).toNat)
        case atStart => exact ⟨0, Nat.zero_le _, rfl, Below.refl _ _⟩
        case round =>
          obtain ⟨k, hk, rfl, hB⟩ := hrel
          have kq := blk_below HKQ5.out hB
          have hMB := blk_below HMB5.out hB
          have o8 := cellN kq (i := 8) rfl
          by_cases hlt : k < opa.length
          · have hlt' : (k : Int) < (opa.length : Int) := by omega
            obtain ⟨_, g, off, rfl, hg, q0, q1, q2, q3⟩ := onePt HPR.out (bb2 HV5.out hB) hlt
            have hmem := HPA1.out opa[k] (List.getElem_mem hlt)
            have hwk : w.heap.size < wr.heap.size := lt_blk kq
            have hgk : g < wr.heap.size := by have := HV5.out.size; have := hB.size; omega
            generalize opa[k] = p at *
            obtain ⟨ps, pn, pe, pp⟩ := p
            dsimp only at *
            have HBw := hide (bb2 HB5.out hB)
            have HB55 := hide hB
            have n1 : ∀ W, Below wr.heap.size wr W → W.cell? ⟨w.heap.size, 8, none⟩ = some (.slice (some ⟨g, off, none⟩) opa.length ocq) := fun W hW => (hW.cell (p := ⟨w.heap.size, 8, none⟩) hwk).trans o8
            have n2 : ∀ W, Below wr.heap.size wr W → W.cell? ⟨g, off + k * 4, none⟩ = some (.string ps) := fun W hW => (hW.cell (p := ⟨g, off + k * 4, none⟩) hgk).trans q0
            have n3 : ∀ W, Below wr.heap.size wr W → W.cell? ⟨g, off + k * 4 + 1, none⟩ = some (.string pn) := fun W hW => (hW.cell (p := ⟨g, off + k * 4 + 1, none⟩) hgk).trans q1
            have HKW := hide kq
            have HMW := hide hMB
            clear kq hMB q0 q1 q2 q3 hB
            go_wp2_with fail
            clear o8
            refine wp_region_G 14 (fun W => Below wr.heap.size wr W) (by kernel_rfl) ((Below.refl _ _).drew) ?_
            refine wpG_take (i := 0) 6 (v := .pointer (some ⟨w.heap.size, 8, none⟩)) rfl (by kernel_rfl) (by kernel_rfl) (by kernel_rfl) (by decide) (by kernel_rfl) (by kernel_rfl) (fun _ _ _ h => h) (Or.inl ⟨by rfl, fun w1 hS => ?_⟩) ?_
            · (try dsimp only at hS)
              go_simp
            simp only [Act.put, List.setIfInBounds_toArray, List.set_cons_zero, List.set_cons_succ]
            refine wpG_take (i := 1) 6 (v := .slice (some ⟨g, off, none⟩) opa.length ocq) rfl (by kernel_rfl) (by kernel_rfl) (by kernel_rfl) (by decide) (by kernel_rfl) (by kernel_rfl) (fun _ _ _ h => h) (Or.inl ⟨by rfl, fun w1 hS => ?_⟩) ?_
            · (try dsimp only at hS)
              go_simp
            simp only [Act.put, List.setIfInBounds_toArray, List.set_cons_zero, List.set_cons_succ]
            refine wpG_take (i := 2) 6 (v := .int .i64 k) rfl (by kernel_rfl) (by kernel_rfl) (by kernel_rfl) (by decide) (by kernel_rfl) (by kernel_rfl) (fun _ _ _ h => h) (Or.inl ⟨by rfl, fun w1 hS => ?_⟩) ?_
            · (try dsimp only at hS)
              go_simp
            simp only [Act.put, List.setIfInBounds_toArray, List.set_cons_zero, List.set_cons_succ]
            refine wpG_take (i := 3) 6 (v := .pointer (some ⟨g, off + k * 4, none⟩)) rfl (by kernel_rfl) (by kernel_rfl) (by kernel_rfl) (by decide) (by kernel_rfl) (by kernel_rfl) (fun _ _ _ h => h) (Or.inl ⟨by rfl, fun w1 hS => ?_⟩) ?_
            · (try dsimp only at hS)
              go_simp
            simp only [Act.put, List.setIfInBounds_toArray, List.set_cons_zero, List.set_cons_succ]
            refine wpG_take (i := 4) 6 (v := .pointer (some ⟨g, off + k * 4, none⟩)) rfl (by kernel_rfl) (by kernel_rfl) (by kernel_rfl) (by decide) (by kernel_rfl) (by kernel_rfl) (fun _ _ _ h => h) (Or.inl ⟨by rfl, fun w1 hS => ?_⟩) ?_
            · (try dsimp only at hS)
              go_simp
            simp only [Act.put, List.setIfInBounds_toArray, List.set_cons_zero, List.set_cons_succ]
            refine wpG_take (i := 5) 6 (v := .string ps) rfl (by kernel_rfl) (by kernel_rfl) (by kernel_rfl) (by decide) (by kernel_rfl) (by kernel_rfl) (fun _ _ _ h => h) (Or.inl ⟨by rfl, fun w1 hS => ?_⟩) ?_
            · (try dsimp only at hS)
              go_simp
            simp only [Act.put, List.setIfInBounds_toArray, List.set_cons_zero, List.set_cons_succ]
            refine wpG_take (i := 6) 6 (v := .pointer (some ⟨w.heap.size, 8, none⟩)) rfl (by kernel_rfl) (by kernel_rfl) (by kernel_rfl) (by decide) (by kernel_rfl) (by kernel_rfl) (fun _ _ _ h => h) (Or.inl ⟨by rfl, fun w1 hS => ?_⟩) ?_
            · (try dsimp only at hS)
              go_simp
            simp only [Act.put, List.setIfInBounds_toArray, List.set_cons_zero, List.set_cons_succ]
            refine wpG_take (i := 7) 6 (v := .slice (some ⟨g, off, none⟩) opa.length ocq) rfl (by kernel_rfl) (by kernel_rfl) (by kernel_rfl) (by decide) (by kernel_rfl) (by kernel_rfl) (fun _ _ _ h => h) (Or.inl ⟨by rfl, fun w1 hS => ?_⟩) ?_
            · (try dsimp only at hS)
              go_simp
            simp only [Act.put, List.setIfInBounds_toArray, List.set_cons_zero, List.set_cons_succ]
            refine wpG_take (i := 8) 6 (v := .int .i64 k) rfl (by kernel_rfl) (by kernel_rfl) (by kernel_rfl) (by decide) (by kernel_rfl) (by kernel_rfl) (fun _ _ _ h => h) (Or.inl ⟨by rfl, fun w1 hS => ?_⟩) ?_
            · (try dsimp only at hS)
              go_simp
            simp only [Act.put, List.setIfInBounds_toArray, List.set_cons_zero, List.set_cons_succ]
            refine wpG_take (i := 9) 6 (v := .pointer (some ⟨g, off + k * 4, none⟩)) rfl (by kernel_rfl) (by kernel_rfl) (by kernel_rfl) (by decide) (by kernel_rfl) (by kernel_rfl) (fun _ _ _ h => h) (Or.inl ⟨by rfl, fun w1 hS => ?_⟩) ?_
            · (try dsimp only at hS)
              go_simp
            simp only [Act.put, List.setIfInBounds_toArray, List.set_cons_zero, List.set_cons_succ]
            refine wpG_take (i := 10) 6 (v := .pointer (some ⟨g, off + k * 4 + 1, none⟩)) rfl (by kernel_rfl) (by kernel_rfl) (by kernel_rfl) (by decide) (by kernel_rfl) (by kernel_rfl) (fun _ _ _ h => h) (Or.inl ⟨by rfl, fun w1 hS => ?_⟩) ?_
            · (try dsimp only at hS)
              go_simp
            simp only [Act.put, List.setIfInBounds_toArray, List.set_cons_zero, List.set_cons_succ]
            refine wpG_take (i := 11) 6 (v := .string pn) rfl (by kernel_rfl) (by kernel_rfl) (by kernel_rfl) (by decide) (by kernel_rfl) (by kernel_rfl) (fun _ _ _ h => h) (Or.inl ⟨by rfl, fun w1 hS => ?_⟩) ?_
            · (try dsimp only at hS)
              go_simp
            simp only [Act.put, List.setIfInBounds_toArray, List.set_cons_zero, List.set_cons_succ]
            refine wpG_take (i := 12) 6 (v := .agg #[.int .i64 5, .string ps, .string pn]) rfl (by kernel_rfl) (by kernel_rfl) (by kernel_rfl) (by decide) (by kernel_rfl) (by kernel_rfl) (fun _ _ _ h => h) (Or.inl ⟨by rfl, fun w1 hS => ?_⟩) ?_
            · (try dsimp only at hS)
              go_simp
            simp only [Act.put, List.setIfInBounds_toArray, List.set_cons_zero, List.set_cons_succ]
            clear n1 n2 n3
            refine wpG_ready (rs := [13]) (by kernel_rfl) (by simp) (fun wd hGd hSd i hi => ?_)
            obtain rfl : i = 13 := by simpa using hi
            clear hi
            refine wpOp_step rfl (by rfl) (fun K' hK' => ?_)
            replace hK' := hide hK'
            go_simp
            refine hK'.out _ _ (wpG_kept (by decide) (hSd.alloc hSd.size _) ?_)
            clear hK' K'
            refine wpG_ready (rs := [14]) (by kernel_rfl) (by simp) (fun wf hGf hSf i hi => ?_)
            obtain rfl : i = 14 := by simpa using hi
            clear hi
            have hz := box_block hGf
            have hgB : wr.heap.size ≤ wd.heap.size := hSd.size
            have lz := liveN hz
            obtain ⟨z0, z1, z2⟩ : _ ∧ _ ∧ _ := ⟨cellN hz (i := 0) rfl, cellN hz (i := 1) rfl, cellN hz (i := 2) rfl⟩
            have HZ := hide hz
            have HSf := hide hSf
            refine wpOp_step rfl (by rfl) (fun K' hK' => ?_)
            go_simp
            refine hK' _ _ (wpG_past (by decide) ?_)
            clear hK' K' lz z0 z1 z2 hz hGd hGf hSd hSf
            refine wpAny_end (by kernel_rfl) ?_
            change Exit.then _ _ _ _ (setL wf wd.heap.size 0 [.int .i64 5, .string ps, .string pn])
            have KB := setL_all [.int .i64 5, .string ps, .string pn] HZ.out rfl
            have SB := setL_below (w := wr) (B := wr.heap.size) hgB [.int .i64 5, .string ps, .string pn] wf 0 HSf.out
            generalize setL wf wd.heap.size 0 [.int .i64 5, .string ps, .string pn] = V2 at *
            generalize wd.heap.size = gb at *
            have l2 := liveN KB
            obtain ⟨z0, z1, z2⟩ : _ ∧ _ ∧ _ := ⟨cellN KB (i := 0) rfl, cellN KB (i := 1) rfl, cellN KB (i := 2) rfl⟩
            have o1 := cellN (blk_below HKW.out SB) (i := 1) rfl
            have hMV := blk_below HMW.out SB
            cases hem : ps.toList.isEmpty
            · rw [← e0_emp, hem] at hmem
              simp only [Bool.false_eq_true, if_false] at hmem
              have LK := look_ref ⟨5, ps, pn⟩ hMV hmem
              try dsimp only at LK
              have HR := hide (HB55.out.trans (SB.mono HB55.out.size))
              clear HZ HSf KB SB hMV hmem
              go_wp2_with fail
              exact ⟨⟨k + 1, by omega, by go_num, HR.out⟩, by simp [intOf]; omega⟩
            · rw [← e0_emp, hem] at hmem
              simp only [if_true] at hmem
              have K3 := set_blk (i := 1) (.string ors) KB
              have S3 : Below wr.heap.size wr (V2.setCell ⟨gb, 1, none⟩ (.string ors)) := setL_below (w := wr) (B := wr.heap.size) (g := gb) hgB [.string ors] V2 1 SB
              have hM3 : (V2.setCell ⟨gb, 1, none⟩ (.string ors)).heap[m]? = _ := blk_below HMW.out S3
              have LK := look_ref ⟨5, ors, pn⟩ hM3 hmem
              try dsimp only at LK
              obtain ⟨y0, y1, y2⟩ : _ ∧ _ ∧ _ := ⟨cellN K3 (i := 0) rfl, cellN K3 (i := 1) rfl, cellN K3 (i := 2) rfl⟩
              have HR := hide (HB55.out.trans (S3.mono HB55.out.size))
              clear HZ HSf KB SB hMV hmem K3 S3 hM3
              go_wp2_with fail
              exact ⟨⟨k + 1, by omega, by go_num, HR.out⟩, by simp [intOf]; omega⟩
          · have hlt' : ¬ (k : Int) < (opa.length : Int) := by omega
            have HBw := hide (bb2 HB5.out hB)
            clear kq hMB hB
            go_wp2_with fail
            refine (oawake_any _).mono ?_
            rintro e w8 ⟨rfl, hb8⟩
            go_wp2_with fail
            go_ret
            exact ⟨rfl, bb2 HBw.out hb8⟩

set_option linter.unusedVariables false in
set_option maxHeartbeats 12800000 in
theorem known_other (x : OV) (w : World) (hx : x.at_ w) (raw : RawO x) (hk5 : x.ref.kind ≠ 5) (hk6 : x.ref.kind ≠ 6) :
    Calls Tryz.prog 8 #[oV x] w fun e w' => e = .returned (.bool true) ∧ Below w.heap.size w w' := by
  have hmm := @run_makeMap Tryz.prog
  have HK := hide (And.intro hk5 hk6)
  clear hk5 hk6
  have CF := fun W (h : Below w.heap.size w W) => hide (fewO_any x W (hx.below h) raw)
  have B1 : Below w.heap.size w (w.alloc (.cells #[.int .i64 x.ref.kind, .string x.ref.space, .string x.ref.name, .bool x.good, .slice x.al x.labels.length x.cl, .slice x.ap x.ports.length x.cp, .string x.cls, .slice x.ai x.lis.length x.ci, .slice x.aq x.pars.length x.cq, .slice x.ah x.hosts.length x.ch, .slice x.ar x.rules.length x.cr, .slice x.af x.frm.length x.cf, .slice x.ao x.tos.length x.co] 55)) := (Below.refl _ _).alloc (Nat.le_refl _) _
  clear hx raw
  go_enter Tryz.func8, Tryz.ntmps8
  go_wp2_with fail
  refine (CF _ B1).out.mono ?_
  rintro e w1 ⟨y, rfl, hy, hown, hb1⟩
  have hz : w1.heap[w.heap.size]? = some (.cells #[.int .i64 x.ref.kind, .string x.ref.space, .string x.ref.name, .bool x.good, .slice x.al x.labels.length x.cl, .slice x.ap x.ports.length x.cp, .string x.cls, .slice x.ai x.lis.length x.ci, .slice x.aq x.pars.length x.cq, .slice x.ah x.hosts.length x.ch, .slice x.ar x.rules.length x.cr, .slice x.af x.frm.length x.cf, .slice x.ao x.tos.length x.co] 55) := box_block hb1
  have BB := bb2 B1 hb1
  have lz := liveN hz
  obtain ⟨z0, z1, z2, z3, z4, z5, z6, z7, z8, z9, z10, z11, z12⟩ : _ ∧ _ ∧ _ ∧ _ ∧ _ ∧ _ ∧ _ ∧ _ ∧ _ ∧ _ ∧ _ ∧ _ ∧ _ := ⟨cellN hz (i := 0) rfl, cellN hz (i := 1) rfl, cellN hz (i := 2) rfl, cellN hz (i := 3) rfl, cellN hz (i := 4) rfl, cellN hz (i := 5) rfl, cellN hz (i := 6) rfl, cellN hz (i := 7) rfl, cellN hz (i := 8) rfl, cellN hz (i := 9) rfl, cellN hz (i := 10) rfl, cellN hz (i := 11) rfl, cellN hz (i := 12) rfl⟩
  have K2 := hide (show ((((((((((((((w1.setCell ⟨w.heap.size, 0, none⟩ (.int .i64 y.ref.kind)).setCell ⟨w.heap.size, 1, none⟩ (.string y.ref.space)).setCell ⟨w.heap.size, 2, none⟩ (.string y.ref.name)).setCell ⟨w.heap.size, 3, none⟩ (.bool y.good)).setCell ⟨w.heap.size, 4, none⟩ (.slice y.al y.labels.length y.cl)).setCell ⟨w.heap.size, 5, none⟩ (.slice y.ap y.ports.length y.cp)).setCell ⟨w.heap.size, 6, none⟩ (.string y.cls)).setCell ⟨w.heap.size, 7, none⟩ (.slice y.ai y.lis.length y.ci)).setCell ⟨w.heap.size, 8, none⟩ (.slice y.aq y.pars.length y.cq)).setCell ⟨w.heap.size, 9, none⟩ (.slice y.ah y.hosts.length y.ch)).setCell ⟨w.heap.size, 10, none⟩ (.slice y.ar y.rules.length y.cr)).setCell ⟨w.heap.size, 11, none⟩ (.slice y.af y.frm.length y.cf)).setCell ⟨w.heap.size, 12, none⟩ (.slice y.ao y.tos.length y.co))).heap[w.heap.size]? = some (.cells #[.int .i64 y.ref.kind, .string y.ref.space, .string y.ref.name, .bool y.good, .slice y.al y.labels.length y.cl, .slice y.ap y.ports.length y.cp, .string y.cls, .slice y.ai y.lis.length y.ci, .slice y.aq y.pars.length y.cq, .slice y.ah y.hosts.length y.ch, .slice y.ar y.rules.length y.cr, .slice y.af y.frm.length y.cf, .slice y.ao y.tos.length y.co] 55) from setL_all [.int .i64 y.ref.kind, .string y.ref.space, .string y.ref.name, .bool y.good, .slice y.al y.labels.length y.cl, .slice y.ap y.ports.length y.cp, .string y.cls, .slice y.ai y.lis.length y.ci, .slice y.aq y.pars.length y.cq, .slice y.ah y.hosts.length y.ch, .slice y.ar y.rules.length y.cr, .slice y.af y.frm.length y.cf, .slice y.ao y.tos.length y.co] hz rfl)
  have own2 := hide (show OV.own y (((((((((((((w1.setCell ⟨w.heap.size, 0, none⟩ (.int .i64 y.ref.kind)).setCell ⟨w.heap.size, 1, none⟩ (.string y.ref.space)).setCell ⟨w.heap.size, 2, none⟩ (.string y.ref.name)).setCell ⟨w.heap.size, 3, none⟩ (.bool y.good)).setCell ⟨w.heap.size, 4, none⟩ (.slice y.al y.labels.length y.cl)).setCell ⟨w.heap.size, 5, none⟩ (.slice y.ap y.ports.length y.cp)).setCell ⟨w.heap.size, 6, none⟩ (.string y.cls)).setCell ⟨w.heap.size, 7, none⟩ (.slice y.ai y.lis.length y.ci)).setCell ⟨w.heap.size, 8, none⟩ (.slice y.aq y.pars.length y.cq)).setCell ⟨w.heap.size, 9, none⟩ (.slice y.ah y.hosts.length y.ch)).setCell ⟨w.heap.size, 10, none⟩ (.slice y.ar y.rules.length y.cr)).setCell ⟨w.heap.size, 11, none⟩ (.slice y.af y.frm.length y.cf)).setCell ⟨w.heap.size, 12, none⟩ (.slice y.ao y.tos.length y.co)) from hown.bx ((BX.refl w.heap.size w1.heap.size w1).setL 0 [.int .i64 y.ref.kind, .string y.ref.space, .string y.ref.name, .bool y.good, .slice y.al y.labels.length y.cl, .slice y.ap y.ports.length y.cp, .string y.cls, .slice y.ai y.lis.length y.ci, .slice y.aq y.pars.length y.cq, .slice y.ah y.hosts.length y.ch, .slice y.ar y.rules.length y.cr, .slice y.af y.frm.length y.cf, .slice y.ao y.tos.length y.co]) hz)
  have BB2 := hide (show Below w.heap.size w (((((((((((((w1.setCell ⟨w.heap.size, 0, none⟩ (.int .i64 y.ref.kind)).setCell ⟨w.heap.size, 1, none⟩ (.string y.ref.space)).setCell ⟨w.heap.size, 2, none⟩ (.string y.ref.name)).setCell ⟨w.heap.size, 3, none⟩ (.bool y.good)).setCell ⟨w.heap.size, 4, none⟩ (.slice y.al y.labels.length y.cl)).setCell ⟨w.heap.size, 5, none⟩ (.slice y.ap y.ports.length y.cp)).setCell ⟨w.heap.size, 6, none⟩ (.string y.cls)).setCell ⟨w.heap.size, 7, none⟩ (.slice y.ai y.lis.length y.ci)).setCell ⟨w.heap.size, 8, none⟩ (.slice y.aq y.pars.length y.cq)).setCell ⟨w.heap.size, 9, none⟩ (.slice y.ah y.hosts.length y.ch)).setCell ⟨w.heap.size, 10, none⟩ (.slice y.ar y.rules.length y.cr)).setCell ⟨w.heap.size, 11, none⟩ (.slice y.af y.frm.length y.cf)).setCell ⟨w.heap.size, 12, none⟩ (.slice y.ao y.tos.length y.co)) from setL_below (w := w) (B := w.heap.size) (g := w.heap.size) (Nat.le_refl _) [.int .i64 y.ref.kind, .string y.ref.space, .string y.ref.name, .bool y.good, .slice y.al y.labels.length y.cl, .slice y.ap y.ports.length y.cp, .string y.cls, .slice y.ai y.lis.length y.ci, .slice y.aq y.pars.length y.cq, .slice y.ah y.hosts.length y.ch, .slice y.ar y.rules.length y.cr, .slice y.af y.frm.length y.cf, .slice y.ao y.tos.length y.co] _ 0 BB)
  obtain ⟨d0, d1, d2, d3, d4, d5, d6, d7, d8, d9, d10, d11, d12⟩ : _ ∧ _ ∧ _ ∧ _ ∧ _ ∧ _ ∧ _ ∧ _ ∧ _ ∧ _ ∧ _ ∧ _ ∧ _ := ⟨cellN K2.out (i := 0) rfl, cellN K2.out (i := 1) rfl, cellN K2.out (i := 2) rfl, cellN K2.out (i := 3) rfl, cellN K2.out (i := 4) rfl, cellN K2.out (i := 5) rfl, cellN K2.out (i := 6) rfl, cellN K2.out (i := 7) rfl, cellN K2.out (i := 8) rfl, cellN K2.out (i := 9) rfl, cellN K2.out (i := 10) rfl, cellN K2.out (i := 11) rfl, cellN K2.out (i := 12) rfl⟩
  have ok := fewO_ok hy
  have HOK := hide ok
  have HY := hide hy
  clear hz hown BB B1 hb1 CF hy ok
  go_wp2_with fail
  have kq : ((((((((((((((w1.setCell ⟨w.heap.size, 0, none⟩ (.int .i64 y.ref.kind)).setCell ⟨w.heap.size, 1, none⟩ (.string y.ref.space)).setCell ⟨w.heap.size, 2, none⟩ (.string y.ref.name)).setCell ⟨w.heap.size, 3, none⟩ (.bool y.good)).setCell ⟨w.heap.size, 4, none⟩ (.slice y.al y.labels.length y.cl)).setCell ⟨w.heap.size, 5, none⟩ (.slice y.ap y.ports.length y.cp)).setCell ⟨w.heap.size, 6, none⟩ (.string y.cls)).setCell ⟨w.heap.size, 7, none⟩ (.slice y.ai y.lis.length y.ci)).setCell ⟨w.heap.size, 8, none⟩ (.slice y.aq y.pars.length y.cq)).setCell ⟨w.heap.size, 9, none⟩ (.slice y.ah y.hosts.length y.ch)).setCell ⟨w.heap.size, 10, none⟩ (.slice y.ar y.rules.length y.cr)).setCell ⟨w.heap.size, 11, none⟩ (.slice y.af y.frm.length y.cf)).setCell ⟨w.heap.size, 12, none⟩ (.slice y.ao y.tos.length y.co))).heap[w.heap.size]? = some (.cells #[.int .i64 y.ref.kind, .string y.ref.space, .string y.ref.name, .bool y.good, .slice y.al y.labels.length y.cl, .slice y.ap y.ports.length y.cp, .string y.cls, .slice y.ai y.lis.length y.ci, .slice y.aq y.pars.length y.cq, .slice y.ah y.hosts.length y.ch, .slice y.ar y.rules.length y.cr, .slice y.af y.frm.length y.cf, .slice y.ao y.tos.length y.co] 55) := K2.out
  have ownq : OV.own y (((((((((((((w1.setCell ⟨w.heap.size, 0, none⟩ (.int .i64 y.ref.kind)).setCell ⟨w.heap.size, 1, none⟩ (.string y.ref.space)).setCell ⟨w.heap.size, 2, none⟩ (.string y.ref.name)).setCell ⟨w.heap.size, 3, none⟩ (.bool y.good)).setCell ⟨w.heap.size, 4, none⟩ (.slice y.al y.labels.length y.cl)).setCell ⟨w.heap.size, 5, none⟩ (.slice y.ap y.ports.length y.cp)).setCell ⟨w.heap.size, 6, none⟩ (.string y.cls)).setCell ⟨w.heap.size, 7, none⟩ (.slice y.ai y.lis.length y.ci)).setCell ⟨w.heap.size, 8, none⟩ (.slice y.aq y.pars.length y.cq)).setCell ⟨w.heap.size, 9, none⟩ (.slice y.ah y.hosts.length y.ch)).setCell ⟨w.heap.size, 10, none⟩ (.slice y.ar y.rules.length y.cr)).setCell ⟨w.heap.size, 11, none⟩ (.slice y.af y.frm.length y.cf)).setCell ⟨w.heap.size, 12, none⟩ (.slice y.ao y.tos.length y.co)) := own2.out
  have BQ : Below w.heap.size w (((((((((((((w1.setCell ⟨w.heap.size, 0, none⟩ (.int .i64 y.ref.kind)).setCell ⟨w.heap.size, 1, none⟩ (.string y.ref.space)).setCell ⟨w.heap.size, 2, none⟩ (.string y.ref.name)).setCell ⟨w.heap.size, 3, none⟩ (.bool y.good)).setCell ⟨w.heap.size, 4, none⟩ (.slice y.al y.labels.length y.cl)).setCell ⟨w.heap.size, 5, none⟩ (.slice y.ap y.ports.length y.cp)).setCell ⟨w.heap.size, 6, none⟩ (.string y.cls)).setCell ⟨w.heap.size, 7, none⟩ (.slice y.ai y.lis.length y.ci)).setCell ⟨w.heap.size, 8, none⟩ (.slice y.aq y.pars.length y.cq)).setCell ⟨w.heap.size, 9, none⟩ (.slice y.ah y.hosts.length y.ch)).setCell ⟨w.heap.size, 10, none⟩ (.slice y.ar y.rules.length y.cr)).setCell ⟨w.heap.size, 11, none⟩ (.slice y.af y.frm.length y.cf)).setCell ⟨w.heap.size, 12, none⟩ (.slice y.ao y.tos.length y.co)) := BB2.out
  clear K2 own2 BB2 lz z0 z1 z2 z3 z4 z5 z6 z7 z8 z9 z10 z11 z12 d0 d1 d2 d3 d4 d5 d6 d7 d8 d9 d10 d11 d12
  generalize (((((((((((((w1.setCell ⟨w.heap.size, 0, none⟩ (.int .i64 y.ref.kind)).setCell ⟨w.heap.size, 1, none⟩ (.string y.ref.space)).setCell ⟨w.heap.size, 2, none⟩ (.string y.ref.name)).setCell ⟨w.heap.size, 3, none⟩ (.bool y.good)).setCell ⟨w.heap.size, 4, none⟩ (.slice y.al y.labels.length y.cl)).setCell ⟨w.heap.size, 5, none⟩ (.slice y.ap y.ports.length y.cp)).setCell ⟨w.heap.size, 6, none⟩ (.string y.cls)).setCell ⟨w.heap.size, 7, none⟩ (.slice y.ai y.lis.length y.ci)).setCell ⟨w.heap.size, 8, none⟩ (.slice y.aq y.pars.length y.cq)).setCell ⟨w.heap.size, 9, none⟩ (.slice y.ah y.hosts.length y.ch)).setCell ⟨w.heap.size, 10, none⟩ (.slice y.ar y.rules.length y.cr)).setCell ⟨w.heap.size, 11, none⟩ (.slice y.af y.frm.length y.cf)).setCell ⟨w.heap.size, 12, none⟩ (.slice y.ao y.tos.length y.co)) = V at *
  have at_ := ownq.at_
  have ok := HOK.out
  refine (refs_any y V at_ ok).mono ?_
  rintro e w2 ⟨v2, rfl, hsl, hb2⟩
  have hky : y.ref.kind = x.ref.kind := congrArg (fun o : OB => o.ref.kind) HY.out
  have hk5 : y.ref.kind ≠ 5 := by rw [hky]; exact HK.out.1
  have hk6 : y.ref.kind ≠ 6 := by rw [hky]; exact HK.out.2
  clear hky
  have HK56 := hide (And.intro hk5 hk6)
  clear hk5 hk6
  have HKN : Hid (∀ r ∈ Ob.refsO y.b, Ob.Kn r ∧ (2 < r.kind → Ob.e0 r.space = false)) := fun r hr => Ob.refs_known hr
  have HASC := hide (Ob.refsO_asc y.b)
  have HNO : Hid (Ob.mayO y.b = false → (Ob.refsO y.b).length = 0) := fun h => by rw [Ob.refs_no h]; rfl
  have HCL : Hid (Ob.mayO y.b = true → y.ref.kind = 5 → (⟨1, Ob.nil, y.cls⟩ : RfB) ∈ Ob.refsO y.b) := fun h h5 => Ob.refs_class h h5
  have HOW : Hid (Ob.mayO y.b = true → y.ref.kind = 6 → (⟨2, Ob.nil, y.ref.space⟩ : RfB) ∈ Ob.refsO y.b) := fun h h6 => Ob.refs_own h h6
  have HPA : Hid (Ob.mayO y.b = true → ∀ p ∈ y.pars, (⟨5, if Ob.e0 p.space then y.ref.space else p.space, p.name⟩ : RfB) ∈ Ob.refsO y.b) := fun h p hp => Ob.refs_par h hp
  have CM := fun W (h : Below V.heap.size V W) => hide (omay_any y W (at_.below h) ok)
  have HPR := hide at_.pars
  have hPl : y.pars.length ≤ 9223372036854775807 := by
    obtain ⟨_, _, _, p1, p2, _⟩ := at_.pars
    unfold maxLen at p2
    omega
  generalize Ob.refsO y.b = L at *
  generalize Ob.mayO y.b = bm at *
  obtain ⟨ad, cap, rfl, hle1, hle2, hc⟩ := hsl
  have HC := hide hc
  have hLm : L.length ≤ 9223372036854775807 := by have h1 := hle1; have h2 := hle2; unfold maxLen at h2; omega
  have HB2 := hide (bb2 BQ hb2)
  have HKQ := hide (blk_below kq hb2)
  have HV2 := hide hb2
  obtain ⟨⟨ork, ors, orn⟩, ogd, olb, oal, ocl, opo, oap, ocp, ocs, ols, oai, oci, opa, oaq, ocq, oho, oah, och, oru, oar, ocr, ofr, oaf, ocf, oto, oao, oco⟩ := y
  dsimp only at *
  clear hc at_ ok ownq kq BQ hb2 HOK HY
  go_wp2_with fail
  go_loopw [5] (fun i wr => ∃ k : Nat, k ≤ L.length ∧ i = .int .i64 k ∧ MapAt w2 w2.heap.size L k wr) (fun i _ => L.length - (intOf i).toNat)
  case atStart => exact ⟨0, Nat.zero_le _, rfl, ⟨BX.refl _ _ _, alloc_new w2 _⟩⟩
  case round =>
    obtain ⟨k, hk, rfl, hM⟩ := hrel
    by_cases hlt : k < L.length
    · have hlt' : (k : Int) < (L.length : Int) := by omega
      obtain ⟨_, g1, p1, rfl, hg1, hat1⟩ := HC.out k hlt
      have HTK : Hid (L.take (k + 1) = L.take k ++ [L[k]]) := List.take_succ_eq_append_getElem hlt
      have hup := upd_ref L[k] hM.blk (take_not HASC.out hlt)
      have M2 : MapAt w2 w2.heap.size L (k + 1) (mapW wr w2.heap.size (L.take k ++ [L[k]])) := ⟨mapW_bx hM.bx _, by rw [HTK.out]; exact mapW_at hM.blk _⟩
      obtain ⟨c0, c1, c2⟩ := ER_at (show ER.At wr g1 (p1 + k * 3) L[k] from hat1.below hg1 (hM.under rfl))
      obtain ⟨f0, f1, f2⟩ := ER_at (show ER.At (mapW wr w2.heap.size (L.take k ++ [L[k]])) g1 (p1 + k * 3) L[k] from hat1.below hg1 (M2.under rfl))
      obtain ⟨kn, ksp⟩ := HKN.out L[k] (List.getElem_mem hlt)
      obtain ⟨hlo, hhi, hnm⟩ := kn
      have HM2 := hide M2
      clear HTK M2 hM hat1
      generalize L.take k ++ [L[k]] = T2 at *
      generalize L[k] = r at *
      obtain ⟨rk, rs, rn⟩ := r
      try dsimp only at *
      have t1 : decide (rk < 1) = false := decide_eq_false (by omega)
      have t2 : decide (7 < rk) = false := decide_eq_false (by omega)
      have t3 : rn.toList.isEmpty = false := by rw [e0_emp]; exact hnm
      cases t4 : rs.toList.isEmpty
      · clear hlo hhi hnm ksp
        go_wp2_with fail
        exact ⟨⟨k + 1, by omega, by go_num, HM2.out⟩, by simp [intOf]; omega⟩
      · have t5 : decide (2 < rk) = false := decide_eq_false (fun h => by
          have := ksp h
          rw [← e0_emp, t4] at this
          cases this)
        clear hlo hhi hnm ksp
        go_wp2_with fail
        exact ⟨⟨k + 1, by omega, by go_num, HM2.out⟩, by simp [intOf]; omega⟩
    · obtain rfl : k = L.length := by omega
      have hlt' : ¬ (L.length : Int) < (L.length : Int) := by omega
      have hU := hM.under rfl
      have hMB := hM.blk
      rw [List.take_length] at hMB
      have kq := blk_below HKQ.out hU
      have BQ := bb2 HB2.out hU
      have CM1 := hide (CM wr (bb2 HV2.out hU)).out
      have HV1 := hide (bb2 HV2.out hU)
      obtain ⟨o0, o1, o2, o3, o4, o5, o6, o7, o8, o9, o10, o11, o12⟩ : _ ∧ _ ∧ _ ∧ _ ∧ _ ∧ _ ∧ _ ∧ _ ∧ _ ∧ _ ∧ _ ∧ _ ∧ _ := ⟨cellN kq (i := 0) rfl, cellN kq (i := 1) rfl, cellN kq (i := 2) rfl, cellN kq (i := 3) rfl, cellN kq (i := 4) rfl, cellN kq (i := 5) rfl, cellN kq (i := 6) rfl, cellN kq (i := 7) rfl, cellN kq (i := 8) rfl, cellN kq (i := 9) rfl, cellN kq (i := 10) rfl, cellN kq (i := 11) rfl, cellN kq (i := 12) rfl⟩
      have HKQ1 := hide kq
      have HB1 := hide BQ
      have HMB := hide hMB
      generalize w2.heap.size = m at *
      clear hM hU CM HC HKN kq BQ hMB HKQ HB2 HASC
      cases bm
      · have hL0 := HNO.out rfl
        have t0 : ((L.length : Int) == 0) = true := by rw [hL0]; rfl
        clear hL0
        go_wp2_with fail
        refine CM1.out.mono ?_
        rintro e w5 ⟨rfl, hb5⟩
        clear o0 o1 o2 o3 o4 o5 o6 o7 o8 o9 o10 o11 o12
        go_wp2_with fail
        refine (oawake_any _).mono ?_
        rintro e w6 ⟨rfl, hb6⟩
        go_wp2_with fail
        go_ret
        exact ⟨rfl, bb2 HB1.out (bb2 hb5 hb6)⟩
      · have HCL1 := hide (HCL.out rfl)
        have HOW1 := hide (HOW.out rfl)
        have HPA1 := hide (HPA.out rfl)
        clear HCL HOW HPA HNO
        go_wp2_with fail
        refine CM1.out.mono ?_
        rintro e w5 ⟨rfl, hb5⟩
        have kq := blk_below HKQ1.out hb5
        have hMB := blk_below HMB.out hb5
        have HKQ5 := hide kq
        have HMB5 := hide hMB
        have HB5 := hide (bb2 HB1.out hb5)
        have HV5 := hide (bb2 HV1.out hb5)
        clear o0 o1 o2 o3 o4 o5 o6 o7 o8 o9 o10 o11 o12 CM1 HKQ1 HMB HB1 HV2 HV1
        obtain ⟨o0, o1, o2, o3, o4, o5, o6, o7, o8, o9, o10, o11, o12⟩ : _ ∧ _ ∧ _ ∧ _ ∧ _ ∧ _ ∧ _ ∧ _ ∧ _ ∧ _ ∧ _ ∧ _ ∧ _ := ⟨cellN kq (i := 0) rfl, cellN kq (i := 1) rfl, cellN kq (i := 2) rfl, cellN kq (i := 3) rfl, cellN kq (i := 4) rfl, cellN kq (i := 5) rfl, cellN kq (i := 6) rfl, cellN kq (i := 7) rfl, cellN kq (i := 8) rfl, cellN kq (i := 9) rfl, cellN kq (i := 10) rfl, cellN kq (i := 11) rfl, cellN kq (i := 12) rfl⟩
        have t5 : (ork == 5) = false := by simpa using HK56.out.1
        have t6 : (ork == 6) = false := by simpa using HK56.out.2
        clear kq hMB hb5
        go_wp2_with fail
        clear o0 o1 o2 o3 o4 o5 o6 o7 o8 o9 o10 o11 o12
        go_loopw [6] (fun i wr => ∃ k : Nat, k ≤ opa.length ∧ i = .int .i64 k ∧ Below w5.heap.size w5 wr) (fun i _ => opa.length - (intOf i).toNat)
        case atStart => exact ⟨0, Nat.zero_le _, rfl, Below.refl _ _⟩
        case round =>
          obtain ⟨k, hk, rfl, hB⟩ := hrel
          have kq := blk_below HKQ5.out hB
          have hMB := blk_below HMB5.out hB
          have o8 := cellN kq (i := 8) rfl
          by_cases hlt : k < opa.length
          · have hlt' : (k : Int) < (opa.length : Int) := by omega
            obtain ⟨_, g, off, rfl, hg, q0, q1, q2, q3⟩ := onePt HPR.out (bb2 HV5.out hB) hlt
            have hmem := HPA1.out opa[k] (List.getElem_mem hlt)
            have hwk : w.heap.size < wr.heap.size := lt_blk kq
            have hgk : g < wr.heap.size := by have := HV5.out.size; have := hB.size; omega
            generalize opa[k] = p at *
            obtain ⟨ps, pn, pe, pp⟩ := p
            dsimp only at *
            have HBw := hide (bb2 HB5.out hB)
            have HB55 := hide hB
            have n1 : ∀ W, Below wr.heap.size wr W → W.cell? ⟨w.heap.size, 8, none⟩ = some (.slice (some ⟨g, off, none⟩) opa.length ocq) := fun W hW => (hW.cell (p := ⟨w.heap.size, 8, none⟩) hwk).trans o8
            have n2 : ∀ W, Below wr.heap.size wr W → W.cell? ⟨g, off + k * 4, none⟩ = some (.string ps) := fun W hW => (hW.cell (p := ⟨g, off + k * 4, none⟩) hgk).trans q0
            have n3 : ∀ W, Below wr.heap.size wr W → W.cell? ⟨g, off + k * 4 + 1, none⟩ = some (.string pn) := fun W hW => (hW.cell (p := ⟨g, off + k * 4 + 1, none⟩) hgk).trans q1
            have HKW := hide kq
            have HMW := hide hMB
            clear kq hMB q0 q1 q2 q3 hB
            go_wp2_with fail
            clear o8
            refine wp_region_G 14 (fun W => Below wr.heap.size wr W) (by kernel_rfl) ((Below.refl _ _).drew) ?_
            refine wpG_take (i := 0) 6 (v := .pointer (some ⟨w.heap.size, 8, none⟩)) rfl (by kernel_rfl) (by kernel_rfl) (by kernel_rfl) (by decide) (by kernel_rfl) (by kernel_rfl) (fun _ _ _ h => h) (Or.inl ⟨by rfl, fun w1 hS => ?_⟩) ?_
            · (try dsimp only at hS)
              go_simp
            simp only [Act.put, List.setIfInBounds_toArray, List.set_cons_zero, List.set_cons_succ]
            refine wpG_take (i := 1) 6 (v := .slice (some ⟨g, off, none⟩) opa.length ocq) rfl (by kernel_rfl) (by kernel_rfl) (by kernel_rfl) (by decide) (by kernel_rfl) (by kernel_rfl) (fun _ _ _ h => h) (Or.inl ⟨by rfl, fun w1 hS => ?_⟩) ?_
            · (try dsimp only at hS)
              go_simp
            simp only [Act.put, List.setIfInBounds_toArray, List.set_cons_zero, List.set_cons_succ]
            refine wpG_take (i := 2) 6 (v := .int .i64 k) rfl (by kernel_rfl) (by kernel_rfl) (by kernel_rfl) (by decide) (by kernel_rfl) (by kernel_rfl) (fun _ _ _ h => h) (Or.inl ⟨by rfl, fun w1 hS => ?_⟩) ?_
            · (try dsimp only at hS)
              go_simp
            simp only [Act.put, List.setIfInBounds_toArray, List.set_cons_zero, List.set_cons_succ]
            refine wpG_take (i := 3) 6 (v := .pointer (some ⟨g, off + k * 4, none⟩)) rfl (by kernel_rfl) (by kernel_rfl) (by kernel_rfl) (by decide) (by kernel_rfl) (by kernel_rfl) (fun _ _ _ h => h) (Or.inl ⟨by rfl, fun w1 hS => ?_⟩) ?_
            · (try dsimp only at hS)
              go_simp
            simp only [Act.put, List.setIfInBounds_toArray, List.set_cons_zero, List.set_cons_succ]
            refine wpG_take (i := 4) 6 (v := .pointer (some ⟨g, off + k * 4, none⟩)) rfl (by kernel_rfl) (by kernel_rfl) (by kernel_rfl) (by decide) (by kernel_rfl) (by kernel_rfl) (fun _ _ _ h => h) (Or.inl ⟨by rfl, fun w1 hS => ?_⟩) ?_
            · (try dsimp only at hS)
              go_simp
            simp only [Act.put, List.setIfInBounds_toArray, List.set_cons_zero, List.set_cons_succ]
            refine wpG_take (i := 5) 6 (v := .string ps) rfl (by kernel_rfl) (by kernel_rfl) (by kernel_rfl) (by decide) (by kernel_rfl) (by kernel_rfl) (fun _ _ _ h => h) (Or.inl ⟨by rfl, fun w1 hS => ?_⟩) ?_
            · (try dsimp only at hS)
              go_simp
            simp only [Act.put, List.setIfInBounds_toArray, List.set_cons_zero, List.set_cons_succ]
            refine wpG_take (i := 6) 6 (v := .pointer (some ⟨w.heap.size, 8, none⟩)) rfl (by kernel_rfl) (by kernel_rfl) (by kernel_rfl) (by decide) (by kernel_rfl) (by kernel_rfl) (fun _ _ _ h => h) (Or.inl ⟨by rfl, fun w1 hS => ?_⟩) ?_
            · (try dsimp only at hS)
              go_simp
            simp only [Act.put, List.setIfInBounds_toArray, List.set_cons_zero, List.set_cons_succ]
            refine wpG_take (i := 7) 6 (v := .slice (some ⟨g, off, none⟩) opa.length ocq) rfl (by kernel_rfl) (by kernel_rfl) (by kernel_rfl) (by decide) (by kernel_rfl) (by kernel_rfl) (fun _ _ _ h => h) (Or.inl ⟨by rfl, fun w1 hS => ?_⟩) ?_
            · (try dsimp only at hS)
              go_simp
            simp only [Act.put, List.setIfInBounds_toArray, List.set_cons_zero, List.set_cons_succ]
            refine wpG_take (i := 8) 6 (v := .int .i64 k) rfl (by kernel_rfl) (by kernel_rfl) (by kernel_rfl) (by decide) (by kernel_rfl) (by kernel_rfl) (fun _ _ _ h => h) (Or.inl ⟨by rfl, fun w1 hS => ?_⟩) ?_
            · (try dsimp only at hS)
              go_simp
            simp only [Act.put, List.setIfInBounds_toArray, List.set_cons_zero, List.set_cons_succ]
            refine wpG_take (i := 9) 6 (v := .pointer (some ⟨g, off + k * 4, none⟩)) rfl (by kernel_rfl) (by kernel_rfl) (by kernel_rfl) (by decide) (by kernel_rfl) (by kernel_rfl) (fun _ _ _ h => h) (Or.inl ⟨by rfl, fun w1 hS => ?_⟩) ?_
            · (try dsimp only at hS)
              go_simp
            simp only [Act.put, List.setIfInBounds_toArray, List.set_cons_zero, List.set_cons_succ]
            refine wpG_take (i := 10) 6 (v := .pointer (some ⟨g, off + k * 4 + 1, none⟩)) rfl (by kernel_rfl) (by kernel_rfl) (by kernel_rfl) (by decide) (by kernel_rfl) (by kernel_rfl) (fun _ _ _ h => h) (Or.inl ⟨by rfl, fun w1 hS => ?_⟩) ?_
            · (try dsimp only at hS)
              go_simp
            simp only [Act.put, List.setIfInBounds_toArray, List.set_cons_zero, List.set_cons_succ]
            refine wpG_take (i := 11) 6 (v := .string pn) rfl (by kernel_rfl) (by kernel_rfl) (by kernel_rfl) (by decide) (by kernel_rfl) (by kernel_rfl) (fun _ _ _ h => h) (Or.inl ⟨by rfl, fun w1 hS => ?_⟩) ?_
            · (try dsimp only at hS)
              go_simp
            simp only [Act.put, List.setIfInBounds_toArray, List.set_cons_zero, List.set_cons_succ]
            refine wpG_take (i := 12) 6 (v := .agg #[.int .i64 5, .string ps, .string pn]) rfl (by kernel_rfl) (by kernel_rfl) (by kernel_rfl) (by decide) (by kernel_rfl) (by kernel_rfl) (fun _ _ _ h => h) (Or.inl ⟨by rfl, fun w1 hS => ?_⟩) ?_
            · (try dsimp only at hS)
              go_simp
            simp only [Act.put, List.setIfInBounds_toArray, List.set_cons_zero, List.set_cons_succ]
            clear n1 n2 n3
            refine wpG_ready (rs := [13]) (by kernel_rfl) (by simp) (fun wd hGd hSd i hi => ?_)
            obtain rfl : i = 13 := by simpa using hi
            clear hi
            refine wpOp_step rfl (by rfl) (fun K' hK' => ?_)
            replace hK' := hide hK'
            go_simp
            refine hK'.out _ _ (wpG_kept (by decide) (hSd.alloc hSd.size _) ?_)
            clear hK' K'
            refine wpG_ready (rs := [14]) (by kernel_rfl) (by simp) (fun wf hGf hSf i hi => ?_)
            obtain rfl : i = 14 := by simpa using hi
            clear hi
            have hz := box_block hGf
            have hgB : wr.heap.size ≤ wd.heap.size := hSd.size
            have lz := liveN hz
            obtain ⟨z0, z1, z2⟩ : _ ∧ _ ∧ _ := ⟨cellN hz (i := 0) rfl, cellN hz (i := 1) rfl, cellN hz (i := 2) rfl⟩
            have HZ := hide hz
            have HSf := hide hSf
            refine wpOp_step rfl (by rfl) (fun K' hK' => ?_)
            go_simp
            refine hK' _ _ (wpG_past (by decide) ?_)
            clear hK' K' lz z0 z1 z2 hz hGd hGf hSd hSf
            refine wpAny_end (by kernel_rfl) ?_
            change Exit.then _ _ _ _ (setL wf wd.heap.size 0 [.int .i64 5, .string ps, .string pn])
            have KB := setL_all [.int .i64 5, .string ps, .string pn] HZ.out rfl
            have SB := setL_below (w := wr) (B := wr.heap.size) hgB [.int .i64 5, .string ps, .string pn] wf 0 HSf.out
            generalize setL wf wd.heap.size 0 [.int .i64 5, .string ps, .string pn] = V2 at *
            generalize wd.heap.size = gb at *
            have l2 := liveN KB
            obtain ⟨z0, z1, z2⟩ : _ ∧ _ ∧ _ := ⟨cellN KB (i := 0) rfl, cellN KB (i := 1) rfl, cellN KB (i := 2) rfl⟩
            have o1 := cellN (blk_below HKW.out SB) (i := 1) rfl
            have hMV := blk_below HMW.out SB
            cases hem : ps.toList.isEmpty
            · rw [← e0_emp, hem] at hmem
              simp only [Bool.false_eq_true, if_false] at hmem
              have LK := look_ref ⟨5, ps, pn⟩ hMV hmem
              try dsimp only at LK
              have HR := hide (HB55.out.trans (SB.mono HB55.out.size))
              clear HZ HSf KB SB hMV hmem
              go_wp2_with fail
              exact ⟨⟨k + 1, by omega, by go_num, HR.out⟩, by simp [intOf]; omega⟩
            · rw [← e0_emp, hem] at hmem
              simp only [if_true] at hmem
              have K3 := set_blk (i := 1) (.string ors) KB
              have S3 : Below wr.heap.size wr (V2.setCell ⟨gb, 1, none⟩ (.string ors)) := setL_below (w := wr) (B := wr.heap.size) (g := gb) hgB [.string ors] V2 1 SB
              have hM3 : (V2.setCell ⟨gb, 1, none⟩ (.string ors)).heap[m]? = _ := blk_below HMW.out S3
              have LK := look_ref ⟨5, ors, pn⟩ hM3 hmem
              try dsimp only at LK
              obtain ⟨y0, y1, y2⟩ : _ ∧ _ ∧ _ := ⟨cellN K3 (i := 0) rfl, cellN K3 (i := 1) rfl, cellN K3 (i := 2) rfl⟩
              have HR := hide (HB55.out.trans (S3.mono HB55.out.size))
              clear HZ HSf KB SB hMV hmem K3 S3 hM3
              go_wp2_with fail
              exact ⟨⟨k + 1, by omega, by go_num, HR.out⟩, by simp [intOf]; omega⟩
          · have hlt' : ¬ (k : Int) < (opa.length : Int) := by omega
            have HBw := hide (bb2 HB5.out hB)
            clear kq hMB hB
            go_wp2_with fail
            refine (oawake_any _).mono ?_
            rintro e w8 ⟨rfl, hb8⟩
            go_wp2_with fail
            go_ret
            exact ⟨rfl, bb2 HBw.out hb8⟩

theorem known_law (v0 : Value) (w : World) (h0 : ArgOb w v0) :
    Calls Tryz.prog 8 #[v0] w fun e w' => e = .returned (.bool true) ∧ Below w.heap.size w w' := by
  obtain ⟨x, rfl, hx, raw⟩ := h0
  by_cases h5 : x.ref.kind = 5
  · exact known_five x w hx raw h5
  · by_cases h6 : x.ref.kind = 6
    · exact known_six x w hx raw h6
    · exact known_other x w hx raw h5 h6

end Go.Proofs.YtblmdcpcekoogaaGreatDoor
