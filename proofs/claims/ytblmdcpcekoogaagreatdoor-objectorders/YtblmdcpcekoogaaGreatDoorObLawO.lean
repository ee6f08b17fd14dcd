/-
  The law ObjectOrders.
-/
import Derived.Test.YtblmdcpcekoogaaGreatDoorJ17
import Derived.Test.YtblmdcpcekoogaaGreatDoorObFewC
import Derived.Test.YtblmdcpcekoogaaGreatDoorJ18
import Derived.Test.YtblmdcpcekoogaaGreatDoorJ16
import Derived.BigQuiet
namespace Go.Proofs.YtblmdcpcekoogaaGreatDoor
set_option maxRecDepth 20000
open Go Go.RowKit Go.Shelf

attribute [local go_sem] gb_const

set_option linter.unusedSimpArgs false in
set_option linter.unusedVariables false in
set_option maxHeartbeats 12800000 in
theorem orders_law (v0 : Value) (w : World) (h0 : ArgTh w v0) :
    Calls Tryz.prog 6 #[v0] w fun e w' => e = .returned (.bool true) ∧ Below w.heap.size w w' := by
  obtain ⟨a, b, c, x, rfl, ra, rb, rc, hx, raw⟩ := h0
  have Ca := fun W => hide (fewRef_any a W ra)
  have Cb := fun W => hide (fewRef_any b W rb)
  have Cc := fun W => hide (fewRef_any c W rc)
  have CO := fun W (h : Below w.heap.size w W) => hide (fewO_any x W (hx.below h) raw)
  obtain ⟨X, hX⟩ : ∃ z, z = w.alloc (.cells #[.int .i64 a.kind, .string a.space, .string a.name, .int .i64 b.kind, .string b.space, .string b.name, .int .i64 c.kind, .string c.space, .string c.name, .int .i64 x.ref.kind, .string x.ref.space, .string x.ref.name, .bool x.good, .slice x.al x.labels.length x.cl, .slice x.ap x.ports.length x.cp, .string x.cls, .slice x.ai x.lis.length x.ci, .slice x.aq x.pars.length x.cq, .slice x.ah x.hosts.length x.ch, .slice x.ar x.rules.length x.cr, .slice x.af x.frm.length x.cf, .slice x.ao x.tos.length x.co] 63) := ⟨_, rfl⟩
  have B1 : Below w.heap.size w X := by rw [hX]; exact (Below.refl _ _).alloc (Nat.le_refl _) _
  have KQ : ∀ W, Below X.heap.size X W → W.heap[w.heap.size]? = some (.cells #[.int .i64 a.kind, .string a.space, .string a.name, .int .i64 b.kind, .string b.space, .string b.name, .int .i64 c.kind, .string c.space, .string c.name, .int .i64 x.ref.kind, .string x.ref.space, .string x.ref.name, .bool x.good, .slice x.al x.labels.length x.cl, .slice x.ap x.ports.length x.cp, .string x.cls, .slice x.ai x.lis.length x.ci, .slice x.aq x.pars.length x.cq, .slice x.ah x.hosts.length x.ch, .slice x.ar x.rules.length x.cr, .slice x.af x.frm.length x.cf, .slice x.ao x.tos.length x.co] 63) := fun W h => blk_below (by rw [hX]; exact alloc_new _ _) h
  have M0 := fun W h => cellN (KQ W h) (i := 0) rfl
  have M1 := fun W h => cellN (KQ W h) (i := 1) rfl
  have M2 := fun W h => cellN (KQ W h) (i := 2) rfl
  have M3 := fun W h => cellN (KQ W h) (i := 3) rfl
  have M4 := fun W h => cellN (KQ W h) (i := 4) rfl
  have M5 := fun W h => cellN (KQ W h) (i := 5) rfl
  have M6 := fun W h => cellN (KQ W h) (i := 6) rfl
  have M7 := fun W h => cellN (KQ W h) (i := 7) rfl
  have M8 := fun W h => cellN (KQ W h) (i := 8) rfl
  have M9 := fun W h => cellN (KQ W h) (i := 9) rfl
  have M10 := fun W h => cellN (KQ W h) (i := 10) rfl
  have M11 := fun W h => cellN (KQ W h) (i := 11) rfl
  have M12 := fun W h => cellN (KQ W h) (i := 12) rfl
  have M13 := fun W h => cellN (KQ W h) (i := 13) rfl
  have M14 := fun W h => cellN (KQ W h) (i := 14) rfl
  have M15 := fun W h => cellN (KQ W h) (i := 15) rfl
  have M16 := fun W h => cellN (KQ W h) (i := 16) rfl
  have M17 := fun W h => cellN (KQ W h) (i := 17) rfl
  have M18 := fun W h => cellN (KQ W h) (i := 18) rfl
  have M19 := fun W h => cellN (KQ W h) (i := 19) rfl
  have M20 := fun W h => cellN (KQ W h) (i := 20) rfl
  have M21 := fun W h => cellN (KQ W h) (i := 21) rfl
  clear KQ hx raw ra rb rc
  go_enter Tryz.func6, Tryz.ntmps6
  go_wp2_with fail
  rw [← hX]
  clear hX
  refine region_out [some 12, some 13, some 14, some 15, some 16, some 17, some 18, some 19, some 20, some 21, some 22, some 23, some 3, some 4, some 5, some 6] (fun f W => ∃ (ga gb gc go : Nat) (y : OV), f 12 = .pointer (some ⟨ga, 0, none⟩) ∧ f 13 = .pointer (some ⟨gb, 0, none⟩) ∧ f 14 = .pointer (some ⟨gc, 0, none⟩) ∧ f 15 = .pointer (some ⟨go, 0, none⟩) ∧ W.heap[ga]? = some (.cells #[.int .i64 a.kind, .string (fewB a.space), .string (fewB a.name)] 47) ∧ W.heap[gb]? = some (.cells #[.int .i64 b.kind, .string (fewB b.space), .string (fewB b.name)] 47) ∧ W.heap[gc]? = some (.cells #[.int .i64 c.kind, .string (fewB c.space), .string (fewB c.name)] 47) ∧ W.heap[go]? = some (.cells #[.int .i64 y.ref.kind, .string y.ref.space, .string y.ref.name, .bool y.good, .slice y.al y.labels.length y.cl, .slice y.ap y.ports.length y.cp, .string y.cls, .slice y.ai y.lis.length y.ci, .slice y.aq y.pars.length y.cq, .slice y.ah y.hosts.length y.ch, .slice y.ar y.rules.length y.cr, .slice y.af y.frm.length y.cf, .slice y.ao y.tos.length y.co] 55) ∧ y.b = fewO x.b ∧ y.own W ∧ Below X.heap.size X W) ?_ ?_
  · refine wp_region_news 16 10 (fun W => Below X.heap.size X W) [kC (.pointer (some ⟨w.heap.size, 0, none⟩)), kC (.agg #[.int .i64 a.kind, .string a.space, .string a.name]), kC (.agg #[.int .i64 a.kind, .string (fewB a.space), .string (fewB a.name)]), kC (.pointer (some ⟨w.heap.size, 3, none⟩)), kC (.agg #[.int .i64 b.kind, .string b.space, .string b.name]), kC (.agg #[.int .i64 b.kind, .string (fewB b.space), .string (fewB b.name)]), kC (.pointer (some ⟨w.heap.size, 6, none⟩)), kC (.agg #[.int .i64 c.kind, .string c.space, .string c.name]), kC (.agg #[.int .i64 c.kind, .string (fewB c.space), .string (fewB c.name)]), kC (.pointer (some ⟨w.heap.size, 9, none⟩)), kC (.agg #[.int .i64 x.ref.kind, .string x.ref.space, .string x.ref.name, .bool x.good, .slice x.al x.labels.length x.cl, .slice x.ap x.ports.length x.cp, .string x.cls, .slice x.ai x.lis.length x.ci, .slice x.aq x.pars.length x.cq, .slice x.ah x.hosts.length x.ch, .slice x.ar x.rules.length x.cr, .slice x.af x.frm.length x.cf, .slice x.ao x.tos.length x.co]), (fun W v => ∃ y : OV, v = oV y ∧ y.b = fewO x.b ∧ y.own W), kN X.heap.size (.cells #[.int .i64 0, .string ⟨#[]⟩, .string ⟨#[]⟩] 47), kN X.heap.size (.cells #[.int .i64 0, .string ⟨#[]⟩, .string ⟨#[]⟩] 47), kN X.heap.size (.cells #[.int .i64 0, .string ⟨#[]⟩, .string ⟨#[]⟩] 47), kN X.heap.size (.cells #[.int .i64 0, .string ⟨#[]⟩, .string ⟨#[]⟩, .bool false, .slice none 0 0, .slice none 0 0, .string ⟨#[]⟩, .slice none 0 0, .slice none 0 0, .slice none 0 0, .slice none 0 0, .slice none 0 0, .slice none 0 0] 55)] [12, 13, 14, 15] [some 12, some 13, some 14, some 15, some 16, some 17, some 18, some 19, some 20, some 21, some 22, some 23, some 3, some 4, some 5, some 6] #[true, true, true, true, true, true, true, true, true, true, true, true, true, true, true, true, false, false, false, false] (fun _ => undef) (by kernel_rfl) (by kernel_rfl) (by decide) (by kernel_rfl) (by simp only [putF, Act.put, List.setIfInBounds_toArray, List.set_cons_zero, List.set_cons_succ, Nat.reduceAdd]) ((Below.refl _ _).drew) ?_ (fun i hi => ?_) (by decide) (by kernel_rfl) (by kernel_rfl) rfl (by kernel_rfl) 3 (by decide) ?_
    · intro p hp
      simp only [List.mem_cons, List.not_mem_nil, or_false] at hp
      rcases hp with rfl | rfl | rfl | rfl | rfl | rfl | rfl | rfl | rfl | rfl | rfl | rfl | rfl | rfl | rfl | rfl
      · exact grows_C _
      · exact grows_C _
      · exact grows_C _
      · exact grows_C _
      · exact grows_C _
      · exact grows_C _
      · exact grows_C _
      · exact grows_C _
      · exact grows_C _
      · exact grows_C _
      · exact grows_C _
      · exact (fun _ _ _ hg ⟨y, h1, h2, h3⟩ => ⟨y, h1, h2, h3.below hg⟩)
      · exact grows_N _ _
      · exact grows_N _ _
      · exact grows_N _ _
      · exact grows_N _ _
    · have hi2 : i = 0 ∨ i = 1 ∨ i = 2 ∨ i = 3 ∨ i = 4 ∨ i = 5 ∨ i = 6 ∨ i = 7 ∨ i = 8 ∨ i = 9 ∨ i = 10 ∨ i = 11 ∨ i = 12 ∨ i = 13 ∨ i = 14 ∨ i = 15 := by omega
      clear hi
      rcases hi2 with rfl | rfl | rfl | rfl | rfl | rfl | rfl | rfl | rfl | rfl | rfl | rfl | rfl | rfl | rfl | rfl
      · refine stepF_of rfl fun L f W hk hw => ⟨by rfl, fun K hK => ?_⟩
        have hS := hk.hs
        clear hk hw
        simp only [putF, Act.put, List.setIfInBounds_toArray, List.set_cons_zero, List.set_cons_succ, Nat.reduceAdd]
        go_simp
        exact hK.out _ W _ (by simp only [putF, Act.put, List.setIfInBounds_toArray, List.set_cons_zero, List.set_cons_succ, Nat.reduceAdd]) (Grow.refl _) hS rfl (newG_none (by decide))
      · refine stepF_of rfl fun L f W hk hw => ⟨by rfl, fun K hK => ?_⟩
        have hS := hk.hs
        have d0 : f 0 = .pointer (some ⟨w.heap.size, 0, none⟩) := hk.hf 0 (hw 0 (by kernel_rfl))
        have e0 := M0 W hS
        have e1 := M1 W hS
        have e2 := M2 W hS
        clear hk hw
        simp only [putF, Act.put, List.setIfInBounds_toArray, List.set_cons_zero, List.set_cons_succ, Nat.reduceAdd]
        simp only [d0]
        go_simp
        exact hK.out _ W _ (by simp only [putF, Act.put, List.setIfInBounds_toArray, List.set_cons_zero, List.set_cons_succ, Nat.reduceAdd]; simp only [d0]) (Grow.refl _) hS rfl (newG_none (by decide))
      · refine stepF_of rfl fun L f W hk hw => ⟨by rfl, fun K hK => ?_⟩
        have hS := hk.hs
        have d1 : f 1 = .agg #[.int .i64 a.kind, .string a.space, .string a.name] := hk.hf 1 (hw 1 (by kernel_rfl))
        clear hk hw
        simp only [putF, Act.put, List.setIfInBounds_toArray, List.set_cons_zero, List.set_cons_succ, Nat.reduceAdd]
        simp only [d1]
        go_simp
        refine ((Ca W).out).mono ?_
        rintro e W2 ⟨rfl, hb2⟩
        go_wp2_with fail
        exact hK.out _ W2 _ (by simp only [putF, Act.put, List.setIfInBounds_toArray, List.set_cons_zero, List.set_cons_succ, Nat.reduceAdd]; simp only [d1]; try rfl) hb2 (hS.trans (hb2.mono hS.size)) (rfl) (newG_none (by decide))
      · refine stepF_of rfl fun L f W hk hw => ⟨by rfl, fun K hK => ?_⟩
        have hS := hk.hs
        clear hk hw
        simp only [putF, Act.put, List.setIfInBounds_toArray, List.set_cons_zero, List.set_cons_succ, Nat.reduceAdd]
        go_simp
        exact hK.out _ W _ (by simp only [putF, Act.put, List.setIfInBounds_toArray, List.set_cons_zero, List.set_cons_succ, Nat.reduceAdd]) (Grow.refl _) hS rfl (newG_none (by decide))
      · refine stepF_of rfl fun L f W hk hw => ⟨by rfl, fun K hK => ?_⟩
        have hS := hk.hs
        have d3 : f 3 = .pointer (some ⟨w.heap.size, 3, none⟩) := hk.hf 3 (hw 3 (by kernel_rfl))
        have e0 := M3 W hS
        have e1 := M4 W hS
        have e2 := M5 W hS
        clear hk hw
        simp only [putF, Act.put, List.setIfInBounds_toArray, List.set_cons_zero, List.set_cons_succ, Nat.reduceAdd]
        simp only [d3]
        go_simp
        exact hK.out _ W _ (by simp only [putF, Act.put, List.setIfInBounds_toArray, List.set_cons_zero, List.set_cons_succ, Nat.reduceAdd]; simp only [d3]) (Grow.refl _) hS rfl (newG_none (by decide))
      · refine stepF_of rfl fun L f W hk hw => ⟨by rfl, fun K hK => ?_⟩
        have hS := hk.hs
        have d4 : f 4 = .agg #[.int .i64 b.kind, .string b.space, .string b.name] := hk.hf 4 (hw 4 (by kernel_rfl))
        clear hk hw
        simp only [putF, Act.put, List.setIfInBounds_toArray, List.set_cons_zero, List.set_cons_succ, Nat.reduceAdd]
        simp only [d4]
        go_simp
        refine ((Cb W).out).mono ?_
        rintro e W2 ⟨rfl, hb2⟩
        go_wp2_with fail
        exact hK.out _ W2 _ (by simp only [putF, Act.put, List.setIfInBounds_toArray, List.set_cons_zero, List.set_cons_succ, Nat.reduceAdd]; simp only [d4]; try rfl) hb2 (hS.trans (hb2.mono hS.size)) (rfl) (newG_none (by decide))
      · refine stepF_of rfl fun L f W hk hw => ⟨by rfl, fun K hK => ?_⟩
        have hS := hk.hs
        clear hk hw
        simp only [putF, Act.put, List.setIfInBounds_toArray, List.set_cons_zero, List.set_cons_succ, Nat.reduceAdd]
        go_simp
        exact hK.out _ W _ (by simp only [putF, Act.put, List.setIfInBounds_toArray, List.set_cons_zero, List.set_cons_succ, Nat.reduceAdd]) (Grow.refl _) hS rfl (newG_none (by decide))
      · refine stepF_of rfl fun L f W hk hw => ⟨by rfl, fun K hK => ?_⟩
        have hS := hk.hs
        have d6 : f 6 = .pointer (some ⟨w.heap.size, 6, none⟩) := hk.hf 6 (hw 6 (by kernel_rfl))
        have e0 := M6 W hS
        have e1 := M7 W hS
        have e2 := M8 W hS
        clear hk hw
        simp only [putF, Act.put, List.setIfInBounds_toArray, List.set_cons_zero, List.set_cons_succ, Nat.reduceAdd]
        simp only [d6]
        go_simp
        exact hK.out _ W _ (by simp only [putF, Act.put, List.setIfInBounds_toArray, List.set_cons_zero, List.set_cons_succ, Nat.reduceAdd]; simp only [d6]) (Grow.refl _) hS rfl (newG_none (by decide))
      · refine stepF_of rfl fun L f W hk hw => ⟨by rfl, fun K hK => ?_⟩
        have hS := hk.hs
        have d7 : f 7 = .agg #[.int .i64 c.kind, .string c.space, .string c.name] := hk.hf 7 (hw 7 (by kernel_rfl))
        clear hk hw
        simp only [putF, Act.put, List.setIfInBounds_toArray, List.set_cons_zero, List.set_cons_succ, Nat.reduceAdd]
        simp only [d7]
        go_simp
        refine ((Cc W).out).mono ?_
        rintro e W2 ⟨rfl, hb2⟩
        go_wp2_with fail
        exact hK.out _ W2 _ (by simp only [putF, Act.put, List.setIfInBounds_toArray, List.set_cons_zero, List.set_cons_succ, Nat.reduceAdd]; simp only [d7]; try rfl) hb2 (hS.trans (hb2.mono hS.size)) (rfl) (newG_none (by decide))
      · refine stepF_of rfl fun L f W hk hw => ⟨by rfl, fun K hK => ?_⟩
        have hS := hk.hs
        clear hk hw
        simp only [putF, Act.put, List.setIfInBounds_toArray, List.set_cons_zero, List.set_cons_succ, Nat.reduceAdd]
        go_simp
        exact hK.out _ W _ (by simp only [putF, Act.put, List.setIfInBounds_toArray, List.set_cons_zero, List.set_cons_succ, Nat.reduceAdd]) (Grow.refl _) hS rfl (newG_none (by decide))
      · refine stepF_of rfl fun L f W hk hw => ⟨by rfl, fun K hK => ?_⟩
        have hS := hk.hs
        have d9 : f 9 = .pointer (some ⟨w.heap.size, 9, none⟩) := hk.hf 9 (hw 9 (by kernel_rfl))
        have e0 := M9 W hS
        have e1 := M10 W hS
        have e2 := M11 W hS
        have e3 := M12 W hS
        have e4 := M13 W hS
        have e5 := M14 W hS
        have e6 := M15 W hS
        have e7 := M16 W hS
        have e8 := M17 W hS
        have e9 := M18 W hS
        have e10 := M19 W hS
        have e11 := M20 W hS
        have e12 := M21 W hS
        clear hk hw
        simp only [putF, Act.put, List.setIfInBounds_toArray, List.set_cons_zero, List.set_cons_succ, Nat.reduceAdd]
        simp only [d9]
        go_simp
        exact hK.out _ W _ (by simp only [putF, Act.put, List.setIfInBounds_toArray, List.set_cons_zero, List.set_cons_succ, Nat.reduceAdd]; simp only [d9]) (Grow.refl _) hS rfl (newG_none (by decide))
      · refine stepF_of rfl fun L f W hk hw => ⟨by rfl, fun K hK => ?_⟩
        have hS := hk.hs
        have d10 : f 10 = .agg #[.int .i64 x.ref.kind, .string x.ref.space, .string x.ref.name, .bool x.good, .slice x.al x.labels.length x.cl, .slice x.ap x.ports.length x.cp, .string x.cls, .slice x.ai x.lis.length x.ci, .slice x.aq x.pars.length x.cq, .slice x.ah x.hosts.length x.ch, .slice x.ar x.rules.length x.cr, .slice x.af x.frm.length x.cf, .slice x.ao x.tos.length x.co] := hk.hf 10 (hw 10 (by kernel_rfl))
        clear hk hw
        simp only [putF, Act.put, List.setIfInBounds_toArray, List.set_cons_zero, List.set_cons_succ, Nat.reduceAdd]
        simp only [d10]
        go_simp
        refine ((CO W (B1.trans (hS.mono B1.size))).out).mono ?_
        rintro e W2 ⟨y, rfl, hy, hown, hb2⟩
        go_wp2_with fail
        exact hK.out _ W2 _ (by simp only [putF, Act.put, List.setIfInBounds_toArray, List.set_cons_zero, List.set_cons_succ, Nat.reduceAdd]; simp only [d10]; try rfl) hb2 (hS.trans (hb2.mono hS.size)) (⟨y, rfl, hy, hown⟩) (newG_none (by decide))
      · refine stepF_of rfl fun L f W hk hw => ⟨by rfl, fun K hK => ?_⟩
        have hS := hk.hs
        simp only [putF, Act.put, List.setIfInBounds_toArray, List.set_cons_zero, List.set_cons_succ, Nat.reduceAdd]
        go_simp
        exact hK.out _ _ _ (by simp only [putF, Act.put, List.setIfInBounds_toArray, List.set_cons_zero, List.set_cons_succ, Nat.reduceAdd]) ((Below.refl _ _).alloc (Nat.le_refl _) _) (hS.alloc hS.size _) ⟨W.heap.size, rfl, hS.size, alloc_new W _⟩ (newG_fresh (by intro j hj; simp only [List.mem_cons, List.not_mem_nil, or_false] at hj; rcases hj with rfl | rfl | rfl | rfl; all_goals exact ⟨_, _, rfl⟩) hk)
      · refine stepF_of rfl fun L f W hk hw => ⟨by rfl, fun K hK => ?_⟩
        have hS := hk.hs
        simp only [putF, Act.put, List.setIfInBounds_toArray, List.set_cons_zero, List.set_cons_succ, Nat.reduceAdd]
        go_simp
        exact hK.out _ _ _ (by simp only [putF, Act.put, List.setIfInBounds_toArray, List.set_cons_zero, List.set_cons_succ, Nat.reduceAdd]) ((Below.refl _ _).alloc (Nat.le_refl _) _) (hS.alloc hS.size _) ⟨W.heap.size, rfl, hS.size, alloc_new W _⟩ (newG_fresh (by intro j hj; simp only [List.mem_cons, List.not_mem_nil, or_false] at hj; rcases hj with rfl | rfl | rfl | rfl; all_goals exact ⟨_, _, rfl⟩) hk)
      · refine stepF_of rfl fun L f W hk hw => ⟨by rfl, fun K hK => ?_⟩
        have hS := hk.hs
        simp only [putF, Act.put, List.setIfInBounds_toArray, List.set_cons_zero, List.set_cons_succ, Nat.reduceAdd]
        go_simp
        exact hK.out _ _ _ (by simp only [putF, Act.put, List.setIfInBounds_toArray, List.set_cons_zero, List.set_cons_succ, Nat.reduceAdd]) ((Below.refl _ _).alloc (Nat.le_refl _) _) (hS.alloc hS.size _) ⟨W.heap.size, rfl, hS.size, alloc_new W _⟩ (newG_fresh (by intro j hj; simp only [List.mem_cons, List.not_mem_nil, or_false] at hj; rcases hj with rfl | rfl | rfl | rfl; all_goals exact ⟨_, _, rfl⟩) hk)
      · refine stepF_of rfl fun L f W hk hw => ⟨by rfl, fun K hK => ?_⟩
        have hS := hk.hs
        simp only [putF, Act.put, List.setIfInBounds_toArray, List.set_cons_zero, List.set_cons_succ, Nat.reduceAdd]
        go_simp
        exact hK.out _ _ _ (by simp only [putF, Act.put, List.setIfInBounds_toArray, List.set_cons_zero, List.set_cons_succ, Nat.reduceAdd]) ((Below.refl _ _).alloc (Nat.le_refl _) _) (hS.alloc hS.size _) ⟨W.heap.size, rfl, hS.size, alloc_new W _⟩ (newG_fresh (by intro j hj; simp only [List.mem_cons, List.not_mem_nil, or_false] at hj; rcases hj with rfl | rfl | rfl | rfl; all_goals exact ⟨_, _, rfl⟩) hk)
    · intro f W hk
      simp only [putF, Act.put, List.setIfInBounds_toArray, List.set_cons_zero, List.set_cons_succ, Nat.reduceAdd]
      obtain ⟨ga, pa, hBa, za⟩ : ∃ g, f 12 = .pointer (some ⟨g, 0, none⟩) ∧ X.heap.size ≤ g ∧ W.heap[g]? = some (.cells #[.int .i64 0, .string ⟨#[]⟩, .string ⟨#[]⟩] 47) := hk.hf 12 (by decide)
      obtain ⟨gb, pb, hBb, zb⟩ : ∃ g, f 13 = .pointer (some ⟨g, 0, none⟩) ∧ X.heap.size ≤ g ∧ W.heap[g]? = some (.cells #[.int .i64 0, .string ⟨#[]⟩, .string ⟨#[]⟩] 47) := hk.hf 13 (by decide)
      obtain ⟨gc, pc, hBc, zc⟩ : ∃ g, f 14 = .pointer (some ⟨g, 0, none⟩) ∧ X.heap.size ≤ g ∧ W.heap[g]? = some (.cells #[.int .i64 0, .string ⟨#[]⟩, .string ⟨#[]⟩] 47) := hk.hf 14 (by decide)
      obtain ⟨go, po, hBo, zo⟩ : ∃ g, f 15 = .pointer (some ⟨g, 0, none⟩) ∧ X.heap.size ≤ g ∧ W.heap[g]? = some (.cells #[.int .i64 0, .string ⟨#[]⟩, .string ⟨#[]⟩, .bool false, .slice none 0 0, .slice none 0 0, .string ⟨#[]⟩, .slice none 0 0, .slice none 0 0, .slice none 0 0, .slice none 0 0, .slice none 0 0, .slice none 0 0] 55) := hk.hf 15 (by decide)
      have nab : ga ≠ gb := news_apart (hk.hg 12 13 (by decide) (by decide) (by decide)) pa pb (by decide)
      have nac : ga ≠ gc := news_apart (hk.hg 12 14 (by decide) (by decide) (by decide)) pa pc (by decide)
      have nao : ga ≠ go := news_apart (hk.hg 12 15 (by decide) (by decide) (by decide)) pa po (by decide)
      have nbc : gb ≠ gc := news_apart (hk.hg 13 14 (by decide) (by decide) (by decide)) pb pc (by decide)
      have nbo : gb ≠ go := news_apart (hk.hg 13 15 (by decide) (by decide) (by decide)) pb po (by decide)
      have nco : gc ≠ go := news_apart (hk.hg 14 15 (by decide) (by decide) (by decide)) pc po (by decide)
      have va : f 2 = .agg #[.int .i64 a.kind, .string (fewB a.space), .string (fewB a.name)] := hk.hf 2 (by decide)
      have vb : f 5 = .agg #[.int .i64 b.kind, .string (fewB b.space), .string (fewB b.name)] := hk.hf 5 (by decide)
      have vc : f 8 = .agg #[.int .i64 c.kind, .string (fewB c.space), .string (fewB c.name)] := hk.hf 8 (by decide)
      obtain ⟨y, hv, hy, hown⟩ : ∃ y : OV, f 11 = oV y ∧ y.b = fewO x.b ∧ y.own W := hk.hf 11 (by decide)
      have HB := hk.hs
      clear hk
      have HZa := hide za
      have lz := liveN za
      obtain ⟨y0, y1, y2⟩ : _ ∧ _ ∧ _ := ⟨cellN za (i := 0) rfl, cellN za (i := 1) rfl, cellN za (i := 2) rfl⟩
      refine wpOp_step rfl (by rfl) (fun K hK => ?_)
      try simp only [pa, va]
      go_simp
      refine hK _ _ ?_
      clear hK K lz y0 y1 y2
      change wpAny _ _ _ _ _ _ _ (setL W ga 0 [.int .i64 a.kind, .string (fewB a.space), .string (fewB a.name)])
      have HKa := setL_all [.int .i64 a.kind, .string (fewB a.space), .string (fewB a.name)] HZa.out rfl
      have Qb := (setL_far (nab.symm) [.int .i64 a.kind, .string (fewB a.space), .string (fewB a.name)] W 0).trans zb
      have Qc := (setL_far (nac.symm) [.int .i64 a.kind, .string (fewB a.space), .string (fewB a.name)] W 0).trans zc
      have Qo := (setL_far (nao.symm) [.int .i64 a.kind, .string (fewB a.space), .string (fewB a.name)] W 0).trans zo
      have Ohown := hown.bxt ((BX.refl _ _ _).setL 0 [.int .i64 a.kind, .string (fewB a.space), .string (fewB a.name)]) HZa.out (by decide)
      have HB2 := setL_below hBa [.int .i64 a.kind, .string (fewB a.space), .string (fewB a.name)] W 0 HB
      clear HZa za zb zc zo hown HB
      generalize setL W ga 0 [.int .i64 a.kind, .string (fewB a.space), .string (fewB a.name)] = V0 at *
      have ka := HKa
      clear HKa
      have zb := Qb
      clear Qb
      have zc := Qc
      clear Qc
      have zo := Qo
      clear Qo
      have hown := Ohown
      clear Ohown
      have HB := HB2
      clear HB2
      refine wpAny_one (i := 17) (by kernel_rfl) ?_
      have HZb := hide zb
      have lz := liveN zb
      obtain ⟨y0, y1, y2⟩ : _ ∧ _ ∧ _ := ⟨cellN zb (i := 0) rfl, cellN zb (i := 1) rfl, cellN zb (i := 2) rfl⟩
      refine wpOp_step rfl (by rfl) (fun K hK => ?_)
      try simp only [pb, vb]
      go_simp
      refine hK _ _ ?_
      clear hK K lz y0 y1 y2
      change wpAny _ _ _ _ _ _ _ (setL V0 gb 0 [.int .i64 b.kind, .string (fewB b.space), .string (fewB b.name)])
      have HKb := setL_all [.int .i64 b.kind, .string (fewB b.space), .string (fewB b.name)] HZb.out rfl
      have Qa := (setL_far (nab) [.int .i64 b.kind, .string (fewB b.space), .string (fewB b.name)] V0 0).trans ka
      have Qc := (setL_far (nbc.symm) [.int .i64 b.kind, .string (fewB b.space), .string (fewB b.name)] V0 0).trans zc
      have Qo := (setL_far (nbo.symm) [.int .i64 b.kind, .string (fewB b.space), .string (fewB b.name)] V0 0).trans zo
      have Ohown := hown.bxt ((BX.refl _ _ _).setL 0 [.int .i64 b.kind, .string (fewB b.space), .string (fewB b.name)]) HZb.out (by decide)
      have HB2 := setL_below hBb [.int .i64 b.kind, .string (fewB b.space), .string (fewB b.name)] V0 0 HB
      clear HZb zb ka zc zo hown HB
      generalize setL V0 gb 0 [.int .i64 b.kind, .string (fewB b.space), .string (fewB b.name)] = V1 at *
      have kb := HKb
      clear HKb
      have ka := Qa
      clear Qa
      have zc := Qc
      clear Qc
      have zo := Qo
      clear Qo
      have hown := Ohown
      clear Ohown
      have HB := HB2
      clear HB2
      refine wpAny_one (i := 18) (by kernel_rfl) ?_
      have HZc := hide zc
      have lz := liveN zc
      obtain ⟨y0, y1, y2⟩ : _ ∧ _ ∧ _ := ⟨cellN zc (i := 0) rfl, cellN zc (i := 1) rfl, cellN zc (i := 2) rfl⟩
      refine wpOp_step rfl (by rfl) (fun K hK => ?_)
      try simp only [pc, vc]
      go_simp
      refine hK _ _ ?_
      clear hK K lz y0 y1 y2
      change wpAny _ _ _ _ _ _ _ (setL V1 gc 0 [.int .i64 c.kind, .string (fewB c.space), .string (fewB c.name)])
      have HKc := setL_all [.int .i64 c.kind, .string (fewB c.space), .string (fewB c.name)] HZc.out rfl
      have Qa := (setL_far (nac) [.int .i64 c.kind, .string (fewB c.space), .string (fewB c.name)] V1 0).trans ka
      have Qb := (setL_far (nbc) [.int .i64 c.kind, .string (fewB c.space), .string (fewB c.name)] V1 0).trans kb
      have Qo := (setL_far (nco.symm) [.int .i64 c.kind, .string (fewB c.space), .string (fewB c.name)] V1 0).trans zo
      have Ohown := hown.bxt ((BX.refl _ _ _).setL 0 [.int .i64 c.kind, .string (fewB c.space), .string (fewB c.name)]) HZc.out (by decide)
      have HB2 := setL_below hBc [.int .i64 c.kind, .string (fewB c.space), .string (fewB c.name)] V1 0 HB
      clear HZc zc ka kb zo hown HB
      generalize setL V1 gc 0 [.int .i64 c.kind, .string (fewB c.space), .string (fewB c.name)] = V2 at *
      have kc := HKc
      clear HKc
      have ka := Qa
      clear Qa
      have kb := Qb
      clear Qb
      have zo := Qo
      clear Qo
      have hown := Ohown
      clear Ohown
      have HB := HB2
      clear HB2
      refine wpAny_one (i := 19) (by kernel_rfl) ?_
      have HZo := hide zo
      have lz := liveN zo
      obtain ⟨y0, y1, y2, y3, y4, y5, y6, y7, y8, y9, y10, y11, y12⟩ : _ ∧ _ ∧ _ ∧ _ ∧ _ ∧ _ ∧ _ ∧ _ ∧ _ ∧ _ ∧ _ ∧ _ ∧ _ := ⟨cellN zo (i := 0) rfl, cellN zo (i := 1) rfl, cellN zo (i := 2) rfl, cellN zo (i := 3) rfl, cellN zo (i := 4) rfl, cellN zo (i := 5) rfl, cellN zo (i := 6) rfl, cellN zo (i := 7) rfl, cellN zo (i := 8) rfl, cellN zo (i := 9) rfl, cellN zo (i := 10) rfl, cellN zo (i := 11) rfl, cellN zo (i := 12) rfl⟩
      refine wpOp_step rfl (by rfl) (fun K hK => ?_)
      try simp only [po, hv]
      go_simp
      refine hK _ _ ?_
      clear hK K lz y0 y1 y2 y3 y4 y5 y6 y7 y8 y9 y10 y11 y12
      change wpAny _ _ _ _ _ _ _ (setL V2 go 0 [.int .i64 y.ref.kind, .string y.ref.space, .string y.ref.name, .bool y.good, .slice y.al y.labels.length y.cl, .slice y.ap y.ports.length y.cp, .string y.cls, .slice y.ai y.lis.length y.ci, .slice y.aq y.pars.length y.cq, .slice y.ah y.hosts.length y.ch, .slice y.ar y.rules.length y.cr, .slice y.af y.frm.length y.cf, .slice y.ao y.tos.length y.co])
      have HKo := setL_all [.int .i64 y.ref.kind, .string y.ref.space, .string y.ref.name, .bool y.good, .slice y.al y.labels.length y.cl, .slice y.ap y.ports.length y.cp, .string y.cls, .slice y.ai y.lis.length y.ci, .slice y.aq y.pars.length y.cq, .slice y.ah y.hosts.length y.ch, .slice y.ar y.rules.length y.cr, .slice y.af y.frm.length y.cf, .slice y.ao y.tos.length y.co] HZo.out rfl
      have Qa := (setL_far (nao) [.int .i64 y.ref.kind, .string y.ref.space, .string y.ref.name, .bool y.good, .slice y.al y.labels.length y.cl, .slice y.ap y.ports.length y.cp, .string y.cls, .slice y.ai y.lis.length y.ci, .slice y.aq y.pars.length y.cq, .slice y.ah y.hosts.length y.ch, .slice y.ar y.rules.length y.cr, .slice y.af y.frm.length y.cf, .slice y.ao y.tos.length y.co] V2 0).trans ka
      have Qb := (setL_far (nbo) [.int .i64 y.ref.kind, .string y.ref.space, .string y.ref.name, .bool y.good, .slice y.al y.labels.length y.cl, .slice y.ap y.ports.length y.cp, .string y.cls, .slice y.ai y.lis.length y.ci, .slice y.aq y.pars.length y.cq, .slice y.ah y.hosts.length y.ch, .slice y.ar y.rules.length y.cr, .slice y.af y.frm.length y.cf, .slice y.ao y.tos.length y.co] V2 0).trans kb
      have Qc := (setL_far (nco) [.int .i64 y.ref.kind, .string y.ref.space, .string y.ref.name, .bool y.good, .slice y.al y.labels.length y.cl, .slice y.ap y.ports.length y.cp, .string y.cls, .slice y.ai y.lis.length y.ci, .slice y.aq y.pars.length y.cq, .slice y.ah y.hosts.length y.ch, .slice y.ar y.rules.length y.cr, .slice y.af y.frm.length y.cf, .slice y.ao y.tos.length y.co] V2 0).trans kc
      have Ohown := hown.bxt ((BX.refl _ _ _).setL 0 [.int .i64 y.ref.kind, .string y.ref.space, .string y.ref.name, .bool y.good, .slice y.al y.labels.length y.cl, .slice y.ap y.ports.length y.cp, .string y.cls, .slice y.ai y.lis.length y.ci, .slice y.aq y.pars.length y.cq, .slice y.ah y.hosts.length y.ch, .slice y.ar y.rules.length y.cr, .slice y.af y.frm.length y.cf, .slice y.ao y.tos.length y.co]) HZo.out (by decide)
      have HB2 := setL_below hBo [.int .i64 y.ref.kind, .string y.ref.space, .string y.ref.name, .bool y.good, .slice y.al y.labels.length y.cl, .slice y.ap y.ports.length y.cp, .string y.cls, .slice y.ai y.lis.length y.ci, .slice y.aq y.pars.length y.cq, .slice y.ah y.hosts.length y.ch, .slice y.ar y.rules.length y.cr, .slice y.af y.frm.length y.cf, .slice y.ao y.tos.length y.co] V2 0 HB
      clear HZo zo ka kb kc hown HB
      generalize setL V2 go 0 [.int .i64 y.ref.kind, .string y.ref.space, .string y.ref.name, .bool y.good, .slice y.al y.labels.length y.cl, .slice y.ap y.ports.length y.cp, .string y.cls, .slice y.ai y.lis.length y.ci, .slice y.aq y.pars.length y.cq, .slice y.ah y.hosts.length y.ch, .slice y.ar y.rules.length y.cr, .slice y.af y.frm.length y.cf, .slice y.ao y.tos.length y.co] = V3 at *
      have ko := HKo
      clear HKo
      have ka := Qa
      clear Qa
      have kb := Qb
      clear Qb
      have kc := Qc
      clear Qc
      have hown := Ohown
      clear Ohown
      have HB := HB2
      clear HB2
      refine wpAny_end (by kernel_rfl) ⟨rfl, f, (by simp only [pa, pb, pc, po, va, vb, vc, hv]), ga, gb, gc, go, y, pa, pb, pc, po, ka, kb, kc, ko, hy, hown, HB⟩
  rintro f W ⟨ga, gb, gc, go, y, pa, pb, pc, po, ka, kb, kc, ko, hy, hown, HB⟩
  clear M0 M1 M2 M3 M4 M5 M6 M7 M8 M9 M10 M11 M12 M13 M14 M15 M16 M17 M18 M19 M20 M21 Ca Cb Cc CO
  have BZ := bb2 B1 HB
  have ok := fewO_ok hy
  have at_ := hown.at_
  clear hown hy B1 HB
  simp only [putF, Act.put, List.setIfInBounds_toArray, List.set_cons_zero, List.set_cons_succ, Nat.reduceAdd]
  simp only [pa, pb, pc, po]
  clear pa pb pc po
  have a0 := fun q : GB W => cellN (blk_below ka q.h) (i := 0) rfl
  have a1 := fun q : GB W => cellN (blk_below ka q.h) (i := 1) rfl
  have a2 := fun q : GB W => cellN (blk_below ka q.h) (i := 2) rfl
  have b0 := fun q : GB W => cellN (blk_below kb q.h) (i := 0) rfl
  have b1 := fun q : GB W => cellN (blk_below kb q.h) (i := 1) rfl
  have b2 := fun q : GB W => cellN (blk_below kb q.h) (i := 2) rfl
  have c0 := fun q : GB W => cellN (blk_below kc q.h) (i := 0) rfl
  have c1 := fun q : GB W => cellN (blk_below kc q.h) (i := 1) rfl
  have c2 := fun q : GB W => cellN (blk_below kc q.h) (i := 2) rfl
  have o0 := fun q : GB W => cellN (blk_below ko q.h) (i := 0) rfl
  have o1 := fun q : GB W => cellN (blk_below ko q.h) (i := 1) rfl
  have o2 := fun q : GB W => cellN (blk_below ko q.h) (i := 2) rfl
  have o3 := fun q : GB W => cellN (blk_below ko q.h) (i := 3) rfl
  have o4 := fun q : GB W => cellN (blk_below ko q.h) (i := 4) rfl
  have o5 := fun q : GB W => cellN (blk_below ko q.h) (i := 5) rfl
  have o6 := fun q : GB W => cellN (blk_below ko q.h) (i := 6) rfl
  have o7 := fun q : GB W => cellN (blk_below ko q.h) (i := 7) rfl
  have o8 := fun q : GB W => cellN (blk_below ko q.h) (i := 8) rfl
  have o9 := fun q : GB W => cellN (blk_below ko q.h) (i := 9) rfl
  have o10 := fun q : GB W => cellN (blk_below ko q.h) (i := 10) rfl
  have o11 := fun q : GB W => cellN (blk_below ko q.h) (i := 11) rfl
  have o12 := fun q : GB W => cellN (blk_below ko q.h) (i := 12) rfl
  have D01 := fun q : GB W => hide (oorder_any ⟨a.kind, fewB a.space, fewB a.name⟩ ⟨b.kind, fewB b.space, fewB b.name⟩ q.W)
  have D12 := fun q : GB W => hide (oorder_any ⟨b.kind, fewB b.space, fewB b.name⟩ ⟨c.kind, fewB c.space, fewB c.name⟩ q.W)
  have D02 := fun q : GB W => hide (oorder_any ⟨a.kind, fewB a.space, fewB a.name⟩ ⟨c.kind, fewB c.space, fewB c.name⟩ q.W)
  have D10 := fun q : GB W => hide (oorder_any ⟨b.kind, fewB b.space, fewB b.name⟩ ⟨a.kind, fewB a.space, fewB a.name⟩ q.W)
  have CR := fun q : GB W => hide (refs_any y q.W (at_.below q.h) ok)
  have HASC := hide (Ob.refsO_asc y.b)
  have HBA := Ob.ordR_anti ⟨a.kind, fewB a.space, fewB a.name⟩ ⟨b.kind, fewB b.space, fewB b.name⟩
  simp only [HBA] at D10
  have EQ : ∀ V, (Op.equalIn 10000 47 (.agg #[.int .i64 a.kind, .string (fewB a.space), .string (fewB a.name)]) (.agg #[.int .i64 b.kind, .string (fewB b.space), .string (fewB b.name)])).run Tryz.prog V = .ok (decide (Ob.ordR ⟨a.kind, fewB a.space, fewB a.name⟩ ⟨b.kind, fewB b.space, fewB b.name⟩ = 0)) V := fun V => by
    rw [eqRef]
    congr 1
    rw [decide_eq_decide, Ob.ordR_zero, Ob.toList_iff, Ob.toList_iff, RfB.mk.injEq]
  have HT : Hid (Ob.ordR ⟨a.kind, fewB a.space, fewB a.name⟩ ⟨b.kind, fewB b.space, fewB b.name⟩ ≤ 0 → Ob.ordR ⟨b.kind, fewB b.space, fewB b.name⟩ ⟨c.kind, fewB c.space, fewB c.name⟩ ≤ 0 → Ob.ordR ⟨a.kind, fewB a.space, fewB a.name⟩ ⟨c.kind, fewB c.space, fewB c.name⟩ ≤ 0) := fun h1 h2 => Ob.ordR_trans _ _ _ h1 h2
  have HTL : Hid (Ob.ordR ⟨a.kind, fewB a.space, fewB a.name⟩ ⟨b.kind, fewB b.space, fewB b.name⟩ < 0 → Ob.ordR ⟨b.kind, fewB b.space, fewB b.name⟩ ⟨c.kind, fewB c.space, fewB c.name⟩ ≤ 0 → Ob.ordR ⟨a.kind, fewB a.space, fewB a.name⟩ ⟨c.kind, fewB c.space, fewB c.name⟩ < 0) := fun h1 h2 => Ob.ordR_lt _ _ _ h1 h2
  have hr1 := Ob.ordR_range ⟨a.kind, fewB a.space, fewB a.name⟩ ⟨b.kind, fewB b.space, fewB b.name⟩
  have hr2 := Ob.ordR_range ⟨b.kind, fewB b.space, fewB b.name⟩ ⟨c.kind, fewB c.space, fewB c.name⟩
  generalize Ob.ordR ⟨a.kind, fewB a.space, fewB a.name⟩ ⟨b.kind, fewB b.space, fewB b.name⟩ = ox at *
  generalize Ob.ordR ⟨b.kind, fewB b.space, fewB b.name⟩ ⟨c.kind, fewB c.space, fewB c.name⟩ = oy at *
  generalize Ob.ordR ⟨a.kind, fewB a.space, fewB a.name⟩ ⟨c.kind, fewB c.space, fewB c.name⟩ = oz at *
  generalize Ob.refsO y.b = L at *
  clear HBA ka kb kc ko ok at_
  rcases hr1 with rfl | rfl | rfl
  · rcases hr2 with rfl | rfl | rfl
    · have z1 : decide (0 < oz) = false := decide_eq_false (by have := HTL.out (by omega) (by omega); omega)
      have z2 : decide (0 ≤ oz) = false := decide_eq_false (by have := HTL.out (by omega) (by omega); omega)
      clear HT HTL
      go_wp2_with fail
      refine wp_region_below (by kernel_rfl) (by kernel_rfl) ?_
      repeat (first | go_big_quiet_step ((go_at_call 28; first | with_reducible exact calls_gb (D01 _).out | with_reducible exact calls_gb (D12 _).out | with_reducible exact calls_gb (D02 _).out)) | quiet_step ((go_at_call 28; first | with_reducible exact calls_gb (D01 _).out | with_reducible exact calls_gb (D12 _).out | with_reducible exact calls_gb (D02 _).out)))
      refine wpQuiet_nil ?_
      intro _ hw'
      obtain ⟨q, hw2⟩ := hw'
      subst hw2
      go_wp2_with fail
      refine (calls_gb ((D10 _).out)).mono ?_
      rintro e x ⟨rfl, q, rfl⟩
      go_wp2_with fail
      refine (CR _).out.mono ?_
      rintro e W5 ⟨v5, rfl, hsl, hb5⟩
      have BB5 := hide (bb2 BZ (bb2 q.h hb5))
      obtain ⟨ad, cap, rfl, hle1, hle2, hc⟩ := hsl
      have HC := hide hc
      have hLm : L.length ≤ 9223372036854775807 := by have h1 := hle1; have h2 := hle2; unfold maxLen at h2; omega
      clear a0 a1 a2 b0 b1 b2 c0 c1 c2 o0 o1 o2 o3 o4 o5 o6 o7 o8 o9 o10 o11 o12 D01 D12 D02 D10 CR EQ hc BZ hb5
      go_wp2_with fail
      go_loopw [11] (fun i wr => ∃ j : Nat, j ≤ L.length ∧ i = .int .i64 ((j + 1 : Nat) : Int) ∧ Below W5.heap.size W5 wr) (fun i _ => L.length + 1 - (intOf i).toNat)
      case atStart => exact ⟨0, Nat.zero_le _, rfl, Below.refl _ _⟩
      case round =>
        obtain ⟨j, hj, rfl, hB⟩ := hrel
        by_cases hlt : j + 1 < L.length
        · have hlt' : ((j + 1 : Nat) : Int) < (L.length : Int) := by omega
          have hlt2 : (j : Int) < (L.length : Int) := by omega
          obtain ⟨_, g1, p1, e1, hg1, hat1⟩ := HC.out (j + 1) hlt
          obtain ⟨_, g2, p2, e2, hg2, hat2⟩ := HC.out j (by omega)
          rw [e1] at e2
          obtain ⟨rfl, rfl⟩ : g1 = g2 ∧ p1 = p2 := by simpa using e2
          subst e1
          have HO := hide (show Ob.ordR L[j] L[j + 1] < 0 from List.pairwise_iff_getElem.1 HASC.out j (j + 1) (by omega) hlt (by omega))
          have E1 := fun q : GB wr => ER_at (show ER.At q.W g1 (p1 + (j + 1) * 3) L[j + 1] from hat1.below hg1 (bb2 hB q.h))
          have E2 := fun q : GB wr => ER_at (show ER.At q.W g1 (p1 + j * 3) L[j] from hat2.below hg2 (bb2 hB q.h))
          have DL := fun q : GB wr => hide (oorder_any L[j] L[j + 1] q.W)
          generalize Ob.ordR L[j] L[j + 1] = ol at *
          generalize L[j + 1] = x1 at *
          generalize L[j] = x2 at *
          obtain ⟨k1, s1, n1⟩ := x1
          obtain ⟨k2, s2, n2⟩ := x2
          dsimp only at *
          have f10 := fun q => (E1 q).1
          have f11 := fun q => (E1 q).2.1
          have f12 := fun q => (E1 q).2.2
          have f20 := fun q => (E2 q).1
          have f21 := fun q => (E2 q).2.1
          have f22 := fun q => (E2 q).2.2
          have hwj : IntKind.i64.wrap (((j + 1 : Nat) : Int) - 1) = (j : Int) := by rw [IntKind.wrap_i64]; omega
          have hol : decide (0 ≤ ol) = false := decide_eq_false (by have := HO.out; omega)
          clear hat1 hat2 E1 E2 e2 hg1 hg2
          go_wp2_with fail
          refine wp_region_below (by kernel_rfl) (by kernel_rfl) ?_
          repeat (first | go_big_quiet_step ((go_at_call 28; exact calls_gb (DL _).out)) | quiet_step ((go_at_call 28; exact calls_gb (DL _).out)))
          refine wpQuiet_nil ?_
          intro _ hw'
          obtain ⟨q, hw2⟩ := hw'
          subst hw2
          go_wp2_with fail
          exact ⟨⟨j + 1, by omega, by go_num, bb2 hB q.h⟩, by simp [intOf]; omega⟩
        · have hlt' : ¬ ((j + 1 : Nat) : Int) < (L.length : Int) := by omega
          go_wp2_with fail
          refine (oawake_any _).mono ?_
          rintro e w8 ⟨rfl, hb8⟩
          go_wp2_with fail
          go_ret
          exact ⟨rfl, bb2 BB5.out (bb2 hB hb8)⟩
    · have z1 : decide (0 < oz) = false := decide_eq_false (by have := HTL.out (by omega) (by omega); omega)
      have z2 : decide (0 ≤ oz) = false := decide_eq_false (by have := HTL.out (by omega) (by omega); omega)
      clear HT HTL
      go_wp2_with fail
      refine wp_region_below (by kernel_rfl) (by kernel_rfl) ?_
      repeat (first | go_big_quiet_step ((go_at_call 28; first | with_reducible exact calls_gb (D01 _).out | with_reducible exact calls_gb (D12 _).out | with_reducible exact calls_gb (D02 _).out)) | quiet_step ((go_at_call 28; first | with_reducible exact calls_gb (D01 _).out | with_reducible exact calls_gb (D12 _).out | with_reducible exact calls_gb (D02 _).out)))
      refine wpQuiet_nil ?_
      intro _ hw'
      obtain ⟨q, hw2⟩ := hw'
      subst hw2
      go_wp2_with fail
      refine (calls_gb ((D10 _).out)).mono ?_
      rintro e x ⟨rfl, q, rfl⟩
      go_wp2_with fail
      refine (CR _).out.mono ?_
      rintro e W5 ⟨v5, rfl, hsl, hb5⟩
      have BB5 := hide (bb2 BZ (bb2 q.h hb5))
      obtain ⟨ad, cap, rfl, hle1, hle2, hc⟩ := hsl
      have HC := hide hc
      have hLm : L.length ≤ 9223372036854775807 := by have h1 := hle1; have h2 := hle2; unfold maxLen at h2; omega
      clear a0 a1 a2 b0 b1 b2 c0 c1 c2 o0 o1 o2 o3 o4 o5 o6 o7 o8 o9 o10 o11 o12 D01 D12 D02 D10 CR EQ hc BZ hb5
      go_wp2_with fail
      go_loopw [11] (fun i wr => ∃ j : Nat, j ≤ L.length ∧ i = .int .i64 ((j + 1 : Nat) : Int) ∧ Below W5.heap.size W5 wr) (fun i _ => L.length + 1 - (intOf i).toNat)
      case atStart => exact ⟨0, Nat.zero_le _, rfl, Below.refl _ _⟩
      case round =>
        obtain ⟨j, hj, rfl, hB⟩ := hrel
        by_cases hlt : j + 1 < L.length
        · have hlt' : ((j + 1 : Nat) : Int) < (L.length : Int) := by omega
          have hlt2 : (j : Int) < (L.length : Int) := by omega
          obtain ⟨_, g1, p1, e1, hg1, hat1⟩ := HC.out (j + 1) hlt
          obtain ⟨_, g2, p2, e2, hg2, hat2⟩ := HC.out j (by omega)
          rw [e1] at e2
          obtain ⟨rfl, rfl⟩ : g1 = g2 ∧ p1 = p2 := by simpa using e2
          subst e1
          have HO := hide (show Ob.ordR L[j] L[j + 1] < 0 from List.pairwise_iff_getElem.1 HASC.out j (j + 1) (by omega) hlt (by omega))
          have E1 := fun q : GB wr => ER_at (show ER.At q.W g1 (p1 + (j + 1) * 3) L[j + 1] from hat1.below hg1 (bb2 hB q.h))
          have E2 := fun q : GB wr => ER_at (show ER.At q.W g1 (p1 + j * 3) L[j] from hat2.below hg2 (bb2 hB q.h))
          have DL := fun q : GB wr => hide (oorder_any L[j] L[j + 1] q.W)
          generalize Ob.ordR L[j] L[j + 1] = ol at *
          generalize L[j + 1] = x1 at *
          generalize L[j] = x2 at *
          obtain ⟨k1, s1, n1⟩ := x1
          obtain ⟨k2, s2, n2⟩ := x2
          dsimp only at *
          have f10 := fun q => (E1 q).1
          have f11 := fun q => (E1 q).2.1
          have f12 := fun q => (E1 q).2.2
          have f20 := fun q => (E2 q).1
          have f21 := fun q => (E2 q).2.1
          have f22 := fun q => (E2 q).2.2
          have hwj : IntKind.i64.wrap (((j + 1 : Nat) : Int) - 1) = (j : Int) := by rw [IntKind.wrap_i64]; omega
          have hol : decide (0 ≤ ol) = false := decide_eq_false (by have := HO.out; omega)
          clear hat1 hat2 E1 E2 e2 hg1 hg2
          go_wp2_with fail
          refine wp_region_below (by kernel_rfl) (by kernel_rfl) ?_
          repeat (first | go_big_quiet_step ((go_at_call 28; exact calls_gb (DL _).out)) | quiet_step ((go_at_call 28; exact calls_gb (DL _).out)))
          refine wpQuiet_nil ?_
          intro _ hw'
          obtain ⟨q, hw2⟩ := hw'
          subst hw2
          go_wp2_with fail
          exact ⟨⟨j + 1, by omega, by go_num, bb2 hB q.h⟩, by simp [intOf]; omega⟩
        · have hlt' : ¬ ((j + 1 : Nat) : Int) < (L.length : Int) := by omega
          go_wp2_with fail
          refine (oawake_any _).mono ?_
          rintro e w8 ⟨rfl, hb8⟩
          go_wp2_with fail
          go_ret
          exact ⟨rfl, bb2 BB5.out (bb2 hB hb8)⟩
    · clear HT HTL
      go_wp2_with fail
      refine wp_region_below (by kernel_rfl) (by kernel_rfl) ?_
      repeat (first | go_big_quiet_step ((go_at_call 28; first | with_reducible exact calls_gb (D01 _).out | with_reducible exact calls_gb (D12 _).out | with_reducible exact calls_gb (D02 _).out)) | quiet_step ((go_at_call 28; first | with_reducible exact calls_gb (D01 _).out | with_reducible exact calls_gb (D12 _).out | with_reducible exact calls_gb (D02 _).out)))
      refine wpQuiet_nil ?_
      intro _ hw'
      obtain ⟨q, hw2⟩ := hw'
      subst hw2
      go_wp2_with fail
      refine (calls_gb ((D10 _).out)).mono ?_
      rintro e x ⟨rfl, q, rfl⟩
      go_wp2_with fail
      refine (CR _).out.mono ?_
      rintro e W5 ⟨v5, rfl, hsl, hb5⟩
      have BB5 := hide (bb2 BZ (bb2 q.h hb5))
      obtain ⟨ad, cap, rfl, hle1, hle2, hc⟩ := hsl
      have HC := hide hc
      have hLm : L.length ≤ 9223372036854775807 := by have h1 := hle1; have h2 := hle2; unfold maxLen at h2; omega
      clear a0 a1 a2 b0 b1 b2 c0 c1 c2 o0 o1 o2 o3 o4 o5 o6 o7 o8 o9 o10 o11 o12 D01 D12 D02 D10 CR EQ hc BZ hb5
      go_wp2_with fail
      go_loopw [11] (fun i wr => ∃ j : Nat, j ≤ L.length ∧ i = .int .i64 ((j + 1 : Nat) : Int) ∧ Below W5.heap.size W5 wr) (fun i _ => L.length + 1 - (intOf i).toNat)
      case atStart => exact ⟨0, Nat.zero_le _, rfl, Below.refl _ _⟩
      case round =>
        obtain ⟨j, hj, rfl, hB⟩ := hrel
        by_cases hlt : j + 1 < L.length
        · have hlt' : ((j + 1 : Nat) : Int) < (L.length : Int) := by omega
          have hlt2 : (j : Int) < (L.length : Int) := by omega
          obtain ⟨_, g1, p1, e1, hg1, hat1⟩ := HC.out (j + 1) hlt
          obtain ⟨_, g2, p2, e2, hg2, hat2⟩ := HC.out j (by omega)
          rw [e1] at e2
          obtain ⟨rfl, rfl⟩ : g1 = g2 ∧ p1 = p2 := by simpa using e2
          subst e1
          have HO := hide (show Ob.ordR L[j] L[j + 1] < 0 from List.pairwise_iff_getElem.1 HASC.out j (j + 1) (by omega) hlt (by omega))
          have E1 := fun q : GB wr => ER_at (show ER.At q.W g1 (p1 + (j + 1) * 3) L[j + 1] from hat1.below hg1 (bb2 hB q.h))
          have E2 := fun q : GB wr => ER_at (show ER.At q.W g1 (p1 + j * 3) L[j] from hat2.below hg2 (bb2 hB q.h))
          have DL := fun q : GB wr => hide (oorder_any L[j] L[j + 1] q.W)
          generalize Ob.ordR L[j] L[j + 1] = ol at *
          generalize L[j + 1] = x1 at *
          generalize L[j] = x2 at *
          obtain ⟨k1, s1, n1⟩ := x1
          obtain ⟨k2, s2, n2⟩ := x2
          dsimp only at *
          have f10 := fun q => (E1 q).1
          have f11 := fun q => (E1 q).2.1
          have f12 := fun q => (E1 q).2.2
          have f20 := fun q => (E2 q).1
          have f21 := fun q => (E2 q).2.1
          have f22 := fun q => (E2 q).2.2
          have hwj : IntKind.i64.wrap (((j + 1 : Nat) : Int) - 1) = (j : Int) := by rw [IntKind.wrap_i64]; omega
          have hol : decide (0 ≤ ol) = false := decide_eq_false (by have := HO.out; omega)
          clear hat1 hat2 E1 E2 e2 hg1 hg2
          go_wp2_with fail
          refine wp_region_below (by kernel_rfl) (by kernel_rfl) ?_
          repeat (first | go_big_quiet_step ((go_at_call 28; exact calls_gb (DL _).out)) | quiet_step ((go_at_call 28; exact calls_gb (DL _).out)))
          refine wpQuiet_nil ?_
          intro _ hw'
          obtain ⟨q, hw2⟩ := hw'
          subst hw2
          go_wp2_with fail
          exact ⟨⟨j + 1, by omega, by go_num, bb2 hB q.h⟩, by simp [intOf]; omega⟩
        · have hlt' : ¬ ((j + 1 : Nat) : Int) < (L.length : Int) := by omega
          go_wp2_with fail
          refine (oawake_any _).mono ?_
          rintro e w8 ⟨rfl, hb8⟩
          go_wp2_with fail
          go_ret
          exact ⟨rfl, bb2 BB5.out (bb2 hB hb8)⟩
  · rcases hr2 with rfl | rfl | rfl
    · have z1 : decide (0 < oz) = false := decide_eq_false (by have := HT.out (by omega) (by omega); omega)
      clear HT HTL
      go_wp2_with fail
      refine wp_region_below (by kernel_rfl) (by kernel_rfl) ?_
      repeat (first | go_big_quiet_step ((go_at_call 28; first | with_reducible exact calls_gb (D01 _).out | with_reducible exact calls_gb (D12 _).out | with_reducible exact calls_gb (D02 _).out)) | quiet_step ((go_at_call 28; first | with_reducible exact calls_gb (D01 _).out | with_reducible exact calls_gb (D12 _).out | with_reducible exact calls_gb (D02 _).out)))
      refine wpQuiet_nil ?_
      intro _ hw'
      obtain ⟨q, hw2⟩ := hw'
      subst hw2
      go_wp2_with fail
      refine (calls_gb ((D10 _).out)).mono ?_
      rintro e x ⟨rfl, q, rfl⟩
      go_wp2_with fail
      refine (CR _).out.mono ?_
      rintro e W5 ⟨v5, rfl, hsl, hb5⟩
      have BB5 := hide (bb2 BZ (bb2 q.h hb5))
      obtain ⟨ad, cap, rfl, hle1, hle2, hc⟩ := hsl
      have HC := hide hc
      have hLm : L.length ≤ 9223372036854775807 := by have h1 := hle1; have h2 := hle2; unfold maxLen at h2; omega
      clear a0 a1 a2 b0 b1 b2 c0 c1 c2 o0 o1 o2 o3 o4 o5 o6 o7 o8 o9 o10 o11 o12 D01 D12 D02 D10 CR EQ hc BZ hb5
      go_wp2_with fail
      go_loopw [11] (fun i wr => ∃ j : Nat, j ≤ L.length ∧ i = .int .i64 ((j + 1 : Nat) : Int) ∧ Below W5.heap.size W5 wr) (fun i _ => L.length + 1 - (intOf i).toNat)
      case atStart => exact ⟨0, Nat.zero_le _, rfl, Below.refl _ _⟩
      case round =>
        obtain ⟨j, hj, rfl, hB⟩ := hrel
        by_cases hlt : j + 1 < L.length
        · have hlt' : ((j + 1 : Nat) : Int) < (L.length : Int) := by omega
          have hlt2 : (j : Int) < (L.length : Int) := by omega
          obtain ⟨_, g1, p1, e1, hg1, hat1⟩ := HC.out (j + 1) hlt
          obtain ⟨_, g2, p2, e2, hg2, hat2⟩ := HC.out j (by omega)
          rw [e1] at e2
          obtain ⟨rfl, rfl⟩ : g1 = g2 ∧ p1 = p2 := by simpa using e2
          subst e1
          have HO := hide (show Ob.ordR L[j] L[j + 1] < 0 from List.pairwise_iff_getElem.1 HASC.out j (j + 1) (by omega) hlt (by omega))
          have E1 := fun q : GB wr => ER_at (show ER.At q.W g1 (p1 + (j + 1) * 3) L[j + 1] from hat1.below hg1 (bb2 hB q.h))
          have E2 := fun q : GB wr => ER_at (show ER.At q.W g1 (p1 + j * 3) L[j] from hat2.below hg2 (bb2 hB q.h))
          have DL := fun q : GB wr => hide (oorder_any L[j] L[j + 1] q.W)
          generalize Ob.ordR L[j] L[j + 1] = ol at *
          generalize L[j + 1] = x1 at *
          generalize L[j] = x2 at *
          obtain ⟨k1, s1, n1⟩ := x1
          obtain ⟨k2, s2, n2⟩ := x2
          dsimp only at *
          have f10 := fun q => (E1 q).1
          have f11 := fun q => (E1 q).2.1
          have f12 := fun q => (E1 q).2.2
          have f20 := fun q => (E2 q).1
          have f21 := fun q => (E2 q).2.1
          have f22 := fun q => (E2 q).2.2
          have hwj : IntKind.i64.wrap (((j + 1 : Nat) : Int) - 1) = (j : Int) := by rw [IntKind.wrap_i64]; omega
          have hol : decide (0 ≤ ol) = false := decide_eq_false (by have := HO.out; omega)
          clear hat1 hat2 E1 E2 e2 hg1 hg2
          go_wp2_with fail
          refine wp_region_below (by kernel_rfl) (by kernel_rfl) ?_
          repeat (first | go_big_quiet_step ((go_at_call 28; exact calls_gb (DL _).out)) | quiet_step ((go_at_call 28; exact calls_gb (DL _).out)))
          refine wpQuiet_nil ?_
          intro _ hw'
          obtain ⟨q, hw2⟩ := hw'
          subst hw2
          go_wp2_with fail
          exact ⟨⟨j + 1, by omega, by go_num, bb2 hB q.h⟩, by simp [intOf]; omega⟩
        · have hlt' : ¬ ((j + 1 : Nat) : Int) < (L.length : Int) := by omega
          go_wp2_with fail
          refine (oawake_any _).mono ?_
          rintro e w8 ⟨rfl, hb8⟩
          go_wp2_with fail
          go_ret
          exact ⟨rfl, bb2 BB5.out (bb2 hB hb8)⟩
    · have z1 : decide (0 < oz) = false := decide_eq_false (by have := HT.out (by omega) (by omega); omega)
      clear HT HTL
      go_wp2_with fail
      refine wp_region_below (by kernel_rfl) (by kernel_rfl) ?_
      repeat (first | go_big_quiet_step ((go_at_call 28; first | with_reducible exact calls_gb (D01 _).out | with_reducible exact calls_gb (D12 _).out | with_reducible exact calls_gb (D02 _).out)) | quiet_step ((go_at_call 28; first | with_reducible exact calls_gb (D01 _).out | with_reducible exact calls_gb (D12 _).out | with_reducible exact calls_gb (D02 _).out)))
      refine wpQuiet_nil ?_
      intro _ hw'
      obtain ⟨q, hw2⟩ := hw'
      subst hw2
      go_wp2_with fail
      refine (calls_gb ((D10 _).out)).mono ?_
      rintro e x ⟨rfl, q, rfl⟩
      go_wp2_with fail
      refine (CR _).out.mono ?_
      rintro e W5 ⟨v5, rfl, hsl, hb5⟩
      have BB5 := hide (bb2 BZ (bb2 q.h hb5))
      obtain ⟨ad, cap, rfl, hle1, hle2, hc⟩ := hsl
      have HC := hide hc
      have hLm : L.length ≤ 9223372036854775807 := by have h1 := hle1; have h2 := hle2; unfold maxLen at h2; omega
      clear a0 a1 a2 b0 b1 b2 c0 c1 c2 o0 o1 o2 o3 o4 o5 o6 o7 o8 o9 o10 o11 o12 D01 D12 D02 D10 CR EQ hc BZ hb5
      go_wp2_with fail
      go_loopw [11] (fun i wr => ∃ j : Nat, j ≤ L.length ∧ i = .int .i64 ((j + 1 : Nat) : Int) ∧ Below W5.heap.size W5 wr) (fun i _ => L.length + 1 - (intOf i).toNat)
      case atStart => exact ⟨0, Nat.zero_le _, rfl, Below.refl _ _⟩
      case round =>
        obtain ⟨j, hj, rfl, hB⟩ := hrel
        by_cases hlt : j + 1 < L.length
        · have hlt' : ((j + 1 : Nat) : Int) < (L.length : Int) := by omega
          have hlt2 : (j : Int) < (L.length : Int) := by omega
          obtain ⟨_, g1, p1, e1, hg1, hat1⟩ := HC.out (j + 1) hlt
          obtain ⟨_, g2, p2, e2, hg2, hat2⟩ := HC.out j (by omega)
          rw [e1] at e2
          obtain ⟨rfl, rfl⟩ : g1 = g2 ∧ p1 = p2 := by simpa using e2
          subst e1
          have HO := hide (show Ob.ordR L[j] L[j + 1] < 0 from List.pairwise_iff_getElem.1 HASC.out j (j + 1) (by omega) hlt (by omega))
          have E1 := fun q : GB wr => ER_at (show ER.At q.W g1 (p1 + (j + 1) * 3) L[j + 1] from hat1.below hg1 (bb2 hB q.h))
          have E2 := fun q : GB wr => ER_at (show ER.At q.W g1 (p1 + j * 3) L[j] from hat2.below hg2 (bb2 hB q.h))
          have DL := fun q : GB wr => hide (oorder_any L[j] L[j + 1] q.W)
          generalize Ob.ordR L[j] L[j + 1] = ol at *
          generalize L[j + 1] = x1 at *
          generalize L[j] = x2 at *
          obtain ⟨k1, s1, n1⟩ := x1
          obtain ⟨k2, s2, n2⟩ := x2
          dsimp only at *
          have f10 := fun q => (E1 q).1
          have f11 := fun q => (E1 q).2.1
          have f12 := fun q => (E1 q).2.2
          have f20 := fun q => (E2 q).1
          have f21 := fun q => (E2 q).2.1
          have f22 := fun q => (E2 q).2.2
          have hwj : IntKind.i64.wrap (((j + 1 : Nat) : Int) - 1) = (j : Int) := by rw [IntKind.wrap_i64]; omega
          have hol : decide (0 ≤ ol) = false := decide_eq_false (by have := HO.out; omega)
          clear hat1 hat2 E1 E2 e2 hg1 hg2
          go_wp2_with fail
          refine wp_region_below (by kernel_rfl) (by kernel_rfl) ?_
          repeat (first | go_big_quiet_step ((go_at_call 28; exact calls_gb (DL _).out)) | quiet_step ((go_at_call 28; exact calls_gb (DL _).out)))
          refine wpQuiet_nil ?_
          intro _ hw'
          obtain ⟨q, hw2⟩ := hw'
          subst hw2
          go_wp2_with fail
          exact ⟨⟨j + 1, by omega, by go_num, bb2 hB q.h⟩, by simp [intOf]; omega⟩
        · have hlt' : ¬ ((j + 1 : Nat) : Int) < (L.length : Int) := by omega
          go_wp2_with fail
          refine (oawake_any _).mono ?_
          rintro e w8 ⟨rfl, hb8⟩
          go_wp2_with fail
          go_ret
          exact ⟨rfl, bb2 BB5.out (bb2 hB hb8)⟩
    · clear HT HTL
      go_wp2_with fail
      refine wp_region_below (by kernel_rfl) (by kernel_rfl) ?_
      repeat (first | go_big_quiet_step ((go_at_call 28; first | with_reducible exact calls_gb (D01 _).out | with_reducible exact calls_gb (D12 _).out | with_reducible exact calls_gb (D02 _).out)) | quiet_step ((go_at_call 28; first | with_reducible exact calls_gb (D01 _).out | with_reducible exact calls_gb (D12 _).out | with_reducible exact calls_gb (D02 _).out)))
      refine wpQuiet_nil ?_
      intro _ hw'
      obtain ⟨q, hw2⟩ := hw'
      subst hw2
      go_wp2_with fail
      refine (calls_gb ((D10 _).out)).mono ?_
      rintro e x ⟨rfl, q, rfl⟩
      go_wp2_with fail
      refine (CR _).out.mono ?_
      rintro e W5 ⟨v5, rfl, hsl, hb5⟩
      have BB5 := hide (bb2 BZ (bb2 q.h hb5))
      obtain ⟨ad, cap, rfl, hle1, hle2, hc⟩ := hsl
      have HC := hide hc
      have hLm : L.length ≤ 9223372036854775807 := by have h1 := hle1; have h2 := hle2; unfold maxLen at h2; omega
      clear a0 a1 a2 b0 b1 b2 c0 c1 c2 o0 o1 o2 o3 o4 o5 o6 o7 o8 o9 o10 o11 o12 D01 D12 D02 D10 CR EQ hc BZ hb5
      go_wp2_with fail
      go_loopw [11] (fun i wr => ∃ j : Nat, j ≤ L.length ∧ i = .int .i64 ((j + 1 : Nat) : Int) ∧ Below W5.heap.size W5 wr) (fun i _ => L.length + 1 - (intOf i).toNat)
      case atStart => exact ⟨0, Nat.zero_le _, rfl, Below.refl _ _⟩
      case round =>
        obtain ⟨j, hj, rfl, hB⟩ := hrel
        by_cases hlt : j + 1 < L.length
        · have hlt' : ((j + 1 : Nat) : Int) < (L.length : Int) := by omega
          have hlt2 : (j : Int) < (L.length : Int) := by omega
          obtain ⟨_, g1, p1, e1, hg1, hat1⟩ := HC.out (j + 1) hlt
          obtain ⟨_, g2, p2, e2, hg2, hat2⟩ := HC.out j (by omega)
          rw [e1] at e2
          obtain ⟨rfl, rfl⟩ : g1 = g2 ∧ p1 = p2 := by simpa using e2
          subst e1
          have HO := hide (show Ob.ordR L[j] L[j + 1] < 0 from List.pairwise_iff_getElem.1 HASC.out j (j + 1) (by omega) hlt (by omega))
          have E1 := fun q : GB wr => ER_at (show ER.At q.W g1 (p1 + (j + 1) * 3) L[j + 1] from hat1.below hg1 (bb2 hB q.h))
          have E2 := fun q : GB wr => ER_at (show ER.At q.W g1 (p1 + j * 3) L[j] from hat2.below hg2 (bb2 hB q.h))
          have DL := fun q : GB wr => hide (oorder_any L[j] L[j + 1] q.W)
          generalize Ob.ordR L[j] L[j + 1] = ol at *
          generalize L[j + 1] = x1 at *
          generalize L[j] = x2 at *
          obtain ⟨k1, s1, n1⟩ := x1
          obtain ⟨k2, s2, n2⟩ := x2
          dsimp only at *
          have f10 := fun q => (E1 q).1
          have f11 := fun q => (E1 q).2.1
          have f12 := fun q => (E1 q).2.2
          have f20 := fun q => (E2 q).1
          have f21 := fun q => (E2 q).2.1
          have f22 := fun q => (E2 q).2.2
          have hwj : IntKind.i64.wrap (((j + 1 : Nat) : Int) - 1) = (j : Int) := by rw [IntKind.wrap_i64]; omega
          have hol : decide (0 ≤ ol) = false := decide_eq_false (by have := HO.out; omega)
          clear hat1 hat2 E1 E2 e2 hg1 hg2
          go_wp2_with fail
          refine wp_region_below (by kernel_rfl) (by kernel_rfl) ?_
          repeat (first | go_big_quiet_step ((go_at_call 28; exact calls_gb (DL _).out)) | quiet_step ((go_at_call 28; exact calls_gb (DL _).out)))
          refine wpQuiet_nil ?_
          intro _ hw'
          obtain ⟨q, hw2⟩ := hw'
          subst hw2
          go_wp2_with fail
          exact ⟨⟨j + 1, by omega, by go_num, bb2 hB q.h⟩, by simp [intOf]; omega⟩
        · have hlt' : ¬ ((j + 1 : Nat) : Int) < (L.length : Int) := by omega
          go_wp2_with fail
          refine (oawake_any _).mono ?_
          rintro e w8 ⟨rfl, hb8⟩
          go_wp2_with fail
          go_ret
          exact ⟨rfl, bb2 BB5.out (bb2 hB hb8)⟩
  · clear hr2
    clear HT HTL
    go_wp2_with fail
    refine wp_region_below (by kernel_rfl) (by kernel_rfl) ?_
    repeat (first | go_big_quiet_step ((go_at_call 28; first | with_reducible exact calls_gb (D01 _).out | with_reducible exact calls_gb (D12 _).out | with_reducible exact calls_gb (D02 _).out)) | quiet_step ((go_at_call 28; first | with_reducible exact calls_gb (D01 _).out | with_reducible exact calls_gb (D12 _).out | with_reducible exact calls_gb (D02 _).out)))
    refine wpQuiet_nil ?_
    intro _ hw'
    obtain ⟨q, hw2⟩ := hw'
    subst hw2
    go_wp2_with fail
    refine (calls_gb ((D10 _).out)).mono ?_
    rintro e x ⟨rfl, q, rfl⟩
    go_wp2_with fail
    refine (CR _).out.mono ?_
    rintro e W5 ⟨v5, rfl, hsl, hb5⟩
    have BB5 := hide (bb2 BZ (bb2 q.h hb5))
    obtain ⟨ad, cap, rfl, hle1, hle2, hc⟩ := hsl
    have HC := hide hc
    have hLm : L.length ≤ 9223372036854775807 := by have h1 := hle1; have h2 := hle2; unfold maxLen at h2; omega
    clear a0 a1 a2 b0 b1 b2 c0 c1 c2 o0 o1 o2 o3 o4 o5 o6 o7 o8 o9 o10 o11 o12 D01 D12 D02 D10 CR EQ hc BZ hb5
    go_wp2_with fail
    go_loopw [11] (fun i wr => ∃ j : Nat, j ≤ L.length ∧ i = .int .i64 ((j + 1 : Nat) : Int) ∧ Below W5.heap.size W5 wr) (fun i _ => L.length + 1 - (intOf i).toNat)
    case atStart => exact ⟨0, Nat.zero_le _, rfl, Below.refl _ _⟩
    case round =>
      obtain ⟨j, hj, rfl, hB⟩ := hrel
      by_cases hlt : j + 1 < L.length
      · have hlt' : ((j + 1 : Nat) : Int) < (L.length : Int) := by omega
        have hlt2 : (j : Int) < (L.length : Int) := by omega
        obtain ⟨_, g1, p1, e1, hg1, hat1⟩ := HC.out (j + 1) hlt
        obtain ⟨_, g2, p2, e2, hg2, hat2⟩ := HC.out j (by omega)
        rw [e1] at e2
        obtain ⟨rfl, rfl⟩ : g1 = g2 ∧ p1 = p2 := by simpa using e2
        subst e1
        have HO := hide (show Ob.ordR L[j] L[j + 1] < 0 from List.pairwise_iff_getElem.1 HASC.out j (j + 1) (by omega) hlt (by omega))
        have E1 := fun q : GB wr => ER_at (show ER.At q.W g1 (p1 + (j + 1) * 3) L[j + 1] from hat1.below hg1 (bb2 hB q.h))
        have E2 := fun q : GB wr => ER_at (show ER.At q.W g1 (p1 + j * 3) L[j] from hat2.below hg2 (bb2 hB q.h))
        have DL := fun q : GB wr => hide (oorder_any L[j] L[j + 1] q.W)
        generalize Ob.ordR L[j] L[j + 1] = ol at *
        generalize L[j + 1] = x1 at *
        generalize L[j] = x2 at *
        obtain ⟨k1, s1, n1⟩ := x1
        obtain ⟨k2, s2, n2⟩ := x2
        dsimp only at *
        have f10 := fun q => (E1 q).1
        have f11 := fun q => (E1 q).2.1
        have f12 := fun q => (E1 q).2.2
        have f20 := fun q => (E2 q).1
        have f21 := fun q => (E2 q).2.1
        have f22 := fun q => (E2 q).2.2
        have hwj : IntKind.i64.wrap (((j + 1 : Nat) : Int) - 1) = (j : Int) := by rw [IntKind.wrap_i64]; omega
        have hol : decide (0 ≤ ol) = false := decide_eq_false (by have := HO.out; omega)
        clear hat1 hat2 E1 E2 e2 hg1 hg2
        go_wp2_with fail
        refine wp_region_below (by kernel_rfl) (by kernel_rfl) ?_
        repeat (first | go_big_quiet_step ((go_at_call 28; exact calls_gb (DL _).out)) | quiet_step ((go_at_call 28; exact calls_gb (DL _).out)))
        refine wpQuiet_nil ?_
        intro _ hw'
        obtain ⟨q, hw2⟩ := hw'
        subst hw2
        go_wp2_with fail
        exact ⟨⟨j + 1, by omega, by go_num, bb2 hB q.h⟩, by simp [intOf]; omega⟩
      · have hlt' : ¬ ((j + 1 : Nat) : Int) < (L.length : Int) := by omega
        go_wp2_with fail
        refine (oawake_any _).mono ?_
        rintro e w8 ⟨rfl, hb8⟩
        go_wp2_with fail
        go_ret
        exact ⟨rfl, bb2 BB5.out (bb2 hB hb8)⟩

end Go.Proofs.YtblmdcpcekoogaaGreatDoor
