/-
  The laws' cut of what is asked.
-/
import Derived.Test.YtfoabpkiaihkiaaDoorFiLawA
import Derived.Test.YtfoabpkiaihkiaaDoorPaWalkD
namespace Go.Proofs.YtfoabpkiaihkiaaDoor
set_option maxRecDepth 20000
open Go Go.RowKit Go.Shelf Fi

/-- what is asked, as a value -/
abbrev akV (vl : Value) (k : Int) (s : ByteArray) (x : RV) (b : Bool) : Value := .agg #[vl, .int .i64 k, .string s, .string x.r.meth, .string x.r.host, .string x.r.path, x.vq, x.vh, .bool b]

set_option maxHeartbeats 3200000 in
theorem cut_any (vl : Value) (l : List FB) (pk : Int) (pv : ByteArray) (x : RV) (tls : Bool) (w : World) (hv : Sl EF w vl l) (raw : ∀ f ∈ l, RawF f) (hpv : pv.size ≤ maxLen) (hx : x.at_ w) (rawx : RawR x.r) :
    Calls Tryd.prog 15 #[akV vl pk pv x tls] w fun e w' => ∃ (fa : Option Addr) (fc fb : Nat) (y : RV), e = .returned (akV (.slice fa (someF l).length fc) pk (fewB pv) y tls) ∧ w'.ownsRow fb 26 8 (.slice fa (someF l).length fc) (someF l).length (EF.flat (someF l)) ∧ y.r = fewR x.r ∧ y.own w' ∧ Below w.heap.size w w' := by
  have C2 := fun W (h : Below w.heap.size w W) => hide (ffew_any vl l W (hv.below h) raw)
  have C5 := fun W => hide (pfew_any pk pv W hpv)
  have C8 := fun W (h : Below w.heap.size w W) => hide (asked_any x.r x.vq x.vh W rawx (hx.below h).1 (hx.below h).2)
  clear hv raw hpv hx rawx
  obtain ⟨⟨rm, rho, rp, qu, hd⟩, aq, cq, ah, ch⟩ := x
  dsimp only at *
  obtain ⟨base, hbase⟩ : ∃ z, z = (w.alloc (.cells #[vl, .int .i64 pk, .string pv, .string rm, .string rho, .string rp, .slice aq qu.length cq, .slice ah hd.length ch, .bool tls] 35)).alloc (.cells #[.slice none 0 0, .int .i64 0, .string ⟨#[]⟩, .string ⟨#[]⟩, .string ⟨#[]⟩, .string ⟨#[]⟩, .slice none 0 0, .slice none 0 0, .bool false] 35) := ⟨_, rfl⟩
  have HB := fun W (h : Below base.heap.size base W) => (bx2 (w := w) (o1 := (.cells #[vl, .int .i64 pk, .string pv, .string rm, .string rho, .string rp, .slice aq qu.length cq, .slice ah hd.length ch, .bool tls] 35)) (o2 := (.cells #[.slice none 0 0, .int .i64 0, .string ⟨#[]⟩, .string ⟨#[]⟩, .string ⟨#[]⟩, .string ⟨#[]⟩, .slice none 0 0, .slice none 0 0, .bool false] 35)) (by rw [← hbase]; exact h) : _ ∧ _)
  have B0 : Below w.heap.size w base := by rw [hbase]; exact ((Below.refl _ _).alloc (Nat.le_refl _) _).alloc (by simp) _
  have m0 := fun W h => cellN (HB W h).1 (i := 0) rfl
  have m1 := fun W h => cellN (HB W h).1 (i := 1) rfl
  have m2 := fun W h => cellN (HB W h).1 (i := 2) rfl
  have m3 := fun W h => cellN (HB W h).1 (i := 3) rfl
  have m4 := fun W h => cellN (HB W h).1 (i := 4) rfl
  have m5 := fun W h => cellN (HB W h).1 (i := 5) rfl
  have m6 := fun W h => cellN (HB W h).1 (i := 6) rfl
  have m7 := fun W h => cellN (HB W h).1 (i := 7) rfl
  have m8 := fun W h => cellN (HB W h).1 (i := 8) rfl
  have HBH := hide HB
  clear HB
  go_enter Tryd.func15, Tryd.ntmps15
  go_wp2_with fail
  rw [← hbase]
  clear hbase
  refine wp_region_G 12 (fun w' => Below base.heap.size base w') (by kernel_rfl) ((Below.refl _ _).drew) ?_
  refine wpG_take (i := 0) 5 (v := .pointer (some ⟨w.heap.size, 0, none⟩)) rfl (by kernel_rfl) (by kernel_rfl) (by kernel_rfl) (by decide) (by kernel_rfl) (by kernel_rfl) (fun _ _ _ h => h) (Or.inl ⟨by rfl, fun w1 hS => ?_⟩) ?_
  · (try dsimp only at hS)
    go_simp
  simp only [Act.put, List.setIfInBounds_toArray, List.set_cons_zero, List.set_cons_succ]
  refine wpG_take (i := 1) 5 (v := vl) rfl (by kernel_rfl) (by kernel_rfl) (by kernel_rfl) (by decide) (by kernel_rfl) (by kernel_rfl) (fun _ _ _ h => h) (Or.inl ⟨by rfl, fun w1 hS => ?_⟩) ?_
  · (try dsimp only at hS)
    go_simp
  simp only [Act.put, List.setIfInBounds_toArray, List.set_cons_zero, List.set_cons_succ]
  refine wpG_take (i := 3) 5 (v := .pointer (some ⟨w.heap.size, 1, none⟩)) rfl (by kernel_rfl) (by kernel_rfl) (by kernel_rfl) (by decide) (by kernel_rfl) (by kernel_rfl) (fun _ _ _ h => h) (Or.inl ⟨by rfl, fun w1 hS => ?_⟩) ?_
  · (try dsimp only at hS)
    go_simp
  simp only [Act.put, List.setIfInBounds_toArray, List.set_cons_zero, List.set_cons_succ]
  refine wpG_take (i := 4) 5 (v := .agg #[.int .i64 pk, .string pv]) rfl (by kernel_rfl) (by kernel_rfl) (by kernel_rfl) (by decide) (by kernel_rfl) (by kernel_rfl) (fun _ _ _ h => h) (Or.inl ⟨by rfl, fun w1 hS => ?_⟩) ?_
  · (try dsimp only at hS)
    go_simp
  simp only [Act.put, List.setIfInBounds_toArray, List.set_cons_zero, List.set_cons_succ]
  refine wpG_take (i := 6) 5 (v := .pointer (some ⟨w.heap.size, 3, none⟩)) rfl (by kernel_rfl) (by kernel_rfl) (by kernel_rfl) (by decide) (by kernel_rfl) (by kernel_rfl) (fun _ _ _ h => h) (Or.inl ⟨by rfl, fun w1 hS => ?_⟩) ?_
  · (try dsimp only at hS)
    go_simp
  simp only [Act.put, List.setIfInBounds_toArray, List.set_cons_zero, List.set_cons_succ]
  refine wpG_take (i := 7) 5 (v := .agg #[.string rm, .string rho, .string rp, .slice aq qu.length cq, .slice ah hd.length ch]) rfl (by kernel_rfl) (by kernel_rfl) (by kernel_rfl) (by decide) (by kernel_rfl) (by kernel_rfl) (fun _ _ _ h => h) (Or.inl ⟨by rfl, fun w1 hS => ?_⟩) ?_
  · (try dsimp only at hS)
    go_simp
  simp only [Act.put, List.setIfInBounds_toArray, List.set_cons_zero, List.set_cons_succ]
  refine wpG_take (i := 9) 5 (v := .pointer (some ⟨w.heap.size, 8, none⟩)) rfl (by kernel_rfl) (by kernel_rfl) (by kernel_rfl) (by decide) (by kernel_rfl) (by kernel_rfl) (fun _ _ _ h => h) (Or.inl ⟨by rfl, fun w1 hS => ?_⟩) ?_
  · (try dsimp only at hS)
    go_simp
  simp only [Act.put, List.setIfInBounds_toArray, List.set_cons_zero, List.set_cons_succ]
  refine wpG_take (i := 10) 5 (v := .bool tls) rfl (by kernel_rfl) (by kernel_rfl) (by kernel_rfl) (by decide) (by kernel_rfl) (by kernel_rfl) (fun _ _ _ h => h) (Or.inl ⟨by rfl, fun w1 hS => ?_⟩) ?_
  · (try dsimp only at hS)
    go_simp
  simp only [Act.put, List.setIfInBounds_toArray, List.set_cons_zero, List.set_cons_succ]
  clear m0 m1 m2 m3 m4 m5 m6 m7 m8
  refine wpG_ready (rs := [2]) (by kernel_rfl) (by simp) (fun W2 hG2 hS2 i hi => ?_)
  obtain rfl : i = 2 := by simpa using hi
  clear hi
  refine wpOp_step rfl (by rfl) (fun K' hK' => ?_)
  replace hK' := hide hK'
  go_simp
  refine (C2 _ (bb2 B0 hS2)).out.mono ?_
  rintro e z2 ⟨u2, rfl, r2, hb2⟩
  have B2 := hS2.trans (hb2.mono hS2.size)
  obtain ⟨fa, fc, hu2⟩ := row_form r2
  subst hu2
  go_wp2_with fail
  refine hK'.out _ _ (wpG_kept (by decide) B2 ?_)
  clear hK' K' hG2 hS2 hb2 B2
  refine wpG_take (i := 5) 5 (v := .agg #[.int .i64 pk, .string (fewB pv)]) rfl (by kernel_rfl) (by kernel_rfl) (by kernel_rfl) (by decide) (by kernel_rfl) (by kernel_rfl) (fun _ _ _ h => h) (Or.inl ⟨by rfl, fun w1 hS => ?_⟩) ?_
  · (try dsimp only at hS)
    go_simp
    exact calls_grow hS (Nat.le_refl _) (C5 _).out
  simp only [Act.put, List.setIfInBounds_toArray, List.set_cons_zero, List.set_cons_succ]
  refine wpG_ready (rs := [8]) (by kernel_rfl) (by simp) (fun W8 hG8 hS8 i hi => ?_)
  obtain rfl : i = 8 := by simpa using hi
  clear hi
  refine wpOp_step rfl (by rfl) (fun K' hK' => ?_)
  replace hK' := hide hK'
  go_simp
  refine (C8 _ (bb2 B0 hS8)).out.mono ?_
  rintro e z8 ⟨x8, rfl, hx8, own8, hb8⟩
  have HX8 := hide hx8
  clear hx8
  have B8 := hS8.trans (hb8.mono hS8.size)
  go_wp2_with fail
  refine hK'.out _ _ (wpG_kept (by decide) B8 ?_)
  replace r2 := ownsRow_below (ownsRow_below r2 hG8) hb8
  clear hK' K' hG8 hS8 hb8 B8
  refine wpG_take (i := 11) 5 (v := .agg #[.slice fa (someF l).length fc, .int .i64 pk, .string (fewB pv), .string x8.r.meth, .string x8.r.host, .string x8.r.path, .slice x8.aq x8.r.query.length x8.cq, .slice x8.ah x8.r.head.length x8.ch, .bool tls]) rfl (by kernel_rfl) (by kernel_rfl) (by kernel_rfl) (by decide) (by kernel_rfl) (by kernel_rfl) (fun _ _ _ h => h) (Or.inl ⟨by rfl, fun w1 hS => ?_⟩) ?_
  · (try dsimp only at hS)
    go_simp
  simp only [Act.put, List.setIfInBounds_toArray, List.set_cons_zero, List.set_cons_succ]
  refine wpG_ready (rs := [12]) (by kernel_rfl) (by simp) (fun W hG hS i hi => ?_)
  obtain rfl : i = 12 := by simpa using hi
  clear hi
  have hz := (HBH.out W hS).2
  replace r2 := ownsRow_below r2 hG
  replace own8 := own8.below hG
  have BB := bb2 B0 hS
  obtain ⟨z0, z1, z2', z3, z4, z5, z6, z7, z8'⟩ : _ ∧ _ ∧ _ ∧ _ ∧ _ ∧ _ ∧ _ ∧ _ ∧ _ := ⟨cellN hz (i := 0) rfl, cellN hz (i := 1) rfl, cellN hz (i := 2) rfl, cellN hz (i := 3) rfl, cellN hz (i := 4) rfl, cellN hz (i := 5) rfl, cellN hz (i := 6) rfl, cellN hz (i := 7) rfl, cellN hz (i := 8) rfl⟩
  have lz := liveN hz
  refine wpOp_step rfl (by rfl) (fun K' hK' => ?_)
  go_simp
  refine hK' _ _ (wpG_past (by decide) ?_)
  clear hK' K' z0 z1 z2' z3 z4 z5 z6 z7 z8' lz hG hS C2 C5 C8 HBH
  have s1 := setL_all [.slice fa (someF l).length fc, .int .i64 pk, .string (fewB pv), .string x8.r.meth, .string x8.r.host, .string x8.r.path, .slice x8.aq x8.r.query.length x8.cq, .slice x8.ah x8.r.head.length x8.ch, .bool tls] hz rfl
  have S1 := setL_below (w := w) (B := w.heap.size) (g := w.heap.size + 1) (by omega) [.slice fa (someF l).length fc, .int .i64 pk, .string (fewB pv), .string x8.r.meth, .string x8.r.host, .string x8.r.path, .slice x8.aq x8.r.query.length x8.cq, .slice x8.ah x8.r.head.length x8.ch, .bool tls] _ 0 BB
  have R1 := row_setL (k := 0) (cs := [.slice fa (someF l).length fc, .int .i64 pk, .string (fewB pv), .string x8.r.meth, .string x8.r.host, .string x8.r.path, .slice x8.aq x8.r.query.length x8.cq, .slice x8.ah x8.r.head.length x8.ch, .bool tls]) r2 hz (by decide)
  have O1 := own8.setL (k := 0) (cs := [.slice fa (someF l).length fc, .int .i64 pk, .string (fewB pv), .string x8.r.meth, .string x8.r.host, .string x8.r.path, .slice x8.aq x8.r.query.length x8.cq, .slice x8.ah x8.r.head.length x8.ch, .bool tls]) hz (by decide)
  refine wpAny_end (by kernel_rfl) ?_
  change Exit.then _ _ _ _ (setL W (w.heap.size + 1) 0 [.slice fa (someF l).length fc, .int .i64 pk, .string (fewB pv), .string x8.r.meth, .string x8.r.host, .string x8.r.path, .slice x8.aq x8.r.query.length x8.cq, .slice x8.ah x8.r.head.length x8.ch, .bool tls])
  generalize setL W (w.heap.size + 1) 0 [.slice fa (someF l).length fc, .int .i64 pk, .string (fewB pv), .string x8.r.meth, .string x8.r.host, .string x8.r.path, .slice x8.aq x8.r.query.length x8.cq, .slice x8.ah x8.r.head.length x8.ch, .bool tls] = W9 at *
  obtain ⟨e0, e1, e2, e3, e4, e5, e6, e7, e8⟩ : _ ∧ _ ∧ _ ∧ _ ∧ _ ∧ _ ∧ _ ∧ _ ∧ _ := ⟨cellN s1 (i := 0) rfl, cellN s1 (i := 1) rfl, cellN s1 (i := 2) rfl, cellN s1 (i := 3) rfl, cellN s1 (i := 4) rfl, cellN s1 (i := 5) rfl, cellN s1 (i := 6) rfl, cellN s1 (i := 7) rfl, cellN s1 (i := 8) rfl⟩
  clear r2 own8 hz s1 BB
  go_wp2_with fail
  exact bodyPost_ret (v := .agg #[.slice fa (someF l).length fc, .int .i64 pk, .string (fewB pv), .string x8.r.meth, .string x8.r.host, .string x8.r.path, .slice x8.aq x8.r.query.length x8.cq, .slice x8.ah x8.r.head.length x8.ch, .bool tls]) (by simp [results, Tryd.results15, go_sem, e0, e1, e2, e3, e4, e5, e6, e7, e8]) rfl ⟨fa, fc, _, x8, rfl, R1, HX8.out, O1, S1⟩

end Go.Proofs.YtfoabpkiaihkiaaDoor
