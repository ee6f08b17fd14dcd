/-
  Walks: the laws' Few (at a match), Asked, some, on.
-/
import Derived.Test.YtblmdcpcekoogaaGreatDoorRuMem
import Derived.Test.YtblmdcpcekoogaaGreatDoorPaWalkD
import Derived.Test.YtblmdcpcekoogaaGreatDoorRowA
namespace Go.Proofs.YtblmdcpcekoogaaGreatDoor
set_option maxRecDepth 20000
open Go Go.RowKit Go.Shelf Go.ChangeShapes Go.WideShapes Go.Deep

theorem row_set5 {W : World} {b0 e0 s n g : Nat} {u : Value} {xs : List Value} {t : Nat} {x1 x2 x3 x4 x5 a b c d e : Value} (h : W.ownsRow b0 e0 s u n xs) (hz : W.heap[g]? = some (.cells #[x1, x2, x3, x4, x5] t)) (hne : e0 ≠ t) : (set5 W g a b c d e).ownsRow b0 e0 s u n xs := by
  obtain ⟨h1, h2⟩ := h
  refine ⟨h1, ?_⟩
  rcases h2 with h2 | ⟨g', cap, cur, hv, hb, hh, r⟩
  · exact .inl h2
  · refine .inr ⟨g', cap, cur, hv, hb, ?_, r⟩
    rw [set5_far (fun e1 => ?_)]
    · exact hh
    · rw [e1, hz] at hh
      injection hh with hh
      injection hh with _ hh _
      exact hne hh.symm

/-- its lists are rows of their own -/
def MV.own (x : MV) (w : World) : Prop := (∃ b, w.ownsRow b 83 2 x.vh x.m.head.length (flat x.m.head)) ∧ ∃ b, w.ownsRow b 83 2 x.vq x.m.query.length (flat x.m.query)
theorem MV.own.at_ {x : MV} {w : World} (h : x.own w) : x.at_ w := by
  obtain ⟨⟨b, h1⟩, c, h2⟩ := h
  exact ⟨Prs.of_row rfl h1, Prs.of_row rfl h2⟩
theorem MV.own.below {x : MV} {w w' : World} (h : x.own w) (hb : Below w.heap.size w w') : x.own w' := by
  obtain ⟨⟨b, h1⟩, c, h2⟩ := h
  exact ⟨⟨b, ownsRow_below h1 hb⟩, c, ownsRow_below h2 hb⟩
theorem MV.own.grown {x : MV} {w w' : World} (h : x.own w) {b' n' : Nat} {v' : Value} {ys : List Value} (h' : w.ownsRow b' 109 5 v' n' ys) (hg : w.grownBy w' v'.ownBlock) : x.own w' := by
  obtain ⟨⟨b, h1⟩, c, h2⟩ := h
  exact ⟨⟨b, row_apart h1 h' (by decide) hg⟩, c, row_apart h2 h' (by decide) hg⟩

/-- a match as it came in -/
structure RawM (m : MB) : Prop where
  val : m.val.size ≤ maxLen
  meth : m.meth.size ≤ maxLen
  head : ∀ p ∈ m.head, okP p
  query : ∀ p ∈ m.query, okP p
structure RawR (r : RB) : Prop where
  meth : r.meth.size ≤ maxLen
  host : r.host.size ≤ maxLen
  path : r.path.size ≤ maxLen
  query : ∀ p ∈ r.query, okP p
  head : ∀ p ∈ r.head, okP p
def fewM (m : MB) : MB := ⟨m.kind, fewB m.val, fewB m.meth, fewB2 m.head, fewB2 m.query⟩
def fewR (r : RB) : RB := ⟨fewB r.meth, fewB r.host, fewB r.path, fewB2 r.query, fewB2 r.head⟩
theorem fewM_ok (m : MB) : OkM (fewM m) := ⟨fewB_le _, fewB_le _, bfew_len _, bfew_len _, bfew_ok _, bfew_ok _⟩
theorem fewR_ok (r : RB) : OkR (fewR r) := ⟨fewB_le _, fewB_le _, fewB_le _, bfew_len _, bfew_len _, bfew_ok _, bfew_ok _⟩
/-- a request, with where its lists lie -/
structure RV where
  r : RB
  aq : Option Addr
  cq : Nat
  ah : Option Addr
  ch : Nat
abbrev RV.vq (x : RV) : Value := .slice x.aq x.r.query.length x.cq
abbrev RV.vh (x : RV) : Value := .slice x.ah x.r.head.length x.ch
def RV.at_ (x : RV) (w : World) : Prop := Prs w x.vq x.r.query ∧ Prs w x.vh x.r.head
def RV.own (x : RV) (w : World) : Prop := (∃ b, w.ownsRow b 83 2 x.vq x.r.query.length (flat x.r.query)) ∧ ∃ b, w.ownsRow b 83 2 x.vh x.r.head.length (flat x.r.head)
theorem RV.own.at_ {x : RV} {w : World} (h : x.own w) : x.at_ w := by
  obtain ⟨⟨b, h1⟩, c, h2⟩ := h
  exact ⟨Prs.of_row rfl h1, Prs.of_row rfl h2⟩
theorem RV.own.below {x : RV} {w w' : World} (h : x.own w) (hb : Below w.heap.size w w') : x.own w' := by
  obtain ⟨⟨b, h1⟩, c, h2⟩ := h
  exact ⟨⟨b, ownsRow_below h1 hb⟩, c, ownsRow_below h2 hb⟩
theorem RV.at_.below {x : RV} {w w' : World} (h : x.at_ w) (hb : Below w.heap.size w w') : x.at_ w' := ⟨h.1.below hb, h.2.below hb⟩

theorem RV.own.set5 {x : RV} {W : World} {g t : Nat} {x1 x2 x3 x4 x5 a b c d e : Value} (h : x.own W) (hz : W.heap[g]? = some (.cells #[x1, x2, x3, x4, x5] t)) (hne : 83 ≠ t) : x.own (Go.Proofs.YtblmdcpcekoogaaGreatDoor.set5 W g a b c d e) := by
  obtain ⟨⟨b, h1⟩, c, h2⟩ := h
  exact ⟨⟨b, row_set5 h1 hz hne⟩, c, row_set5 h2 hz hne⟩
theorem box5z {w W : World} {o : Obj} {a b c d e : Value} {t : Nat} (h : Below ((w.alloc o).alloc (.cells #[a, b, c, d, e] t)).heap.size ((w.alloc o).alloc (.cells #[a, b, c, d, e] t)) W) : W.heap[w.heap.size + 1]? = some (.cells #[a, b, c, d, e] t) := by
  have := box_block h
  simpa using this

theorem row_set5b {W : World} {b0 e0 s n g : Nat} {u : Value} {xs : List Value} {a b c d e : Value} (h : W.ownsRow b0 e0 s u n xs) (hg : g < b0) : (set5 W g a b c d e).ownsRow b0 e0 s u n xs := by
  obtain ⟨h1, h2⟩ := h
  refine ⟨h1, ?_⟩
  rcases h2 with h2 | ⟨g', cap, cur, hv, hb, hh, r⟩
  · exact .inl h2
  · refine .inr ⟨g', cap, cur, hv, hb, ?_, r⟩
    rw [set5_far (by omega)]
    exact hh
theorem MV.own.set5 {x : MV} {W : World} {g t : Nat} {x1 x2 x3 x4 x5 a b c d e : Value} (h : x.own W) (hz : W.heap[g]? = some (.cells #[x1, x2, x3, x4, x5] t)) (hne : 83 ≠ t) : x.own (Go.Proofs.YtblmdcpcekoogaaGreatDoor.set5 W g a b c d e) := by
  obtain ⟨⟨b, h1⟩, c, h2⟩ := h
  exact ⟨⟨b, row_set5 h1 hz hne⟩, c, row_set5 h2 hz hne⟩

set_option maxHeartbeats 1600000 in
theorem mfew_any (m : MB) (vh vq : Value) (w : World) (raw : RawM m) (hh : Prs w vh m.head) (hq : Prs w vq m.query) :
    Calls Tryz.prog 50 #[mV m vh vq] w fun e w' => ∃ x : MV, e = .returned (mV x.m x.vh x.vq) ∧ x.m = fewM m ∧ x.own w' ∧ Below w.heap.size w w' := by
  obtain ⟨rv, rm, rh, rq⟩ := raw
  obtain ⟨k, v, t, hd, qu⟩ := m
  dsimp only at *
  have C2 := fun W => hide (pfew_any k v W rv)
  have C5 := fun W => hide (fewB_any t W rm)
  have C8 := fun W (h : Below w.heap.size w W) => hide (bfew_any vh hd W (hh.below h) rh)
  have C11 := fun W (h : Below w.heap.size w W) => hide (bfew_any vq qu W (hq.below h) rq)
  clear rv rm rh rq hh hq
  obtain ⟨base, hbase⟩ : ∃ z, z = ((w.alloc (.cells #[.int .i64 k, .string v, .string t, vh, vq] 109)).alloc (.cells #[.int .i64 0, .string ⟨#[]⟩, .string ⟨#[]⟩, .slice none 0 0, .slice none 0 0] 109)) := ⟨_, rfl⟩
  have HB := fun W (h : Below base.heap.size base W) => (box5 (below_box (by rw [← hbase]; exact h)) : W.cell? ⟨w.heap.size, 0, none⟩ = some (.int .i64 k) ∧ W.cell? ⟨w.heap.size, 1, none⟩ = some (.string v) ∧ W.cell? ⟨w.heap.size, 2, none⟩ = some (.string t) ∧ W.cell? ⟨w.heap.size, 3, none⟩ = some vh ∧ W.cell? ⟨w.heap.size, 4, none⟩ = some vq)
  have HZ := fun W (h : Below base.heap.size base W) => (box5z (by rw [← hbase]; exact h) : W.heap[w.heap.size + 1]? = some (.cells #[.int .i64 0, .string ⟨#[]⟩, .string ⟨#[]⟩, .slice none 0 0, .slice none 0 0] 109))
  have B0 : Below w.heap.size w base := by rw [hbase]; exact ((Below.refl _ _).alloc (Nat.le_refl _) _).alloc (by simp) _
  have m0 := fun W h => (HB W h).1
  have m1 := fun W h => (HB W h).2.1
  have m2 := fun W h => (HB W h).2.2.1
  have m3 := fun W h => (HB W h).2.2.2.1
  have m4 := fun W h => (HB W h).2.2.2.2
  have HZH := hide HZ
  clear HB HZ
  go_enter Tryz.func50, Tryz.ntmps50
  go_wp2_with fail
  rw [← hbase]
  clear hbase
  refine wp_region_G 13 (fun w' => Below base.heap.size base w') (by kernel_rfl) ((Below.refl _ _).drew) ?_
  refine wpG_take (i := 0) 5 (v := .pointer (some ⟨w.heap.size, 0, none⟩)) rfl (by kernel_rfl) (by kernel_rfl) (by kernel_rfl) (by decide) (by kernel_rfl) (by kernel_rfl) (fun _ _ _ h => h) (Or.inl ⟨by rfl, fun w1 hS => ?_⟩) ?_
  · (try dsimp only at hS)
    go_simp
  simp only [Act.put, List.setIfInBounds_toArray, List.set_cons_zero, List.set_cons_succ]
  refine wpG_take (i := 1) 5 (v := .agg #[.int .i64 k, .string v]) rfl (by kernel_rfl) (by kernel_rfl) (by kernel_rfl) (by decide) (by kernel_rfl) (by kernel_rfl) (fun _ _ _ h => h) (Or.inl ⟨by rfl, fun w1 hS => ?_⟩) ?_
  · (try dsimp only at hS)
    go_simp
  simp only [Act.put, List.setIfInBounds_toArray, List.set_cons_zero, List.set_cons_succ]
  refine wpG_take (i := 3) 5 (v := .pointer (some ⟨w.heap.size, 2, none⟩)) rfl (by kernel_rfl) (by kernel_rfl) (by kernel_rfl) (by decide) (by kernel_rfl) (by kernel_rfl) (fun _ _ _ h => h) (Or.inl ⟨by rfl, fun w1 hS => ?_⟩) ?_
  · (try dsimp only at hS)
    go_simp
  simp only [Act.put, List.setIfInBounds_toArray, List.set_cons_zero, List.set_cons_succ]
  refine wpG_take (i := 4) 5 (v := .string t) rfl (by kernel_rfl) (by kernel_rfl) (by kernel_rfl) (by decide) (by kernel_rfl) (by kernel_rfl) (fun _ _ _ h => h) (Or.inl ⟨by rfl, fun w1 hS => ?_⟩) ?_
  · (try dsimp only at hS)
    go_simp
  simp only [Act.put, List.setIfInBounds_toArray, List.set_cons_zero, List.set_cons_succ]
  refine wpG_take (i := 6) 5 (v := .pointer (some ⟨w.heap.size, 3, none⟩)) rfl (by kernel_rfl) (by kernel_rfl) (by kernel_rfl) (by decide) (by kernel_rfl) (by kernel_rfl) (fun _ _ _ h => h) (Or.inl ⟨by rfl, fun w1 hS => ?_⟩) ?_
  · (try dsimp only at hS)
    go_simp
  simp only [Act.put, List.setIfInBounds_toArray, List.set_cons_zero, List.set_cons_succ]
  refine wpG_take (i := 7) 5 (v := vh) rfl (by kernel_rfl) (by kernel_rfl) (by kernel_rfl) (by decide) (by kernel_rfl) (by kernel_rfl) (fun _ _ _ h => h) (Or.inl ⟨by rfl, fun w1 hS => ?_⟩) ?_
  · (try dsimp only at hS)
    go_simp
  simp only [Act.put, List.setIfInBounds_toArray, List.set_cons_zero, List.set_cons_succ]
  refine wpG_take (i := 9) 5 (v := .pointer (some ⟨w.heap.size, 4, none⟩)) rfl (by kernel_rfl) (by kernel_rfl) (by kernel_rfl) (by decide) (by kernel_rfl) (by kernel_rfl) (fun _ _ _ h => h) (Or.inl ⟨by rfl, fun w1 hS => ?_⟩) ?_
  · (try dsimp only at hS)
    go_simp
  simp only [Act.put, List.setIfInBounds_toArray, List.set_cons_zero, List.set_cons_succ]
  refine wpG_take (i := 10) 5 (v := vq) rfl (by kernel_rfl) (by kernel_rfl) (by kernel_rfl) (by decide) (by kernel_rfl) (by kernel_rfl) (fun _ _ _ h => h) (Or.inl ⟨by rfl, fun w1 hS => ?_⟩) ?_
  · (try dsimp only at hS)
    go_simp
  simp only [Act.put, List.setIfInBounds_toArray, List.set_cons_zero, List.set_cons_succ]
  refine wpG_take (i := 2) 5 (v := .agg #[.int .i64 k, .string (fewB v)]) rfl (by kernel_rfl) (by kernel_rfl) (by kernel_rfl) (by decide) (by kernel_rfl) (by kernel_rfl) (fun _ _ _ h => h) (Or.inl ⟨by rfl, fun w1 hS => ?_⟩) ?_
  · (try dsimp only at hS)
    go_simp
    exact calls_grow hS (Nat.le_refl _) (C2 _).out
  simp only [Act.put, List.setIfInBounds_toArray, List.set_cons_zero, List.set_cons_succ]
  refine wpG_take (i := 5) 5 (v := .string (fewB t)) rfl (by kernel_rfl) (by kernel_rfl) (by kernel_rfl) (by decide) (by kernel_rfl) (by kernel_rfl) (fun _ _ _ h => h) (Or.inl ⟨by rfl, fun w1 hS => ?_⟩) ?_
  · (try dsimp only at hS)
    go_simp
    exact calls_grow_same hS (C5 _).out
  simp only [Act.put, List.setIfInBounds_toArray, List.set_cons_zero, List.set_cons_succ]
  clear m0 m1 m2 m3 m4 C2 C5
  refine wpG_ready (rs := [8]) (by kernel_rfl) (by simp) (fun W8 hG8 hS8 i hi => ?_)
  obtain rfl : i = 8 := by simpa using hi
  clear hi
  refine wpOp_step rfl (by rfl) (fun K' hK' => ?_)
  replace hK' := hide hK'
  go_simp
  refine ((C8 _ (B0.trans (hS8.mono B0.size))).out).mono ?_
  rintro e x8 ⟨u8, rfl, r8, hb8⟩
  have B8 := hS8.trans (hb8.mono hS8.size)
  obtain ⟨aa, ac, hu8⟩ := row_form r8
  subst hu8
  go_wp2_with fail
  refine hK'.out _ _ (wpG_kept (by decide) B8 ?_)
  clear hK' K' hG8 hS8 hb8
  refine wpG_ready (rs := [11]) (by kernel_rfl) (by simp) (fun W11 hG11 hS11 i hi => ?_)
  obtain rfl : i = 11 := by simpa using hi
  clear hi
  refine wpOp_step rfl (by rfl) (fun K' hK' => ?_)
  replace hK' := hide hK'
  go_simp
  refine ((C11 _ (B0.trans (hS11.mono B0.size))).out).mono ?_
  rintro e x11 ⟨u11, rfl, r11, hb11⟩
  have B11 := hS11.trans (hb11.mono hS11.size)
  obtain ⟨ba, bc, hu11⟩ := row_form r11
  subst hu11
  go_wp2_with fail
  refine hK'.out _ _ (wpG_kept (by decide) B11 ?_)
  replace r8 := ownsRow_below (ownsRow_below r8 hG11) hb11
  clear hK' K' hG11 hS11 hb11
  refine wpG_take (i := 12) 5 (v := .agg #[.int .i64 k, .string (fewB v), .string (fewB t), .slice aa (fewB2 hd).length ac, .slice ba (fewB2 qu).length bc]) rfl (by kernel_rfl) (by kernel_rfl) (by kernel_rfl) (by decide) (by kernel_rfl) (by kernel_rfl) (fun _ _ _ h => h) (Or.inl ⟨by rfl, fun w1 hS => ?_⟩) ?_
  · (try dsimp only at hS)
    go_simp
  simp only [Act.put, List.setIfInBounds_toArray, List.set_cons_zero, List.set_cons_succ]
  refine wpG_ready (rs := [13]) (by kernel_rfl) (by simp) (fun W hG hS i hi => ?_)
  obtain rfl : i = 13 := by simpa using hi
  clear hi
  have hz := HZH.out W hS
  have R8 := ownsRow_below r8 hG
  have R11 := ownsRow_below r11 hG
  have BB := B0.trans (hS.mono B0.size)
  obtain ⟨z0, z1, z2, z3, z4⟩ := cell5 hz
  have lz := live5 hz
  refine wpOp_step rfl (by rfl) (fun K' hK' => ?_)
  go_simp
  refine hK' _ _ (wpG_past (by decide) ?_)
  clear hK' K' z0 z1 z2 z3 z4 lz r8 r11 hG hS B8 B11 C8 C11
  have s1 := set5_at (a' := .int .i64 k) (b' := .string (fewB v)) (c' := .string (fewB t)) (d' := .slice aa (fewB2 hd).length ac) (e' := .slice ba (fewB2 qu).length bc) hz
  have S1 := set5_below (a := .int .i64 k) (b := .string (fewB v)) (c := .string (fewB t)) (d := .slice aa (fewB2 hd).length ac) (e := .slice ba (fewB2 qu).length bc) BB (Nat.le_succ _)
  have R8' := row_set5 (a := .int .i64 k) (b := .string (fewB v)) (c := .string (fewB t)) (d := .slice aa (fewB2 hd).length ac) (e := .slice ba (fewB2 qu).length bc) R8 hz (by decide)
  have R11' := row_set5 (a := .int .i64 k) (b := .string (fewB v)) (c := .string (fewB t)) (d := .slice aa (fewB2 hd).length ac) (e := .slice ba (fewB2 qu).length bc) R11 hz (by decide)
  refine wpAny_end (by kernel_rfl) ?_
  change Exit.then _ _ _ _ (set5 W (w.heap.size + 1) (.int .i64 k) (.string (fewB v)) (.string (fewB t)) (.slice aa (fewB2 hd).length ac) (.slice ba (fewB2 qu).length bc))
  generalize set5 W (w.heap.size + 1) (.int .i64 k) (.string (fewB v)) (.string (fewB t)) (.slice aa (fewB2 hd).length ac) (.slice ba (fewB2 qu).length bc) = W2 at *
  obtain ⟨c0, c1, c2, c3, c4⟩ := cell5 s1
  have OWN : MV.own ⟨fewM ⟨k, v, t, hd, qu⟩, aa, ac, ba, bc⟩ W2 := ⟨⟨_, R8'⟩, _, R11'⟩
  clear R8 R11 R8' R11' hz HZH s1 BB
  go_wp2_with fail
  exact bodyPost_ret (v := .agg #[.int .i64 k, .string (fewB v), .string (fewB t), .slice aa (fewB2 hd).length ac, .slice ba (fewB2 qu).length bc]) (by simp [results, Tryz.results50, go_sem, c0, c1, c2, c3, c4]) rfl ⟨⟨fewM ⟨k, v, t, hd, qu⟩, aa, ac, ba, bc⟩, rfl, rfl, OWN, S1⟩

set_option maxHeartbeats 1600000 in
theorem asked_any (m : RB) (vq vh : Value) (w : World) (raw : RawR m) (hq : Prs w vq m.query) (hh : Prs w vh m.head) :
    Calls Tryz.prog 11 #[rV m vq vh] w fun e w' => ∃ x : RV, e = .returned (rV x.r x.vq x.vh) ∧ x.r = fewR m ∧ x.own w' ∧ Below w.heap.size w w' := by
  obtain ⟨rt, rho, rp, rq, rh⟩ := raw
  obtain ⟨t, ho, p, qu, hd⟩ := m
  dsimp only at *
  have C2 := fun W => hide (fewB_any t W rt)
  have C5 := fun W => hide (fewB_any ho W rho)
  have C8 := fun W => hide (fewB_any p W rp)
  have C11 := fun W (h : Below w.heap.size w W) => hide (bfew_any vq qu W (hq.below h) rq)
  have C14 := fun W (h : Below w.heap.size w W) => hide (bfew_any vh hd W (hh.below h) rh)
  clear rt rho rp rh rq hh hq
  obtain ⟨base, hbase⟩ : ∃ z, z = ((w.alloc (.cells #[.string t, .string ho, .string p, vq, vh] 27)).alloc (.cells #[.string ⟨#[]⟩, .string ⟨#[]⟩, .string ⟨#[]⟩, .slice none 0 0, .slice none 0 0] 27)) := ⟨_, rfl⟩
  have HB := fun W (h : Below base.heap.size base W) => (box5 (below_box (by rw [← hbase]; exact h)) : W.cell? ⟨w.heap.size, 0, none⟩ = some (.string t) ∧ W.cell? ⟨w.heap.size, 1, none⟩ = some (.string ho) ∧ W.cell? ⟨w.heap.size, 2, none⟩ = some (.string p) ∧ W.cell? ⟨w.heap.size, 3, none⟩ = some vq ∧ W.cell? ⟨w.heap.size, 4, none⟩ = some vh)
  have HZ := fun W (h : Below base.heap.size base W) => (box5z (by rw [← hbase]; exact h) : W.heap[w.heap.size + 1]? = some (.cells #[.string ⟨#[]⟩, .string ⟨#[]⟩, .string ⟨#[]⟩, .slice none 0 0, .slice none 0 0] 27))
  have B0 : Below w.heap.size w base := by rw [hbase]; exact ((Below.refl _ _).alloc (Nat.le_refl _) _).alloc (by simp) _
  have m0 := fun W h => (HB W h).1
  have m1 := fun W h => (HB W h).2.1
  have m2 := fun W h => (HB W h).2.2.1
  have m3 := fun W h => (HB W h).2.2.2.1
  have m4 := fun W h => (HB W h).2.2.2.2
  have HZH := hide HZ
  clear HB HZ
  go_enter Tryz.func11, Tryz.ntmps11
  go_wp2_with fail
  rw [← hbase]
  clear hbase
  refine wp_region_G 16 (fun w' => Below base.heap.size base w') (by kernel_rfl) ((Below.refl _ _).drew) ?_
  refine wpG_take (i := 0) 5 (v := .pointer (some ⟨w.heap.size, 0, none⟩)) rfl (by kernel_rfl) (by kernel_rfl) (by kernel_rfl) (by decide) (by kernel_rfl) (by kernel_rfl) (fun _ _ _ h => h) (Or.inl ⟨by rfl, fun w1 hS => ?_⟩) ?_
  · (try dsimp only at hS)
    go_simp
  simp only [Act.put, List.setIfInBounds_toArray, List.set_cons_zero, List.set_cons_succ]
  refine wpG_take (i := 1) 5 (v := .string t) rfl (by kernel_rfl) (by kernel_rfl) (by kernel_rfl) (by decide) (by kernel_rfl) (by kernel_rfl) (fun _ _ _ h => h) (Or.inl ⟨by rfl, fun w1 hS => ?_⟩) ?_
  · (try dsimp only at hS)
    go_simp
  simp only [Act.put, List.setIfInBounds_toArray, List.set_cons_zero, List.set_cons_succ]
  refine wpG_take (i := 3) 5 (v := .pointer (some ⟨w.heap.size, 1, none⟩)) rfl (by kernel_rfl) (by kernel_rfl) (by kernel_rfl) (by decide) (by kernel_rfl) (by kernel_rfl) (fun _ _ _ h => h) (Or.inl ⟨by rfl, fun w1 hS => ?_⟩) ?_
  · (try dsimp only at hS)
    go_simp
  simp only [Act.put, List.setIfInBounds_toArray, List.set_cons_zero, List.set_cons_succ]
  refine wpG_take (i := 4) 5 (v := .string ho) rfl (by kernel_rfl) (by kernel_rfl) (by kernel_rfl) (by decide) (by kernel_rfl) (by kernel_rfl) (fun _ _ _ h => h) (Or.inl ⟨by rfl, fun w1 hS => ?_⟩) ?_
  · (try dsimp only at hS)
    go_simp
  simp only [Act.put, List.setIfInBounds_toArray, List.set_cons_zero, List.set_cons_succ]
  refine wpG_take (i := 6) 5 (v := .pointer (some ⟨w.heap.size, 2, none⟩)) rfl (by kernel_rfl) (by kernel_rfl) (by kernel_rfl) (by decide) (by kernel_rfl) (by kernel_rfl) (fun _ _ _ h => h) (Or.inl ⟨by rfl, fun w1 hS => ?_⟩) ?_
  · (try dsimp only at hS)
    go_simp
  simp only [Act.put, List.setIfInBounds_toArray, List.set_cons_zero, List.set_cons_succ]
  refine wpG_take (i := 7) 5 (v := .string p) rfl (by kernel_rfl) (by kernel_rfl) (by kernel_rfl) (by decide) (by kernel_rfl) (by kernel_rfl) (fun _ _ _ h => h) (Or.inl ⟨by rfl, fun w1 hS => ?_⟩) ?_
  · (try dsimp only at hS)
    go_simp
  simp only [Act.put, List.setIfInBounds_toArray, List.set_cons_zero, List.set_cons_succ]
  refine wpG_take (i := 9) 5 (v := .pointer (some ⟨w.heap.size, 3, none⟩)) rfl (by kernel_rfl) (by kernel_rfl) (by kernel_rfl) (by decide) (by kernel_rfl) (by kernel_rfl) (fun _ _ _ h => h) (Or.inl ⟨by rfl, fun w1 hS => ?_⟩) ?_
  · (try dsimp only at hS)
    go_simp
  simp only [Act.put, List.setIfInBounds_toArray, List.set_cons_zero, List.set_cons_succ]
  refine wpG_take (i := 10) 5 (v := vq) rfl (by kernel_rfl) (by kernel_rfl) (by kernel_rfl) (by decide) (by kernel_rfl) (by kernel_rfl) (fun _ _ _ h => h) (Or.inl ⟨by rfl, fun w1 hS => ?_⟩) ?_
  · (try dsimp only at hS)
    go_simp
  simp only [Act.put, List.setIfInBounds_toArray, List.set_cons_zero, List.set_cons_succ]
  refine wpG_take (i := 12) 5 (v := .pointer (some ⟨w.heap.size, 4, none⟩)) rfl (by kernel_rfl) (by kernel_rfl) (by kernel_rfl) (by decide) (by kernel_rfl) (by kernel_rfl) (fun _ _ _ h => h) (Or.inl ⟨by rfl, fun w1 hS => ?_⟩) ?_
  · (try dsimp only at hS)
    go_simp
  simp only [Act.put, List.setIfInBounds_toArray, List.set_cons_zero, List.set_cons_succ]
  refine wpG_take (i := 13) 5 (v := vh) rfl (by kernel_rfl) (by kernel_rfl) (by kernel_rfl) (by decide) (by kernel_rfl) (by kernel_rfl) (fun _ _ _ h => h) (Or.inl ⟨by rfl, fun w1 hS => ?_⟩) ?_
  · (try dsimp only at hS)
    go_simp
  simp only [Act.put, List.setIfInBounds_toArray, List.set_cons_zero, List.set_cons_succ]
  refine wpG_take (i := 2) 5 (v := .string (fewB t)) rfl (by kernel_rfl) (by kernel_rfl) (by kernel_rfl) (by decide) (by kernel_rfl) (by kernel_rfl) (fun _ _ _ h => h) (Or.inl ⟨by rfl, fun w1 hS => ?_⟩) ?_
  · (try dsimp only at hS)
    go_simp
    exact calls_grow_same hS (C2 _).out
  simp only [Act.put, List.setIfInBounds_toArray, List.set_cons_zero, List.set_cons_succ]
  refine wpG_take (i := 5) 5 (v := .string (fewB ho)) rfl (by kernel_rfl) (by kernel_rfl) (by kernel_rfl) (by decide) (by kernel_rfl) (by kernel_rfl) (fun _ _ _ h => h) (Or.inl ⟨by rfl, fun w1 hS => ?_⟩) ?_
  · (try dsimp only at hS)
    go_simp
    exact calls_grow_same hS (C5 _).out
  simp only [Act.put, List.setIfInBounds_toArray, List.set_cons_zero, List.set_cons_succ]
  refine wpG_take (i := 8) 5 (v := .string (fewB p)) rfl (by kernel_rfl) (by kernel_rfl) (by kernel_rfl) (by decide) (by kernel_rfl) (by kernel_rfl) (fun _ _ _ h => h) (Or.inl ⟨by rfl, fun w1 hS => ?_⟩) ?_
  · (try dsimp only at hS)
    go_simp
    exact calls_grow_same hS (C8 _).out
  simp only [Act.put, List.setIfInBounds_toArray, List.set_cons_zero, List.set_cons_succ]
  clear m0 m1 m2 m3 m4 C2 C5 C8
  refine wpG_ready (rs := [11]) (by kernel_rfl) (by simp) (fun W11 hG11 hS11 i hi => ?_)
  obtain rfl : i = 11 := by simpa using hi
  clear hi
  refine wpOp_step rfl (by rfl) (fun K' hK' => ?_)
  replace hK' := hide hK'
  go_simp
  refine ((C11 _ (B0.trans (hS11.mono B0.size))).out).mono ?_
  rintro e x11 ⟨u11, rfl, r11, hb11⟩
  have B11 := hS11.trans (hb11.mono hS11.size)
  obtain ⟨aa, ac, hu11⟩ := row_form r11
  subst hu11
  go_wp2_with fail
  refine hK'.out _ _ (wpG_kept (by decide) B11 ?_)
  clear hK' K' hG11 hS11 hb11
  refine wpG_ready (rs := [14]) (by kernel_rfl) (by simp) (fun W14 hG14 hS14 i hi => ?_)
  obtain rfl : i = 14 := by simpa using hi
  clear hi
  refine wpOp_step rfl (by rfl) (fun K' hK' => ?_)
  replace hK' := hide hK'
  go_simp
  refine ((C14 _ (B0.trans (hS14.mono B0.size))).out).mono ?_
  rintro e x14 ⟨u14, rfl, r14, hb14⟩
  have B14 := hS14.trans (hb14.mono hS14.size)
  obtain ⟨ba, bc, hu14⟩ := row_form r14
  subst hu14
  go_wp2_with fail
  refine hK'.out _ _ (wpG_kept (by decide) B14 ?_)
  replace r11 := ownsRow_below (ownsRow_below r11 hG14) hb14
  clear hK' K' hG14 hS14 hb14
  refine wpG_take (i := 15) 5 (v := .agg #[.string (fewB t), .string (fewB ho), .string (fewB p), .slice aa (fewB2 qu).length ac, .slice ba (fewB2 hd).length bc]) rfl (by kernel_rfl) (by kernel_rfl) (by kernel_rfl) (by decide) (by kernel_rfl) (by kernel_rfl) (fun _ _ _ h => h) (Or.inl ⟨by rfl, fun w1 hS => ?_⟩) ?_
  · (try dsimp only at hS)
    go_simp
  simp only [Act.put, List.setIfInBounds_toArray, List.set_cons_zero, List.set_cons_succ]
  refine wpG_ready (rs := [16]) (by kernel_rfl) (by simp) (fun W hG hS i hi => ?_)
  obtain rfl : i = 16 := by simpa using hi
  clear hi
  have hz := HZH.out W hS
  have R8 := ownsRow_below r11 hG
  have R11 := ownsRow_below r14 hG
  have BB := B0.trans (hS.mono B0.size)
  obtain ⟨z0, z1, z2, z3, z4⟩ := cell5 hz
  have lz := live5 hz
  refine wpOp_step rfl (by rfl) (fun K' hK' => ?_)
  go_simp
  refine hK' _ _ (wpG_past (by decide) ?_)
  clear hK' K' z0 z1 z2 z3 z4 lz r11 r14 hG hS B11 B14 C11 C14
  have s1 := set5_at (a' := .string (fewB t)) (b' := .string (fewB ho)) (c' := .string (fewB p)) (d' := .slice aa (fewB2 qu).length ac) (e' := .slice ba (fewB2 hd).length bc) hz
  have S1 := set5_below (a := .string (fewB t)) (b := .string (fewB ho)) (c := .string (fewB p)) (d := .slice aa (fewB2 qu).length ac) (e := .slice ba (fewB2 hd).length bc) BB (Nat.le_succ _)
  have R8' := row_set5 (a := .string (fewB t)) (b := .string (fewB ho)) (c := .string (fewB p)) (d := .slice aa (fewB2 qu).length ac) (e := .slice ba (fewB2 hd).length bc) R8 hz (by decide)
  have R11' := row_set5 (a := .string (fewB t)) (b := .string (fewB ho)) (c := .string (fewB p)) (d := .slice aa (fewB2 qu).length ac) (e := .slice ba (fewB2 hd).length bc) R11 hz (by decide)
  refine wpAny_end (by kernel_rfl) ?_
  change Exit.then _ _ _ _ (set5 W (w.heap.size + 1) (.string (fewB t)) (.string (fewB ho)) (.string (fewB p)) (.slice aa (fewB2 qu).length ac) (.slice ba (fewB2 hd).length bc))
  generalize set5 W (w.heap.size + 1) (.string (fewB t)) (.string (fewB ho)) (.string (fewB p)) (.slice aa (fewB2 qu).length ac) (.slice ba (fewB2 hd).length bc) = W2 at *
  obtain ⟨c0, c1, c2, c3, c4⟩ := cell5 s1
  have OWN : RV.own ⟨fewR ⟨t, ho, p, qu, hd⟩, aa, ac, ba, bc⟩ W2 := ⟨⟨_, R8'⟩, _, R11'⟩
  clear R8 R11 R8' R11' hz HZH s1 BB
  go_wp2_with fail
  exact bodyPost_ret (v := .agg #[.string (fewB t), .string (fewB ho), .string (fewB p), .slice aa (fewB2 qu).length ac, .slice ba (fewB2 hd).length bc]) (by simp [results, Tryz.results11, go_sem, c0, c1, c2, c3, c4]) rfl ⟨⟨fewR ⟨t, ho, p, qu, hd⟩, aa, ac, ba, bc⟩, rfl, rfl, OWN, S1⟩

/-- matches, no more than are looked at -/
def someM (l : List MB) : List MB := (l.take 10).map fewM
theorem someM_ok (l : List MB) : ∀ m ∈ someM l, OkM m := fun m hm => by
  obtain ⟨x, _, rfl⟩ := List.mem_map.1 hm
  exact fewM_ok x
theorem someM_len (l : List MB) : (someM l).length ≤ 10 := by simp [someM]; omega

/-- a match of a Prefix -/
def onM (s t : ByteArray) : MB := ⟨2, s, t, [], []⟩

end Go.Proofs.YtblmdcpcekoogaaGreatDoor
