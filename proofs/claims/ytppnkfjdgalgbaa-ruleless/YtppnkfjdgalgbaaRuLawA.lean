/-
  Walks: the laws' Few (at a match), Asked, some, on.
-/
import Derived.Test.YtppnkfjdgalgbaaRuMem
import Derived.Test.YtppnkfjdgalgbaaPaWalkD
namespace Go.Proofs.Ytppnkfjdgalgbaa
open Go Go.RowKit Go.Shelf Go.ChangeShapes Go.WideShapes Go.Deep

theorem row_form {w : World} {base e size : Nat} {v : Value} {n : Nat} {xs : List Value} (h : w.ownsRow base e size v n xs) : ∃ a c, v = .slice a n c := by
  rcases h.2 with ⟨rfl, rfl⟩ | ⟨g, cap, cur, rfl, _⟩
  · exact ⟨none, 0, rfl⟩
  · exact ⟨_, cap, rfl⟩
/-- a row stays where a row of another type grows -/
theorem row_apart {w w' : World} {b b' e e' s s' n n' : Nat} {v v' : Value} {xs ys : List Value} (h : w.ownsRow b e s v n xs) (h' : w.ownsRow b' e' s' v' n' ys) (hne : e ≠ e') (hg : w.grownBy w' v'.ownBlock) : w'.ownsRow b e s v n xs := by
  obtain ⟨h1, h2⟩ := h
  refine ⟨h1, ?_⟩
  rcases h2 with h2 | ⟨g, cap, cur, hv, hb, hh, r⟩
  · exact .inl h2
  · refine .inr ⟨g, cap, cur, hv, hb, ?_, r⟩
    rw [hg.block g (Array.getElem?_eq_some_iff.1 hh).1 (fun e0 => ?_)]
    · exact hh
    · rcases h'.2 with ⟨rfl, _⟩ | ⟨g', cap', cur', rfl, _, hh', _⟩
      · cases e0
      · have e1 : g = g' := by injection e0
        rw [e1, hh'] at hh
        injection hh with hh
        injection hh with _ hh _
        exact hne hh.symm
theorem row_set5 {W : World} {b0 e0 s n g : Nat} {u : Value} {xs : List Value} {t : Nat} {x1 x2 x3 x4 x5 a b c d e : Value} (h : W.ownsRow b0 e0 s u n xs) (hz : W.heap[g]? = some (.cells #[x1, x2, x3, x4, x5] t)) (hne : e0 ≠ t) : (set5 W g a b c d e).ownsRow b0 e0 s u n xs := by
  obtain ⟨h1, h2⟩ := h
  refine ⟨h1, ?_⟩
  rcases h2 with h2 | ⟨g', cap, cur, hv, hb, hh, r⟩
  · exact .inl h2
  · refine .inr ⟨g', cap, cur, hv, hb, ?_, r⟩
    rw [set5_far (fun e1 => ?_)]
    · exact hh
    · rw [e1, hz] at hh
      injection hh with hh
      injection hh with _ hh _
      exact hne hh.symm

/-- its lists are rows of their own -/
def MV.own (x : MV) (w : World) : Prop := (∃ b, w.ownsRow b 53 2 x.vh x.m.head.length (flat x.m.head)) ∧ ∃ b, w.ownsRow b 53 2 x.vq x.m.query.length (flat x.m.query)
theorem MV.own.at_ {x : MV} {w : World} (h : x.own w) : x.at_ w := by
  obtain ⟨⟨b, h1⟩, c, h2⟩ := h
  exact ⟨Prs.of_row rfl h1, Prs.of_row rfl h2⟩
theorem MV.own.below {x : MV} {w w' : World} (h : x.own w) (hb : Below w.heap.size w w') : x.own w' := by
  obtain ⟨⟨b, h1⟩, c, h2⟩ := h
  exact ⟨⟨b, ownsRow_below h1 hb⟩, c, ownsRow_below h2 hb⟩
theorem MV.own.grown {x : MV} {w w' : World} (h : x.own w) {b' n' : Nat} {v' : Value} {ys : List Value} (h' : w.ownsRow b' 26 5 v' n' ys) (hg : w.grownBy w' v'.ownBlock) : x.own w' := by
  obtain ⟨⟨b, h1⟩, c, h2⟩ := h
  exact ⟨⟨b, row_apart h1 h' (by decide) hg⟩, c, row_apart h2 h' (by decide) hg⟩

/-- a match as it came in -/
structure RawM (m : MB) : Prop where
  val : m.val.size ≤ maxLen
  meth : m.meth.size ≤ maxLen
  head : ∀ p ∈ m.head, okP p
  query : ∀ p ∈ m.query, okP p
structure RawR (r : RB) : Prop where
  meth : r.meth.size ≤ maxLen
  host : r.host.size ≤ maxLen
  path : r.path.size ≤ maxLen
  query : ∀ p ∈ r.query, okP p
  head : ∀ p ∈ r.head, okP p
def fewM (m : MB) : MB := ⟨m.kind, fewB m.val, fewB m.meth, fewB2 m.head, fewB2 m.query⟩
def fewR (r : RB) : RB := ⟨fewB r.meth, fewB r.host, fewB r.path, fewB2 r.query, fewB2 r.head⟩
theorem fewM_ok (m : MB) : OkM (fewM m) := ⟨fewB_le _, fewB_le _, bfew_len _, bfew_len _, bfew_ok _, bfew_ok _⟩
theorem fewR_ok (r : RB) : OkR (fewR r) := ⟨fewB_le _, fewB_le _, fewB_le _, bfew_len _, bfew_len _, bfew_ok _, bfew_ok _⟩
/-- a request, with where its lists lie -/
structure RV where
  r : RB
  aq : Option Addr
  cq : Nat
  ah : Option Addr
  ch : Nat
abbrev RV.vq (x : RV) : Value := .slice x.aq x.r.query.length x.cq
abbrev RV.vh (x : RV) : Value := .slice x.ah x.r.head.length x.ch
def RV.at_ (x : RV) (w : World) : Prop := Prs w x.vq x.r.query ∧ Prs w x.vh x.r.head
def RV.own (x : RV) (w : World) : Prop := (∃ b, w.ownsRow b 53 2 x.vq x.r.query.length (flat x.r.query)) ∧ ∃ b, w.ownsRow b 53 2 x.vh x.r.head.length (flat x.r.head)
theorem RV.own.at_ {x : RV} {w : World} (h : x.own w) : x.at_ w := by
  obtain ⟨⟨b, h1⟩, c, h2⟩ := h
  exact ⟨Prs.of_row rfl h1, Prs.of_row rfl h2⟩
theorem RV.own.below {x : RV} {w w' : World} (h : x.own w) (hb : Below w.heap.size w w') : x.own w' := by
  obtain ⟨⟨b, h1⟩, c, h2⟩ := h
  exact ⟨⟨b, ownsRow_below h1 hb⟩, c, ownsRow_below h2 hb⟩
theorem RV.at_.below {x : RV} {w w' : World} (h : x.at_ w) (hb : Below w.heap.size w w') : x.at_ w' := ⟨h.1.below hb, h.2.below hb⟩

theorem RV.own.set5 {x : RV} {W : World} {g t : Nat} {x1 x2 x3 x4 x5 a b c d e : Value} (h : x.own W) (hz : W.heap[g]? = some (.cells #[x1, x2, x3, x4, x5] t)) (hne : 53 ≠ t) : x.own (Go.Proofs.Ytppnkfjdgalgbaa.set5 W g a b c d e) := by
  obtain ⟨⟨b, h1⟩, c, h2⟩ := h
  exact ⟨⟨b, row_set5 h1 hz hne⟩, c, row_set5 h2 hz hne⟩
theorem box5z {w W : World} {o : Obj} {a b c d e : Value} {t : Nat} (h : Below ((w.alloc o).alloc (.cells #[a, b, c, d, e] t)).heap.size ((w.alloc o).alloc (.cells #[a, b, c, d, e] t)) W) : W.heap[w.heap.size + 1]? = some (.cells #[a, b, c, d, e] t) := by
  have := box_block h
  simpa using this

theorem row_set5b {W : World} {b0 e0 s n g : Nat} {u : Value} {xs : List Value} {a b c d e : Value} (h : W.ownsRow b0 e0 s u n xs) (hg : g < b0) : (set5 W g a b c d e).ownsRow b0 e0 s u n xs := by
  obtain ⟨h1, h2⟩ := h
  refine ⟨h1, ?_⟩
  rcases h2 with h2 | ⟨g', cap, cur, hv, hb, hh, r⟩
  · exact .inl h2
  · refine .inr ⟨g', cap, cur, hv, hb, ?_, r⟩
    rw [set5_far (by omega)]
    exact hh
theorem MV.own.set5 {x : MV} {W : World} {g t : Nat} {x1 x2 x3 x4 x5 a b c d e : Value} (h : x.own W) (hz : W.heap[g]? = some (.cells #[x1, x2, x3, x4, x5] t)) (hne : 53 ≠ t) : x.own (Go.Proofs.Ytppnkfjdgalgbaa.set5 W g a b c d e) := by
  obtain ⟨⟨b, h1⟩, c, h2⟩ := h
  exact ⟨⟨b, row_set5 h1 hz hne⟩, c, row_set5 h2 hz hne⟩

set_option maxHeartbeats 1600000 in
theorem mfew_any (m : MB) (vh vq : Value) (w : World) (raw : RawM m) (hh : Prs w vh m.head) (hq : Prs w vq m.query) :
    Calls Try.prog 10 #[mV m vh vq] w fun e w' => ∃ x : MV, e = .returned (mV x.m x.vh x.vq) ∧ x.m = fewM m ∧ x.own w' ∧ Below w.heap.size w w' := by
  obtain ⟨rv, rm, rh, rq⟩ := raw
  obtain ⟨k, v, t, hd, qu⟩ := m
  dsimp only at *
  have C2 := fun W => hide (pfew_any k v W rv)
  have C5 := fun W => hide (fewB_any t W rm)
  have C8 := fun W (h : Below w.heap.size w W) => hide (bfew_any vh hd W (hh.below h) rh)
  have C11 := fun W (h : Below w.heap.size w W) => hide (bfew_any vq qu W (hq.below h) rq)
  clear rv rm rh rq hh hq
  obtain ⟨base, hbase⟩ : ∃ z, z = ((w.alloc (.cells #[.int .i64 k, .string v, .string t, vh, vq] 26)).alloc (.cells #[.int .i64 0, .string ⟨#[]⟩, .string ⟨#[]⟩, .slice none 0 0, .slice none 0 0] 26)) := ⟨_, rfl⟩
  have HB := fun W (h : Below base.heap.size base W) => (box5 (below_box (by rw [← hbase]; exact h)) : W.cell? ⟨w.heap.size, 0, none⟩ = some (.int .i64 k) ∧ W.cell? ⟨w.heap.size, 1, none⟩ = some (.string v) ∧ W.cell? ⟨w.heap.size, 2, none⟩ = some (.string t) ∧ W.cell? ⟨w.heap.size, 3, none⟩ = some vh ∧ W.cell? ⟨w.heap.size, 4, none⟩ = some vq)
  have HZ := fun W (h : Below base.heap.size base W) => (box5z (by rw [← hbase]; exact h) : W.heap[w.heap.size + 1]? = some (.cells #[.int .i64 0, .string ⟨#[]⟩, .string ⟨#[]⟩, .slice none 0 0, .slice none 0 0] 26))
  have B0 : Below w.heap.size w base := by rw [hbase]; exact ((Below.refl _ _).alloc (Nat.le_refl _) _).alloc (by simp) _
  have m0 := fun W h => (HB W h).1
  have m1 := fun W h => (HB W h).2.1
  have m2 := fun W h => (HB W h).2.2.1
  have m3 := fun W h => (HB W h).2.2.2.1
  have m4 := fun W h => (HB W h).2.2.2.2
  have HZH := hide HZ
  clear HB HZ
  go_enter Try.func10, Try.ntmps10
  go_wp2_with fail
  rw [← hbase]
  clear hbase
  refine wp_region_G 13 (fun w' => Below base.heap.size base w') (by kernel_rfl) ((Below.refl _ _).drew) ?_
  refine wpG_take (i := 0) 5 (v := .pointer (some ⟨w.heap.size, 0, none⟩)) rfl (by kernel_rfl) (by kernel_rfl) (by kernel_rfl) (by decide) (by kernel_rfl) (by kernel_rfl) (fun _ _ _ h => h) (Or.inl ⟨by rfl, fun w1 hS => ?_⟩) ?_
  · (try dsimp only at hS)
    go_simp
  simp only [Act.put, List.setIfInBounds_toArray, List.set_cons_zero, List.set_cons_succ]
  refine wpG_take (i := 1) 5 (v := .agg #[.int .i64 k, .string v]) rfl (by kernel_rfl) (by kernel_rfl) (by kernel_rfl) (by decide) (by kernel_rfl) (by kernel_rfl) (fun _ _ _ h => h) (Or.inl ⟨by rfl, fun w1 hS => ?_⟩) ?_
  · (try dsimp only at hS)
    go_simp
  simp only [Act.put, List.setIfInBounds_toArray, List.set_cons_zero, List.set_cons_succ]
  refine wpG_take (i := 3) 5 (v := .pointer (some ⟨w.heap.size, 2, none⟩)) rfl (by kernel_rfl) (by kernel_rfl) (by kernel_rfl) (by decide) (by kernel_rfl) (by kernel_rfl) (fun _ _ _ h => h) (Or.inl ⟨by rfl, fun w1 hS => ?_⟩) ?_
  · (try dsimp only at hS)
    go_simp
  simp only [Act.put, List.setIfInBounds_toArray, List.set_cons_zero, List.set_cons_succ]
  refine wpG_take (i := 4) 5 (v := .string t) rfl (by kernel_rfl) (by kernel_rfl) (by kernel_rfl) (by decide) (by kernel_rfl) (by kernel_rfl) (fun _ _ _ h => h) (Or.inl ⟨by rfl, fun w1 hS => ?_⟩) ?_
  · (try dsimp only at hS)
    go_simp
  simp only [Act.put, List.setIfInBounds_toArray, List.set_cons_zero, List.set_cons_succ]
  refine wpG_take (i := 6) 5 (v := .pointer (some ⟨w.heap.size, 3, none⟩)) rfl (by kernel_rfl) (by kernel_rfl) (by kernel_rfl) (by decide) (by kernel_rfl) (by kernel_rfl) (fun _ _ _ h => h) (Or.inl ⟨by rfl, fun w1 hS => ?_⟩) ?_
  · (try dsimp only at hS)
    go_simp
  simp only [Act.put, List.setIfInBounds_toArray, List.set_cons_zero, List.set_cons_succ]
  refine wpG_take (i := 7) 5 (v := vh) rfl (by kernel_rfl) (by kernel_rfl) (by kernel_rfl) (by decide) (by kernel_rfl) (by kernel_rfl) (fun _ _ _ h => h) (Or.inl ⟨by rfl, fun w1 hS => ?_⟩) ?_
  · (try dsimp only at hS)
    go_simp
  simp only [Act.put, List.setIfInBounds_toArray, List.set_cons_zero, List.set_cons_succ]
  refine wpG_take (i := 9) 5 (v := .pointer (some ⟨w.heap.size, 4, none⟩)) rfl (by kernel_rfl) (by kernel_rfl) (by kernel_rfl) (by decide) (by kernel_rfl) (by kernel_rfl) (fun _ _ _ h => h) (Or.inl ⟨by rfl, fun w1 hS => ?_⟩) ?_
  · (try dsimp only at hS)
    go_simp
  simp only [Act.put, List.setIfInBounds_toArray, List.set_cons_zero, List.set_cons_succ]
  refine wpG_take (i := 10) 5 (v := vq) rfl (by kernel_rfl) (by kernel_rfl) (by kernel_rfl) (by decide) (by kernel_rfl) (by kernel_rfl) (fun _ _ _ h => h) (Or.inl ⟨by rfl, fun w1 hS => ?_⟩) ?_
  · (try dsimp only at hS)
    go_simp
  simp only [Act.put, List.setIfInBounds_toArray, List.set_cons_zero, List.set_cons_succ]
  refine wpG_take (i := 2) 5 (v := .agg #[.int .i64 k, .string (fewB v)]) rfl (by kernel_rfl) (by kernel_rfl) (by kernel_rfl) (by decide) (by kernel_rfl) (by kernel_rfl) (fun _ _ _ h => h) (Or.inl ⟨by rfl, fun w1 hS => ?_⟩) ?_
  · (try dsimp only at hS)
    go_simp
    exact calls_grow hS (Nat.le_refl _) (C2 _).out
  simp only [Act.put, List.setIfInBounds_toArray, List.set_cons_zero, List.set_cons_succ]
  refine wpG_take (i := 5) 5 (v := .string (fewB t)) rfl (by kernel_rfl) (by kernel_rfl) (by kernel_rfl) (by decide) (by kernel_rfl) (by kernel_rfl) (fun _ _ _ h => h) (Or.inl ⟨by rfl, fun w1 hS => ?_⟩) ?_
  · (try dsimp only at hS)
    go_simp
    exact calls_grow_same hS (C5 _).out
  simp only [Act.put, List.setIfInBounds_toArray, List.set_cons_zero, List.set_cons_succ]
  clear m0 m1 m2 m3 m4 C2 C5
  refine wpG_ready (rs := [8]) (by kernel_rfl) (by simp) (fun W8 hG8 hS8 i hi => ?_)
  obtain rfl : i = 8 := by simpa using hi
  clear hi
  refine wpOp_step rfl (by rfl) (fun K' hK' => ?_)
  replace hK' := hide hK'
  go_simp
  refine ((C8 _ (B0.trans (hS8.mono B0.size))).out).mono ?_
  rintro e x8 ⟨u8, rfl, r8, hb8⟩
  have B8 := hS8.trans (hb8.mono hS8.size)
  obtain ⟨aa, ac, hu8⟩ := row_form r8
  subst hu8
  go_wp2_with fail
  refine hK'.out _ _ (wpG_kept (by decide) B8 ?_)
  clear hK' K' hG8 hS8 hb8
  refine wpG_ready (rs := [11]) (by kernel_rfl) (by simp) (fun W11 hG11 hS11 i hi => ?_)
  obtain rfl : i = 11 := by simpa using hi
  clear hi
  refine wpOp_step rfl (by rfl) (fun K' hK' => ?_)
  replace hK' := hide hK'
  go_simp
  refine ((C11 _ (B0.trans (hS11.mono B0.size))).out).mono ?_
  rintro e x11 ⟨u11, rfl, r11, hb11⟩
  have B11 := hS11.trans (hb11.mono hS11.size)
  obtain ⟨ba, bc, hu11⟩ := row_form r11
  subst hu11
  go_wp2_with fail
  refine hK'.out _ _ (wpG_kept (by decide) B11 ?_)
  replace r8 := ownsRow_below (ownsRow_below r8 hG11) hb11
  clear hK' K' hG11 hS11 hb11
  refine wpG_take (i := 12) 5 (v := .agg #[.int .i64 k, .string (fewB v), .string (fewB t), .slice aa (fewB2 hd).length ac, .slice ba (fewB2 qu).length bc]) rfl (by kernel_rfl) (by kernel_rfl) (by kernel_rfl) (by decide) (by kernel_rfl) (by kernel_rfl) (fun _ _ _ h => h) (Or.inl ⟨by rfl, fun w1 hS => ?_⟩) ?_
  · (try dsimp only at hS)
    go_simp
  simp only [Act.put, List.setIfInBounds_toArray, List.set_cons_zero, List.set_cons_succ]
  refine wpG_ready (rs := [13]) (by kernel_rfl) (by simp) (fun W hG hS i hi => ?_)
  obtain rfl : i = 13 := by simpa using hi
  clear hi
  have hz := HZH.out W hS
  have R8 := ownsRow_below r8 hG
  have R11 := ownsRow_below r11 hG
  have BB := B0.trans (hS.mono B0.size)
  obtain ⟨z0, z1, z2, z3, z4⟩ := cell5 hz
  have lz := live5 hz
  refine wpOp_step rfl (by rfl) (fun K' hK' => ?_)
  go_simp
  refine hK' _ _ (wpG_past (by decide) ?_)
  clear hK' K' z0 z1 z2 z3 z4 lz r8 r11 hG hS B8 B11 C8 C11
  have s1 := set5_at (a' := .int .i64 k) (b' := .string (fewB v)) (c' := .string (fewB t)) (d' := .slice aa (fewB2 hd).length ac) (e' := .slice ba (fewB2 qu).length bc) hz
  have S1 := set5_below (a := .int .i64 k) (b := .string (fewB v)) (c := .string (fewB t)) (d := .slice aa (fewB2 hd).length ac) (e := .slice ba (fewB2 qu).length bc) BB (Nat.le_succ _)
  have R8' := row_set5 (a := .int .i64 k) (b := .string (fewB v)) (c := .string (fewB t)) (d := .slice aa (fewB2 hd).length ac) (e := .slice ba (fewB2 qu).length bc) R8 hz (by decide)
  have R11' := row_set5 (a := .int .i64 k) (b := .string (fewB v)) (c := .string (fewB t)) (d := .slice aa (fewB2 hd).length ac) (e := .slice ba (fewB2 qu).length bc) R11 hz (by decide)
  refine wpAny_end (by kernel_rfl) ?_
  change Exit.then _ _ _ _ (set5 W (w.heap.size + 1) (.int .i64 k) (.string (fewB v)) (.string (fewB t)) (.slice aa (fewB2 hd).length ac) (.slice ba (fewB2 qu).length bc))
  generalize set5 W (w.heap.size + 1) (.int .i64 k) (.string (fewB v)) (.string (fewB t)) (.slice aa (fewB2 hd).length ac) (.slice ba (fewB2 qu).length bc) = W2 at *
  obtain ⟨c0, c1, c2, c3, c4⟩ := cell5 s1
  have OWN : MV.own ⟨fewM ⟨k, v, t, hd, qu⟩, aa, ac, ba, bc⟩ W2 := ⟨⟨_, R8'⟩, _, R11'⟩
  clear R8 R11 R8' R11' hz HZH s1 BB
  go_wp2_with fail
  exact bodyPost_ret (v := .agg #[.int .i64 k, .string (fewB v), .string (fewB t), .slice aa (fewB2 hd).length ac, .slice ba (fewB2 qu).length bc]) (by simp [results, Try.results10, go_sem, c0, c1, c2, c3, c4]) rfl ⟨⟨fewM ⟨k, v, t, hd, qu⟩, aa, ac, ba, bc⟩, rfl, rfl, OWN, S1⟩

set_option maxHeartbeats 1600000 in
theorem asked_any (m : RB) (vq vh : Value) (w : World) (raw : RawR m) (hq : Prs w vq m.query) (hh : Prs w vh m.head) :
    Calls Try.prog 11 #[rV m vq vh] w fun e w' => ∃ x : RV, e = .returned (rV x.r x.vq x.vh) ∧ x.r = fewR m ∧ x.own w' ∧ Below w.heap.size w w' := by
  obtain ⟨rt, rho, rp, rq, rh⟩ := raw
  obtain ⟨t, ho, p, qu, hd⟩ := m
  dsimp only at *
  have C2 := fun W => hide (fewB_any t W rt)
  have C5 := fun W => hide (fewB_any ho W rho)
  have C8 := fun W => hide (fewB_any p W rp)
  have C11 := fun W (h : Below w.heap.size w W) => hide (bfew_any vq qu W (hq.below h) rq)
  have C14 := fun W (h : Below w.heap.size w W) => hide (bfew_any vh hd W (hh.below h) rh)
  clear rt rho rp rh rq hh hq
  obtain ⟨base, hbase⟩ : ∃ z, z = ((w.alloc (.cells #[.string t, .string ho, .string p, vq, vh] 28)).alloc (.cells #[.string ⟨#[]⟩, .string ⟨#[]⟩, .string ⟨#[]⟩, .slice none 0 0, .slice none 0 0] 28)) := ⟨_, rfl⟩
  have HB := fun W (h : Below base.heap.size base W) => (box5 (below_box (by rw [← hbase]; exact h)) : W.cell? ⟨w.heap.size, 0, none⟩ = some (.string t) ∧ W.cell? ⟨w.heap.size, 1, none⟩ = some (.string ho) ∧ W.cell? ⟨w.heap.size, 2, none⟩ = some (.string p) ∧ W.cell? ⟨w.heap.size, 3, none⟩ = some vq ∧ W.cell? ⟨w.heap.size, 4, none⟩ = some vh)
  have HZ := fun W (h : Below base.heap.size base W) => (box5z (by rw [← hbase]; exact h) : W.heap[w.heap.size + 1]? = some (.cells #[.string ⟨#[]⟩, .string ⟨#[]⟩, .string ⟨#[]⟩, .slice none 0 0, .slice none 0 0] 28))
  have B0 : Below w.heap.size w base := by rw [hbase]; exact ((Below.refl _ _).alloc (Nat.le_refl _) _).alloc (by simp) _
  have m0 := fun W h => (HB W h).1
  have m1 := fun W h => (HB W h).2.1
  have m2 := fun W h => (HB W h).2.2.1
  have m3 := fun W h => (HB W h).2.2.2.1
  have m4 := fun W h => (HB W h).2.2.2.2
  have HZH := hide HZ
  clear HB HZ
  go_enter Try.func11, Try.ntmps11
  go_wp2_with fail
  rw [← hbase]
  clear hbase
  refine wp_region_G 16 (fun w' => Below base.heap.size base w') (by kernel_rfl) ((Below.refl _ _).drew) ?_
  refine wpG_take (i := 0) 5 (v := .pointer (some ⟨w.heap.size, 0, none⟩)) rfl (by kernel_rfl) (by kernel_rfl) (by kernel_rfl) (by decide) (by kernel_rfl) (by kernel_rfl) (fun _ _ _ h => h) (Or.inl ⟨by rfl, fun w1 hS => ?_⟩) ?_
  · (try dsimp only at hS)
    go_simp
  simp only [Act.put, List.setIfInBounds_toArray, List.set_cons_zero, List.set_cons_succ]
  refine wpG_take (i := 1) 5 (v := .string t) rfl (by kernel_rfl) (by kernel_rfl) (by kernel_rfl) (by decide) (by kernel_rfl) (by kernel_rfl) (fun _ _ _ h => h) (Or.inl ⟨by rfl, fun w1 hS => ?_⟩) ?_
  · (try dsimp only at hS)
    go_simp
  simp only [Act.put, List.setIfInBounds_toArray, List.set_cons_zero, List.set_cons_succ]
  refine wpG_take (i := 3) 5 (v := .pointer (some ⟨w.heap.size, 1, none⟩)) rfl (by kernel_rfl) (by kernel_rfl) (by kernel_rfl) (by decide) (by kernel_rfl) (by kernel_rfl) (fun _ _ _ h => h) (Or.inl ⟨by rfl, fun w1 hS => ?_⟩) ?_
  · (try dsimp only at hS)
    go_simp
  simp only [Act.put, List.setIfInBounds_toArray, List.set_cons_zero, List.set_cons_succ]
  refine wpG_take (i := 4) 5 (v := .string ho) rfl (by kernel_rfl) (by kernel_rfl) (by kernel_rfl) (by decide) (by kernel_rfl) (by kernel_rfl) (fun _ _ _ h => h) (Or.inl ⟨by rfl, fun w1 hS => ?_⟩) ?_
  · (try dsimp only at hS)
    go_simp
  simp only [Act.put, List.setIfInBounds_toArray, List.set_cons_zero, List.set_cons_succ]
  refine wpG_take (i := 6) 5 (v := .pointer (some ⟨w.heap.size, 2, none⟩)) rfl (by kernel_rfl) (by kernel_rfl) (by kernel_rfl) (by decide) (by kernel_rfl) (by kernel_rfl) (fun _ _ _ h => h) (Or.inl ⟨by rfl, fun w1 hS => ?_⟩) ?_
  · (try dsimp only at hS)
    go_simp
  simp only [Act.put, List.setIfInBounds_toArray, List.set_cons_zero, List.set_cons_succ]
  refine wpG_take (i := 7) 5 (v := .string p) rfl (by kernel_rfl) (by kernel_rfl) (by kernel_rfl) (by decide) (by kernel_rfl) (by kernel_rfl) (fun _ _ _ h => h) (Or.inl ⟨by rfl, fun w1 hS => ?_⟩) ?_
  · (try dsimp only at hS)
    go_simp
  simp only [Act.put, List.setIfInBounds_toArray, List.set_cons_zero, List.set_cons_succ]
  refine wpG_take (i := 9) 5 (v := .pointer (some ⟨w.heap.size, 3, none⟩)) rfl (by kernel_rfl) (by kernel_rfl) (by kernel_rfl) (by decide) (by kernel_rfl) (by kernel_rfl) (fun _ _ _ h => h) (Or.inl ⟨by rfl, fun w1 hS => ?_⟩) ?_
  · (try dsimp only at hS)
    go_simp
  simp only [Act.put, List.setIfInBounds_toArray, List.set_cons_zero, List.set_cons_succ]
  refine wpG_take (i := 10) 5 (v := vq) rfl (by kernel_rfl) (by kernel_rfl) (by kernel_rfl) (by decide) (by kernel_rfl) (by kernel_rfl) (fun _ _ _ h => h) (Or.inl ⟨by rfl, fun w1 hS => ?_⟩) ?_
  · (try dsimp only at hS)
    go_simp
  simp only [Act.put, List.setIfInBounds_toArray, List.set_cons_zero, List.set_cons_succ]
  refine wpG_take (i := 12) 5 (v := .pointer (some ⟨w.heap.size, 4, none⟩)) rfl (by kernel_rfl) (by kernel_rfl) (by kernel_rfl) (by decide) (by kernel_rfl) (by kernel_rfl) (fun _ _ _ h => h) (Or.inl ⟨by rfl, fun w1 hS => ?_⟩) ?_
  · (try dsimp only at hS)
    go_simp
  simp only [Act.put, List.setIfInBounds_toArray, List.set_cons_zero, List.set_cons_succ]
  refine wpG_take (i := 13) 5 (v := vh) rfl (by kernel_rfl) (by kernel_rfl) (by kernel_rfl) (by decide) (by kernel_rfl) (by kernel_rfl) (fun _ _ _ h => h) (Or.inl ⟨by rfl, fun w1 hS => ?_⟩) ?_
  · (try dsimp only at hS)
    go_simp
  simp only [Act.put, List.setIfInBounds_toArray, List.set_cons_zero, List.set_cons_succ]
  refine wpG_take (i := 2) 5 (v := .string (fewB t)) rfl (by kernel_rfl) (by kernel_rfl) (by kernel_rfl) (by decide) (by kernel_rfl) (by kernel_rfl) (fun _ _ _ h => h) (Or.inl ⟨by rfl, fun w1 hS => ?_⟩) ?_
  · (try dsimp only at hS)
    go_simp
    exact calls_grow_same hS (C2 _).out
  simp only [Act.put, List.setIfInBounds_toArray, List.set_cons_zero, List.set_cons_succ]
  refine wpG_take (i := 5) 5 (v := .string (fewB ho)) rfl (by kernel_rfl) (by kernel_rfl) (by kernel_rfl) (by decide) (by kernel_rfl) (by kernel_rfl) (fun _ _ _ h => h) (Or.inl ⟨by rfl, fun w1 hS => ?_⟩) ?_
  · (try dsimp only at hS)
    go_simp
    exact calls_grow_same hS (C5 _).out
  simp only [Act.put, List.setIfInBounds_toArray, List.set_cons_zero, List.set_cons_succ]
  refine wpG_take (i := 8) 5 (v := .string (fewB p)) rfl (by kernel_rfl) (by kernel_rfl) (by kernel_rfl) (by decide) (by kernel_rfl) (by kernel_rfl) (fun _ _ _ h => h) (Or.inl ⟨by rfl, fun w1 hS => ?_⟩) ?_
  · (try dsimp only at hS)
    go_simp
    exact calls_grow_same hS (C8 _).out
  simp only [Act.put, List.setIfInBounds_toArray, List.set_cons_zero, List.set_cons_succ]
  clear m0 m1 m2 m3 m4 C2 C5 C8
  refine wpG_ready (rs := [11]) (by kernel_rfl) (by simp) (fun W11 hG11 hS11 i hi => ?_)
  obtain rfl : i = 11 := by simpa using hi
  clear hi
  refine wpOp_step rfl (by rfl) (fun K' hK' => ?_)
  replace hK' := hide hK'
  go_simp
  refine ((C11 _ (B0.trans (hS11.mono B0.size))).out).mono ?_
  rintro e x11 ⟨u11, rfl, r11, hb11⟩
  have B11 := hS11.trans (hb11.mono hS11.size)
  obtain ⟨aa, ac, hu11⟩ := row_form r11
  subst hu11
  go_wp2_with fail
  refine hK'.out _ _ (wpG_kept (by decide) B11 ?_)
  clear hK' K' hG11 hS11 hb11
  refine wpG_ready (rs := [14]) (by kernel_rfl) (by simp) (fun W14 hG14 hS14 i hi => ?_)
  obtain rfl : i = 14 := by simpa using hi
  clear hi
  refine wpOp_step rfl (by rfl) (fun K' hK' => ?_)
  replace hK' := hide hK'
  go_simp
  refine ((C14 _ (B0.trans (hS14.mono B0.size))).out).mono ?_
  rintro e x14 ⟨u14, rfl, r14, hb14⟩
  have B14 := hS14.trans (hb14.mono hS14.size)
  obtain ⟨ba, bc, hu14⟩ := row_form r14
  subst hu14
  go_wp2_with fail
  refine hK'.out _ _ (wpG_kept (by decide) B14 ?_)
  replace r11 := ownsRow_below (ownsRow_below r11 hG14) hb14
  clear hK' K' hG14 hS14 hb14
  refine wpG_take (i := 15) 5 (v := .agg #[.string (fewB t), .string (fewB ho), .string (fewB p), .slice aa (fewB2 qu).length ac, .slice ba (fewB2 hd).length bc]) rfl (by kernel_rfl) (by kernel_rfl) (by kernel_rfl) (by decide) (by kernel_rfl) (by kernel_rfl) (fun _ _ _ h => h) (Or.inl ⟨by rfl, fun w1 hS => ?_⟩) ?_
  · (try dsimp only at hS)
    go_simp
  simp only [Act.put, List.setIfInBounds_toArray, List.set_cons_zero, List.set_cons_succ]
  refine wpG_ready (rs := [16]) (by kernel_rfl) (by simp) (fun W hG hS i hi => ?_)
  obtain rfl : i = 16 := by simpa using hi
  clear hi
  have hz := HZH.out W hS
  have R8 := ownsRow_below r11 hG
  have R11 := ownsRow_below r14 hG
  have BB := B0.trans (hS.mono B0.size)
  obtain ⟨z0, z1, z2, z3, z4⟩ := cell5 hz
  have lz := live5 hz
  refine wpOp_step rfl (by rfl) (fun K' hK' => ?_)
  go_simp
  refine hK' _ _ (wpG_past (by decide) ?_)
  clear hK' K' z0 z1 z2 z3 z4 lz r11 r14 hG hS B11 B14 C11 C14
  have s1 := set5_at (a' := .string (fewB t)) (b' := .string (fewB ho)) (c' := .string (fewB p)) (d' := .slice aa (fewB2 qu).length ac) (e' := .slice ba (fewB2 hd).length bc) hz
  have S1 := set5_below (a := .string (fewB t)) (b := .string (fewB ho)) (c := .string (fewB p)) (d := .slice aa (fewB2 qu).length ac) (e := .slice ba (fewB2 hd).length bc) BB (Nat.le_succ _)
  have R8' := row_set5 (a := .string (fewB t)) (b := .string (fewB ho)) (c := .string (fewB p)) (d := .slice aa (fewB2 qu).length ac) (e := .slice ba (fewB2 hd).length bc) R8 hz (by decide)
  have R11' := row_set5 (a := .string (fewB t)) (b := .string (fewB ho)) (c := .string (fewB p)) (d := .slice aa (fewB2 qu).length ac) (e := .slice ba (fewB2 hd).length bc) R11 hz (by decide)
  refine wpAny_end (by kernel_rfl) ?_
  change Exit.then _ _ _ _ (set5 W (w.heap.size + 1) (.string (fewB t)) (.string (fewB ho)) (.string (fewB p)) (.slice aa (fewB2 qu).length ac) (.slice ba (fewB2 hd).length bc))
  generalize set5 W (w.heap.size + 1) (.string (fewB t)) (.string (fewB ho)) (.string (fewB p)) (.slice aa (fewB2 qu).length ac) (.slice ba (fewB2 hd).length bc) = W2 at *
  obtain ⟨c0, c1, c2, c3, c4⟩ := cell5 s1
  have OWN : RV.own ⟨fewR ⟨t, ho, p, qu, hd⟩, aa, ac, ba, bc⟩ W2 := ⟨⟨_, R8'⟩, _, R11'⟩
  clear R8 R11 R8' R11' hz HZH s1 BB
  go_wp2_with fail
  exact bodyPost_ret (v := .agg #[.string (fewB t), .string (fewB ho), .string (fewB p), .slice aa (fewB2 qu).length ac, .slice ba (fewB2 hd).length bc]) (by simp [results, Try.results11, go_sem, c0, c1, c2, c3, c4]) rfl ⟨⟨fewR ⟨t, ho, p, qu, hd⟩, aa, ac, ba, bc⟩, rfl, rfl, OWN, S1⟩

/-- matches, no more than are looked at -/
def someM (l : List MB) : List MB := (l.take 10).map fewM
theorem someM_ok (l : List MB) : ∀ m ∈ someM l, OkM m := fun m hm => by
  obtain ⟨x, _, rfl⟩ := List.mem_map.1 hm
  exact fewM_ok x
theorem someM_len (l : List MB) : (someM l).length ≤ 10 := by simp [someM]; omega

set_option maxHeartbeats 1600000 in
theorem some_any (v : Value) (L : List MV) (w : World) (hv : Mts w v L) (raw : ∀ x ∈ L, RawM x.m) :
    Calls Try.prog 20 #[v] w fun e w' => ∃ v', e = .returned v' ∧ ∃ L' : List MV, L'.map MV.m = someM (L.map MV.m) ∧ w'.ownsRow w.heap.size 26 5 v' L'.length (flatM L') ∧ (∀ x ∈ L', x.own w') ∧ Below w.heap.size w w' := by
  have hlen := hv.len
  obtain ⟨a, cap, rfl, _, _, hc⟩ := hv
  have HC := hide hc
  have HRAW := hide raw
  clear hc raw
  go_enter Try.func20, Try.ntmps20
  go_wp2_with fail
  go_loopw [3, 4] (fun o i wr => ∃ (k : Nat) (L' : List MV), k ≤ L.length ∧ k ≤ 10 ∧ i = .int .i64 k ∧ Hid (L'.map MV.m = ((L.map MV.m).take k).map fewM) ∧ Hid (∀ x ∈ L', x.own wr) ∧ wr.ownsRow w.heap.size 26 5 o L'.length (flatM L') ∧ Below w.heap.size w wr) (fun _ i _ => 10 - (intOf i).toNat)
  case atStart => exact ⟨0, [], Nat.zero_le _, by omega, rfl, rfl, fun x hx => absurd hx (by simp), World.ownsRow_nil _ _ _ _, Below.refl _ _⟩
  case round =>
    obtain ⟨k, L', hk, hk10, rfl, hmap, hown, hr, hB⟩ := hrel
    have HR := hide hr
    clear hr
    have hl' : L'.length ≤ 10 := by
      have := congrArg List.length hmap.out
      simp at this
      omega
    have HEND : Hid (¬ (k < L.length ∧ k < 10) → L'.map MV.m = someM (L.map MV.m)) := fun h => by
      rw [hmap.out]
      unfold someM
      rcases (show k = 10 ∨ L.length ≤ k by omega) with h1 | h1
      · rw [h1]
      · rw [List.take_of_length_le (by rw [List.length_map]; exact h1), List.take_of_length_le (by rw [List.length_map]; omega)]
    by_cases hlt : k < L.length
    · have hlt' : (k : Int) < (L.length : Int) := by omega
      by_cases h10 : k < 10
      · have h10' : (k : Int) < 10 := by omega
        obtain ⟨hat, g, off, rfl, hg, F⟩ := HC.out k hlt
        have rawx := HRAW.out _ (List.getElem_mem hlt)
        have HSN : Hid (∀ y : MV, y.m = fewM L[k].m → (L' ++ [y]).map MV.m = ((L.map MV.m).take (k + 1)).map fewM) := fun y hy => by
          rw [List.map_append, hmap.out, List.take_succ_eq_append_getElem (by rw [List.length_map]; exact hlt), List.map_append, List.getElem_map]
          simp [hy]
        generalize L[k] = x at *
        have CF := hide (mfew_any x.m x.vh x.vq wr rawx (hat.below hB).1 (hat.below hB).2)
        obtain ⟨F0, F1, F2, F3, F4⟩ := F.below hg hB
        go_wp2_with fail
        refine CF.out.mono ?_
        rintro e w2 ⟨y, rfl, hy, owny, hb2⟩
        have HR2 := hide (ownsRow_below HR.out hb2)
        have HO2 : Hid (∀ x ∈ L', x.own w2) := fun x hx => (hown.out x hx).below hb2
        have hB2 := bb2 hB hb2
        have HY := hide (HSN.out y hy)
        clear HSN HEND CF hown HR F0 F1 F2 F3 F4 hy
        have hbs := hB2.size
        have ba := (Below.refl w2.heap.size w2).alloc (Nat.le_refl _) (.cells #[.int .i64 y.m.kind, .string y.m.val, .string y.m.meth, y.vh, y.vq] 26)
        go_wp2_with (at_builtin; refine wpList_append_mts _ _ _ rfl (by rfl) w.heap.size _ _ _ rfl (ownsRow_below HR2.out ba) _ _ rfl (Mts.at1 w2 _ rfl y (owny.at_.below ba)) (by simp; omega) (by simp; omega) ?_; intro v' w3 hown' hgrow)
        have HR3 := ownsRow_below HR2.out ba
        refine ⟨⟨k + 1, L' ++ [y], by omega, by omega, by go_num, HY.out, fun x hx => ?_, by rw [List.length_append]; exact hown', ?_⟩, by simp [intOf]; omega⟩
        · rcases List.mem_append.1 hx with h1 | h1
          · exact ((HO2.out x h1).below ba).grown HR3 hgrow
          · rw [List.mem_singleton] at h1
            subst h1
            exact (owny.below ba).grown HR3 hgrow
        · exact (hB2.alloc hB2.size _).grown hgrow (by simp; omega) (fun j e => ownBlock_ge HR3 e)
      · have h10' : ¬ (k : Int) < 10 := by omega
        have HE := hide (HEND.out (by omega))
        go_wp2_with fail
        go_ret
        exact ⟨_, rfl, L', HE.out, HR.out, hown.out, hB⟩
    · have hlt' : ¬ (k : Int) < (L.length : Int) := by omega
      have HE := hide (HEND.out (by omega))
      go_wp2_with fail
      go_ret
      exact ⟨_, rfl, L', HE.out, HR.out, hown.out, hB⟩

/-- a match of a Prefix -/
def onM (s t : ByteArray) : MB := ⟨2, s, t, [], []⟩
set_option maxHeartbeats 400000 in
theorem on_any (s t : ByteArray) (w : World) :
    Calls Try.prog 41 #[.string s, .string t] w fun e w' => e = .returned (.agg #[.int .i64 2, .string s, .string t, .slice none 0 0, .slice none 0 0]) ∧ Below w.heap.size w w' := by
  go_enter Try.func41, Try.ntmps41
  go_wp2_with fail
  exact bodyPost_ret (v := .agg #[.int .i64 2, .string s, .string t, .slice none 0 0, .slice none 0 0]) (by simp [results, Try.results41, go_sem]) rfl ⟨rfl, (Below.refl _ _).alloc (Nat.le_refl _) _⟩

end Go.Proofs.Ytppnkfjdgalgbaa
