/-
  An argument of two paths that are asked for, and two texts; the law PathSwaps.
-/
import Derived.Test.YtiepbigibdjfoaaPaRefB
import Derived.Test.YtiepbigibdjfoaaGrow
namespace Go.Proofs.Ytiepbigibdjfoaa
open Go Go.RowKit Go.Shelf Go.ChangeShapes Go.WideShapes

attribute [local go_sem] gb_const

/-- two paths that are asked for, and two texts -/
def ArgAsk (v : Value) : Prop := ∃ (k1 k2 : Int) (p q b s : ByteArray), v = .agg #[.int .i64 k1, .string p, .int .i64 k2, .string q, .string b, .string s] ∧ p.size ≤ maxLen ∧ q.size ≤ maxLen ∧ b.size ≤ maxLen ∧ s.size ≤ maxLen

theorem array6 {α : Type} {cs : Array α} (h : cs.size = 6) : ∃ c0 c1 c2 c3 c4 c5, cs = #[c0, c1, c2, c3, c4, c5] := by
  obtain ⟨l⟩ := cs
  match l, h with
  | [c0, c1, c2, c3, c4, c5], _ => exact ⟨c0, c1, c2, c3, c4, c5, rfl⟩

theorem pathCells {H : Type} {enc : TypeId × Value → H} {W : World} {fuel : Nat} {c0 c1 : Value} {y : DataW H × List MemPlace} (h : DataW.trod enc Try.prog W 0 (fun _ => true) true fuel 23 [c0, c1] = some y) :
    ∃ (k : Int) (s : ByteArray), c0 = .int .i64 k ∧ c1 = .string s ∧ s.size ≤ maxLen := by
  obtain ⟨y0, y1, n, _, _, h0, h1⟩ := trod_struct2 Try.underlying23 h
  obtain ⟨k0, e0, _, _⟩ := DataW.trod_int Try.underlying3 h0
  obtain ⟨s1, e1, _, z1⟩ := DataW.trod_string Try.underlying9 h1
  have hc3 : Try.prog.cellsOf 3 = 1 := by kernel_rfl
  simp [hc3, Try.cells9] at e0 e1
  exact ⟨k0, s1, e0, e1, z1⟩

theorem argAsk_open {H : Type} {enc : TypeId × Value → H} {W : World} {base : Nat} {v : Value} {d : DataW H} {ps : List MemPlace} (hval : Value.okWide Try.prog W .any base 31 v)
    (h : DataW.Trod enc Try.prog W 0 (fun _ => true) true 31 v d ps) : ArgAsk v := by
  obtain ⟨cs, rfl, hsz⟩ := okWide_struct Try.underlying31 hval
  obtain ⟨c0, c1, c2, c3, c4, c5, rfl⟩ := array6 (hsz.trans (by kernel_rfl))
  obtain ⟨fuel, hf⟩ := h
  obtain ⟨y0, y1, y2, y3, n, _, _, h0, h1, h2, h3⟩ := Joins.trod_struct4 Try.underlying31 hf
  have hcP : Try.prog.cellsOf 23 = 2 := by kernel_rfl
  simp [Value.cells, hcP, Try.cells9] at h0 h1 h2 h3
  obtain ⟨k1, p, rfl, rfl, hp⟩ := pathCells h0
  obtain ⟨k2, q, rfl, rfl, hq⟩ := pathCells h1
  obtain ⟨b, e2, _, hb⟩ := DataW.trod_string Try.underlying9 h2
  obtain ⟨s, e3, _, hs⟩ := DataW.trod_string Try.underlying9 h3
  simp only [List.cons.injEq, and_true] at e2 e3
  subst e2 e3
  exact ⟨k1, k2, p, q, b, s, rfl, hp, hq, hb, hs⟩

/-- a cell of the last block, in whatever world it stays below -/
theorem held_cell {w w' : World} {cs : Array Value} {t i : Nat} {c : Value} (h : Below (w.alloc (.cells cs t)).heap.size (w.alloc (.cells cs t)) w') (hc : cs[i]? = some c) : w'.cell? ⟨w.heap.size, i, none⟩ = some c := by
  simp only [World.cell?]
  rw [box_block h]
  exact hc

/-- two structs that lie apart, each written anew -/
def setTwo (q : World) (n m : Nat) (a b c d : Value) : World := (((q.setCell ⟨n, 0, none⟩ a).setCell ⟨n, 1, none⟩ b).setCell ⟨m, 0, none⟩ c).setCell ⟨m, 1, none⟩ d
theorem setTwo_fst {q : World} {n m : Nat} {a b a' b' c' d' : Value} {t : Nat} (hne : n ≠ m) (h : q.heap[n]? = some (.cells #[a, b] t)) : (setTwo q n m a' b' c' d').heap[n]? = some (.cells #[a', b'] t) := by
  unfold setTwo
  rw [set_far hne, set_far hne]
  exact set_block1 (b := b) _ (set_block0 (a := a) (b := b) _ h)
theorem setTwo_snd {q : World} {n m : Nat} {a' b' c d c' d' : Value} {t : Nat} (hne : n ≠ m) (h : q.heap[m]? = some (.cells #[c, d] t)) : (setTwo q n m a' b' c' d').heap[m]? = some (.cells #[c', d'] t) := by
  unfold setTwo
  exact set_block1 (b := d) _ (set_block0 (a := c) (b := d) _ (by rw [set_far hne.symm, set_far hne.symm]; exact h))
theorem setTwo_below {w q : World} {n m : Nat} {a b c d : Value} (h : Below w.heap.size w q) (hn : w.heap.size ≤ n) (hm : w.heap.size ≤ m) : Below w.heap.size w (setTwo q n m a b c d) :=
  (((h.setCell (p := ⟨n, 0, none⟩) hn _).setCell (p := ⟨n, 1, none⟩) hn _).setCell (p := ⟨m, 0, none⟩) hm _).setCell (p := ⟨m, 1, none⟩) hm _

/-- two new variables, laid one behind the other with growth between: where they are at the end -/
theorem two_laid {W1 W2 W3 : World} {o : Obj} (h2 : Grow (W1.alloc o) W2) (h3 : Grow (W2.alloc o) W3) : W3.heap[W1.heap.size]? = some o ∧ W3.heap[W2.heap.size]? = some o ∧ W1.heap.size < W2.heap.size := by
  have e1 := h2.block (alloc_new W1 o)
  have hlt : W1.heap.size < W2.heap.size := by
    have := Below.size h2
    simp at this
    omega
  refine ⟨h3.block ?_, h3.block (alloc_new W2 o), hlt⟩
  rw [Below.heap_alloc _ _ _ hlt]
  exact e1

set_option maxHeartbeats 3200000 in
theorem pathSwaps_any (v : Value) (w : World) (hv : ArgAsk v) :
    Calls Try.prog 4 #[v] w fun e w' => e = .returned (.bool true) ∧ Below w.heap.size w w' := by
  obtain ⟨k1, k2, p0, q0, b0, s0, rfl, hp0, hq0, hb0, hs0⟩ := hv
  have m0 := fun w' (h : Below (w.alloc (.cells #[.int .i64 k1, .string p0, .int .i64 k2, .string q0, .string b0, .string s0] 31)).heap.size (w.alloc (.cells #[.int .i64 k1, .string p0, .int .i64 k2, .string q0, .string b0, .string s0] 31)) w') => held_cell (i := 0) h rfl
  have m1 := fun w' (h : Below (w.alloc (.cells #[.int .i64 k1, .string p0, .int .i64 k2, .string q0, .string b0, .string s0] 31)).heap.size (w.alloc (.cells #[.int .i64 k1, .string p0, .int .i64 k2, .string q0, .string b0, .string s0] 31)) w') => held_cell (i := 1) h rfl
  have m2 := fun w' (h : Below (w.alloc (.cells #[.int .i64 k1, .string p0, .int .i64 k2, .string q0, .string b0, .string s0] 31)).heap.size (w.alloc (.cells #[.int .i64 k1, .string p0, .int .i64 k2, .string q0, .string b0, .string s0] 31)) w') => held_cell (i := 2) h rfl
  have m3 := fun w' (h : Below (w.alloc (.cells #[.int .i64 k1, .string p0, .int .i64 k2, .string q0, .string b0, .string s0] 31)).heap.size (w.alloc (.cells #[.int .i64 k1, .string p0, .int .i64 k2, .string q0, .string b0, .string s0] 31)) w') => held_cell (i := 3) h rfl
  have m4 := fun w' (h : Below (w.alloc (.cells #[.int .i64 k1, .string p0, .int .i64 k2, .string q0, .string b0, .string s0] 31)).heap.size (w.alloc (.cells #[.int .i64 k1, .string p0, .int .i64 k2, .string q0, .string b0, .string s0] 31)) w') => held_cell (i := 4) h rfl
  have m5 := fun w' (h : Below (w.alloc (.cells #[.int .i64 k1, .string p0, .int .i64 k2, .string q0, .string b0, .string s0] 31)).heap.size (w.alloc (.cells #[.int .i64 k1, .string p0, .int .i64 k2, .string q0, .string b0, .string s0] 31)) w') => held_cell (i := 5) h rfl
  have B0 : Below w.heap.size w (w.alloc (.cells #[.int .i64 k1, .string p0, .int .i64 k2, .string q0, .string b0, .string s0] 31)) := (Below.refl _ _).alloc (Nat.le_refl _) _
  go_enter Try.func4, Try.ntmps4
  go_wp2_with fail
  generalize (w.alloc (.cells #[.int .i64 k1, .string p0, .int .i64 k2, .string q0, .string b0, .string s0] 31)) = base at *
  refine wp_region_G 14 (fun w' => Below base.heap.size base w') (by kernel_rfl) ((Below.refl _ _).drew) ?_
  refine wpG_take (i := 0) 5 (v := .pointer (some ⟨w.heap.size, 0, none⟩)) rfl (by kernel_rfl) (by kernel_rfl) (by kernel_rfl) (by decide) (by kernel_rfl) (by kernel_rfl) (fun _ _ _ h => h) (Or.inl ⟨by rfl, fun w1 hS => ?_⟩) ?_
  · dsimp only at hS
    go_simp
  simp only [Act.put, List.setIfInBounds_toArray, List.set_cons_zero, List.set_cons_succ]
  refine wpG_take (i := 1) 5 (v := .agg #[.int .i64 k1, .string p0]) rfl (by kernel_rfl) (by kernel_rfl) (by kernel_rfl) (by decide) (by kernel_rfl) (by kernel_rfl) (fun _ _ _ h => h) (Or.inl ⟨by rfl, fun w1 hS => ?_⟩) ?_
  · dsimp only at hS
    go_simp
  simp only [Act.put, List.setIfInBounds_toArray, List.set_cons_zero, List.set_cons_succ]
  refine wpG_take (i := 2) 5 (v := .agg #[.int .i64 k1, .string (fewB p0)]) rfl (by kernel_rfl) (by kernel_rfl) (by kernel_rfl) (by decide) (by kernel_rfl) (by kernel_rfl) (fun _ _ _ h => h) (Or.inl ⟨by rfl, fun w1 hS => ?_⟩) ?_
  · dsimp only at hS
    go_simp
    exact calls_grow hS (Nat.le_refl _) (pfew_any _ _ _ hp0)
  simp only [Act.put, List.setIfInBounds_toArray, List.set_cons_zero, List.set_cons_succ]
  refine wpG_take (i := 3) 5 (v := .pointer (some ⟨w.heap.size, 2, none⟩)) rfl (by kernel_rfl) (by kernel_rfl) (by kernel_rfl) (by decide) (by kernel_rfl) (by kernel_rfl) (fun _ _ _ h => h) (Or.inl ⟨by rfl, fun w1 hS => ?_⟩) ?_
  · dsimp only at hS
    go_simp
  simp only [Act.put, List.setIfInBounds_toArray, List.set_cons_zero, List.set_cons_succ]
  refine wpG_take (i := 4) 5 (v := .agg #[.int .i64 k2, .string q0]) rfl (by kernel_rfl) (by kernel_rfl) (by kernel_rfl) (by decide) (by kernel_rfl) (by kernel_rfl) (fun _ _ _ h => h) (Or.inl ⟨by rfl, fun w1 hS => ?_⟩) ?_
  · dsimp only at hS
    go_simp
  simp only [Act.put, List.setIfInBounds_toArray, List.set_cons_zero, List.set_cons_succ]
  refine wpG_take (i := 5) 5 (v := .agg #[.int .i64 k2, .string (fewB q0)]) rfl (by kernel_rfl) (by kernel_rfl) (by kernel_rfl) (by decide) (by kernel_rfl) (by kernel_rfl) (fun _ _ _ h => h) (Or.inl ⟨by rfl, fun w1 hS => ?_⟩) ?_
  · dsimp only at hS
    go_simp
    exact calls_grow hS (Nat.le_refl _) (pfew_any _ _ _ hq0)
  simp only [Act.put, List.setIfInBounds_toArray, List.set_cons_zero, List.set_cons_succ]
  refine wpG_take (i := 6) 5 (v := .pointer (some ⟨w.heap.size, 4, none⟩)) rfl (by kernel_rfl) (by kernel_rfl) (by kernel_rfl) (by decide) (by kernel_rfl) (by kernel_rfl) (fun _ _ _ h => h) (Or.inl ⟨by rfl, fun w1 hS => ?_⟩) ?_
  · dsimp only at hS
    go_simp
  simp only [Act.put, List.setIfInBounds_toArray, List.set_cons_zero, List.set_cons_succ]
  refine wpG_take (i := 7) 5 (v := .string b0) rfl (by kernel_rfl) (by kernel_rfl) (by kernel_rfl) (by decide) (by kernel_rfl) (by kernel_rfl) (fun _ _ _ h => h) (Or.inl ⟨by rfl, fun w1 hS => ?_⟩) ?_
  · dsimp only at hS
    go_simp
  simp only [Act.put, List.setIfInBounds_toArray, List.set_cons_zero, List.set_cons_succ]
  refine wpG_take (i := 8) 5 (v := .string (fewB b0)) rfl (by kernel_rfl) (by kernel_rfl) (by kernel_rfl) (by decide) (by kernel_rfl) (by kernel_rfl) (fun _ _ _ h => h) (Or.inl ⟨by rfl, fun w1 hS => ?_⟩) ?_
  · dsimp only at hS
    go_simp
    exact calls_grow_same hS (fewB_any _ _ hb0)
  simp only [Act.put, List.setIfInBounds_toArray, List.set_cons_zero, List.set_cons_succ]
  refine wpG_take (i := 9) 5 (v := .pointer (some ⟨w.heap.size, 5, none⟩)) rfl (by kernel_rfl) (by kernel_rfl) (by kernel_rfl) (by decide) (by kernel_rfl) (by kernel_rfl) (fun _ _ _ h => h) (Or.inl ⟨by rfl, fun w1 hS => ?_⟩) ?_
  · dsimp only at hS
    go_simp
  simp only [Act.put, List.setIfInBounds_toArray, List.set_cons_zero, List.set_cons_succ]
  refine wpG_take (i := 10) 5 (v := .string s0) rfl (by kernel_rfl) (by kernel_rfl) (by kernel_rfl) (by decide) (by kernel_rfl) (by kernel_rfl) (fun _ _ _ h => h) (Or.inl ⟨by rfl, fun w1 hS => ?_⟩) ?_
  · dsimp only at hS
    go_simp
  simp only [Act.put, List.setIfInBounds_toArray, List.set_cons_zero, List.set_cons_succ]
  refine wpG_take (i := 11) 5 (v := .string (fewB s0)) rfl (by kernel_rfl) (by kernel_rfl) (by kernel_rfl) (by decide) (by kernel_rfl) (by kernel_rfl) (fun _ _ _ h => h) (Or.inl ⟨by rfl, fun w1 hS => ?_⟩) ?_
  · dsimp only at hS
    go_simp
    exact calls_grow_same hS (fewB_any _ _ hs0)
  simp only [Act.put, List.setIfInBounds_toArray, List.set_cons_zero, List.set_cons_succ]
  have lp := fewB_le p0
  have lb := fewB_le b0
  have ls := fewB_le s0
  generalize fewB p0 = P at *
  generalize fewB q0 = R at *
  generalize fewB b0 = b at *
  generalize fewB s0 = s at *
  clear hp0 hq0 hb0 hs0 m0 m1 m2 m3 m4 m5
  have hp : P.size ≤ maxLen := small_len (by omega)
  have hb : b.size ≤ maxLen := small_len (by omega)
  have hs : s.size ≤ maxLen := small_len (by omega)
  refine wpG_ready (rs := [12, 13]) (by kernel_rfl) (by simp) (fun W1 hG1 hS1 i hi => ?_)
  have hi' : i = 12 ∨ i = 13 := by simpa using hi
  clear hi
  rcases hi' with rfl | rfl
  · refine wpOp_step rfl (by rfl) (fun K' hK' => ?_)
    go_simp
    refine hK' _ _ (wpG_kept (by decide) (hS1.alloc hS1.size _) ?_)
    clear hK' K'
    refine wpG_ready (rs := [13]) (by kernel_rfl) (by simp) (fun W2 hG2 hS2 i hi => ?_)
    obtain rfl : i = 13 := by simpa using hi
    clear hi
    refine wpOp_step rfl (by rfl) (fun K' hK' => ?_)
    go_simp
    refine hK' _ _ (wpG_kept (by decide) (hS2.alloc hS2.size _) ?_)
    clear hK' K'
    refine wpG_ready (rs := [14]) (by kernel_rfl) (by simp) (fun W3 hG3 hS3 i hi => ?_)
    obtain rfl : i = 14 := by simpa using hi
    clear hi
    obtain ⟨f1, f2, hlt⟩ := two_laid hG2 hG3
    have n1 : w.heap.size ≤ W1.heap.size := Nat.le_trans B0.size hS1.size
    have n2 : w.heap.size ≤ W2.heap.size := Nat.le_trans B0.size hS2.size
    have BB := B0.trans (hS3.mono B0.size)
    clear hS1 hS2 hS3 hG1 hG2 hG3
    generalize W1.heap.size = g at *
    generalize W2.heap.size = h at *
    have hne : g ≠ h := by omega
    have fg : W3.heap[g]? = some (.cells #[.int .i64 0, .string ⟨#[]⟩] 23) := f1
    have fh : W3.heap[h]? = some (.cells #[.int .i64 0, .string ⟨#[]⟩] 23) := f2
    have ng : w.heap.size ≤ g := by omega
    have nh : w.heap.size ≤ h := by omega
    clear f1 f2 hlt n1 n2
    have e1 := block_fst fg
    have e2 := block_snd fg
    have e3 := block_fst fh
    have e4 := block_snd fh
    have l1 := fun i => block_live (i := i) fg
    have l2 := fun i => block_live (i := i) fh
    have hne' : h ≠ g := hne.symm
    refine wpOp_step rfl (by rfl) (fun K' hK' => ?_)
    go_simp
    refine hK' _ _ (wpG_past (by decide) ?_)
    clear hK' K'
    refine wpAny_one (i := 15) (by kernel_rfl) ?_
    refine wpOp_step rfl (by rfl) (fun K' hK' => ?_)
    go_simp
    refine hK' _ _ ?_
    clear hK' K'
    refine wpAny_one (i := 16) (by kernel_rfl) ?_
    refine wpOp_step rfl (by rfl) (fun K' hK' => ?_)
    go_simp
    refine hK' _ _ ?_
    clear hK' K'
    refine wpAny_one (i := 17) (by kernel_rfl) ?_
    refine wpOp_step rfl (by rfl) (fun K' hK' => ?_)
    go_simp
    refine hK' _ _ ?_
    clear hK' K'
    refine wpAny_end (by kernel_rfl) ?_
    change Exit.then _ _ _ _ (setTwo W3 g h (.int .i64 k1) (.string P) (.int .i64 k2) (.string R))
    have S1 := setTwo_fst (a' := .int .i64 k1) (b' := .string P) (c' := .int .i64 k2) (d' := .string R) hne fg
    have S2 := setTwo_snd (a' := .int .i64 k1) (b' := .string P) (c' := .int .i64 k2) (d' := .string R) hne fh
    have B2 : Below w.heap.size w (setTwo W3 g h (.int .i64 k1) (.string P) (.int .i64 k2) (.string R)) := setTwo_below BB ng nh
    clear e1 e2 e3 e4 l1 l2 hne hne' fg fh ng nh BB
    generalize setTwo W3 g h (.int .i64 k1) (.string P) (.int .i64 k2) (.string R) = W4 at *
    have t1 := lt_of_block S1
    have t2 := lt_of_block S2
    have r1 : ∀ p : GB W4, p.W.cell? ⟨g, 0, none⟩ = some (.int .i64 k1) := fun p => block_fst ((p.h.block _ t1).trans S1)
    have r2 : ∀ p : GB W4, p.W.cell? ⟨g, 1, none⟩ = some (.string P) := fun p => block_snd ((p.h.block _ t1).trans S1)
    have c1 := block_fst S1
    have c2 := block_snd S1
    go_wp2_with fail
    refine (calls_gb0 (pswap_any _ _ _ _ _ hp hb hs)).mono ?_
    rintro e x ⟨rfl, q, rfl⟩
    go_wp2_with fail
    refine (calls_gb (rswap_any _ _ _ _ _ hp hb hs)).mono ?_
    rintro e x ⟨rfl, q, rfl⟩
    generalize mkB (swapT k1 P.data.toList b.data.toList s.data.toList) = T at *
    generalize swapE k1 P.data.toList b.data.toList s.data.toList = E at *
    have S1' := (q.h.block _ t1).trans S1
    have S2' := (q.h.block _ t2).trans S2
    have B3 := B2.trans (q.h.mono B2.size)
    clear r1 r2 c1 c2 t1 t2 S1 S2 B2
    generalize q.W = W5 at *
    have t1 := lt_of_block S1'
    have t2 := lt_of_block S2'
    have r1 : ∀ p : GB W5, p.W.cell? ⟨g, 0, none⟩ = some (.int .i64 k1) := fun p => block_fst ((p.h.block _ t1).trans S1')
    have r2 : ∀ p : GB W5, p.W.cell? ⟨g, 1, none⟩ = some (.string P) := fun p => block_snd ((p.h.block _ t1).trans S1')
    have r3 : ∀ p : GB W5, p.W.cell? ⟨h, 0, none⟩ = some (.int .i64 k2) := fun p => block_fst ((p.h.block _ t2).trans S2')
    have r4 : ∀ p : GB W5, p.W.cell? ⟨h, 1, none⟩ = some (.string R) := fun p => block_snd ((p.h.block _ t2).trans S2')
    go_wp2_with fail
    refine wp_region_below (by kernel_rfl) (by kernel_rfl) ?_
    repeat (first | go_big_quiet_step ((first | (go_at_call 21; exact calls_gb (porder_any _ _ _ _ _)) | (go_at_call 22; exact calls_gb (rorder_any _ _ _ _ _)) | (go_at_call 18; exact calls_gb (pawake_any _)))) | quiet_step ((first | (go_at_call 21; exact calls_gb (porder_any _ _ _ _ _)) | (go_at_call 22; exact calls_gb (rorder_any _ _ _ _ _)) | (go_at_call 18; exact calls_gb (pawake_any _)))))
    refine wpQuiet_nil ?_
    intro _ hw'
    obtain ⟨q, hw2⟩ := hw'
    subst hw2
    go_wp2_with fail
    go_ret
    exact ⟨rfl, B3.trans (q.h.mono B3.size)⟩
  · refine wpOp_step rfl (by rfl) (fun K' hK' => ?_)
    go_simp
    refine hK' _ _ (wpG_kept (by decide) (hS1.alloc hS1.size _) ?_)
    clear hK' K'
    refine wpG_ready (rs := [12]) (by kernel_rfl) (by simp) (fun W2 hG2 hS2 i hi => ?_)
    obtain rfl : i = 12 := by simpa using hi
    clear hi
    refine wpOp_step rfl (by rfl) (fun K' hK' => ?_)
    go_simp
    refine hK' _ _ (wpG_kept (by decide) (hS2.alloc hS2.size _) ?_)
    clear hK' K'
    refine wpG_ready (rs := [14]) (by kernel_rfl) (by simp) (fun W3 hG3 hS3 i hi => ?_)
    obtain rfl : i = 14 := by simpa using hi
    clear hi
    obtain ⟨f1, f2, hlt⟩ := two_laid hG2 hG3
    have n1 : w.heap.size ≤ W1.heap.size := Nat.le_trans B0.size hS1.size
    have n2 : w.heap.size ≤ W2.heap.size := Nat.le_trans B0.size hS2.size
    have BB := B0.trans (hS3.mono B0.size)
    clear hS1 hS2 hS3 hG1 hG2 hG3
    generalize W1.heap.size = h at *
    generalize W2.heap.size = g at *
    have hne : g ≠ h := by omega
    have fg : W3.heap[g]? = some (.cells #[.int .i64 0, .string ⟨#[]⟩] 23) := f2
    have fh : W3.heap[h]? = some (.cells #[.int .i64 0, .string ⟨#[]⟩] 23) := f1
    have ng : w.heap.size ≤ g := by omega
    have nh : w.heap.size ≤ h := by omega
    clear f1 f2 hlt n1 n2
    have e1 := block_fst fg
    have e2 := block_snd fg
    have e3 := block_fst fh
    have e4 := block_snd fh
    have l1 := fun i => block_live (i := i) fg
    have l2 := fun i => block_live (i := i) fh
    have hne' : h ≠ g := hne.symm
    refine wpOp_step rfl (by rfl) (fun K' hK' => ?_)
    go_simp
    refine hK' _ _ (wpG_past (by decide) ?_)
    clear hK' K'
    refine wpAny_one (i := 15) (by kernel_rfl) ?_
    refine wpOp_step rfl (by rfl) (fun K' hK' => ?_)
    go_simp
    refine hK' _ _ ?_
    clear hK' K'
    refine wpAny_one (i := 16) (by kernel_rfl) ?_
    refine wpOp_step rfl (by rfl) (fun K' hK' => ?_)
    go_simp
    refine hK' _ _ ?_
    clear hK' K'
    refine wpAny_one (i := 17) (by kernel_rfl) ?_
    refine wpOp_step rfl (by rfl) (fun K' hK' => ?_)
    go_simp
    refine hK' _ _ ?_
    clear hK' K'
    refine wpAny_end (by kernel_rfl) ?_
    change Exit.then _ _ _ _ (setTwo W3 g h (.int .i64 k1) (.string P) (.int .i64 k2) (.string R))
    have S1 := setTwo_fst (a' := .int .i64 k1) (b' := .string P) (c' := .int .i64 k2) (d' := .string R) hne fg
    have S2 := setTwo_snd (a' := .int .i64 k1) (b' := .string P) (c' := .int .i64 k2) (d' := .string R) hne fh
    have B2 : Below w.heap.size w (setTwo W3 g h (.int .i64 k1) (.string P) (.int .i64 k2) (.string R)) := setTwo_below BB ng nh
    clear e1 e2 e3 e4 l1 l2 hne hne' fg fh ng nh BB
    generalize setTwo W3 g h (.int .i64 k1) (.string P) (.int .i64 k2) (.string R) = W4 at *
    have t1 := lt_of_block S1
    have t2 := lt_of_block S2
    have r1 : ∀ p : GB W4, p.W.cell? ⟨g, 0, none⟩ = some (.int .i64 k1) := fun p => block_fst ((p.h.block _ t1).trans S1)
    have r2 : ∀ p : GB W4, p.W.cell? ⟨g, 1, none⟩ = some (.string P) := fun p => block_snd ((p.h.block _ t1).trans S1)
    have c1 := block_fst S1
    have c2 := block_snd S1
    go_wp2_with fail
    refine (calls_gb0 (pswap_any _ _ _ _ _ hp hb hs)).mono ?_
    rintro e x ⟨rfl, q, rfl⟩
    go_wp2_with fail
    refine (calls_gb (rswap_any _ _ _ _ _ hp hb hs)).mono ?_
    rintro e x ⟨rfl, q, rfl⟩
    generalize mkB (swapT k1 P.data.toList b.data.toList s.data.toList) = T at *
    generalize swapE k1 P.data.toList b.data.toList s.data.toList = E at *
    have S1' := (q.h.block _ t1).trans S1
    have S2' := (q.h.block _ t2).trans S2
    have B3 := B2.trans (q.h.mono B2.size)
    clear r1 r2 c1 c2 t1 t2 S1 S2 B2
    generalize q.W = W5 at *
    have t1 := lt_of_block S1'
    have t2 := lt_of_block S2'
    have r1 : ∀ p : GB W5, p.W.cell? ⟨g, 0, none⟩ = some (.int .i64 k1) := fun p => block_fst ((p.h.block _ t1).trans S1')
    have r2 : ∀ p : GB W5, p.W.cell? ⟨g, 1, none⟩ = some (.string P) := fun p => block_snd ((p.h.block _ t1).trans S1')
    have r3 : ∀ p : GB W5, p.W.cell? ⟨h, 0, none⟩ = some (.int .i64 k2) := fun p => block_fst ((p.h.block _ t2).trans S2')
    have r4 : ∀ p : GB W5, p.W.cell? ⟨h, 1, none⟩ = some (.string R) := fun p => block_snd ((p.h.block _ t2).trans S2')
    go_wp2_with fail
    refine wp_region_below (by kernel_rfl) (by kernel_rfl) ?_
    repeat (first | go_big_quiet_step ((first | (go_at_call 21; exact calls_gb (porder_any _ _ _ _ _)) | (go_at_call 22; exact calls_gb (rorder_any _ _ _ _ _)) | (go_at_call 18; exact calls_gb (pawake_any _)))) | quiet_step ((first | (go_at_call 21; exact calls_gb (porder_any _ _ _ _ _)) | (go_at_call 22; exact calls_gb (rorder_any _ _ _ _ _)) | (go_at_call 18; exact calls_gb (pawake_any _)))))
    refine wpQuiet_nil ?_
    intro _ hw'
    obtain ⟨q, hw2⟩ := hw'
    subst hw2
    go_wp2_with fail
    go_ret
    exact ⟨rfl, B3.trans (q.h.mono B3.size)⟩

end Go.Proofs.Ytiepbigibdjfoaa
