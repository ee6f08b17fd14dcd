/-
  The law PathOrders.
-/
import Derived.Test.YtiepbigibdjfoaaPaLawF
import Derived.Test.YtiepbigibdjfoaaGrow
namespace Go.Proofs.Ytiepbigibdjfoaa
open Go Go.RowKit Go.Shelf Go.ChangeShapes Go.WideShapes

attribute [local go_sem] gb_const

/-- three structs of two fields that were laid one behind the other -/
def box3 (w : World) (a b c d e f : Value) (t : Nat) : World := ((w.alloc (.cells #[a, b] t)).alloc (.cells #[c, d] t)).alloc (.cells #[e, f] t)
theorem box3_blocks {w : World} {a b c d e f : Value} {t : Nat} (p : GB (box3 w a b c d e f t).drew) :
    p.W.heap[w.heap.size]? = some (.cells #[a, b] t) ∧ p.W.heap[w.heap.size + 1]? = some (.cells #[c, d] t) ∧ p.W.heap[w.heap.size + 1 + 1]? = some (.cells #[e, f] t) := by
  have hs : (box3 w a b c d e f t).drew.heap.size = w.heap.size + 1 + 1 + 1 := by show (box3 w a b c d e f t).heap.size = _; simp [box3]
  refine ⟨?_, ?_, ?_⟩
  · rw [p.h.block _ (by rw [hs]; omega)]
    show (box3 w a b c d e f t).heap[w.heap.size]? = _
    unfold box3
    rw [Below.heap_alloc _ _ _ (by simp; omega), Below.heap_alloc _ _ _ (by simp)]
    exact alloc_new _ _
  · rw [p.h.block _ (by rw [hs]; omega)]
    show (box3 w a b c d e f t).heap[w.heap.size + 1]? = _
    unfold box3
    rw [Below.heap_alloc _ _ _ (by simp)]
    simpa using alloc_new (w.alloc (.cells #[a, b] t)) (.cells #[c, d] t)
  · rw [p.h.block _ (by rw [hs]; omega)]
    show (box3 w a b c d e f t).heap[w.heap.size + 1 + 1]? = _
    have h := alloc_new ((w.alloc (.cells #[a, b] t)).alloc (.cells #[c, d] t)) (.cells #[e, f] t)
    simp only [World.size_alloc] at h
    exact h
theorem box3_below {w : World} {a b c d e f : Value} {t : Nat} : Below w.heap.size w (box3 w a b c d e f t) :=
  (((Below.refl _ _).alloc (Nat.le_refl _) _).alloc (by simp) _).alloc (by simp; omega) _

/-- each of them written anew -/
def set3 (q : World) (n : Nat) (a b c d e f : Value) : World := (swW q n a b c d).setCell ⟨n + 1 + 1, 0, none⟩ e |>.setCell ⟨n + 1 + 1, 1, none⟩ f
theorem set3_blocks {q : World} {n : Nat} {a b c d e f a' b' c' d' e' f' : Value} {t : Nat} (h1 : q.heap[n]? = some (.cells #[a, b] t)) (h2 : q.heap[n + 1]? = some (.cells #[c, d] t)) (h3 : q.heap[n + 1 + 1]? = some (.cells #[e, f] t)) :
    (set3 q n a' b' c' d' e' f').heap[n]? = some (.cells #[a', b'] t) ∧ (set3 q n a' b' c' d' e' f').heap[n + 1]? = some (.cells #[c', d'] t) ∧ (set3 q n a' b' c' d' e' f').heap[n + 1 + 1]? = some (.cells #[e', f'] t) := by
  unfold set3
  refine ⟨?_, ?_, ?_⟩
  · rw [set_far (by omega), set_far (by omega)]; exact swW_fst h1
  · rw [set_far (by omega), set_far (by omega)]; exact swW_snd h2
  · refine set_block1 (b := f) _ (set_block0 (a := e) (b := f) _ ?_)
    exact (show (swW q n a' b' c' d').heap[n + 1 + 1]? = q.heap[n + 1 + 1]? by
      unfold swW
      rw [set_far (by omega), set_far (by omega), set_far (by omega), set_far (by omega)]).trans h3
theorem set3_below {w q : World} {n : Nat} {a b c d e f : Value} (h : Below w.heap.size w q) (hn : w.heap.size ≤ n) : Below w.heap.size w (set3 q n a b c d e f) :=
  ((swW_below h hn).setCell (p := ⟨n + 1 + 1, 0, none⟩) (by show w.heap.size ≤ n + 1 + 1; omega) _).setCell (p := ⟨n + 1 + 1, 1, none⟩) (by show w.heap.size ≤ n + 1 + 1; omega) _

/-- the cells of three such, in whatever world they stay below -/
theorem held3 {w w' : World} {a b c d e f : Value} {t : Nat} (h : Below (box3 w a b c d e f t).heap.size (box3 w a b c d e f t) w') :
    w'.heap[w.heap.size]? = some (.cells #[a, b] t) ∧ w'.heap[w.heap.size + 1]? = some (.cells #[c, d] t) ∧ w'.heap[w.heap.size + 1 + 1]? = some (.cells #[e, f] t) :=
  box3_blocks (p := ⟨w', ⟨h.os, h.tape, h.output, h.size, h.block⟩⟩)

set_option maxHeartbeats 1600000 in
theorem pathOrders_any (v0 v1 v2 : Value) (w : World) (h0 : ArgPath v0) (h1 : ArgPath v1) (h2 : ArgPath v2) :
    Calls Try.prog 5 #[v0, v1, v2] w fun e w' => e = .returned (.bool true) ∧ Below w.heap.size w w' := by
  obtain ⟨ka, a0, rfl, ha0⟩ := h0
  obtain ⟨kb, b0, rfl, hb0⟩ := h1
  obtain ⟨kc, c0, rfl, hc0⟩ := h2
  have HB := fun w' (h : Below (box3 w (.int .i64 ka) (.string a0) (.int .i64 kb) (.string b0) (.int .i64 kc) (.string c0) 23).heap.size (box3 w (.int .i64 ka) (.string a0) (.int .i64 kb) (.string b0) (.int .i64 kc) (.string c0) 23) w') => held3 h
  have m1 := fun w' h => block_fst (HB w' h).1
  have m2 := fun w' h => block_snd (HB w' h).1
  have m3 := fun w' h => block_fst (HB w' h).2.1
  have m4 := fun w' h => block_snd (HB w' h).2.1
  have m5 := fun w' h => block_fst (HB w' h).2.2
  have m6 := fun w' h => block_snd (HB w' h).2.2
  have HBH := hide HB
  clear HB
  go_enter Try.func5, Try.ntmps5
  go_wp2_with fail
  change Code.wp _ _ _ _ (box3 w (.int .i64 ka) (.string a0) (.int .i64 kb) (.string b0) (.int .i64 kc) (.string c0) 23)
  have B0 := box3_below (w := w) (a := .int .i64 ka) (b := .string a0) (c := .int .i64 kb) (d := .string b0) (e := .int .i64 kc) (f := .string c0) (t := 23)
  generalize box3 w (.int .i64 ka) (.string a0) (.int .i64 kb) (.string b0) (.int .i64 kc) (.string c0) 23 = base at *
  refine wp_region_G 6 (fun w' => Below base.heap.size base w') (by kernel_rfl) ((Below.refl _ _).drew) ?_
  refine wpG_take (i := 0) 4 (v := .agg #[.int .i64 ka, .string a0]) rfl (by kernel_rfl) (by kernel_rfl) (by kernel_rfl) (by decide) (by kernel_rfl) (by kernel_rfl) (fun _ _ _ h => h) (Or.inl ⟨by rfl, fun w1 hS => ?_⟩) ?_
  · dsimp only at hS
    go_simp
  simp only [Act.put, List.setIfInBounds_toArray, List.set_cons_zero, List.set_cons_succ]
  refine wpG_take (i := 1) 4 (v := .agg #[.int .i64 ka, .string (fewB a0)]) rfl (by kernel_rfl) (by kernel_rfl) (by kernel_rfl) (by decide) (by kernel_rfl) (by kernel_rfl) (fun _ _ _ h => h) (Or.inl ⟨by rfl, fun w1 hS => ?_⟩) ?_
  · dsimp only at hS
    go_simp
    exact calls_grow hS (Nat.le_refl _) (pfew_any _ _ _ ha0)
  simp only [Act.put, List.setIfInBounds_toArray, List.set_cons_zero, List.set_cons_succ]
  refine wpG_take (i := 2) 4 (v := .agg #[.int .i64 kb, .string b0]) rfl (by kernel_rfl) (by kernel_rfl) (by kernel_rfl) (by decide) (by kernel_rfl) (by kernel_rfl) (fun _ _ _ h => h) (Or.inl ⟨by rfl, fun w1 hS => ?_⟩) ?_
  · dsimp only at hS
    go_simp
  simp only [Act.put, List.setIfInBounds_toArray, List.set_cons_zero, List.set_cons_succ]
  refine wpG_take (i := 3) 4 (v := .agg #[.int .i64 kb, .string (fewB b0)]) rfl (by kernel_rfl) (by kernel_rfl) (by kernel_rfl) (by decide) (by kernel_rfl) (by kernel_rfl) (fun _ _ _ h => h) (Or.inl ⟨by rfl, fun w1 hS => ?_⟩) ?_
  · dsimp only at hS
    go_simp
    exact calls_grow hS (Nat.le_refl _) (pfew_any _ _ _ hb0)
  simp only [Act.put, List.setIfInBounds_toArray, List.set_cons_zero, List.set_cons_succ]
  refine wpG_take (i := 4) 4 (v := .agg #[.int .i64 kc, .string c0]) rfl (by kernel_rfl) (by kernel_rfl) (by kernel_rfl) (by decide) (by kernel_rfl) (by kernel_rfl) (fun _ _ _ h => h) (Or.inl ⟨by rfl, fun w1 hS => ?_⟩) ?_
  · dsimp only at hS
    go_simp
  simp only [Act.put, List.setIfInBounds_toArray, List.set_cons_zero, List.set_cons_succ]
  refine wpG_take (i := 5) 4 (v := .agg #[.int .i64 kc, .string (fewB c0)]) rfl (by kernel_rfl) (by kernel_rfl) (by kernel_rfl) (by decide) (by kernel_rfl) (by kernel_rfl) (fun _ _ _ h => h) (Or.inl ⟨by rfl, fun w1 hS => ?_⟩) ?_
  · dsimp only at hS
    go_simp
    exact calls_grow hS (Nat.le_refl _) (pfew_any _ _ _ hc0)
  simp only [Act.put, List.setIfInBounds_toArray, List.set_cons_zero, List.set_cons_succ]
  refine wpG_ready (rs := [6]) (by kernel_rfl) (by simp) (fun W hG hS i hi => ?_)
  obtain rfl : i = 6 := by simpa using hi
  clear hi
  have hbl := HBH.out W hS
  have e1 := block_fst hbl.1
  have e2 := block_snd hbl.1
  have e3 := block_fst hbl.2.1
  have e4 := block_snd hbl.2.1
  have e5 := block_fst hbl.2.2
  have e6 := block_snd hbl.2.2
  have l1 := fun i => block_live (i := i) hbl.1
  have l2 := fun i => block_live (i := i) hbl.2.1
  have l3 := fun i => block_live (i := i) hbl.2.2
  refine wpOp_step rfl (by rfl) (fun K' hK' => ?_)
  go_simp
  refine hK' _ _ (wpG_past (by decide) ?_)
  refine wpAny_one (i := 7) (by kernel_rfl) ?_
  refine wpOp_step rfl (by rfl) (fun K' hK' => ?_)
  go_simp
  refine hK' _ _ ?_
  refine wpAny_one (i := 8) (by kernel_rfl) ?_
  refine wpOp_step rfl (by rfl) (fun K' hK' => ?_)
  go_simp
  refine hK' _ _ ?_
  refine wpAny_end (by kernel_rfl) ?_
  change Exit.then _ _ _ _ (set3 W w.heap.size (.int .i64 ka) (.string (fewB a0)) (.int .i64 kb) (.string (fewB b0)) (.int .i64 kc) (.string (fewB c0)))
  have S := set3_blocks (a' := .int .i64 ka) (b' := .string (fewB a0)) (c' := .int .i64 kb) (d' := .string (fewB b0)) (e' := .int .i64 kc) (f' := .string (fewB c0)) hbl.1 hbl.2.1 hbl.2.2
  have B2 : Below w.heap.size w (set3 W w.heap.size (.int .i64 ka) (.string (fewB a0)) (.int .i64 kb) (.string (fewB b0)) (.int .i64 kc) (.string (fewB c0))) := set3_below (B0.trans (hS.mono B0.size)) (Nat.le_refl _)
  clear hK' e1 e2 e3 e4 e5 e6 l1 l2 l3 m1 m2 m3 m4 m5 m6 hbl HBH hS hG
  generalize set3 W w.heap.size (.int .i64 ka) (.string (fewB a0)) (.int .i64 kb) (.string (fewB b0)) (.int .i64 kc) (.string (fewB c0)) = W2 at *
  generalize fewB a0 = A at *
  generalize fewB b0 = B at *
  generalize fewB c0 = C at *
  clear ha0 hb0 hc0
  have n1 := lt_of_block S.1
  have n2 := lt_of_block S.2.1
  have n3 := lt_of_block S.2.2
  have m1 : ∀ p : GB W2, p.W.cell? ⟨w.heap.size, 0, none⟩ = some (.int .i64 ka) := fun p => block_fst ((p.h.block _ n1).trans S.1)
  have m2 : ∀ p : GB W2, p.W.cell? ⟨w.heap.size, 1, none⟩ = some (.string A) := fun p => block_snd ((p.h.block _ n1).trans S.1)
  have m3 : ∀ p : GB W2, p.W.cell? ⟨w.heap.size + 1, 0, none⟩ = some (.int .i64 kb) := fun p => block_fst ((p.h.block _ n2).trans S.2.1)
  have m4 : ∀ p : GB W2, p.W.cell? ⟨w.heap.size + 1, 1, none⟩ = some (.string B) := fun p => block_snd ((p.h.block _ n2).trans S.2.1)
  have m5 : ∀ p : GB W2, p.W.cell? ⟨w.heap.size + 1 + 1, 0, none⟩ = some (.int .i64 kc) := fun p => block_fst ((p.h.block _ n3).trans S.2.2)
  have m6 : ∀ p : GB W2, p.W.cell? ⟨w.heap.size + 1 + 1, 1, none⟩ = some (.string C) := fun p => block_snd ((p.h.block _ n3).trans S.2.2)
  clear S n1 n2 n3
  have han := ordP_anti ka A.data.toList kb B.data.toList
  have hze := ordP_zero ka A.data.toList kb B.data.toList
  have ht1 : ordP ka A.data.toList kb B.data.toList ≤ 0 → ordP kb B.data.toList kc C.data.toList ≤ 0 → ordP ka A.data.toList kc C.data.toList ≤ 0 := ordP_trans
  have ht2 : ordP ka A.data.toList kb B.data.toList < 0 → ordP kb B.data.toList kc C.data.toList ≤ 0 → ordP ka A.data.toList kc C.data.toList < 0 := ordP_trans_lt
  have hne : ordP ka A.data.toList kb B.data.toList ≠ 0 → (ka == kb) = false ∨ ((ka == kb) = true ∧ (A.toList == B.toList) = false) := fun h => by
    cases e : (ka == kb)
    · exact .inl rfl
    · refine .inr ⟨rfl, ?_⟩
      rw [list_beq, beq_eq_false_iff_ne]
      exact fun e2 => h (hze.2 ⟨eq_of_beq e, e2⟩)
  rcases ordP_range ka A.data.toList kb B.data.toList with hx | hx | hx
  · have HX := hide hx
    have HN : Hid (ordP kb B.data.toList ka A.data.toList = 1) := by unfold Hid; rw [han, hx]; rfl
    have hn2 := hne (by rw [hx]; decide)
    by_cases hy : ordP kb B.data.toList kc C.data.toList ≤ 0
    · have hz := ht2 (by rw [hx]; decide) hy
      have hz1 : decide (0 < ordP ka A.data.toList kc C.data.toList) = false := decide_eq_false (by omega)
      have hz2 : decide (0 ≤ ordP ka A.data.toList kc C.data.toList) = false := decide_eq_false (by omega)
      clear hx han hze ht1 ht2 hne hz
      rcases hn2 with hk | ⟨hk, hk2⟩
      all_goals
        go_wp2_with fail
        refine wp_region_below (by kernel_rfl) (by kernel_rfl) ?_
        repeat (first | go_big_quiet_step ((go_at_call 21; exact calls_gb (porder_any _ _ _ _ _))) | quiet_step ((go_at_call 21; exact calls_gb (porder_any _ _ _ _ _))))
        refine wpQuiet_nil ?_
        intro _ hw'
        obtain ⟨q, hw2⟩ := hw'
        subst hw2
        rw [HX.out]
        generalize ordP kb B.data.toList kc C.data.toList = y at *
        generalize ordP ka A.data.toList kc C.data.toList = z at *
        go_wp2_with fail
        refine (calls_gb (porder_any _ _ _ _ _)).mono ?_
        rintro e x ⟨rfl, q, rfl⟩
        rw [HN.out]
        go_wp2_with fail
        refine (calls_gb (pawake_any _)).mono ?_
        rintro e x ⟨rfl, q, rfl⟩
        go_wp2_with fail
        go_ret
        exact ⟨rfl, B2.trans (q.h.mono B2.size)⟩
    · clear hx han hze ht1 ht2 hne
      rcases hn2 with hk | ⟨hk, hk2⟩
      all_goals
        go_wp2_with fail
        refine wp_region_below (by kernel_rfl) (by kernel_rfl) ?_
        repeat (first | go_big_quiet_step ((go_at_call 21; exact calls_gb (porder_any _ _ _ _ _))) | quiet_step ((go_at_call 21; exact calls_gb (porder_any _ _ _ _ _))))
        refine wpQuiet_nil ?_
        intro _ hw'
        obtain ⟨q, hw2⟩ := hw'
        subst hw2
        rw [HX.out]
        generalize ordP kb B.data.toList kc C.data.toList = y at *
        generalize ordP ka A.data.toList kc C.data.toList = z at *
        go_wp2_with fail
        refine (calls_gb (porder_any _ _ _ _ _)).mono ?_
        rintro e x ⟨rfl, q, rfl⟩
        rw [HN.out]
        go_wp2_with fail
        refine (calls_gb (pawake_any _)).mono ?_
        rintro e x ⟨rfl, q, rfl⟩
        go_wp2_with fail
        go_ret
        exact ⟨rfl, B2.trans (q.h.mono B2.size)⟩
  · have HX := hide hx
    have HN : Hid (ordP kb B.data.toList ka A.data.toList = 0) := by unfold Hid; rw [han, hx]; rfl
    obtain ⟨hk, hab⟩ := hze.1 hx
    have hk1 : (ka == kb) = true := by rw [hk]; simp
    have hk2 : (A.toList == B.toList) = true := by rw [list_beq, hab]; simp
    by_cases hy : ordP kb B.data.toList kc C.data.toList ≤ 0
    · have hz := ht1 (by rw [hx]; decide) hy
      have hz1 : decide (0 < ordP ka A.data.toList kc C.data.toList) = false := decide_eq_false (by omega)
      clear hx han hze ht1 ht2 hne hz hk hab
      go_wp2_with fail
      refine wp_region_below (by kernel_rfl) (by kernel_rfl) ?_
      repeat (first | go_big_quiet_step ((go_at_call 21; exact calls_gb (porder_any _ _ _ _ _))) | quiet_step ((go_at_call 21; exact calls_gb (porder_any _ _ _ _ _))))
      refine wpQuiet_nil ?_
      intro _ hw'
      obtain ⟨q, hw2⟩ := hw'
      subst hw2
      rw [HX.out]
      generalize ordP kb B.data.toList kc C.data.toList = y at *
      generalize ordP ka A.data.toList kc C.data.toList = z at *
      go_wp2_with fail
      refine (calls_gb (porder_any _ _ _ _ _)).mono ?_
      rintro e x ⟨rfl, q, rfl⟩
      rw [HN.out]
      go_wp2_with fail
      refine (calls_gb (pawake_any _)).mono ?_
      rintro e x ⟨rfl, q, rfl⟩
      go_wp2_with fail
      go_ret
      exact ⟨rfl, B2.trans (q.h.mono B2.size)⟩
    · clear hx han hze ht1 ht2 hne hk hab
      go_wp2_with fail
      refine wp_region_below (by kernel_rfl) (by kernel_rfl) ?_
      repeat (first | go_big_quiet_step ((go_at_call 21; exact calls_gb (porder_any _ _ _ _ _))) | quiet_step ((go_at_call 21; exact calls_gb (porder_any _ _ _ _ _))))
      refine wpQuiet_nil ?_
      intro _ hw'
      obtain ⟨q, hw2⟩ := hw'
      subst hw2
      rw [HX.out]
      generalize ordP kb B.data.toList kc C.data.toList = y at *
      generalize ordP ka A.data.toList kc C.data.toList = z at *
      go_wp2_with fail
      refine (calls_gb (porder_any _ _ _ _ _)).mono ?_
      rintro e x ⟨rfl, q, rfl⟩
      rw [HN.out]
      go_wp2_with fail
      refine (calls_gb (pawake_any _)).mono ?_
      rintro e x ⟨rfl, q, rfl⟩
      go_wp2_with fail
      go_ret
      exact ⟨rfl, B2.trans (q.h.mono B2.size)⟩
  · have HX := hide hx
    have HN : Hid (ordP kb B.data.toList ka A.data.toList = -1) := by unfold Hid; rw [han, hx]
    have hn2 := hne (by rw [hx]; decide)
    clear hx han hze ht1 ht2 hne
    rcases hn2 with hk | ⟨hk, hk2⟩
    all_goals
      go_wp2_with fail
      refine wp_region_below (by kernel_rfl) (by kernel_rfl) ?_
      repeat (first | go_big_quiet_step ((go_at_call 21; exact calls_gb (porder_any _ _ _ _ _))) | quiet_step ((go_at_call 21; exact calls_gb (porder_any _ _ _ _ _))))
      refine wpQuiet_nil ?_
      intro _ hw'
      obtain ⟨q, hw2⟩ := hw'
      subst hw2
      rw [HX.out]
      generalize ordP kb B.data.toList kc C.data.toList = y at *
      generalize ordP ka A.data.toList kc C.data.toList = z at *
      go_wp2_with fail
      refine (calls_gb (porder_any _ _ _ _ _)).mono ?_
      rintro e x ⟨rfl, q, rfl⟩
      rw [HN.out]
      go_wp2_with fail
      refine (calls_gb (pawake_any _)).mono ?_
      rintro e x ⟨rfl, q, rfl⟩
      go_wp2_with fail
      go_ret
      exact ⟨rfl, B2.trans (q.h.mono B2.size)⟩

end Go.Proofs.Ytiepbigibdjfoaa
