/-
  The law PairsOnce.
-/
import Derived.Test.YtoaakhfedfameaaPbLawC
import Derived.Lib.SmallJoins
namespace Go.Proofs.Ytoaakhfedfameaa
open Go Go.RowKit Go.Shelf Go.ChangeShapes Go.WideShapes Go.Deep

theorem box4 {w W : World} {a b c d : Value} {t : Nat} (h : Below (w.alloc (.cells #[a, b, c, d] t)).heap.size (w.alloc (.cells #[a, b, c, d] t)) W) :
    W.cell? ⟨w.heap.size, 0, none⟩ = some a ∧ W.cell? ⟨w.heap.size, 1, none⟩ = some b ∧ W.cell? ⟨w.heap.size, 2, none⟩ = some c ∧ W.cell? ⟨w.heap.size, 3, none⟩ = some d := by
  simp only [World.cell?]
  rw [box_block h]
  exact ⟨rfl, rfl, rfl, rfl⟩
theorem set_ok {l : List PairB} (h : ∀ p ∈ l, okP p) {n x : ByteArray} (hn : n.size ≤ maxLen) (hx : x.size ≤ maxLen) : ∀ p ∈ setQ l n x, okP p := by
  induction l with
  | nil => intro p hp; simp [setQ, Pb.setP] at hp; subst hp; exact ⟨hn, hx⟩
  | cons q r ih =>
    intro p hp
    unfold setQ Pb.setP at hp
    split at hp
    · rcases List.mem_cons.1 hp with rfl | hp
      · exact ⟨hn, hx⟩
      · exact h p (List.mem_cons_of_mem _ (List.mem_filter.1 hp).1)
    · rcases List.mem_cons.1 hp with rfl | hp
      · exact h _ List.mem_cons_self
      · exact ih (fun p hp => h p (List.mem_cons_of_mem _ hp)) p hp
theorem drop_ok {l : List PairB} (h : ∀ p ∈ l, okP p) (n : ByteArray) : ∀ p ∈ dropQ l n, okP p := fun p hp => h p (List.mem_filter.1 hp).1
theorem drop_len (l : List PairB) (n : ByteArray) : (dropQ l n).length ≤ l.length := List.length_filter_le _ _
theorem set_len (l : List PairB) (n x : ByteArray) : (setQ l n x).length = (dropQ l n).length + 1 := Pb.len_set l n x
theorem set_le (l : List PairB) (n x : ByteArray) : (setQ l n x).length ≤ l.length + 1 := by
  have := set_len l n x
  have := drop_len l n
  omega

set_option maxHeartbeats 1600000 in
theorem once_law (v0 : Value) (sa sb sc : ByteArray) (w : World) (l0 : List PairB) (p0 : Prs w v0 l0) (ok0 : ∀ p ∈ l0, okP p) (ha : sa.size ≤ maxLen) (hb : sb.size ≤ maxLen) (hc : sc.size ≤ maxLen) :
    Calls Try.prog 6 #[.agg #[v0, .string sa, .string sb, .string sc]] w fun e w' => e = .returned (.bool true) ∧ Below w.heap.size w w' := by
  have CF := fun W (h : Prs W v0 l0) => hide (bfew_any v0 l0 W h ok0)
  have okl := hide (bfew_okP l0)
  have hl := bfew_len l0
  have hn := fewB_max sa
  have hx := fewB_max sb
  have ho := fewB_max sc
  have C1 := fun W => hide (fewB_any sa W ha)
  have C2 := fun W => hide (fewB_any sb W hb)
  have C3 := fun W => hide (fewB_any sc W hc)
  generalize fewB2 l0 = l at *
  generalize fewB sa = n at *
  generalize fewB sb = x at *
  generalize fewB sc = o at *
  have hl1 := set_le l n x
  have hl2 := drop_len l n
  have okS := hide (set_ok okl.out hn hx)
  have okD := hide (drop_ok okl.out n)
  have hsl := set_len l n x
  have CS := fun v W (h : Prs W v l) => hide (set_any n x v l W hn h okl.out (by omega))
  have CD := fun v W (h : Prs W v l) => hide (drop_any n v l W hn h okl.out (by omega))
  have CG := fun v W (h : Prs W v (setQ l n x)) => hide (get_any n v _ W hn h okS.out)
  have CH := fun v W (h : Prs W v (dropQ l n)) => hide (get_any n v _ W hn h okD.out)
  have CA := fun v W (h : Prs W v (setQ l n x)) => hide (all_any n v _ W hn h okS.out (by omega))
  have CO := fun v W (h : Prs W v l) => hide (all_any o v _ W ho h okl.out (by omega))
  have CP := fun v W (h : Prs W v (setQ l n x)) => hide (all_any o v _ W ho h okS.out (by omega))
  have CQ := fun v W (h : Prs W v (dropQ l n)) => hide (all_any o v _ W ho h okD.out (by omega))
  have CE := fun W => hide (prSame_any n o W hn ho)
  have hal := all_len l o
  rw [show getQ (setQ l n x) n = some x from Pb.get_set l n x] at CG
  rw [show getQ (dropQ l n) n = none from Pb.get_drop l n] at CH
  rw [show allQ (setQ l n x) n = [x] from Pb.all_set l n x] at CA
  simp only [valO, Option.getD_some, Option.getD_none, Option.isSome_some, Option.isSome_none] at CG CH
  have HO := hide (fun h : sameF n o = false => (⟨Pb.all_set_other h l x, Pb.all_drop_other h l⟩ : allQ (setQ l n x) o = allQ l o ∧ allQ (dropQ l n) o = allQ l o))
  clear ha hb hc okl okS okD ok0
  have cB := fun W (h : Below (w.alloc (.cells #[v0, .string sa, .string sb, .string sc] 41)).heap.size (w.alloc (.cells #[v0, .string sa, .string sb, .string sc] 41)) W) => box4 h
  go_enter Try.func6, Try.ntmps6
  go_wp2_with fail
  refine wp_region_noPanic ?_
  refine wp_region_held_drew (S := fun W => Below (w.alloc (.cells #[v0, .string sa, .string sb, .string sc] 41)).heap.size (w.alloc (.cells #[v0, .string sa, .string sb, .string sc] 41)) W) (by kernel_rfl) ((Below.refl _ _).drew) (fun hHeld => ?_)
  refine wpAnyH_take (i := 0) (v := ?_) (op_at (rest := _) rfl) (by kernel_rfl) (by kernel_rfl) (by kernel_rfl) (fun _ _ _ h => h) (Or.inl ⟨by rfl, ?_⟩) (by assumption) ?_
  rotate_left 1
  · (intro W hSw; (try dsimp only at hSw); go_simp; (try with_reducible rfl))
  try simp only [Act.put, List.setIfInBounds_toArray, List.set_cons_zero, List.set_cons_succ]
  refine wpAnyH_take (i := 1) (v := ?_) (op_at (rest := _) rfl) (by kernel_rfl) (by kernel_rfl) (by kernel_rfl) (fun _ _ _ h => h) (Or.inl ⟨by rfl, ?_⟩) (by assumption) ?_
  rotate_left 1
  · (intro W hSw; (try dsimp only at hSw); obtain ⟨e1, e2, e3, e4⟩ := cB W hSw; go_simp; (try with_reducible rfl))
  try simp only [Act.put, List.setIfInBounds_toArray, List.set_cons_zero, List.set_cons_succ]
  refine wpAnyH_take (i := 3) (v := ?_) (op_at (rest := _) rfl) (by kernel_rfl) (by kernel_rfl) (by kernel_rfl) (fun _ _ _ h => h) (Or.inl ⟨by rfl, ?_⟩) (by assumption) ?_
  rotate_left 1
  · (intro W hSw; (try dsimp only at hSw); go_simp; (try with_reducible rfl))
  try simp only [Act.put, List.setIfInBounds_toArray, List.set_cons_zero, List.set_cons_succ]
  refine wpAnyH_take (i := 4) (v := ?_) (op_at (rest := _) rfl) (by kernel_rfl) (by kernel_rfl) (by kernel_rfl) (fun _ _ _ h => h) (Or.inl ⟨by rfl, ?_⟩) (by assumption) ?_
  rotate_left 1
  · (intro W hSw; (try dsimp only at hSw); obtain ⟨e1, e2, e3, e4⟩ := cB W hSw; go_simp; (try with_reducible rfl))
  try simp only [Act.put, List.setIfInBounds_toArray, List.set_cons_zero, List.set_cons_succ]
  refine wpAnyH_take (i := 6) (v := ?_) (op_at (rest := _) rfl) (by kernel_rfl) (by kernel_rfl) (by kernel_rfl) (fun _ _ _ h => h) (Or.inl ⟨by rfl, ?_⟩) (by assumption) ?_
  rotate_left 1
  · (intro W hSw; (try dsimp only at hSw); go_simp; (try with_reducible rfl))
  try simp only [Act.put, List.setIfInBounds_toArray, List.set_cons_zero, List.set_cons_succ]
  refine wpAnyH_take (i := 7) (v := ?_) (op_at (rest := _) rfl) (by kernel_rfl) (by kernel_rfl) (by kernel_rfl) (fun _ _ _ h => h) (Or.inl ⟨by rfl, ?_⟩) (by assumption) ?_
  rotate_left 1
  · (intro W hSw; (try dsimp only at hSw); obtain ⟨e1, e2, e3, e4⟩ := cB W hSw; go_simp; (try with_reducible rfl))
  try simp only [Act.put, List.setIfInBounds_toArray, List.set_cons_zero, List.set_cons_succ]
  refine wpAnyH_take (i := 9) (v := ?_) (op_at (rest := _) rfl) (by kernel_rfl) (by kernel_rfl) (by kernel_rfl) (fun _ _ _ h => h) (Or.inl ⟨by rfl, ?_⟩) (by assumption) ?_
  rotate_left 1
  · (intro W hSw; (try dsimp only at hSw); go_simp; (try with_reducible rfl))
  try simp only [Act.put, List.setIfInBounds_toArray, List.set_cons_zero, List.set_cons_succ]
  refine wpAnyH_take (i := 10) (v := ?_) (op_at (rest := _) rfl) (by kernel_rfl) (by kernel_rfl) (by kernel_rfl) (fun _ _ _ h => h) (Or.inl ⟨by rfl, ?_⟩) (by assumption) ?_
  rotate_left 1
  · (intro W hSw; (try dsimp only at hSw); obtain ⟨e1, e2, e3, e4⟩ := cB W hSw; go_simp; (try with_reducible rfl))
  try simp only [Act.put, List.setIfInBounds_toArray, List.set_cons_zero, List.set_cons_succ]
  refine wpAnyH_ready (rs := [2]) (by kernel_rfl) (by simp) ?_
  refine AllReadyH.cons (op_at (rest := _) rfl) (fun K hK => ?_) AllReadyH.nil
  go_simp
  refine (CF _ (p0.below (below_box hHeld))).out.mono ?_
  rintro e w1 ⟨v1, rfl, r1, hb1⟩
  go_wp2_with fail
  refine hK.out _ _ ?_ (fun hHeld1 => ?_)
  · exact hHeld.trans (hb1.mono hHeld.size)
  clear hK K
  try simp only [Act.put, List.setIfInBounds_toArray, List.set_cons_zero, List.set_cons_succ]
  refine wpAnyH_ready (rs := [5]) (by kernel_rfl) (by simp) ?_
  refine AllReadyH.cons (op_at (rest := _) rfl) (fun K hK => ?_) AllReadyH.nil
  go_simp
  refine ((C1 _).out).mono ?_
  rintro e w3 ⟨rfl, hw3⟩
  subst w3
  go_wp2_with fail
  refine hK.out _ _ ?_ (fun _ => ?_)
  · exact hHeld1
  clear hK K
  try simp only [Act.put, List.setIfInBounds_toArray, List.set_cons_zero, List.set_cons_succ]
  refine wpAnyH_ready (rs := [8]) (by kernel_rfl) (by simp) ?_
  refine AllReadyH.cons (op_at (rest := _) rfl) (fun K hK => ?_) AllReadyH.nil
  go_simp
  refine ((C2 _).out).mono ?_
  rintro e w3 ⟨rfl, hw3⟩
  subst w3
  go_wp2_with fail
  refine hK.out _ _ ?_ (fun _ => ?_)
  · exact hHeld1
  clear hK K
  try simp only [Act.put, List.setIfInBounds_toArray, List.set_cons_zero, List.set_cons_succ]
  refine wpAnyH_ready (rs := [11]) (by kernel_rfl) (by simp) ?_
  refine AllReadyH.cons (op_at (rest := _) rfl) (fun K hK => ?_) AllReadyH.nil
  go_simp
  refine ((C3 _).out).mono ?_
  rintro e w3 ⟨rfl, hw3⟩
  subst w3
  go_wp2_with fail
  refine hK.out _ _ ?_ (fun _ => ?_)
  · exact hHeld1
  clear hK K
  try simp only [Act.put, List.setIfInBounds_toArray, List.set_cons_zero, List.set_cons_succ]
  refine wpAnyH_take (i := 12) (v := ?_) (op_at (rest := _) rfl) (by kernel_rfl) (by kernel_rfl) (by kernel_rfl) (fun _ _ _ h => h) (Or.inl ⟨by rfl, ?_⟩) (by assumption) ?_
  rotate_left 1
  · (intro W hSw; (try dsimp only at hSw); go_simp; (try with_reducible rfl))
  try simp only [Act.put, List.setIfInBounds_toArray, List.set_cons_zero, List.set_cons_succ]
  refine wpAnyH_take (i := 13) (v := ?_) (op_at (rest := _) rfl) (by kernel_rfl) (by kernel_rfl) (by kernel_rfl) (fun _ _ _ h => h) (Or.inl ⟨by rfl, ?_⟩) (by assumption) ?_
  rotate_left 1
  · (intro W hSw; (try dsimp only at hSw); go_simp; (try with_reducible rfl))
  try simp only [Act.put, List.setIfInBounds_toArray, List.set_cons_zero, List.set_cons_succ]
  refine wpAnyH_take (i := 14) (v := ?_) (op_at (rest := _) rfl) (by kernel_rfl) (by kernel_rfl) (by kernel_rfl) (fun _ _ _ h => h) (Or.inl ⟨by rfl, ?_⟩) (by assumption) ?_
  rotate_left 1
  · (intro W hSw; (try dsimp only at hSw); go_simp; (try with_reducible rfl))
  try simp only [Act.put, List.setIfInBounds_toArray, List.set_cons_zero, List.set_cons_succ]
  refine wpAnyH_take (i := 15) (v := ?_) (op_at (rest := _) rfl) (by kernel_rfl) (by kernel_rfl) (by kernel_rfl) (fun _ _ _ h => h) (Or.inl ⟨by rfl, ?_⟩) (by assumption) ?_
  rotate_left 1
  · (intro W hSw; (try dsimp only at hSw); go_simp; (try with_reducible rfl))
  try simp only [Act.put, List.setIfInBounds_toArray, List.set_cons_zero, List.set_cons_succ]
  refine wpAnyH_done (by kernel_rfl) ?_ _
  refine NoPanic.normal ?_
  have ql := Prs.of_row rfl r1
  have S := below_box hHeld1
  clear r1 hb1 hHeld hHeld1 cB C1 C2 C3 CF
  generalize setQ l n x = u at *
  generalize dropQ l n = d at *
  go_wp2_with fail
  refine (CS _ _ ql).out.mono ?_
  rintro e w2 ⟨v2, rfl, qs, hb2⟩
  replace ql := ql.below hb2
  replace S := bb2 S hb2
  go_wp2_with fail
  refine (CD _ _ ql).out.mono ?_
  rintro e w3 ⟨v3, rfl, qd, hb3⟩
  replace ql := ql.below hb3
  replace qs := qs.below hb3
  replace S := bb2 S hb3
  go_wp2_with fail
  refine (CG _ _ qs).out.mono ?_
  rintro e w4 ⟨rfl, hb4⟩
  replace ql := ql.below hb4
  replace qs := qs.below hb4
  replace qd := qd.below hb4
  replace S := bb2 S hb4
  go_wp2_with fail
  refine (CH _ _ qd).out.mono ?_
  rintro e w5 ⟨rfl, hb5⟩
  replace ql := ql.below hb5
  replace qs := qs.below hb5
  replace qd := qd.below hb5
  replace S := bb2 S hb5
  clear hb2 hb3 hb4 hb5
  go_wp2_with fail
  refine (CA _ _ qs).out.mono ?_
  rintro e w6 ⟨v6, rfl, q6, hb6⟩
  replace ql := ql.below hb6
  replace qs := qs.below hb6
  replace qd := qd.below hb6
  replace S := bb2 S hb6
  clear hb6
  obtain ⟨a6, c6, rfl⟩ := q6.form
  obtain ⟨a7, c7, rfl⟩ := qs.form
  obtain ⟨a8, c8, rfl⟩ := qd.form
  simp only [List.length_cons, List.length_nil, hsl] at qs CP ⊢
  go_wp2_with fail
  cases hs : sameF n o
  · obtain ⟨h1, h2⟩ := HO.out hs
    rw [hs] at CE
    rw [h1] at CP
    rw [h2] at CQ
    clear HO h1 h2 hs
    generalize allQ l o = al at *
    refine (CE _).out.mono ?_
    rintro e w7 ⟨rfl, hb7⟩
    replace ql := ql.below hb7
    replace qs := qs.below hb7
    replace qd := qd.below hb7
    replace S := bb2 S hb7
    go_wp2_with fail
    refine (CO _ _ ql).out.mono ?_
    rintro e w8 ⟨v8, rfl, q8, hb8⟩
    replace qs := qs.below hb8
    replace qd := qd.below hb8
    replace S := bb2 S hb8
    go_wp2_with fail
    refine (CP _ _ qs).out.mono ?_
    rintro e w9 ⟨v9, rfl, q9, hb9⟩
    replace q8 := q8.below hb9
    replace qd := qd.below hb9
    replace S := bb2 S hb9
    go_wp2_with fail
    refine (same_any _ _ _ _ _ q9 q8 (by unfold maxLen; omega)).mono ?_
    rintro e w10 ⟨rfl, hb10⟩
    rw [decide_eq_true rfl]
    replace q8 := q8.below hb10
    replace qd := qd.below hb10
    replace S := bb2 S hb10
    go_wp2_with fail
    refine (CQ _ _ qd).out.mono ?_
    rintro e w11 ⟨v11, rfl, q11, hb11⟩
    replace q8 := q8.below hb11
    replace S := bb2 S hb11
    go_wp2_with fail
    refine (same_any _ _ _ _ _ q11 q8 (by unfold maxLen; omega)).mono ?_
    rintro e w12 ⟨rfl, hb12⟩
    rw [decide_eq_true rfl]
    replace S := bb2 S hb12
    go_wp2_with fail
    refine (bawake_any _).mono ?_
    rintro e w13 ⟨rfl, hb13⟩
    go_wp2_with fail
    go_ret
    exact ⟨rfl, bb2 S hb13⟩
  · rw [hs] at CE
    refine (CE _).out.mono ?_
    rintro e w7 ⟨rfl, hb7⟩
    replace S := bb2 S hb7
    go_wp2_with fail
    refine (bawake_any _).mono ?_
    rintro e w8 ⟨rfl, hb8⟩
    go_wp2_with fail
    go_ret
    exact ⟨rfl, bb2 S hb8⟩

/-- a list of pairs and three texts -/
def ArgOnce (W : World) (v : Value) : Prop := ∃ (v0 : Value) (a b c : ByteArray), v = .agg #[v0, .string a, .string b, .string c] ∧ ArgPrs W v0 ∧ a.size ≤ maxLen ∧ b.size ≤ maxLen ∧ c.size ≤ maxLen
theorem argOnce_open {H : Type} {enc : TypeId × Value → H} {W : World} {base : Nat} {v : Value} {d : DataW H} {ps : List MemPlace} (hval : Value.okWide Try.prog W .any base 41 v)
    (h : DataW.Trod enc Try.prog W 0 (fun _ => true) true 41 v d ps) : ArgOnce W v := by
  obtain ⟨v0, v1, v2, v3, y0, y1, y2, y3, n, rfl, -, -, h0, h1, h2, h3⟩ := Joins.open_agg4 Try.underlying41 (by kernel_rfl) (by kernel_rfl) hval h
  obtain ⟨s1, e1, _, z1⟩ := DataW.trod_string Try.underlying9 h1
  obtain ⟨s2, e2, _, z2⟩ := DataW.trod_string Try.underlying9 h2
  obtain ⟨s3, e3, _, z3⟩ := DataW.trod_string Try.underlying9 h3
  simp only [List.cons.injEq, and_true] at e1 e2 e3
  subst e1 e2 e3
  exact ⟨v0, s1, s2, s3, rfl, argPrs_trod h0, z1, z2, z3⟩
theorem once_arg (v : Value) (w : World) (a0 : ArgOnce w v) :
    Calls Try.prog 6 #[v] w fun e w' => e = .returned (.bool true) ∧ Below w.heap.size w w' := by
  obtain ⟨v0, a, b, c, rfl, ⟨l, p, ok⟩, ha, hb, hc⟩ := a0
  exact once_law v0 a b c w l p ok ha hb hc

end Go.Proofs.Ytoaakhfedfameaa
