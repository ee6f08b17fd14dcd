/-
  The law PairsAsks.
-/
import Derived.Test.YtoaakhfedfameaaPbLawC
namespace Go.Proofs.Ytoaakhfedfameaa
open Go Go.RowKit Go.Shelf Go.ChangeShapes Go.WideShapes Go.Deep

theorem holdsQ_append (f : Bool) (a b l : List PairB) : holdsQ f (a ++ b) l = (holdsQ f a l && holdsQ f b l) := by
  cases f
  · exact Pb.holds_append _ a b l
  · exact Pb.holds_append _ a b l
theorem ok_append {a b : List PairB} (ha : ∀ p ∈ a, okP p) (hb : ∀ p ∈ b, okP p) : ∀ p ∈ a ++ b, okP p := fun p hp => (List.mem_append.1 hp).elim (ha p) (hb p)
/-- no two names alike so far -/
def FarTo (l : List PairB) (k : Nat) : Prop := ∀ x y (hx : x < l.length) (hy : y < l.length), x < k → y < x → sameF l[x].1 l[y].1 = false
theorem far_apart {l : List PairB} (h : FarTo l l.length) : Pb.Apart sameF l := by
  intro i j hi hj e
  rcases Nat.lt_trichotomy i j with h1 | h1 | h1
  · have := h j i hj hi hj h1
    rw [symF] at this
    rw [this] at e
    cases e
  · exact h1
  · rw [h i j hi hj hi h1] at e
    cases e
theorem holds_selfF {l : List PairB} (h : FarTo l l.length) : holdsQ true l l = true := Pb.holds_self (same := sameF) Pb.sm_refl (far_apart h)
theorem holds_selfE {l : List PairB} (h : FarTo l l.length) : holdsQ false l l = true := Pb.holds_self (same := sameE) (fun a => by simp) (Pb.apart_eq (far_apart h))
theorem holds_more {l : List PairB} (h : FarTo l l.length) (a : List PairB) (ha : holdsQ false a l = true) : holdsQ true a l = true := Pb.holds_fold (far_apart h) a ha
theorem bools_cell {w W : World} {t : Nat} (h : Below (w.alloc (.cells #[.bool true, .bool false] t)).heap.size (w.alloc (.cells #[.bool true, .bool false] t)) W) {k : Nat} (hk : k < 2) : ∃ f, W.cell? ⟨w.heap.size, k, none⟩ = some (.bool f) := by
  rcases (show k = 0 ∨ k = 1 by omega) with rfl | rfl
  · exact ⟨true, box_fst h⟩
  · exact ⟨false, box_snd h⟩

set_option maxHeartbeats 3200000 in
theorem asks_law (va vb vl : Value) (w : World) (a0 b0 l0 : List PairB) (pa : Prs w va a0) (oka : ∀ p ∈ a0, okP p) (pb : Prs w vb b0) (okb : ∀ p ∈ b0, okP p) (pl : Prs w vl l0) (okl0 : ∀ p ∈ l0, okP p) :
    Calls Try.prog 7 #[va, vb, vl] w fun e w' => e = .returned (.bool true) ∧ Below w.heap.size w w' := by
  have CA := fun W (h : Prs W va a0) => hide (bfew_any va a0 W h oka)
  have CB := fun W (h : Prs W vb b0) => hide (bfew_any vb b0 W h okb)
  have CL := fun W (h : Prs W vl l0) => hide (bfew_any vl l0 W h okl0)
  have okA := hide (bfew_okP a0)
  have okB := hide (bfew_okP b0)
  have okL := hide (bfew_okP l0)
  have la := bfew_len a0
  have lb := bfew_len b0
  have ll := bfew_len l0
  generalize fewB2 a0 = a at *
  generalize fewB2 b0 = b at *
  generalize fewB2 l0 = l at *
  clear oka okb okl0
  go_enter Try.func7, Try.ntmps7
  go_wp2_with fail
  refine (CA w pa).out.mono ?_
  rintro e w1 ⟨v1, rfl, r1, hb1⟩
  go_wp2_with fail
  refine (CB w1 (pb.below hb1)).out.mono ?_
  rintro e w2 ⟨v2, rfl, r2, hb2⟩
  go_wp2_with fail
  refine (CL w2 ((pl.below hb1).below hb2)).out.mono ?_
  rintro e w3 ⟨v3, rfl, r3, hb3⟩
  have qa := hide (((Prs.of_row rfl r1).below hb2).below hb3)
  have qb := hide ((Prs.of_row rfl r2).below hb3)
  have ql := hide (Prs.of_row rfl r3)
  have S3 := bb2 (bb2 hb1 hb2) hb3
  clear r1 r2 r3 hb1 hb2 hb3 CA CB CL pa pb pl
  go_wp2_with (first | (at_builtin; refine wpList_append_prs _ _ _ rfl (by rfl) w3.heap.size _ 0 [] rfl (owns_emptyP w3) _ a rfl (qa.out.below ((Below.refl _ _).alloc (Nat.le_refl _) _)) (by omega) (by simp) ?_; intro v4 w4 r4 g4; have S4 : Below w3.heap.size w3 w4 := ((Below.refl _ _).alloc (Nat.le_refl _) _).grown g4 (by simp) (fun j e => ownBlock_ge (owns_emptyP w3) e); have R4 := hide r4; clear r4 g4) | (at_builtin; refine wpList_append_prs _ _ _ rfl (by rfl) w3.heap.size _ (0 + a.length) ([] ++ a) rfl R4.out _ b rfl (qb.out.below S4) (by omega) S4.size ?_; intro v5 w5 r5 g5; have S5 : Below w3.heap.size w3 w5 := S4.grown g5 S4.size (fun j e => ownBlock_ge R4.out e); have R5 := hide r5; clear r5 g5))
  have qo : Prs w5 v5 (a ++ b) := Prs.of_row (by simp) R5.out
  have okO := hide (ok_append okA.out okB.out)
  replace qa := hide (qa.out.below S5)
  replace qb := hide (qb.out.below S5)
  replace ql := hide (ql.out.below S5)
  replace qo := hide qo
  have S6 := bb2 S3 S5
  clear R5 R4 S4 S5 S3
  go_loopw [25] (fun i wr => ∃ k : Nat, k ≤ 2 ∧ i = .int .i64 k ∧ Below (w5.alloc (.cells #[.bool true, .bool false] 4)).heap.size (w5.alloc (.cells #[.bool true, .bool false] 4)) wr) (fun i _ => 2 - (intOf i).toNat)
  case atStart => exact ⟨0, by omega, rfl, Below.refl _ _⟩
  case round =>
    obtain ⟨k, hk, rfl, hB⟩ := hrel
    have hW := below_box hB
    by_cases hlt : k < 2
    · have hlt' : (k : Int) < 2 := by omega
      obtain ⟨f, hf⟩ := bools_cell hB hlt
      have HH := hide (holdsQ_append f a b l)
      have C1 := fun W (h : Below w5.heap.size w5 W) => hide (holds_any v5 v3 _ l f W (qo.out.below h) okO.out (ql.out.below h) okL.out)
      have C2 := fun W (h : Below w5.heap.size w5 W) => hide (holds_any v1 v3 a l f W (qa.out.below h) okA.out (ql.out.below h) okL.out)
      have C3 := fun W (h : Below w5.heap.size w5 W) => hide (holds_any v2 v3 b l f W (qb.out.below h) okB.out (ql.out.below h) okL.out)
      rw [HH.out] at C1
      clear HH
      generalize holdsQ f a l = x at *
      generalize holdsQ f b l = y at *
      cases x
      · simp only [Bool.false_and] at C1
        go_wp2_with fail
        refine (C1 _ hW).out.mono ?_
        rintro e w6 ⟨rfl, hb6⟩
        go_wp2_with fail
        refine (C2 _ (bb2 hW hb6)).out.mono ?_
        rintro e w7 ⟨rfl, hb7⟩
        go_wp2_with fail
        exact ⟨⟨k + 1, by omega, by go_num, (hB.trans (hb6.mono hB.size)).trans (hb7.mono (hB.trans (hb6.mono hB.size)).size)⟩, by simp [intOf]; omega⟩
      · simp only [Bool.true_and] at C1
        cases y
        all_goals
          go_wp2_with fail
          refine (C1 _ hW).out.mono ?_
          rintro e w6 ⟨rfl, hb6⟩
          go_wp2_with fail
          refine (C2 _ (bb2 hW hb6)).out.mono ?_
          rintro e w7 ⟨rfl, hb7⟩
          go_wp2_with fail
          refine (C3 _ (bb2 (bb2 hW hb6) hb7)).out.mono ?_
          rintro e w8 ⟨rfl, hb8⟩
          go_wp2_with fail
          exact ⟨⟨k + 1, by omega, by go_num, hB.trans ((bb2 (bb2 hb6 hb7) hb8).mono hB.size)⟩, by simp [intOf]; omega⟩
    · have hlt' : ¬ (k : Int) < 2 := by omega
      obtain rfl : k = 2 := by omega
      obtain ⟨wA, rfl⟩ : ∃ x, x = wr := ⟨wr, rfl⟩
      have qa7 := hide (qa.out.below hW)
      have ql7 := hide (ql.out.below hW)
      have S7 := bb2 S6 hW
      obtain ⟨al, cl, hvl, hl1, hl2, hcl⟩ := ql7.out
      subst hvl
      have HC := hide hcl
      clear hcl qa qb ql qo hW hB S6 okO okB
      go_wp2_with fail
      go_loopw [10] (fun i wo => ∃ k : Nat, k ≤ l.length ∧ i = .int .i64 k ∧ Hid (FarTo l k) ∧ Below wA.heap.size wA wo) (fun i _ => l.length - (intOf i).toNat)
      case atStart => exact ⟨0, Nat.zero_le _, rfl, fun x y _ _ h => absurd h (by omega), Below.refl _ _⟩
      case round =>
        obtain ⟨wo, rfl⟩ : ∃ x, x = wr := ⟨wr, rfl⟩
        obtain ⟨k, hk, rfl, hfar, hB⟩ := hrel
        by_cases hlt : k < l.length
        · have hlt' : (k : Int) < (l.length : Int) := by omega
          go_wp2_with fail
          go_loopw [11] (fun j wi => ∃ m : Nat, m ≤ k ∧ j = .int .i64 m ∧ Hid (∀ y (hy : y < l.length), y < m → sameF l[k].1 l[y].1 = false) ∧ Below wA.heap.size wA wi) (fun j _ => k - (intOf j).toNat)
          case atStart => exact ⟨0, Nat.zero_le _, rfl, fun y _ h => absurd h (by omega), hB⟩
          case round =>
            obtain ⟨wi, rfl⟩ : ∃ x, x = wr := ⟨wr, rfl⟩
            obtain ⟨m, hm, rfl, hno, hI⟩ := hrel
            by_cases hmk : m < k
            · have hmk' : (m : Int) < (k : Int) := by omega
              have hml : m < l.length := by omega
              have hml' : (m : Int) < (l.length : Int) := by omega
              obtain ⟨g, off, rfl, hg, c1, _⟩ := HC.out k hlt
              obtain ⟨g', off', he, _, c2, _⟩ := HC.out m hml
              injection he with he
              injection he with he1 he2
              subst he1 he2
              replace c1 := fun W (h : Below wA.heap.size wA W) => (h.cell (p := ⟨g, off + k * 2, none⟩) hg).trans c1
              replace c2 := fun W (h : Below wA.heap.size wA W) => (h.cell (p := ⟨g, off + m * 2, none⟩) hg).trans c2
              obtain ⟨o1, _⟩ := okL.out _ (List.getElem_mem hlt)
              obtain ⟨o2, _⟩ := okL.out _ (List.getElem_mem hml)
              have CS := fun W => hide (prSame_any l[k].1 l[m].1 W o1 o2)
              have HNX : Hid (sameF l[k].1 l[m].1 = false → ∀ y (hy : y < l.length), y < m + 1 → sameF l[k].1 l[y].1 = false) := fun h y hy hlt => by
                rcases Nat.lt_or_ge y m with h1 | h1
                · exact hno.out y hy h1
                · obtain rfl : y = m := by omega
                  exact h
              cases hs : sameF l[k].1 l[m].1
              · have HN := hide (HNX.out hs)
                rw [hs] at CS
                clear hs HNX
                generalize l[k].1 = p1 at *
                generalize l[m].1 = p2 at *
                go_wp2_with fail
                refine wp_region_noPanic ?_
                refine wp_region_held_drew (S := fun W => Below (wi).heap.size (wi) W) (by kernel_rfl) ((Below.refl _ _).drew) (fun hHeld => ?_)
                refine wpAnyH_take (i := 0) (v := ?_) (op_at (rest := _) rfl) (by kernel_rfl) (by kernel_rfl) (by kernel_rfl) (fun _ _ _ h => h) (Or.inl ⟨by rfl, ?_⟩) (by assumption) ?_
                rotate_left 1
                · (intro W hSw; (try dsimp only at hSw); go_simp; (try with_reducible rfl))
                try simp only [Act.put, List.setIfInBounds_toArray, List.set_cons_zero, List.set_cons_succ]
                refine wpAnyH_take (i := 1) (v := ?_) (op_at (rest := _) rfl) (by kernel_rfl) (by kernel_rfl) (by kernel_rfl) (fun _ _ _ h => h) (Or.inl ⟨by rfl, ?_⟩) (by assumption) ?_
                rotate_left 1
                · (intro W hSw; (try dsimp only at hSw); go_simp; (try with_reducible rfl))
                try simp only [Act.put, List.setIfInBounds_toArray, List.set_cons_zero, List.set_cons_succ]
                refine wpAnyH_take (i := 2) (v := ?_) (op_at (rest := _) rfl) (by kernel_rfl) (by kernel_rfl) (by kernel_rfl) (fun _ _ _ h => h) (Or.inl ⟨by rfl, ?_⟩) (by assumption) ?_
                rotate_left 1
                · (intro W hSw; (try dsimp only at hSw); go_simp; (try with_reducible rfl))
                try simp only [Act.put, List.setIfInBounds_toArray, List.set_cons_zero, List.set_cons_succ]
                refine wpAnyH_take (i := 3) (v := ?_) (op_at (rest := _) rfl) (by kernel_rfl) (by kernel_rfl) (by kernel_rfl) (fun _ _ _ h => h) (Or.inl ⟨by rfl, ?_⟩) (by assumption) ?_
                rotate_left 1
                · (intro W hSw; (try dsimp only at hSw); go_simp; (try with_reducible rfl))
                try simp only [Act.put, List.setIfInBounds_toArray, List.set_cons_zero, List.set_cons_succ]
                refine wpAnyH_take (i := 5) (v := ?_) (op_at (rest := _) rfl) (by kernel_rfl) (by kernel_rfl) (by kernel_rfl) (fun _ _ _ h => h) (Or.inl ⟨by rfl, ?_⟩) (by assumption) ?_
                rotate_left 1
                · (intro W hSw; (try dsimp only at hSw); go_simp; (try with_reducible rfl))
                try simp only [Act.put, List.setIfInBounds_toArray, List.set_cons_zero, List.set_cons_succ]
                refine wpAnyH_take (i := 6) (v := ?_) (op_at (rest := _) rfl) (by kernel_rfl) (by kernel_rfl) (by kernel_rfl) (fun _ _ _ h => h) (Or.inl ⟨by rfl, ?_⟩) (by assumption) ?_
                rotate_left 1
                · (intro W hSw; (try dsimp only at hSw); go_simp; (try with_reducible rfl))
                try simp only [Act.put, List.setIfInBounds_toArray, List.set_cons_zero, List.set_cons_succ]
                refine wpAnyH_take (i := 7) (v := ?_) (op_at (rest := _) rfl) (by kernel_rfl) (by kernel_rfl) (by kernel_rfl) (fun _ _ _ h => h) (Or.inl ⟨by rfl, ?_⟩) (by assumption) ?_
                rotate_left 1
                · (intro W hSw; (try dsimp only at hSw); go_simp; (try with_reducible rfl))
                try simp only [Act.put, List.setIfInBounds_toArray, List.set_cons_zero, List.set_cons_succ]
                refine wpAnyH_take (i := 8) (v := ?_) (op_at (rest := _) rfl) (by kernel_rfl) (by kernel_rfl) (by kernel_rfl) (fun _ _ _ h => h) (Or.inl ⟨by rfl, ?_⟩) (by assumption) ?_
                rotate_left 1
                · (intro W hSw; (try dsimp only at hSw); go_simp; (try with_reducible rfl))
                try simp only [Act.put, List.setIfInBounds_toArray, List.set_cons_zero, List.set_cons_succ]
                refine wpAnyH_take (i := 4) (v := ?_) (op_at (rest := _) rfl) (by kernel_rfl) (by kernel_rfl) (by kernel_rfl) (fun _ _ _ h => h) (Or.inl ⟨by rfl, ?_⟩) (by assumption) ?_
                rotate_left 1
                · (intro W hSw; (try dsimp only at hSw); have d1 := c1 W (hI.trans (hSw.mono hI.size)); have d2 := c2 W (hI.trans (hSw.mono hI.size)); go_simp; (try with_reducible rfl))
                try simp only [Act.put, List.setIfInBounds_toArray, List.set_cons_zero, List.set_cons_succ]
                refine wpAnyH_take (i := 9) (v := ?_) (op_at (rest := _) rfl) (by kernel_rfl) (by kernel_rfl) (by kernel_rfl) (fun _ _ _ h => h) (Or.inl ⟨by rfl, ?_⟩) (by assumption) ?_
                rotate_left 1
                · (intro W hSw; (try dsimp only at hSw); have d1 := c1 W (hI.trans (hSw.mono hI.size)); have d2 := c2 W (hI.trans (hSw.mono hI.size)); go_simp; (try with_reducible rfl))
                try simp only [Act.put, List.setIfInBounds_toArray, List.set_cons_zero, List.set_cons_succ]
                refine wpAnyH_ready (rs := [10]) (by kernel_rfl) (by simp) ?_
                refine AllReadyH.cons (op_at (rest := _) rfl) (fun K hK => ?_) AllReadyH.nil
                go_simp
                refine ((CS _).out).mono ?_
                rintro e w8 ⟨rfl, hb8⟩
                go_wp2_with fail
                replace hHeld := hHeld.trans (hb8.mono hHeld.size)
                refine hK.out _ _ hHeld (fun _ => ?_)
                clear hK K
                try simp only [Act.put, List.setIfInBounds_toArray, List.set_cons_zero, List.set_cons_succ]
                refine wpAnyH_done (by kernel_rfl) ?_ _
                refine NoPanic.normal ?_
                go_wp2_with fail
                exact ⟨⟨m + 1, by omega, by go_num, HN.out, hI.trans (hHeld.mono hI.size)⟩, by simp [intOf]; omega⟩
              · rw [hs] at CS
                clear hs HNX
                generalize l[k].1 = p1 at *
                generalize l[m].1 = p2 at *
                go_wp2_with fail
                refine wp_region_noPanic ?_
                refine wp_region_held_drew (S := fun W => Below (wi).heap.size (wi) W) (by kernel_rfl) ((Below.refl _ _).drew) (fun hHeld => ?_)
                refine wpAnyH_take (i := 0) (v := ?_) (op_at (rest := _) rfl) (by kernel_rfl) (by kernel_rfl) (by kernel_rfl) (fun _ _ _ h => h) (Or.inl ⟨by rfl, ?_⟩) (by assumption) ?_
                rotate_left 1
                · (intro W hSw; (try dsimp only at hSw); go_simp; (try with_reducible rfl))
                try simp only [Act.put, List.setIfInBounds_toArray, List.set_cons_zero, List.set_cons_succ]
                refine wpAnyH_take (i := 1) (v := ?_) (op_at (rest := _) rfl) (by kernel_rfl) (by kernel_rfl) (by kernel_rfl) (fun _ _ _ h => h) (Or.inl ⟨by rfl, ?_⟩) (by assumption) ?_
                rotate_left 1
                · (intro W hSw; (try dsimp only at hSw); go_simp; (try with_reducible rfl))
                try simp only [Act.put, List.setIfInBounds_toArray, List.set_cons_zero, List.set_cons_succ]
                refine wpAnyH_take (i := 2) (v := ?_) (op_at (rest := _) rfl) (by kernel_rfl) (by kernel_rfl) (by kernel_rfl) (fun _ _ _ h => h) (Or.inl ⟨by rfl, ?_⟩) (by assumption) ?_
                rotate_left 1
                · (intro W hSw; (try dsimp only at hSw); go_simp; (try with_reducible rfl))
                try simp only [Act.put, List.setIfInBounds_toArray, List.set_cons_zero, List.set_cons_succ]
                refine wpAnyH_take (i := 3) (v := ?_) (op_at (rest := _) rfl) (by kernel_rfl) (by kernel_rfl) (by kernel_rfl) (fun _ _ _ h => h) (Or.inl ⟨by rfl, ?_⟩) (by assumption) ?_
                rotate_left 1
                · (intro W hSw; (try dsimp only at hSw); go_simp; (try with_reducible rfl))
                try simp only [Act.put, List.setIfInBounds_toArray, List.set_cons_zero, List.set_cons_succ]
                refine wpAnyH_take (i := 5) (v := ?_) (op_at (rest := _) rfl) (by kernel_rfl) (by kernel_rfl) (by kernel_rfl) (fun _ _ _ h => h) (Or.inl ⟨by rfl, ?_⟩) (by assumption) ?_
                rotate_left 1
                · (intro W hSw; (try dsimp only at hSw); go_simp; (try with_reducible rfl))
                try simp only [Act.put, List.setIfInBounds_toArray, List.set_cons_zero, List.set_cons_succ]
                refine wpAnyH_take (i := 6) (v := ?_) (op_at (rest := _) rfl) (by kernel_rfl) (by kernel_rfl) (by kernel_rfl) (fun _ _ _ h => h) (Or.inl ⟨by rfl, ?_⟩) (by assumption) ?_
                rotate_left 1
                · (intro W hSw; (try dsimp only at hSw); go_simp; (try with_reducible rfl))
                try simp only [Act.put, List.setIfInBounds_toArray, List.set_cons_zero, List.set_cons_succ]
                refine wpAnyH_take (i := 7) (v := ?_) (op_at (rest := _) rfl) (by kernel_rfl) (by kernel_rfl) (by kernel_rfl) (fun _ _ _ h => h) (Or.inl ⟨by rfl, ?_⟩) (by assumption) ?_
                rotate_left 1
                · (intro W hSw; (try dsimp only at hSw); go_simp; (try with_reducible rfl))
                try simp only [Act.put, List.setIfInBounds_toArray, List.set_cons_zero, List.set_cons_succ]
                refine wpAnyH_take (i := 8) (v := ?_) (op_at (rest := _) rfl) (by kernel_rfl) (by kernel_rfl) (by kernel_rfl) (fun _ _ _ h => h) (Or.inl ⟨by rfl, ?_⟩) (by assumption) ?_
                rotate_left 1
                · (intro W hSw; (try dsimp only at hSw); go_simp; (try with_reducible rfl))
                try simp only [Act.put, List.setIfInBounds_toArray, List.set_cons_zero, List.set_cons_succ]
                refine wpAnyH_take (i := 4) (v := ?_) (op_at (rest := _) rfl) (by kernel_rfl) (by kernel_rfl) (by kernel_rfl) (fun _ _ _ h => h) (Or.inl ⟨by rfl, ?_⟩) (by assumption) ?_
                rotate_left 1
                · (intro W hSw; (try dsimp only at hSw); have d1 := c1 W (hI.trans (hSw.mono hI.size)); have d2 := c2 W (hI.trans (hSw.mono hI.size)); go_simp; (try with_reducible rfl))
                try simp only [Act.put, List.setIfInBounds_toArray, List.set_cons_zero, List.set_cons_succ]
                refine wpAnyH_take (i := 9) (v := ?_) (op_at (rest := _) rfl) (by kernel_rfl) (by kernel_rfl) (by kernel_rfl) (fun _ _ _ h => h) (Or.inl ⟨by rfl, ?_⟩) (by assumption) ?_
                rotate_left 1
                · (intro W hSw; (try dsimp only at hSw); have d1 := c1 W (hI.trans (hSw.mono hI.size)); have d2 := c2 W (hI.trans (hSw.mono hI.size)); go_simp; (try with_reducible rfl))
                try simp only [Act.put, List.setIfInBounds_toArray, List.set_cons_zero, List.set_cons_succ]
                refine wpAnyH_ready (rs := [10]) (by kernel_rfl) (by simp) ?_
                refine AllReadyH.cons (op_at (rest := _) rfl) (fun K hK => ?_) AllReadyH.nil
                go_simp
                refine ((CS _).out).mono ?_
                rintro e w8 ⟨rfl, hb8⟩
                go_wp2_with fail
                replace hHeld := hHeld.trans (hb8.mono hHeld.size)
                refine hK.out _ _ hHeld (fun _ => ?_)
                clear hK K
                try simp only [Act.put, List.setIfInBounds_toArray, List.set_cons_zero, List.set_cons_succ]
                refine wpAnyH_done (by kernel_rfl) ?_ _
                refine NoPanic.normal ?_
                go_wp2_with fail
                refine (bawake_any _).mono ?_
                rintro e w9 ⟨rfl, hb9⟩
                go_wp2_with fail
                go_ret
                exact ⟨rfl, bb2 (bb2 (bb2 S7 hI) hHeld) hb9⟩
            · have hmk' : ¬ (m : Int) < (k : Int) := by omega
              have HN : Hid (FarTo l (k + 1)) := fun x y hx hy h1 h2 => by
                rcases Nat.lt_or_ge x k with h3 | h3
                · exact hfar.out x y hx hy h3 h2
                · obtain rfl : x = k := by omega
                  exact hno.out y hy (by omega)
              go_wp2_with fail
              exact ⟨⟨k + 1, by omega, by go_num, HN.out, hI⟩, by simp [intOf]; omega⟩
        · have hlt' : ¬ (k : Int) < (l.length : Int) := by omega
          obtain rfl : k = l.length := by omega
          have H1 := hide (holds_selfF hfar.out)
          have H2 := hide (holds_selfE hfar.out)
          have H3 := hide (holds_more hfar.out a)
          have CI := fun f W (h : Below wA.heap.size wA W) => hide (holds_any _ _ l l f W (ql7.out.below h) okL.out (ql7.out.below h) okL.out)
          have CJ := fun f W (h : Below wA.heap.size wA W) => hide (holds_any v1 _ a l f W (qa7.out.below h) okA.out (ql7.out.below h) okL.out)
          have C1 := CI true
          have C2 := CI false
          have C3 := CJ false
          have C4 := CJ true
          rw [H1.out] at C1
          rw [H2.out] at C2
          clear CI CJ H1 H2
          cases hx : holdsQ false a l
          · rw [hx] at C3
            clear H3 hx
            go_wp2_with fail
            refine (C1 _ hB).out.mono ?_
            rintro e w8 ⟨rfl, hb8⟩
            replace hB := bb2 hB hb8
            go_wp2_with fail
            refine (C2 _ hB).out.mono ?_
            rintro e w9 ⟨rfl, hb9⟩
            replace hB := bb2 hB hb9
            go_wp2_with fail
            refine (C3 _ hB).out.mono ?_
            rintro e w10 ⟨rfl, hb10⟩
            replace hB := bb2 hB hb10
            go_wp2_with fail
            refine (bawake_any _).mono ?_
            rintro e w11 ⟨rfl, hb11⟩
            go_wp2_with fail
            go_ret
            exact ⟨rfl, bb2 (bb2 S7 hB) hb11⟩
          · have hy := H3.out hx
            rw [hx] at C3
            rw [hy] at C4
            clear H3 hx hy
            go_wp2_with fail
            refine (C1 _ hB).out.mono ?_
            rintro e w8 ⟨rfl, hb8⟩
            replace hB := bb2 hB hb8
            go_wp2_with fail
            refine (C2 _ hB).out.mono ?_
            rintro e w9 ⟨rfl, hb9⟩
            replace hB := bb2 hB hb9
            go_wp2_with fail
            refine (C3 _ hB).out.mono ?_
            rintro e w10 ⟨rfl, hb10⟩
            replace hB := bb2 hB hb10
            go_wp2_with fail
            refine (C4 _ hB).out.mono ?_
            rintro e w12 ⟨rfl, hb12⟩
            replace hB := bb2 hB hb12
            go_wp2_with fail
            refine (bawake_any _).mono ?_
            rintro e w11 ⟨rfl, hb11⟩
            go_wp2_with fail
            go_ret
            exact ⟨rfl, bb2 (bb2 S7 hB) hb11⟩

theorem asks_arg (v0 v1 v2 : Value) (w : World) (a0 : ArgPrs w v0) (a1 : ArgPrs w v1) (a2 : ArgPrs w v2) :
    Calls Try.prog 7 #[v0, v1, v2] w fun e w' => e = .returned (.bool true) ∧ Below w.heap.size w w' := by
  obtain ⟨l, p, ok⟩ := a0
  obtain ⟨l1, p1, ok1⟩ := a1
  obtain ⟨l2, p2, ok2⟩ := a2
  exact asks_law v0 v1 v2 w l l1 l2 p ok p1 ok1 p2 ok2

end Go.Proofs.Ytoaakhfedfameaa
