/-
  LabelOne.
-/
import Derived.Test.YtecnjbaanbakoaaDoorLaOpen
namespace Go.Proofs.YtecnjbaanbakoaaDoor
open Go Go.RowKit Go.Shelf Go.Deep

theorem one_facts {l : List PairB} {k : Nat} (hk : k < l.length) (hm : La.mayL l = true) {mo : ByteArray} (hmo : La.mayV mo = true) :
    La.met ⟨3, l[k].1, []⟩ l = true ∧ La.met ⟨1, l[k].1, [mo, l[k].2]⟩ l = true ∧ La.met ⟨4, l[k].1, []⟩ (l.take k ++ l.drop (k + 1)) = true ∧ La.met ⟨2, l[k].1, [l[k].2]⟩ (l.take k ++ l.drop (k + 1)) = true ∧ La.mayL (l.take k ++ l.drop (k + 1)) = true := by
  have hg := (La.mayL_good l).1 hm
  have hg2 := La.good_less hg k
  have hm2 := (La.mayL_good _).2 hg2
  obtain ⟨h1, h2⟩ := hg.each _ (List.getElem_mem hk)
  have h3 := La.has_at hk
  have h4 := La.one_at hk [mo, l[k].2] hg.rise
  have h5 := La.less_gone hg hk
  have h6 := La.one_none [l[k].2] h5
  have h7 : La.inL l[k].2 [mo, l[k].2] = true := by simp [La.inL]
  have n3 : La.mayN ⟨3, l[k].1, []⟩ = true := by simp [La.mayN, h1]
  have n4 : La.mayN ⟨4, l[k].1, []⟩ = true := by simp [La.mayN, h1]
  have n1 : La.mayN ⟨1, l[k].1, [mo, l[k].2]⟩ = true := by simp [La.mayN, La.mayVs, h1, h2, hmo]
  have n2 : La.mayN ⟨2, l[k].1, [l[k].2]⟩ = true := by simp [La.mayN, La.mayVs, h1, h2]
  refine ⟨?_, ?_, ?_, ?_, hm2⟩
  · unfold La.met
    rw [n3, hm]
    simp [La.metN, h3]
  · unfold La.met
    rw [n1, hm]
    simp [La.metN, h4, h7]
  · unfold La.met
    rw [n4, hm2]
    simp [La.metN, h5]
  · unfold La.met
    rw [n2, hm2]
    simp [La.metN, h6]
theorem sub_ok {l : List PairB} {P : PairB → Prop} (h : ∀ p ∈ l, P p) (k m : Nat) : ∀ p ∈ l.take k ++ l.drop m, P p := fun p hp => (List.mem_append.1 hp).elim (fun h1 => h p (List.mem_of_mem_take h1)) (fun h1 => h p (List.mem_of_mem_drop h1))

set_option maxHeartbeats 12800000 in
theorem one_law (v0 : Value) (n1 : Int) (mo0 : ByteArray) (w : World) (a0 : ArgPrs w v0) (h1 : (Lit.int .u8 n1).wf = true) (hmo0 : mo0.size ≤ maxLen) :
    Calls Tryd.prog 6 #[v0, .int .u8 n1, .string mo0] w fun e w' => e = .returned (.bool true) ∧ Below w.heap.size w w' := by
  obtain ⟨cb, rfl⟩ := u8_lit h1
  clear h1
  obtain ⟨l2, hs0, ok0⟩ := a0
  have CL := hide (bfew_any v0 l2 w hs0 ok0)
  have CM := hide (fun W => fewB_any mo0 W hmo0)
  have hmo := fewB_le mo0
  clear hs0 ok0 hmo0
  generalize fewB mo0 = mo at *
  go_enter Tryd.func6, Tryd.ntmps6
  go_wp2_with fail
  refine CL.out.mono ?_
  rintro e w1 ⟨u, rfl, hru, hb1⟩
  have SP : Prs w1 u (fewB2 l2) := Prs.of_row rfl hru
  have okl2 := bfew_okP l2
  have okl := bfew_ok l2
  have hlen := bfew_len l2
  clear hru CL
  generalize fewB2 l2 = l at *
  have KL := hide (fun W (h : Below w1.heap.size w1 W) => lmay_any u l W (SP.below h) okl2)
  have SPH := hide SP
  obtain ⟨ad, cap, rfl, hcap, hcm, hc⟩ := SP
  cases hm : La.mayL l
  · rw [hm] at KL
    clear hc
    go_wp2_with fail
    refine (CM.out _).mono ?_
    rintro e x ⟨rfl, hx⟩
    subst x
    go_wp2_with fail
    refine (KL.out _ (Below.refl _ _)).mono ?_
    rintro e w3 ⟨rfl, hb3⟩
    go_wp2_with fail
    refine (lawake_any _).mono ?_
    rintro e w9 ⟨rfl, hb9⟩
    go_wp2_with fail
    go_ret
    exact ⟨rfl, bb2 hb1 (bb2 hb3 hb9)⟩
  rw [hm] at KL
  by_cases hz : l.length = 0
  · have hz' : ((l.length : Int) == 0) = true := by simpa using hz
    clear hc hz
    go_wp2_with fail
    refine (CM.out _).mono ?_
    rintro e x ⟨rfl, hx⟩
    subst x
    go_wp2_with fail
    refine (KL.out _ (Below.refl _ _)).mono ?_
    rintro e w3 ⟨rfl, hb3⟩
    go_wp2_with fail
    refine (lawake_any _).mono ?_
    rintro e w9 ⟨rfl, hb9⟩
    go_wp2_with fail
    go_ret
    exact ⟨rfl, bb2 hb1 (bb2 hb3 hb9)⟩
  have hz' : ((l.length : Int) == 0) = false := by simpa using hz
  have hz2 : ¬ (l.length : Int) = 0 := by omega
  have hpos : 0 < l.length := by omega
  have hkl : cb.toNat % l.length < l.length := Nat.mod_lt _ hpos
  have hrem : ((cb.toNat : Int) % (l.length : Int)) = ((cb.toNat % l.length : Nat) : Int) := by omega
  have hc255 : cb.toNat < 256 := cb.toNat_lt
  generalize hkk : cb.toNat % l.length = k at *
  clear hkk hz
  obtain ⟨g, off, rfl, hg, c1, c2⟩ := hc k hkl
  unfold maxLen at hcm
  have hk1 : (k : Int) < (l.length : Int) := by omega
  have hk2 : (k : Int) ≤ (l.length : Int) := by omega
  have hkc : (k : Int) ≤ (cap : Int) := by omega
  have hwr : IntKind.i64.wrap ((k : Int) + 1) = ((k + 1 : Nat) : Int) := by rw [IntKind.wrap_i64]; omega
  have hm0 : (0 : Int) ≤ ((k + 1 : Nat) : Int) := by omega
  have hm1 : ((k + 1 : Nat) : Int) ≤ (l.length : Int) := by omega
  have hm2 : ((k + 1 : Nat) : Int) ≤ (cap : Int) := by omega
  have hm3 : k + 1 ≤ l.length := by omega
  have hcI : (l.length : Int) ≤ (cap : Int) := by omega
  have FAC := hide (fun mo' (h : La.mayV mo' = true) => one_facts hkl hm h)
  have p1s := (okl2 _ (List.getElem_mem hkl)).1
  have p2s := (okl2 _ (List.getElem_mem hkl)).2
  have c1' := fun W (h : Below w1.heap.size w1 W) => (h.cell (p := ⟨g, off + k * 2, none⟩) hg).trans c1
  have c2' := fun W (h : Below w1.heap.size w1 W) => (h.cell (p := ⟨g, off + k * 2 + 1, none⟩) hg).trans c2
  have okl3 := sub_ok okl2 k (k + 1)
  have HOK2 := hide okl2
  have HOK3 := hide okl3
  clear hc c1 c2 hm hz2 okl okl2 okl3
  generalize l[k].1 = p1 at *
  generalize l[k].2 = p2 at *
  go_wp2_with fail
  refine (CM.out _).mono ?_
  rintro e x ⟨rfl, hx⟩
  subst x
  go_wp2_with fail
  refine (KL.out _ (Below.refl _ _)).mono ?_
  rintro e w3 ⟨rfl, hb3⟩
  replace c1' := c1' _ hb3
  replace c2' := c2' _ hb3
  have PRE0 := SPH.out.below (bb2 hb3 ((Below.refl w3.heap.size w3).alloc (Nat.le_refl _) (.cells #[.string p1, .string p2] 41)))
  have kp := alloc_new w3 (.cells #[.string p1, .string p2] 41)
  have B3 := hide (bb2 hb3 ((Below.refl w3.heap.size w3).alloc (Nat.le_refl _) (.cells #[.string p1, .string p2] 41)))
  have hz3 : ¬ (l.length : Int) = 0 := by omega
  go_wp2_with fail
  rw [hrem]
  generalize w3.alloc (.cells #[.string p1, .string p2] 41) = X at *
  generalize w3.heap.size = gp at *
  have PX := PRE0
  have PRE : Hid (Prs X (.slice (some ⟨g, off, none⟩) k cap) (l.take k)) := by
    unfold Hid
    have := PX.sub 0 k cap (by omega) (by omega) (by unfold maxLen; omega)
    simpa using this
  clear PRE0 c1' c2' hrem hz3 hb3 KL
  generalize hmk : k + 1 = m at *
  clear hmk
  refine region_out [some 32, some 33, some 34, some 35, some 36, some 37, some 38, some 39, some 40, some 41, some 9] (fun f W => ∃ v4 sv v9, f = opF [.slice (some ⟨X.heap.size, 0, none⟩) 0 0, .slice (some ⟨g, off, none⟩) l.length cap, .int .i64 k, .slice (some ⟨g, off, none⟩) k cap, v4, .slice (some ⟨g, off, none⟩) l.length cap, .int .i64 k, .int .i64 m, sv, v9, v9] ∧ Prs W v9 (l.take k ++ l.drop m) ∧ Below X.heap.size X W) ?_ ?_
  · rcases Classical.em (cap = m) with hcm2 | hcm2
    · subst hcm2
      have SUF : Prs X (.slice (some ⟨g, off, none⟩) 0 0) (l.drop cap) := by
        have := PX.sub 0 0 0 (by omega) (by omega) (by unfold maxLen; omega)
        rw [List.drop_eq_nil_of_le (by omega)]
        simpa using this
      have hll : l.length - cap = 0 := by omega
      have hcc : cap - cap = 0 := by omega
      refine wp_region_noPanic ?_
      refine wp_region_held_drew (S := fun W => Below (X).heap.size (X) W) (by kernel_rfl) ((Below.refl _ _).drew) (fun hHeld => ?_)
      refine wpAnyH_take (i := 1) (v := ?_) (op_at (rest := _) rfl) (by kernel_rfl) (by kernel_rfl) (by kernel_rfl) (fun _ _ _ h => h) (Or.inl ⟨by rfl, ?_⟩) (by assumption) ?_
      rotate_left 1
      · (intro W hSw; (try dsimp only at hSw); go_simp; (try with_reducible rfl))
      try simp only [Act.put, List.setIfInBounds_toArray, List.set_cons_zero, List.set_cons_succ]
      refine wpAnyH_take (i := 2) (v := ?_) (op_at (rest := _) rfl) (by kernel_rfl) (by kernel_rfl) (by kernel_rfl) (fun _ _ _ h => h) (Or.inl ⟨by rfl, ?_⟩) (by assumption) ?_
      rotate_left 1
      · (intro W hSw; (try dsimp only at hSw); go_simp; (try with_reducible rfl))
      try simp only [Act.put, List.setIfInBounds_toArray, List.set_cons_zero, List.set_cons_succ]
      refine wpAnyH_take (i := 3) (v := ?_) (op_at (rest := _) rfl) (by kernel_rfl) (by kernel_rfl) (by kernel_rfl) (fun _ _ _ h => h) (Or.inl ⟨by rfl, ?_⟩) (by assumption) ?_
      rotate_left 1
      · (intro W hSw; (try dsimp only at hSw); go_simp; (try with_reducible rfl))
      try simp only [Act.put, List.setIfInBounds_toArray, List.set_cons_zero, List.set_cons_succ]
      refine wpAnyH_take (i := 5) (v := ?_) (op_at (rest := _) rfl) (by kernel_rfl) (by kernel_rfl) (by kernel_rfl) (fun _ _ _ h => h) (Or.inl ⟨by rfl, ?_⟩) (by assumption) ?_
      rotate_left 1
      · (intro W hSw; (try dsimp only at hSw); go_simp; (try with_reducible rfl))
      try simp only [Act.put, List.setIfInBounds_toArray, List.set_cons_zero, List.set_cons_succ]
      refine wpAnyH_take (i := 6) (v := ?_) (op_at (rest := _) rfl) (by kernel_rfl) (by kernel_rfl) (by kernel_rfl) (fun _ _ _ h => h) (Or.inl ⟨by rfl, ?_⟩) (by assumption) ?_
      rotate_left 1
      · (intro W hSw; (try dsimp only at hSw); go_simp; (try with_reducible rfl))
      try simp only [Act.put, List.setIfInBounds_toArray, List.set_cons_zero, List.set_cons_succ]
      refine wpAnyH_take (i := 7) (v := ?_) (op_at (rest := _) rfl) (by kernel_rfl) (by kernel_rfl) (by kernel_rfl) (fun _ _ _ h => h) (Or.inl ⟨by rfl, ?_⟩) (by assumption) ?_
      rotate_left 1
      · (intro W hSw; (try dsimp only at hSw); go_simp; (try with_reducible rfl))
      try simp only [Act.put, List.setIfInBounds_toArray, List.set_cons_zero, List.set_cons_succ]
      refine wpAnyH_take (i := 8) (v := ?_) (op_at (rest := _) rfl) (by kernel_rfl) (by kernel_rfl) (by kernel_rfl) (fun _ _ _ h => h) (Or.inl ⟨by rfl, ?_⟩) (by assumption) ?_
      rotate_left 1
      · (intro W hSw; (try dsimp only at hSw); go_simp; (try with_reducible rfl))
      try simp only [Act.put, List.setIfInBounds_toArray, List.set_cons_zero, List.set_cons_succ]
      refine wpAnyH_ready (rs := [0]) (by kernel_rfl) (by simp) ?_
      refine AllReadyH.cons (op_at (rest := _) rfl) (fun K hK => ?_) AllReadyH.nil
      go_simp
      refine hK.out _ _ (hHeld.alloc hHeld.size _) (fun hA => ?_)
      clear hK K
      try simp only [Act.put, List.setIfInBounds_toArray, List.set_cons_zero, List.set_cons_succ]
      refine wpAnyH_ready (rs := [4]) (by kernel_rfl) (by simp) ?_
      refine AllReadyH.cons (op_at (rest := _) rfl) (fun K hK => ?_) AllReadyH.nil
      refine step_append_prs _ _ _ rfl rfl X.heap.size _ 0 [] rfl (owns_emptyT 41 2 X.drew _ rfl) _ _ rfl (PRE.out.below hA) (by simp; omega) hA.size ?_
      intro v4 w4 r4 g4
      have H4 := hA.grown g4 hA.size (fun j e => ownBlock_ge (owns_emptyT 41 2 X.drew _ rfl) e)
      refine hK.out _ _ H4 (fun _ => ?_)
      clear hK K
      try simp only [Act.put, List.setIfInBounds_toArray, List.set_cons_zero, List.set_cons_succ]
      refine wpAnyH_ready (rs := [9]) (by kernel_rfl) (by simp) ?_
      refine AllReadyH.cons (op_at (rest := _) rfl) (fun K hK => ?_) AllReadyH.nil
      refine step_append_prs _ _ _ rfl rfl X.heap.size _ _ _ rfl r4 _ _ rfl (SUF.below H4) (by simp; omega) H4.size ?_
      intro v9 w9 r9 g9
      have H9 := H4.grown g9 H4.size (fun j e => ownBlock_ge r4 e)
      refine hK.out _ _ H9 (fun _ => ?_)
      clear hK K
      try simp only [Act.put, List.setIfInBounds_toArray, List.set_cons_zero, List.set_cons_succ]
      refine wpAnyH_take (i := 10) (v := ?_) (op_at (rest := _) rfl) (by kernel_rfl) (by kernel_rfl) (by kernel_rfl) (fun _ _ _ h => h) (Or.inl ⟨by rfl, ?_⟩) (by assumption) ?_
      rotate_left 1
      · (intro W hSw; (try dsimp only at hSw); go_simp; (try with_reducible rfl))
      try simp only [Act.put, List.setIfInBounds_toArray, List.set_cons_zero, List.set_cons_succ]
      refine wpAnyH_done (by kernel_rfl) ?_ _
      refine NoPanic.normal ?_
      exact ⟨rfl, opF [.slice (some ⟨X.heap.size, 0, none⟩) 0 0, .slice (some ⟨g, off, none⟩) l.length cap, .int .i64 k, .slice (some ⟨g, off, none⟩) k cap, v4, .slice (some ⟨g, off, none⟩) l.length cap, .int .i64 k, .int .i64 cap, .slice (some ⟨g, off, none⟩) 0 0, v9, v9], (by simp only [putF, opF, List.getD_cons_zero, List.getD_cons_succ, Nat.reduceAdd, Act.put, List.setIfInBounds_toArray, List.set_cons_zero, List.set_cons_succ]), v4, _, v9, rfl, Prs.of_row (by simp) r9, H9⟩
    · have SUF : Prs X (.slice (some ⟨g, off + m * 2, none⟩) (l.length - m) (cap - m)) (l.drop m) := by
        have := PX.sub m (l.length - m) (cap - m) (by omega) (by omega) (by unfold maxLen; omega)
        rwa [List.take_of_length_le (by simp)] at this
      refine wp_region_noPanic ?_
      refine wp_region_held_drew (S := fun W => Below (X).heap.size (X) W) (by kernel_rfl) ((Below.refl _ _).drew) (fun hHeld => ?_)
      refine wpAnyH_take (i := 1) (v := ?_) (op_at (rest := _) rfl) (by kernel_rfl) (by kernel_rfl) (by kernel_rfl) (fun _ _ _ h => h) (Or.inl ⟨by rfl, ?_⟩) (by assumption) ?_
      rotate_left 1
      · (intro W hSw; (try dsimp only at hSw); go_simp; (try with_reducible rfl))
      try simp only [Act.put, List.setIfInBounds_toArray, List.set_cons_zero, List.set_cons_succ]
      refine wpAnyH_take (i := 2) (v := ?_) (op_at (rest := _) rfl) (by kernel_rfl) (by kernel_rfl) (by kernel_rfl) (fun _ _ _ h => h) (Or.inl ⟨by rfl, ?_⟩) (by assumption) ?_
      rotate_left 1
      · (intro W hSw; (try dsimp only at hSw); go_simp; (try with_reducible rfl))
      try simp only [Act.put, List.setIfInBounds_toArray, List.set_cons_zero, List.set_cons_succ]
      refine wpAnyH_take (i := 3) (v := ?_) (op_at (rest := _) rfl) (by kernel_rfl) (by kernel_rfl) (by kernel_rfl) (fun _ _ _ h => h) (Or.inl ⟨by rfl, ?_⟩) (by assumption) ?_
      rotate_left 1
      · (intro W hSw; (try dsimp only at hSw); go_simp; (try with_reducible rfl))
      try simp only [Act.put, List.setIfInBounds_toArray, List.set_cons_zero, List.set_cons_succ]
      refine wpAnyH_take (i := 5) (v := ?_) (op_at (rest := _) rfl) (by kernel_rfl) (by kernel_rfl) (by kernel_rfl) (fun _ _ _ h => h) (Or.inl ⟨by rfl, ?_⟩) (by assumption) ?_
      rotate_left 1
      · (intro W hSw; (try dsimp only at hSw); go_simp; (try with_reducible rfl))
      try simp only [Act.put, List.setIfInBounds_toArray, List.set_cons_zero, List.set_cons_succ]
      refine wpAnyH_take (i := 6) (v := ?_) (op_at (rest := _) rfl) (by kernel_rfl) (by kernel_rfl) (by kernel_rfl) (fun _ _ _ h => h) (Or.inl ⟨by rfl, ?_⟩) (by assumption) ?_
      rotate_left 1
      · (intro W hSw; (try dsimp only at hSw); go_simp; (try with_reducible rfl))
      try simp only [Act.put, List.setIfInBounds_toArray, List.set_cons_zero, List.set_cons_succ]
      refine wpAnyH_take (i := 7) (v := ?_) (op_at (rest := _) rfl) (by kernel_rfl) (by kernel_rfl) (by kernel_rfl) (fun _ _ _ h => h) (Or.inl ⟨by rfl, ?_⟩) (by assumption) ?_
      rotate_left 1
      · (intro W hSw; (try dsimp only at hSw); go_simp; (try with_reducible rfl))
      try simp only [Act.put, List.setIfInBounds_toArray, List.set_cons_zero, List.set_cons_succ]
      refine wpAnyH_take (i := 8) (v := ?_) (op_at (rest := _) rfl) (by kernel_rfl) (by kernel_rfl) (by kernel_rfl) (fun _ _ _ h => h) (Or.inl ⟨by rfl, ?_⟩) (by assumption) ?_
      rotate_left 1
      · (intro W hSw; (try dsimp only at hSw); go_simp; (try with_reducible rfl))
      try simp only [Act.put, List.setIfInBounds_toArray, List.set_cons_zero, List.set_cons_succ]
      refine wpAnyH_ready (rs := [0]) (by kernel_rfl) (by simp) ?_
      refine AllReadyH.cons (op_at (rest := _) rfl) (fun K hK => ?_) AllReadyH.nil
      go_simp
      refine hK.out _ _ (hHeld.alloc hHeld.size _) (fun hA => ?_)
      clear hK K
      try simp only [Act.put, List.setIfInBounds_toArray, List.set_cons_zero, List.set_cons_succ]
      refine wpAnyH_ready (rs := [4]) (by kernel_rfl) (by simp) ?_
      refine AllReadyH.cons (op_at (rest := _) rfl) (fun K hK => ?_) AllReadyH.nil
      refine step_append_prs _ _ _ rfl rfl X.heap.size _ 0 [] rfl (owns_emptyT 41 2 X.drew _ rfl) _ _ rfl (PRE.out.below hA) (by simp; omega) hA.size ?_
      intro v4 w4 r4 g4
      have H4 := hA.grown g4 hA.size (fun j e => ownBlock_ge (owns_emptyT 41 2 X.drew _ rfl) e)
      refine hK.out _ _ H4 (fun _ => ?_)
      clear hK K
      try simp only [Act.put, List.setIfInBounds_toArray, List.set_cons_zero, List.set_cons_succ]
      refine wpAnyH_ready (rs := [9]) (by kernel_rfl) (by simp) ?_
      refine AllReadyH.cons (op_at (rest := _) rfl) (fun K hK => ?_) AllReadyH.nil
      refine step_append_prs _ _ _ rfl rfl X.heap.size _ _ _ rfl r4 _ _ rfl (SUF.below H4) (by simp; omega) H4.size ?_
      intro v9 w9 r9 g9
      have H9 := H4.grown g9 H4.size (fun j e => ownBlock_ge r4 e)
      refine hK.out _ _ H9 (fun _ => ?_)
      clear hK K
      try simp only [Act.put, List.setIfInBounds_toArray, List.set_cons_zero, List.set_cons_succ]
      refine wpAnyH_take (i := 10) (v := ?_) (op_at (rest := _) rfl) (by kernel_rfl) (by kernel_rfl) (by kernel_rfl) (fun _ _ _ h => h) (Or.inl ⟨by rfl, ?_⟩) (by assumption) ?_
      rotate_left 1
      · (intro W hSw; (try dsimp only at hSw); go_simp; (try with_reducible rfl))
      try simp only [Act.put, List.setIfInBounds_toArray, List.set_cons_zero, List.set_cons_succ]
      refine wpAnyH_done (by kernel_rfl) ?_ _
      refine NoPanic.normal ?_
      exact ⟨rfl, opF [.slice (some ⟨X.heap.size, 0, none⟩) 0 0, .slice (some ⟨g, off, none⟩) l.length cap, .int .i64 k, .slice (some ⟨g, off, none⟩) k cap, v4, .slice (some ⟨g, off, none⟩) l.length cap, .int .i64 k, .int .i64 m, .slice (some ⟨g, off + m * 2, none⟩) (l.length - m) (cap - m), v9, v9], (by simp only [putF, opF, List.getD_cons_zero, List.getD_cons_succ, Nat.reduceAdd, Act.put, List.setIfInBounds_toArray, List.set_cons_zero, List.set_cons_succ]), v4, _, v9, rfl, Prs.of_row (by simp) r9, H9⟩
  rintro f w5 ⟨v4, sv, lv, rfl, SL5, hb5⟩
  simp only [putF, opF, List.getD_cons_zero, List.getD_cons_succ, Nat.reduceAdd, Act.put, List.setIfInBounds_toArray, List.set_cons_zero, List.set_cons_succ]
  have B5 := hide (bb2 hb1 (bb2 B3.out hb5))
  have k5 := blk_below kp hb5
  have S5 := SPH.out.below (bb2 B3.out hb5)
  have KM := hide (fun W (x : NV) (hW : Below w5.heap.size w5 W) (hs : Sl ES W x.v x.n.vals) (hr : RawN x.n) => lmet_any x _ l W hs hr (S5.below hW) HOK2.out)
  have KN := hide (fun W (x : NV) (hW : Below w5.heap.size w5 W) (hs : Sl ES W x.v x.n.vals) (hr : RawN x.n) => lmet_any x lv _ W hs hr (SL5.below hW) HOK3.out)
  have KL := hide (fun W (hW : Below w5.heap.size w5 W) => lmay_any lv _ W (SL5.below hW) HOK3.out)
  have D1 := hide (fun W (hW : Below w5.heap.size w5 W) => blk_below k5 hW)
  have hmoM : mo.size ≤ maxLen := by unfold maxLen; omega
  have CLB := hide (fun W => rlabel_any mo W hmoM)
  clear S5 PX PRE B3 hb5 k5 kp SPH hb1 hk1 hk2 hkc hwr hm0 hm1 hm2 hm3 hcI
  have V0 : La.mayV ⟨#[]⟩ = true := mayV_0
  cases he : (mo.toList == [])
  · cases hlb : D.isLabel mo.data.toList
    · rw [hlb] at CLB
      clear hlb
      go_wp2_with fail
      refine (CLB.out _).mono ?_
      rintro e x8 ⟨rfl, hx8⟩
      subst x8
      obtain ⟨A1, A2, A3, A4, A5⟩ := FAC.out ⟨#[]⟩ V0
      have q5 := D1.out w5 (Below.refl _ _)
      have q0 := cellN q5 (i := 0) rfl
      have q1 := cellN q5 (i := 1) rfl
      have M1 := hide (KM.out w5 ⟨⟨3, p1, []⟩, none, 0⟩ (Below.refl _ _) (Sl.nil _) ⟨p1s, fun s hs => absurd hs (by simp)⟩)
      have M2 := hide (fun W (hW : Below w5.heap.size w5 W) => KM.out (W.alloc (.cells #[.string ⟨#[]⟩, .string p2] 9)) ⟨⟨1, p1, [⟨#[]⟩, p2]⟩, some ⟨W.heap.size, 0, none⟩, 2⟩ (hW.alloc hW.size _) (Sl.lit (E := ES) W 9 [⟨#[]⟩, p2] _ rfl 2 _ rfl rfl (by omega) (fun _ _ => trivial)) ⟨p1s, fun s hs => by simp at hs; rcases hs with rfl | rfl; (first | exact hmoM | exact Nat.zero_le _); exact p2s⟩)
      have M3 := hide (fun W (hW : Below w5.heap.size w5 W) => KN.out W ⟨⟨4, p1, []⟩, none, 0⟩ hW (Sl.nil _) ⟨p1s, fun s hs => absurd hs (by simp)⟩)
      have M4 := hide (fun W (hW : Below w5.heap.size w5 W) => KN.out (W.alloc (.cells #[.string p2] 9)) ⟨⟨2, p1, [p2]⟩, some ⟨W.heap.size, 0, none⟩, 1⟩ (hW.alloc hW.size _) (Sl.lit (E := ES) W 9 [p2] _ rfl 1 _ rfl rfl (by omega) (fun _ _ => trivial)) ⟨p1s, fun s hs => by simp at hs; subst hs; exact p2s⟩)
      dsimp only at M1 M2 M3 M4
      rw [A1] at M1
      rw [A2] at M2
      rw [A3] at M3
      rw [A4] at M4
      rw [A5] at KL
      clear A1 A2 A3 A4 A5 KM KN FAC
      go_wp2_with fail
      refine M1.out.mono ?_
      rintro e w6 ⟨rfl, hb6⟩
      have q6 := D1.out w6 hb6
      have r0 := cellN q6 (i := 0) rfl
      have r1 := cellN q6 (i := 1) rfl
      clear q0 q1 q5 q6
      go_wp2_with fail
      refine (M2.out _ hb6).mono ?_
      rintro e w7 ⟨rfl, hb7⟩
      have b7 := bb2 hb6 (below_box hb7)
      have q7 := D1.out w7 b7
      have s0 := cellN q7 (i := 0) rfl
      have s1 := cellN q7 (i := 1) rfl
      clear r0 r1 q7 hb7
      go_wp2_with fail
      refine (M3.out _ b7).mono ?_
      rintro e w8 ⟨rfl, hb8⟩
      have b8 := bb2 b7 hb8
      have q8 := D1.out w8 b8
      have t0 := cellN q8 (i := 0) rfl
      have t1 := cellN q8 (i := 1) rfl
      clear s0 s1 q8 hb8
      go_wp2_with fail
      refine (M4.out _ b8).mono ?_
      rintro e w9 ⟨rfl, hb9⟩
      have b9 := bb2 b8 (below_box hb9)
      clear t0 t1 hb9
      go_wp2_with fail
      refine (KL.out _ b9).mono ?_
      rintro e w10 ⟨rfl, hb10⟩
      go_wp2_with fail
      refine (lawake_any _).mono ?_
      rintro e w11 ⟨rfl, hb11⟩
      go_wp2_with fail
      go_ret
      exact ⟨rfl, bb2 B5.out (bb2 b9 (bb2 hb10 hb11))⟩
    · rw [hlb] at CLB
      have VM : La.mayV mo = true := by unfold La.mayV; rw [hlb, Bool.or_true]
      clear hlb V0
      go_wp2_with fail
      refine (CLB.out _).mono ?_
      rintro e x8 ⟨rfl, hx8⟩
      subst x8
      obtain ⟨A1, A2, A3, A4, A5⟩ := FAC.out mo VM
      have q5 := D1.out w5 (Below.refl _ _)
      have q0 := cellN q5 (i := 0) rfl
      have q1 := cellN q5 (i := 1) rfl
      have M1 := hide (KM.out w5 ⟨⟨3, p1, []⟩, none, 0⟩ (Below.refl _ _) (Sl.nil _) ⟨p1s, fun s hs => absurd hs (by simp)⟩)
      have M2 := hide (fun W (hW : Below w5.heap.size w5 W) => KM.out (W.alloc (.cells #[.string mo, .string p2] 9)) ⟨⟨1, p1, [mo, p2]⟩, some ⟨W.heap.size, 0, none⟩, 2⟩ (hW.alloc hW.size _) (Sl.lit (E := ES) W 9 [mo, p2] _ rfl 2 _ rfl rfl (by omega) (fun _ _ => trivial)) ⟨p1s, fun s hs => by simp at hs; rcases hs with rfl | rfl; (first | exact hmoM | exact Nat.zero_le _); exact p2s⟩)
      have M3 := hide (fun W (hW : Below w5.heap.size w5 W) => KN.out W ⟨⟨4, p1, []⟩, none, 0⟩ hW (Sl.nil _) ⟨p1s, fun s hs => absurd hs (by simp)⟩)
      have M4 := hide (fun W (hW : Below w5.heap.size w5 W) => KN.out (W.alloc (.cells #[.string p2] 9)) ⟨⟨2, p1, [p2]⟩, some ⟨W.heap.size, 0, none⟩, 1⟩ (hW.alloc hW.size _) (Sl.lit (E := ES) W 9 [p2] _ rfl 1 _ rfl rfl (by omega) (fun _ _ => trivial)) ⟨p1s, fun s hs => by simp at hs; subst hs; exact p2s⟩)
      dsimp only at M1 M2 M3 M4
      rw [A1] at M1
      rw [A2] at M2
      rw [A3] at M3
      rw [A4] at M4
      rw [A5] at KL
      clear A1 A2 A3 A4 A5 KM KN FAC
      go_wp2_with fail
      refine M1.out.mono ?_
      rintro e w6 ⟨rfl, hb6⟩
      have q6 := D1.out w6 hb6
      have r0 := cellN q6 (i := 0) rfl
      have r1 := cellN q6 (i := 1) rfl
      clear q0 q1 q5 q6
      go_wp2_with fail
      refine (M2.out _ hb6).mono ?_
      rintro e w7 ⟨rfl, hb7⟩
      have b7 := bb2 hb6 (below_box hb7)
      have q7 := D1.out w7 b7
      have s0 := cellN q7 (i := 0) rfl
      have s1 := cellN q7 (i := 1) rfl
      clear r0 r1 q7 hb7
      go_wp2_with fail
      refine (M3.out _ b7).mono ?_
      rintro e w8 ⟨rfl, hb8⟩
      have b8 := bb2 b7 hb8
      have q8 := D1.out w8 b8
      have t0 := cellN q8 (i := 0) rfl
      have t1 := cellN q8 (i := 1) rfl
      clear s0 s1 q8 hb8
      go_wp2_with fail
      refine (M4.out _ b8).mono ?_
      rintro e w9 ⟨rfl, hb9⟩
      have b9 := bb2 b8 (below_box hb9)
      clear t0 t1 hb9
      go_wp2_with fail
      refine (KL.out _ b9).mono ?_
      rintro e w10 ⟨rfl, hb10⟩
      go_wp2_with fail
      refine (lawake_any _).mono ?_
      rintro e w11 ⟨rfl, hb11⟩
      go_wp2_with fail
      go_ret
      exact ⟨rfl, bb2 B5.out (bb2 b9 (bb2 hb10 hb11))⟩
  · have VM : La.mayV mo = true := by unfold La.mayV; rw [he, Bool.true_or]
    clear V0
    obtain ⟨A1, A2, A3, A4, A5⟩ := FAC.out mo VM
    have q5 := D1.out w5 (Below.refl _ _)
    have q0 := cellN q5 (i := 0) rfl
    have q1 := cellN q5 (i := 1) rfl
    have M1 := hide (KM.out w5 ⟨⟨3, p1, []⟩, none, 0⟩ (Below.refl _ _) (Sl.nil _) ⟨p1s, fun s hs => absurd hs (by simp)⟩)
    have M2 := hide (fun W (hW : Below w5.heap.size w5 W) => KM.out (W.alloc (.cells #[.string mo, .string p2] 9)) ⟨⟨1, p1, [mo, p2]⟩, some ⟨W.heap.size, 0, none⟩, 2⟩ (hW.alloc hW.size _) (Sl.lit (E := ES) W 9 [mo, p2] _ rfl 2 _ rfl rfl (by omega) (fun _ _ => trivial)) ⟨p1s, fun s hs => by simp at hs; rcases hs with rfl | rfl; (first | exact hmoM | exact Nat.zero_le _); exact p2s⟩)
    have M3 := hide (fun W (hW : Below w5.heap.size w5 W) => KN.out W ⟨⟨4, p1, []⟩, none, 0⟩ hW (Sl.nil _) ⟨p1s, fun s hs => absurd hs (by simp)⟩)
    have M4 := hide (fun W (hW : Below w5.heap.size w5 W) => KN.out (W.alloc (.cells #[.string p2] 9)) ⟨⟨2, p1, [p2]⟩, some ⟨W.heap.size, 0, none⟩, 1⟩ (hW.alloc hW.size _) (Sl.lit (E := ES) W 9 [p2] _ rfl 1 _ rfl rfl (by omega) (fun _ _ => trivial)) ⟨p1s, fun s hs => by simp at hs; subst hs; exact p2s⟩)
    dsimp only at M1 M2 M3 M4
    rw [A1] at M1
    rw [A2] at M2
    rw [A3] at M3
    rw [A4] at M4
    rw [A5] at KL
    clear A1 A2 A3 A4 A5 KM KN FAC
    go_wp2_with fail
    refine M1.out.mono ?_
    rintro e w6 ⟨rfl, hb6⟩
    have q6 := D1.out w6 hb6
    have r0 := cellN q6 (i := 0) rfl
    have r1 := cellN q6 (i := 1) rfl
    clear q0 q1 q5 q6
    go_wp2_with fail
    refine (M2.out _ hb6).mono ?_
    rintro e w7 ⟨rfl, hb7⟩
    have b7 := bb2 hb6 (below_box hb7)
    have q7 := D1.out w7 b7
    have s0 := cellN q7 (i := 0) rfl
    have s1 := cellN q7 (i := 1) rfl
    clear r0 r1 q7 hb7
    go_wp2_with fail
    refine (M3.out _ b7).mono ?_
    rintro e w8 ⟨rfl, hb8⟩
    have b8 := bb2 b7 hb8
    have q8 := D1.out w8 b8
    have t0 := cellN q8 (i := 0) rfl
    have t1 := cellN q8 (i := 1) rfl
    clear s0 s1 q8 hb8
    go_wp2_with fail
    refine (M4.out _ b8).mono ?_
    rintro e w9 ⟨rfl, hb9⟩
    have b9 := bb2 b8 (below_box hb9)
    clear t0 t1 hb9
    go_wp2_with fail
    refine (KL.out _ b9).mono ?_
    rintro e w10 ⟨rfl, hb10⟩
    go_wp2_with fail
    refine (lawake_any _).mono ?_
    rintro e w11 ⟨rfl, hb11⟩
    go_wp2_with fail
    go_ret
    exact ⟨rfl, bb2 B5.out (bb2 b9 (bb2 hb10 hb11))⟩

end Go.Proofs.YtecnjbaanbakoaaDoor
