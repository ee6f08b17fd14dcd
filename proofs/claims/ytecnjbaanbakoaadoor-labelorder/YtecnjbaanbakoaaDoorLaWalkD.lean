/-
  Walks: May (of labels).
-/
import Derived.Test.YtecnjbaanbakoaaDoorLaWalkC
import Derived.Test.YtecnjbaanbakoaaDoorGrow
import Derived.Deep.RegionHeld3
namespace Go.Proofs.YtecnjbaanbakoaaDoor
open Go Go.RowKit Go.Shelf

/-! May -/
set_option maxHeartbeats 1600000 in
theorem lmay_any (v : Value) (l : List PairB) (w : World) (hv : Prs w v l) (hok : ∀ p ∈ l, okP p) :
    Calls Tryd.prog 14 #[v] w fun e w' => e = .returned (.bool (La.mayL l)) ∧ Below w.heap.size w w' := by
  have hlen := hv.len
  obtain ⟨a, cap, rfl, _, _, hc⟩ := hv
  have HC := hide hc
  have HOK := hide hok
  clear hc hok
  by_cases h8 : 8 < l.length
  · have hz8 : (8 : Int) < (l.length : Int) := by omega
    have hm := hide (La.mayL_long h8)
    go_enter Tryd.func14, Tryd.ntmps14
    go_wp2_with fail
    go_ret
    exact ⟨ret_bool hm.out.symm, Below.refl _ _⟩
  have hz8 : ¬ (8 : Int) < (l.length : Int) := by omega
  go_enter Tryd.func14, Tryd.ntmps14
  go_wp2_with fail
  go_loopw [10] (fun i wr => ∃ k : Nat, k ≤ l.length ∧ i = .int .i64 k ∧ Hid (La.okTo l k = true) ∧ Below w.heap.size w wr) (fun i _ => l.length - (intOf i).toNat)
  case atStart => exact ⟨0, Nat.zero_le _, rfl, rfl, Below.refl _ _⟩
  case round =>
    obtain ⟨k, hk, rfl, hall, hB⟩ := hrel
    by_cases hlt : k < l.length
    · have hlt' : (k : Int) < (l.length : Int) := by omega
      obtain ⟨o1, o2⟩ := HOK.out _ (List.getElem_mem hlt)
      have HY := hide (fun h => La.okTo_succ (k := k) hall.out h)
      have HN := hide (fun h => La.mayL_not hlt h)
      by_cases h0 : k = 0
      · subst h0
        obtain ⟨g, off, rfl, hg, c1, c2⟩ := HC.out 0 hlt
        rw [Nat.zero_mul, Nat.add_zero] at c1 c2
        have c1' := (hB.cell (p := ⟨g, off, none⟩) hg).trans c1
        have c2' := (hB.cell (p := ⟨g, off + 1, none⟩) hg).trans c2
        have HE := hide (La.okAt_first hlt)
        clear c1 c2
        generalize l[0].1 = p1 at *
        generalize l[0].2 = p2 at *
        generalize La.okAt l 0 = r at *
        have E1 : La.isNm p1 = D.isName p1.data.toList := rfl
        rw [E1] at HE
        cases hq : D.isName p1.data.toList
        · rw [hq] at HE
          go_wp2_with fail
          refine (name_any p1 _ o1).mono ?_
          rintro e w1 ⟨rfl, hb1⟩
          rw [hq]
          have d1 := box_snd hb1
          go_wp2_with fail
          go_ret
          exact ⟨ret_bool (HN.out (by rw [HE.out]; rfl)).symm, bb2 hB (below_box hb1)⟩
        · rw [hq] at HE
          cases hq2 : La.mayV p2
          · rw [hq2] at HE
            go_wp2_with fail
            refine (name_any p1 _ o1).mono ?_
            rintro e w1 ⟨rfl, hb1⟩
            rw [hq]
            have d1 := box_snd hb1
            go_wp2_with fail
            refine (mayVal_any p2 _ o2).mono ?_
            rintro e x ⟨rfl, hx⟩
            subst x
            rw [hq2]
            go_wp2_with fail
            go_ret
            exact ⟨ret_bool (HN.out (by rw [HE.out]; rfl)).symm, bb2 hB (below_box hb1)⟩
          · rw [hq2] at HE
            go_wp2_with fail
            refine (name_any p1 _ o1).mono ?_
            rintro e w1 ⟨rfl, hb1⟩
            rw [hq]
            have d1 := box_snd hb1
            go_wp2_with fail
            refine (mayVal_any p2 _ o2).mono ?_
            rintro e x ⟨rfl, hx⟩
            subst x
            rw [hq2]
            go_wp2_with fail
            refine wp_region_noPanic ?_
            refine wp_region_held_drew (S := fun W => Below (w1).heap.size (w1) W) (by kernel_rfl) ((Below.refl _ _).drew) (fun hHeld => ?_)
            refine wpAnyH_take (i := 0) (v := ?_) (op_at (rest := _) rfl) (by kernel_rfl) (by kernel_rfl) (by kernel_rfl) (fun _ _ _ h => h) (Or.inl ⟨by rfl, ?_⟩) (by assumption) ?_
            rotate_left 1
            · (intro W hSw; (try dsimp only at hSw); go_simp; (try with_reducible rfl))
            try simp only [Act.put, List.setIfInBounds_toArray, List.set_cons_zero, List.set_cons_succ]
            refine wpAnyH_take (i := 1) (v := ?_) (op_at (rest := _) rfl) (by kernel_rfl) (by kernel_rfl) (by kernel_rfl) (fun _ _ _ h => h) (Or.inl ⟨by rfl, ?_⟩) (by assumption) ?_
            rotate_left 1
            · (intro W hSw; (try dsimp only at hSw); go_simp; (try with_reducible rfl))
            try simp only [Act.put, List.setIfInBounds_toArray, List.set_cons_zero, List.set_cons_succ]
            refine wpAnyH_take (i := 2) (v := ?_) (op_at (rest := _) rfl) (by kernel_rfl) (by kernel_rfl) (by kernel_rfl) (fun _ _ _ h => h) (Or.inl ⟨by rfl, ?_⟩) (by assumption) ?_
            rotate_left 1
            · (intro W hSw; (try dsimp only at hSw); go_simp; (try with_reducible rfl))
            try simp only [Act.put, List.setIfInBounds_toArray, List.set_cons_zero, List.set_cons_succ]
            refine wpAnyH_take (i := 3) (v := undef) (op_at (rest := _) rfl) (by kernel_rfl) (by kernel_rfl) (by kernel_rfl) (fun _ _ _ h => h) (Or.inr ⟨by rfl, rfl⟩) (by assumption) ?_
            try simp only [Act.put, List.setIfInBounds_toArray, List.set_cons_zero, List.set_cons_succ]
            refine wpAnyH_take (i := 4) (v := undef) (op_at (rest := _) rfl) (by kernel_rfl) (by kernel_rfl) (by kernel_rfl) (fun _ _ _ h => h) (Or.inr ⟨by rfl, rfl⟩) (by assumption) ?_
            try simp only [Act.put, List.setIfInBounds_toArray, List.set_cons_zero, List.set_cons_succ]
            refine wpAnyH_take (i := 5) (v := undef) (op_at (rest := _) rfl) (by kernel_rfl) (by kernel_rfl) (by kernel_rfl) (fun _ _ _ h => h) (Or.inr ⟨by rfl, rfl⟩) (by assumption) ?_
            try simp only [Act.put, List.setIfInBounds_toArray, List.set_cons_zero, List.set_cons_succ]
            refine wpAnyH_take (i := 6) (v := undef) (op_at (rest := _) rfl) (by kernel_rfl) (by kernel_rfl) (by kernel_rfl) (fun _ _ _ h => h) (Or.inr ⟨by rfl, rfl⟩) (by assumption) ?_
            try simp only [Act.put, List.setIfInBounds_toArray, List.set_cons_zero, List.set_cons_succ]
            refine wpAnyH_take (i := 7) (v := undef) (op_at (rest := _) rfl) (by kernel_rfl) (by kernel_rfl) (by kernel_rfl) (fun _ _ _ h => h) (Or.inr ⟨by rfl, rfl⟩) (by assumption) ?_
            try simp only [Act.put, List.setIfInBounds_toArray, List.set_cons_zero, List.set_cons_succ]
            refine wpAnyH_take (i := 8) (v := undef) (op_at (rest := _) rfl) (by kernel_rfl) (by kernel_rfl) (by kernel_rfl) (fun _ _ _ h => h) (Or.inr ⟨by rfl, rfl⟩) (by assumption) ?_
            try simp only [Act.put, List.setIfInBounds_toArray, List.set_cons_zero, List.set_cons_succ]
            refine wpAnyH_take (i := 9) (v := undef) (op_at (rest := _) rfl) (by kernel_rfl) (by kernel_rfl) (by kernel_rfl) (fun _ _ _ h => h) (Or.inr ⟨by rfl, rfl⟩) (by assumption) ?_
            try simp only [Act.put, List.setIfInBounds_toArray, List.set_cons_zero, List.set_cons_succ]
            refine wpAnyH_take (i := 10) (v := undef) (op_at (rest := _) rfl) (by kernel_rfl) (by kernel_rfl) (by kernel_rfl) (fun _ _ _ h => h) (Or.inr ⟨by rfl, rfl⟩) (by assumption) ?_
            try simp only [Act.put, List.setIfInBounds_toArray, List.set_cons_zero, List.set_cons_succ]
            refine wpAnyH_take (i := 11) (v := undef) (op_at (rest := _) rfl) (by kernel_rfl) (by kernel_rfl) (by kernel_rfl) (fun _ _ _ h => h) (Or.inr ⟨by rfl, rfl⟩) (by assumption) ?_
            try simp only [Act.put, List.setIfInBounds_toArray, List.set_cons_zero, List.set_cons_succ]
            refine wpAnyH_take (i := 12) (v := ?_) (op_at (rest := _) rfl) (by kernel_rfl) (by kernel_rfl) (by kernel_rfl) (fun _ _ _ h => h) (Or.inl ⟨by rfl, ?_⟩) (by assumption) ?_
            rotate_left 1
            · (intro W hSw; (try dsimp only at hSw); go_simp; (try with_reducible rfl))
            try simp only [Act.put, List.setIfInBounds_toArray, List.set_cons_zero, List.set_cons_succ]
            refine wpAnyH_done (by kernel_rfl) ?_ _
            refine NoPanic.normal ?_
            have hq9 := hHeld
            go_wp2_with fail
            exact ⟨⟨1, by omega, by go_num, HY.out (by rw [HE.out]; rfl), bb2 (bb2 hB (below_box hb1)) hq9⟩, by simp [intOf]; omega⟩
      · have h0' : decide (0 < k) = true := decide_eq_true (by omega)
        obtain ⟨g, off, rfl, hg, c1, c2⟩ := HC.out k hlt
        obtain ⟨g', off', hgg, hg', c3, c4⟩ := HC.out (k - 1) (by omega)
        clear c4
        injection hgg with hgg
        injection hgg with e1 e2
        subst e1 e2
        have c1' := (hB.cell (p := ⟨g, off + k * 2, none⟩) hg).trans c1
        have c2' := (hB.cell (p := ⟨g, off + k * 2 + 1, none⟩) hg).trans c2
        have c3' : ∀ W, Below w.heap.size w W → W.cell? ⟨g, off + (k - 1) * 2, none⟩ = some (.string l[k - 1].1) := fun W hW => (hW.cell (p := ⟨g, off + (k - 1) * 2, none⟩) hg).trans c3
        have HE := hide (La.okAt_next hlt h0)
        have hwr : IntKind.i64.wrap ((k : Int) - 1) = ((k - 1 : Nat) : Int) := by rw [IntKind.wrap_i64]; omega
        have hk2 : ((k - 1 : Nat) : Int) < (l.length : Int) := by omega
        clear c1 c2 c3
        generalize l[k].1 = p1 at *
        generalize l[k].2 = p2 at *
        generalize l[k - 1].1 = p0 at *
        generalize k - 1 = j at *
        generalize La.okAt l k = r at *
        have E1 : La.isNm p1 = D.isName p1.data.toList := rfl
        rw [E1] at HE
        cases hq : D.isName p1.data.toList
        · rw [hq] at HE
          go_wp2_with fail
          refine (name_any p1 _ o1).mono ?_
          rintro e w1 ⟨rfl, hb1⟩
          rw [hq]
          have d1 := box_snd hb1
          go_wp2_with fail
          go_ret
          exact ⟨ret_bool (HN.out (by rw [HE.out]; rfl)).symm, bb2 hB (below_box hb1)⟩
        · rw [hq] at HE
          cases hq2 : La.mayV p2
          · rw [hq2] at HE
            go_wp2_with fail
            refine (name_any p1 _ o1).mono ?_
            rintro e w1 ⟨rfl, hb1⟩
            rw [hq]
            have d1 := box_snd hb1
            go_wp2_with fail
            refine (mayVal_any p2 _ o2).mono ?_
            rintro e x ⟨rfl, hx⟩
            subst x
            rw [hq2]
            go_wp2_with fail
            go_ret
            exact ⟨ret_bool (HN.out (by rw [HE.out]; rfl)).symm, bb2 hB (below_box hb1)⟩
          · rw [hq2] at HE
            cases hq3 : La.lessB p0 p1
            · have hq3' : Op.bytesLess p0.toList p1.toList = false := hq3
              rw [hq3] at HE
              go_wp2_with fail
              refine (name_any p1 _ o1).mono ?_
              rintro e w1 ⟨rfl, hb1⟩
              rw [hq]
              have d1 := box_snd hb1
              have d0 := fun W (hW : Below w1.heap.size w1 W) => box_fst (hb1.trans (hW.mono hb1.size))
              replace c3' := fun W (hW : Below w1.heap.size w1 W) => c3' W (bb2 (bb2 hB (below_box hb1)) hW)
              go_wp2_with fail
              refine (mayVal_any p2 _ o2).mono ?_
              rintro e x ⟨rfl, hx⟩
              subst x
              rw [hq2]
              go_wp2_with fail
              refine wp_region_noPanic ?_
              refine wp_region_held_drew (S := fun W => Below (w1).heap.size (w1) W) (by kernel_rfl) ((Below.refl _ _).drew) (fun hHeld => ?_)
              refine wpAnyH_take (i := 0) (v := ?_) (op_at (rest := _) rfl) (by kernel_rfl) (by kernel_rfl) (by kernel_rfl) (fun _ _ _ h => h) (Or.inl ⟨by rfl, ?_⟩) (by assumption) ?_
              rotate_left 1
              · (intro W hSw; (try dsimp only at hSw); go_simp; (try with_reducible rfl))
              try simp only [Act.put, List.setIfInBounds_toArray, List.set_cons_zero, List.set_cons_succ]
              refine wpAnyH_take (i := 1) (v := ?_) (op_at (rest := _) rfl) (by kernel_rfl) (by kernel_rfl) (by kernel_rfl) (fun _ _ _ h => h) (Or.inl ⟨by rfl, ?_⟩) (by assumption) ?_
              rotate_left 1
              · (intro W hSw; (try dsimp only at hSw); go_simp; (try with_reducible rfl))
              try simp only [Act.put, List.setIfInBounds_toArray, List.set_cons_zero, List.set_cons_succ]
              refine wpAnyH_take (i := 2) (v := ?_) (op_at (rest := _) rfl) (by kernel_rfl) (by kernel_rfl) (by kernel_rfl) (fun _ _ _ h => h) (Or.inl ⟨by rfl, ?_⟩) (by assumption) ?_
              rotate_left 1
              · (intro W hSw; (try dsimp only at hSw); go_simp; (try with_reducible rfl))
              try simp only [Act.put, List.setIfInBounds_toArray, List.set_cons_zero, List.set_cons_succ]
              refine wpAnyH_take (i := 3) (v := ?_) (op_at (rest := _) rfl) (by kernel_rfl) (by kernel_rfl) (by kernel_rfl) (fun _ _ _ h => h) (Or.inl ⟨by rfl, ?_⟩) (by assumption) ?_
              rotate_left 1
              · (intro W hSw; (try dsimp only at hSw); go_simp; (try with_reducible rfl))
              try simp only [Act.put, List.setIfInBounds_toArray, List.set_cons_zero, List.set_cons_succ]
              refine wpAnyH_take (i := 4) (v := ?_) (op_at (rest := _) rfl) (by kernel_rfl) (by kernel_rfl) (by kernel_rfl) (fun _ _ _ h => h) (Or.inl ⟨by rfl, ?_⟩) (by assumption) ?_
              rotate_left 1
              · (intro W hSw; (try dsimp only at hSw); go_simp; (try with_reducible rfl))
              try simp only [Act.put, List.setIfInBounds_toArray, List.set_cons_zero, List.set_cons_succ]
              refine wpAnyH_take (i := 5) (v := ?_) (op_at (rest := _) rfl) (by kernel_rfl) (by kernel_rfl) (by kernel_rfl) (fun _ _ _ h => h) (Or.inl ⟨by rfl, ?_⟩) (by assumption) ?_
              rotate_left 1
              · (intro W hSw; (try dsimp only at hSw); go_simp; (try with_reducible rfl))
              try simp only [Act.put, List.setIfInBounds_toArray, List.set_cons_zero, List.set_cons_succ]
              refine wpAnyH_take (i := 6) (v := ?_) (op_at (rest := _) rfl) (by kernel_rfl) (by kernel_rfl) (by kernel_rfl) (fun _ _ _ h => h) (Or.inl ⟨by rfl, ?_⟩) (by assumption) ?_
              rotate_left 1
              · (intro W hSw; (try dsimp only at hSw); go_simp; (try with_reducible rfl))
              try simp only [Act.put, List.setIfInBounds_toArray, List.set_cons_zero, List.set_cons_succ]
              refine wpAnyH_take (i := 7) (v := ?_) (op_at (rest := _) rfl) (by kernel_rfl) (by kernel_rfl) (by kernel_rfl) (fun _ _ _ h => h) (Or.inl ⟨by rfl, ?_⟩) (by assumption) ?_
              rotate_left 1
              · (intro W hSw; (try dsimp only at hSw); go_simp; (try with_reducible rfl))
              try simp only [Act.put, List.setIfInBounds_toArray, List.set_cons_zero, List.set_cons_succ]
              refine wpAnyH_take (i := 8) (v := ?_) (op_at (rest := _) rfl) (by kernel_rfl) (by kernel_rfl) (by kernel_rfl) (fun _ _ _ h => h) (Or.inl ⟨by rfl, ?_⟩) (by assumption) ?_
              rotate_left 1
              · (intro W hSw; (try dsimp only at hSw); have c4 := c3' W hSw; go_simp; (try with_reducible rfl))
              try simp only [Act.put, List.setIfInBounds_toArray, List.set_cons_zero, List.set_cons_succ]
              refine wpAnyH_take (i := 9) (v := ?_) (op_at (rest := _) rfl) (by kernel_rfl) (by kernel_rfl) (by kernel_rfl) (fun _ _ _ h => h) (Or.inl ⟨by rfl, ?_⟩) (by assumption) ?_
              rotate_left 1
              · (intro W hSw; (try dsimp only at hSw); go_simp; (try with_reducible rfl))
              try simp only [Act.put, List.setIfInBounds_toArray, List.set_cons_zero, List.set_cons_succ]
              refine wpAnyH_take (i := 10) (v := ?_) (op_at (rest := _) rfl) (by kernel_rfl) (by kernel_rfl) (by kernel_rfl) (fun _ _ _ h => h) (Or.inl ⟨by rfl, ?_⟩) (by assumption) ?_
              rotate_left 1
              · (intro W hSw; (try dsimp only at hSw); have d4 := d0 W hSw; go_simp; (try with_reducible rfl))
              try simp only [Act.put, List.setIfInBounds_toArray, List.set_cons_zero, List.set_cons_succ]
              refine wpAnyH_take (i := 11) (v := ?_) (op_at (rest := _) rfl) (by kernel_rfl) (by kernel_rfl) (by kernel_rfl) (fun _ _ _ h => h) (Or.inl ⟨by rfl, ?_⟩) (by assumption) ?_
              rotate_left 1
              · (intro W hSw; (try dsimp only at hSw); go_simp; (try with_reducible rfl))
              try simp only [Act.put, List.setIfInBounds_toArray, List.set_cons_zero, List.set_cons_succ]
              refine wpAnyH_take (i := 12) (v := ?_) (op_at (rest := _) rfl) (by kernel_rfl) (by kernel_rfl) (by kernel_rfl) (fun _ _ _ h => h) (Or.inl ⟨by rfl, ?_⟩) (by assumption) ?_
              rotate_left 1
              · (intro W hSw; (try dsimp only at hSw); go_simp; (try with_reducible rfl))
              try simp only [Act.put, List.setIfInBounds_toArray, List.set_cons_zero, List.set_cons_succ]
              refine wpAnyH_done (by kernel_rfl) ?_ _
              refine NoPanic.normal ?_
              have hq9 := hHeld
              go_wp2_with fail
              go_ret
              exact ⟨ret_bool (HN.out (by rw [HE.out]; rfl)).symm, bb2 (bb2 hB (below_box hb1)) hq9⟩
            · have hq3' : Op.bytesLess p0.toList p1.toList = true := hq3
              rw [hq3] at HE
              go_wp2_with fail
              refine (name_any p1 _ o1).mono ?_
              rintro e w1 ⟨rfl, hb1⟩
              rw [hq]
              have d1 := box_snd hb1
              have d0 := fun W (hW : Below w1.heap.size w1 W) => box_fst (hb1.trans (hW.mono hb1.size))
              replace c3' := fun W (hW : Below w1.heap.size w1 W) => c3' W (bb2 (bb2 hB (below_box hb1)) hW)
              go_wp2_with fail
              refine (mayVal_any p2 _ o2).mono ?_
              rintro e x ⟨rfl, hx⟩
              subst x
              rw [hq2]
              go_wp2_with fail
              refine wp_region_noPanic ?_
              refine wp_region_held_drew (S := fun W => Below (w1).heap.size (w1) W) (by kernel_rfl) ((Below.refl _ _).drew) (fun hHeld => ?_)
              refine wpAnyH_take (i := 0) (v := ?_) (op_at (rest := _) rfl) (by kernel_rfl) (by kernel_rfl) (by kernel_rfl) (fun _ _ _ h => h) (Or.inl ⟨by rfl, ?_⟩) (by assumption) ?_
              rotate_left 1
              · (intro W hSw; (try dsimp only at hSw); go_simp; (try with_reducible rfl))
              try simp only [Act.put, List.setIfInBounds_toArray, List.set_cons_zero, List.set_cons_succ]
              refine wpAnyH_take (i := 1) (v := ?_) (op_at (rest := _) rfl) (by kernel_rfl) (by kernel_rfl) (by kernel_rfl) (fun _ _ _ h => h) (Or.inl ⟨by rfl, ?_⟩) (by assumption) ?_
              rotate_left 1
              · (intro W hSw; (try dsimp only at hSw); go_simp; (try with_reducible rfl))
              try simp only [Act.put, List.setIfInBounds_toArray, List.set_cons_zero, List.set_cons_succ]
              refine wpAnyH_take (i := 2) (v := ?_) (op_at (rest := _) rfl) (by kernel_rfl) (by kernel_rfl) (by kernel_rfl) (fun _ _ _ h => h) (Or.inl ⟨by rfl, ?_⟩) (by assumption) ?_
              rotate_left 1
              · (intro W hSw; (try dsimp only at hSw); go_simp; (try with_reducible rfl))
              try simp only [Act.put, List.setIfInBounds_toArray, List.set_cons_zero, List.set_cons_succ]
              refine wpAnyH_take (i := 3) (v := ?_) (op_at (rest := _) rfl) (by kernel_rfl) (by kernel_rfl) (by kernel_rfl) (fun _ _ _ h => h) (Or.inl ⟨by rfl, ?_⟩) (by assumption) ?_
              rotate_left 1
              · (intro W hSw; (try dsimp only at hSw); go_simp; (try with_reducible rfl))
              try simp only [Act.put, List.setIfInBounds_toArray, List.set_cons_zero, List.set_cons_succ]
              refine wpAnyH_take (i := 4) (v := ?_) (op_at (rest := _) rfl) (by kernel_rfl) (by kernel_rfl) (by kernel_rfl) (fun _ _ _ h => h) (Or.inl ⟨by rfl, ?_⟩) (by assumption) ?_
              rotate_left 1
              · (intro W hSw; (try dsimp only at hSw); go_simp; (try with_reducible rfl))
              try simp only [Act.put, List.setIfInBounds_toArray, List.set_cons_zero, List.set_cons_succ]
              refine wpAnyH_take (i := 5) (v := ?_) (op_at (rest := _) rfl) (by kernel_rfl) (by kernel_rfl) (by kernel_rfl) (fun _ _ _ h => h) (Or.inl ⟨by rfl, ?_⟩) (by assumption) ?_
              rotate_left 1
              · (intro W hSw; (try dsimp only at hSw); go_simp; (try with_reducible rfl))
              try simp only [Act.put, List.setIfInBounds_toArray, List.set_cons_zero, List.set_cons_succ]
              refine wpAnyH_take (i := 6) (v := ?_) (op_at (rest := _) rfl) (by kernel_rfl) (by kernel_rfl) (by kernel_rfl) (fun _ _ _ h => h) (Or.inl ⟨by rfl, ?_⟩) (by assumption) ?_
              rotate_left 1
              · (intro W hSw; (try dsimp only at hSw); go_simp; (try with_reducible rfl))
              try simp only [Act.put, List.setIfInBounds_toArray, List.set_cons_zero, List.set_cons_succ]
              refine wpAnyH_take (i := 7) (v := ?_) (op_at (rest := _) rfl) (by kernel_rfl) (by kernel_rfl) (by kernel_rfl) (fun _ _ _ h => h) (Or.inl ⟨by rfl, ?_⟩) (by assumption) ?_
              rotate_left 1
              · (intro W hSw; (try dsimp only at hSw); go_simp; (try with_reducible rfl))
              try simp only [Act.put, List.setIfInBounds_toArray, List.set_cons_zero, List.set_cons_succ]
              refine wpAnyH_take (i := 8) (v := ?_) (op_at (rest := _) rfl) (by kernel_rfl) (by kernel_rfl) (by kernel_rfl) (fun _ _ _ h => h) (Or.inl ⟨by rfl, ?_⟩) (by assumption) ?_
              rotate_left 1
              · (intro W hSw; (try dsimp only at hSw); have c4 := c3' W hSw; go_simp; (try with_reducible rfl))
              try simp only [Act.put, List.setIfInBounds_toArray, List.set_cons_zero, List.set_cons_succ]
              refine wpAnyH_take (i := 9) (v := ?_) (op_at (rest := _) rfl) (by kernel_rfl) (by kernel_rfl) (by kernel_rfl) (fun _ _ _ h => h) (Or.inl ⟨by rfl, ?_⟩) (by assumption) ?_
              rotate_left 1
              · (intro W hSw; (try dsimp only at hSw); go_simp; (try with_reducible rfl))
              try simp only [Act.put, List.setIfInBounds_toArray, List.set_cons_zero, List.set_cons_succ]
              refine wpAnyH_take (i := 10) (v := ?_) (op_at (rest := _) rfl) (by kernel_rfl) (by kernel_rfl) (by kernel_rfl) (fun _ _ _ h => h) (Or.inl ⟨by rfl, ?_⟩) (by assumption) ?_
              rotate_left 1
              · (intro W hSw; (try dsimp only at hSw); have d4 := d0 W hSw; go_simp; (try with_reducible rfl))
              try simp only [Act.put, List.setIfInBounds_toArray, List.set_cons_zero, List.set_cons_succ]
              refine wpAnyH_take (i := 11) (v := ?_) (op_at (rest := _) rfl) (by kernel_rfl) (by kernel_rfl) (by kernel_rfl) (fun _ _ _ h => h) (Or.inl ⟨by rfl, ?_⟩) (by assumption) ?_
              rotate_left 1
              · (intro W hSw; (try dsimp only at hSw); go_simp; (try with_reducible rfl))
              try simp only [Act.put, List.setIfInBounds_toArray, List.set_cons_zero, List.set_cons_succ]
              refine wpAnyH_take (i := 12) (v := ?_) (op_at (rest := _) rfl) (by kernel_rfl) (by kernel_rfl) (by kernel_rfl) (fun _ _ _ h => h) (Or.inl ⟨by rfl, ?_⟩) (by assumption) ?_
              rotate_left 1
              · (intro W hSw; (try dsimp only at hSw); go_simp; (try with_reducible rfl))
              try simp only [Act.put, List.setIfInBounds_toArray, List.set_cons_zero, List.set_cons_succ]
              refine wpAnyH_done (by kernel_rfl) ?_ _
              refine NoPanic.normal ?_
              have hq9 := hHeld
              go_wp2_with fail
              exact ⟨⟨k + 1, by omega, by go_num, HY.out (by rw [HE.out]; rfl), bb2 (bb2 hB (below_box hb1)) hq9⟩, by simp [intOf]; omega⟩
    · have hlt' : ¬ (k : Int) < (l.length : Int) := by omega
      have hq := hide (La.mayL_yes (k := k) (by omega) (by omega) hall.out hk)
      go_wp2_with fail
      go_ret
      exact ⟨ret_bool hq.out.symm, hB⟩

end Go.Proofs.YtecnjbaanbakoaaDoor
