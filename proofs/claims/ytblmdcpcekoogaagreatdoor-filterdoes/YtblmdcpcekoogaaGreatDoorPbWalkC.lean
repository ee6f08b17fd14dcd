/-
  Walks: Set.
-/
import Derived.Test.YtblmdcpcekoogaaGreatDoorPbWalkB
import Derived.Test.YtblmdcpcekoogaaGreatDoorGrow
import Derived.Deep.RegionHeld3
namespace Go.Proofs.YtblmdcpcekoogaaGreatDoor
set_option maxRecDepth 20000
open Go Go.RowKit Go.Shelf Go.Deep

abbrev setQ (l : List PairB) (n x : ByteArray) : List PairB := Pb.setP foldB l n x
theorem set_idx (n x : ByteArray) : ∀ l : List PairB, placeP sameF n l < l.length → setQ l n x = l.take (placeP sameF n l) ++ (n, x) :: dropQ (l.drop (placeP sameF n l + 1)) n
  | [], h => absurd h (by simp)
  | p :: r, h => by
    unfold placeP at *
    rw [List.findIdx_cons] at *
    cases hs : sameF n p.1
    · have hs' : Pb.sm foldB p.1 n = false := by rw [Pb.sm_comm]; exact hs
      rw [hs] at h
      simp only [cond_false, List.length_cons, Nat.add_lt_add_iff_right] at h ⊢
      have ih := set_idx n x r h
      show (if Pb.sm foldB p.1 n then _ else _) = _
      rw [hs', if_neg (by decide)]
      show p :: setQ r n x = _
      rw [ih]
      rfl
    · have hs' : Pb.sm foldB p.1 n = true := by rw [Pb.sm_comm]; exact hs
      show (if Pb.sm foldB p.1 n then _ else _) = _
      rw [hs', if_pos rfl]
      rfl
theorem set_yes {n x : ByteArray} {l : List PairB} (h : hasI sameF n l = true) : setQ l n x = l.take (placeI sameF n l) ++ [(n, x)] ++ dropQ (l.drop (placeI sameF n l + 1)) n := by
  have hp : placeP sameF n l < l.length := by simpa [hasI] using h
  have e : placeI sameF n l = placeP sameF n l := by unfold placeI; rw [if_pos hp]
  rw [e, set_idx n x l hp]
  simp
theorem set_not {n x : ByteArray} {l : List PairB} (h : hasI sameF n l = false) : setQ l n x = l ++ [(n, x)] := by
  refine Pb.set_none x ?_
  have hp : ¬ placeP sameF n l < l.length := by simpa [hasI] using h
  unfold Pb.hasP
  rw [List.any_eq_false]
  intro p hp2 hs
  exact hp (List.findIdx_lt_length_of_exists ⟨p, hp2, by show Pb.sm foldB n p.1 = true; rw [Pb.sm_comm]; exact hs⟩)

set_option maxHeartbeats 1600000 in
theorem set_own (n x : ByteArray) (v : Value) (l : List PairB) (w : World) (hn : n.size ≤ maxLen) (hv : Prs w v l) (hok : ∀ p ∈ l, okP p) (hl : l.length ≤ 1000) :
    Calls Tryz.prog 133 #[v, .string n, .string x] w fun e w' => ∃ v', e = .returned v' ∧ RowP w' v' (setQ l n x) ∧ Below w.heap.size w w' := by
  have CP := fun W (hW : Below w.heap.size w W) => hide (place_any cmp_same n v l W hn (hv.below hW) hok)
  cases hh : hasI sameF n l
  · have HS : Hid (setQ l n x = l ++ [(n, x)]) := set_not hh
    have CA := fun W (hW : Below w.heap.size w W) => hide (add_any n x v l W (hv.below hW) hl)
    rw [hh] at CP
    generalize placeI sameF n l = k at *
    obtain ⟨a, cap, rfl, _, _, hc⟩ := hv
    clear hc
    go_enter Tryz.func133, Tryz.ntmps133
    go_wp2_with fail
    refine (field_any _ _).mono ?_
    rintro e w1 ⟨rfl, hb1⟩
    go_wp2_with fail
    refine ((CP _ hb1).out).mono ?_
    rintro e w2 ⟨rfl, hb2⟩
    go_wp2_with fail
    refine (CA _ (bb2 hb1 hb2)).out.mono ?_
    rintro e w3 ⟨v3, rfl, hr3, hb3⟩
    go_wp2_with fail
    go_ret
    exact ⟨_, rfl, by rw [HS.out]; exact RowP.mk (by simp) hr3, bb2 (bb2 hb1 hb2) hb3⟩
  · obtain ⟨hk, _⟩ := first_yes hh
    have HS : Hid (setQ l n x = l.take (placeI sameF n l) ++ [(n, x)] ++ dropQ (l.drop (placeI sameF n l + 1)) n) := set_yes hh
    rw [hh] at CP
    generalize placeI sameF n l = k at *
    have HV := hide hv
    obtain ⟨a, cap, rfl, hlc, hcm, hc⟩ := hv
    obtain ⟨g, off, rfl, hg, _⟩ := hc k hk
    clear hc
    have hlt : (l.take k).length = k := by simp; omega
    have hle : (dropQ (l.drop (k + 1)) n).length ≤ l.length := by
      have h1 : (dropQ (l.drop (k + 1)) n).length ≤ (l.drop (k + 1)).length := List.length_filter_le _ _
      simp at h1
      omega
    have pT : Prs w (.slice (some ⟨g, off, none⟩) k cap) (l.take k) := by
      have := Prs.sub HV.out 0 k cap (by omega) (by omega) hcm
      simpa using this
    have CA := fun W (hW : Below w.heap.size w W) => hide (add_any n x _ _ W (pT.below hW) (by omega))
    have okD : ∀ p ∈ l.drop (k + 1), okP p := fun p hp => hok p (List.mem_of_mem_drop hp)
    have k1 : (0 : Int) ≤ (k : Int) := by omega
    have k2 : (k : Int) ≤ (cap : Int) := by omega
    have hwr : IntKind.i64.wrap ((k : Int) + 1) = ((k + 1 : Nat) : Int) := by rw [IntKind.wrap_i64]; omega
    have hd : (l.drop (k + 1)).length ≤ 1000 := by simp; omega
    have hlm : k + 1 ≤ l.length := by omega
    have pD : cap ≠ k + 1 → Prs w (.slice (some ⟨g, off + (k + 1) * 2, none⟩) (l.length - (k + 1)) (cap - (k + 1))) (l.drop (k + 1)) := fun hc => by
      have := Prs.sub HV.out (k + 1) (l.length - (k + 1)) (cap - (k + 1)) (by omega) (by omega) (by omega)
      rwa [List.take_of_length_le (by simp)] at this
    have pE : cap = k + 1 → Prs w (.slice (some ⟨g, off, none⟩) (l.length - (k + 1)) 0) (l.drop (k + 1)) := fun hc => by
      have hz : l.drop (k + 1) = [] := List.drop_eq_nil_of_le (by omega)
      rw [hz, show l.length - (k + 1) = 0 by omega]
      exact ⟨_, 0, rfl, Nat.le_refl _, Nat.zero_le _, fun i hi => absurd hi (by simp)⟩
    generalize hm : k + 1 = m at *
    have k3 : (0 : Int) ≤ (m : Int) := by omega
    have k4 : (m : Int) ≤ (l.length : Int) := by omega
    rcases Classical.em (cap = m) with hcap | hcap
    · have CD := fun W (hW : Below w.heap.size w W) => hide (drop_any n _ _ W hn ((pE hcap).below hW) okD hd)
      subst hcap
      clear pD pE pT okD hd hm hlc hcm
      go_enter Tryz.func133, Tryz.ntmps133
      go_wp2_with fail
      refine (field_any _ _).mono ?_
      rintro e w1 ⟨rfl, hb1⟩
      go_wp2_with fail
      refine ((CP _ hb1).out).mono ?_
      rintro e w2 ⟨rfl, hb2⟩
      go_wp2_with fail
      replace CA := fun W (hW : Below w2.heap.size w2 W) => CA W (bb2 (bb2 hb1 hb2) hW)
      replace CD := fun W (hW : Below w2.heap.size w2 W) => CD W (bb2 (bb2 hb1 hb2) hW)
      refine wp_region_noPanic ?_
      refine wp_region_held_drew (S := fun W => Below w2.heap.size w2 W) (by kernel_rfl) ((Below.refl _ _).drew) (fun hHeld => ?_)
      refine wpAnyH_take (i := 0) (v := ?_) (op_at (rest := _) rfl) (by kernel_rfl) (by kernel_rfl) (by kernel_rfl) (fun _ _ _ h => h) (Or.inl ⟨by rfl, ?_⟩) (by assumption) ?_
      rotate_left 1
      · (intro W hSw; (try dsimp only at hSw); go_simp; (try with_reducible rfl))
      try simp only [Act.put, List.setIfInBounds_toArray, List.set_cons_zero, List.set_cons_succ]
      refine wpAnyH_take (i := 1) (v := ?_) (op_at (rest := _) rfl) (by kernel_rfl) (by kernel_rfl) (by kernel_rfl) (fun _ _ _ h => h) (Or.inl ⟨by rfl, ?_⟩) (by assumption) ?_
      rotate_left 1
      · (intro W hSw; (try dsimp only at hSw); go_simp; (try with_reducible rfl))
      try simp only [Act.put, List.setIfInBounds_toArray, List.set_cons_zero, List.set_cons_succ]
      refine wpAnyH_take (i := 2) (v := ?_) (op_at (rest := _) rfl) (by kernel_rfl) (by kernel_rfl) (by kernel_rfl) (fun _ _ _ h => h) (Or.inl ⟨by rfl, ?_⟩) (by assumption) ?_
      rotate_left 1
      · (intro W hSw; (try dsimp only at hSw); go_simp; (try with_reducible rfl))
      try simp only [Act.put, List.setIfInBounds_toArray, List.set_cons_zero, List.set_cons_succ]
      refine wpAnyH_take (i := 3) (v := ?_) (op_at (rest := _) rfl) (by kernel_rfl) (by kernel_rfl) (by kernel_rfl) (fun _ _ _ h => h) (Or.inl ⟨by rfl, ?_⟩) (by assumption) ?_
      rotate_left 1
      · (intro W hSw; (try dsimp only at hSw); go_simp; (try with_reducible rfl))
      try simp only [Act.put, List.setIfInBounds_toArray, List.set_cons_zero, List.set_cons_succ]
      refine wpAnyH_take (i := 4) (v := ?_) (op_at (rest := _) rfl) (by kernel_rfl) (by kernel_rfl) (by kernel_rfl) (fun _ _ _ h => h) (Or.inl ⟨by rfl, ?_⟩) (by assumption) ?_
      rotate_left 1
      · (intro W hSw; (try dsimp only at hSw); go_simp; (try with_reducible rfl))
      try simp only [Act.put, List.setIfInBounds_toArray, List.set_cons_zero, List.set_cons_succ]
      refine wpAnyH_take (i := 6) (v := ?_) (op_at (rest := _) rfl) (by kernel_rfl) (by kernel_rfl) (by kernel_rfl) (fun _ _ _ h => h) (Or.inl ⟨by rfl, ?_⟩) (by assumption) ?_
      rotate_left 1
      · (intro W hSw; (try dsimp only at hSw); go_simp; (try with_reducible rfl))
      try simp only [Act.put, List.setIfInBounds_toArray, List.set_cons_zero, List.set_cons_succ]
      refine wpAnyH_take (i := 7) (v := ?_) (op_at (rest := _) rfl) (by kernel_rfl) (by kernel_rfl) (by kernel_rfl) (fun _ _ _ h => h) (Or.inl ⟨by rfl, ?_⟩) (by assumption) ?_
      rotate_left 1
      · (intro W hSw; (try dsimp only at hSw); go_simp; (try with_reducible rfl))
      try simp only [Act.put, List.setIfInBounds_toArray, List.set_cons_zero, List.set_cons_succ]
      refine wpAnyH_take (i := 8) (v := ?_) (op_at (rest := _) rfl) (by kernel_rfl) (by kernel_rfl) (by kernel_rfl) (fun _ _ _ h => h) (Or.inl ⟨by rfl, ?_⟩) (by assumption) ?_
      rotate_left 1
      · (intro W hSw; (try dsimp only at hSw); go_simp; (try with_reducible rfl))
      try simp only [Act.put, List.setIfInBounds_toArray, List.set_cons_zero, List.set_cons_succ]
      refine wpAnyH_take (i := 9) (v := ?_) (op_at (rest := _) rfl) (by kernel_rfl) (by kernel_rfl) (by kernel_rfl) (fun _ _ _ h => h) (Or.inl ⟨by rfl, ?_⟩) (by assumption) ?_
      rotate_left 1
      · (intro W hSw; (try dsimp only at hSw); go_simp; (try with_reducible rfl))
      try simp only [Act.put, List.setIfInBounds_toArray, List.set_cons_zero, List.set_cons_succ]
      refine wpAnyH_take (i := 10) (v := ?_) (op_at (rest := _) rfl) (by kernel_rfl) (by kernel_rfl) (by kernel_rfl) (fun _ _ _ h => h) (Or.inl ⟨by rfl, ?_⟩) (by assumption) ?_
      rotate_left 1
      · (intro W hSw; (try dsimp only at hSw); go_simp; (try with_reducible rfl))
      try simp only [Act.put, List.setIfInBounds_toArray, List.set_cons_zero, List.set_cons_succ]
      refine wpAnyH_ready (rs := [5]) (by kernel_rfl) (by simp) ?_
      refine AllReadyH.cons (op_at (rest := _) rfl) (fun K hK => ?_) AllReadyH.nil
      go_simp
      refine (CA _ hHeld).out.mono ?_
      rintro e w3 ⟨v3, rfl, hr3, hb3⟩
      go_wp2_with fail
      refine hK.out _ _ ?_ (fun hHeld3 => ?_)
      · exact hHeld.trans (hb3.mono hHeld.size)
      clear hK K
      try simp only [Act.put, List.setIfInBounds_toArray, List.set_cons_zero, List.set_cons_succ]
      refine wpAnyH_ready (rs := [11]) (by kernel_rfl) (by simp) ?_
      refine AllReadyH.cons (op_at (rest := _) rfl) (fun K hK => ?_) AllReadyH.nil
      go_simp
      refine (CD _ hHeld3).out.mono ?_
      rintro e w4 ⟨v4, rfl, hp4, hb4⟩
      go_wp2_with fail
      have hb4' := hHeld3.trans (hb4.mono hHeld3.size)
      refine hK.out _ _ hb4' (fun _ => ?_)
      clear hK K
      try simp only [Act.put, List.setIfInBounds_toArray, List.set_cons_zero, List.set_cons_succ]
      refine wpAnyH_ready (rs := [12]) (by kernel_rfl) (by simp) ?_
      refine AllReadyH.cons (op_at (rest := _) rfl) (fun K hK => ?_) AllReadyH.nil
      refine step_append_prs w4 _ _ rfl rfl w2.drew.heap.size v3 _ _ rfl (ownsRow_below hr3 hb4) v4 _ rfl hp4 (by rw [hlt]; omega) hb4'.size ?_
      intro v5 w5 hr5 hg5
      have hb5 := hb4'.grown hg5 hb4'.size (fun j e => ownBlock_ge hr3 e)
      refine hK.out _ _ hb5 (fun _ => ?_)
      clear hK K
      try simp only [Act.put, List.setIfInBounds_toArray, List.set_cons_zero, List.set_cons_succ]
      refine wpAnyH_take (i := 13) (v := ?_) (op_at (rest := _) rfl) (by kernel_rfl) (by kernel_rfl) (by kernel_rfl) (fun _ _ _ h => h) (Or.inl ⟨by rfl, ?_⟩) (by assumption) ?_
      rotate_left 1
      · (intro W hSw; (try dsimp only at hSw); go_simp; (try with_reducible rfl))
      try simp only [Act.put, List.setIfInBounds_toArray, List.set_cons_zero, List.set_cons_succ]
      refine wpAnyH_done (by kernel_rfl) ?_ _
      refine NoPanic.normal ?_
      go_wp2_with fail
      go_ret
      exact ⟨_, rfl, by rw [HS.out]; exact RowP.mk (by simp; omega) hr5, bb2 (bb2 hb1 hb2) hb5⟩
    · have CD := fun W (hW : Below w.heap.size w W) => hide (drop_any n _ _ W hn ((pD hcap).below hW) okD hd)
      clear pD pE pT okD hd hm hlc hcm
      go_enter Tryz.func133, Tryz.ntmps133
      go_wp2_with fail
      refine (field_any _ _).mono ?_
      rintro e w1 ⟨rfl, hb1⟩
      go_wp2_with fail
      refine ((CP _ hb1).out).mono ?_
      rintro e w2 ⟨rfl, hb2⟩
      go_wp2_with fail
      replace CA := fun W (hW : Below w2.heap.size w2 W) => CA W (bb2 (bb2 hb1 hb2) hW)
      replace CD := fun W (hW : Below w2.heap.size w2 W) => CD W (bb2 (bb2 hb1 hb2) hW)
      refine wp_region_noPanic ?_
      refine wp_region_held_drew (S := fun W => Below w2.heap.size w2 W) (by kernel_rfl) ((Below.refl _ _).drew) (fun hHeld => ?_)
      refine wpAnyH_take (i := 0) (v := ?_) (op_at (rest := _) rfl) (by kernel_rfl) (by kernel_rfl) (by kernel_rfl) (fun _ _ _ h => h) (Or.inl ⟨by rfl, ?_⟩) (by assumption) ?_
      rotate_left 1
      · (intro W hSw; (try dsimp only at hSw); go_simp; (try with_reducible rfl))
      try simp only [Act.put, List.setIfInBounds_toArray, List.set_cons_zero, List.set_cons_succ]
      refine wpAnyH_take (i := 1) (v := ?_) (op_at (rest := _) rfl) (by kernel_rfl) (by kernel_rfl) (by kernel_rfl) (fun _ _ _ h => h) (Or.inl ⟨by rfl, ?_⟩) (by assumption) ?_
      rotate_left 1
      · (intro W hSw; (try dsimp only at hSw); go_simp; (try with_reducible rfl))
      try simp only [Act.put, List.setIfInBounds_toArray, List.set_cons_zero, List.set_cons_succ]
      refine wpAnyH_take (i := 2) (v := ?_) (op_at (rest := _) rfl) (by kernel_rfl) (by kernel_rfl) (by kernel_rfl) (fun _ _ _ h => h) (Or.inl ⟨by rfl, ?_⟩) (by assumption) ?_
      rotate_left 1
      · (intro W hSw; (try dsimp only at hSw); go_simp; (try with_reducible rfl))
      try simp only [Act.put, List.setIfInBounds_toArray, List.set_cons_zero, List.set_cons_succ]
      refine wpAnyH_take (i := 3) (v := ?_) (op_at (rest := _) rfl) (by kernel_rfl) (by kernel_rfl) (by kernel_rfl) (fun _ _ _ h => h) (Or.inl ⟨by rfl, ?_⟩) (by assumption) ?_
      rotate_left 1
      · (intro W hSw; (try dsimp only at hSw); go_simp; (try with_reducible rfl))
      try simp only [Act.put, List.setIfInBounds_toArray, List.set_cons_zero, List.set_cons_succ]
      refine wpAnyH_take (i := 4) (v := ?_) (op_at (rest := _) rfl) (by kernel_rfl) (by kernel_rfl) (by kernel_rfl) (fun _ _ _ h => h) (Or.inl ⟨by rfl, ?_⟩) (by assumption) ?_
      rotate_left 1
      · (intro W hSw; (try dsimp only at hSw); go_simp; (try with_reducible rfl))
      try simp only [Act.put, List.setIfInBounds_toArray, List.set_cons_zero, List.set_cons_succ]
      refine wpAnyH_take (i := 6) (v := ?_) (op_at (rest := _) rfl) (by kernel_rfl) (by kernel_rfl) (by kernel_rfl) (fun _ _ _ h => h) (Or.inl ⟨by rfl, ?_⟩) (by assumption) ?_
      rotate_left 1
      · (intro W hSw; (try dsimp only at hSw); go_simp; (try with_reducible rfl))
      try simp only [Act.put, List.setIfInBounds_toArray, List.set_cons_zero, List.set_cons_succ]
      refine wpAnyH_take (i := 7) (v := ?_) (op_at (rest := _) rfl) (by kernel_rfl) (by kernel_rfl) (by kernel_rfl) (fun _ _ _ h => h) (Or.inl ⟨by rfl, ?_⟩) (by assumption) ?_
      rotate_left 1
      · (intro W hSw; (try dsimp only at hSw); go_simp; (try with_reducible rfl))
      try simp only [Act.put, List.setIfInBounds_toArray, List.set_cons_zero, List.set_cons_succ]
      refine wpAnyH_take (i := 8) (v := ?_) (op_at (rest := _) rfl) (by kernel_rfl) (by kernel_rfl) (by kernel_rfl) (fun _ _ _ h => h) (Or.inl ⟨by rfl, ?_⟩) (by assumption) ?_
      rotate_left 1
      · (intro W hSw; (try dsimp only at hSw); go_simp; (try with_reducible rfl))
      try simp only [Act.put, List.setIfInBounds_toArray, List.set_cons_zero, List.set_cons_succ]
      refine wpAnyH_take (i := 9) (v := ?_) (op_at (rest := _) rfl) (by kernel_rfl) (by kernel_rfl) (by kernel_rfl) (fun _ _ _ h => h) (Or.inl ⟨by rfl, ?_⟩) (by assumption) ?_
      rotate_left 1
      · (intro W hSw; (try dsimp only at hSw); go_simp; (try with_reducible rfl))
      try simp only [Act.put, List.setIfInBounds_toArray, List.set_cons_zero, List.set_cons_succ]
      refine wpAnyH_take (i := 10) (v := ?_) (op_at (rest := _) rfl) (by kernel_rfl) (by kernel_rfl) (by kernel_rfl) (fun _ _ _ h => h) (Or.inl ⟨by rfl, ?_⟩) (by assumption) ?_
      rotate_left 1
      · (intro W hSw; (try dsimp only at hSw); go_simp; (try with_reducible rfl))
      try simp only [Act.put, List.setIfInBounds_toArray, List.set_cons_zero, List.set_cons_succ]
      refine wpAnyH_ready (rs := [5]) (by kernel_rfl) (by simp) ?_
      refine AllReadyH.cons (op_at (rest := _) rfl) (fun K hK => ?_) AllReadyH.nil
      go_simp
      refine (CA _ hHeld).out.mono ?_
      rintro e w3 ⟨v3, rfl, hr3, hb3⟩
      go_wp2_with fail
      refine hK.out _ _ ?_ (fun hHeld3 => ?_)
      · exact hHeld.trans (hb3.mono hHeld.size)
      clear hK K
      try simp only [Act.put, List.setIfInBounds_toArray, List.set_cons_zero, List.set_cons_succ]
      refine wpAnyH_ready (rs := [11]) (by kernel_rfl) (by simp) ?_
      refine AllReadyH.cons (op_at (rest := _) rfl) (fun K hK => ?_) AllReadyH.nil
      go_simp
      refine (CD _ hHeld3).out.mono ?_
      rintro e w4 ⟨v4, rfl, hp4, hb4⟩
      go_wp2_with fail
      have hb4' := hHeld3.trans (hb4.mono hHeld3.size)
      refine hK.out _ _ hb4' (fun _ => ?_)
      clear hK K
      try simp only [Act.put, List.setIfInBounds_toArray, List.set_cons_zero, List.set_cons_succ]
      refine wpAnyH_ready (rs := [12]) (by kernel_rfl) (by simp) ?_
      refine AllReadyH.cons (op_at (rest := _) rfl) (fun K hK => ?_) AllReadyH.nil
      refine step_append_prs w4 _ _ rfl rfl w2.drew.heap.size v3 _ _ rfl (ownsRow_below hr3 hb4) v4 _ rfl hp4 (by rw [hlt]; omega) hb4'.size ?_
      intro v5 w5 hr5 hg5
      have hb5 := hb4'.grown hg5 hb4'.size (fun j e => ownBlock_ge hr3 e)
      refine hK.out _ _ hb5 (fun _ => ?_)
      clear hK K
      try simp only [Act.put, List.setIfInBounds_toArray, List.set_cons_zero, List.set_cons_succ]
      refine wpAnyH_take (i := 13) (v := ?_) (op_at (rest := _) rfl) (by kernel_rfl) (by kernel_rfl) (by kernel_rfl) (fun _ _ _ h => h) (Or.inl ⟨by rfl, ?_⟩) (by assumption) ?_
      rotate_left 1
      · (intro W hSw; (try dsimp only at hSw); go_simp; (try with_reducible rfl))
      try simp only [Act.put, List.setIfInBounds_toArray, List.set_cons_zero, List.set_cons_succ]
      refine wpAnyH_done (by kernel_rfl) ?_ _
      refine NoPanic.normal ?_
      go_wp2_with fail
      go_ret
      exact ⟨_, rfl, by rw [HS.out]; exact RowP.mk (by simp; omega) hr5, bb2 (bb2 hb1 hb2) hb5⟩

theorem set_any (n x : ByteArray) (v : Value) (l : List PairB) (w : World) (hn : n.size ≤ maxLen) (hv : Prs w v l) (hok : ∀ p ∈ l, okP p) (hl : l.length ≤ 1000) :
    Calls Tryz.prog 133 #[v, .string n, .string x] w fun e w' => ∃ v', e = .returned v' ∧ Prs w' v' (setQ l n x) ∧ Below w.heap.size w w' :=
  (set_own n x v l w hn hv hok hl).mono fun _ _ ⟨v', he, hr, hb⟩ => ⟨v', he, hr.prs, hb⟩

end Go.Proofs.YtblmdcpcekoogaaGreatDoor
