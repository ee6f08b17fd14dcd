/-
  FilterOnce.
-/
import Derived.Test.YtfoabpkiaihkiaaDoorFiArg
import Derived.Test.YtfoabpkiaihkiaaDoorFiLawB
namespace Go.Proofs.YtfoabpkiaihkiaaDoor
set_option maxRecDepth 20000
open Go Go.RowKit Go.Shelf Fi

theorem grown_at {w w' : World} {row : Option Nat} {b : Nat} {o : Obj} (hg : w.grownBy w' row) (hne : some b ≠ row) (h : w.heap[b]? = some o) : w'.heap[b]? = some o :=
  (hg.block b (lt_blk h) hne).trans h
theorem ne_blk {n m : Nat} (h : n ≠ m) : (some n : Option Nat) ≠ some m := fun e => h (Option.some.inj e)
theorem Sl.mid {w : World} {g off n cap : Nat} {l : List FB} (h : Sl EF w (.slice (some ⟨g, off, none⟩) n cap) l) {k : Nat} (hk : k < l.length) : Sl EF w (.slice (some ⟨g, off + k * 8, none⟩) 1 (cap - k)) [l[k]] := by
  obtain ⟨a', cap', hv, h1, h2, hc⟩ := h
  injection hv with e1 e2 e3
  subst e1 e2 e3
  refine ⟨_, _, rfl, by simp; omega, by omega, fun i hi => ?_⟩
  obtain rfl : i = 0 := by simpa using hi
  obtain ⟨hA, g', off', he, hg, hat⟩ := hc k hk
  injection he with he
  injection he with he1 he2
  subst he1 he2
  refine ⟨trivial, _, _, rfl, hg, ?_⟩
  rw [Nat.zero_mul, Nat.add_zero]
  exact hat

set_option maxHeartbeats 12800000 in
theorem once_law (v0 : Value) (n1 : Int) (w : World) (h0 : ArgFs w v0) (h1 : (Lit.int .u8 n1).wf = true) :
    Calls Tryd.prog 7 #[v0, .int .u8 n1] w fun e w' => e = .returned (.bool true) ∧ Below w.heap.size w w' := by
  obtain ⟨c, rfl⟩ := u8_lit h1
  clear h1
  have hc255 : c.toNat < 256 := c.toNat_lt
  obtain ⟨l0, hat0, raw0⟩ := h0
  have CN := fun W => hide (fall_any (.slice none 0 0) [] W (Sl.nil W) (fun f hf => by cases hf))
  rw [all_nil] at CN
  go_enter Tryd.func7, Tryd.ntmps7
  go_wp2_with fail
  refine (ffew_any v0 l0 w hat0 raw0).mono ?_
  rintro e w1 ⟨u1, rfl, row1, hb1⟩
  have ok1 := someF_ok l0
  have len1 := someF_len l0
  generalize someF l0 = L at *
  have mt := Sl.of_row (E := EF) rfl row1 (fun _ _ => trivial)
  clear row1 hat0 raw0
  have HM := hide mt
  have hlen := mt.len
  obtain ⟨ad, cap, rfl, hle1, hle2, hc⟩ := mt
  have HC := hide hc
  clear hc
  by_cases hz : L.length = 0
  · have hz' : ((L.length : Int) == 0) = true := by rw [beq_iff_eq]; omega
    clear hz
    go_wp2_with fail
    refine ((CN _).out).mono ?_
    rintro e w2 ⟨rfl, hb2⟩
    go_wp2_with fail
    refine (fawake_any _).mono ?_
    rintro e w3 ⟨rfl, hb3⟩
    go_wp2_with fail
    go_ret
    exact ⟨rfl, bb2 (bb2 hb1 hb2) hb3⟩
  have hz' : ((L.length : Int) == 0) = false := by rw [beq_eq_false_iff_ne]; omega
  have CA := hide (fall_any (.slice ad L.length cap) L w1 HM.out ok1)
  cases ha : allF L
  · rw [ha] at CA
    go_wp2_with fail
    refine (CA.out).mono ?_
    rintro e w2 ⟨rfl, hb2⟩
    go_wp2_with fail
    refine ((CN _).out).mono ?_
    rintro e w3 ⟨rfl, hb3⟩
    go_wp2_with fail
    refine (fawake_any _).mono ?_
    rintro e w4 ⟨rfl, hb4⟩
    go_wp2_with fail
    go_ret
    exact ⟨rfl, bb2 (bb2 (bb2 hb1 hb2) hb3) hb4⟩
  rw [ha] at CA
  have hpos : 0 < L.length := by omega
  have hpos' : (0 : Int) < (L.length : Int) := by omega
  have hz2 : ¬ (L.length : Int) = 0 := by omega
  have hkl : c.toNat % L.length < L.length := Nat.mod_lt _ hpos
  have HREM : Hid (((c.toNat : Int) % (L.length : Int)) = ((c.toNat % L.length : Nat) : Int)) := by unfold Hid; omega
  clear CN hz
  generalize hkk : c.toNat % L.length = k at *
  clear hkk
  obtain ⟨_, g, off, rfl, hg, _⟩ := HC.out 0 hpos
  have hk1 : (k : Int) < (L.length : Int) := by omega
  have hk2 : (k : Int) ≤ (L.length : Int) := by omega
  have hcapi : (L.length : Int) ≤ (cap : Int) := by omega
  have hkc : k ≤ cap := by omega
  have hck : ¬ cap = k := by omega
  have hwr : IntKind.i64.wrap ((k : Int) + 1) = ((k + 1 : Nat) : Int) := by rw [IntKind.wrap_i64]; unfold maxLen at hle2; omega
  have hk3 : (k : Int) + 1 ≤ (L.length : Int) := by omega
  have hk3' : ((k + 1 : Nat) : Int) ≤ (L.length : Int) := by omega
  have A1 := hide (may_one ha (List.getElem_mem hkl))
  have A2 := hide (all_one ha hkl)
  have A3 := hide (all_turned ha k)
  have A4 := hide (all_less ha k)
  have A5 := hide (all_twice hkl)
  have okT : ∀ f ∈ L.drop k ++ L.take k, OkFi f := fun f hf => by
    rcases List.mem_append.1 hf with h | h
    · exact ok1 f (List.mem_of_mem_drop h)
    · exact ok1 f (List.mem_of_mem_take h)
  have okL : ∀ f ∈ L.take k ++ L.drop (k + 1), OkFi f := fun f hf => by
    rcases List.mem_append.1 hf with h | h
    · exact ok1 f (List.mem_of_mem_take h)
    · exact ok1 f (List.mem_of_mem_drop h)
  have okD : ∀ f ∈ L ++ [L[k]], OkFi f := fun f hf => by
    rcases List.mem_append.1 hf with h | h
    · exact ok1 f h
    · obtain rfl : f = L[k] := by simpa using h
      exact ok1 _ (List.getElem_mem hkl)
  have okk := ok1 _ (List.getElem_mem hkl)
  clear ha
  go_wp2_with fail
  refine CA.out.mono ?_
  rintro e w2 ⟨rfl, hb2⟩
  go_wp2_with fail
  rw [HREM.out]
  clear HREM CA
  have mt2 := HM.out.below hb2
  have sufT : Sl EF w2 (.slice (some ⟨g, off + k * 8, none⟩) (L.length - k) (cap - k)) (L.drop k) := by
    have := mt2.suf (k := k) (by omega)
    rw [if_neg hck] at this
    exact this
  have preT : Sl EF w2 (.slice (some ⟨g, off, none⟩) k cap) (L.take k) := mt2.pre (by omega)
  have oneS := mt2.mid hkl
  have EL := EF_at (show EF.At w2 g (off + k * 8) L[k] from by
    obtain ⟨_, g', off', he, hg', hat⟩ := HC.out k hkl
    injection he with he
    injection he with he1 he2
    subst he1 he2
    exact fun j u hu => (hb2.cell (p := ⟨g, off + k * 8 + j, none⟩) hg').trans (hat j u hu))
  have hg2 : g < w2.heap.size := Nat.lt_of_lt_of_le hg hb2.size
  have HL1 : Hid (L[k] = L[k]) := rfl
  have HSW : Hid (∀ W, Below w2.heap.size w2 W → ∀ i u, w2.cell? ⟨g, i, none⟩ = some u → W.cell? ⟨g, i, none⟩ = some u) := fun W h i u hu => (h.cell (p := ⟨g, i, none⟩) hg2).trans hu
  clear HL1 HC
  generalize L[k] = fk at *
  obtain ⟨k0, n0, v0, h0, p0, t0, b0, z0⟩ := fk
  dsimp only at EL
  obtain ⟨c0, c1, c2, c3, c4, c5, c6, c7⟩ := EL
  go_wp2_with fail
  refine wp_region_noPanic ?_
  refine wp_region_held_drew (S := fun W => Below (w2).heap.size (w2) W) (by kernel_rfl) ((Below.refl _ _).drew) (fun hHeld => ?_)
  refine wpAnyH_take (i := 1) (v := ?_) (op_at (rest := _) rfl) (by kernel_rfl) (by kernel_rfl) (by kernel_rfl) (fun _ _ _ h => h) (Or.inl ⟨by rfl, ?_⟩) (by assumption) ?_
  rotate_left 1
  · (intro W hSw; (try dsimp only at hSw); go_simp; (try with_reducible rfl))
  try simp only [Act.put, List.setIfInBounds_toArray, List.set_cons_zero, List.set_cons_succ]
  refine wpAnyH_take (i := 2) (v := ?_) (op_at (rest := _) rfl) (by kernel_rfl) (by kernel_rfl) (by kernel_rfl) (fun _ _ _ h => h) (Or.inl ⟨by rfl, ?_⟩) (by assumption) ?_
  rotate_left 1
  · (intro W hSw; (try dsimp only at hSw); go_simp; (try with_reducible rfl))
  try simp only [Act.put, List.setIfInBounds_toArray, List.set_cons_zero, List.set_cons_succ]
  refine wpAnyH_take (i := 3) (v := ?_) (op_at (rest := _) rfl) (by kernel_rfl) (by kernel_rfl) (by kernel_rfl) (fun _ _ _ h => h) (Or.inl ⟨by rfl, ?_⟩) (by assumption) ?_
  rotate_left 1
  · (intro W hSw; (try dsimp only at hSw); go_simp; (try with_reducible rfl))
  try simp only [Act.put, List.setIfInBounds_toArray, List.set_cons_zero, List.set_cons_succ]
  refine wpAnyH_take (i := 5) (v := ?_) (op_at (rest := _) rfl) (by kernel_rfl) (by kernel_rfl) (by kernel_rfl) (fun _ _ _ h => h) (Or.inl ⟨by rfl, ?_⟩) (by assumption) ?_
  rotate_left 1
  · (intro W hSw; (try dsimp only at hSw); go_simp; (try with_reducible rfl))
  try simp only [Act.put, List.setIfInBounds_toArray, List.set_cons_zero, List.set_cons_succ]
  refine wpAnyH_take (i := 6) (v := ?_) (op_at (rest := _) rfl) (by kernel_rfl) (by kernel_rfl) (by kernel_rfl) (fun _ _ _ h => h) (Or.inl ⟨by rfl, ?_⟩) (by assumption) ?_
  rotate_left 1
  · (intro W hSw; (try dsimp only at hSw); go_simp; (try with_reducible rfl))
  try simp only [Act.put, List.setIfInBounds_toArray, List.set_cons_zero, List.set_cons_succ]
  refine wpAnyH_take (i := 7) (v := ?_) (op_at (rest := _) rfl) (by kernel_rfl) (by kernel_rfl) (by kernel_rfl) (fun _ _ _ h => h) (Or.inl ⟨by rfl, ?_⟩) (by assumption) ?_
  rotate_left 1
  · (intro W hSw; (try dsimp only at hSw); go_simp; (try with_reducible rfl))
  try simp only [Act.put, List.setIfInBounds_toArray, List.set_cons_zero, List.set_cons_succ]
  refine wpAnyH_ready (rs := [0]) (by kernel_rfl) (by simp) ?_
  refine AllReadyH.cons (op_at (rest := _) rfl) (fun K hK => ?_) AllReadyH.nil
  go_simp
  refine hK.out _ _ (hHeld.alloc hHeld.size _) (fun hA => ?_)
  clear hK K
  try simp only [Act.put, List.setIfInBounds_toArray, List.set_cons_zero, List.set_cons_succ]
  refine wpAnyH_ready (rs := [4]) (by kernel_rfl) (by simp) ?_
  refine AllReadyH.cons (op_at (rest := _) rfl) (fun K hK => ?_) AllReadyH.nil
  refine step_append_sl (E := EF) 22 26 _ 96 Tryd.underlying22 Tryd.infoFil rfl (by decide) _ _ _ rfl rfl w2.heap.size _ 0 [] rfl (owns_emptyT 26 8 w2.drew _ rfl) _ _ rfl (sufT.below hA) (by simp; omega) (by first | exact hA.size | exact Nat.le_trans (by simp) g12.size | (simp; try omega)) ?_
  intro v4 w4 r4 g4
  have H4 := hA.grown g4 hA.size (fun j e => by first | exact ownBlock_ge (owns_emptyT 26 8 w2.drew _ rfl) e | exact Nat.le_of_succ_le (ownBlock_ge (owns_emptyT 26 8 w2.drew _ rfl) e))
  refine hK.out _ _ H4 (fun _ => ?_)
  clear hK K
  try simp only [Act.put, List.setIfInBounds_toArray, List.set_cons_zero, List.set_cons_succ]
  refine wpAnyH_ready (rs := [8]) (by kernel_rfl) (by simp) ?_
  refine AllReadyH.cons (op_at (rest := _) rfl) (fun K hK => ?_) AllReadyH.nil
  refine step_append_sl (E := EF) 22 26 _ 96 Tryd.underlying22 Tryd.infoFil rfl (by decide) _ _ _ rfl rfl w2.heap.size _ _ _ rfl (r4) _ _ rfl (preT.below H4) (by simp; omega) (by first | exact H4.size | exact Nat.le_trans (by simp) g12.size | (simp; try omega)) ?_
  intro v8 w8 r8 g8
  have H8 := H4.grown g8 H4.size (fun j e => by first | exact ownBlock_ge (r4) e | exact Nat.le_of_succ_le (ownBlock_ge (r4) e))
  refine hK.out _ _ H8 (fun _ => ?_)
  clear hK K
  try simp only [Act.put, List.setIfInBounds_toArray, List.set_cons_zero, List.set_cons_succ]
  refine wpAnyH_take (i := 9) (v := ?_) (op_at (rest := _) rfl) (by kernel_rfl) (by kernel_rfl) (by kernel_rfl) (fun _ _ _ h => h) (Or.inl ⟨by rfl, ?_⟩) (by assumption) ?_
  rotate_left 1
  · (intro W hSw; (try dsimp only at hSw); go_simp; (try with_reducible rfl))
  try simp only [Act.put, List.setIfInBounds_toArray, List.set_cons_zero, List.set_cons_succ]
  refine wpAnyH_done (by kernel_rfl) ?_ _
  refine NoPanic.normal ?_
  have mtT : Sl EF w8 v8 (L.drop k ++ L.take k) := Sl.of_row (by simp) r8 (fun _ _ => trivial)
  have B8 : Below w2.heap.size w2 w8 := H8
  clear hA H4 H8 r4 r8 g4 g8 hHeld sufT preT
  have mt8 := mt2.below B8
  have preL : Sl EF w8 (.slice (some ⟨g, off, none⟩) k cap) (L.take k) := mt8.pre (by omega)
  have preA : Sl EF w8 (.slice (some ⟨g, off, none⟩) L.length cap) L := mt8
  have hm0 : (0 : Int) ≤ ((k + 1 : Nat) : Int) := by omega
  have hkcI : (k : Int) ≤ (cap : Int) := by omega
  have hmcI : ((k + 1 : Nat) : Int) ≤ (cap : Int) := by omega
  have hkm : (k : Int) ≤ ((k + 1 : Nat) : Int) := by omega
  have hml : k + 1 ≤ L.length := by omega
  have HMK : Hid (k + 1 - k = 1) := by unfold Hid; omega
  have hmc : ¬ k + 1 = k := by omega
  clear hk3
  generalize hm : k + 1 = m at *
  clear hm
  rcases Classical.em (cap = m) with hcap | hcap
  · have sufL : Sl EF w8 (.slice (some ⟨g, off, none⟩) 0 0) (L.drop m) := by
      have := mt8.suf (k := m) (by omega)
      rw [if_pos hcap, hcap, Nat.sub_self, show L.length - m = 0 by omega] at this
      exact this
    subst hcap
    clear mt8
    go_wp2_with fail
    refine wp_region_noPanic ?_
    refine wp_region_held_drew (S := fun W => Below (w8).heap.size (w8) W) (by kernel_rfl) ((Below.refl _ _).drew) (fun hHeld => ?_)
    refine wpAnyH_take (i := 1) (v := ?_) (op_at (rest := _) rfl) (by kernel_rfl) (by kernel_rfl) (by kernel_rfl) (fun _ _ _ h => h) (Or.inl ⟨by rfl, ?_⟩) (by assumption) ?_
    rotate_left 1
    · (intro W hSw; (try dsimp only at hSw); go_simp; (try with_reducible rfl))
    try simp only [Act.put, List.setIfInBounds_toArray, List.set_cons_zero, List.set_cons_succ]
    refine wpAnyH_take (i := 2) (v := ?_) (op_at (rest := _) rfl) (by kernel_rfl) (by kernel_rfl) (by kernel_rfl) (fun _ _ _ h => h) (Or.inl ⟨by rfl, ?_⟩) (by assumption) ?_
    rotate_left 1
    · (intro W hSw; (try dsimp only at hSw); go_simp; (try with_reducible rfl))
    try simp only [Act.put, List.setIfInBounds_toArray, List.set_cons_zero, List.set_cons_succ]
    refine wpAnyH_take (i := 3) (v := ?_) (op_at (rest := _) rfl) (by kernel_rfl) (by kernel_rfl) (by kernel_rfl) (fun _ _ _ h => h) (Or.inl ⟨by rfl, ?_⟩) (by assumption) ?_
    rotate_left 1
    · (intro W hSw; (try dsimp only at hSw); go_simp; (try with_reducible rfl))
    try simp only [Act.put, List.setIfInBounds_toArray, List.set_cons_zero, List.set_cons_succ]
    refine wpAnyH_take (i := 5) (v := ?_) (op_at (rest := _) rfl) (by kernel_rfl) (by kernel_rfl) (by kernel_rfl) (fun _ _ _ h => h) (Or.inl ⟨by rfl, ?_⟩) (by assumption) ?_
    rotate_left 1
    · (intro W hSw; (try dsimp only at hSw); go_simp; (try with_reducible rfl))
    try simp only [Act.put, List.setIfInBounds_toArray, List.set_cons_zero, List.set_cons_succ]
    refine wpAnyH_take (i := 6) (v := ?_) (op_at (rest := _) rfl) (by kernel_rfl) (by kernel_rfl) (by kernel_rfl) (fun _ _ _ h => h) (Or.inl ⟨by rfl, ?_⟩) (by assumption) ?_
    rotate_left 1
    · (intro W hSw; (try dsimp only at hSw); go_simp; (try with_reducible rfl))
    try simp only [Act.put, List.setIfInBounds_toArray, List.set_cons_zero, List.set_cons_succ]
    refine wpAnyH_take (i := 7) (v := ?_) (op_at (rest := _) rfl) (by kernel_rfl) (by kernel_rfl) (by kernel_rfl) (fun _ _ _ h => h) (Or.inl ⟨by rfl, ?_⟩) (by assumption) ?_
    rotate_left 1
    · (intro W hSw; (try dsimp only at hSw); go_simp; (try with_reducible rfl))
    try simp only [Act.put, List.setIfInBounds_toArray, List.set_cons_zero, List.set_cons_succ]
    refine wpAnyH_take (i := 8) (v := ?_) (op_at (rest := _) rfl) (by kernel_rfl) (by kernel_rfl) (by kernel_rfl) (fun _ _ _ h => h) (Or.inl ⟨by rfl, ?_⟩) (by assumption) ?_
    rotate_left 1
    · (intro W hSw; (try dsimp only at hSw); go_simp; (try with_reducible rfl))
    try simp only [Act.put, List.setIfInBounds_toArray, List.set_cons_zero, List.set_cons_succ]
    refine wpAnyH_ready (rs := [0]) (by kernel_rfl) (by simp) ?_
    refine AllReadyH.cons (op_at (rest := _) rfl) (fun K hK => ?_) AllReadyH.nil
    go_simp
    refine hK.out _ _ (hHeld.alloc hHeld.size _) (fun hA => ?_)
    clear hK K
    try simp only [Act.put, List.setIfInBounds_toArray, List.set_cons_zero, List.set_cons_succ]
    refine wpAnyH_ready (rs := [4]) (by kernel_rfl) (by simp) ?_
    refine AllReadyH.cons (op_at (rest := _) rfl) (fun K hK => ?_) AllReadyH.nil
    refine step_append_sl (E := EF) 22 26 _ 96 Tryd.underlying22 Tryd.infoFil rfl (by decide) _ _ _ rfl rfl w8.heap.size _ 0 [] rfl (owns_emptyT 26 8 w8.drew _ rfl) _ _ rfl (preL.below hA) (by simp; omega) (by first | exact hA.size | exact Nat.le_trans (by simp) g12.size | (simp; try omega)) ?_
    intro v4 w4 r4 g4
    have H4 := hA.grown g4 hA.size (fun j e => by first | exact ownBlock_ge (owns_emptyT 26 8 w8.drew _ rfl) e | exact Nat.le_of_succ_le (ownBlock_ge (owns_emptyT 26 8 w8.drew _ rfl) e))
    refine hK.out _ _ H4 (fun _ => ?_)
    clear hK K
    try simp only [Act.put, List.setIfInBounds_toArray, List.set_cons_zero, List.set_cons_succ]
    refine wpAnyH_ready (rs := [9]) (by kernel_rfl) (by simp) ?_
    refine AllReadyH.cons (op_at (rest := _) rfl) (fun K hK => ?_) AllReadyH.nil
    refine step_append_sl (E := EF) 22 26 _ 96 Tryd.underlying22 Tryd.infoFil rfl (by decide) _ _ _ rfl rfl w8.heap.size _ _ _ rfl (r4) _ _ rfl (sufL.below H4) (by simp; omega) (by first | exact H4.size | exact Nat.le_trans (by simp) g12.size | (simp; try omega)) ?_
    intro v9 w9 r9 g9
    have H9 := H4.grown g9 H4.size (fun j e => by first | exact ownBlock_ge (r4) e | exact Nat.le_of_succ_le (ownBlock_ge (r4) e))
    refine hK.out _ _ H9 (fun _ => ?_)
    clear hK K
    try simp only [Act.put, List.setIfInBounds_toArray, List.set_cons_zero, List.set_cons_succ]
    refine wpAnyH_take (i := 10) (v := ?_) (op_at (rest := _) rfl) (by kernel_rfl) (by kernel_rfl) (by kernel_rfl) (fun _ _ _ h => h) (Or.inl ⟨by rfl, ?_⟩) (by assumption) ?_
    rotate_left 1
    · (intro W hSw; (try dsimp only at hSw); go_simp; (try with_reducible rfl))
    try simp only [Act.put, List.setIfInBounds_toArray, List.set_cons_zero, List.set_cons_succ]
    refine wpAnyH_done (by kernel_rfl) ?_ _
    refine NoPanic.normal ?_
    have mtL : Sl EF w9 v9 (L.take k ++ L.drop _) := Sl.of_row (by simp) r9 (fun _ _ => trivial)
    have H89 : Below w8.heap.size w8 w9 := H9
    have B9 := bb2 B8 H89
    have pre9 := preA.below H89
    have HS9 : Hid (∀ W, Below w9.heap.size w9 W → Below w2.heap.size w2 W) := fun W h => bb2 B9 h
    clear hA H4 H9 r4 r9 g4 g9 hHeld sufL preL
    go_wp2_with fail
    refine wp_region_noPanic ?_
    refine wp_region_held_drew (S := fun W => Below (w9).heap.size (w9) W) (by kernel_rfl) ((Below.refl _ _).drew) (fun hHeld => ?_)
    refine wpAnyH_take (i := 1) (v := ?_) (op_at (rest := _) rfl) (by kernel_rfl) (by kernel_rfl) (by kernel_rfl) (fun _ _ _ h => h) (Or.inl ⟨by rfl, ?_⟩) (by assumption) ?_
    rotate_left 1
    · (intro W hSw; (try dsimp only at hSw); go_simp; (try with_reducible rfl))
    try simp only [Act.put, List.setIfInBounds_toArray, List.set_cons_zero, List.set_cons_succ]
    refine wpAnyH_take (i := 3) (v := ?_) (op_at (rest := _) rfl) (by kernel_rfl) (by kernel_rfl) (by kernel_rfl) (fun _ _ _ h => h) (Or.inl ⟨by rfl, ?_⟩) (by assumption) ?_
    rotate_left 1
    · (intro W hSw; (try dsimp only at hSw); go_simp; (try with_reducible rfl))
    try simp only [Act.put, List.setIfInBounds_toArray, List.set_cons_zero, List.set_cons_succ]
    refine wpAnyH_take (i := 4) (v := ?_) (op_at (rest := _) rfl) (by kernel_rfl) (by kernel_rfl) (by kernel_rfl) (fun _ _ _ h => h) (Or.inl ⟨by rfl, ?_⟩) (by assumption) ?_
    rotate_left 1
    · (intro W hSw; (try dsimp only at hSw); go_simp; (try with_reducible rfl))
    try simp only [Act.put, List.setIfInBounds_toArray, List.set_cons_zero, List.set_cons_succ]
    refine wpAnyH_take (i := 5) (v := ?_) (op_at (rest := _) rfl) (by kernel_rfl) (by kernel_rfl) (by kernel_rfl) (fun _ _ _ h => h) (Or.inl ⟨by rfl, ?_⟩) (by assumption) ?_
    rotate_left 1
    · (intro W hSw; (try dsimp only at hSw); go_simp; (try with_reducible rfl))
    try simp only [Act.put, List.setIfInBounds_toArray, List.set_cons_zero, List.set_cons_succ]
    refine wpAnyH_take (i := 6) (v := ?_) (op_at (rest := _) rfl) (by kernel_rfl) (by kernel_rfl) (by kernel_rfl) (fun _ _ _ h => h) (Or.inl ⟨by rfl, ?_⟩) (by assumption) ?_
    rotate_left 1
    · (intro W hSw; (try dsimp only at hSw); have x0 := HSW.out W (HS9.out W hSw) _ _ c0; have x1 := HSW.out W (HS9.out W hSw) _ _ c1; have x2 := HSW.out W (HS9.out W hSw) _ _ c2; have x3 := HSW.out W (HS9.out W hSw) _ _ c3; have x4 := HSW.out W (HS9.out W hSw) _ _ c4; have x5 := HSW.out W (HS9.out W hSw) _ _ c5; have x6 := HSW.out W (HS9.out W hSw) _ _ c6; have x7 := HSW.out W (HS9.out W hSw) _ _ c7; go_simp; (try with_reducible rfl))
    try simp only [Act.put, List.setIfInBounds_toArray, List.set_cons_zero, List.set_cons_succ]
    refine wpAnyH_ready (rs := [0, 7]) (by kernel_rfl) (by simp) ?_
    refine AllReadyH.cons (op_at (rest := _) rfl) (fun K hK => ?_) (AllReadyH.cons (op_at (rest := _) rfl) (fun K hK => ?_) AllReadyH.nil)
    · go_simp
      refine hK.out _ _ (hHeld.alloc hHeld.size _) (fun hA => ?_)
      clear hK K
      try simp only [Act.put, List.setIfInBounds_toArray, List.set_cons_zero, List.set_cons_succ]
      refine wpAnyH_ready (rs := [2, 7]) (by kernel_rfl) (by simp) ?_
      refine AllReadyH.cons (op_at (rest := _) rfl) (fun K hK => ?_) (AllReadyH.cons (op_at (rest := _) rfl) (fun K hK => ?_) AllReadyH.nil)
      · refine step_append_sl (E := EF) 22 26 _ 96 Tryd.underlying22 Tryd.infoFil rfl (by decide) _ _ _ rfl rfl w9.heap.size _ 0 [] rfl (owns_emptyT 26 8 w9.drew _ rfl) _ _ rfl (pre9.below hA) (by simp; omega) (by first | exact hA.size | exact Nat.le_trans (by simp) g12.size | (simp; try omega)) ?_
        intro v12 w12 r12 g12
        have H12 := hA.grown g12 hA.size (fun j e => by first | exact ownBlock_ge (owns_emptyT 26 8 w9.drew _ rfl) e | exact Nat.le_of_succ_le (ownBlock_ge (owns_emptyT 26 8 w9.drew _ rfl) e))
        refine hK.out _ _ H12 (fun _ => ?_)
        clear hK K
        try simp only [Act.put, List.setIfInBounds_toArray, List.set_cons_zero, List.set_cons_succ]
        refine wpAnyH_ready (rs := [7]) (by kernel_rfl) (by simp) ?_
        refine AllReadyH.cons (op_at (rest := _) rfl) (fun K hK => ?_) AllReadyH.nil
        go_simp
        refine hK.out _ _ (H12.alloc H12.size _) (fun hC => ?_)
        clear hK K
        try simp only [Act.put, List.setIfInBounds_toArray, List.set_cons_zero, List.set_cons_succ]
        have kb := alloc_new w12 (.cells #[.int .i64 k0, .string n0, .string v0, .string h0, .int .i64 p0, .string t0, .bool b0, .int .i64 z0] 26)
        refine wpAnyH_ready (rs := [8]) (by kernel_rfl) (by simp) ?_
        refine AllReadyH.cons (op_at (rest := _) rfl) (fun K hK => ?_) AllReadyH.nil
        refine step_append_sl (E := EF) 22 26 _ 96 Tryd.underlying22 Tryd.infoFil rfl (by decide) _ _ _ rfl rfl w9.heap.size _ _ _ rfl (ownsRow_below r12 ((Below.refl _ w12).alloc (Nat.le_refl _) (.cells #[.int .i64 k0, .string n0, .string v0, .string h0, .int .i64 p0, .string t0, .bool b0, .int .i64 z0] 26))) _ _ rfl (Sl.one (f := ⟨k0, n0, v0, h0, p0, t0, b0, z0⟩) (kb)) (by simp; omega) (by first | exact hC.size | exact Nat.le_trans (by simp) g12.size | (simp; try omega)) ?_
        intro v13 w13 r13 g13
        have H13 := hC.grown g13 hC.size (fun j e => by first | exact ownBlock_ge (ownsRow_below r12 ((Below.refl _ w12).alloc (Nat.le_refl _) (.cells #[.int .i64 k0, .string n0, .string v0, .string h0, .int .i64 p0, .string t0, .bool b0, .int .i64 z0] 26))) e | exact Nat.le_of_succ_le (ownBlock_ge (ownsRow_below r12 ((Below.refl _ w12).alloc (Nat.le_refl _) (.cells #[.int .i64 k0, .string n0, .string v0, .string h0, .int .i64 p0, .string t0, .bool b0, .int .i64 z0] 26))) e))
        refine hK.out _ _ H13 (fun _ => ?_)
        clear hK K
        try simp only [Act.put, List.setIfInBounds_toArray, List.set_cons_zero, List.set_cons_succ]
        refine wpAnyH_take (i := 9) (v := ?_) (op_at (rest := _) rfl) (by kernel_rfl) (by kernel_rfl) (by kernel_rfl) (fun _ _ _ h => h) (Or.inl ⟨by rfl, ?_⟩) (by assumption) ?_
        rotate_left 1
        · (intro W hSw; (try dsimp only at hSw); go_simp; (try with_reducible rfl))
        try simp only [Act.put, List.setIfInBounds_toArray, List.set_cons_zero, List.set_cons_succ]
        refine wpAnyH_done (by kernel_rfl) ?_ _
        refine NoPanic.normal ?_
        have hZ : Below w9.heap.size w9 w13 := H13
        have mtD : Sl EF w13 v13 (L ++ [⟨k0, n0, v0, h0, p0, t0, b0, z0⟩]) := Sl.of_row (by simp) r13 (fun _ _ => trivial)
        have B13 := bb2 B9 hZ
        have E1 := fun W => hide (fmay_any ⟨k0, n0, v0, h0, p0, t0, b0, z0⟩ W okk)
        have oneM : Sl EF w2 (.slice (some ⟨g, off + k * 8, none⟩) (cap - k) (cap - k)) [⟨k0, n0, v0, h0, p0, t0, b0, z0⟩] := by
          obtain ⟨a1, c1, e1, q1, q2, q3⟩ := oneS
          injection e1 with e1 e2 e3
          subst e1 e3
          exact ⟨_, _, congrArg (fun z => Value.slice (some ⟨g, off + k * 8, none⟩) z (cap - k)) HMK.out, q1, q2, q3⟩
        have E2 := fun W (h : Below w13.heap.size w13 W) => hide (fall_any (.slice (some ⟨g, off + k * 8, none⟩) (cap - k) (cap - k)) [⟨k0, n0, v0, h0, p0, t0, b0, z0⟩] W (oneM.below (bb2 B13 h)) (fun f hf => (List.mem_singleton.1 hf) ▸ okk))
        have E3 := fun W (h : Below w13.heap.size w13 W) => hide (fall_any v8 _ W (mtT.below (bb2 H89 (bb2 hZ h))) okT)
        have E4 := fun W (h : Below w13.heap.size w13 W) => hide (fall_any v9 _ W (mtL.below (bb2 hZ h)) okL)
        have E5 := fun W (h : Below w13.heap.size w13 W) => hide (fall_any v13 _ W (mtD.below h) okD)
        rw [A1.out] at E1
        rw [A2.out] at E2
        rw [A3.out] at E3
        rw [A4.out] at E4
        rw [A5.out] at E5
        have y0 := HSW.out w13 (HS9.out w13 hZ) _ _ c0
        have y1 := HSW.out w13 (HS9.out w13 hZ) _ _ c1
        have y2 := HSW.out w13 (HS9.out w13 hZ) _ _ c2
        have y3 := HSW.out w13 (HS9.out w13 hZ) _ _ c3
        have y4 := HSW.out w13 (HS9.out w13 hZ) _ _ c4
        have y5 := HSW.out w13 (HS9.out w13 hZ) _ _ c5
        have y6 := HSW.out w13 (HS9.out w13 hZ) _ _ c6
        have y7 := HSW.out w13 (HS9.out w13 hZ) _ _ c7
        have BZ := bb2 (bb2 hb1 hb2) B13
        have HBZ := hide BZ
        clear mtD mtT mtL r13 g13 H13 hHeld HSW HS9 ok1 okT okL okD okk HM preA pre9 oneS oneM HMK BZ B13 hZ B9 B8 H89 A1 A2 A3 A4 A5 c0 c1 c2 c3 c4 c5 c6 c7 mt2 hb1 hb2
        go_wp2_with fail
        refine ((E1 _).out).mono ?_
        rintro e w20 ⟨rfl, hb20⟩
        go_wp2_with fail
        refine ((E2 _ hb20).out).mono ?_
        rintro e w21 ⟨rfl, hb21⟩
        go_wp2_with fail
        refine ((E3 _ (bb2 hb20 hb21)).out).mono ?_
        rintro e w22 ⟨rfl, hb22⟩
        go_wp2_with fail
        refine ((E4 _ (bb2 (bb2 hb20 hb21) hb22)).out).mono ?_
        rintro e w23 ⟨rfl, hb23⟩
        go_wp2_with fail
        refine ((E5 _ (bb2 (bb2 (bb2 hb20 hb21) hb22) hb23)).out).mono ?_
        rintro e w24 ⟨rfl, hb24⟩
        go_wp2_with fail
        refine (fawake_any _).mono ?_
        rintro e w25 ⟨rfl, hb25⟩
        go_wp2_with fail
        go_ret
        exact ⟨rfl, bb2 HBZ.out (bb2 (bb2 (bb2 (bb2 (bb2 hb20 hb21) hb22) hb23) hb24) hb25)⟩
      · go_simp
        refine hK.out _ _ (hA.alloc hA.size _) (fun hC => ?_)
        clear hK K
        try simp only [Act.put, List.setIfInBounds_toArray, List.set_cons_zero, List.set_cons_succ]
        have kb : ((w9.drew.alloc (.cells #[] 26)).alloc (.cells #[.int .i64 k0, .string n0, .string v0, .string h0, .int .i64 p0, .string t0, .bool b0, .int .i64 z0] 26)).heap[w9.heap.size + 1]? = some (.cells #[.int .i64 k0, .string n0, .string v0, .string h0, .int .i64 p0, .string t0, .bool b0, .int .i64 z0] 26) := by
          have := alloc_new (w9.drew.alloc (.cells #[] 26)) (.cells #[.int .i64 k0, .string n0, .string v0, .string h0, .int .i64 p0, .string t0, .bool b0, .int .i64 z0] 26)
          rw [World.size_alloc] at this
          exact this
        refine wpAnyH_ready (rs := [2]) (by kernel_rfl) (by simp) ?_
        refine AllReadyH.cons (op_at (rest := _) rfl) (fun K hK => ?_) AllReadyH.nil
        refine step_append_sl (E := EF) 22 26 _ 96 Tryd.underlying22 Tryd.infoFil rfl (by decide) _ _ _ rfl rfl w9.heap.size _ 0 [] rfl (ownsRow_below (owns_emptyT 26 8 w9.drew _ rfl) ((Below.refl _ _).alloc (Nat.le_refl _) (.cells #[.int .i64 k0, .string n0, .string v0, .string h0, .int .i64 p0, .string t0, .bool b0, .int .i64 z0] 26))) _ _ rfl (pre9.below hC) (by simp; omega) (by first | exact hC.size | exact Nat.le_trans (by simp) g12.size | (simp; try omega)) ?_
        intro v12 w12 r12 g12
        have H12 := hC.grown g12 hC.size (fun j e => by first | exact ownBlock_ge (ownsRow_below (owns_emptyT 26 8 w9.drew _ rfl) ((Below.refl _ _).alloc (Nat.le_refl _) (.cells #[.int .i64 k0, .string n0, .string v0, .string h0, .int .i64 p0, .string t0, .bool b0, .int .i64 z0] 26))) e | exact Nat.le_of_succ_le (ownBlock_ge (ownsRow_below (owns_emptyT 26 8 w9.drew _ rfl) ((Below.refl _ _).alloc (Nat.le_refl _) (.cells #[.int .i64 k0, .string n0, .string v0, .string h0, .int .i64 p0, .string t0, .bool b0, .int .i64 z0] 26))) e))
        refine hK.out _ _ H12 (fun _ => ?_)
        clear hK K
        try simp only [Act.put, List.setIfInBounds_toArray, List.set_cons_zero, List.set_cons_succ]
        refine wpAnyH_ready (rs := [8]) (by kernel_rfl) (by simp) ?_
        refine AllReadyH.cons (op_at (rest := _) rfl) (fun K hK => ?_) AllReadyH.nil
        refine step_append_sl (E := EF) 22 26 _ 96 Tryd.underlying22 Tryd.infoFil rfl (by decide) _ _ _ rfl rfl w9.heap.size _ _ _ rfl (r12) _ _ rfl (Sl.one (f := ⟨k0, n0, v0, h0, p0, t0, b0, z0⟩) (grown_at g12 (ne_blk (n := w9.heap.size + 1) (m := w9.heap.size) (by omega)) kb)) (by simp; omega) (by first | exact H12.size | exact Nat.le_trans (by simp) g12.size | (simp; try omega)) ?_
        intro v13 w13 r13 g13
        have H13 := H12.grown g13 H12.size (fun j e => by first | exact ownBlock_ge (r12) e | exact Nat.le_of_succ_le (ownBlock_ge (r12) e))
        refine hK.out _ _ H13 (fun _ => ?_)
        clear hK K
        try simp only [Act.put, List.setIfInBounds_toArray, List.set_cons_zero, List.set_cons_succ]
        refine wpAnyH_take (i := 9) (v := ?_) (op_at (rest := _) rfl) (by kernel_rfl) (by kernel_rfl) (by kernel_rfl) (fun _ _ _ h => h) (Or.inl ⟨by rfl, ?_⟩) (by assumption) ?_
        rotate_left 1
        · (intro W hSw; (try dsimp only at hSw); go_simp; (try with_reducible rfl))
        try simp only [Act.put, List.setIfInBounds_toArray, List.set_cons_zero, List.set_cons_succ]
        refine wpAnyH_done (by kernel_rfl) ?_ _
        refine NoPanic.normal ?_
        have hZ : Below w9.heap.size w9 w13 := H13
        have mtD : Sl EF w13 v13 (L ++ [⟨k0, n0, v0, h0, p0, t0, b0, z0⟩]) := Sl.of_row (by simp) r13 (fun _ _ => trivial)
        have B13 := bb2 B9 hZ
        have E1 := fun W => hide (fmay_any ⟨k0, n0, v0, h0, p0, t0, b0, z0⟩ W okk)
        have oneM : Sl EF w2 (.slice (some ⟨g, off + k * 8, none⟩) (cap - k) (cap - k)) [⟨k0, n0, v0, h0, p0, t0, b0, z0⟩] := by
          obtain ⟨a1, c1, e1, q1, q2, q3⟩ := oneS
          injection e1 with e1 e2 e3
          subst e1 e3
          exact ⟨_, _, congrArg (fun z => Value.slice (some ⟨g, off + k * 8, none⟩) z (cap - k)) HMK.out, q1, q2, q3⟩
        have E2 := fun W (h : Below w13.heap.size w13 W) => hide (fall_any (.slice (some ⟨g, off + k * 8, none⟩) (cap - k) (cap - k)) [⟨k0, n0, v0, h0, p0, t0, b0, z0⟩] W (oneM.below (bb2 B13 h)) (fun f hf => (List.mem_singleton.1 hf) ▸ okk))
        have E3 := fun W (h : Below w13.heap.size w13 W) => hide (fall_any v8 _ W (mtT.below (bb2 H89 (bb2 hZ h))) okT)
        have E4 := fun W (h : Below w13.heap.size w13 W) => hide (fall_any v9 _ W (mtL.below (bb2 hZ h)) okL)
        have E5 := fun W (h : Below w13.heap.size w13 W) => hide (fall_any v13 _ W (mtD.below h) okD)
        rw [A1.out] at E1
        rw [A2.out] at E2
        rw [A3.out] at E3
        rw [A4.out] at E4
        rw [A5.out] at E5
        have y0 := HSW.out w13 (HS9.out w13 hZ) _ _ c0
        have y1 := HSW.out w13 (HS9.out w13 hZ) _ _ c1
        have y2 := HSW.out w13 (HS9.out w13 hZ) _ _ c2
        have y3 := HSW.out w13 (HS9.out w13 hZ) _ _ c3
        have y4 := HSW.out w13 (HS9.out w13 hZ) _ _ c4
        have y5 := HSW.out w13 (HS9.out w13 hZ) _ _ c5
        have y6 := HSW.out w13 (HS9.out w13 hZ) _ _ c6
        have y7 := HSW.out w13 (HS9.out w13 hZ) _ _ c7
        have BZ := bb2 (bb2 hb1 hb2) B13
        have HBZ := hide BZ
        clear mtD mtT mtL r13 g13 H13 hHeld HSW HS9 ok1 okT okL okD okk HM preA pre9 oneS oneM HMK BZ B13 hZ B9 B8 H89 A1 A2 A3 A4 A5 c0 c1 c2 c3 c4 c5 c6 c7 mt2 hb1 hb2
        go_wp2_with fail
        refine ((E1 _).out).mono ?_
        rintro e w20 ⟨rfl, hb20⟩
        go_wp2_with fail
        refine ((E2 _ hb20).out).mono ?_
        rintro e w21 ⟨rfl, hb21⟩
        go_wp2_with fail
        refine ((E3 _ (bb2 hb20 hb21)).out).mono ?_
        rintro e w22 ⟨rfl, hb22⟩
        go_wp2_with fail
        refine ((E4 _ (bb2 (bb2 hb20 hb21) hb22)).out).mono ?_
        rintro e w23 ⟨rfl, hb23⟩
        go_wp2_with fail
        refine ((E5 _ (bb2 (bb2 (bb2 hb20 hb21) hb22) hb23)).out).mono ?_
        rintro e w24 ⟨rfl, hb24⟩
        go_wp2_with fail
        refine (fawake_any _).mono ?_
        rintro e w25 ⟨rfl, hb25⟩
        go_wp2_with fail
        go_ret
        exact ⟨rfl, bb2 HBZ.out (bb2 (bb2 (bb2 (bb2 (bb2 hb20 hb21) hb22) hb23) hb24) hb25)⟩
    · go_simp
      refine hK.out _ _ (hHeld.alloc hHeld.size _) (fun hC => ?_)
      clear hK K
      try simp only [Act.put, List.setIfInBounds_toArray, List.set_cons_zero, List.set_cons_succ]
      have kb := alloc_new w9.drew (.cells #[.int .i64 k0, .string n0, .string v0, .string h0, .int .i64 p0, .string t0, .bool b0, .int .i64 z0] 26)
      refine wpAnyH_ready (rs := [0]) (by kernel_rfl) (by simp) ?_
      refine AllReadyH.cons (op_at (rest := _) rfl) (fun K hK => ?_) AllReadyH.nil
      go_simp
      refine hK.out _ _ (hC.alloc hC.size _) (fun hA => ?_)
      clear hK K
      try simp only [Act.put, List.setIfInBounds_toArray, List.set_cons_zero, List.set_cons_succ]
      refine wpAnyH_ready (rs := [2]) (by kernel_rfl) (by simp) ?_
      refine AllReadyH.cons (op_at (rest := _) rfl) (fun K hK => ?_) AllReadyH.nil
      refine step_append_sl (E := EF) 22 26 _ 96 Tryd.underlying22 Tryd.infoFil rfl (by decide) _ _ _ rfl rfl (w9.heap.size + 1) _ 0 [] rfl (owns_emptyT 26 8 (w9.drew.alloc (.cells #[.int .i64 k0, .string n0, .string v0, .string h0, .int .i64 p0, .string t0, .bool b0, .int .i64 z0] 26)) (w9.heap.size + 1) (by rw [World.size_alloc]; rfl)) _ _ rfl (pre9.below hA) (by simp; omega) (by first | exact hA.size | exact Nat.le_trans (by simp) g12.size | (simp; try omega)) ?_
      intro v12 w12 r12 g12
      have H12 := hA.grown g12 hA.size (fun j e => by first | exact ownBlock_ge (owns_emptyT 26 8 (w9.drew.alloc (.cells #[.int .i64 k0, .string n0, .string v0, .string h0, .int .i64 p0, .string t0, .bool b0, .int .i64 z0] 26)) (w9.heap.size + 1) (by rw [World.size_alloc]; rfl)) e | exact Nat.le_of_succ_le (ownBlock_ge (owns_emptyT 26 8 (w9.drew.alloc (.cells #[.int .i64 k0, .string n0, .string v0, .string h0, .int .i64 p0, .string t0, .bool b0, .int .i64 z0] 26)) (w9.heap.size + 1) (by rw [World.size_alloc]; rfl)) e))
      refine hK.out _ _ H12 (fun _ => ?_)
      clear hK K
      try simp only [Act.put, List.setIfInBounds_toArray, List.set_cons_zero, List.set_cons_succ]
      refine wpAnyH_ready (rs := [8]) (by kernel_rfl) (by simp) ?_
      refine AllReadyH.cons (op_at (rest := _) rfl) (fun K hK => ?_) AllReadyH.nil
      refine step_append_sl (E := EF) 22 26 _ 96 Tryd.underlying22 Tryd.infoFil rfl (by decide) _ _ _ rfl rfl (w9.heap.size + 1) _ _ _ rfl (r12) _ _ rfl (Sl.one (f := ⟨k0, n0, v0, h0, p0, t0, b0, z0⟩) (grown_at g12 (ne_blk (n := w9.heap.size) (m := w9.heap.size + 1) (by omega)) (blk_below kb ((Below.refl _ _).alloc (Nat.le_refl _) _)))) (by simp; omega) (by first | exact H12.size | exact Nat.le_trans (by simp) g12.size | (simp; try omega)) ?_
      intro v13 w13 r13 g13
      have H13 := H12.grown g13 H12.size (fun j e => by first | exact ownBlock_ge (r12) e | exact Nat.le_of_succ_le (ownBlock_ge (r12) e))
      refine hK.out _ _ H13 (fun _ => ?_)
      clear hK K
      try simp only [Act.put, List.setIfInBounds_toArray, List.set_cons_zero, List.set_cons_succ]
      refine wpAnyH_take (i := 9) (v := ?_) (op_at (rest := _) rfl) (by kernel_rfl) (by kernel_rfl) (by kernel_rfl) (fun _ _ _ h => h) (Or.inl ⟨by rfl, ?_⟩) (by assumption) ?_
      rotate_left 1
      · (intro W hSw; (try dsimp only at hSw); go_simp; (try with_reducible rfl))
      try simp only [Act.put, List.setIfInBounds_toArray, List.set_cons_zero, List.set_cons_succ]
      refine wpAnyH_done (by kernel_rfl) ?_ _
      refine NoPanic.normal ?_
      have hZ : Below w9.heap.size w9 w13 := H13
      have mtD : Sl EF w13 v13 (L ++ [⟨k0, n0, v0, h0, p0, t0, b0, z0⟩]) := Sl.of_row (by simp) r13 (fun _ _ => trivial)
      have B13 := bb2 B9 hZ
      have E1 := fun W => hide (fmay_any ⟨k0, n0, v0, h0, p0, t0, b0, z0⟩ W okk)
      have oneM : Sl EF w2 (.slice (some ⟨g, off + k * 8, none⟩) (cap - k) (cap - k)) [⟨k0, n0, v0, h0, p0, t0, b0, z0⟩] := by
        obtain ⟨a1, c1, e1, q1, q2, q3⟩ := oneS
        injection e1 with e1 e2 e3
        subst e1 e3
        exact ⟨_, _, congrArg (fun z => Value.slice (some ⟨g, off + k * 8, none⟩) z (cap - k)) HMK.out, q1, q2, q3⟩
      have E2 := fun W (h : Below w13.heap.size w13 W) => hide (fall_any (.slice (some ⟨g, off + k * 8, none⟩) (cap - k) (cap - k)) [⟨k0, n0, v0, h0, p0, t0, b0, z0⟩] W (oneM.below (bb2 B13 h)) (fun f hf => (List.mem_singleton.1 hf) ▸ okk))
      have E3 := fun W (h : Below w13.heap.size w13 W) => hide (fall_any v8 _ W (mtT.below (bb2 H89 (bb2 hZ h))) okT)
      have E4 := fun W (h : Below w13.heap.size w13 W) => hide (fall_any v9 _ W (mtL.below (bb2 hZ h)) okL)
      have E5 := fun W (h : Below w13.heap.size w13 W) => hide (fall_any v13 _ W (mtD.below h) okD)
      rw [A1.out] at E1
      rw [A2.out] at E2
      rw [A3.out] at E3
      rw [A4.out] at E4
      rw [A5.out] at E5
      have y0 := HSW.out w13 (HS9.out w13 hZ) _ _ c0
      have y1 := HSW.out w13 (HS9.out w13 hZ) _ _ c1
      have y2 := HSW.out w13 (HS9.out w13 hZ) _ _ c2
      have y3 := HSW.out w13 (HS9.out w13 hZ) _ _ c3
      have y4 := HSW.out w13 (HS9.out w13 hZ) _ _ c4
      have y5 := HSW.out w13 (HS9.out w13 hZ) _ _ c5
      have y6 := HSW.out w13 (HS9.out w13 hZ) _ _ c6
      have y7 := HSW.out w13 (HS9.out w13 hZ) _ _ c7
      have BZ := bb2 (bb2 hb1 hb2) B13
      have HBZ := hide BZ
      clear mtD mtT mtL r13 g13 H13 hHeld HSW HS9 ok1 okT okL okD okk HM preA pre9 oneS oneM HMK BZ B13 hZ B9 B8 H89 A1 A2 A3 A4 A5 c0 c1 c2 c3 c4 c5 c6 c7 mt2 hb1 hb2
      go_wp2_with fail
      refine ((E1 _).out).mono ?_
      rintro e w20 ⟨rfl, hb20⟩
      go_wp2_with fail
      refine ((E2 _ hb20).out).mono ?_
      rintro e w21 ⟨rfl, hb21⟩
      go_wp2_with fail
      refine ((E3 _ (bb2 hb20 hb21)).out).mono ?_
      rintro e w22 ⟨rfl, hb22⟩
      go_wp2_with fail
      refine ((E4 _ (bb2 (bb2 hb20 hb21) hb22)).out).mono ?_
      rintro e w23 ⟨rfl, hb23⟩
      go_wp2_with fail
      refine ((E5 _ (bb2 (bb2 (bb2 hb20 hb21) hb22) hb23)).out).mono ?_
      rintro e w24 ⟨rfl, hb24⟩
      go_wp2_with fail
      refine (fawake_any _).mono ?_
      rintro e w25 ⟨rfl, hb25⟩
      go_wp2_with fail
      go_ret
      exact ⟨rfl, bb2 HBZ.out (bb2 (bb2 (bb2 (bb2 (bb2 hb20 hb21) hb22) hb23) hb24) hb25)⟩
  · have sufL : Sl EF w8 (.slice (some ⟨g, off + m * 8, none⟩) (L.length - m) (cap - m)) (L.drop m) := by
      have := mt8.suf (k := m) (by omega)
      rw [if_neg hcap] at this
      exact this
    clear mt8
    go_wp2_with fail
    refine wp_region_noPanic ?_
    refine wp_region_held_drew (S := fun W => Below (w8).heap.size (w8) W) (by kernel_rfl) ((Below.refl _ _).drew) (fun hHeld => ?_)
    refine wpAnyH_take (i := 1) (v := ?_) (op_at (rest := _) rfl) (by kernel_rfl) (by kernel_rfl) (by kernel_rfl) (fun _ _ _ h => h) (Or.inl ⟨by rfl, ?_⟩) (by assumption) ?_
    rotate_left 1
    · (intro W hSw; (try dsimp only at hSw); go_simp; (try with_reducible rfl))
    try simp only [Act.put, List.setIfInBounds_toArray, List.set_cons_zero, List.set_cons_succ]
    refine wpAnyH_take (i := 2) (v := ?_) (op_at (rest := _) rfl) (by kernel_rfl) (by kernel_rfl) (by kernel_rfl) (fun _ _ _ h => h) (Or.inl ⟨by rfl, ?_⟩) (by assumption) ?_
    rotate_left 1
    · (intro W hSw; (try dsimp only at hSw); go_simp; (try with_reducible rfl))
    try simp only [Act.put, List.setIfInBounds_toArray, List.set_cons_zero, List.set_cons_succ]
    refine wpAnyH_take (i := 3) (v := ?_) (op_at (rest := _) rfl) (by kernel_rfl) (by kernel_rfl) (by kernel_rfl) (fun _ _ _ h => h) (Or.inl ⟨by rfl, ?_⟩) (by assumption) ?_
    rotate_left 1
    · (intro W hSw; (try dsimp only at hSw); go_simp; (try with_reducible rfl))
    try simp only [Act.put, List.setIfInBounds_toArray, List.set_cons_zero, List.set_cons_succ]
    refine wpAnyH_take (i := 5) (v := ?_) (op_at (rest := _) rfl) (by kernel_rfl) (by kernel_rfl) (by kernel_rfl) (fun _ _ _ h => h) (Or.inl ⟨by rfl, ?_⟩) (by assumption) ?_
    rotate_left 1
    · (intro W hSw; (try dsimp only at hSw); go_simp; (try with_reducible rfl))
    try simp only [Act.put, List.setIfInBounds_toArray, List.set_cons_zero, List.set_cons_succ]
    refine wpAnyH_take (i := 6) (v := ?_) (op_at (rest := _) rfl) (by kernel_rfl) (by kernel_rfl) (by kernel_rfl) (fun _ _ _ h => h) (Or.inl ⟨by rfl, ?_⟩) (by assumption) ?_
    rotate_left 1
    · (intro W hSw; (try dsimp only at hSw); go_simp; (try with_reducible rfl))
    try simp only [Act.put, List.setIfInBounds_toArray, List.set_cons_zero, List.set_cons_succ]
    refine wpAnyH_take (i := 7) (v := ?_) (op_at (rest := _) rfl) (by kernel_rfl) (by kernel_rfl) (by kernel_rfl) (fun _ _ _ h => h) (Or.inl ⟨by rfl, ?_⟩) (by assumption) ?_
    rotate_left 1
    · (intro W hSw; (try dsimp only at hSw); go_simp; (try with_reducible rfl))
    try simp only [Act.put, List.setIfInBounds_toArray, List.set_cons_zero, List.set_cons_succ]
    refine wpAnyH_take (i := 8) (v := ?_) (op_at (rest := _) rfl) (by kernel_rfl) (by kernel_rfl) (by kernel_rfl) (fun _ _ _ h => h) (Or.inl ⟨by rfl, ?_⟩) (by assumption) ?_
    rotate_left 1
    · (intro W hSw; (try dsimp only at hSw); go_simp; (try with_reducible rfl))
    try simp only [Act.put, List.setIfInBounds_toArray, List.set_cons_zero, List.set_cons_succ]
    refine wpAnyH_ready (rs := [0]) (by kernel_rfl) (by simp) ?_
    refine AllReadyH.cons (op_at (rest := _) rfl) (fun K hK => ?_) AllReadyH.nil
    go_simp
    refine hK.out _ _ (hHeld.alloc hHeld.size _) (fun hA => ?_)
    clear hK K
    try simp only [Act.put, List.setIfInBounds_toArray, List.set_cons_zero, List.set_cons_succ]
    refine wpAnyH_ready (rs := [4]) (by kernel_rfl) (by simp) ?_
    refine AllReadyH.cons (op_at (rest := _) rfl) (fun K hK => ?_) AllReadyH.nil
    refine step_append_sl (E := EF) 22 26 _ 96 Tryd.underlying22 Tryd.infoFil rfl (by decide) _ _ _ rfl rfl w8.heap.size _ 0 [] rfl (owns_emptyT 26 8 w8.drew _ rfl) _ _ rfl (preL.below hA) (by simp; omega) (by first | exact hA.size | exact Nat.le_trans (by simp) g12.size | (simp; try omega)) ?_
    intro v4 w4 r4 g4
    have H4 := hA.grown g4 hA.size (fun j e => by first | exact ownBlock_ge (owns_emptyT 26 8 w8.drew _ rfl) e | exact Nat.le_of_succ_le (ownBlock_ge (owns_emptyT 26 8 w8.drew _ rfl) e))
    refine hK.out _ _ H4 (fun _ => ?_)
    clear hK K
    try simp only [Act.put, List.setIfInBounds_toArray, List.set_cons_zero, List.set_cons_succ]
    refine wpAnyH_ready (rs := [9]) (by kernel_rfl) (by simp) ?_
    refine AllReadyH.cons (op_at (rest := _) rfl) (fun K hK => ?_) AllReadyH.nil
    refine step_append_sl (E := EF) 22 26 _ 96 Tryd.underlying22 Tryd.infoFil rfl (by decide) _ _ _ rfl rfl w8.heap.size _ _ _ rfl (r4) _ _ rfl (sufL.below H4) (by simp; omega) (by first | exact H4.size | exact Nat.le_trans (by simp) g12.size | (simp; try omega)) ?_
    intro v9 w9 r9 g9
    have H9 := H4.grown g9 H4.size (fun j e => by first | exact ownBlock_ge (r4) e | exact Nat.le_of_succ_le (ownBlock_ge (r4) e))
    refine hK.out _ _ H9 (fun _ => ?_)
    clear hK K
    try simp only [Act.put, List.setIfInBounds_toArray, List.set_cons_zero, List.set_cons_succ]
    refine wpAnyH_take (i := 10) (v := ?_) (op_at (rest := _) rfl) (by kernel_rfl) (by kernel_rfl) (by kernel_rfl) (fun _ _ _ h => h) (Or.inl ⟨by rfl, ?_⟩) (by assumption) ?_
    rotate_left 1
    · (intro W hSw; (try dsimp only at hSw); go_simp; (try with_reducible rfl))
    try simp only [Act.put, List.setIfInBounds_toArray, List.set_cons_zero, List.set_cons_succ]
    refine wpAnyH_done (by kernel_rfl) ?_ _
    refine NoPanic.normal ?_
    have mtL : Sl EF w9 v9 (L.take k ++ L.drop _) := Sl.of_row (by simp) r9 (fun _ _ => trivial)
    have H89 : Below w8.heap.size w8 w9 := H9
    have B9 := bb2 B8 H89
    have pre9 := preA.below H89
    have HS9 : Hid (∀ W, Below w9.heap.size w9 W → Below w2.heap.size w2 W) := fun W h => bb2 B9 h
    clear hA H4 H9 r4 r9 g4 g9 hHeld sufL preL
    go_wp2_with fail
    refine wp_region_noPanic ?_
    refine wp_region_held_drew (S := fun W => Below (w9).heap.size (w9) W) (by kernel_rfl) ((Below.refl _ _).drew) (fun hHeld => ?_)
    refine wpAnyH_take (i := 1) (v := ?_) (op_at (rest := _) rfl) (by kernel_rfl) (by kernel_rfl) (by kernel_rfl) (fun _ _ _ h => h) (Or.inl ⟨by rfl, ?_⟩) (by assumption) ?_
    rotate_left 1
    · (intro W hSw; (try dsimp only at hSw); go_simp; (try with_reducible rfl))
    try simp only [Act.put, List.setIfInBounds_toArray, List.set_cons_zero, List.set_cons_succ]
    refine wpAnyH_take (i := 3) (v := ?_) (op_at (rest := _) rfl) (by kernel_rfl) (by kernel_rfl) (by kernel_rfl) (fun _ _ _ h => h) (Or.inl ⟨by rfl, ?_⟩) (by assumption) ?_
    rotate_left 1
    · (intro W hSw; (try dsimp only at hSw); go_simp; (try with_reducible rfl))
    try simp only [Act.put, List.setIfInBounds_toArray, List.set_cons_zero, List.set_cons_succ]
    refine wpAnyH_take (i := 4) (v := ?_) (op_at (rest := _) rfl) (by kernel_rfl) (by kernel_rfl) (by kernel_rfl) (fun _ _ _ h => h) (Or.inl ⟨by rfl, ?_⟩) (by assumption) ?_
    rotate_left 1
    · (intro W hSw; (try dsimp only at hSw); go_simp; (try with_reducible rfl))
    try simp only [Act.put, List.setIfInBounds_toArray, List.set_cons_zero, List.set_cons_succ]
    refine wpAnyH_take (i := 5) (v := ?_) (op_at (rest := _) rfl) (by kernel_rfl) (by kernel_rfl) (by kernel_rfl) (fun _ _ _ h => h) (Or.inl ⟨by rfl, ?_⟩) (by assumption) ?_
    rotate_left 1
    · (intro W hSw; (try dsimp only at hSw); go_simp; (try with_reducible rfl))
    try simp only [Act.put, List.setIfInBounds_toArray, List.set_cons_zero, List.set_cons_succ]
    refine wpAnyH_take (i := 6) (v := ?_) (op_at (rest := _) rfl) (by kernel_rfl) (by kernel_rfl) (by kernel_rfl) (fun _ _ _ h => h) (Or.inl ⟨by rfl, ?_⟩) (by assumption) ?_
    rotate_left 1
    · (intro W hSw; (try dsimp only at hSw); have x0 := HSW.out W (HS9.out W hSw) _ _ c0; have x1 := HSW.out W (HS9.out W hSw) _ _ c1; have x2 := HSW.out W (HS9.out W hSw) _ _ c2; have x3 := HSW.out W (HS9.out W hSw) _ _ c3; have x4 := HSW.out W (HS9.out W hSw) _ _ c4; have x5 := HSW.out W (HS9.out W hSw) _ _ c5; have x6 := HSW.out W (HS9.out W hSw) _ _ c6; have x7 := HSW.out W (HS9.out W hSw) _ _ c7; go_simp; (try with_reducible rfl))
    try simp only [Act.put, List.setIfInBounds_toArray, List.set_cons_zero, List.set_cons_succ]
    refine wpAnyH_ready (rs := [0, 7]) (by kernel_rfl) (by simp) ?_
    refine AllReadyH.cons (op_at (rest := _) rfl) (fun K hK => ?_) (AllReadyH.cons (op_at (rest := _) rfl) (fun K hK => ?_) AllReadyH.nil)
    · go_simp
      refine hK.out _ _ (hHeld.alloc hHeld.size _) (fun hA => ?_)
      clear hK K
      try simp only [Act.put, List.setIfInBounds_toArray, List.set_cons_zero, List.set_cons_succ]
      refine wpAnyH_ready (rs := [2, 7]) (by kernel_rfl) (by simp) ?_
      refine AllReadyH.cons (op_at (rest := _) rfl) (fun K hK => ?_) (AllReadyH.cons (op_at (rest := _) rfl) (fun K hK => ?_) AllReadyH.nil)
      · refine step_append_sl (E := EF) 22 26 _ 96 Tryd.underlying22 Tryd.infoFil rfl (by decide) _ _ _ rfl rfl w9.heap.size _ 0 [] rfl (owns_emptyT 26 8 w9.drew _ rfl) _ _ rfl (pre9.below hA) (by simp; omega) (by first | exact hA.size | exact Nat.le_trans (by simp) g12.size | (simp; try omega)) ?_
        intro v12 w12 r12 g12
        have H12 := hA.grown g12 hA.size (fun j e => by first | exact ownBlock_ge (owns_emptyT 26 8 w9.drew _ rfl) e | exact Nat.le_of_succ_le (ownBlock_ge (owns_emptyT 26 8 w9.drew _ rfl) e))
        refine hK.out _ _ H12 (fun _ => ?_)
        clear hK K
        try simp only [Act.put, List.setIfInBounds_toArray, List.set_cons_zero, List.set_cons_succ]
        refine wpAnyH_ready (rs := [7]) (by kernel_rfl) (by simp) ?_
        refine AllReadyH.cons (op_at (rest := _) rfl) (fun K hK => ?_) AllReadyH.nil
        go_simp
        refine hK.out _ _ (H12.alloc H12.size _) (fun hC => ?_)
        clear hK K
        try simp only [Act.put, List.setIfInBounds_toArray, List.set_cons_zero, List.set_cons_succ]
        have kb := alloc_new w12 (.cells #[.int .i64 k0, .string n0, .string v0, .string h0, .int .i64 p0, .string t0, .bool b0, .int .i64 z0] 26)
        refine wpAnyH_ready (rs := [8]) (by kernel_rfl) (by simp) ?_
        refine AllReadyH.cons (op_at (rest := _) rfl) (fun K hK => ?_) AllReadyH.nil
        refine step_append_sl (E := EF) 22 26 _ 96 Tryd.underlying22 Tryd.infoFil rfl (by decide) _ _ _ rfl rfl w9.heap.size _ _ _ rfl (ownsRow_below r12 ((Below.refl _ w12).alloc (Nat.le_refl _) (.cells #[.int .i64 k0, .string n0, .string v0, .string h0, .int .i64 p0, .string t0, .bool b0, .int .i64 z0] 26))) _ _ rfl (Sl.one (f := ⟨k0, n0, v0, h0, p0, t0, b0, z0⟩) (kb)) (by simp; omega) (by first | exact hC.size | exact Nat.le_trans (by simp) g12.size | (simp; try omega)) ?_
        intro v13 w13 r13 g13
        have H13 := hC.grown g13 hC.size (fun j e => by first | exact ownBlock_ge (ownsRow_below r12 ((Below.refl _ w12).alloc (Nat.le_refl _) (.cells #[.int .i64 k0, .string n0, .string v0, .string h0, .int .i64 p0, .string t0, .bool b0, .int .i64 z0] 26))) e | exact Nat.le_of_succ_le (ownBlock_ge (ownsRow_below r12 ((Below.refl _ w12).alloc (Nat.le_refl _) (.cells #[.int .i64 k0, .string n0, .string v0, .string h0, .int .i64 p0, .string t0, .bool b0, .int .i64 z0] 26))) e))
        refine hK.out _ _ H13 (fun _ => ?_)
        clear hK K
        try simp only [Act.put, List.setIfInBounds_toArray, List.set_cons_zero, List.set_cons_succ]
        refine wpAnyH_take (i := 9) (v := ?_) (op_at (rest := _) rfl) (by kernel_rfl) (by kernel_rfl) (by kernel_rfl) (fun _ _ _ h => h) (Or.inl ⟨by rfl, ?_⟩) (by assumption) ?_
        rotate_left 1
        · (intro W hSw; (try dsimp only at hSw); go_simp; (try with_reducible rfl))
        try simp only [Act.put, List.setIfInBounds_toArray, List.set_cons_zero, List.set_cons_succ]
        refine wpAnyH_done (by kernel_rfl) ?_ _
        refine NoPanic.normal ?_
        have hZ : Below w9.heap.size w9 w13 := H13
        have mtD : Sl EF w13 v13 (L ++ [⟨k0, n0, v0, h0, p0, t0, b0, z0⟩]) := Sl.of_row (by simp) r13 (fun _ _ => trivial)
        have B13 := bb2 B9 hZ
        have E1 := fun W => hide (fmay_any ⟨k0, n0, v0, h0, p0, t0, b0, z0⟩ W okk)
        have oneM : Sl EF w2 (.slice (some ⟨g, off + k * 8, none⟩) (m - k) (cap - k)) [⟨k0, n0, v0, h0, p0, t0, b0, z0⟩] := by
          obtain ⟨a1, c1, e1, q1, q2, q3⟩ := oneS
          injection e1 with e1 e2 e3
          subst e1 e3
          exact ⟨_, _, congrArg (fun z => Value.slice (some ⟨g, off + k * 8, none⟩) z (cap - k)) HMK.out, q1, q2, q3⟩
        have E2 := fun W (h : Below w13.heap.size w13 W) => hide (fall_any (.slice (some ⟨g, off + k * 8, none⟩) (m - k) (cap - k)) [⟨k0, n0, v0, h0, p0, t0, b0, z0⟩] W (oneM.below (bb2 B13 h)) (fun f hf => (List.mem_singleton.1 hf) ▸ okk))
        have E3 := fun W (h : Below w13.heap.size w13 W) => hide (fall_any v8 _ W (mtT.below (bb2 H89 (bb2 hZ h))) okT)
        have E4 := fun W (h : Below w13.heap.size w13 W) => hide (fall_any v9 _ W (mtL.below (bb2 hZ h)) okL)
        have E5 := fun W (h : Below w13.heap.size w13 W) => hide (fall_any v13 _ W (mtD.below h) okD)
        rw [A1.out] at E1
        rw [A2.out] at E2
        rw [A3.out] at E3
        rw [A4.out] at E4
        rw [A5.out] at E5
        have y0 := HSW.out w13 (HS9.out w13 hZ) _ _ c0
        have y1 := HSW.out w13 (HS9.out w13 hZ) _ _ c1
        have y2 := HSW.out w13 (HS9.out w13 hZ) _ _ c2
        have y3 := HSW.out w13 (HS9.out w13 hZ) _ _ c3
        have y4 := HSW.out w13 (HS9.out w13 hZ) _ _ c4
        have y5 := HSW.out w13 (HS9.out w13 hZ) _ _ c5
        have y6 := HSW.out w13 (HS9.out w13 hZ) _ _ c6
        have y7 := HSW.out w13 (HS9.out w13 hZ) _ _ c7
        have BZ := bb2 (bb2 hb1 hb2) B13
        have HBZ := hide BZ
        clear mtD mtT mtL r13 g13 H13 hHeld HSW HS9 ok1 okT okL okD okk HM preA pre9 oneS oneM HMK BZ B13 hZ B9 B8 H89 A1 A2 A3 A4 A5 c0 c1 c2 c3 c4 c5 c6 c7 mt2 hb1 hb2
        go_wp2_with fail
        refine ((E1 _).out).mono ?_
        rintro e w20 ⟨rfl, hb20⟩
        go_wp2_with fail
        refine ((E2 _ hb20).out).mono ?_
        rintro e w21 ⟨rfl, hb21⟩
        go_wp2_with fail
        refine ((E3 _ (bb2 hb20 hb21)).out).mono ?_
        rintro e w22 ⟨rfl, hb22⟩
        go_wp2_with fail
        refine ((E4 _ (bb2 (bb2 hb20 hb21) hb22)).out).mono ?_
        rintro e w23 ⟨rfl, hb23⟩
        go_wp2_with fail
        refine ((E5 _ (bb2 (bb2 (bb2 hb20 hb21) hb22) hb23)).out).mono ?_
        rintro e w24 ⟨rfl, hb24⟩
        go_wp2_with fail
        refine (fawake_any _).mono ?_
        rintro e w25 ⟨rfl, hb25⟩
        go_wp2_with fail
        go_ret
        exact ⟨rfl, bb2 HBZ.out (bb2 (bb2 (bb2 (bb2 (bb2 hb20 hb21) hb22) hb23) hb24) hb25)⟩
      · go_simp
        refine hK.out _ _ (hA.alloc hA.size _) (fun hC => ?_)
        clear hK K
        try simp only [Act.put, List.setIfInBounds_toArray, List.set_cons_zero, List.set_cons_succ]
        have kb : ((w9.drew.alloc (.cells #[] 26)).alloc (.cells #[.int .i64 k0, .string n0, .string v0, .string h0, .int .i64 p0, .string t0, .bool b0, .int .i64 z0] 26)).heap[w9.heap.size + 1]? = some (.cells #[.int .i64 k0, .string n0, .string v0, .string h0, .int .i64 p0, .string t0, .bool b0, .int .i64 z0] 26) := by
          have := alloc_new (w9.drew.alloc (.cells #[] 26)) (.cells #[.int .i64 k0, .string n0, .string v0, .string h0, .int .i64 p0, .string t0, .bool b0, .int .i64 z0] 26)
          rw [World.size_alloc] at this
          exact this
        refine wpAnyH_ready (rs := [2]) (by kernel_rfl) (by simp) ?_
        refine AllReadyH.cons (op_at (rest := _) rfl) (fun K hK => ?_) AllReadyH.nil
        refine step_append_sl (E := EF) 22 26 _ 96 Tryd.underlying22 Tryd.infoFil rfl (by decide) _ _ _ rfl rfl w9.heap.size _ 0 [] rfl (ownsRow_below (owns_emptyT 26 8 w9.drew _ rfl) ((Below.refl _ _).alloc (Nat.le_refl _) (.cells #[.int .i64 k0, .string n0, .string v0, .string h0, .int .i64 p0, .string t0, .bool b0, .int .i64 z0] 26))) _ _ rfl (pre9.below hC) (by simp; omega) (by first | exact hC.size | exact Nat.le_trans (by simp) g12.size | (simp; try omega)) ?_
        intro v12 w12 r12 g12
        have H12 := hC.grown g12 hC.size (fun j e => by first | exact ownBlock_ge (ownsRow_below (owns_emptyT 26 8 w9.drew _ rfl) ((Below.refl _ _).alloc (Nat.le_refl _) (.cells #[.int .i64 k0, .string n0, .string v0, .string h0, .int .i64 p0, .string t0, .bool b0, .int .i64 z0] 26))) e | exact Nat.le_of_succ_le (ownBlock_ge (ownsRow_below (owns_emptyT 26 8 w9.drew _ rfl) ((Below.refl _ _).alloc (Nat.le_refl _) (.cells #[.int .i64 k0, .string n0, .string v0, .string h0, .int .i64 p0, .string t0, .bool b0, .int .i64 z0] 26))) e))
        refine hK.out _ _ H12 (fun _ => ?_)
        clear hK K
        try simp only [Act.put, List.setIfInBounds_toArray, List.set_cons_zero, List.set_cons_succ]
        refine wpAnyH_ready (rs := [8]) (by kernel_rfl) (by simp) ?_
        refine AllReadyH.cons (op_at (rest := _) rfl) (fun K hK => ?_) AllReadyH.nil
        refine step_append_sl (E := EF) 22 26 _ 96 Tryd.underlying22 Tryd.infoFil rfl (by decide) _ _ _ rfl rfl w9.heap.size _ _ _ rfl (r12) _ _ rfl (Sl.one (f := ⟨k0, n0, v0, h0, p0, t0, b0, z0⟩) (grown_at g12 (ne_blk (n := w9.heap.size + 1) (m := w9.heap.size) (by omega)) kb)) (by simp; omega) (by first | exact H12.size | exact Nat.le_trans (by simp) g12.size | (simp; try omega)) ?_
        intro v13 w13 r13 g13
        have H13 := H12.grown g13 H12.size (fun j e => by first | exact ownBlock_ge (r12) e | exact Nat.le_of_succ_le (ownBlock_ge (r12) e))
        refine hK.out _ _ H13 (fun _ => ?_)
        clear hK K
        try simp only [Act.put, List.setIfInBounds_toArray, List.set_cons_zero, List.set_cons_succ]
        refine wpAnyH_take (i := 9) (v := ?_) (op_at (rest := _) rfl) (by kernel_rfl) (by kernel_rfl) (by kernel_rfl) (fun _ _ _ h => h) (Or.inl ⟨by rfl, ?_⟩) (by assumption) ?_
        rotate_left 1
        · (intro W hSw; (try dsimp only at hSw); go_simp; (try with_reducible rfl))
        try simp only [Act.put, List.setIfInBounds_toArray, List.set_cons_zero, List.set_cons_succ]
        refine wpAnyH_done (by kernel_rfl) ?_ _
        refine NoPanic.normal ?_
        have hZ : Below w9.heap.size w9 w13 := H13
        have mtD : Sl EF w13 v13 (L ++ [⟨k0, n0, v0, h0, p0, t0, b0, z0⟩]) := Sl.of_row (by simp) r13 (fun _ _ => trivial)
        have B13 := bb2 B9 hZ
        have E1 := fun W => hide (fmay_any ⟨k0, n0, v0, h0, p0, t0, b0, z0⟩ W okk)
        have oneM : Sl EF w2 (.slice (some ⟨g, off + k * 8, none⟩) (m - k) (cap - k)) [⟨k0, n0, v0, h0, p0, t0, b0, z0⟩] := by
          obtain ⟨a1, c1, e1, q1, q2, q3⟩ := oneS
          injection e1 with e1 e2 e3
          subst e1 e3
          exact ⟨_, _, congrArg (fun z => Value.slice (some ⟨g, off + k * 8, none⟩) z (cap - k)) HMK.out, q1, q2, q3⟩
        have E2 := fun W (h : Below w13.heap.size w13 W) => hide (fall_any (.slice (some ⟨g, off + k * 8, none⟩) (m - k) (cap - k)) [⟨k0, n0, v0, h0, p0, t0, b0, z0⟩] W (oneM.below (bb2 B13 h)) (fun f hf => (List.mem_singleton.1 hf) ▸ okk))
        have E3 := fun W (h : Below w13.heap.size w13 W) => hide (fall_any v8 _ W (mtT.below (bb2 H89 (bb2 hZ h))) okT)
        have E4 := fun W (h : Below w13.heap.size w13 W) => hide (fall_any v9 _ W (mtL.below (bb2 hZ h)) okL)
        have E5 := fun W (h : Below w13.heap.size w13 W) => hide (fall_any v13 _ W (mtD.below h) okD)
        rw [A1.out] at E1
        rw [A2.out] at E2
        rw [A3.out] at E3
        rw [A4.out] at E4
        rw [A5.out] at E5
        have y0 := HSW.out w13 (HS9.out w13 hZ) _ _ c0
        have y1 := HSW.out w13 (HS9.out w13 hZ) _ _ c1
        have y2 := HSW.out w13 (HS9.out w13 hZ) _ _ c2
        have y3 := HSW.out w13 (HS9.out w13 hZ) _ _ c3
        have y4 := HSW.out w13 (HS9.out w13 hZ) _ _ c4
        have y5 := HSW.out w13 (HS9.out w13 hZ) _ _ c5
        have y6 := HSW.out w13 (HS9.out w13 hZ) _ _ c6
        have y7 := HSW.out w13 (HS9.out w13 hZ) _ _ c7
        have BZ := bb2 (bb2 hb1 hb2) B13
        have HBZ := hide BZ
        clear mtD mtT mtL r13 g13 H13 hHeld HSW HS9 ok1 okT okL okD okk HM preA pre9 oneS oneM HMK BZ B13 hZ B9 B8 H89 A1 A2 A3 A4 A5 c0 c1 c2 c3 c4 c5 c6 c7 mt2 hb1 hb2
        go_wp2_with fail
        refine ((E1 _).out).mono ?_
        rintro e w20 ⟨rfl, hb20⟩
        go_wp2_with fail
        refine ((E2 _ hb20).out).mono ?_
        rintro e w21 ⟨rfl, hb21⟩
        go_wp2_with fail
        refine ((E3 _ (bb2 hb20 hb21)).out).mono ?_
        rintro e w22 ⟨rfl, hb22⟩
        go_wp2_with fail
        refine ((E4 _ (bb2 (bb2 hb20 hb21) hb22)).out).mono ?_
        rintro e w23 ⟨rfl, hb23⟩
        go_wp2_with fail
        refine ((E5 _ (bb2 (bb2 (bb2 hb20 hb21) hb22) hb23)).out).mono ?_
        rintro e w24 ⟨rfl, hb24⟩
        go_wp2_with fail
        refine (fawake_any _).mono ?_
        rintro e w25 ⟨rfl, hb25⟩
        go_wp2_with fail
        go_ret
        exact ⟨rfl, bb2 HBZ.out (bb2 (bb2 (bb2 (bb2 (bb2 hb20 hb21) hb22) hb23) hb24) hb25)⟩
    · go_simp
      refine hK.out _ _ (hHeld.alloc hHeld.size _) (fun hC => ?_)
      clear hK K
      try simp only [Act.put, List.setIfInBounds_toArray, List.set_cons_zero, List.set_cons_succ]
      have kb := alloc_new w9.drew (.cells #[.int .i64 k0, .string n0, .string v0, .string h0, .int .i64 p0, .string t0, .bool b0, .int .i64 z0] 26)
      refine wpAnyH_ready (rs := [0]) (by kernel_rfl) (by simp) ?_
      refine AllReadyH.cons (op_at (rest := _) rfl) (fun K hK => ?_) AllReadyH.nil
      go_simp
      refine hK.out _ _ (hC.alloc hC.size _) (fun hA => ?_)
      clear hK K
      try simp only [Act.put, List.setIfInBounds_toArray, List.set_cons_zero, List.set_cons_succ]
      refine wpAnyH_ready (rs := [2]) (by kernel_rfl) (by simp) ?_
      refine AllReadyH.cons (op_at (rest := _) rfl) (fun K hK => ?_) AllReadyH.nil
      refine step_append_sl (E := EF) 22 26 _ 96 Tryd.underlying22 Tryd.infoFil rfl (by decide) _ _ _ rfl rfl (w9.heap.size + 1) _ 0 [] rfl (owns_emptyT 26 8 (w9.drew.alloc (.cells #[.int .i64 k0, .string n0, .string v0, .string h0, .int .i64 p0, .string t0, .bool b0, .int .i64 z0] 26)) (w9.heap.size + 1) (by rw [World.size_alloc]; rfl)) _ _ rfl (pre9.below hA) (by simp; omega) (by first | exact hA.size | exact Nat.le_trans (by simp) g12.size | (simp; try omega)) ?_
      intro v12 w12 r12 g12
      have H12 := hA.grown g12 hA.size (fun j e => by first | exact ownBlock_ge (owns_emptyT 26 8 (w9.drew.alloc (.cells #[.int .i64 k0, .string n0, .string v0, .string h0, .int .i64 p0, .string t0, .bool b0, .int .i64 z0] 26)) (w9.heap.size + 1) (by rw [World.size_alloc]; rfl)) e | exact Nat.le_of_succ_le (ownBlock_ge (owns_emptyT 26 8 (w9.drew.alloc (.cells #[.int .i64 k0, .string n0, .string v0, .string h0, .int .i64 p0, .string t0, .bool b0, .int .i64 z0] 26)) (w9.heap.size + 1) (by rw [World.size_alloc]; rfl)) e))
      refine hK.out _ _ H12 (fun _ => ?_)
      clear hK K
      try simp only [Act.put, List.setIfInBounds_toArray, List.set_cons_zero, List.set_cons_succ]
      refine wpAnyH_ready (rs := [8]) (by kernel_rfl) (by simp) ?_
      refine AllReadyH.cons (op_at (rest := _) rfl) (fun K hK => ?_) AllReadyH.nil
      refine step_append_sl (E := EF) 22 26 _ 96 Tryd.underlying22 Tryd.infoFil rfl (by decide) _ _ _ rfl rfl (w9.heap.size + 1) _ _ _ rfl (r12) _ _ rfl (Sl.one (f := ⟨k0, n0, v0, h0, p0, t0, b0, z0⟩) (grown_at g12 (ne_blk (n := w9.heap.size) (m := w9.heap.size + 1) (by omega)) (blk_below kb ((Below.refl _ _).alloc (Nat.le_refl _) _)))) (by simp; omega) (by first | exact H12.size | exact Nat.le_trans (by simp) g12.size | (simp; try omega)) ?_
      intro v13 w13 r13 g13
      have H13 := H12.grown g13 H12.size (fun j e => by first | exact ownBlock_ge (r12) e | exact Nat.le_of_succ_le (ownBlock_ge (r12) e))
      refine hK.out _ _ H13 (fun _ => ?_)
      clear hK K
      try simp only [Act.put, List.setIfInBounds_toArray, List.set_cons_zero, List.set_cons_succ]
      refine wpAnyH_take (i := 9) (v := ?_) (op_at (rest := _) rfl) (by kernel_rfl) (by kernel_rfl) (by kernel_rfl) (fun _ _ _ h => h) (Or.inl ⟨by rfl, ?_⟩) (by assumption) ?_
      rotate_left 1
      · (intro W hSw; (try dsimp only at hSw); go_simp; (try with_reducible rfl))
      try simp only [Act.put, List.setIfInBounds_toArray, List.set_cons_zero, List.set_cons_succ]
      refine wpAnyH_done (by kernel_rfl) ?_ _
      refine NoPanic.normal ?_
      have hZ : Below w9.heap.size w9 w13 := H13
      have mtD : Sl EF w13 v13 (L ++ [⟨k0, n0, v0, h0, p0, t0, b0, z0⟩]) := Sl.of_row (by simp) r13 (fun _ _ => trivial)
      have B13 := bb2 B9 hZ
      have E1 := fun W => hide (fmay_any ⟨k0, n0, v0, h0, p0, t0, b0, z0⟩ W okk)
      have oneM : Sl EF w2 (.slice (some ⟨g, off + k * 8, none⟩) (m - k) (cap - k)) [⟨k0, n0, v0, h0, p0, t0, b0, z0⟩] := by
        obtain ⟨a1, c1, e1, q1, q2, q3⟩ := oneS
        injection e1 with e1 e2 e3
        subst e1 e3
        exact ⟨_, _, congrArg (fun z => Value.slice (some ⟨g, off + k * 8, none⟩) z (cap - k)) HMK.out, q1, q2, q3⟩
      have E2 := fun W (h : Below w13.heap.size w13 W) => hide (fall_any (.slice (some ⟨g, off + k * 8, none⟩) (m - k) (cap - k)) [⟨k0, n0, v0, h0, p0, t0, b0, z0⟩] W (oneM.below (bb2 B13 h)) (fun f hf => (List.mem_singleton.1 hf) ▸ okk))
      have E3 := fun W (h : Below w13.heap.size w13 W) => hide (fall_any v8 _ W (mtT.below (bb2 H89 (bb2 hZ h))) okT)
      have E4 := fun W (h : Below w13.heap.size w13 W) => hide (fall_any v9 _ W (mtL.below (bb2 hZ h)) okL)
      have E5 := fun W (h : Below w13.heap.size w13 W) => hide (fall_any v13 _ W (mtD.below h) okD)
      rw [A1.out] at E1
      rw [A2.out] at E2
      rw [A3.out] at E3
      rw [A4.out] at E4
      rw [A5.out] at E5
      have y0 := HSW.out w13 (HS9.out w13 hZ) _ _ c0
      have y1 := HSW.out w13 (HS9.out w13 hZ) _ _ c1
      have y2 := HSW.out w13 (HS9.out w13 hZ) _ _ c2
      have y3 := HSW.out w13 (HS9.out w13 hZ) _ _ c3
      have y4 := HSW.out w13 (HS9.out w13 hZ) _ _ c4
      have y5 := HSW.out w13 (HS9.out w13 hZ) _ _ c5
      have y6 := HSW.out w13 (HS9.out w13 hZ) _ _ c6
      have y7 := HSW.out w13 (HS9.out w13 hZ) _ _ c7
      have BZ := bb2 (bb2 hb1 hb2) B13
      have HBZ := hide BZ
      clear mtD mtT mtL r13 g13 H13 hHeld HSW HS9 ok1 okT okL okD okk HM preA pre9 oneS oneM HMK BZ B13 hZ B9 B8 H89 A1 A2 A3 A4 A5 c0 c1 c2 c3 c4 c5 c6 c7 mt2 hb1 hb2
      go_wp2_with fail
      refine ((E1 _).out).mono ?_
      rintro e w20 ⟨rfl, hb20⟩
      go_wp2_with fail
      refine ((E2 _ hb20).out).mono ?_
      rintro e w21 ⟨rfl, hb21⟩
      go_wp2_with fail
      refine ((E3 _ (bb2 hb20 hb21)).out).mono ?_
      rintro e w22 ⟨rfl, hb22⟩
      go_wp2_with fail
      refine ((E4 _ (bb2 (bb2 hb20 hb21) hb22)).out).mono ?_
      rintro e w23 ⟨rfl, hb23⟩
      go_wp2_with fail
      refine ((E5 _ (bb2 (bb2 (bb2 hb20 hb21) hb22) hb23)).out).mono ?_
      rintro e w24 ⟨rfl, hb24⟩
      go_wp2_with fail
      refine (fawake_any _).mono ?_
      rintro e w25 ⟨rfl, hb25⟩
      go_wp2_with fail
      go_ret
      exact ⟨rfl, bb2 HBZ.out (bb2 (bb2 (bb2 (bb2 (bb2 hb20 hb21) hb22) hb23) hb24) hb25)⟩

end Go.Proofs.YtfoabpkiaihkiaaDoor
