/-
  The law RuleTurns.
-/
import Derived.Test.YtppnkfjdgalgbaaRuArg
import Derived.Test.YtppnkfjdgalgbaaRuLawB
namespace Go.Proofs.Ytppnkfjdgalgbaa
open Go Go.RowKit Go.Shelf Go.Deep

attribute [local go_sem] gb_const

theorem turn_mem {α : Type} (l : List α) (k : Nat) (x : α) : x ∈ l ↔ x ∈ l.drop k ++ l.take k := by
  conv => lhs; rw [← List.take_append_drop k l]
  simp only [List.mem_append]
  exact Or.comm
theorem turn_len {α : Type} (l : List α) (k : Nat) : (l.drop k ++ l.take k).length = l.length := by simp; omega
/-- the first of matches, and of the same in another order -/
theorem first_turned (r : RB) (L : List MV) (k : Nat) : (bestM r (L.map MV.m) = none ∧ bestM r ((L.drop k ++ L.take k).map MV.m) = none) ∨
    ∃ (i : Nat) (hi : i < L.length) (j : Nat) (hj : j < (L.drop k ++ L.take k).length), bestM r (L.map MV.m) = some (i, L[i].m) ∧ bestM r ((L.drop k ++ L.take k).map MV.m) = some (j, ((L.drop k ++ L.take k)[j]).m) ∧ ordM L[i].m ((L.drop k ++ L.take k)[j]).m = 0 := by
  have hmem : ∀ x, x ∈ L.map MV.m ↔ x ∈ (L.drop k ++ L.take k).map MV.m := fun x => by
    constructor
    · intro h
      obtain ⟨y, hy, rfl⟩ := List.mem_map.1 h
      exact List.mem_map.2 ⟨y, (turn_mem L k y).1 hy, rfl⟩
    · intro h
      obtain ⟨y, hy, rfl⟩ := List.mem_map.1 h
      exact List.mem_map.2 ⟨y, (turn_mem L k y).2 hy, rfl⟩
  rcases Ru.best_turned (h := fun m => holdM m r) ahM_rank hmem with h | ⟨i, y, j, z, h1, h2, h3⟩
  · exact .inl h
  · right
    have b1 := Ru.best_is ahM_rank h1
    have b2 := Ru.best_is ahM_rank h2
    have hi : i < L.length := by have := b1.lt; rwa [List.length_map] at this
    have hj : j < (L.drop k ++ L.take k).length := by have := b2.lt; rwa [List.length_map] at this
    have e1 := b1.at_
    have e2 := b2.at_
    rw [List.getElem?_map, List.getElem?_eq_getElem hi] at e1
    rw [List.getElem?_map, List.getElem?_eq_getElem hj] at e2
    have e1' : L[i].m = y := Option.some.inj e1
    have e2' : ((L.drop k ++ L.take k)[j]).m = z := Option.some.inj e2
    exact ⟨i, hi, j, hj, by rw [e1']; exact h1, by rw [e2']; exact h2, by rw [e1', e2']; exact h3⟩

set_option maxHeartbeats 1600000 in
theorem turns_law (v0 v1 : Value) (n2 : Int) (w : World) (h0 : ArgL w v0) (h1 : ArgR w v1) (h2 : (Lit.int .u8 n2).wf = true) :
    Calls Try.prog 9 #[v0, v1, .int .u8 n2] w fun e w' => e = .returned (.bool true) ∧ Below w.heap.size w w' := by
  obtain ⟨c, rfl⟩ := u8_lit h2
  clear h2
  have hc255 : c.toNat < 256 := c.toNat_lt
  obtain ⟨l0, hat0, raw0⟩ := h0
  obtain ⟨y1, rfl, hat1, raw1⟩ := h1
  have C0 := fun W (h : Below w.heap.size w W) => hide (some_any v0 l0 W (hat0.below h) raw0)
  have C1 := fun W (h : Below w.heap.size w W) => hide (asked_any y1.r y1.vq y1.vh W raw1 (hat1.below h).1 (hat1.below h).2)
  clear hat0 raw0 hat1 raw1
  obtain ⟨base, hbase⟩ : ∃ z, z = (w.alloc (.cells #[.string y1.r.meth, .string y1.r.host, .string y1.r.path, y1.vq, y1.vh] 28)) := ⟨_, rfl⟩
  have HB : ∀ W, Below base.heap.size base W → W.heap[w.heap.size]? = some (.cells #[.string y1.r.meth, .string y1.r.host, .string y1.r.path, y1.vq, y1.vh] 28) := fun W h => blocks1 (by rw [← hbase]; exact h)
  have B0 : Below w.heap.size w base := by rw [hbase]; exact below1 w
  have hbs : Hid (base.heap.size = w.heap.size + 1) := by unfold Hid; rw [hbase]; simp
  have m10 := fun W h => (cell5 (HB W h)).1
  have m11 := fun W h => (cell5 (HB W h)).2.1
  have m12 := fun W h => (cell5 (HB W h)).2.2.1
  have m13 := fun W h => (cell5 (HB W h)).2.2.2.1
  have m14 := fun W h => (cell5 (HB W h)).2.2.2.2
  have HBH := hide HB
  clear HB
  go_enter Try.func9, Try.ntmps9
  go_wp2_with fail
  rw [← hbase]
  clear hbase
  refine wp_region_G 4 (fun w' => Below base.heap.size base w') (by kernel_rfl) ((Below.refl _ _).drew) ?_
  refine wpG_take (i := 0) 5 (v := v0) rfl (by kernel_rfl) (by kernel_rfl) (by kernel_rfl) (by decide) (by kernel_rfl) (by kernel_rfl) (fun _ _ _ h => h) (Or.inl ⟨by rfl, fun w1 hS => ?_⟩) ?_
  · (try dsimp only at hS)
    go_simp
  simp only [Act.put, List.setIfInBounds_toArray, List.set_cons_zero, List.set_cons_succ]
  refine wpG_take (i := 2) 5 (v := rV y1.r y1.vq y1.vh) rfl (by kernel_rfl) (by kernel_rfl) (by kernel_rfl) (by decide) (by kernel_rfl) (by kernel_rfl) (fun _ _ _ h => h) (Or.inl ⟨by rfl, fun w1 hS => ?_⟩) ?_
  · (try dsimp only at hS)
    go_simp
  simp only [Act.put, List.setIfInBounds_toArray, List.set_cons_zero, List.set_cons_succ]
  clear m10 m11 m12 m13 m14
  refine wpG_ready (rs := [1]) (by kernel_rfl) (by simp) (fun W1 hG1 hS1 i hi => ?_)
  obtain rfl : i = 1 := by simpa using hi
  clear hi
  refine wpOp_step rfl (by rfl) (fun K' hK' => ?_)
  replace hK' := hide hK'
  go_simp
  refine (C0 _ (B0.trans (hS1.mono B0.size))).out.mono ?_
  rintro e z0 ⟨u0, rfl, L0, hx0, row0, own0, hb0⟩
  have hb0B : base.heap.size ≤ W1.heap.size := hS1.size
  have ok0 : ∀ x ∈ L0, OkM x.m := fun x hx => someM_ok _ _ (by rw [← hx0]; exact List.mem_map.2 ⟨x, hx, rfl⟩)
  have len0 : L0.length ≤ 10 := by
    have := someM_len (l0.map MV.m)
    rw [← hx0, List.length_map] at this
    exact this
  clear hx0
  have BK0 := hS1.trans (hb0.mono hS1.size)
  go_wp2_with fail
  refine hK'.out _ _ (wpG_kept (by decide) BK0 ?_)
  clear hK' K' hG1 hb0 BK0
  clear hS1
  obtain ⟨bl0, hbl0⟩ : ∃ z, z = W1.heap.size := ⟨_, rfl⟩
  rw [← hbl0] at row0 hb0B
  clear hbl0
  refine wpG_ready (rs := [3]) (by kernel_rfl) (by simp) (fun W3 hG3 hS3 i hi => ?_)
  obtain rfl : i = 3 := by simpa using hi
  clear hi
  refine wpOp_step rfl (by rfl) (fun K' hK' => ?_)
  replace hK' := hide hK'
  go_simp
  refine (C1 _ (B0.trans (hS3.mono B0.size))).out.mono ?_
  rintro e z1 ⟨x1, rfl, hx1, own1, hb1⟩
  have ok1 : OkR x1.r := by rw [hx1]; exact fewR_ok _
  clear hx1
  replace row0 := ownsRow_below (ownsRow_below row0 hG3) hb1
  replace own0 := fun x hx => ((own0 x hx).below hG3).below hb1
  have BK1 := hS3.trans (hb1.mono hS3.size)
  go_wp2_with fail
  refine hK'.out _ _ (wpG_kept (by decide) BK1 ?_)
  clear hK' K' hG3 hb1 BK1
  clear hS3
  refine wpG_ready (rs := [4]) (by kernel_rfl) (by simp) (fun W hG hS i hi => ?_)
  obtain rfl : i = 4 := by simpa using hi
  clear hi
  have k1 := HBH.out W hS
  replace row0 := ownsRow_below row0 hG
  replace own0 := fun x hx => (own0 x hx).below hG
  replace own1 := own1.below hG
  have BZ := B0.trans (hS.mono B0.size)
  clear hG hS HBH C0 C1
  refine wpOp_step rfl (by rfl) (fun K' hK' => ?_)
  go_simp
  refine hK' _ _ (wpG_past (by decide) ?_)
  clear hK' K'
  refine wpAny_one (i := 5) (by kernel_rfl) ?_
  obtain ⟨f0, f1, f2, f3, f4⟩ := cell5 k1
  have lv := live5 k1
  refine wpOp_step rfl (by rfl) (fun K' hK' => ?_)
  go_simp
  refine hK' _ _ ?_
  clear hK' K'
  clear f0 f1 f2 f3 f4 lv
  replace row0 := row_set5b (g := w.heap.size) (a := .string x1.r.meth) (b := .string x1.r.host) (c := .string x1.r.path) (d := x1.vq) (e := x1.vh) row0 (by have := hbs.out; omega)
  replace own0 := fun x hx => (own0 x hx).set5 (a := .string x1.r.meth) (b := .string x1.r.host) (c := .string x1.r.path) (d := x1.vq) (e := x1.vh) k1 (by decide)
  replace own1 := own1.set5 (a := .string x1.r.meth) (b := .string x1.r.host) (c := .string x1.r.path) (d := x1.vq) (e := x1.vh) k1 (by decide)
  replace BZ := set5_below (n := w.heap.size) (a := .string x1.r.meth) (b := .string x1.r.host) (c := .string x1.r.path) (d := x1.vq) (e := x1.vh) BZ (by omega)
  replace k1 := set5_at (a' := .string x1.r.meth) (b' := .string x1.r.host) (c' := .string x1.r.path) (d' := x1.vq) (e' := x1.vh) k1
  change wpAny _ _ _ _ _ _ _ (set5 W (w.heap.size) (.string x1.r.meth) (.string x1.r.host) (.string x1.r.path) x1.vq x1.vh)
  generalize set5 W (w.heap.size) (.string x1.r.meth) (.string x1.r.host) (.string x1.r.path) x1.vq x1.vh = Z1 at *
  refine wpAny_end (by kernel_rfl) ?_
  have mt0 := Mts.of_row rfl row0 (fun x hx => (own0 x hx).at_)
  clear row0 own0
  have at1 := own1.at_
  clear own1
  have c0 := fun q : GB Z1 => (cell5 ((q.h.block _ (blk_lt5 k1)).trans k1)).1
  have c1 := fun q : GB Z1 => (cell5 ((q.h.block _ (blk_lt5 k1)).trans k1)).2.1
  have c2 := fun q : GB Z1 => (cell5 ((q.h.block _ (blk_lt5 k1)).trans k1)).2.2.1
  have c3 := fun q : GB Z1 => (cell5 ((q.h.block _ (blk_lt5 k1)).trans k1)).2.2.2.1
  have c4 := fun q : GB Z1 => (cell5 ((q.h.block _ (blk_lt5 k1)).trans k1)).2.2.2.2
  have E1 := fun q : GB Z1 => hide (first_m u0 L0 x1.r x1.vq x1.vh q.W (mt0.below q.h) ok0 (at1.below q.h).1 (at1.below q.h).2 ok1)
  have FT := fun k => hide (first_turned x1.r L0 k)
  have F2 : Hid (bestM x1.r ((L0 ++ L0).map MV.m) = bestM x1.r (L0.map MV.m)) := by unfold Hid; rw [List.map_append]; exact Ru.best_twice ahM_rank _
  have HM := hide mt0
  have hlen := mt0.len
  obtain ⟨ad, cap, rfl, hle1, hle2, hc⟩ := mt0
  have HC := hide hc
  clear hc k1
  obtain ⟨q, hq⟩ : ∃ q : GB Z1, q.W = Z1 := ⟨⟨Z1, Below.refl _ _⟩, rfl⟩
  rw [← hq]
  clear hq
  by_cases hz : L0.length = 0
  · have hz' : ((L0.length : Int) == 0) = true := by rw [beq_iff_eq]; omega
    have HN : Hid (bestM x1.r (L0.map MV.m) = none) := by
      rw [List.eq_nil_of_length_eq_zero hz]
      rfl
    rw [HN.out] at E1
    clear hz HN FT F2
    simp only [atI, Option.isSome_none] at E1
    go_wp2_with fail
    refine (calls_gb ((E1 _).out)).mono ?_
    rintro e x ⟨rfl, q, rfl⟩
    go_wp2_with fail
    refine (calls_gb (ruawake_any _)).mono ?_
    rintro e x ⟨rfl, q, rfl⟩
    go_wp2_with fail
    go_ret
    exact ⟨rfl, bb2 BZ q.h⟩
  have hz' : ((L0.length : Int) == 0) = false := by rw [beq_eq_false_iff_ne]; omega
  have hpos : 0 < L0.length := by omega
  have hpos' : (0 : Int) < (L0.length : Int) := by omega
  have hz2 : ¬ (L0.length : Int) = 0 := by omega
  have hkl : c.toNat % L0.length < L0.length := Nat.mod_lt _ hpos
  have HREM : Hid (((c.toNat : Int) % (L0.length : Int)) = ((c.toNat % L0.length : Nat) : Int)) := by unfold Hid; omega
  have FTK := FT (c.toNat % L0.length)
  clear FT hz
  generalize hkk : c.toNat % L0.length = k at *
  clear hkk
  obtain ⟨_, g, off, rfl, hg, _⟩ := HC.out 0 hpos
  have hk1 : (k : Int) < (L0.length : Int) := by omega
  have hk2 : (k : Int) ≤ (L0.length : Int) := by omega
  have hcapi : (L0.length : Int) ≤ (cap : Int) := by omega
  have hkc : k ≤ cap := by omega
  have hck : ¬ cap = k := by omega
  rcases FTK.out with ⟨HO, HT⟩ | ⟨i, hi, j, hj, HO, HT, HORD⟩
  · rw [HO] at E1 F2
    simp only [atI, Option.isSome_none] at E1
    have HT' := hide HT
    clear HT HO FTK
    go_wp2_with fail
    refine (calls_gb ((E1 _).out)).mono ?_
    rintro e x ⟨rfl, q, rfl⟩
    go_wp2_with fail
    rw [HREM.out]
    clear HREM E1
    obtain ⟨W5, hW5⟩ : ∃ z, z = q.W := ⟨_, rfl⟩
    have B5 := q.h
    rw [← hW5] at B5 ⊢
    clear hW5 q
    have mt5 := HM.out.below B5
    have sufT : Mts W5 (.slice (some ⟨g, off + k * 5, none⟩) (L0.length - k) (cap - k)) (L0.drop k) := mt5.suf (by omega) rfl (by omega) (by omega)
    have preT : Mts W5 (.slice (some ⟨g, off, none⟩) k cap) (L0.take k) := mt5.pre (by omega)
    go_wp2_with fail
    refine wp_region_noPanic ?_
    refine wp_region_held_drew (S := fun W => Below (W5).heap.size (W5) W) (by kernel_rfl) ((Below.refl _ _).drew) (fun hHeld => ?_)
    refine wpAnyH_take (i := 1) (v := ?_) (op_at (rest := _) rfl) (by kernel_rfl) (by kernel_rfl) (by kernel_rfl) (fun _ _ _ h => h) (Or.inl ⟨by rfl, ?_⟩) (by assumption) ?_
    rotate_left 1
    · (intro W hSw; (try dsimp only at hSw); go_simp; (try with_reducible rfl))
    try simp only [Act.put, List.setIfInBounds_toArray, List.set_cons_zero, List.set_cons_succ]
    refine wpAnyH_take (i := 2) (v := ?_) (op_at (rest := _) rfl) (by kernel_rfl) (by kernel_rfl) (by kernel_rfl) (fun _ _ _ h => h) (Or.inl ⟨by rfl, ?_⟩) (by assumption) ?_
    rotate_left 1
    · (intro W hSw; (try dsimp only at hSw); go_simp; (try with_reducible rfl))
    try simp only [Act.put, List.setIfInBounds_toArray, List.set_cons_zero, List.set_cons_succ]
    refine wpAnyH_take (i := 3) (v := ?_) (op_at (rest := _) rfl) (by kernel_rfl) (by kernel_rfl) (by kernel_rfl) (fun _ _ _ h => h) (Or.inl ⟨by rfl, ?_⟩) (by assumption) ?_
    rotate_left 1
    · (intro W hSw; (try dsimp only at hSw); go_simp; (try with_reducible rfl))
    try simp only [Act.put, List.setIfInBounds_toArray, List.set_cons_zero, List.set_cons_succ]
    refine wpAnyH_take (i := 5) (v := ?_) (op_at (rest := _) rfl) (by kernel_rfl) (by kernel_rfl) (by kernel_rfl) (fun _ _ _ h => h) (Or.inl ⟨by rfl, ?_⟩) (by assumption) ?_
    rotate_left 1
    · (intro W hSw; (try dsimp only at hSw); go_simp; (try with_reducible rfl))
    try simp only [Act.put, List.setIfInBounds_toArray, List.set_cons_zero, List.set_cons_succ]
    refine wpAnyH_take (i := 6) (v := ?_) (op_at (rest := _) rfl) (by kernel_rfl) (by kernel_rfl) (by kernel_rfl) (fun _ _ _ h => h) (Or.inl ⟨by rfl, ?_⟩) (by assumption) ?_
    rotate_left 1
    · (intro W hSw; (try dsimp only at hSw); go_simp; (try with_reducible rfl))
    try simp only [Act.put, List.setIfInBounds_toArray, List.set_cons_zero, List.set_cons_succ]
    refine wpAnyH_take (i := 7) (v := ?_) (op_at (rest := _) rfl) (by kernel_rfl) (by kernel_rfl) (by kernel_rfl) (fun _ _ _ h => h) (Or.inl ⟨by rfl, ?_⟩) (by assumption) ?_
    rotate_left 1
    · (intro W hSw; (try dsimp only at hSw); go_simp; (try with_reducible rfl))
    try simp only [Act.put, List.setIfInBounds_toArray, List.set_cons_zero, List.set_cons_succ]
    refine wpAnyH_ready (rs := [0]) (by kernel_rfl) (by simp) ?_
    refine AllReadyH.cons (op_at (rest := _) rfl) (fun K hK => ?_) AllReadyH.nil
    go_simp
    refine hK.out _ _ (hHeld.alloc hHeld.size _) (fun hH2 => ?_)
    clear hK K
    try simp only [Act.put, List.setIfInBounds_toArray, List.set_cons_zero, List.set_cons_succ]
    refine wpAnyH_ready (rs := [4]) (by kernel_rfl) (by simp) ?_
    refine AllReadyH.cons (op_at (rest := _) rfl) (fun K hK => ?_) AllReadyH.nil
    refine step_append_mts _ _ _ rfl rfl W5.heap.size _ 0 [] rfl (owns_emptyM W5.drew) _ _ rfl (sufT.below hH2) (by simp; omega) (by first | exact hH2.size | (simp; try omega)) ?_
    intro v4 w4 r4 g4
    have hH4 := hH2.grown g4 hH2.size (fun j e => ownBlock_ge (owns_emptyM W5.drew) e)
    refine hK.out _ _ hH4 (fun _ => ?_)
    clear hK K
    try simp only [Act.put, List.setIfInBounds_toArray, List.set_cons_zero, List.set_cons_succ]
    refine wpAnyH_ready (rs := [8]) (by kernel_rfl) (by simp) ?_
    refine AllReadyH.cons (op_at (rest := _) rfl) (fun K hK => ?_) AllReadyH.nil
    refine step_append_mts _ _ _ rfl rfl W5.heap.size _ _ _ rfl (r4) _ _ rfl (preT.below hH4) (by simp; omega) (by first | exact hH4.size | (simp; try omega)) ?_
    intro v8 w8 r8 g8
    have hH8 := hH4.grown g8 hH4.size (fun j e => ownBlock_ge (r4) e)
    refine hK.out _ _ hH8 (fun _ => ?_)
    clear hK K
    try simp only [Act.put, List.setIfInBounds_toArray, List.set_cons_zero, List.set_cons_succ]
    have hHeldN := hH8
    refine wpAnyH_take (i := 9) (v := ?_) (op_at (rest := _) rfl) (by kernel_rfl) (by kernel_rfl) (by kernel_rfl) (fun _ _ _ h => h) (Or.inl ⟨by rfl, ?_⟩) (by assumption) ?_
    rotate_left 1
    · (intro W hSw; (try dsimp only at hSw); go_simp; (try with_reducible rfl))
    try simp only [Act.put, List.setIfInBounds_toArray, List.set_cons_zero, List.set_cons_succ]
    refine wpAnyH_done (by kernel_rfl) ?_ _
    refine NoPanic.normal ?_
    have mtT : Mts w8 v8 (L0.drop k ++ L0.take k) := Mts.of_row (by simp) r8 (fun x hx => (mt5.all x ((turn_mem L0 k x).2 (by simpa using hx))).below hH8)
    have okT : ∀ x ∈ L0.drop k ++ L0.take k, OkM x.m := fun x hx => ok0 x ((turn_mem L0 k x).2 hx)
    have lenT := hide (turn_len L0 k)
    have B8 := bb2 B5 hH8
    have MT := hide mtT
    generalize L0.drop k ++ L0.take k = T at *
    obtain ⟨at_, capT, rfl, _, _, hcT⟩ := mtT
    have HCT := hide hcT
    clear hcT r8 r4 g4 g8 hH2 hH4 hH8 hHeld hHeldN sufT preT mt5
    have E2 := fun q : GB Z1 => fun (h : Below w8.heap.size w8 q.W) => hide (first_m _ T x1.r x1.vq x1.vh q.W (MT.out.below h) okT (at1.below q.h).1 (at1.below q.h).2 ok1)
    rw [HT'.out] at E2
    simp only [atI, Option.isSome_none] at E2
    have e0 := c0 ⟨w8, B8⟩
    have e1 := c1 ⟨w8, B8⟩
    have e2 := c2 ⟨w8, B8⟩
    have e3 := c3 ⟨w8, B8⟩
    have e4 := c4 ⟨w8, B8⟩
    dsimp only at e0 e1 e2 e3 e4
    go_wp2_with fail
    refine (E2 ⟨w8, B8⟩ (Below.refl _ _)).out.mono ?_
    rintro e w9 ⟨rfl, hb9⟩
    clear e0 e1 e2 e3 e4 E2
    have B9 := bb2 B8 hb9
    have mt9 := HM.out.below B9
    have r9 : ∀ W, Below w9.heap.size w9 W → (W.cell? ⟨w.heap.size, 0, none⟩ = some (.string x1.r.meth) ∧ W.cell? ⟨w.heap.size, 1, none⟩ = some (.string x1.r.host) ∧ W.cell? ⟨w.heap.size, 2, none⟩ = some (.string x1.r.path) ∧ W.cell? ⟨w.heap.size, 3, none⟩ = some x1.vq ∧ W.cell? ⟨w.heap.size, 4, none⟩ = some x1.vh) := fun W h => ⟨c0 ⟨W, bb2 B9 h⟩, c1 ⟨W, bb2 B9 h⟩, c2 ⟨W, bb2 B9 h⟩, c3 ⟨W, bb2 B9 h⟩, c4 ⟨W, bb2 B9 h⟩⟩
    go_wp2_with fail
    refine wp_region_noPanic ?_
    refine wp_region_held_drew (S := fun W => Below (w9).heap.size (w9) W) (by kernel_rfl) ((Below.refl _ _).drew) (fun hHeld => ?_)
    refine wpAnyH_take (i := 1) (v := ?_) (op_at (rest := _) rfl) (by kernel_rfl) (by kernel_rfl) (by kernel_rfl) (fun _ _ _ h => h) (Or.inl ⟨by rfl, ?_⟩) (by assumption) ?_
    rotate_left 1
    · (intro W hSw; (try dsimp only at hSw); go_simp; (try with_reducible rfl))
    try simp only [Act.put, List.setIfInBounds_toArray, List.set_cons_zero, List.set_cons_succ]
    refine wpAnyH_take (i := 3) (v := ?_) (op_at (rest := _) rfl) (by kernel_rfl) (by kernel_rfl) (by kernel_rfl) (fun _ _ _ h => h) (Or.inl ⟨by rfl, ?_⟩) (by assumption) ?_
    rotate_left 1
    · (intro W hSw; (try dsimp only at hSw); go_simp; (try with_reducible rfl))
    try simp only [Act.put, List.setIfInBounds_toArray, List.set_cons_zero, List.set_cons_succ]
    refine wpAnyH_take (i := 5) (v := ?_) (op_at (rest := _) rfl) (by kernel_rfl) (by kernel_rfl) (by kernel_rfl) (fun _ _ _ h => h) (Or.inl ⟨by rfl, ?_⟩) (by assumption) ?_
    rotate_left 1
    · (intro W hSw; (try dsimp only at hSw); obtain ⟨e0, e1, e2, e3, e4⟩ := r9 W hSw; go_simp; (try with_reducible rfl))
    try simp only [Act.put, List.setIfInBounds_toArray, List.set_cons_zero, List.set_cons_succ]
    refine wpAnyH_ready (rs := [0]) (by kernel_rfl) (by simp) ?_
    refine AllReadyH.cons (op_at (rest := _) rfl) (fun K hK => ?_) AllReadyH.nil
    go_simp
    refine hK.out _ _ (hHeld.alloc hHeld.size _) (fun hI2 => ?_)
    clear hK K
    try simp only [Act.put, List.setIfInBounds_toArray, List.set_cons_zero, List.set_cons_succ]
    refine wpAnyH_ready (rs := [2]) (by kernel_rfl) (by simp) ?_
    refine AllReadyH.cons (op_at (rest := _) rfl) (fun K hK => ?_) AllReadyH.nil
    refine step_append_mts _ _ _ rfl rfl w9.heap.size _ 0 [] rfl (owns_emptyM w9.drew) _ _ rfl (mt9.below hI2) (by simp; omega) (by first | exact hI2.size | (simp; try omega)) ?_
    intro v10 w10 r10 g2
    have hI3 := hI2.grown g2 hI2.size (fun j e => ownBlock_ge (owns_emptyM w9.drew) e)
    refine hK.out _ _ hI3 (fun _ => ?_)
    clear hK K
    try simp only [Act.put, List.setIfInBounds_toArray, List.set_cons_zero, List.set_cons_succ]
    refine wpAnyH_ready (rs := [4]) (by kernel_rfl) (by simp) ?_
    refine AllReadyH.cons (op_at (rest := _) rfl) (fun K hK => ?_) AllReadyH.nil
    refine step_append_mts _ _ _ rfl rfl w9.heap.size _ _ _ rfl (r10) _ _ rfl (mt9.below hI3) (by simp; omega) (by first | exact hI3.size | (simp; try omega)) ?_
    intro v11 w11 r11 g4
    have hI4 := hI3.grown g4 hI3.size (fun j e => ownBlock_ge (r10) e)
    refine hK.out _ _ hI4 (fun _ => ?_)
    clear hK K
    try simp only [Act.put, List.setIfInBounds_toArray, List.set_cons_zero, List.set_cons_succ]
    have mtD : Mts w11 v11 (L0 ++ L0) := Mts.of_row (by simp) r11 (fun x hx => (mt9.all x (by simpa using hx)).below hI4)
    replace hHeld := hI4
    have CD := hide (first_m v11 (L0 ++ L0) x1.r x1.vq x1.vh w11 mtD (fun x hx => ok0 x (by simpa using hx)) (at1.below (bb2 B9 hI4)).1 (at1.below (bb2 B9 hI4)).2 ok1)
    rw [F2.out] at CD
    simp only [atI, Option.isSome_none] at CD
    refine wpAnyH_ready (rs := [6]) (by kernel_rfl) (by simp) ?_
    refine AllReadyH.cons (op_at (rest := _) rfl) (fun K hK => ?_) AllReadyH.nil
    go_simp
    refine (CD.out).mono ?_
    rintro e w12 ⟨rfl, hb12⟩
    go_wp2_with fail
    replace hHeld := hHeld.trans (hb12.mono hHeld.size)
    refine hK.out _ _ hHeld (fun _ => ?_)
    clear hK K
    try simp only [Act.put, List.setIfInBounds_toArray, List.set_cons_zero, List.set_cons_succ]
    refine wpAnyH_take (i := 7) (v := ?_) (op_at (rest := _) rfl) (by kernel_rfl) (by kernel_rfl) (by kernel_rfl) (fun _ _ _ h => h) (Or.inl ⟨by rfl, ?_⟩) (by assumption) ?_
    rotate_left 1
    · (intro W hSw; (try dsimp only at hSw); go_simp; (try with_reducible rfl))
    try simp only [Act.put, List.setIfInBounds_toArray, List.set_cons_zero, List.set_cons_succ]
    refine wpAnyH_take (i := 8) (v := ?_) (op_at (rest := _) rfl) (by kernel_rfl) (by kernel_rfl) (by kernel_rfl) (fun _ _ _ h => h) (Or.inl ⟨by rfl, ?_⟩) (by assumption) ?_
    rotate_left 1
    · (intro W hSw; (try dsimp only at hSw); go_simp; (try with_reducible rfl))
    try simp only [Act.put, List.setIfInBounds_toArray, List.set_cons_zero, List.set_cons_succ]
    refine wpAnyH_take (i := 9) (v := ?_) (op_at (rest := _) rfl) (by kernel_rfl) (by kernel_rfl) (by kernel_rfl) (fun _ _ _ h => h) (Or.inl ⟨by rfl, ?_⟩) (by assumption) ?_
    rotate_left 1
    · (intro W hSw; (try dsimp only at hSw); go_simp; (try with_reducible rfl))
    try simp only [Act.put, List.setIfInBounds_toArray, List.set_cons_zero, List.set_cons_succ]
    refine wpAnyH_take (i := 10) (v := ?_) (op_at (rest := _) rfl) (by kernel_rfl) (by kernel_rfl) (by kernel_rfl) (fun _ _ _ h => h) (Or.inl ⟨by rfl, ?_⟩) (by assumption) ?_
    rotate_left 1
    · (intro W hSw; (try dsimp only at hSw); go_simp; (try with_reducible rfl))
    try simp only [Act.put, List.setIfInBounds_toArray, List.set_cons_zero, List.set_cons_succ]
    refine wpAnyH_take (i := 11) (v := ?_) (op_at (rest := _) rfl) (by kernel_rfl) (by kernel_rfl) (by kernel_rfl) (fun _ _ _ h => h) (Or.inl ⟨by rfl, ?_⟩) (by assumption) ?_
    rotate_left 1
    · (intro W hSw; (try dsimp only at hSw); go_simp; (try with_reducible rfl))
    try simp only [Act.put, List.setIfInBounds_toArray, List.set_cons_zero, List.set_cons_succ]
    refine wpAnyH_done (by kernel_rfl) ?_ _
    refine NoPanic.normal ?_
    have B12 := bb2 B9 hHeld
    clear hI2 hI3 hI4 g2 g4 r10 r11 mtD mt9 r9 CD
    go_wp2_with fail
    refine (ruawake_any _).mono ?_
    rintro e w13 ⟨rfl, hb13⟩
    go_wp2_with fail
    go_ret
    exact ⟨rfl, bb2 (bb2 BZ B12) hb13⟩
  · rw [HO] at E1 F2
    simp only [atI, Option.isSome_some] at E1
    have HT' := hide HT
    clear HT HO FTK
    have HORD' := hide HORD
    clear HORD
    go_wp2_with fail
    refine (calls_gb ((E1 _).out)).mono ?_
    rintro e x ⟨rfl, q, rfl⟩
    go_wp2_with fail
    rw [HREM.out]
    clear HREM E1
    obtain ⟨W5, hW5⟩ : ∃ z, z = q.W := ⟨_, rfl⟩
    have B5 := q.h
    rw [← hW5] at B5 ⊢
    clear hW5 q
    have mt5 := HM.out.below B5
    have sufT : Mts W5 (.slice (some ⟨g, off + k * 5, none⟩) (L0.length - k) (cap - k)) (L0.drop k) := mt5.suf (by omega) rfl (by omega) (by omega)
    have preT : Mts W5 (.slice (some ⟨g, off, none⟩) k cap) (L0.take k) := mt5.pre (by omega)
    go_wp2_with fail
    refine wp_region_noPanic ?_
    refine wp_region_held_drew (S := fun W => Below (W5).heap.size (W5) W) (by kernel_rfl) ((Below.refl _ _).drew) (fun hHeld => ?_)
    refine wpAnyH_take (i := 1) (v := ?_) (op_at (rest := _) rfl) (by kernel_rfl) (by kernel_rfl) (by kernel_rfl) (fun _ _ _ h => h) (Or.inl ⟨by rfl, ?_⟩) (by assumption) ?_
    rotate_left 1
    · (intro W hSw; (try dsimp only at hSw); go_simp; (try with_reducible rfl))
    try simp only [Act.put, List.setIfInBounds_toArray, List.set_cons_zero, List.set_cons_succ]
    refine wpAnyH_take (i := 2) (v := ?_) (op_at (rest := _) rfl) (by kernel_rfl) (by kernel_rfl) (by kernel_rfl) (fun _ _ _ h => h) (Or.inl ⟨by rfl, ?_⟩) (by assumption) ?_
    rotate_left 1
    · (intro W hSw; (try dsimp only at hSw); go_simp; (try with_reducible rfl))
    try simp only [Act.put, List.setIfInBounds_toArray, List.set_cons_zero, List.set_cons_succ]
    refine wpAnyH_take (i := 3) (v := ?_) (op_at (rest := _) rfl) (by kernel_rfl) (by kernel_rfl) (by kernel_rfl) (fun _ _ _ h => h) (Or.inl ⟨by rfl, ?_⟩) (by assumption) ?_
    rotate_left 1
    · (intro W hSw; (try dsimp only at hSw); go_simp; (try with_reducible rfl))
    try simp only [Act.put, List.setIfInBounds_toArray, List.set_cons_zero, List.set_cons_succ]
    refine wpAnyH_take (i := 5) (v := ?_) (op_at (rest := _) rfl) (by kernel_rfl) (by kernel_rfl) (by kernel_rfl) (fun _ _ _ h => h) (Or.inl ⟨by rfl, ?_⟩) (by assumption) ?_
    rotate_left 1
    · (intro W hSw; (try dsimp only at hSw); go_simp; (try with_reducible rfl))
    try simp only [Act.put, List.setIfInBounds_toArray, List.set_cons_zero, List.set_cons_succ]
    refine wpAnyH_take (i := 6) (v := ?_) (op_at (rest := _) rfl) (by kernel_rfl) (by kernel_rfl) (by kernel_rfl) (fun _ _ _ h => h) (Or.inl ⟨by rfl, ?_⟩) (by assumption) ?_
    rotate_left 1
    · (intro W hSw; (try dsimp only at hSw); go_simp; (try with_reducible rfl))
    try simp only [Act.put, List.setIfInBounds_toArray, List.set_cons_zero, List.set_cons_succ]
    refine wpAnyH_take (i := 7) (v := ?_) (op_at (rest := _) rfl) (by kernel_rfl) (by kernel_rfl) (by kernel_rfl) (fun _ _ _ h => h) (Or.inl ⟨by rfl, ?_⟩) (by assumption) ?_
    rotate_left 1
    · (intro W hSw; (try dsimp only at hSw); go_simp; (try with_reducible rfl))
    try simp only [Act.put, List.setIfInBounds_toArray, List.set_cons_zero, List.set_cons_succ]
    refine wpAnyH_ready (rs := [0]) (by kernel_rfl) (by simp) ?_
    refine AllReadyH.cons (op_at (rest := _) rfl) (fun K hK => ?_) AllReadyH.nil
    go_simp
    refine hK.out _ _ (hHeld.alloc hHeld.size _) (fun hH2 => ?_)
    clear hK K
    try simp only [Act.put, List.setIfInBounds_toArray, List.set_cons_zero, List.set_cons_succ]
    refine wpAnyH_ready (rs := [4]) (by kernel_rfl) (by simp) ?_
    refine AllReadyH.cons (op_at (rest := _) rfl) (fun K hK => ?_) AllReadyH.nil
    refine step_append_mts _ _ _ rfl rfl W5.heap.size _ 0 [] rfl (owns_emptyM W5.drew) _ _ rfl (sufT.below hH2) (by simp; omega) (by first | exact hH2.size | (simp; try omega)) ?_
    intro v4 w4 r4 g4
    have hH4 := hH2.grown g4 hH2.size (fun j e => ownBlock_ge (owns_emptyM W5.drew) e)
    refine hK.out _ _ hH4 (fun _ => ?_)
    clear hK K
    try simp only [Act.put, List.setIfInBounds_toArray, List.set_cons_zero, List.set_cons_succ]
    refine wpAnyH_ready (rs := [8]) (by kernel_rfl) (by simp) ?_
    refine AllReadyH.cons (op_at (rest := _) rfl) (fun K hK => ?_) AllReadyH.nil
    refine step_append_mts _ _ _ rfl rfl W5.heap.size _ _ _ rfl (r4) _ _ rfl (preT.below hH4) (by simp; omega) (by first | exact hH4.size | (simp; try omega)) ?_
    intro v8 w8 r8 g8
    have hH8 := hH4.grown g8 hH4.size (fun j e => ownBlock_ge (r4) e)
    refine hK.out _ _ hH8 (fun _ => ?_)
    clear hK K
    try simp only [Act.put, List.setIfInBounds_toArray, List.set_cons_zero, List.set_cons_succ]
    have hHeldN := hH8
    refine wpAnyH_take (i := 9) (v := ?_) (op_at (rest := _) rfl) (by kernel_rfl) (by kernel_rfl) (by kernel_rfl) (fun _ _ _ h => h) (Or.inl ⟨by rfl, ?_⟩) (by assumption) ?_
    rotate_left 1
    · (intro W hSw; (try dsimp only at hSw); go_simp; (try with_reducible rfl))
    try simp only [Act.put, List.setIfInBounds_toArray, List.set_cons_zero, List.set_cons_succ]
    refine wpAnyH_done (by kernel_rfl) ?_ _
    refine NoPanic.normal ?_
    have mtT : Mts w8 v8 (L0.drop k ++ L0.take k) := Mts.of_row (by simp) r8 (fun x hx => (mt5.all x ((turn_mem L0 k x).2 (by simpa using hx))).below hH8)
    have okT : ∀ x ∈ L0.drop k ++ L0.take k, OkM x.m := fun x hx => ok0 x ((turn_mem L0 k x).2 hx)
    have lenT := hide (turn_len L0 k)
    have B8 := bb2 B5 hH8
    have MT := hide mtT
    generalize L0.drop k ++ L0.take k = T at *
    obtain ⟨at_, capT, rfl, _, _, hcT⟩ := mtT
    have HCT := hide hcT
    clear hcT r8 r4 g4 g8 hH2 hH4 hH8 hHeld hHeldN sufT preT mt5
    have E2 := fun q : GB Z1 => fun (h : Below w8.heap.size w8 q.W) => hide (first_m _ T x1.r x1.vq x1.vh q.W (MT.out.below h) okT (at1.below q.h).1 (at1.below q.h).2 ok1)
    rw [HT'.out] at E2
    simp only [atI, Option.isSome_some] at E2
    have e0 := c0 ⟨w8, B8⟩
    have e1 := c1 ⟨w8, B8⟩
    have e2 := c2 ⟨w8, B8⟩
    have e3 := c3 ⟨w8, B8⟩
    have e4 := c4 ⟨w8, B8⟩
    dsimp only at e0 e1 e2 e3 e4
    go_wp2_with fail
    refine (E2 ⟨w8, B8⟩ (Below.refl _ _)).out.mono ?_
    rintro e w9 ⟨rfl, hb9⟩
    clear e0 e1 e2 e3 e4 E2
    have B9 := bb2 B8 hb9
    have mt9 := HM.out.below B9
    have r9 : ∀ W, Below w9.heap.size w9 W → (W.cell? ⟨w.heap.size, 0, none⟩ = some (.string x1.r.meth) ∧ W.cell? ⟨w.heap.size, 1, none⟩ = some (.string x1.r.host) ∧ W.cell? ⟨w.heap.size, 2, none⟩ = some (.string x1.r.path) ∧ W.cell? ⟨w.heap.size, 3, none⟩ = some x1.vq ∧ W.cell? ⟨w.heap.size, 4, none⟩ = some x1.vh) := fun W h => ⟨c0 ⟨W, bb2 B9 h⟩, c1 ⟨W, bb2 B9 h⟩, c2 ⟨W, bb2 B9 h⟩, c3 ⟨W, bb2 B9 h⟩, c4 ⟨W, bb2 B9 h⟩⟩
    go_wp2_with fail
    refine wp_region_noPanic ?_
    refine wp_region_held_drew (S := fun W => Below (w9).heap.size (w9) W) (by kernel_rfl) ((Below.refl _ _).drew) (fun hHeld => ?_)
    refine wpAnyH_take (i := 1) (v := ?_) (op_at (rest := _) rfl) (by kernel_rfl) (by kernel_rfl) (by kernel_rfl) (fun _ _ _ h => h) (Or.inl ⟨by rfl, ?_⟩) (by assumption) ?_
    rotate_left 1
    · (intro W hSw; (try dsimp only at hSw); go_simp; (try with_reducible rfl))
    try simp only [Act.put, List.setIfInBounds_toArray, List.set_cons_zero, List.set_cons_succ]
    refine wpAnyH_take (i := 3) (v := ?_) (op_at (rest := _) rfl) (by kernel_rfl) (by kernel_rfl) (by kernel_rfl) (fun _ _ _ h => h) (Or.inl ⟨by rfl, ?_⟩) (by assumption) ?_
    rotate_left 1
    · (intro W hSw; (try dsimp only at hSw); go_simp; (try with_reducible rfl))
    try simp only [Act.put, List.setIfInBounds_toArray, List.set_cons_zero, List.set_cons_succ]
    refine wpAnyH_take (i := 5) (v := ?_) (op_at (rest := _) rfl) (by kernel_rfl) (by kernel_rfl) (by kernel_rfl) (fun _ _ _ h => h) (Or.inl ⟨by rfl, ?_⟩) (by assumption) ?_
    rotate_left 1
    · (intro W hSw; (try dsimp only at hSw); obtain ⟨e0, e1, e2, e3, e4⟩ := r9 W hSw; go_simp; (try with_reducible rfl))
    try simp only [Act.put, List.setIfInBounds_toArray, List.set_cons_zero, List.set_cons_succ]
    refine wpAnyH_ready (rs := [0]) (by kernel_rfl) (by simp) ?_
    refine AllReadyH.cons (op_at (rest := _) rfl) (fun K hK => ?_) AllReadyH.nil
    go_simp
    refine hK.out _ _ (hHeld.alloc hHeld.size _) (fun hI2 => ?_)
    clear hK K
    try simp only [Act.put, List.setIfInBounds_toArray, List.set_cons_zero, List.set_cons_succ]
    refine wpAnyH_ready (rs := [2]) (by kernel_rfl) (by simp) ?_
    refine AllReadyH.cons (op_at (rest := _) rfl) (fun K hK => ?_) AllReadyH.nil
    refine step_append_mts _ _ _ rfl rfl w9.heap.size _ 0 [] rfl (owns_emptyM w9.drew) _ _ rfl (mt9.below hI2) (by simp; omega) (by first | exact hI2.size | (simp; try omega)) ?_
    intro v10 w10 r10 g2
    have hI3 := hI2.grown g2 hI2.size (fun j e => ownBlock_ge (owns_emptyM w9.drew) e)
    refine hK.out _ _ hI3 (fun _ => ?_)
    clear hK K
    try simp only [Act.put, List.setIfInBounds_toArray, List.set_cons_zero, List.set_cons_succ]
    refine wpAnyH_ready (rs := [4]) (by kernel_rfl) (by simp) ?_
    refine AllReadyH.cons (op_at (rest := _) rfl) (fun K hK => ?_) AllReadyH.nil
    refine step_append_mts _ _ _ rfl rfl w9.heap.size _ _ _ rfl (r10) _ _ rfl (mt9.below hI3) (by simp; omega) (by first | exact hI3.size | (simp; try omega)) ?_
    intro v11 w11 r11 g4
    have hI4 := hI3.grown g4 hI3.size (fun j e => ownBlock_ge (r10) e)
    refine hK.out _ _ hI4 (fun _ => ?_)
    clear hK K
    try simp only [Act.put, List.setIfInBounds_toArray, List.set_cons_zero, List.set_cons_succ]
    have mtD : Mts w11 v11 (L0 ++ L0) := Mts.of_row (by simp) r11 (fun x hx => (mt9.all x (by simpa using hx)).below hI4)
    replace hHeld := hI4
    have CD := hide (first_m v11 (L0 ++ L0) x1.r x1.vq x1.vh w11 mtD (fun x hx => ok0 x (by simpa using hx)) (at1.below (bb2 B9 hI4)).1 (at1.below (bb2 B9 hI4)).2 ok1)
    rw [F2.out] at CD
    simp only [atI, Option.isSome_some] at CD
    refine wpAnyH_ready (rs := [6]) (by kernel_rfl) (by simp) ?_
    refine AllReadyH.cons (op_at (rest := _) rfl) (fun K hK => ?_) AllReadyH.nil
    go_simp
    refine (CD.out).mono ?_
    rintro e w12 ⟨rfl, hb12⟩
    go_wp2_with fail
    replace hHeld := hHeld.trans (hb12.mono hHeld.size)
    refine hK.out _ _ hHeld (fun _ => ?_)
    clear hK K
    try simp only [Act.put, List.setIfInBounds_toArray, List.set_cons_zero, List.set_cons_succ]
    refine wpAnyH_take (i := 7) (v := ?_) (op_at (rest := _) rfl) (by kernel_rfl) (by kernel_rfl) (by kernel_rfl) (fun _ _ _ h => h) (Or.inl ⟨by rfl, ?_⟩) (by assumption) ?_
    rotate_left 1
    · (intro W hSw; (try dsimp only at hSw); go_simp; (try with_reducible rfl))
    try simp only [Act.put, List.setIfInBounds_toArray, List.set_cons_zero, List.set_cons_succ]
    refine wpAnyH_take (i := 8) (v := ?_) (op_at (rest := _) rfl) (by kernel_rfl) (by kernel_rfl) (by kernel_rfl) (fun _ _ _ h => h) (Or.inl ⟨by rfl, ?_⟩) (by assumption) ?_
    rotate_left 1
    · (intro W hSw; (try dsimp only at hSw); go_simp; (try with_reducible rfl))
    try simp only [Act.put, List.setIfInBounds_toArray, List.set_cons_zero, List.set_cons_succ]
    refine wpAnyH_take (i := 9) (v := ?_) (op_at (rest := _) rfl) (by kernel_rfl) (by kernel_rfl) (by kernel_rfl) (fun _ _ _ h => h) (Or.inl ⟨by rfl, ?_⟩) (by assumption) ?_
    rotate_left 1
    · (intro W hSw; (try dsimp only at hSw); go_simp; (try with_reducible rfl))
    try simp only [Act.put, List.setIfInBounds_toArray, List.set_cons_zero, List.set_cons_succ]
    refine wpAnyH_take (i := 10) (v := ?_) (op_at (rest := _) rfl) (by kernel_rfl) (by kernel_rfl) (by kernel_rfl) (fun _ _ _ h => h) (Or.inl ⟨by rfl, ?_⟩) (by assumption) ?_
    rotate_left 1
    · (intro W hSw; (try dsimp only at hSw); go_simp; (try with_reducible rfl))
    try simp only [Act.put, List.setIfInBounds_toArray, List.set_cons_zero, List.set_cons_succ]
    refine wpAnyH_take (i := 11) (v := ?_) (op_at (rest := _) rfl) (by kernel_rfl) (by kernel_rfl) (by kernel_rfl) (fun _ _ _ h => h) (Or.inl ⟨by rfl, ?_⟩) (by assumption) ?_
    rotate_left 1
    · (intro W hSw; (try dsimp only at hSw); go_simp; (try with_reducible rfl))
    try simp only [Act.put, List.setIfInBounds_toArray, List.set_cons_zero, List.set_cons_succ]
    refine wpAnyH_done (by kernel_rfl) ?_ _
    refine NoPanic.normal ?_
    have B12 := bb2 B9 hHeld
    clear hI2 hI3 hI4 g2 g4 r10 r11 mtD mt9 r9 CD
    have hj2 : j < L0.length := by have := lenT.out; omega
    have hi1 : (i : Int) < (L0.length : Int) := by omega
    have hj1 : (j : Int) < (L0.length : Int) := by omega
    have hj3 : (j : Int) < (T.length : Int) := by omega
    clear lenT
    obtain ⟨hatx, g', off', he', _, F⟩ := HC.out i hi
    injection he' with he'
    injection he' with he1 he2
    subst he1 he2
    obtain ⟨haty, gT, offT, rfl, hgT, G⟩ := HCT.out j hj
    have okx := ok0 _ (List.getElem_mem hi)
    have oky := okT _ (List.getElem_mem hj)
    have ORD := HORD'.out
    generalize L0[i] = x at *
    generalize T[j] = y at *
    have BT : Below w8.heap.size w8 w12 := bb2 hb9 hHeld
    have D1 := fun q : GB w12 => hide (rorder_m x.m y.m x.vh x.vq y.vh y.vq q.W (hatx.below (bb2 B12 q.h)).1 (hatx.below (bb2 B12 q.h)).2 (haty.below (bb2 BT q.h)).1 (haty.below (bb2 BT q.h)).2 okx.order oky.order)
    rw [ORD] at D1
    clear ORD HORD' HT'
    have a0 := fun q : GB w12 => (F.below hg (bb2 B12 q.h)).1
    have a1 := fun q : GB w12 => (F.below hg (bb2 B12 q.h)).2.1
    have a2 := fun q : GB w12 => (F.below hg (bb2 B12 q.h)).2.2.1
    have a3 := fun q : GB w12 => (F.below hg (bb2 B12 q.h)).2.2.2.1
    have a4 := fun q : GB w12 => (F.below hg (bb2 B12 q.h)).2.2.2.2
    have b0 := fun q : GB w12 => (G.below hgT (bb2 BT q.h)).1
    have b1 := fun q : GB w12 => (G.below hgT (bb2 BT q.h)).2.1
    have b2 := fun q : GB w12 => (G.below hgT (bb2 BT q.h)).2.2.1
    have b3 := fun q : GB w12 => (G.below hgT (bb2 BT q.h)).2.2.2.1
    have b4 := fun q : GB w12 => (G.below hgT (bb2 BT q.h)).2.2.2.2
    go_wp2_with fail
    refine wp_region_below (by kernel_rfl) (by kernel_rfl) ?_
    repeat (first | go_big_quiet_step ((first | (go_at_call 23; exact calls_gb (D1 _).out) | (go_at_call 19; exact calls_gb (ruawake_any _)))) | quiet_step ((first | (go_at_call 23; exact calls_gb (D1 _).out) | (go_at_call 19; exact calls_gb (ruawake_any _)))))
    refine wpQuiet_nil ?_
    intro _ hw'
    obtain ⟨q, hw2⟩ := hw'
    subst hw2
    go_wp2_with fail
    go_ret
    exact ⟨rfl, bb2 (bb2 BZ B12) q.h⟩

end Go.Proofs.Ytppnkfjdgalgbaa
