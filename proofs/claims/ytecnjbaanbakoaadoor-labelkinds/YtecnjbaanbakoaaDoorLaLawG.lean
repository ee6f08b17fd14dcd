/-
  LabelKinds.
-/
import Derived.Test.YtecnjbaanbakoaaDoorLaOpen
namespace Go.Proofs.YtecnjbaanbakoaaDoor
open Go Go.RowKit Go.Shelf Go.Deep

/-- Is of more values, Has: what follows -/
theorem kinds_is {nm : ByteArray} {vs : List ByteArray} {mo : ByteArray} {l : List PairB} : (!La.oneL l nm vs || La.oneL l nm (vs ++ [mo])) = true ∧ (!La.oneL l nm vs || La.hasL l nm) = true := by
  have h1 : La.oneL l nm vs = true → La.oneL l nm (vs ++ [mo]) = true := fun h => by
    unfold La.oneL La.inL at *
    rw [List.any_eq_true] at h ⊢
    obtain ⟨p, hp, h2⟩ := h
    refine ⟨p, hp, ?_⟩
    rw [Bool.and_eq_true] at h2 ⊢
    exact ⟨h2.1, by rw [List.any_append, h2.2]; rfl⟩
  have h2 : La.oneL l nm vs = true → La.hasL l nm = true := fun h => by
    unfold La.oneL at h
    unfold La.hasL
    rw [List.any_eq_true] at h ⊢
    obtain ⟨p, hp, h2⟩ := h
    rw [Bool.and_eq_true] at h2
    exact ⟨p, hp, h2.1⟩
  cases h : La.oneL l nm vs
  · exact ⟨rfl, rfl⟩
  · rw [h1 h, h2 h]
    exact ⟨rfl, rfl⟩
theorem mayVs_more {vs : List ByteArray} {mo : ByteArray} (h : La.mayVs vs = true) (h7 : vs.length ≤ 7) (hm : La.mayV mo = true) : La.mayVs (vs ++ [mo]) = true := by
  unfold La.mayVs at *
  rw [Bool.and_eq_true, Bool.and_eq_true, decide_eq_true_eq, decide_eq_true_eq] at h
  rw [List.length_append, List.all_append, h.2, decide_eq_true (by simp), decide_eq_true (by simp; omega)]
  simp [hm]
theorem mayN_more {k : Int} {nm : ByteArray} {vs : List ByteArray} {mo : ByteArray} (h : La.mayN ⟨k, nm, vs⟩ = true) (h0 : vs.length ≠ 0) (h7 : vs.length ≤ 7) (hm : La.mayV mo = true) : (k = 1 ∨ k = 2) ∧ La.mayN ⟨k, nm, vs ++ [mo]⟩ = true ∧ La.mayN ⟨3, nm, []⟩ = true := by
  have hk : k = 1 ∨ k = 2 := by
    unfold La.mayN at h
    by_cases hk : k = 1 ∨ k = 2
    · exact hk
    · rw [if_neg hk] at h
      by_cases hk3 : k = 3 ∨ k = 4
      · rw [if_pos hk3, decide_eq_false h0, Bool.and_false] at h
        cases h
      · rw [if_neg hk3, Bool.and_false] at h
        cases h
  refine ⟨hk, ?_, ?_⟩
  · unfold La.mayN at *
    rw [if_pos hk, Bool.and_eq_true] at h
    rw [if_pos hk, h.1, mayVs_more h.2 h7 hm]
    rfl
  · unfold La.mayN at *
    rw [if_pos hk, Bool.and_eq_true] at h
    rw [h.1]
    rfl
theorem mayV_of {s : ByteArray} (h : (s.toList == []) = true ∨ D.isLabel s.data.toList = true) : La.mayV s = true := by
  unfold La.mayV
  rcases h with h | h
  · rw [h, Bool.true_or]
  · rw [h, Bool.or_true]

set_option maxHeartbeats 6400000 in
theorem kinds_law (v0 : Value) (mo0 : ByteArray) (v1 : Value) (w : World) (a0 : ArgN w v0) (hmo0 : mo0.size ≤ maxLen) (a1 : ArgPrs w v1) :
    Calls Tryd.prog 7 #[v0, .string mo0, v1] w fun e w' => e = .returned (.bool true) ∧ Below w.heap.size w w' := by
  obtain ⟨⟨⟨kd0, nm0, vs0⟩, xa, xc⟩, rfl, hx0, raw0⟩ := a0
  obtain ⟨l2, hs1, ok1⟩ := a1
  have CF := hide (lfew_one (.slice (some ⟨w.heap.size + 1, 0, none⟩) 1 1) ⟨⟨kd0, nm0, vs0⟩, xa, xc⟩ (((w.alloc (.cells #[.int .i64 kd0, .string nm0, .slice xa vs0.length xc] 29)).drew).alloc (.cells #[.int .i64 kd0, .string nm0, .slice xa vs0.length xc] 29)) (Sl.need ((w.alloc (.cells #[.int .i64 kd0, .string nm0, .slice xa vs0.length xc] 29)).drew) ⟨⟨kd0, nm0, vs0⟩, xa, xc⟩ 29 (w.heap.size + 1) (by simp [World.drew]) (hx0.below (((Below.refl _ _).alloc (Nat.le_refl _) _).drew))) raw0)
  have CL := hide (fun W (h : Below w.heap.size w W) => bfew_any v1 l2 W (hs1.below h) ok1)
  clear hs1 ok1 hx0 raw0
  dsimp only at *
  go_enter Tryd.func7, Tryd.ntmps7
  go_wp2_with fail
  refine region_out [some 11, some 12, some 13, some 14, some 15, some 16, some 17, some 18, some 19, some 1, some 2] (fun f W => ∃ (y : NV) (g off cp : Nat) (u : Value), f = opF [.agg #[.int .i64 kd0, .string nm0, .slice xa vs0.length xc], .slice (some ⟨w.heap.size + 1, 0, none⟩) 1 1, .slice (some ⟨g, off, none⟩) 1 cp, .pointer (some ⟨g, off, none⟩), nV y, .string mo0, .string (fewB mo0), v1, u, .string (fewB mo0), u] ∧ y.n = fewN ⟨kd0, nm0, vs0⟩ ∧ W.heap[w.heap.size]? = some (.cells #[.int .i64 y.n.kind, .string y.n.name, y.v] 29) ∧ y.own W ∧ (∃ b, W.ownsRow b 41 2 u (fewB2 l2).length (flat (fewB2 l2))) ∧ Below w.heap.size w W) ?_ ?_
  · refine wp_region_noPanic ?_
    refine wp_region_held_drew (S := fun W => Below w.heap.size w W) (by kernel_rfl) (((Below.refl _ _).alloc (Nat.le_refl _) _).drew) (fun hHeld => ?_)
    refine wpAnyH_take (i := 5) (v := ?_) (op_at (rest := _) rfl) (by kernel_rfl) (by kernel_rfl) (by kernel_rfl) (fun _ _ _ h => h) (Or.inl ⟨by rfl, ?_⟩) (by assumption) ?_
    rotate_left 1
    · (intro W hSw; (try dsimp only at hSw); go_simp; (try with_reducible rfl))
    try simp only [Act.put, List.setIfInBounds_toArray, List.set_cons_zero, List.set_cons_succ]
    refine wpAnyH_take (i := 7) (v := ?_) (op_at (rest := _) rfl) (by kernel_rfl) (by kernel_rfl) (by kernel_rfl) (fun _ _ _ h => h) (Or.inl ⟨by rfl, ?_⟩) (by assumption) ?_
    rotate_left 1
    · (intro W hSw; (try dsimp only at hSw); go_simp; (try with_reducible rfl))
    try simp only [Act.put, List.setIfInBounds_toArray, List.set_cons_zero, List.set_cons_succ]
    refine wpAnyH_ready (rs := [0]) (by kernel_rfl) (by simp) ?_
    refine AllReadyH.cons (op_at (rest := _) rfl) (fun K hK => ?_) AllReadyH.nil
    go_simp
    refine hK.out _ _ hHeld (fun _ => ?_)
    clear hK K
    try simp only [Act.put, List.setIfInBounds_toArray, List.set_cons_zero, List.set_cons_succ]
    refine wpAnyH_ready (rs := [1]) (by kernel_rfl) (by simp) ?_
    refine AllReadyH.cons (op_at (rest := _) rfl) (fun K hK => ?_) AllReadyH.nil
    go_simp
    refine hK.out _ _ (hHeld.alloc hHeld.size _) (fun hHeld => ?_)
    clear hK K
    try simp only [Act.put, List.setIfInBounds_toArray, List.set_cons_zero, List.set_cons_succ]
    refine wpAnyH_ready (rs := [2]) (by kernel_rfl) (by simp) ?_
    refine AllReadyH.cons (op_at (rest := _) rfl) (fun K hK => ?_) AllReadyH.nil
    go_simp
    refine CF.out.mono ?_
    rintro e w2 ⟨g, off, cp, y, rfl, hy, owy, hcy, hb2⟩
    have HYN := hide hy
    clear hy
    go_wp2_with fail
    replace hHeld := hHeld.trans (hb2.mono hHeld.size)
    have HCY := hide hcy
    have BX2 : w2.heap[w.heap.size]? = some (.cells #[.int .i64 kd0, .string nm0, .slice xa vs0.length xc] 29) := box_block (o := .cells #[.int .i64 kd0, .string nm0, .slice xa vs0.length xc] 29) (((Below.refl _ _).drew).trans ((((Below.refl _ _).alloc (by simp) _).trans (hb2.mono (by simp)))))
    refine hK.out _ _ hHeld (fun _ => ?_)
    clear hK K hb2 hcy
    try simp only [Act.put, List.setIfInBounds_toArray, List.set_cons_zero, List.set_cons_succ]
    refine wpAnyH_take (i := 3) (v := ?_) (op_at (rest := _) rfl) (by kernel_rfl) (by kernel_rfl) (by kernel_rfl) (fun _ _ _ h => h) (Or.inl ⟨by rfl, ?_⟩) (by assumption) ?_
    rotate_left 1
    · (intro W hSw; (try dsimp only at hSw); go_simp; (try with_reducible rfl))
    try simp only [Act.put, List.setIfInBounds_toArray, List.set_cons_zero, List.set_cons_succ]
    refine wpAnyH_ready (rs := [4, 6]) (by kernel_rfl) (by simp) ?_
    refine AllReadyH.cons (op_at (rest := _) rfl) (fun K hK => ?_) (AllReadyH.cons (op_at (rest := _) rfl) (fun K hK => ?_) AllReadyH.nil)
    · obtain ⟨q0, q1, q2⟩ := HCY.out _ (Below.refl _ _)
      go_simp
      refine hK.out _ _ hHeld (fun _ => ?_)
      clear hK K q0 q1 q2
      try simp only [Act.put, List.setIfInBounds_toArray, List.set_cons_zero, List.set_cons_succ]
      refine wpAnyH_ready (rs := [6]) (by kernel_rfl) (by simp) ?_
      refine AllReadyH.cons (op_at (rest := _) rfl) (fun K hK => ?_) AllReadyH.nil
      go_simp
      refine (fewB_any mo0 _ hmo0).mono ?_
      rintro e w9 ⟨rfl, hw9⟩
      subst w9
      go_wp2_with fail
      refine hK.out _ _ hHeld (fun _ => ?_)
      clear hK K
      try simp only [Act.put, List.setIfInBounds_toArray, List.set_cons_zero, List.set_cons_succ]
      refine wpAnyH_ready (rs := [8]) (by kernel_rfl) (by simp) ?_
      refine AllReadyH.cons (op_at (rest := _) rfl) (fun K hK => ?_) AllReadyH.nil
      go_simp
      refine (CL.out _ hHeld).mono ?_
      rintro e w3 ⟨u, rfl, hru, hb3⟩
      go_wp2_with fail
      replace hHeld := hHeld.trans (hb3.mono hHeld.size)
      refine hK.out _ _ hHeld (fun _ => ?_)
      clear hK K
      try simp only [Act.put, List.setIfInBounds_toArray, List.set_cons_zero, List.set_cons_succ]
      have hz := blk_below BX2 hb3
      have lz := liveN hz
      obtain ⟨z0, z1, z2⟩ : _ ∧ _ ∧ _ := ⟨cellN hz (i := 0) rfl, cellN hz (i := 1) rfl, cellN hz (i := 2) rfl⟩
      refine wpAnyH_ready (rs := [9]) (by kernel_rfl) (by simp) ?_
      refine AllReadyH.cons (op_at (rest := _) rfl) (fun K hK => ?_) AllReadyH.nil
      go_simp
      have KB := setL_all [.int .i64 y.n.kind, .string y.n.name, y.v] hz rfl
      have KS := setL_below (w := w) (B := w.heap.size) (g := w.heap.size) (Nat.le_refl _) [.int .i64 y.n.kind, .string y.n.name, y.v] w3 0 hHeld
      obtain ⟨by0, owy0⟩ := owy
      have KO := row_setL (cs := [.int .i64 y.n.kind, .string y.n.name, y.v]) (k := 0) (ownsRow_below owy0 hb3) hz (by decide)
      have KP := row_setL (cs := [.int .i64 y.n.kind, .string y.n.name, y.v]) (k := 0) hru hz (by decide)
      change K _ (setL w3 w.heap.size 0 [.int .i64 y.n.kind, .string y.n.name, y.v])
      generalize setL w3 w.heap.size 0 [.int .i64 y.n.kind, .string y.n.name, y.v] = w4 at *
      refine hK.out _ _ KS (fun hHeld => ?_)
      clear hK K lz z0 z1 z2
      try simp only [Act.put, List.setIfInBounds_toArray, List.set_cons_zero, List.set_cons_succ]
      refine wpAnyH_take (i := 10) (v := ?_) (op_at (rest := _) rfl) (by kernel_rfl) (by kernel_rfl) (by kernel_rfl) (fun _ _ _ h => h) (Or.inl ⟨by rfl, ?_⟩) (by assumption) ?_
      rotate_left 1
      · (intro W hSw; (try dsimp only at hSw); go_simp; (try with_reducible rfl))
      try simp only [Act.put, List.setIfInBounds_toArray, List.set_cons_zero, List.set_cons_succ]
      refine wpAnyH_take (i := 11) (v := ?_) (op_at (rest := _) rfl) (by kernel_rfl) (by kernel_rfl) (by kernel_rfl) (fun _ _ _ h => h) (Or.inl ⟨by rfl, ?_⟩) (by assumption) ?_
      rotate_left 1
      · (intro W hSw; (try dsimp only at hSw); go_simp; (try with_reducible rfl))
      try simp only [Act.put, List.setIfInBounds_toArray, List.set_cons_zero, List.set_cons_succ]
      refine wpAnyH_done (by kernel_rfl) ?_ _
      refine NoPanic.normal ?_
      exact ⟨rfl, opF [.agg #[.int .i64 kd0, .string nm0, .slice xa vs0.length xc], .slice (some ⟨w.heap.size + 1, 0, none⟩) 1 1, .slice (some ⟨g, off, none⟩) 1 cp, .pointer (some ⟨g, off, none⟩), nV y, .string mo0, .string (fewB mo0), v1, u, .string (fewB mo0), u], (by simp only [putF, opF, List.getD_cons_zero, List.getD_cons_succ, Nat.reduceAdd, Act.put, List.setIfInBounds_toArray, List.set_cons_zero, List.set_cons_succ]), y, g, off, cp, u, rfl, HYN.out, KB, ⟨by0, KO⟩, ⟨_, KP⟩, KS⟩
    · go_simp
      refine (fewB_any mo0 _ hmo0).mono ?_
      rintro e w9 ⟨rfl, hw9⟩
      subst w9
      go_wp2_with fail
      refine hK.out _ _ hHeld (fun _ => ?_)
      clear hK K
      try simp only [Act.put, List.setIfInBounds_toArray, List.set_cons_zero, List.set_cons_succ]
      refine wpAnyH_ready (rs := [4, 8]) (by kernel_rfl) (by simp) ?_
      refine AllReadyH.cons (op_at (rest := _) rfl) (fun K hK => ?_) (AllReadyH.cons (op_at (rest := _) rfl) (fun K hK => ?_) AllReadyH.nil)
      · obtain ⟨q0, q1, q2⟩ := HCY.out _ (Below.refl _ _)
        go_simp
        refine hK.out _ _ hHeld (fun _ => ?_)
        clear hK K q0 q1 q2
        try simp only [Act.put, List.setIfInBounds_toArray, List.set_cons_zero, List.set_cons_succ]
        refine wpAnyH_ready (rs := [8]) (by kernel_rfl) (by simp) ?_
        refine AllReadyH.cons (op_at (rest := _) rfl) (fun K hK => ?_) AllReadyH.nil
        go_simp
        refine (CL.out _ hHeld).mono ?_
        rintro e w3 ⟨u, rfl, hru, hb3⟩
        go_wp2_with fail
        replace hHeld := hHeld.trans (hb3.mono hHeld.size)
        refine hK.out _ _ hHeld (fun _ => ?_)
        clear hK K
        try simp only [Act.put, List.setIfInBounds_toArray, List.set_cons_zero, List.set_cons_succ]
        have hz := blk_below BX2 hb3
        have lz := liveN hz
        obtain ⟨z0, z1, z2⟩ : _ ∧ _ ∧ _ := ⟨cellN hz (i := 0) rfl, cellN hz (i := 1) rfl, cellN hz (i := 2) rfl⟩
        refine wpAnyH_ready (rs := [9]) (by kernel_rfl) (by simp) ?_
        refine AllReadyH.cons (op_at (rest := _) rfl) (fun K hK => ?_) AllReadyH.nil
        go_simp
        have KB := setL_all [.int .i64 y.n.kind, .string y.n.name, y.v] hz rfl
        have KS := setL_below (w := w) (B := w.heap.size) (g := w.heap.size) (Nat.le_refl _) [.int .i64 y.n.kind, .string y.n.name, y.v] w3 0 hHeld
        obtain ⟨by0, owy0⟩ := owy
        have KO := row_setL (cs := [.int .i64 y.n.kind, .string y.n.name, y.v]) (k := 0) (ownsRow_below owy0 hb3) hz (by decide)
        have KP := row_setL (cs := [.int .i64 y.n.kind, .string y.n.name, y.v]) (k := 0) hru hz (by decide)
        change K _ (setL w3 w.heap.size 0 [.int .i64 y.n.kind, .string y.n.name, y.v])
        generalize setL w3 w.heap.size 0 [.int .i64 y.n.kind, .string y.n.name, y.v] = w4 at *
        refine hK.out _ _ KS (fun hHeld => ?_)
        clear hK K lz z0 z1 z2
        try simp only [Act.put, List.setIfInBounds_toArray, List.set_cons_zero, List.set_cons_succ]
        refine wpAnyH_take (i := 10) (v := ?_) (op_at (rest := _) rfl) (by kernel_rfl) (by kernel_rfl) (by kernel_rfl) (fun _ _ _ h => h) (Or.inl ⟨by rfl, ?_⟩) (by assumption) ?_
        rotate_left 1
        · (intro W hSw; (try dsimp only at hSw); go_simp; (try with_reducible rfl))
        try simp only [Act.put, List.setIfInBounds_toArray, List.set_cons_zero, List.set_cons_succ]
        refine wpAnyH_take (i := 11) (v := ?_) (op_at (rest := _) rfl) (by kernel_rfl) (by kernel_rfl) (by kernel_rfl) (fun _ _ _ h => h) (Or.inl ⟨by rfl, ?_⟩) (by assumption) ?_
        rotate_left 1
        · (intro W hSw; (try dsimp only at hSw); go_simp; (try with_reducible rfl))
        try simp only [Act.put, List.setIfInBounds_toArray, List.set_cons_zero, List.set_cons_succ]
        refine wpAnyH_done (by kernel_rfl) ?_ _
        refine NoPanic.normal ?_
        exact ⟨rfl, opF [.agg #[.int .i64 kd0, .string nm0, .slice xa vs0.length xc], .slice (some ⟨w.heap.size + 1, 0, none⟩) 1 1, .slice (some ⟨g, off, none⟩) 1 cp, .pointer (some ⟨g, off, none⟩), nV y, .string mo0, .string (fewB mo0), v1, u, .string (fewB mo0), u], (by simp only [putF, opF, List.getD_cons_zero, List.getD_cons_succ, Nat.reduceAdd, Act.put, List.setIfInBounds_toArray, List.set_cons_zero, List.set_cons_succ]), y, g, off, cp, u, rfl, HYN.out, KB, ⟨by0, KO⟩, ⟨_, KP⟩, KS⟩
      · go_simp
        refine (CL.out _ hHeld).mono ?_
        rintro e w3 ⟨u, rfl, hru, hb3⟩
        go_wp2_with fail
        replace hHeld := hHeld.trans (hb3.mono hHeld.size)
        refine hK.out _ _ hHeld (fun _ => ?_)
        clear hK K
        try simp only [Act.put, List.setIfInBounds_toArray, List.set_cons_zero, List.set_cons_succ]
        refine wpAnyH_ready (rs := [4]) (by kernel_rfl) (by simp) ?_
        refine AllReadyH.cons (op_at (rest := _) rfl) (fun K hK => ?_) AllReadyH.nil
        obtain ⟨q0, q1, q2⟩ := HCY.out _ (hb3)
        go_simp
        refine hK.out _ _ hHeld (fun _ => ?_)
        clear hK K q0 q1 q2
        try simp only [Act.put, List.setIfInBounds_toArray, List.set_cons_zero, List.set_cons_succ]
        have hz := blk_below BX2 hb3
        have lz := liveN hz
        obtain ⟨z0, z1, z2⟩ : _ ∧ _ ∧ _ := ⟨cellN hz (i := 0) rfl, cellN hz (i := 1) rfl, cellN hz (i := 2) rfl⟩
        refine wpAnyH_ready (rs := [9]) (by kernel_rfl) (by simp) ?_
        refine AllReadyH.cons (op_at (rest := _) rfl) (fun K hK => ?_) AllReadyH.nil
        go_simp
        have KB := setL_all [.int .i64 y.n.kind, .string y.n.name, y.v] hz rfl
        have KS := setL_below (w := w) (B := w.heap.size) (g := w.heap.size) (Nat.le_refl _) [.int .i64 y.n.kind, .string y.n.name, y.v] w3 0 hHeld
        obtain ⟨by0, owy0⟩ := owy
        have KO := row_setL (cs := [.int .i64 y.n.kind, .string y.n.name, y.v]) (k := 0) (ownsRow_below owy0 hb3) hz (by decide)
        have KP := row_setL (cs := [.int .i64 y.n.kind, .string y.n.name, y.v]) (k := 0) hru hz (by decide)
        change K _ (setL w3 w.heap.size 0 [.int .i64 y.n.kind, .string y.n.name, y.v])
        generalize setL w3 w.heap.size 0 [.int .i64 y.n.kind, .string y.n.name, y.v] = w4 at *
        refine hK.out _ _ KS (fun hHeld => ?_)
        clear hK K lz z0 z1 z2
        try simp only [Act.put, List.setIfInBounds_toArray, List.set_cons_zero, List.set_cons_succ]
        refine wpAnyH_take (i := 10) (v := ?_) (op_at (rest := _) rfl) (by kernel_rfl) (by kernel_rfl) (by kernel_rfl) (fun _ _ _ h => h) (Or.inl ⟨by rfl, ?_⟩) (by assumption) ?_
        rotate_left 1
        · (intro W hSw; (try dsimp only at hSw); go_simp; (try with_reducible rfl))
        try simp only [Act.put, List.setIfInBounds_toArray, List.set_cons_zero, List.set_cons_succ]
        refine wpAnyH_take (i := 11) (v := ?_) (op_at (rest := _) rfl) (by kernel_rfl) (by kernel_rfl) (by kernel_rfl) (fun _ _ _ h => h) (Or.inl ⟨by rfl, ?_⟩) (by assumption) ?_
        rotate_left 1
        · (intro W hSw; (try dsimp only at hSw); go_simp; (try with_reducible rfl))
        try simp only [Act.put, List.setIfInBounds_toArray, List.set_cons_zero, List.set_cons_succ]
        refine wpAnyH_done (by kernel_rfl) ?_ _
        refine NoPanic.normal ?_
        exact ⟨rfl, opF [.agg #[.int .i64 kd0, .string nm0, .slice xa vs0.length xc], .slice (some ⟨w.heap.size + 1, 0, none⟩) 1 1, .slice (some ⟨g, off, none⟩) 1 cp, .pointer (some ⟨g, off, none⟩), nV y, .string mo0, .string (fewB mo0), v1, u, .string (fewB mo0), u], (by simp only [putF, opF, List.getD_cons_zero, List.getD_cons_succ, Nat.reduceAdd, Act.put, List.setIfInBounds_toArray, List.set_cons_zero, List.set_cons_succ]), y, g, off, cp, u, rfl, HYN.out, KB, ⟨by0, KO⟩, ⟨_, KP⟩, KS⟩
  rintro f w5 ⟨y, g, off, cp, u, rfl, hy, HBX, owy, ⟨bu, hru⟩, BB⟩
  simp only [putF, opF, List.getD_cons_zero, List.getD_cons_succ, Nat.reduceAdd, Act.put, List.setIfInBounds_toArray, List.set_cons_zero, List.set_cons_succ]
  have OKY : OkN y.n := by rw [hy]; exact fewN_ok _
  have SY := owy.at_
  have SP : Prs w5 u (fewB2 l2) := Prs.of_row rfl hru
  have okl := few_okB l2
  have okl2 := bfew_okP l2
  clear hy owy hru CF CL
  have hmo := fewB_le mo0
  generalize fewB mo0 = mo at *
  generalize fewB2 l2 = l at *
  obtain ⟨⟨kd, nm, vs⟩, ya, yc⟩ := y
  dsimp only at *
  have SPH := hide SP
  obtain ⟨c, cc, rfl, _⟩ := SP
  have RY := OKY.raw
  have hvl := OKY.len
  dsimp only at hvl
  have okm : mo.size ≤ maxLen := by unfold maxLen; omega
  have KN := hide (fun W v (hv : Sl EN W v [⟨⟨kd, nm, vs⟩, ya, yc⟩]) => rlneeds_any v [⟨⟨kd, nm, vs⟩, ya, yc⟩] W hv (fun z hz => by rw [List.mem_singleton] at hz; subst hz; exact OKY))
  rw [show La.needs (nbs [⟨⟨kd, nm, vs⟩, ya, yc⟩]) = La.mayN ⟨kd, nm, vs⟩ from La.needs_one ⟨kd, nm, vs⟩] at KN
  have KL := hide (fun W (hW : Below w5.heap.size w5 W) => rlmay_any (.slice c l.length cc) l W (SPH.out.below hW) okl)
  have KM := hide (fun W (x : NV) (hs : Sl ES W x.v x.n.vals) (hr : RawN x.n) (hW : Below w5.heap.size w5 W) => lmet_any x (.slice c l.length cc) l W hs hr (SPH.out.below hW) okl2)
  have SYH := hide SY
  have B6 := (Below.refl w5.heap.size w5).alloc (Nat.le_refl _) (.cells #[.int .i64 kd, .string nm, .slice ya vs.length yc] 29)
  have SN := hide (Sl.need w5 ⟨⟨kd, nm, vs⟩, ya, yc⟩ 29 _ rfl SY)
  obtain ⟨f0, f1, f2⟩ : _ ∧ _ ∧ _ := ⟨cellN HBX (i := 0) rfl, cellN HBX (i := 1) rfl, cellN HBX (i := 2) rfl⟩
  clear SY
  cases hm : La.mayN ⟨kd, nm, vs⟩
  · rw [hm] at KN
    clear KM KL
    go_wp2_with fail
    refine (KN.out _ _ SN.out).mono ?_
    rintro e w6 ⟨rfl, hb6⟩
    go_wp2_with fail
    refine (lawake_any _).mono ?_
    rintro e w9 ⟨rfl, hb9⟩
    go_wp2_with fail
    go_ret
    exact ⟨rfl, bb2 BB (bb2 (bb2 B6 hb6) hb9)⟩
  cases hl : La.mayL l
  · rw [hm] at KN
    rw [hl] at KL
    clear KM
    go_wp2_with fail
    refine (KN.out _ _ SN.out).mono ?_
    rintro e w6 ⟨rfl, hb6⟩
    go_wp2_with fail
    refine (KL.out _ (bb2 B6 hb6)).mono ?_
    rintro e w7 ⟨rfl, hb7⟩
    go_wp2_with fail
    refine (lawake_any _).mono ?_
    rintro e w9 ⟨rfl, hb9⟩
    go_wp2_with fail
    go_ret
    exact ⟨rfl, bb2 BB (bb2 (bb2 B6 (bb2 hb6 hb7)) hb9)⟩
  by_cases h0 : vs.length = 0
  · have h0' : ((vs.length : Int) == 0) = true := by simpa using h0
    rw [hm] at KN
    rw [hl] at KL
    clear KM h0
    go_wp2_with fail
    refine (KN.out _ _ SN.out).mono ?_
    rintro e w6 ⟨rfl, hb6⟩
    go_wp2_with fail
    refine (KL.out _ (bb2 B6 hb6)).mono ?_
    rintro e w7 ⟨rfl, hb7⟩
    have k7 := blk_below HBX (bb2 (bb2 B6 hb6) hb7)
    obtain ⟨g0, g1, g2⟩ : _ ∧ _ ∧ _ := ⟨cellN k7 (i := 0) rfl, cellN k7 (i := 1) rfl, cellN k7 (i := 2) rfl⟩
    go_wp2_with fail
    refine (lawake_any _).mono ?_
    rintro e w9 ⟨rfl, hb9⟩
    go_wp2_with fail
    go_ret
    exact ⟨rfl, bb2 BB (bb2 (bb2 B6 (bb2 hb6 hb7)) hb9)⟩
  have h0' : ((vs.length : Int) == 0) = false := by simpa using h0
  by_cases h7 : 7 < vs.length
  · have h7' : decide (7 < vs.length) = true := decide_eq_true h7
    have h7'' : (7 : Int) < (vs.length : Int) := by omega
    rw [hm] at KN
    rw [hl] at KL
    clear KM h0
    go_wp2_with fail
    refine (KN.out _ _ SN.out).mono ?_
    rintro e w6 ⟨rfl, hb6⟩
    go_wp2_with fail
    refine (KL.out _ (bb2 B6 hb6)).mono ?_
    rintro e w7 ⟨rfl, hb7⟩
    have k7 := blk_below HBX (bb2 (bb2 B6 hb6) hb7)
    obtain ⟨g0, g1, g2⟩ : _ ∧ _ ∧ _ := ⟨cellN k7 (i := 0) rfl, cellN k7 (i := 1) rfl, cellN k7 (i := 2) rfl⟩
    go_wp2_with fail
    refine (lawake_any _).mono ?_
    rintro e w9 ⟨rfl, hb9⟩
    go_wp2_with fail
    go_ret
    exact ⟨rfl, bb2 BB (bb2 (bb2 B6 (bb2 hb6 hb7)) hb9)⟩
  have h7' : decide (7 < vs.length) = false := decide_eq_false h7
  have h7'' : ¬ (7 : Int) < (vs.length : Int) := by omega
  have H0 := hide h0
  clear h0
  by_cases hbad : (mo.toList == []) = false ∧ D.isLabel mo.data.toList = false
  · obtain ⟨hb1, hb2⟩ := hbad
    have CLB := hide (fun W => rlabel_any mo W okm)
    rw [hb2] at CLB
    rw [hm] at KN
    rw [hl] at KL
    clear KM hb2
    go_wp2_with fail
    refine (KN.out _ _ SN.out).mono ?_
    rintro e w6 ⟨rfl, hb6⟩
    go_wp2_with fail
    refine (KL.out _ (bb2 B6 hb6)).mono ?_
    rintro e w7 ⟨rfl, hb7⟩
    have k7 := blk_below HBX (bb2 (bb2 B6 hb6) hb7)
    obtain ⟨g0, g1, g2⟩ : _ ∧ _ ∧ _ := ⟨cellN k7 (i := 0) rfl, cellN k7 (i := 1) rfl, cellN k7 (i := 2) rfl⟩
    go_wp2_with fail
    refine (CLB.out _).mono ?_
    rintro e x ⟨rfl, hx⟩
    subst x
    go_wp2_with fail
    refine (lawake_any _).mono ?_
    rintro e w9 ⟨rfl, hb9⟩
    go_wp2_with fail
    go_ret
    exact ⟨rfl, bb2 BB (bb2 (bb2 B6 (bb2 hb6 hb7)) hb9)⟩
  have hgood : (mo.toList == []) = true ∨ D.isLabel mo.data.toList = true := by
    cases h1 : (mo.toList == [])
    · cases h2 : D.isLabel mo.data.toList
      · exact absurd ⟨h1, h2⟩ hbad
      · exact .inr rfl
    · exact .inl rfl
  obtain ⟨hk, hmw, hmh⟩ := mayN_more hm H0.out (by omega) (mayV_of hgood)
  have HK := hide hk
  have HE1 : Hid (La.met ⟨kd, nm, vs⟩ l = La.metN ⟨kd, nm, vs⟩ l) := by unfold Hid La.met; rw [hm, hl]; rfl
  have HE2 : Hid (La.met ⟨kd, nm, vs ++ [mo]⟩ l = La.metN ⟨kd, nm, vs ++ [mo]⟩ l) := by unfold Hid La.met; rw [hmw, hl]; rfl
  have HE3 : Hid (La.met ⟨3, nm, []⟩ l = La.hasL l nm) := by unfold Hid La.met; rw [hmh, hl]; rfl
  rw [hm] at KN
  rw [hl] at KL
  clear hbad hm hl hmw hmh hk
  have F1 := hide (kinds_is (nm := nm) (vs := vs) (mo := mo) (l := l))
  have F2 := hide (kinds_is (nm := nm) (vs := vs ++ [mo]) (mo := mo) (l := l)).2
  have SPK := hide okl2
  clear hvl h7
  rcases hgood with hgd | hgd
  · obtain ⟨ws, hws⟩ : ∃ z, z = vs ++ [mo] := ⟨_, rfl⟩
    have HWS := hide hws
    rw [← hws] at HE2 F1 F2
    clear hws
    go_wp2_with fail
    refine (KN.out _ _ SN.out).mono ?_
    rintro e w6 ⟨rfl, hb6⟩
    go_wp2_with fail
    refine (KL.out _ (bb2 B6 hb6)).mono ?_
    rintro e w7 ⟨rfl, hb7⟩
    have B57 := bb2 (bb2 B6 hb6) hb7
    have k7 := blk_below HBX B57
    have BX7 := bb2 B57 ((Below.refl w7.heap.size w7).alloc (Nat.le_refl _) (.cells #[.int .i64 kd, .string nm, .slice ya vs.length yc] 29))
    clear f0 f1 f2
    obtain ⟨f0, f1, f2⟩ : _ ∧ _ ∧ _ := ⟨cellN k7 (i := 0) rfl, cellN k7 (i := 1) rfl, cellN k7 (i := 2) rfl⟩
    have k8 := blk_below k7 ((Below.refl w7.heap.size w7).alloc (Nat.le_refl _) (.cells #[.int .i64 kd, .string nm, .slice ya vs.length yc] 29))
    have k9 := blk_below k8 ((Below.refl (w7.alloc (.cells #[.int .i64 kd, .string nm, .slice ya vs.length yc] 29)).heap.size (w7.alloc (.cells #[.int .i64 kd, .string nm, .slice ya vs.length yc] 29))).alloc (Nat.le_refl _) (.cells #[] 9))
    have y2 := cellN k9 (i := 2) rfl
    go_wp2_with (at_builtin; first
      | (refine wpList_append_sl (E := ES) 27 9 _ 16 Tryd.underlying27 Tryd.infoStr rfl (by decide) _ _ _ rfl (by rfl) (w7.heap.size + 1) _ 0 [] rfl (owns_emptyT 9 ES.n (w7.alloc (.cells #[.int .i64 kd, .string nm, .slice ya vs.length yc] 29)) _ (by simp)) _ _ rfl (SYH.out.below (bb2 BX7 ((Below.refl _ _).alloc (Nat.le_refl _) _))) (by have := H0.out; omega) (by simp) ?_; intro v8 w8 r8 g8; have B8 : Below (w7.alloc (.cells #[.int .i64 kd, .string nm, .slice ya vs.length yc] 29)).heap.size (w7.alloc (.cells #[.int .i64 kd, .string nm, .slice ya vs.length yc] 29)) w8 := ((Below.refl _ _).alloc (Nat.le_refl _) _).grown g8 (by simp) (fun j e => by have := ownBlock_ge (owns_emptyT 9 ES.n (w7.alloc (.cells #[.int .i64 kd, .string nm, .slice ya vs.length yc] 29)) (w7.heap.size + 1) (by simp)) e; simpa using this); have hs8 := B8.size; clear g8)
      | (refine wpList_append_sl (E := ES) 27 9 _ 16 Tryd.underlying27 Tryd.infoStr rfl (by decide) _ _ _ rfl (by rfl) (w7.heap.size + 1) _ _ _ rfl (ownsRow_below r8 ((Below.refl _ _).alloc (Nat.le_refl _) _)) _ _ rfl (Sl.at_block (E := ES) (x := mo) (alloc_new w8 _) trivial) (by simp; omega) (by simp at hs8; simp; omega) ?_; intro v9 w9 r9 g9; have B9 : Below (w7.alloc (.cells #[.int .i64 kd, .string nm, .slice ya vs.length yc] 29)).heap.size (w7.alloc (.cells #[.int .i64 kd, .string nm, .slice ya vs.length yc] 29)) w9 := (B8.alloc hs8 _).grown g9 (by simp at hs8; simp; omega) (fun j e => by have := ownBlock_ge (ownsRow_below r8 ((Below.refl _ _).alloc (Nat.le_refl _) (.cells #[.string mo] 9))) e; simpa using this); have r9' : w9.ownsRow (w7.heap.size + 1) 9 ES.n v9 ws.length (ES.flat ws) := (by rw [HWS.out]; simpa using r9); obtain ⟨a9, c9, hv9⟩ := row_form r9'; subst hv9; clear r9 g9 r8 B8 hs8; have hz := box_block B9; have z2 := cellN hz (i := 2) rfl; have lz := liveN hz))
    have KB := setL_at (g := w7.heap.size) (t := 29) [.slice a9 ws.length c9] [.int .i64 kd, .string nm] [.slice ya vs.length yc] w9 hz rfl
    have KS := setL_below (w := w7) (B := w7.heap.size) (g := w7.heap.size) (Nat.le_refl _) [.slice a9 ws.length c9] w9 2 (below_box B9)
    have KR := row_setLb (W := w9) (g := w7.heap.size) (k := 2) (cs := [.slice a9 ws.length c9]) r9' (by omega)
    change (setL w9 w7.heap.size 2 [.slice a9 ws.length c9]).heap[w7.heap.size]? = _ at KB
    clear z2 lz hz B9 r9' f0 f1 f2
    change Code.wp _ _ _ _ (setL w9 w7.heap.size 2 [.slice a9 ws.length c9])
    generalize setL w9 w7.heap.size 2 [.slice a9 ws.length c9] = w10 at *
    have SW : Sl ES w10 (.slice a9 ws.length c9) ws := Sl.of_row (E := ES) rfl KR (fun _ _ => trivial)
    have D1 := hide (fun W (hW : Below w10.heap.size w10 W) => blk_below HBX (bb2 B57 (bb2 KS hW)))
    have D2 := hide (fun W (hW : Below w10.heap.size w10 W) => blk_below KB hW)
    have BW := hide (bb2 B57 KS)
    have M1 := hide (fun W (hW : Below w10.heap.size w10 W) => KM.out W ⟨⟨kd, nm, vs⟩, ya, yc⟩ (SYH.out.below (bb2 BW.out hW)) RY (bb2 BW.out hW))
    have M2 := hide (fun W (hW : Below w10.heap.size w10 W) => KM.out W ⟨⟨kd, nm, ws⟩, a9, c9⟩ (SW.below hW) ⟨RY.name, fun s hs => (List.mem_append.1 (HWS.out ▸ hs)).elim (RY.vals s) (fun h => by rw [List.mem_singleton] at h; subst h; exact okm)⟩ (bb2 BW.out hW))
    have M3 := hide (fun W (hW : Below w10.heap.size w10 W) => KM.out W ⟨⟨3, nm, []⟩, none, 0⟩ (Sl.nil W) ⟨RY.name, fun s hs => absurd hs (by simp)⟩ (bb2 BW.out hW))
    dsimp only at M1 M2 M3
    rw [HE1.out] at M1
    rw [HE2.out] at M2
    rw [HE3.out] at M3
    clear KB KS KR SW KM HE1 HE2 HE3 KN KL SN
    refine wp_region_noPanic ?_
    refine wp_region_held_drew (S := fun W => Below (w10).heap.size (w10) W) (by kernel_rfl) ((Below.refl _ _).drew) (fun hHeld => ?_)
    refine wpAnyH_take (i := 0) (v := ?_) (op_at (rest := _) rfl) (by kernel_rfl) (by kernel_rfl) (by kernel_rfl) (fun _ _ _ h => h) (Or.inl ⟨by rfl, ?_⟩) (by assumption) ?_
    rotate_left 1
    · (intro W hSw; (try dsimp only at hSw); have q := D1.out W hSw ; have q0 := cellN q (i := 0) rfl ; have q1 := cellN q (i := 1) rfl ; have q2 := cellN q (i := 2) rfl; go_simp; (try with_reducible rfl))
    try simp only [Act.put, List.setIfInBounds_toArray, List.set_cons_zero, List.set_cons_succ]
    refine wpAnyH_take (i := 1) (v := ?_) (op_at (rest := _) rfl) (by kernel_rfl) (by kernel_rfl) (by kernel_rfl) (fun _ _ _ h => h) (Or.inl ⟨by rfl, ?_⟩) (by assumption) ?_
    rotate_left 1
    · (intro W hSw; (try dsimp only at hSw); go_simp; (try with_reducible rfl))
    try simp only [Act.put, List.setIfInBounds_toArray, List.set_cons_zero, List.set_cons_succ]
    refine wpAnyH_take (i := 3) (v := ?_) (op_at (rest := _) rfl) (by kernel_rfl) (by kernel_rfl) (by kernel_rfl) (fun _ _ _ h => h) (Or.inl ⟨by rfl, ?_⟩) (by assumption) ?_
    rotate_left 1
    · (intro W hSw; (try dsimp only at hSw); have q := D2.out W hSw ; have q0 := cellN q (i := 0) rfl ; have q1 := cellN q (i := 1) rfl ; have q2 := cellN q (i := 2) rfl; go_simp; (try with_reducible rfl))
    try simp only [Act.put, List.setIfInBounds_toArray, List.set_cons_zero, List.set_cons_succ]
    refine wpAnyH_take (i := 4) (v := ?_) (op_at (rest := _) rfl) (by kernel_rfl) (by kernel_rfl) (by kernel_rfl) (fun _ _ _ h => h) (Or.inl ⟨by rfl, ?_⟩) (by assumption) ?_
    rotate_left 1
    · (intro W hSw; (try dsimp only at hSw); go_simp; (try with_reducible rfl))
    try simp only [Act.put, List.setIfInBounds_toArray, List.set_cons_zero, List.set_cons_succ]
    refine wpAnyH_ready (rs := [2]) (by kernel_rfl) (by simp) ?_
    refine AllReadyH.cons (op_at (rest := _) rfl) (fun K hK => ?_) AllReadyH.nil
    go_simp
    refine (M1.out _ hHeld).mono ?_
    rintro e w11 ⟨rfl, hb11⟩
    go_wp2_with fail
    replace hHeld := hHeld.trans (hb11.mono hHeld.size)
    refine hK.out _ _ hHeld (fun _ => ?_)
    clear hK K
    try simp only [Act.put, List.setIfInBounds_toArray, List.set_cons_zero, List.set_cons_succ]
    refine wpAnyH_ready (rs := [5]) (by kernel_rfl) (by simp) ?_
    refine AllReadyH.cons (op_at (rest := _) rfl) (fun K hK => ?_) AllReadyH.nil
    go_simp
    refine (M2.out _ hHeld).mono ?_
    rintro e w12 ⟨rfl, hb12⟩
    go_wp2_with fail
    replace hHeld := hHeld.trans (hb12.mono hHeld.size)
    refine hK.out _ _ hHeld (fun _ => ?_)
    clear hK K
    try simp only [Act.put, List.setIfInBounds_toArray, List.set_cons_zero, List.set_cons_succ]
    refine wpAnyH_take (i := 6) (v := ?_) (op_at (rest := _) rfl) (by kernel_rfl) (by kernel_rfl) (by kernel_rfl) (fun _ _ _ h => h) (Or.inl ⟨by rfl, ?_⟩) (by assumption) ?_
    rotate_left 1
    · (intro W hSw; (try dsimp only at hSw); go_simp; (try with_reducible rfl))
    try simp only [Act.put, List.setIfInBounds_toArray, List.set_cons_zero, List.set_cons_succ]
    refine wpAnyH_take (i := 7) (v := ?_) (op_at (rest := _) rfl) (by kernel_rfl) (by kernel_rfl) (by kernel_rfl) (fun _ _ _ h => h) (Or.inl ⟨by rfl, ?_⟩) (by assumption) ?_
    rotate_left 1
    · (intro W hSw; (try dsimp only at hSw); go_simp; (try with_reducible rfl))
    try simp only [Act.put, List.setIfInBounds_toArray, List.set_cons_zero, List.set_cons_succ]
    refine wpAnyH_done (by kernel_rfl) ?_ _
    refine NoPanic.normal ?_
    have q := D1.out _ hHeld
    obtain ⟨g0, g1, g2⟩ : _ ∧ _ ∧ _ := ⟨cellN q (i := 0) rfl, cellN q (i := 1) rfl, cellN q (i := 2) rfl⟩
    go_wp2_with fail
    refine (M3.out _ hHeld).mono ?_
    rintro e w13 ⟨rfl, hb13⟩
    replace hHeld := hHeld.trans (hb13.mono hHeld.size)
    have q9 := D1.out _ hHeld
    clear g0 g1 g2 q
    obtain ⟨g0, g1, g2⟩ : _ ∧ _ ∧ _ := ⟨cellN q9 (i := 0) rfl, cellN q9 (i := 1) rfl, cellN q9 (i := 2) rfl⟩
    have FIN := hide (bb2 BB (bb2 BW.out hHeld))
    clear M1 M2 M3 D1 D2
    obtain ⟨F1a, F1b⟩ := F1.out
    have F2a := F2.out
    clear F1 F2
    rcases HK.out with rfl | rfl
    · rw [show La.metN ⟨1, nm, vs⟩ l = La.oneL l nm vs from rfl, show La.metN ⟨1, nm, ws⟩ l = La.oneL l nm ws from rfl]
      generalize La.oneL l nm vs = x at *
      generalize La.oneL l nm ws = y at *
      generalize La.hasL l nm = h at *
      cases x
      · clear F1a F1b F2a
        go_wp2_with fail
        refine (lawake_any _).mono ?_
        rintro e w14 ⟨rfl, hb14⟩
        go_wp2_with fail
        go_ret
        exact ⟨rfl, bb2 FIN.out hb14⟩
      · cases y
        · exact absurd F1a (by decide)
        · cases h
          · exact absurd F1b (by decide)
          · clear F1a F1b F2a
            go_wp2_with fail
            refine (lawake_any _).mono ?_
            rintro e w14 ⟨rfl, hb14⟩
            go_wp2_with fail
            go_ret
            exact ⟨rfl, bb2 FIN.out hb14⟩
    · rw [show La.metN ⟨2, nm, vs⟩ l = !La.oneL l nm vs from rfl, show La.metN ⟨2, nm, ws⟩ l = !La.oneL l nm ws from rfl]
      generalize La.oneL l nm vs = x at *
      generalize La.oneL l nm ws = y at *
      generalize La.hasL l nm = h at *
      cases x
      · cases y
        · cases h
          · clear F1a F1b F2a
            go_wp2_with fail
            refine (lawake_any _).mono ?_
            rintro e w14 ⟨rfl, hb14⟩
            go_wp2_with fail
            go_ret
            exact ⟨rfl, bb2 FIN.out hb14⟩
          · clear F1a F1b F2a
            go_wp2_with fail
            refine (lawake_any _).mono ?_
            rintro e w14 ⟨rfl, hb14⟩
            go_wp2_with fail
            go_ret
            exact ⟨rfl, bb2 FIN.out hb14⟩
        · cases h
          · exact absurd F2a (by decide)
          · clear F1a F1b F2a
            go_wp2_with fail
            refine (lawake_any _).mono ?_
            rintro e w14 ⟨rfl, hb14⟩
            go_wp2_with fail
            go_ret
            exact ⟨rfl, bb2 FIN.out hb14⟩
      · cases y
        · exact absurd F1a (by decide)
        · cases h
          · exact absurd F1b (by decide)
          · clear F1a F1b F2a
            go_wp2_with fail
            refine (lawake_any _).mono ?_
            rintro e w14 ⟨rfl, hb14⟩
            go_wp2_with fail
            go_ret
            exact ⟨rfl, bb2 FIN.out hb14⟩
  · have CLB := hide (fun W => rlabel_any mo W okm)
    rw [hgd] at CLB
    have hne : (mo.toList == []) = false := by
      cases h : (mo.toList == [])
      · rfl
      · exfalso
        have h1 : mo.toList = [] := by simpa using h
        rw [Lib.toList_data] at h1
        rw [h1] at hgd
        exact absurd hgd (by decide)
    clear hgd
    obtain ⟨ws, hws⟩ : ∃ z, z = vs ++ [mo] := ⟨_, rfl⟩
    have HWS := hide hws
    rw [← hws] at HE2 F1 F2
    clear hws
    go_wp2_with fail
    refine (KN.out _ _ SN.out).mono ?_
    rintro e w6 ⟨rfl, hb6⟩
    go_wp2_with fail
    refine (KL.out _ (bb2 B6 hb6)).mono ?_
    rintro e w7 ⟨rfl, hb7⟩
    have B57 := bb2 (bb2 B6 hb6) hb7
    have k7 := blk_below HBX B57
    have BX7 := bb2 B57 ((Below.refl w7.heap.size w7).alloc (Nat.le_refl _) (.cells #[.int .i64 kd, .string nm, .slice ya vs.length yc] 29))
    clear f0 f1 f2
    obtain ⟨f0, f1, f2⟩ : _ ∧ _ ∧ _ := ⟨cellN k7 (i := 0) rfl, cellN k7 (i := 1) rfl, cellN k7 (i := 2) rfl⟩
    have k8 := blk_below k7 ((Below.refl w7.heap.size w7).alloc (Nat.le_refl _) (.cells #[.int .i64 kd, .string nm, .slice ya vs.length yc] 29))
    have k9 := blk_below k8 ((Below.refl (w7.alloc (.cells #[.int .i64 kd, .string nm, .slice ya vs.length yc] 29)).heap.size (w7.alloc (.cells #[.int .i64 kd, .string nm, .slice ya vs.length yc] 29))).alloc (Nat.le_refl _) (.cells #[] 9))
    have y2 := cellN k9 (i := 2) rfl
    go_wp2_with fail
    refine (CLB.out _).mono ?_
    rintro e x8 ⟨rfl, hx8⟩
    subst x8
    go_wp2_with (at_builtin; first
      | (refine wpList_append_sl (E := ES) 27 9 _ 16 Tryd.underlying27 Tryd.infoStr rfl (by decide) _ _ _ rfl (by rfl) (w7.heap.size + 1) _ 0 [] rfl (owns_emptyT 9 ES.n (w7.alloc (.cells #[.int .i64 kd, .string nm, .slice ya vs.length yc] 29)) _ (by simp)) _ _ rfl (SYH.out.below (bb2 BX7 ((Below.refl _ _).alloc (Nat.le_refl _) _))) (by have := H0.out; omega) (by simp) ?_; intro v8 w8 r8 g8; have B8 : Below (w7.alloc (.cells #[.int .i64 kd, .string nm, .slice ya vs.length yc] 29)).heap.size (w7.alloc (.cells #[.int .i64 kd, .string nm, .slice ya vs.length yc] 29)) w8 := ((Below.refl _ _).alloc (Nat.le_refl _) _).grown g8 (by simp) (fun j e => by have := ownBlock_ge (owns_emptyT 9 ES.n (w7.alloc (.cells #[.int .i64 kd, .string nm, .slice ya vs.length yc] 29)) (w7.heap.size + 1) (by simp)) e; simpa using this); have hs8 := B8.size; clear g8)
      | (refine wpList_append_sl (E := ES) 27 9 _ 16 Tryd.underlying27 Tryd.infoStr rfl (by decide) _ _ _ rfl (by rfl) (w7.heap.size + 1) _ _ _ rfl (ownsRow_below r8 ((Below.refl _ _).alloc (Nat.le_refl _) _)) _ _ rfl (Sl.at_block (E := ES) (x := mo) (alloc_new w8 _) trivial) (by simp; omega) (by simp at hs8; simp; omega) ?_; intro v9 w9 r9 g9; have B9 : Below (w7.alloc (.cells #[.int .i64 kd, .string nm, .slice ya vs.length yc] 29)).heap.size (w7.alloc (.cells #[.int .i64 kd, .string nm, .slice ya vs.length yc] 29)) w9 := (B8.alloc hs8 _).grown g9 (by simp at hs8; simp; omega) (fun j e => by have := ownBlock_ge (ownsRow_below r8 ((Below.refl _ _).alloc (Nat.le_refl _) (.cells #[.string mo] 9))) e; simpa using this); have r9' : w9.ownsRow (w7.heap.size + 1) 9 ES.n v9 ws.length (ES.flat ws) := (by rw [HWS.out]; simpa using r9); obtain ⟨a9, c9, hv9⟩ := row_form r9'; subst hv9; clear r9 g9 r8 B8 hs8; have hz := box_block B9; have z2 := cellN hz (i := 2) rfl; have lz := liveN hz))
    have KB := setL_at (g := w7.heap.size) (t := 29) [.slice a9 ws.length c9] [.int .i64 kd, .string nm] [.slice ya vs.length yc] w9 hz rfl
    have KS := setL_below (w := w7) (B := w7.heap.size) (g := w7.heap.size) (Nat.le_refl _) [.slice a9 ws.length c9] w9 2 (below_box B9)
    have KR := row_setLb (W := w9) (g := w7.heap.size) (k := 2) (cs := [.slice a9 ws.length c9]) r9' (by omega)
    change (setL w9 w7.heap.size 2 [.slice a9 ws.length c9]).heap[w7.heap.size]? = _ at KB
    clear z2 lz hz B9 r9' f0 f1 f2
    change Code.wp _ _ _ _ (setL w9 w7.heap.size 2 [.slice a9 ws.length c9])
    generalize setL w9 w7.heap.size 2 [.slice a9 ws.length c9] = w10 at *
    have SW : Sl ES w10 (.slice a9 ws.length c9) ws := Sl.of_row (E := ES) rfl KR (fun _ _ => trivial)
    have D1 := hide (fun W (hW : Below w10.heap.size w10 W) => blk_below HBX (bb2 B57 (bb2 KS hW)))
    have D2 := hide (fun W (hW : Below w10.heap.size w10 W) => blk_below KB hW)
    have BW := hide (bb2 B57 KS)
    have M1 := hide (fun W (hW : Below w10.heap.size w10 W) => KM.out W ⟨⟨kd, nm, vs⟩, ya, yc⟩ (SYH.out.below (bb2 BW.out hW)) RY (bb2 BW.out hW))
    have M2 := hide (fun W (hW : Below w10.heap.size w10 W) => KM.out W ⟨⟨kd, nm, ws⟩, a9, c9⟩ (SW.below hW) ⟨RY.name, fun s hs => (List.mem_append.1 (HWS.out ▸ hs)).elim (RY.vals s) (fun h => by rw [List.mem_singleton] at h; subst h; exact okm)⟩ (bb2 BW.out hW))
    have M3 := hide (fun W (hW : Below w10.heap.size w10 W) => KM.out W ⟨⟨3, nm, []⟩, none, 0⟩ (Sl.nil W) ⟨RY.name, fun s hs => absurd hs (by simp)⟩ (bb2 BW.out hW))
    dsimp only at M1 M2 M3
    rw [HE1.out] at M1
    rw [HE2.out] at M2
    rw [HE3.out] at M3
    clear KB KS KR SW KM HE1 HE2 HE3 KN KL SN
    refine wp_region_noPanic ?_
    refine wp_region_held_drew (S := fun W => Below (w10).heap.size (w10) W) (by kernel_rfl) ((Below.refl _ _).drew) (fun hHeld => ?_)
    refine wpAnyH_take (i := 0) (v := ?_) (op_at (rest := _) rfl) (by kernel_rfl) (by kernel_rfl) (by kernel_rfl) (fun _ _ _ h => h) (Or.inl ⟨by rfl, ?_⟩) (by assumption) ?_
    rotate_left 1
    · (intro W hSw; (try dsimp only at hSw); have q := D1.out W hSw ; have q0 := cellN q (i := 0) rfl ; have q1 := cellN q (i := 1) rfl ; have q2 := cellN q (i := 2) rfl; go_simp; (try with_reducible rfl))
    try simp only [Act.put, List.setIfInBounds_toArray, List.set_cons_zero, List.set_cons_succ]
    refine wpAnyH_take (i := 1) (v := ?_) (op_at (rest := _) rfl) (by kernel_rfl) (by kernel_rfl) (by kernel_rfl) (fun _ _ _ h => h) (Or.inl ⟨by rfl, ?_⟩) (by assumption) ?_
    rotate_left 1
    · (intro W hSw; (try dsimp only at hSw); go_simp; (try with_reducible rfl))
    try simp only [Act.put, List.setIfInBounds_toArray, List.set_cons_zero, List.set_cons_succ]
    refine wpAnyH_take (i := 3) (v := ?_) (op_at (rest := _) rfl) (by kernel_rfl) (by kernel_rfl) (by kernel_rfl) (fun _ _ _ h => h) (Or.inl ⟨by rfl, ?_⟩) (by assumption) ?_
    rotate_left 1
    · (intro W hSw; (try dsimp only at hSw); have q := D2.out W hSw ; have q0 := cellN q (i := 0) rfl ; have q1 := cellN q (i := 1) rfl ; have q2 := cellN q (i := 2) rfl; go_simp; (try with_reducible rfl))
    try simp only [Act.put, List.setIfInBounds_toArray, List.set_cons_zero, List.set_cons_succ]
    refine wpAnyH_take (i := 4) (v := ?_) (op_at (rest := _) rfl) (by kernel_rfl) (by kernel_rfl) (by kernel_rfl) (fun _ _ _ h => h) (Or.inl ⟨by rfl, ?_⟩) (by assumption) ?_
    rotate_left 1
    · (intro W hSw; (try dsimp only at hSw); go_simp; (try with_reducible rfl))
    try simp only [Act.put, List.setIfInBounds_toArray, List.set_cons_zero, List.set_cons_succ]
    refine wpAnyH_ready (rs := [2]) (by kernel_rfl) (by simp) ?_
    refine AllReadyH.cons (op_at (rest := _) rfl) (fun K hK => ?_) AllReadyH.nil
    go_simp
    refine (M1.out _ hHeld).mono ?_
    rintro e w11 ⟨rfl, hb11⟩
    go_wp2_with fail
    replace hHeld := hHeld.trans (hb11.mono hHeld.size)
    refine hK.out _ _ hHeld (fun _ => ?_)
    clear hK K
    try simp only [Act.put, List.setIfInBounds_toArray, List.set_cons_zero, List.set_cons_succ]
    refine wpAnyH_ready (rs := [5]) (by kernel_rfl) (by simp) ?_
    refine AllReadyH.cons (op_at (rest := _) rfl) (fun K hK => ?_) AllReadyH.nil
    go_simp
    refine (M2.out _ hHeld).mono ?_
    rintro e w12 ⟨rfl, hb12⟩
    go_wp2_with fail
    replace hHeld := hHeld.trans (hb12.mono hHeld.size)
    refine hK.out _ _ hHeld (fun _ => ?_)
    clear hK K
    try simp only [Act.put, List.setIfInBounds_toArray, List.set_cons_zero, List.set_cons_succ]
    refine wpAnyH_take (i := 6) (v := ?_) (op_at (rest := _) rfl) (by kernel_rfl) (by kernel_rfl) (by kernel_rfl) (fun _ _ _ h => h) (Or.inl ⟨by rfl, ?_⟩) (by assumption) ?_
    rotate_left 1
    · (intro W hSw; (try dsimp only at hSw); go_simp; (try with_reducible rfl))
    try simp only [Act.put, List.setIfInBounds_toArray, List.set_cons_zero, List.set_cons_succ]
    refine wpAnyH_take (i := 7) (v := ?_) (op_at (rest := _) rfl) (by kernel_rfl) (by kernel_rfl) (by kernel_rfl) (fun _ _ _ h => h) (Or.inl ⟨by rfl, ?_⟩) (by assumption) ?_
    rotate_left 1
    · (intro W hSw; (try dsimp only at hSw); go_simp; (try with_reducible rfl))
    try simp only [Act.put, List.setIfInBounds_toArray, List.set_cons_zero, List.set_cons_succ]
    refine wpAnyH_done (by kernel_rfl) ?_ _
    refine NoPanic.normal ?_
    have q := D1.out _ hHeld
    obtain ⟨g0, g1, g2⟩ : _ ∧ _ ∧ _ := ⟨cellN q (i := 0) rfl, cellN q (i := 1) rfl, cellN q (i := 2) rfl⟩
    go_wp2_with fail
    refine (M3.out _ hHeld).mono ?_
    rintro e w13 ⟨rfl, hb13⟩
    replace hHeld := hHeld.trans (hb13.mono hHeld.size)
    have q9 := D1.out _ hHeld
    clear g0 g1 g2 q
    obtain ⟨g0, g1, g2⟩ : _ ∧ _ ∧ _ := ⟨cellN q9 (i := 0) rfl, cellN q9 (i := 1) rfl, cellN q9 (i := 2) rfl⟩
    have FIN := hide (bb2 BB (bb2 BW.out hHeld))
    clear M1 M2 M3 D1 D2
    obtain ⟨F1a, F1b⟩ := F1.out
    have F2a := F2.out
    clear F1 F2
    rcases HK.out with rfl | rfl
    · rw [show La.metN ⟨1, nm, vs⟩ l = La.oneL l nm vs from rfl, show La.metN ⟨1, nm, ws⟩ l = La.oneL l nm ws from rfl]
      generalize La.oneL l nm vs = x at *
      generalize La.oneL l nm ws = y at *
      generalize La.hasL l nm = h at *
      cases x
      · clear F1a F1b F2a
        go_wp2_with fail
        refine (lawake_any _).mono ?_
        rintro e w14 ⟨rfl, hb14⟩
        go_wp2_with fail
        go_ret
        exact ⟨rfl, bb2 FIN.out hb14⟩
      · cases y
        · exact absurd F1a (by decide)
        · cases h
          · exact absurd F1b (by decide)
          · clear F1a F1b F2a
            go_wp2_with fail
            refine (lawake_any _).mono ?_
            rintro e w14 ⟨rfl, hb14⟩
            go_wp2_with fail
            go_ret
            exact ⟨rfl, bb2 FIN.out hb14⟩
    · rw [show La.metN ⟨2, nm, vs⟩ l = !La.oneL l nm vs from rfl, show La.metN ⟨2, nm, ws⟩ l = !La.oneL l nm ws from rfl]
      generalize La.oneL l nm vs = x at *
      generalize La.oneL l nm ws = y at *
      generalize La.hasL l nm = h at *
      cases x
      · cases y
        · cases h
          · clear F1a F1b F2a
            go_wp2_with fail
            refine (lawake_any _).mono ?_
            rintro e w14 ⟨rfl, hb14⟩
            go_wp2_with fail
            go_ret
            exact ⟨rfl, bb2 FIN.out hb14⟩
          · clear F1a F1b F2a
            go_wp2_with fail
            refine (lawake_any _).mono ?_
            rintro e w14 ⟨rfl, hb14⟩
            go_wp2_with fail
            go_ret
            exact ⟨rfl, bb2 FIN.out hb14⟩
        · cases h
          · exact absurd F2a (by decide)
          · clear F1a F1b F2a
            go_wp2_with fail
            refine (lawake_any _).mono ?_
            rintro e w14 ⟨rfl, hb14⟩
            go_wp2_with fail
            go_ret
            exact ⟨rfl, bb2 FIN.out hb14⟩
      · cases y
        · exact absurd F1a (by decide)
        · cases h
          · exact absurd F1b (by decide)
          · clear F1a F1b F2a
            go_wp2_with fail
            refine (lawake_any _).mono ?_
            rintro e w14 ⟨rfl, hb14⟩
            go_wp2_with fail
            go_ret
            exact ⟨rfl, bb2 FIN.out hb14⟩

end Go.Proofs.YtecnjbaanbakoaaDoor
