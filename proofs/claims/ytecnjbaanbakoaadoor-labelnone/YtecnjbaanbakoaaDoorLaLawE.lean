/-
  LabelNone.
-/
import Derived.Test.YtecnjbaanbakoaaDoorLaOpen
namespace Go.Proofs.YtecnjbaanbakoaaDoor
open Go Go.RowKit Go.Shelf Go.Deep

set_option maxHeartbeats 6400000 in
theorem none_law (v0 v1 : Value) (w : World) (a0 : ArgN w v0) (a1 : ArgPrs w v1) :
    Calls Tryd.prog 9 #[v0, v1] w fun e w' => e = .returned (.bool true) ∧ Below w.heap.size w w' := by
  obtain ⟨⟨⟨kd0, nm0, vs0⟩, xa, xc⟩, rfl, hx0, raw0⟩ := a0
  obtain ⟨l2, hs1, ok1⟩ := a1
  have CF := hide (lfew_one (.slice (some ⟨w.heap.size + 1, 0, none⟩) 1 1) ⟨⟨kd0, nm0, vs0⟩, xa, xc⟩ (((w.alloc (.cells #[.int .i64 kd0, .string nm0, .slice xa vs0.length xc] 29)).drew).alloc (.cells #[.int .i64 kd0, .string nm0, .slice xa vs0.length xc] 29)) (Sl.need ((w.alloc (.cells #[.int .i64 kd0, .string nm0, .slice xa vs0.length xc] 29)).drew) ⟨⟨kd0, nm0, vs0⟩, xa, xc⟩ 29 (w.heap.size + 1) (by simp [World.drew]) (hx0.below (((Below.refl _ _).alloc (Nat.le_refl _) _).drew))) raw0)
  have CL := hide (fun W (h : Below w.heap.size w W) => bfew_any v1 l2 W (hs1.below h) ok1)
  clear hs1 ok1 hx0 raw0
  dsimp only at *
  go_enter Tryd.func9, Tryd.ntmps9
  go_wp2_with fail
  refine region_out [some 7, some 8, some 9, some 10, some 11, some 12, some 13, some 1] (fun f W => ∃ (y : NV) (g off cp : Nat) (u : Value), f = opF [.agg #[.int .i64 kd0, .string nm0, .slice xa vs0.length xc], .slice (some ⟨w.heap.size + 1, 0, none⟩) 1 1, .slice (some ⟨g, off, none⟩) 1 cp, .pointer (some ⟨g, off, none⟩), nV y, v1, u, u] ∧ y.n = fewN ⟨kd0, nm0, vs0⟩ ∧ W.heap[w.heap.size]? = some (.cells #[.int .i64 y.n.kind, .string y.n.name, y.v] 29) ∧ y.own W ∧ (∃ b, W.ownsRow b 41 2 u (fewB2 l2).length (flat (fewB2 l2))) ∧ Below w.heap.size w W) ?_ ?_
  · refine wp_region_noPanic ?_
    refine wp_region_held_drew (S := fun W => Below w.heap.size w W) (by kernel_rfl) (((Below.refl _ _).alloc (Nat.le_refl _) _).drew) (fun hHeld => ?_)
    refine wpAnyH_take (i := 5) (v := ?_) (op_at (rest := _) rfl) (by kernel_rfl) (by kernel_rfl) (by kernel_rfl) (fun _ _ _ h => h) (Or.inl ⟨by rfl, ?_⟩) (by assumption) ?_
    rotate_left 1
    · (intro W hSw; (try dsimp only at hSw); go_simp; (try with_reducible rfl))
    try simp only [Act.put, List.setIfInBounds_toArray, List.set_cons_zero, List.set_cons_succ]
    refine wpAnyH_ready (rs := [0]) (by kernel_rfl) (by simp) ?_
    refine AllReadyH.cons (op_at (rest := _) rfl) (fun K hK => ?_) AllReadyH.nil
    go_simp
    refine hK.out _ _ hHeld (fun _ => ?_)
    clear hK K
    try simp only [Act.put, List.setIfInBounds_toArray, List.set_cons_zero, List.set_cons_succ]
    refine wpAnyH_ready (rs := [1]) (by kernel_rfl) (by simp) ?_
    refine AllReadyH.cons (op_at (rest := _) rfl) (fun K hK => ?_) AllReadyH.nil
    go_simp
    refine hK.out _ _ (hHeld.alloc hHeld.size _) (fun hHeld => ?_)
    clear hK K
    try simp only [Act.put, List.setIfInBounds_toArray, List.set_cons_zero, List.set_cons_succ]
    refine wpAnyH_ready (rs := [2]) (by kernel_rfl) (by simp) ?_
    refine AllReadyH.cons (op_at (rest := _) rfl) (fun K hK => ?_) AllReadyH.nil
    go_simp
    refine CF.out.mono ?_
    rintro e w2 ⟨g, off, cp, y, rfl, hy, owy, hcy, hb2⟩
    have HYN := hide hy
    clear hy
    go_wp2_with fail
    replace hHeld := hHeld.trans (hb2.mono hHeld.size)
    have HCY := hide hcy
    have BX2 : w2.heap[w.heap.size]? = some (.cells #[.int .i64 kd0, .string nm0, .slice xa vs0.length xc] 29) := box_block (o := .cells #[.int .i64 kd0, .string nm0, .slice xa vs0.length xc] 29) (((Below.refl _ _).drew).trans ((((Below.refl _ _).alloc (by simp) _).trans (hb2.mono (by simp)))))
    refine hK.out _ _ hHeld (fun _ => ?_)
    clear hK K hb2 hcy
    try simp only [Act.put, List.setIfInBounds_toArray, List.set_cons_zero, List.set_cons_succ]
    refine wpAnyH_take (i := 3) (v := ?_) (op_at (rest := _) rfl) (by kernel_rfl) (by kernel_rfl) (by kernel_rfl) (fun _ _ _ h => h) (Or.inl ⟨by rfl, ?_⟩) (by assumption) ?_
    rotate_left 1
    · (intro W hSw; (try dsimp only at hSw); go_simp; (try with_reducible rfl))
    try simp only [Act.put, List.setIfInBounds_toArray, List.set_cons_zero, List.set_cons_succ]
    refine wpAnyH_ready (rs := [4, 6]) (by kernel_rfl) (by simp) ?_
    refine AllReadyH.cons (op_at (rest := _) rfl) (fun K hK => ?_) (AllReadyH.cons (op_at (rest := _) rfl) (fun K hK => ?_) AllReadyH.nil)
    · obtain ⟨q0, q1, q2⟩ := HCY.out _ (Below.refl _ _)
      go_simp
      refine hK.out _ _ hHeld (fun _ => ?_)
      clear hK K q0 q1 q2
      try simp only [Act.put, List.setIfInBounds_toArray, List.set_cons_zero, List.set_cons_succ]
      refine wpAnyH_ready (rs := [6]) (by kernel_rfl) (by simp) ?_
      refine AllReadyH.cons (op_at (rest := _) rfl) (fun K hK => ?_) AllReadyH.nil
      go_simp
      refine (CL.out _ hHeld).mono ?_
      rintro e w3 ⟨u, rfl, hru, hb3⟩
      go_wp2_with fail
      replace hHeld := hHeld.trans (hb3.mono hHeld.size)
      refine hK.out _ _ hHeld (fun _ => ?_)
      clear hK K
      try simp only [Act.put, List.setIfInBounds_toArray, List.set_cons_zero, List.set_cons_succ]
      have hz := blk_below BX2 hb3
      have lz := liveN hz
      obtain ⟨z0, z1, z2⟩ : _ ∧ _ ∧ _ := ⟨cellN hz (i := 0) rfl, cellN hz (i := 1) rfl, cellN hz (i := 2) rfl⟩
      refine wpAnyH_ready (rs := [7]) (by kernel_rfl) (by simp) ?_
      refine AllReadyH.cons (op_at (rest := _) rfl) (fun K hK => ?_) AllReadyH.nil
      go_simp
      have KB := setL_all [.int .i64 y.n.kind, .string y.n.name, y.v] hz rfl
      have KS := setL_below (w := w) (B := w.heap.size) (g := w.heap.size) (Nat.le_refl _) [.int .i64 y.n.kind, .string y.n.name, y.v] w3 0 hHeld
      obtain ⟨by0, owy0⟩ := owy
      have KO := row_setL (cs := [.int .i64 y.n.kind, .string y.n.name, y.v]) (k := 0) (ownsRow_below owy0 hb3) hz (by decide)
      have KP := row_setL (cs := [.int .i64 y.n.kind, .string y.n.name, y.v]) (k := 0) hru hz (by decide)
      change K _ (setL w3 w.heap.size 0 [.int .i64 y.n.kind, .string y.n.name, y.v])
      generalize setL w3 w.heap.size 0 [.int .i64 y.n.kind, .string y.n.name, y.v] = w4 at *
      refine hK.out _ _ KS (fun hHeld => ?_)
      clear hK K lz z0 z1 z2
      try simp only [Act.put, List.setIfInBounds_toArray, List.set_cons_zero, List.set_cons_succ]
      refine wpAnyH_take (i := 8) (v := ?_) (op_at (rest := _) rfl) (by kernel_rfl) (by kernel_rfl) (by kernel_rfl) (fun _ _ _ h => h) (Or.inl ⟨by rfl, ?_⟩) (by assumption) ?_
      rotate_left 1
      · (intro W hSw; (try dsimp only at hSw); go_simp; (try with_reducible rfl))
      try simp only [Act.put, List.setIfInBounds_toArray, List.set_cons_zero, List.set_cons_succ]
      refine wpAnyH_done (by kernel_rfl) ?_ _
      refine NoPanic.normal ?_
      exact ⟨rfl, opF [.agg #[.int .i64 kd0, .string nm0, .slice xa vs0.length xc], .slice (some ⟨w.heap.size + 1, 0, none⟩) 1 1, .slice (some ⟨g, off, none⟩) 1 cp, .pointer (some ⟨g, off, none⟩), nV y, v1, u, u], (by simp only [putF, opF, List.getD_cons_zero, List.getD_cons_succ, Nat.reduceAdd, Act.put, List.setIfInBounds_toArray, List.set_cons_zero, List.set_cons_succ]), y, g, off, cp, u, rfl, HYN.out, KB, ⟨by0, KO⟩, ⟨_, KP⟩, KS⟩
    · go_simp
      refine (CL.out _ hHeld).mono ?_
      rintro e w3 ⟨u, rfl, hru, hb3⟩
      go_wp2_with fail
      replace hHeld := hHeld.trans (hb3.mono hHeld.size)
      refine hK.out _ _ hHeld (fun _ => ?_)
      clear hK K
      try simp only [Act.put, List.setIfInBounds_toArray, List.set_cons_zero, List.set_cons_succ]
      refine wpAnyH_ready (rs := [4]) (by kernel_rfl) (by simp) ?_
      refine AllReadyH.cons (op_at (rest := _) rfl) (fun K hK => ?_) AllReadyH.nil
      obtain ⟨q0, q1, q2⟩ := HCY.out _ (hb3)
      go_simp
      refine hK.out _ _ hHeld (fun _ => ?_)
      clear hK K q0 q1 q2
      try simp only [Act.put, List.setIfInBounds_toArray, List.set_cons_zero, List.set_cons_succ]
      have hz := blk_below BX2 hb3
      have lz := liveN hz
      obtain ⟨z0, z1, z2⟩ : _ ∧ _ ∧ _ := ⟨cellN hz (i := 0) rfl, cellN hz (i := 1) rfl, cellN hz (i := 2) rfl⟩
      refine wpAnyH_ready (rs := [7]) (by kernel_rfl) (by simp) ?_
      refine AllReadyH.cons (op_at (rest := _) rfl) (fun K hK => ?_) AllReadyH.nil
      go_simp
      have KB := setL_all [.int .i64 y.n.kind, .string y.n.name, y.v] hz rfl
      have KS := setL_below (w := w) (B := w.heap.size) (g := w.heap.size) (Nat.le_refl _) [.int .i64 y.n.kind, .string y.n.name, y.v] w3 0 hHeld
      obtain ⟨by0, owy0⟩ := owy
      have KO := row_setL (cs := [.int .i64 y.n.kind, .string y.n.name, y.v]) (k := 0) (ownsRow_below owy0 hb3) hz (by decide)
      have KP := row_setL (cs := [.int .i64 y.n.kind, .string y.n.name, y.v]) (k := 0) hru hz (by decide)
      change K _ (setL w3 w.heap.size 0 [.int .i64 y.n.kind, .string y.n.name, y.v])
      generalize setL w3 w.heap.size 0 [.int .i64 y.n.kind, .string y.n.name, y.v] = w4 at *
      refine hK.out _ _ KS (fun hHeld => ?_)
      clear hK K lz z0 z1 z2
      try simp only [Act.put, List.setIfInBounds_toArray, List.set_cons_zero, List.set_cons_succ]
      refine wpAnyH_take (i := 8) (v := ?_) (op_at (rest := _) rfl) (by kernel_rfl) (by kernel_rfl) (by kernel_rfl) (fun _ _ _ h => h) (Or.inl ⟨by rfl, ?_⟩) (by assumption) ?_
      rotate_left 1
      · (intro W hSw; (try dsimp only at hSw); go_simp; (try with_reducible rfl))
      try simp only [Act.put, List.setIfInBounds_toArray, List.set_cons_zero, List.set_cons_succ]
      refine wpAnyH_done (by kernel_rfl) ?_ _
      refine NoPanic.normal ?_
      exact ⟨rfl, opF [.agg #[.int .i64 kd0, .string nm0, .slice xa vs0.length xc], .slice (some ⟨w.heap.size + 1, 0, none⟩) 1 1, .slice (some ⟨g, off, none⟩) 1 cp, .pointer (some ⟨g, off, none⟩), nV y, v1, u, u], (by simp only [putF, opF, List.getD_cons_zero, List.getD_cons_succ, Nat.reduceAdd, Act.put, List.setIfInBounds_toArray, List.set_cons_zero, List.set_cons_succ]), y, g, off, cp, u, rfl, HYN.out, KB, ⟨by0, KO⟩, ⟨_, KP⟩, KS⟩
  rintro f w5 ⟨y, g, off, cp, u, rfl, hy, HBX, owy, ⟨bu, hru⟩, BB⟩
  simp only [putF, opF, List.getD_cons_zero, List.getD_cons_succ, Nat.reduceAdd, Act.put, List.setIfInBounds_toArray, List.set_cons_zero, List.set_cons_succ]
  have OKY : OkN y.n := by rw [hy]; exact fewN_ok _
  have SY := owy.at_
  have SP : Prs w5 u (fewB2 l2) := Prs.of_row rfl hru
  have okl := few_okB l2
  have okl2 := bfew_okP l2
  clear hy owy hru CF CL
  generalize fewB2 l2 = l at *
  obtain ⟨⟨kd, nm, vs⟩, ya, yc⟩ := y
  dsimp only at *
  have SPH := hide SP
  obtain ⟨c, cc, rfl, _⟩ := SP
  have MY := hide (fun W (h : Below w5.heap.size w5 W) => SY.below h)
  have RY := OKY.raw
  have KA := hide (fun W (L : List NV) v (hv : Sl EN W v L) (h : ∀ x ∈ L, x.n = ⟨kd, nm, vs⟩ ∨ x.n = La.notN ⟨kd, nm, vs⟩) (hW : Below w5.heap.size w5 W) => lall_any v (.slice c l.length cc) L l W hv (fun x hx => by
    rcases h x hx with e | e
    · rw [e]; exact RY
    · rw [e]; exact ⟨RY.name, RY.vals⟩) (SPH.out.below hW) okl2)
  have KM := hide (fun W (hW : Below w5.heap.size w5 W) => lmet_any ⟨⟨kd, nm, vs⟩, ya, yc⟩ (.slice c l.length cc) l W (SY.below hW) RY (SPH.out.below hW) okl2)
  obtain ⟨f0, f1, f2⟩ : _ ∧ _ ∧ _ := ⟨cellN HBX (i := 0) rfl, cellN HBX (i := 1) rfl, cellN HBX (i := 2) rfl⟩
  cases hm : La.mayN ⟨kd, nm, vs⟩
  · have CN := hide (lnot_no ⟨⟨kd, nm, vs⟩, ya, yc⟩ w5 SY RY hm)
    have HN := hide (La.all_not (n := ⟨kd, nm, vs⟩) l hm)
    clear KM hm
    go_wp2_with fail
    refine CN.out.mono ?_
    rintro e w6 ⟨rfl, hb6⟩
    have B6 := hb6.alloc hb6.size (.cells #[.int .i64 0, .string ⟨#[]⟩, .slice none 0 0] 29)
    obtain ⟨f0, f1, f2⟩ : _ ∧ _ ∧ _ := ⟨cellN (blk_below HBX B6) (i := 0) rfl, cellN (blk_below HBX B6) (i := 1) rfl, cellN (blk_below HBX B6) (i := 2) rfl⟩
    go_wp2_with fail
    have B7 := B6.alloc B6.size (.cells #[.int .i64 kd, .string nm, .slice ya vs.length yc] 29)
    refine (KA.out _ [⟨⟨kd, nm, vs⟩, ya, yc⟩] _ (Sl.need (w6.alloc (.cells #[.int .i64 0, .string ⟨#[]⟩, .slice none 0 0] 29)) ⟨⟨kd, nm, vs⟩, ya, yc⟩ _ _ (by simp) (MY.out _ B6)) (fun x hx => by rw [List.mem_singleton] at hx; subst hx; exact .inl rfl) B7).mono ?_
    rintro e w8 ⟨rfl, hb8⟩
    rw [show nbs [⟨⟨kd, nm, vs⟩, ya, yc⟩] = [⟨kd, nm, vs⟩] from rfl, HN.out]
    go_wp2_with fail
    refine (lawake_any _).mono ?_
    rintro e w9 ⟨rfl, hb9⟩
    go_wp2_with fail
    go_ret
    exact ⟨rfl, bb2 BB (bb2 (bb2 B7 hb8) hb9)⟩
  · have CN : Hid (Calls Tryd.prog 23 #[.agg #[.int .i64 kd, .string nm, .slice ya vs.length yc]] w5 fun e w' => ∃ a c, e = .returned (.tuple #[.agg #[.int .i64 (La.otherK kd), .string nm, .slice a vs.length c], .bool true]) ∧ Sl ES w' (.slice a vs.length c) vs ∧ Below w5.heap.size w5 w') := lnot_yes ⟨⟨kd, nm, vs⟩, ya, yc⟩ w5 SY RY (by have := OKY.len; dsimp only at this; dsimp only; omega) hm
    have HN := hide (La.all_none ⟨kd, nm, vs⟩ l hm)
    have HT := hide (La.all_twice ⟨kd, nm, vs⟩ l)
    clear hm
    go_wp2_with fail
    refine CN.out.mono ?_
    rintro e w6 ⟨na, nc, rfl, hs6, hb6⟩
    clear f0 f1 f2 CN
    have B6 := hb6.alloc hb6.size (.cells #[.int .i64 (La.otherK kd), .string nm, .slice na vs.length nc] 29)
    have BM := (Below.refl w6.heap.size w6).alloc (Nat.le_refl _) (.cells #[.int .i64 (La.otherK kd), .string nm, .slice na vs.length nc] 29)
    have k1 := blk_below HBX B6
    have k2 := alloc_new w6 (.cells #[.int .i64 (La.otherK kd), .string nm, .slice na vs.length nc] 29)
    have hM := hide (hs6.below BM)
    obtain ⟨g0, g1, g2⟩ : _ ∧ _ ∧ _ := ⟨cellN k1 (i := 0) rfl, cellN k1 (i := 1) rfl, cellN k1 (i := 2) rfl⟩
    go_wp2_with fail
    generalize w6.alloc (.cells #[.int .i64 (La.otherK kd), .string nm, .slice na vs.length nc] 29) = X at *
    clear g0 g1 g2 BM hb6 hs6
    have D1 := hide (fun W (hW : Below X.heap.size X W) => blk_below k1 hW)
    have D2 := hide (fun W (hW : Below X.heap.size X W) => blk_below k2 hW)
    generalize w6.heap.size = gm at *
    refine wp_region_noPanic ?_
    refine wp_region_held_drew (S := fun W => Below (X).heap.size (X) W) (by kernel_rfl) ((Below.refl _ _).drew) (fun hHeld => ?_)
    refine wpAnyH_take (i := 0) (v := ?_) (op_at (rest := _) rfl) (by kernel_rfl) (by kernel_rfl) (by kernel_rfl) (fun _ _ _ h => h) (Or.inl ⟨by rfl, ?_⟩) (by assumption) ?_
    rotate_left 1
    · (intro W hSw; (try dsimp only at hSw); have q := D1.out W hSw ; have q0 := cellN q (i := 0) rfl ; have q1 := cellN q (i := 1) rfl ; have q2 := cellN q (i := 2) rfl; go_simp; (try with_reducible rfl))
    try simp only [Act.put, List.setIfInBounds_toArray, List.set_cons_zero, List.set_cons_succ]
    refine wpAnyH_take (i := 1) (v := ?_) (op_at (rest := _) rfl) (by kernel_rfl) (by kernel_rfl) (by kernel_rfl) (fun _ _ _ h => h) (Or.inl ⟨by rfl, ?_⟩) (by assumption) ?_
    rotate_left 1
    · (intro W hSw; (try dsimp only at hSw); have q := D2.out W hSw ; have q0 := cellN q (i := 0) rfl ; have q1 := cellN q (i := 1) rfl ; have q2 := cellN q (i := 2) rfl; go_simp; (try with_reducible rfl))
    try simp only [Act.put, List.setIfInBounds_toArray, List.set_cons_zero, List.set_cons_succ]
    refine wpAnyH_take (i := 3) (v := ?_) (op_at (rest := _) rfl) (by kernel_rfl) (by kernel_rfl) (by kernel_rfl) (fun _ _ _ h => h) (Or.inl ⟨by rfl, ?_⟩) (by assumption) ?_
    rotate_left 1
    · (intro W hSw; (try dsimp only at hSw); go_simp; (try with_reducible rfl))
    try simp only [Act.put, List.setIfInBounds_toArray, List.set_cons_zero, List.set_cons_succ]
    refine wpAnyH_ready (rs := [2]) (by kernel_rfl) (by simp) ?_
    refine AllReadyH.cons (op_at (rest := _) rfl) (fun K hK => ?_) AllReadyH.nil
    go_simp
    have hHd := hHeld
    replace hHeld := hHeld.alloc hHeld.size (.cells #[.int .i64 kd, .string nm, .slice ya vs.length yc, .int .i64 (La.otherK kd), .string nm, .slice na vs.length nc] 29)
    refine hK.out _ _ hHeld (fun _ => ?_)
    clear hK K
    try simp only [Act.put, List.setIfInBounds_toArray, List.set_cons_zero, List.set_cons_succ]
    refine wpAnyH_ready (rs := [4]) (by kernel_rfl) (by simp) ?_
    refine AllReadyH.cons (op_at (rest := _) rfl) (fun K hK => ?_) AllReadyH.nil
    go_simp
    refine (KA.out _ [⟨⟨kd, nm, vs⟩, ya, yc⟩, ⟨La.notN ⟨kd, nm, vs⟩, na, nc⟩] _ (Sl.need2 _ ⟨⟨kd, nm, vs⟩, ya, yc⟩ ⟨La.notN ⟨kd, nm, vs⟩, na, nc⟩ _ _ rfl (MY.out _ (bb2 B6 hHd)) (hM.out.below hHd)) (fun x hx => by
      simp only [List.mem_cons, List.not_mem_nil, or_false] at hx
      rcases hx with rfl | rfl
      · exact .inl rfl
      · exact .inr rfl) (bb2 B6 hHeld)).mono ?_
    rintro e w8 ⟨rfl, hb8⟩
    rw [show nbs [⟨⟨kd, nm, vs⟩, ya, yc⟩, ⟨La.notN ⟨kd, nm, vs⟩, na, nc⟩] = [⟨kd, nm, vs⟩, La.notN ⟨kd, nm, vs⟩] from rfl, HN.out]
    go_wp2_with fail
    replace hHeld := hHeld.trans (hb8.mono hHeld.size)
    refine hK.out _ _ hHeld (fun _ => ?_)
    clear hK K hHd hb8
    try simp only [Act.put, List.setIfInBounds_toArray, List.set_cons_zero, List.set_cons_succ]
    refine wpAnyH_take (i := 5) (v := ?_) (op_at (rest := _) rfl) (by kernel_rfl) (by kernel_rfl) (by kernel_rfl) (fun _ _ _ h => h) (Or.inl ⟨by rfl, ?_⟩) (by assumption) ?_
    rotate_left 1
    · (intro W hSw; (try dsimp only at hSw); go_simp; (try with_reducible rfl))
    try simp only [Act.put, List.setIfInBounds_toArray, List.set_cons_zero, List.set_cons_succ]
    refine wpAnyH_take (i := 6) (v := ?_) (op_at (rest := _) rfl) (by kernel_rfl) (by kernel_rfl) (by kernel_rfl) (fun _ _ _ h => h) (Or.inl ⟨by rfl, ?_⟩) (by assumption) ?_
    rotate_left 1
    · (intro W hSw; (try dsimp only at hSw); go_simp; (try with_reducible rfl))
    try simp only [Act.put, List.setIfInBounds_toArray, List.set_cons_zero, List.set_cons_succ]
    refine wpAnyH_take (i := 7) (v := ?_) (op_at (rest := _) rfl) (by kernel_rfl) (by kernel_rfl) (by kernel_rfl) (fun _ _ _ h => h) (Or.inl ⟨by rfl, ?_⟩) (by assumption) ?_
    rotate_left 1
    · (intro W hSw; (try dsimp only at hSw); have q := D1.out W hSw ; have q0 := cellN q (i := 0) rfl ; have q1 := cellN q (i := 1) rfl ; have q2 := cellN q (i := 2) rfl; go_simp; (try with_reducible rfl))
    try simp only [Act.put, List.setIfInBounds_toArray, List.set_cons_zero, List.set_cons_succ]
    refine wpAnyH_take (i := 8) (v := ?_) (op_at (rest := _) rfl) (by kernel_rfl) (by kernel_rfl) (by kernel_rfl) (fun _ _ _ h => h) (Or.inl ⟨by rfl, ?_⟩) (by assumption) ?_
    rotate_left 1
    · (intro W hSw; (try dsimp only at hSw); have q := D1.out W hSw ; have q0 := cellN q (i := 0) rfl ; have q1 := cellN q (i := 1) rfl ; have q2 := cellN q (i := 2) rfl; go_simp; (try with_reducible rfl))
    try simp only [Act.put, List.setIfInBounds_toArray, List.set_cons_zero, List.set_cons_succ]
    refine wpAnyH_take (i := 12) (v := ?_) (op_at (rest := _) rfl) (by kernel_rfl) (by kernel_rfl) (by kernel_rfl) (fun _ _ _ h => h) (Or.inl ⟨by rfl, ?_⟩) (by assumption) ?_
    rotate_left 1
    · (intro W hSw; (try dsimp only at hSw); have q := D1.out W hSw ; have q0 := cellN q (i := 0) rfl ; have q1 := cellN q (i := 1) rfl ; have q2 := cellN q (i := 2) rfl; go_simp; (try with_reducible rfl))
    try simp only [Act.put, List.setIfInBounds_toArray, List.set_cons_zero, List.set_cons_succ]
    refine wpAnyH_take (i := 10) (v := ?_) (op_at (rest := _) rfl) (by kernel_rfl) (by kernel_rfl) (by kernel_rfl) (fun _ _ _ h => h) (Or.inl ⟨by rfl, ?_⟩) (by assumption) ?_
    rotate_left 1
    · (intro W hSw; (try dsimp only at hSw); go_simp; (try with_reducible rfl))
    try simp only [Act.put, List.setIfInBounds_toArray, List.set_cons_zero, List.set_cons_succ]
    refine wpAnyH_take (i := 13) (v := ?_) (op_at (rest := _) rfl) (by kernel_rfl) (by kernel_rfl) (by kernel_rfl) (fun _ _ _ h => h) (Or.inl ⟨by rfl, ?_⟩) (by assumption) ?_
    rotate_left 1
    · (intro W hSw; (try dsimp only at hSw); go_simp; (try with_reducible rfl))
    try simp only [Act.put, List.setIfInBounds_toArray, List.set_cons_zero, List.set_cons_succ]
    refine wpAnyH_ready (rs := [9]) (by kernel_rfl) (by simp) ?_
    refine AllReadyH.cons (op_at (rest := _) rfl) (fun K hK => ?_) AllReadyH.nil
    go_simp
    have hHd := hHeld
    replace hHeld := hHeld.alloc hHeld.size (.cells #[.int .i64 kd, .string nm, .slice ya vs.length yc, .int .i64 kd, .string nm, .slice ya vs.length yc] 29)
    refine hK.out _ _ hHeld (fun _ => ?_)
    clear hK K
    try simp only [Act.put, List.setIfInBounds_toArray, List.set_cons_zero, List.set_cons_succ]
    refine wpAnyH_ready (rs := [11]) (by kernel_rfl) (by simp) ?_
    refine AllReadyH.cons (op_at (rest := _) rfl) (fun K hK => ?_) AllReadyH.nil
    go_simp
    refine (KA.out _ [⟨⟨kd, nm, vs⟩, ya, yc⟩, ⟨⟨kd, nm, vs⟩, ya, yc⟩] _ (Sl.need2 _ ⟨⟨kd, nm, vs⟩, ya, yc⟩ ⟨⟨kd, nm, vs⟩, ya, yc⟩ _ _ rfl (MY.out _ (bb2 B6 hHd)) (MY.out _ (bb2 B6 hHd))) (fun x hx => by
      simp only [List.mem_cons, List.not_mem_nil, or_false] at hx
      rcases hx with rfl | rfl <;> exact .inl rfl) (bb2 B6 hHeld)).mono ?_
    rintro e w9 ⟨rfl, hb9⟩
    rw [show nbs [⟨⟨kd, nm, vs⟩, ya, yc⟩, ⟨⟨kd, nm, vs⟩, ya, yc⟩] = [⟨kd, nm, vs⟩, ⟨kd, nm, vs⟩] from rfl, HT.out]
    go_wp2_with fail
    replace hHeld := hHeld.trans (hb9.mono hHeld.size)
    refine hK.out _ _ hHeld (fun _ => ?_)
    clear hK K hHd hb9
    try simp only [Act.put, List.setIfInBounds_toArray, List.set_cons_zero, List.set_cons_succ]
    refine wpAnyH_ready (rs := [14]) (by kernel_rfl) (by simp) ?_
    refine AllReadyH.cons (op_at (rest := _) rfl) (fun K hK => ?_) AllReadyH.nil
    go_simp
    refine (KM.out _ (bb2 B6 hHeld)).mono ?_
    rintro e w10 ⟨rfl, hb10⟩
    go_wp2_with fail
    replace hHeld := hHeld.trans (hb10.mono hHeld.size)
    refine hK.out _ _ hHeld (fun _ => ?_)
    clear hK K
    try simp only [Act.put, List.setIfInBounds_toArray, List.set_cons_zero, List.set_cons_succ]
    have E1 : (La.met ⟨kd, nm, vs⟩ l == La.met ⟨kd, nm, vs⟩ l) = true := by cases La.met ⟨kd, nm, vs⟩ l <;> rfl
    refine wpAnyH_take (i := 15) (v := ?_) (op_at (rest := _) rfl) (by kernel_rfl) (by kernel_rfl) (by kernel_rfl) (fun _ _ _ h => h) (Or.inl ⟨by rfl, ?_⟩) (by assumption) ?_
    rotate_left 1
    · (intro W hSw; (try dsimp only at hSw); go_simp; (try with_reducible rfl))
    try simp only [Act.put, List.setIfInBounds_toArray, List.set_cons_zero, List.set_cons_succ]
    refine wpAnyH_take (i := 16) (v := ?_) (op_at (rest := _) rfl) (by kernel_rfl) (by kernel_rfl) (by kernel_rfl) (fun _ _ _ h => h) (Or.inl ⟨by rfl, ?_⟩) (by assumption) ?_
    rotate_left 1
    · (intro W hSw; (try dsimp only at hSw); go_simp; (try with_reducible rfl))
    try simp only [Act.put, List.setIfInBounds_toArray, List.set_cons_zero, List.set_cons_succ]
    refine wpAnyH_take (i := 17) (v := ?_) (op_at (rest := _) rfl) (by kernel_rfl) (by kernel_rfl) (by kernel_rfl) (fun _ _ _ h => h) (Or.inl ⟨by rfl, ?_⟩) (by assumption) ?_
    rotate_left 1
    · (intro W hSw; (try dsimp only at hSw); go_simp; (try with_reducible rfl))
    try simp only [Act.put, List.setIfInBounds_toArray, List.set_cons_zero, List.set_cons_succ]
    refine wpAnyH_ready (rs := [18]) (by kernel_rfl) (by simp) ?_
    refine AllReadyH.cons (op_at (rest := _) rfl) (fun K hK => ?_) AllReadyH.nil
    go_simp
    refine (lawake_any _).mono ?_
    rintro e w11 ⟨rfl, hb11⟩
    go_wp2_with fail
    replace hHeld := hHeld.trans (hb11.mono hHeld.size)
    refine hK.out _ _ hHeld (fun _ => ?_)
    clear hK K
    try simp only [Act.put, List.setIfInBounds_toArray, List.set_cons_zero, List.set_cons_succ]
    refine wpAnyH_take (i := 19) (v := ?_) (op_at (rest := _) rfl) (by kernel_rfl) (by kernel_rfl) (by kernel_rfl) (fun _ _ _ h => h) (Or.inl ⟨by rfl, ?_⟩) (by assumption) ?_
    rotate_left 1
    · (intro W hSw; (try dsimp only at hSw); go_simp; (try with_reducible rfl))
    try simp only [Act.put, List.setIfInBounds_toArray, List.set_cons_zero, List.set_cons_succ]
    refine wpAnyH_take (i := 20) (v := ?_) (op_at (rest := _) rfl) (by kernel_rfl) (by kernel_rfl) (by kernel_rfl) (fun _ _ _ h => h) (Or.inl ⟨by rfl, ?_⟩) (by assumption) ?_
    rotate_left 1
    · (intro W hSw; (try dsimp only at hSw); go_simp; (try with_reducible rfl))
    try simp only [Act.put, List.setIfInBounds_toArray, List.set_cons_zero, List.set_cons_succ]
    refine wpAnyH_done (by kernel_rfl) ?_ _
    refine NoPanic.normal ?_
    go_wp2_with fail
    go_ret
    exact ⟨rfl, bb2 BB (bb2 B6 hHeld)⟩

end Go.Proofs.YtecnjbaanbakoaaDoor
