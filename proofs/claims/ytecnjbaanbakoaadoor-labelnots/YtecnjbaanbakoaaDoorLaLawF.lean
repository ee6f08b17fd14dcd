/-
  LabelNots.
-/
import Derived.Test.YtecnjbaanbakoaaDoorLaOpen
namespace Go.Proofs.YtecnjbaanbakoaaDoor
open Go Go.RowKit Go.Shelf Go.Deep

theorem raw_not {k : Int} {nm : ByteArray} {vs : List ByteArray} (h : RawN ⟨k, nm, vs⟩) (k2 : Int) : RawN ⟨k2, nm, vs⟩ := ⟨h.name, h.vals⟩

set_option maxHeartbeats 6400000 in
theorem nots_law (v0 v1 : Value) (w : World) (a0 : ArgN w v0) (a1 : ArgPrs w v1) :
    Calls Tryd.prog 4 #[v0, v1] w fun e w' => e = .returned (.bool true) ∧ Below w.heap.size w w' := by
  obtain ⟨⟨⟨kd0, nm0, vs0⟩, xa, xc⟩, rfl, hx0, raw0⟩ := a0
  obtain ⟨l2, hs1, ok1⟩ := a1
  have CF := hide (lfew_one (.slice (some ⟨w.heap.size + 1, 0, none⟩) 1 1) ⟨⟨kd0, nm0, vs0⟩, xa, xc⟩ (((w.alloc (.cells #[.int .i64 kd0, .string nm0, .slice xa vs0.length xc] 29)).drew).alloc (.cells #[.int .i64 kd0, .string nm0, .slice xa vs0.length xc] 29)) (Sl.need ((w.alloc (.cells #[.int .i64 kd0, .string nm0, .slice xa vs0.length xc] 29)).drew) ⟨⟨kd0, nm0, vs0⟩, xa, xc⟩ 29 (w.heap.size + 1) (by simp [World.drew]) (hx0.below (((Below.refl _ _).alloc (Nat.le_refl _) _).drew))) raw0)
  have CL := hide (fun W (h : Below w.heap.size w W) => bfew_any v1 l2 W (hs1.below h) ok1)
  clear hs1 ok1 hx0 raw0
  dsimp only at *
  go_enter Tryd.func4, Tryd.ntmps4
  go_wp2_with fail
  refine region_out [some 9, some 10, some 11, some 12, some 13, some 14, some 15, some 1] (fun f W => ∃ (y : NV) (g off cp : Nat) (u : Value), f = opF [.agg #[.int .i64 kd0, .string nm0, .slice xa vs0.length xc], .slice (some ⟨w.heap.size + 1, 0, none⟩) 1 1, .slice (some ⟨g, off, none⟩) 1 cp, .pointer (some ⟨g, off, none⟩), nV y, v1, u, u] ∧ y.n = fewN ⟨kd0, nm0, vs0⟩ ∧ W.heap[w.heap.size]? = some (.cells #[.int .i64 y.n.kind, .string y.n.name, y.v] 29) ∧ y.own W ∧ (∃ b, W.ownsRow b 41 2 u (fewB2 l2).length (flat (fewB2 l2))) ∧ Below w.heap.size w W) ?_ ?_
  · refine wp_region_noPanic ?_
    refine wp_region_held_drew (S := fun W => Below w.heap.size w W) (by kernel_rfl) (((Below.refl _ _).alloc (Nat.le_refl _) _).drew) (fun hHeld => ?_)
    refine wpAnyH_take (i := 5) (v := ?_) (op_at (rest := _) rfl) (by kernel_rfl) (by kernel_rfl) (by kernel_rfl) (fun _ _ _ h => h) (Or.inl ⟨by rfl, ?_⟩) (by assumption) ?_
    rotate_left 1
    · (intro W hSw; (try dsimp only at hSw); go_simp; (try with_reducible rfl))
    try simp only [Act.put, List.setIfInBounds_toArray, List.set_cons_zero, List.set_cons_succ]
    refine wpAnyH_ready (rs := [0]) (by kernel_rfl) (by simp) ?_
    refine AllReadyH.cons (op_at (rest := _) rfl) (fun K hK => ?_) AllReadyH.nil
    go_simp
    refine hK.out _ _ hHeld (fun _ => ?_)
    clear hK K
    try simp only [Act.put, List.setIfInBounds_toArray, List.set_cons_zero, List.set_cons_succ]
    refine wpAnyH_ready (rs := [1]) (by kernel_rfl) (by simp) ?_
    refine AllReadyH.cons (op_at (rest := _) rfl) (fun K hK => ?_) AllReadyH.nil
    go_simp
    refine hK.out _ _ (hHeld.alloc hHeld.size _) (fun hHeld => ?_)
    clear hK K
    try simp only [Act.put, List.setIfInBounds_toArray, List.set_cons_zero, List.set_cons_succ]
    refine wpAnyH_ready (rs := [2]) (by kernel_rfl) (by simp) ?_
    refine AllReadyH.cons (op_at (rest := _) rfl) (fun K hK => ?_) AllReadyH.nil
    go_simp
    refine CF.out.mono ?_
    rintro e w2 ⟨g, off, cp, y, rfl, hy, owy, hcy, hb2⟩
    have HYN := hide hy
    clear hy
    go_wp2_with fail
    replace hHeld := hHeld.trans (hb2.mono hHeld.size)
    have HCY := hide hcy
    have BX2 : w2.heap[w.heap.size]? = some (.cells #[.int .i64 kd0, .string nm0, .slice xa vs0.length xc] 29) := box_block (o := .cells #[.int .i64 kd0, .string nm0, .slice xa vs0.length xc] 29) (((Below.refl _ _).drew).trans ((((Below.refl _ _).alloc (by simp) _).trans (hb2.mono (by simp)))))
    refine hK.out _ _ hHeld (fun _ => ?_)
    clear hK K hb2 hcy
    try simp only [Act.put, List.setIfInBounds_toArray, List.set_cons_zero, List.set_cons_succ]
    refine wpAnyH_take (i := 3) (v := ?_) (op_at (rest := _) rfl) (by kernel_rfl) (by kernel_rfl) (by kernel_rfl) (fun _ _ _ h => h) (Or.inl ⟨by rfl, ?_⟩) (by assumption) ?_
    rotate_left 1
    · (intro W hSw; (try dsimp only at hSw); go_simp; (try with_reducible rfl))
    try simp only [Act.put, List.setIfInBounds_toArray, List.set_cons_zero, List.set_cons_succ]
    refine wpAnyH_ready (rs := [4, 6]) (by kernel_rfl) (by simp) ?_
    refine AllReadyH.cons (op_at (rest := _) rfl) (fun K hK => ?_) (AllReadyH.cons (op_at (rest := _) rfl) (fun K hK => ?_) AllReadyH.nil)
    · obtain ⟨q0, q1, q2⟩ := HCY.out _ (Below.refl _ _)
      go_simp
      refine hK.out _ _ hHeld (fun _ => ?_)
      clear hK K q0 q1 q2
      try simp only [Act.put, List.setIfInBounds_toArray, List.set_cons_zero, List.set_cons_succ]
      refine wpAnyH_ready (rs := [6]) (by kernel_rfl) (by simp) ?_
      refine AllReadyH.cons (op_at (rest := _) rfl) (fun K hK => ?_) AllReadyH.nil
      go_simp
      refine (CL.out _ hHeld).mono ?_
      rintro e w3 ⟨u, rfl, hru, hb3⟩
      go_wp2_with fail
      replace hHeld := hHeld.trans (hb3.mono hHeld.size)
      refine hK.out _ _ hHeld (fun _ => ?_)
      clear hK K
      try simp only [Act.put, List.setIfInBounds_toArray, List.set_cons_zero, List.set_cons_succ]
      have hz := blk_below BX2 hb3
      have lz := liveN hz
      obtain ⟨z0, z1, z2⟩ : _ ∧ _ ∧ _ := ⟨cellN hz (i := 0) rfl, cellN hz (i := 1) rfl, cellN hz (i := 2) rfl⟩
      refine wpAnyH_ready (rs := [7]) (by kernel_rfl) (by simp) ?_
      refine AllReadyH.cons (op_at (rest := _) rfl) (fun K hK => ?_) AllReadyH.nil
      go_simp
      have KB := setL_all [.int .i64 y.n.kind, .string y.n.name, y.v] hz rfl
      have KS := setL_below (w := w) (B := w.heap.size) (g := w.heap.size) (Nat.le_refl _) [.int .i64 y.n.kind, .string y.n.name, y.v] w3 0 hHeld
      obtain ⟨by0, owy0⟩ := owy
      have KO := row_setL (cs := [.int .i64 y.n.kind, .string y.n.name, y.v]) (k := 0) (ownsRow_below owy0 hb3) hz (by decide)
      have KP := row_setL (cs := [.int .i64 y.n.kind, .string y.n.name, y.v]) (k := 0) hru hz (by decide)
      change K _ (setL w3 w.heap.size 0 [.int .i64 y.n.kind, .string y.n.name, y.v])
      generalize setL w3 w.heap.size 0 [.int .i64 y.n.kind, .string y.n.name, y.v] = w4 at *
      refine hK.out _ _ KS (fun hHeld => ?_)
      clear hK K lz z0 z1 z2
      try simp only [Act.put, List.setIfInBounds_toArray, List.set_cons_zero, List.set_cons_succ]
      refine wpAnyH_take (i := 8) (v := ?_) (op_at (rest := _) rfl) (by kernel_rfl) (by kernel_rfl) (by kernel_rfl) (fun _ _ _ h => h) (Or.inl ⟨by rfl, ?_⟩) (by assumption) ?_
      rotate_left 1
      · (intro W hSw; (try dsimp only at hSw); go_simp; (try with_reducible rfl))
      try simp only [Act.put, List.setIfInBounds_toArray, List.set_cons_zero, List.set_cons_succ]
      refine wpAnyH_done (by kernel_rfl) ?_ _
      refine NoPanic.normal ?_
      exact ⟨rfl, opF [.agg #[.int .i64 kd0, .string nm0, .slice xa vs0.length xc], .slice (some ⟨w.heap.size + 1, 0, none⟩) 1 1, .slice (some ⟨g, off, none⟩) 1 cp, .pointer (some ⟨g, off, none⟩), nV y, v1, u, u], (by simp only [putF, opF, List.getD_cons_zero, List.getD_cons_succ, Nat.reduceAdd, Act.put, List.setIfInBounds_toArray, List.set_cons_zero, List.set_cons_succ]), y, g, off, cp, u, rfl, HYN.out, KB, ⟨by0, KO⟩, ⟨_, KP⟩, KS⟩
    · go_simp
      refine (CL.out _ hHeld).mono ?_
      rintro e w3 ⟨u, rfl, hru, hb3⟩
      go_wp2_with fail
      replace hHeld := hHeld.trans (hb3.mono hHeld.size)
      refine hK.out _ _ hHeld (fun _ => ?_)
      clear hK K
      try simp only [Act.put, List.setIfInBounds_toArray, List.set_cons_zero, List.set_cons_succ]
      refine wpAnyH_ready (rs := [4]) (by kernel_rfl) (by simp) ?_
      refine AllReadyH.cons (op_at (rest := _) rfl) (fun K hK => ?_) AllReadyH.nil
      obtain ⟨q0, q1, q2⟩ := HCY.out _ (hb3)
      go_simp
      refine hK.out _ _ hHeld (fun _ => ?_)
      clear hK K q0 q1 q2
      try simp only [Act.put, List.setIfInBounds_toArray, List.set_cons_zero, List.set_cons_succ]
      have hz := blk_below BX2 hb3
      have lz := liveN hz
      obtain ⟨z0, z1, z2⟩ : _ ∧ _ ∧ _ := ⟨cellN hz (i := 0) rfl, cellN hz (i := 1) rfl, cellN hz (i := 2) rfl⟩
      refine wpAnyH_ready (rs := [7]) (by kernel_rfl) (by simp) ?_
      refine AllReadyH.cons (op_at (rest := _) rfl) (fun K hK => ?_) AllReadyH.nil
      go_simp
      have KB := setL_all [.int .i64 y.n.kind, .string y.n.name, y.v] hz rfl
      have KS := setL_below (w := w) (B := w.heap.size) (g := w.heap.size) (Nat.le_refl _) [.int .i64 y.n.kind, .string y.n.name, y.v] w3 0 hHeld
      obtain ⟨by0, owy0⟩ := owy
      have KO := row_setL (cs := [.int .i64 y.n.kind, .string y.n.name, y.v]) (k := 0) (ownsRow_below owy0 hb3) hz (by decide)
      have KP := row_setL (cs := [.int .i64 y.n.kind, .string y.n.name, y.v]) (k := 0) hru hz (by decide)
      change K _ (setL w3 w.heap.size 0 [.int .i64 y.n.kind, .string y.n.name, y.v])
      generalize setL w3 w.heap.size 0 [.int .i64 y.n.kind, .string y.n.name, y.v] = w4 at *
      refine hK.out _ _ KS (fun hHeld => ?_)
      clear hK K lz z0 z1 z2
      try simp only [Act.put, List.setIfInBounds_toArray, List.set_cons_zero, List.set_cons_succ]
      refine wpAnyH_take (i := 8) (v := ?_) (op_at (rest := _) rfl) (by kernel_rfl) (by kernel_rfl) (by kernel_rfl) (fun _ _ _ h => h) (Or.inl ⟨by rfl, ?_⟩) (by assumption) ?_
      rotate_left 1
      · (intro W hSw; (try dsimp only at hSw); go_simp; (try with_reducible rfl))
      try simp only [Act.put, List.setIfInBounds_toArray, List.set_cons_zero, List.set_cons_succ]
      refine wpAnyH_done (by kernel_rfl) ?_ _
      refine NoPanic.normal ?_
      exact ⟨rfl, opF [.agg #[.int .i64 kd0, .string nm0, .slice xa vs0.length xc], .slice (some ⟨w.heap.size + 1, 0, none⟩) 1 1, .slice (some ⟨g, off, none⟩) 1 cp, .pointer (some ⟨g, off, none⟩), nV y, v1, u, u], (by simp only [putF, opF, List.getD_cons_zero, List.getD_cons_succ, Nat.reduceAdd, Act.put, List.setIfInBounds_toArray, List.set_cons_zero, List.set_cons_succ]), y, g, off, cp, u, rfl, HYN.out, KB, ⟨by0, KO⟩, ⟨_, KP⟩, KS⟩
  rintro f w5 ⟨y, g, off, cp, u, rfl, hy, HBX, owy, ⟨bu, hru⟩, BB⟩
  simp only [putF, opF, List.getD_cons_zero, List.getD_cons_succ, Nat.reduceAdd, Act.put, List.setIfInBounds_toArray, List.set_cons_zero, List.set_cons_succ]
  have OKY : OkN y.n := by rw [hy]; exact fewN_ok _
  have SY := owy.at_
  have SP : Prs w5 u (fewB2 l2) := Prs.of_row rfl hru
  have okl := few_okB l2
  have okl2 := bfew_okP l2
  clear hy owy hru CF CL
  generalize fewB2 l2 = l at *
  obtain ⟨⟨kd, nm, vs⟩, ya, yc⟩ := y
  dsimp only at *
  have SPH := hide SP
  obtain ⟨c, cc, rfl, _⟩ := SP
  have RY := OKY.raw
  have hvl : vs.length ≤ 1000 := by have := OKY.len; dsimp only at this; omega
  have KN := hide (fun W (x : NV) v (hv : Sl EN W v [x]) (h : RawN x.n) => lneeds_any v [x] W hv (fun z hz => by rw [List.mem_singleton] at hz; subst hz; exact h))
  have KS := hide (fun W (x z : NV) va vb (ha : Sl EN W va [x]) (hb : Sl EN W vb [z]) => rlsame_any va vb [x] [z] W ha hb)
  have KV := hide (fun W a c a2 c2 (ha : Sl ES W (.slice a vs.length c) vs) (hb : Sl ES W (.slice a2 vs.length c2) vs) => rsameS_any W _ _ vs vs ha hb)
  have KL := hide (fun W (hW : Below w5.heap.size w5 W) => lmay_any (.slice c l.length cc) l W (SPH.out.below hW) okl2)
  have KM := hide (fun W k a2 c2 (hs : Sl ES W (.slice a2 vs.length c2) vs) (hW : Below w5.heap.size w5 W) => lmet_any ⟨⟨k, nm, vs⟩, a2, c2⟩ (.slice c l.length cc) l W hs (raw_not RY k) (SPH.out.below hW) okl2)
  have SYH := hide SY
  obtain ⟨f0, f1, f2⟩ : _ ∧ _ ∧ _ := ⟨cellN HBX (i := 0) rfl, cellN HBX (i := 1) rfl, cellN HBX (i := 2) rfl⟩
  cases hm : La.mayN ⟨kd, nm, vs⟩
  · have CN := hide (lnot_no ⟨⟨kd, nm, vs⟩, ya, yc⟩ w5 SY RY hm)
    have HN : Hid (La.needs (nbs [⟨⟨kd, nm, vs⟩, ya, yc⟩]) = false) := (La.needs_one ⟨kd, nm, vs⟩).trans hm
    clear KM KV KS KL hm SY
    go_wp2_with fail
    refine CN.out.mono ?_
    rintro e w6 ⟨rfl, hb6⟩
    have B6 := hb6.alloc hb6.size (.cells #[.int .i64 0, .string ⟨#[]⟩, .slice none 0 0] 29)
    obtain ⟨f0, f1, f2⟩ : _ ∧ _ ∧ _ := ⟨cellN (blk_below HBX B6) (i := 0) rfl, cellN (blk_below HBX B6) (i := 1) rfl, cellN (blk_below HBX B6) (i := 2) rfl⟩
    go_wp2_with fail
    have B7 := B6.alloc B6.size (.cells #[.int .i64 kd, .string nm, .slice ya vs.length yc] 29)
    refine (KN.out _ ⟨⟨kd, nm, vs⟩, ya, yc⟩ _ (Sl.need (w6.alloc (.cells #[.int .i64 0, .string ⟨#[]⟩, .slice none 0 0] 29)) ⟨⟨kd, nm, vs⟩, ya, yc⟩ _ _ (by simp) (SYH.out.below B6)) RY).mono ?_
    rintro e w8 ⟨rfl, hb8⟩
    rw [HN.out]
    have k2 : w8.heap[w6.heap.size]? = some (.cells #[.int .i64 0, .string ⟨#[]⟩, .slice none 0 0] 29) := box_block (below_box hb8)
    obtain ⟨z0, z1, z2⟩ : _ ∧ _ ∧ _ := ⟨cellN k2 (i := 0) rfl, cellN k2 (i := 1) rfl, cellN k2 (i := 2) rfl⟩
    go_wp2_with fail
    refine (lawake_any _).mono ?_
    rintro e w9 ⟨rfl, hb9⟩
    go_wp2_with fail
    go_ret
    exact ⟨rfl, bb2 BB (bb2 (bb2 B7 hb8) hb9)⟩
  · have CN : Hid (Calls Tryd.prog 23 #[.agg #[.int .i64 kd, .string nm, .slice ya vs.length yc]] w5 fun e w' => ∃ a c, e = .returned (.tuple #[.agg #[.int .i64 (La.otherK kd), .string nm, .slice a vs.length c], .bool true]) ∧ Sl ES w' (.slice a vs.length c) vs ∧ Below w5.heap.size w5 w') := lnot_yes ⟨⟨kd, nm, vs⟩, ya, yc⟩ w5 SY RY hvl hm
    have HN : Hid (La.needs (nbs [⟨⟨kd, nm, vs⟩, ya, yc⟩]) = true) := (La.needs_one ⟨kd, nm, vs⟩).trans hm
    have CB : Hid (∀ W a2 c2, Sl ES W (.slice a2 vs.length c2) vs → Calls Tryd.prog 23 #[.agg #[.int .i64 (La.otherK kd), .string nm, .slice a2 vs.length c2]] W fun e w' => ∃ a c, e = .returned (.tuple #[.agg #[.int .i64 kd, .string nm, .slice a vs.length c], .bool true]) ∧ Sl ES w' (.slice a vs.length c) vs ∧ Below W.heap.size W w') := fun W a2 c2 h => by
      have := lnot_yes ⟨La.notN ⟨kd, nm, vs⟩, a2, c2⟩ W h (raw_not RY _) hvl (La.mayN_not ⟨kd, nm, vs⟩ hm)
      rw [La.notN_notN ⟨kd, nm, vs⟩ hm] at this
      exact this
    have HME := hide (La.metN_not ⟨kd, nm, vs⟩ hm l)
    have HMY := hide hm
    have HMN := hide (La.mayN_not ⟨kd, nm, vs⟩ hm)
    clear hm SY
    go_wp2_with fail
    refine CN.out.mono ?_
    rintro e w6 ⟨na, nc, rfl, hs6, hb6⟩
    clear f0 f1 f2 CN
    have B6 := hb6.alloc hb6.size (.cells #[.int .i64 (La.otherK kd), .string nm, .slice na vs.length nc] 29)
    have BM := (Below.refl w6.heap.size w6).alloc (Nat.le_refl _) (.cells #[.int .i64 (La.otherK kd), .string nm, .slice na vs.length nc] 29)
    have k1 := blk_below HBX B6
    have k2 := alloc_new w6 (.cells #[.int .i64 (La.otherK kd), .string nm, .slice na vs.length nc] 29)
    have hM := hide (hs6.below BM)
    obtain ⟨g0, g1, g2⟩ : _ ∧ _ ∧ _ := ⟨cellN k1 (i := 0) rfl, cellN k1 (i := 1) rfl, cellN k1 (i := 2) rfl⟩
    go_wp2_with fail
    have B7 := (Below.refl (w6.alloc (.cells #[.int .i64 (La.otherK kd), .string nm, .slice na vs.length nc] 29)).heap.size (w6.alloc (.cells #[.int .i64 (La.otherK kd), .string nm, .slice na vs.length nc] 29))).alloc (Nat.le_refl _) (.cells #[.int .i64 kd, .string nm, .slice ya vs.length yc] 29)
    refine (KN.out _ ⟨⟨kd, nm, vs⟩, ya, yc⟩ _ (Sl.need (w6.alloc (.cells #[.int .i64 (La.otherK kd), .string nm, .slice na vs.length nc] 29)) ⟨⟨kd, nm, vs⟩, ya, yc⟩ _ _ (by simp) (SYH.out.below B6)) RY).mono ?_
    rintro e w8 ⟨rfl, hb8⟩
    rw [HN.out]
    replace B7 := bb2 B7 hb8
    generalize w6.alloc (.cells #[.int .i64 (La.otherK kd), .string nm, .slice na vs.length nc] 29) = X at *
    clear g0 g1 g2 BM hb6 hs6
    generalize w6.heap.size = gm at *
    have m2 := blk_below k2 B7
    obtain ⟨z0, z1, z2⟩ : _ ∧ _ ∧ _ := ⟨cellN m2 (i := 0) rfl, cellN m2 (i := 1) rfl, cellN m2 (i := 2) rfl⟩
    clear hb8 KN
    go_wp2_with fail
    refine (CB.out _ na nc (hM.out.below B7)).mono ?_
    rintro e w9 ⟨ba, bc, rfl, hs9, hb9⟩
    have BM := (Below.refl w9.heap.size w9).alloc (Nat.le_refl _) (.cells #[.int .i64 kd, .string nm, .slice ba vs.length bc] 29)
    have V1 := BM.alloc (by simp) (.cells #[.int .i64 kd, .string nm, .slice ba vs.length bc] 29)
    have B71 := bb2 B7 (bb2 hb9 V1)
    have nn1 := blk_below k1 B71
    obtain ⟨b0, b1, b2⟩ : _ ∧ _ ∧ _ := ⟨cellN nn1 (i := 0) rfl, cellN nn1 (i := 1) rfl, cellN nn1 (i := 2) rfl⟩
    clear z0 z1 z2 m2 CB
    go_wp2_with fail
    refine (KS.out _ ⟨⟨kd, nm, vs⟩, ba, bc⟩ ⟨⟨kd, nm, vs⟩, ya, yc⟩ _ _ ((Sl.need (w9.alloc (.cells #[.int .i64 kd, .string nm, .slice ba vs.length bc] 29)) ⟨⟨kd, nm, vs⟩, ba, bc⟩ _ _ (by simp) (hs9.below BM)).below ((Below.refl _ _).alloc (Nat.le_refl _) _)) (Sl.need ((w9.alloc (.cells #[.int .i64 kd, .string nm, .slice ba vs.length bc] 29)).alloc (.cells #[.int .i64 kd, .string nm, .slice ba vs.length bc] 29)) ⟨⟨kd, nm, vs⟩, ya, yc⟩ _ _ (by simp) (SYH.out.below (bb2 B6 B71)))).mono ?_
    rintro e w10 ⟨rfl, hb10⟩
    rw [show La.sameL (nbs [⟨⟨kd, nm, vs⟩, ba, bc⟩]) (nbs [⟨⟨kd, nm, vs⟩, ya, yc⟩]) = true from by simp [La.sameL, La.sameN]]
    have V2 := bb2 B7 (bb2 hb9 (bb2 (V1.alloc (by simp; omega) (.cells #[.int .i64 kd, .string nm, .slice ya vs.length yc] 29)) hb10))
    have p1 := blk_below k1 V2
    have p2 := blk_below k2 V2
    clear b0 b1 b2 nn1 V1 hb10 KS B71 hb9 hs9 BM
    obtain ⟨a0, a1, a2⟩ : _ ∧ _ ∧ _ := ⟨cellN p1 (i := 0) rfl, cellN p1 (i := 1) rfl, cellN p1 (i := 2) rfl⟩
    obtain ⟨b0, b1, b2⟩ : _ ∧ _ ∧ _ := ⟨cellN p2 (i := 0) rfl, cellN p2 (i := 1) rfl, cellN p2 (i := 2) rfl⟩
    go_wp2_with fail
    refine (KV.out _ na nc ya yc (hM.out.below V2) (SYH.out.below (bb2 B6 V2))).mono ?_
    rintro e w11 ⟨rfl, hb11⟩
    try simp only [decide_true]
    replace V2 := bb2 V2 hb11
    have D1 := hide (fun W (hW : Below w11.heap.size w11 W) => blk_below k1 (bb2 V2 hW))
    have D2 := hide (fun W (hW : Below w11.heap.size w11 W) => blk_below k2 (bb2 V2 hW))
    have BW := hide (bb2 B6 V2)
    have SY11 := hide (SYH.out.below (bb2 B6 V2))
    have SM11 := hide (hM.out.below V2)
    clear a0 a1 a2 b0 b1 b2 p1 p2 hb11 KV k1 k2 V2
    have M1 : Hid (∀ W, Below w11.heap.size w11 W → Calls Tryd.prog 12 #[.agg #[.int .i64 kd, .string nm, .slice ya vs.length yc], .slice c l.length cc] W fun e w' => e = .returned (.bool (La.mayL l && La.metN ⟨kd, nm, vs⟩ l)) ∧ Below W.heap.size W w') := fun W hW => by
      have := KM.out W kd ya yc (SY11.out.below hW) (bb2 BW.out hW)
      unfold La.met at this
      rw [HMY.out, Bool.true_and] at this
      exact this
    have M2 : Hid (∀ W, Below w11.heap.size w11 W → Calls Tryd.prog 12 #[.agg #[.int .i64 (La.otherK kd), .string nm, .slice na vs.length nc], .slice c l.length cc] W fun e w' => e = .returned (.bool (La.mayL l && !La.metN ⟨kd, nm, vs⟩ l)) ∧ Below W.heap.size W w') := fun W hW => by
      have := KM.out W (La.otherK kd) na nc (SM11.out.below hW) (bb2 BW.out hW)
      unfold La.met at this
      have e1 : La.mayN ⟨La.otherK kd, nm, vs⟩ = true := HMN.out
      have e2 : La.metN ⟨La.otherK kd, nm, vs⟩ l = !La.metN ⟨kd, nm, vs⟩ l := HME.out
      rw [e1, e2, Bool.true_and] at this
      exact this
    have M3 := hide (fun W (hW : Below w11.heap.size w11 W) => KL.out W (bb2 BW.out hW))
    clear KM KL HMY HMN HME SY11 SM11
    generalize La.mayL l = r1 at *
    generalize La.metN ⟨kd, nm, vs⟩ l = r2 at *
    go_wp2_with fail
    cases r1
    · refine wp_region_noPanic ?_
      refine wp_region_held_drew (S := fun W => Below (w11).heap.size (w11) W) (by kernel_rfl) ((Below.refl _ _).drew) (fun hHeld => ?_)
      refine wpAnyH_take (i := 0) (v := ?_) (op_at (rest := _) rfl) (by kernel_rfl) (by kernel_rfl) (by kernel_rfl) (fun _ _ _ h => h) (Or.inl ⟨by rfl, ?_⟩) (by assumption) ?_
      rotate_left 1
      · (intro W hSw; (try dsimp only at hSw); go_simp; (try with_reducible rfl))
      try simp only [Act.put, List.setIfInBounds_toArray, List.set_cons_zero, List.set_cons_succ]
      refine wpAnyH_ready (rs := [1]) (by kernel_rfl) (by simp) ?_
      refine AllReadyH.cons (op_at (rest := _) rfl) (fun K hK => ?_) AllReadyH.nil
      go_simp
      refine (M3.out _ hHeld).mono ?_
      rintro e w12 ⟨rfl, hb12⟩
      go_wp2_with fail
      replace hHeld := hHeld.trans (hb12.mono hHeld.size)
      refine hK.out _ _ hHeld (fun _ => ?_)
      clear hK K
      try simp only [Act.put, List.setIfInBounds_toArray, List.set_cons_zero, List.set_cons_succ]
      refine wpAnyH_take (i := 2) (v := ?_) (op_at (rest := _) rfl) (by kernel_rfl) (by kernel_rfl) (by kernel_rfl) (fun _ _ _ h => h) (Or.inl ⟨by rfl, ?_⟩) (by assumption) ?_
      rotate_left 1
      · (intro W hSw; (try dsimp only at hSw); go_simp; (try with_reducible rfl))
      try simp only [Act.put, List.setIfInBounds_toArray, List.set_cons_zero, List.set_cons_succ]
      refine wpAnyH_take (i := 3) (v := ?_) (op_at (rest := _) rfl) (by kernel_rfl) (by kernel_rfl) (by kernel_rfl) (fun _ _ _ h => h) (Or.inl ⟨by rfl, ?_⟩) (by assumption) ?_
      rotate_left 1
      · (intro W hSw; (try dsimp only at hSw); go_simp; (try with_reducible rfl))
      try simp only [Act.put, List.setIfInBounds_toArray, List.set_cons_zero, List.set_cons_succ]
      refine wpAnyH_take (i := 4) (v := ?_) (op_at (rest := _) rfl) (by kernel_rfl) (by kernel_rfl) (by kernel_rfl) (fun _ _ _ h => h) (Or.inl ⟨by rfl, ?_⟩) (by assumption) ?_
      rotate_left 1
      · (intro W hSw; (try dsimp only at hSw); have q := D1.out W hSw ; have q0 := cellN q (i := 0) rfl ; have q1 := cellN q (i := 1) rfl ; have q2 := cellN q (i := 2) rfl; go_simp; (try with_reducible rfl))
      try simp only [Act.put, List.setIfInBounds_toArray, List.set_cons_zero, List.set_cons_succ]
      refine wpAnyH_take (i := 5) (v := ?_) (op_at (rest := _) rfl) (by kernel_rfl) (by kernel_rfl) (by kernel_rfl) (fun _ _ _ h => h) (Or.inl ⟨by rfl, ?_⟩) (by assumption) ?_
      rotate_left 1
      · (intro W hSw; (try dsimp only at hSw); go_simp; (try with_reducible rfl))
      try simp only [Act.put, List.setIfInBounds_toArray, List.set_cons_zero, List.set_cons_succ]
      refine wpAnyH_ready (rs := [6]) (by kernel_rfl) (by simp) ?_
      refine AllReadyH.cons (op_at (rest := _) rfl) (fun K hK => ?_) AllReadyH.nil
      go_simp
      refine (M1.out _ hHeld).mono ?_
      rintro e w13 ⟨rfl, hb13⟩
      go_wp2_with fail
      replace hHeld := hHeld.trans (hb13.mono hHeld.size)
      refine hK.out _ _ hHeld (fun _ => ?_)
      clear hK K
      try simp only [Act.put, List.setIfInBounds_toArray, List.set_cons_zero, List.set_cons_succ]
      try simp only [Bool.false_and]
      refine wpAnyH_take (i := 7) (v := ?_) (op_at (rest := _) rfl) (by kernel_rfl) (by kernel_rfl) (by kernel_rfl) (fun _ _ _ h => h) (Or.inl ⟨by rfl, ?_⟩) (by assumption) ?_
      rotate_left 1
      · (intro W hSw; (try dsimp only at hSw); go_simp; (try with_reducible rfl))
      try simp only [Act.put, List.setIfInBounds_toArray, List.set_cons_zero, List.set_cons_succ]
      refine wpAnyH_take (i := 8) (v := ?_) (op_at (rest := _) rfl) (by kernel_rfl) (by kernel_rfl) (by kernel_rfl) (fun _ _ _ h => h) (Or.inl ⟨by rfl, ?_⟩) (by assumption) ?_
      rotate_left 1
      · (intro W hSw; (try dsimp only at hSw); go_simp; (try with_reducible rfl))
      try simp only [Act.put, List.setIfInBounds_toArray, List.set_cons_zero, List.set_cons_succ]
      refine wpAnyH_take (i := 9) (v := ?_) (op_at (rest := _) rfl) (by kernel_rfl) (by kernel_rfl) (by kernel_rfl) (fun _ _ _ h => h) (Or.inl ⟨by rfl, ?_⟩) (by assumption) ?_
      rotate_left 1
      · (intro W hSw; (try dsimp only at hSw); go_simp; (try with_reducible rfl))
      try simp only [Act.put, List.setIfInBounds_toArray, List.set_cons_zero, List.set_cons_succ]
      refine wpAnyH_take (i := 10) (v := ?_) (op_at (rest := _) rfl) (by kernel_rfl) (by kernel_rfl) (by kernel_rfl) (fun _ _ _ h => h) (Or.inl ⟨by rfl, ?_⟩) (by assumption) ?_
      rotate_left 1
      · (intro W hSw; (try dsimp only at hSw); have q := D2.out W hSw ; have q0 := cellN q (i := 0) rfl ; have q1 := cellN q (i := 1) rfl ; have q2 := cellN q (i := 2) rfl; go_simp; (try with_reducible rfl))
      try simp only [Act.put, List.setIfInBounds_toArray, List.set_cons_zero, List.set_cons_succ]
      refine wpAnyH_take (i := 11) (v := ?_) (op_at (rest := _) rfl) (by kernel_rfl) (by kernel_rfl) (by kernel_rfl) (fun _ _ _ h => h) (Or.inl ⟨by rfl, ?_⟩) (by assumption) ?_
      rotate_left 1
      · (intro W hSw; (try dsimp only at hSw); go_simp; (try with_reducible rfl))
      try simp only [Act.put, List.setIfInBounds_toArray, List.set_cons_zero, List.set_cons_succ]
      refine wpAnyH_ready (rs := [12]) (by kernel_rfl) (by simp) ?_
      refine AllReadyH.cons (op_at (rest := _) rfl) (fun K hK => ?_) AllReadyH.nil
      go_simp
      refine (M2.out _ hHeld).mono ?_
      rintro e w14 ⟨rfl, hb14⟩
      go_wp2_with fail
      replace hHeld := hHeld.trans (hb14.mono hHeld.size)
      refine hK.out _ _ hHeld (fun _ => ?_)
      clear hK K
      try simp only [Act.put, List.setIfInBounds_toArray, List.set_cons_zero, List.set_cons_succ]
      try simp only [Bool.false_and]
      refine wpAnyH_take (i := 13) (v := ?_) (op_at (rest := _) rfl) (by kernel_rfl) (by kernel_rfl) (by kernel_rfl) (fun _ _ _ h => h) (Or.inl ⟨by rfl, ?_⟩) (by assumption) ?_
      rotate_left 1
      · (intro W hSw; (try dsimp only at hSw); go_simp; (try with_reducible rfl))
      try simp only [Act.put, List.setIfInBounds_toArray, List.set_cons_zero, List.set_cons_succ]
      refine wpAnyH_take (i := 14) (v := ?_) (op_at (rest := _) rfl) (by kernel_rfl) (by kernel_rfl) (by kernel_rfl) (fun _ _ _ h => h) (Or.inl ⟨by rfl, ?_⟩) (by assumption) ?_
      rotate_left 1
      · (intro W hSw; (try dsimp only at hSw); go_simp; (try with_reducible rfl))
      try simp only [Act.put, List.setIfInBounds_toArray, List.set_cons_zero, List.set_cons_succ]
      refine wpAnyH_take (i := 15) (v := ?_) (op_at (rest := _) rfl) (by kernel_rfl) (by kernel_rfl) (by kernel_rfl) (fun _ _ _ h => h) (Or.inl ⟨by rfl, ?_⟩) (by assumption) ?_
      rotate_left 1
      · (intro W hSw; (try dsimp only at hSw); go_simp; (try with_reducible rfl))
      try simp only [Act.put, List.setIfInBounds_toArray, List.set_cons_zero, List.set_cons_succ]
      refine wpAnyH_take (i := 16) (v := undef) (op_at (rest := _) rfl) (by kernel_rfl) (by kernel_rfl) (by kernel_rfl) (fun _ _ _ h => h) (Or.inr ⟨by rfl, rfl⟩) (by assumption) ?_
      try simp only [Act.put, List.setIfInBounds_toArray, List.set_cons_zero, List.set_cons_succ]
      refine wpAnyH_take (i := 17) (v := undef) (op_at (rest := _) rfl) (by kernel_rfl) (by kernel_rfl) (by kernel_rfl) (fun _ _ _ h => h) (Or.inr ⟨by rfl, rfl⟩) (by assumption) ?_
      try simp only [Act.put, List.setIfInBounds_toArray, List.set_cons_zero, List.set_cons_succ]
      refine wpAnyH_take (i := 18) (v := undef) (op_at (rest := _) rfl) (by kernel_rfl) (by kernel_rfl) (by kernel_rfl) (fun _ _ _ h => h) (Or.inr ⟨by rfl, rfl⟩) (by assumption) ?_
      try simp only [Act.put, List.setIfInBounds_toArray, List.set_cons_zero, List.set_cons_succ]
      refine wpAnyH_take (i := 19) (v := undef) (op_at (rest := _) rfl) (by kernel_rfl) (by kernel_rfl) (by kernel_rfl) (fun _ _ _ h => h) (Or.inr ⟨by rfl, rfl⟩) (by assumption) ?_
      try simp only [Act.put, List.setIfInBounds_toArray, List.set_cons_zero, List.set_cons_succ]
      refine wpAnyH_take (i := 20) (v := undef) (op_at (rest := _) rfl) (by kernel_rfl) (by kernel_rfl) (by kernel_rfl) (fun _ _ _ h => h) (Or.inr ⟨by rfl, rfl⟩) (by assumption) ?_
      try simp only [Act.put, List.setIfInBounds_toArray, List.set_cons_zero, List.set_cons_succ]
      refine wpAnyH_take (i := 21) (v := undef) (op_at (rest := _) rfl) (by kernel_rfl) (by kernel_rfl) (by kernel_rfl) (fun _ _ _ h => h) (Or.inr ⟨by rfl, rfl⟩) (by assumption) ?_
      try simp only [Act.put, List.setIfInBounds_toArray, List.set_cons_zero, List.set_cons_succ]
      refine wpAnyH_take (i := 22) (v := undef) (op_at (rest := _) rfl) (by kernel_rfl) (by kernel_rfl) (by kernel_rfl) (fun _ _ _ h => h) (Or.inr ⟨by rfl, rfl⟩) (by assumption) ?_
      try simp only [Act.put, List.setIfInBounds_toArray, List.set_cons_zero, List.set_cons_succ]
      refine wpAnyH_take (i := 23) (v := undef) (op_at (rest := _) rfl) (by kernel_rfl) (by kernel_rfl) (by kernel_rfl) (fun _ _ _ h => h) (Or.inr ⟨by rfl, rfl⟩) (by assumption) ?_
      try simp only [Act.put, List.setIfInBounds_toArray, List.set_cons_zero, List.set_cons_succ]
      refine wpAnyH_take (i := 24) (v := undef) (op_at (rest := _) rfl) (by kernel_rfl) (by kernel_rfl) (by kernel_rfl) (fun _ _ _ h => h) (Or.inr ⟨by rfl, rfl⟩) (by assumption) ?_
      try simp only [Act.put, List.setIfInBounds_toArray, List.set_cons_zero, List.set_cons_succ]
      refine wpAnyH_take (i := 25) (v := undef) (op_at (rest := _) rfl) (by kernel_rfl) (by kernel_rfl) (by kernel_rfl) (fun _ _ _ h => h) (Or.inr ⟨by rfl, rfl⟩) (by assumption) ?_
      try simp only [Act.put, List.setIfInBounds_toArray, List.set_cons_zero, List.set_cons_succ]
      refine wpAnyH_take (i := 26) (v := undef) (op_at (rest := _) rfl) (by kernel_rfl) (by kernel_rfl) (by kernel_rfl) (fun _ _ _ h => h) (Or.inr ⟨by rfl, rfl⟩) (by assumption) ?_
      try simp only [Act.put, List.setIfInBounds_toArray, List.set_cons_zero, List.set_cons_succ]
      refine wpAnyH_take (i := 27) (v := ?_) (op_at (rest := _) rfl) (by kernel_rfl) (by kernel_rfl) (by kernel_rfl) (fun _ _ _ h => h) (Or.inl ⟨by rfl, ?_⟩) (by assumption) ?_
      rotate_left 1
      · (intro W hSw; (try dsimp only at hSw); go_simp; (try with_reducible rfl))
      try simp only [Act.put, List.setIfInBounds_toArray, List.set_cons_zero, List.set_cons_succ]
      refine wpAnyH_take (i := 28) (v := ?_) (op_at (rest := _) rfl) (by kernel_rfl) (by kernel_rfl) (by kernel_rfl) (fun _ _ _ h => h) (Or.inl ⟨by rfl, ?_⟩) (by assumption) ?_
      rotate_left 1
      · (intro W hSw; (try dsimp only at hSw); go_simp; (try with_reducible rfl))
      try simp only [Act.put, List.setIfInBounds_toArray, List.set_cons_zero, List.set_cons_succ]
      refine wpAnyH_ready (rs := [29]) (by kernel_rfl) (by simp) ?_
      refine AllReadyH.cons (op_at (rest := _) rfl) (fun K hK => ?_) AllReadyH.nil
      go_simp
      refine (lawake_any _).mono ?_
      rintro e w15 ⟨rfl, hb15⟩
      go_wp2_with fail
      replace hHeld := hHeld.trans (hb15.mono hHeld.size)
      refine hK.out _ _ hHeld (fun _ => ?_)
      clear hK K
      try simp only [Act.put, List.setIfInBounds_toArray, List.set_cons_zero, List.set_cons_succ]
      refine wpAnyH_take (i := 30) (v := ?_) (op_at (rest := _) rfl) (by kernel_rfl) (by kernel_rfl) (by kernel_rfl) (fun _ _ _ h => h) (Or.inl ⟨by rfl, ?_⟩) (by assumption) ?_
      rotate_left 1
      · (intro W hSw; (try dsimp only at hSw); go_simp; (try with_reducible rfl))
      try simp only [Act.put, List.setIfInBounds_toArray, List.set_cons_zero, List.set_cons_succ]
      refine wpAnyH_take (i := 31) (v := ?_) (op_at (rest := _) rfl) (by kernel_rfl) (by kernel_rfl) (by kernel_rfl) (fun _ _ _ h => h) (Or.inl ⟨by rfl, ?_⟩) (by assumption) ?_
      rotate_left 1
      · (intro W hSw; (try dsimp only at hSw); go_simp; (try with_reducible rfl))
      try simp only [Act.put, List.setIfInBounds_toArray, List.set_cons_zero, List.set_cons_succ]
      refine wpAnyH_done (by kernel_rfl) ?_ _
      refine NoPanic.normal ?_
      go_wp2_with fail
      go_ret
      exact ⟨rfl, bb2 BB (bb2 BW.out hHeld)⟩
    · refine wp_region_noPanic ?_
      refine wp_region_held_drew (S := fun W => Below (w11).heap.size (w11) W) (by kernel_rfl) ((Below.refl _ _).drew) (fun hHeld => ?_)
      refine wpAnyH_take (i := 0) (v := ?_) (op_at (rest := _) rfl) (by kernel_rfl) (by kernel_rfl) (by kernel_rfl) (fun _ _ _ h => h) (Or.inl ⟨by rfl, ?_⟩) (by assumption) ?_
      rotate_left 1
      · (intro W hSw; (try dsimp only at hSw); go_simp; (try with_reducible rfl))
      try simp only [Act.put, List.setIfInBounds_toArray, List.set_cons_zero, List.set_cons_succ]
      refine wpAnyH_ready (rs := [1]) (by kernel_rfl) (by simp) ?_
      refine AllReadyH.cons (op_at (rest := _) rfl) (fun K hK => ?_) AllReadyH.nil
      go_simp
      refine (M3.out _ hHeld).mono ?_
      rintro e w12 ⟨rfl, hb12⟩
      go_wp2_with fail
      replace hHeld := hHeld.trans (hb12.mono hHeld.size)
      refine hK.out _ _ hHeld (fun _ => ?_)
      clear hK K
      try simp only [Act.put, List.setIfInBounds_toArray, List.set_cons_zero, List.set_cons_succ]
      refine wpAnyH_take (i := 2) (v := ?_) (op_at (rest := _) rfl) (by kernel_rfl) (by kernel_rfl) (by kernel_rfl) (fun _ _ _ h => h) (Or.inl ⟨by rfl, ?_⟩) (by assumption) ?_
      rotate_left 1
      · (intro W hSw; (try dsimp only at hSw); go_simp; (try with_reducible rfl))
      try simp only [Act.put, List.setIfInBounds_toArray, List.set_cons_zero, List.set_cons_succ]
      refine wpAnyH_take (i := 3) (v := ?_) (op_at (rest := _) rfl) (by kernel_rfl) (by kernel_rfl) (by kernel_rfl) (fun _ _ _ h => h) (Or.inl ⟨by rfl, ?_⟩) (by assumption) ?_
      rotate_left 1
      · (intro W hSw; (try dsimp only at hSw); go_simp; (try with_reducible rfl))
      try simp only [Act.put, List.setIfInBounds_toArray, List.set_cons_zero, List.set_cons_succ]
      refine wpAnyH_take (i := 4) (v := undef) (op_at (rest := _) rfl) (by kernel_rfl) (by kernel_rfl) (by kernel_rfl) (fun _ _ _ h => h) (Or.inr ⟨by rfl, rfl⟩) (by assumption) ?_
      try simp only [Act.put, List.setIfInBounds_toArray, List.set_cons_zero, List.set_cons_succ]
      refine wpAnyH_take (i := 5) (v := undef) (op_at (rest := _) rfl) (by kernel_rfl) (by kernel_rfl) (by kernel_rfl) (fun _ _ _ h => h) (Or.inr ⟨by rfl, rfl⟩) (by assumption) ?_
      try simp only [Act.put, List.setIfInBounds_toArray, List.set_cons_zero, List.set_cons_succ]
      refine wpAnyH_take (i := 6) (v := undef) (op_at (rest := _) rfl) (by kernel_rfl) (by kernel_rfl) (by kernel_rfl) (fun _ _ _ h => h) (Or.inr ⟨by rfl, rfl⟩) (by assumption) ?_
      try simp only [Act.put, List.setIfInBounds_toArray, List.set_cons_zero, List.set_cons_succ]
      refine wpAnyH_take (i := 7) (v := undef) (op_at (rest := _) rfl) (by kernel_rfl) (by kernel_rfl) (by kernel_rfl) (fun _ _ _ h => h) (Or.inr ⟨by rfl, rfl⟩) (by assumption) ?_
      try simp only [Act.put, List.setIfInBounds_toArray, List.set_cons_zero, List.set_cons_succ]
      refine wpAnyH_take (i := 8) (v := ?_) (op_at (rest := _) rfl) (by kernel_rfl) (by kernel_rfl) (by kernel_rfl) (fun _ _ _ h => h) (Or.inl ⟨by rfl, ?_⟩) (by assumption) ?_
      rotate_left 1
      · (intro W hSw; (try dsimp only at hSw); go_simp; (try with_reducible rfl))
      try simp only [Act.put, List.setIfInBounds_toArray, List.set_cons_zero, List.set_cons_succ]
      refine wpAnyH_take (i := 9) (v := ?_) (op_at (rest := _) rfl) (by kernel_rfl) (by kernel_rfl) (by kernel_rfl) (fun _ _ _ h => h) (Or.inl ⟨by rfl, ?_⟩) (by assumption) ?_
      rotate_left 1
      · (intro W hSw; (try dsimp only at hSw); go_simp; (try with_reducible rfl))
      try simp only [Act.put, List.setIfInBounds_toArray, List.set_cons_zero, List.set_cons_succ]
      refine wpAnyH_take (i := 10) (v := undef) (op_at (rest := _) rfl) (by kernel_rfl) (by kernel_rfl) (by kernel_rfl) (fun _ _ _ h => h) (Or.inr ⟨by rfl, rfl⟩) (by assumption) ?_
      try simp only [Act.put, List.setIfInBounds_toArray, List.set_cons_zero, List.set_cons_succ]
      refine wpAnyH_take (i := 11) (v := undef) (op_at (rest := _) rfl) (by kernel_rfl) (by kernel_rfl) (by kernel_rfl) (fun _ _ _ h => h) (Or.inr ⟨by rfl, rfl⟩) (by assumption) ?_
      try simp only [Act.put, List.setIfInBounds_toArray, List.set_cons_zero, List.set_cons_succ]
      refine wpAnyH_take (i := 12) (v := undef) (op_at (rest := _) rfl) (by kernel_rfl) (by kernel_rfl) (by kernel_rfl) (fun _ _ _ h => h) (Or.inr ⟨by rfl, rfl⟩) (by assumption) ?_
      try simp only [Act.put, List.setIfInBounds_toArray, List.set_cons_zero, List.set_cons_succ]
      refine wpAnyH_take (i := 13) (v := undef) (op_at (rest := _) rfl) (by kernel_rfl) (by kernel_rfl) (by kernel_rfl) (fun _ _ _ h => h) (Or.inr ⟨by rfl, rfl⟩) (by assumption) ?_
      try simp only [Act.put, List.setIfInBounds_toArray, List.set_cons_zero, List.set_cons_succ]
      refine wpAnyH_take (i := 14) (v := ?_) (op_at (rest := _) rfl) (by kernel_rfl) (by kernel_rfl) (by kernel_rfl) (fun _ _ _ h => h) (Or.inl ⟨by rfl, ?_⟩) (by assumption) ?_
      rotate_left 1
      · (intro W hSw; (try dsimp only at hSw); go_simp; (try with_reducible rfl))
      try simp only [Act.put, List.setIfInBounds_toArray, List.set_cons_zero, List.set_cons_succ]
      refine wpAnyH_take (i := 15) (v := ?_) (op_at (rest := _) rfl) (by kernel_rfl) (by kernel_rfl) (by kernel_rfl) (fun _ _ _ h => h) (Or.inl ⟨by rfl, ?_⟩) (by assumption) ?_
      rotate_left 1
      · (intro W hSw; (try dsimp only at hSw); go_simp; (try with_reducible rfl))
      try simp only [Act.put, List.setIfInBounds_toArray, List.set_cons_zero, List.set_cons_succ]
      refine wpAnyH_take (i := 16) (v := ?_) (op_at (rest := _) rfl) (by kernel_rfl) (by kernel_rfl) (by kernel_rfl) (fun _ _ _ h => h) (Or.inl ⟨by rfl, ?_⟩) (by assumption) ?_
      rotate_left 1
      · (intro W hSw; (try dsimp only at hSw); go_simp; (try with_reducible rfl))
      try simp only [Act.put, List.setIfInBounds_toArray, List.set_cons_zero, List.set_cons_succ]
      refine wpAnyH_ready (rs := [17]) (by kernel_rfl) (by simp) ?_
      refine AllReadyH.cons (op_at (rest := _) rfl) (fun K hK => ?_) AllReadyH.nil
      go_simp
      refine (M3.out _ hHeld).mono ?_
      rintro e w13 ⟨rfl, hb13⟩
      go_wp2_with fail
      replace hHeld := hHeld.trans (hb13.mono hHeld.size)
      refine hK.out _ _ hHeld (fun _ => ?_)
      clear hK K
      try simp only [Act.put, List.setIfInBounds_toArray, List.set_cons_zero, List.set_cons_succ]
      refine wpAnyH_take (i := 18) (v := ?_) (op_at (rest := _) rfl) (by kernel_rfl) (by kernel_rfl) (by kernel_rfl) (fun _ _ _ h => h) (Or.inl ⟨by rfl, ?_⟩) (by assumption) ?_
      rotate_left 1
      · (intro W hSw; (try dsimp only at hSw); go_simp; (try with_reducible rfl))
      try simp only [Act.put, List.setIfInBounds_toArray, List.set_cons_zero, List.set_cons_succ]
      refine wpAnyH_take (i := 19) (v := ?_) (op_at (rest := _) rfl) (by kernel_rfl) (by kernel_rfl) (by kernel_rfl) (fun _ _ _ h => h) (Or.inl ⟨by rfl, ?_⟩) (by assumption) ?_
      rotate_left 1
      · (intro W hSw; (try dsimp only at hSw); have q := D1.out W hSw ; have q0 := cellN q (i := 0) rfl ; have q1 := cellN q (i := 1) rfl ; have q2 := cellN q (i := 2) rfl; go_simp; (try with_reducible rfl))
      try simp only [Act.put, List.setIfInBounds_toArray, List.set_cons_zero, List.set_cons_succ]
      refine wpAnyH_take (i := 20) (v := ?_) (op_at (rest := _) rfl) (by kernel_rfl) (by kernel_rfl) (by kernel_rfl) (fun _ _ _ h => h) (Or.inl ⟨by rfl, ?_⟩) (by assumption) ?_
      rotate_left 1
      · (intro W hSw; (try dsimp only at hSw); go_simp; (try with_reducible rfl))
      try simp only [Act.put, List.setIfInBounds_toArray, List.set_cons_zero, List.set_cons_succ]
      refine wpAnyH_take (i := 22) (v := ?_) (op_at (rest := _) rfl) (by kernel_rfl) (by kernel_rfl) (by kernel_rfl) (fun _ _ _ h => h) (Or.inl ⟨by rfl, ?_⟩) (by assumption) ?_
      rotate_left 1
      · (intro W hSw; (try dsimp only at hSw); have q := D2.out W hSw ; have q0 := cellN q (i := 0) rfl ; have q1 := cellN q (i := 1) rfl ; have q2 := cellN q (i := 2) rfl; go_simp; (try with_reducible rfl))
      try simp only [Act.put, List.setIfInBounds_toArray, List.set_cons_zero, List.set_cons_succ]
      refine wpAnyH_take (i := 23) (v := ?_) (op_at (rest := _) rfl) (by kernel_rfl) (by kernel_rfl) (by kernel_rfl) (fun _ _ _ h => h) (Or.inl ⟨by rfl, ?_⟩) (by assumption) ?_
      rotate_left 1
      · (intro W hSw; (try dsimp only at hSw); go_simp; (try with_reducible rfl))
      try simp only [Act.put, List.setIfInBounds_toArray, List.set_cons_zero, List.set_cons_succ]
      refine wpAnyH_ready (rs := [21]) (by kernel_rfl) (by simp) ?_
      refine AllReadyH.cons (op_at (rest := _) rfl) (fun K hK => ?_) AllReadyH.nil
      go_simp
      refine (M1.out _ hHeld).mono ?_
      rintro e w14 ⟨rfl, hb14⟩
      go_wp2_with fail
      replace hHeld := hHeld.trans (hb14.mono hHeld.size)
      refine hK.out _ _ hHeld (fun _ => ?_)
      clear hK K
      try simp only [Act.put, List.setIfInBounds_toArray, List.set_cons_zero, List.set_cons_succ]
      refine wpAnyH_ready (rs := [24]) (by kernel_rfl) (by simp) ?_
      refine AllReadyH.cons (op_at (rest := _) rfl) (fun K hK => ?_) AllReadyH.nil
      go_simp
      refine (M2.out _ hHeld).mono ?_
      rintro e w15 ⟨rfl, hb15⟩
      go_wp2_with fail
      replace hHeld := hHeld.trans (hb15.mono hHeld.size)
      refine hK.out _ _ hHeld (fun _ => ?_)
      clear hK K
      try simp only [Act.put, List.setIfInBounds_toArray, List.set_cons_zero, List.set_cons_succ]
      have E1 : ((true && r2) != (true && !r2)) = true := by cases r2 <;> rfl
      have E2 : (r2 != !r2) = true := by cases r2 <;> rfl
      try simp only [Bool.true_and]
      refine wpAnyH_take (i := 25) (v := ?_) (op_at (rest := _) rfl) (by kernel_rfl) (by kernel_rfl) (by kernel_rfl) (fun _ _ _ h => h) (Or.inl ⟨by rfl, ?_⟩) (by assumption) ?_
      rotate_left 1
      · (intro W hSw; (try dsimp only at hSw); go_simp; (try with_reducible rfl))
      try simp only [Act.put, List.setIfInBounds_toArray, List.set_cons_zero, List.set_cons_succ]
      refine wpAnyH_take (i := 26) (v := ?_) (op_at (rest := _) rfl) (by kernel_rfl) (by kernel_rfl) (by kernel_rfl) (fun _ _ _ h => h) (Or.inl ⟨by rfl, ?_⟩) (by assumption) ?_
      rotate_left 1
      · (intro W hSw; (try dsimp only at hSw); go_simp; (try with_reducible rfl))
      try simp only [Act.put, List.setIfInBounds_toArray, List.set_cons_zero, List.set_cons_succ]
      refine wpAnyH_take (i := 27) (v := ?_) (op_at (rest := _) rfl) (by kernel_rfl) (by kernel_rfl) (by kernel_rfl) (fun _ _ _ h => h) (Or.inl ⟨by rfl, ?_⟩) (by assumption) ?_
      rotate_left 1
      · (intro W hSw; (try dsimp only at hSw); go_simp; (try with_reducible rfl))
      try simp only [Act.put, List.setIfInBounds_toArray, List.set_cons_zero, List.set_cons_succ]
      refine wpAnyH_take (i := 28) (v := ?_) (op_at (rest := _) rfl) (by kernel_rfl) (by kernel_rfl) (by kernel_rfl) (fun _ _ _ h => h) (Or.inl ⟨by rfl, ?_⟩) (by assumption) ?_
      rotate_left 1
      · (intro W hSw; (try dsimp only at hSw); go_simp; (try with_reducible rfl))
      try simp only [Act.put, List.setIfInBounds_toArray, List.set_cons_zero, List.set_cons_succ]
      refine wpAnyH_ready (rs := [29]) (by kernel_rfl) (by simp) ?_
      refine AllReadyH.cons (op_at (rest := _) rfl) (fun K hK => ?_) AllReadyH.nil
      go_simp
      refine (lawake_any _).mono ?_
      rintro e w16 ⟨rfl, hb16⟩
      go_wp2_with fail
      replace hHeld := hHeld.trans (hb16.mono hHeld.size)
      refine hK.out _ _ hHeld (fun _ => ?_)
      clear hK K
      try simp only [Act.put, List.setIfInBounds_toArray, List.set_cons_zero, List.set_cons_succ]
      refine wpAnyH_take (i := 30) (v := ?_) (op_at (rest := _) rfl) (by kernel_rfl) (by kernel_rfl) (by kernel_rfl) (fun _ _ _ h => h) (Or.inl ⟨by rfl, ?_⟩) (by assumption) ?_
      rotate_left 1
      · (intro W hSw; (try dsimp only at hSw); go_simp; (try with_reducible rfl))
      try simp only [Act.put, List.setIfInBounds_toArray, List.set_cons_zero, List.set_cons_succ]
      refine wpAnyH_take (i := 31) (v := ?_) (op_at (rest := _) rfl) (by kernel_rfl) (by kernel_rfl) (by kernel_rfl) (fun _ _ _ h => h) (Or.inl ⟨by rfl, ?_⟩) (by assumption) ?_
      rotate_left 1
      · (intro W hSw; (try dsimp only at hSw); go_simp; (try with_reducible rfl))
      try simp only [Act.put, List.setIfInBounds_toArray, List.set_cons_zero, List.set_cons_succ]
      refine wpAnyH_done (by kernel_rfl) ?_ _
      refine NoPanic.normal ?_
      go_wp2_with fail
      go_ret
      exact ⟨rfl, bb2 BB (bb2 BW.out hHeld)⟩

end Go.Proofs.YtecnjbaanbakoaaDoor
