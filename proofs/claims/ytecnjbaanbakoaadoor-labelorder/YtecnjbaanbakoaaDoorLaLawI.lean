/-
  LabelOrder.
-/
import Derived.Test.YtecnjbaanbakoaaDoorLaOpen
namespace Go.Proofs.YtecnjbaanbakoaaDoor
open Go Go.RowKit Go.Shelf Go.Deep

theorem met_rev (k : Int) (nm : ByteArray) (vs : List ByteArray) (l : List PairB) : La.met ⟨k, nm, vs.reverse⟩ l = La.met ⟨k, nm, vs⟩ l := by
  have h1 : La.mayN ⟨k, nm, vs.reverse⟩ = La.mayN ⟨k, nm, vs⟩ := by simp [La.mayN, La.mayVs]
  have h2 : La.oneL l nm vs.reverse = La.oneL l nm vs := by simp [La.oneL, La.inL]
  unfold La.met La.metN
  rw [h1]
  simp only [h2]
theorem met_less {n : NB} {l : List PairB} {k : Nat} (hk : k < l.length) (hm : La.mayL l = true) (hn : l[k].1 ≠ n.name) : La.met n (l.take k ++ l.drop (k + 1)) = La.met n l := by
  have hm2 := (La.mayL_good _).2 (La.good_less ((La.mayL_good l).1 hm) k)
  obtain ⟨h1, h2⟩ := La.less_other hk hn
  unfold La.met La.metN
  rw [hm, hm2]
  simp only [h1, h2]
theorem lsub_ok {l : List PairB} {P : PairB → Prop} (h : ∀ p ∈ l, P p) (k m : Nat) : ∀ p ∈ l.take k ++ l.drop m, P p := fun p hp => (List.mem_append.1 hp).elim (fun h1 => h p (List.mem_of_mem_take h1)) (fun h1 => h p (List.mem_of_mem_drop h1))
theorem rev_step {vs : List ByteArray} {r : Nat} (h : r < vs.length) : (vs.drop (r + 1)).reverse ++ [vs[r]] = (vs.drop r).reverse := by
  rw [← List.getElem_cons_drop h, List.reverse_cons]

set_option maxHeartbeats 12800000 in
theorem order_law (v0 v1 : Value) (n2 : Int) (w : World) (a0 : ArgN w v0) (a1 : ArgPrs w v1) (h2 : (Lit.int .u8 n2).wf = true) :
    Calls Tryd.prog 8 #[v0, v1, .int .u8 n2] w fun e w' => e = .returned (.bool true) ∧ Below w.heap.size w w' := by
  obtain ⟨⟨⟨kd0, nm0, vs0⟩, xa, xc⟩, rfl, hx0, raw0⟩ := a0
  obtain ⟨l2, hs1, ok1⟩ := a1
  have CF := hide (lfew_one (.slice (some ⟨w.heap.size + 1, 0, none⟩) 1 1) ⟨⟨kd0, nm0, vs0⟩, xa, xc⟩ (((w.alloc (.cells #[.int .i64 kd0, .string nm0, .slice xa vs0.length xc] 29)).drew).alloc (.cells #[.int .i64 kd0, .string nm0, .slice xa vs0.length xc] 29)) (Sl.need ((w.alloc (.cells #[.int .i64 kd0, .string nm0, .slice xa vs0.length xc] 29)).drew) ⟨⟨kd0, nm0, vs0⟩, xa, xc⟩ 29 (w.heap.size + 1) (by simp [World.drew]) (hx0.below (((Below.refl _ _).alloc (Nat.le_refl _) _).drew))) raw0)
  have CL := hide (fun W (h : Below w.heap.size w W) => bfew_any v1 l2 W (hs1.below h) ok1)
  clear hs1 ok1 hx0 raw0
  dsimp only at *
  obtain ⟨cb, rfl⟩ := u8_lit h2
  clear h2
  go_enter Tryd.func8, Tryd.ntmps8
  go_wp2_with fail
  refine region_out [some 11, some 12, some 13, some 14, some 15, some 16, some 17, some 1] (fun f W => ∃ (y : NV) (g off cp : Nat) (u : Value), f = opF [.agg #[.int .i64 kd0, .string nm0, .slice xa vs0.length xc], .slice (some ⟨w.heap.size + 1, 0, none⟩) 1 1, .slice (some ⟨g, off, none⟩) 1 cp, .pointer (some ⟨g, off, none⟩), nV y, v1, u, u] ∧ y.n = fewN ⟨kd0, nm0, vs0⟩ ∧ W.heap[w.heap.size]? = some (.cells #[.int .i64 y.n.kind, .string y.n.name, y.v] 29) ∧ y.own W ∧ (∃ b, W.ownsRow b 41 2 u (fewB2 l2).length (flat (fewB2 l2))) ∧ Below w.heap.size w W) ?_ ?_
  · refine wp_region_noPanic ?_
    refine wp_region_held_drew (S := fun W => Below w.heap.size w W) (by kernel_rfl) (((Below.refl _ _).alloc (Nat.le_refl _) _).drew) (fun hHeld => ?_)
    refine wpAnyH_take (i := 5) (v := ?_) (op_at (rest := _) rfl) (by kernel_rfl) (by kernel_rfl) (by kernel_rfl) (fun _ _ _ h => h) (Or.inl ⟨by rfl, ?_⟩) (by assumption) ?_
    rotate_left 1
    · (intro W hSw; (try dsimp only at hSw); go_simp; (try with_reducible rfl))
    try simp only [Act.put, List.setIfInBounds_toArray, List.set_cons_zero, List.set_cons_succ]
    refine wpAnyH_ready (rs := [0]) (by kernel_rfl) (by simp) ?_
    refine AllReadyH.cons (op_at (rest := _) rfl) (fun K hK => ?_) AllReadyH.nil
    go_simp
    refine hK.out _ _ hHeld (fun _ => ?_)
    clear hK K
    try simp only [Act.put, List.setIfInBounds_toArray, List.set_cons_zero, List.set_cons_succ]
    refine wpAnyH_ready (rs := [1]) (by kernel_rfl) (by simp) ?_
    refine AllReadyH.cons (op_at (rest := _) rfl) (fun K hK => ?_) AllReadyH.nil
    go_simp
    refine hK.out _ _ (hHeld.alloc hHeld.size _) (fun hHeld => ?_)
    clear hK K
    try simp only [Act.put, List.setIfInBounds_toArray, List.set_cons_zero, List.set_cons_succ]
    refine wpAnyH_ready (rs := [2]) (by kernel_rfl) (by simp) ?_
    refine AllReadyH.cons (op_at (rest := _) rfl) (fun K hK => ?_) AllReadyH.nil
    go_simp
    refine CF.out.mono ?_
    rintro e w2 ⟨g, off, cp, y, rfl, hy, owy, hcy, hb2⟩
    have HYN := hide hy
    clear hy
    go_wp2_with fail
    replace hHeld := hHeld.trans (hb2.mono hHeld.size)
    have HCY := hide hcy
    have BX2 : w2.heap[w.heap.size]? = some (.cells #[.int .i64 kd0, .string nm0, .slice xa vs0.length xc] 29) := box_block (o := .cells #[.int .i64 kd0, .string nm0, .slice xa vs0.length xc] 29) (((Below.refl _ _).drew).trans ((((Below.refl _ _).alloc (by simp) _).trans (hb2.mono (by simp)))))
    refine hK.out _ _ hHeld (fun _ => ?_)
    clear hK K hb2 hcy
    try simp only [Act.put, List.setIfInBounds_toArray, List.set_cons_zero, List.set_cons_succ]
    refine wpAnyH_take (i := 3) (v := ?_) (op_at (rest := _) rfl) (by kernel_rfl) (by kernel_rfl) (by kernel_rfl) (fun _ _ _ h => h) (Or.inl ⟨by rfl, ?_⟩) (by assumption) ?_
    rotate_left 1
    · (intro W hSw; (try dsimp only at hSw); go_simp; (try with_reducible rfl))
    try simp only [Act.put, List.setIfInBounds_toArray, List.set_cons_zero, List.set_cons_succ]
    refine wpAnyH_ready (rs := [4, 6]) (by kernel_rfl) (by simp) ?_
    refine AllReadyH.cons (op_at (rest := _) rfl) (fun K hK => ?_) (AllReadyH.cons (op_at (rest := _) rfl) (fun K hK => ?_) AllReadyH.nil)
    · obtain ⟨q0, q1, q2⟩ := HCY.out _ (Below.refl _ _)
      go_simp
      refine hK.out _ _ hHeld (fun _ => ?_)
      clear hK K q0 q1 q2
      try simp only [Act.put, List.setIfInBounds_toArray, List.set_cons_zero, List.set_cons_succ]
      refine wpAnyH_ready (rs := [6]) (by kernel_rfl) (by simp) ?_
      refine AllReadyH.cons (op_at (rest := _) rfl) (fun K hK => ?_) AllReadyH.nil
      go_simp
      refine (CL.out _ hHeld).mono ?_
      rintro e w3 ⟨u, rfl, hru, hb3⟩
      go_wp2_with fail
      replace hHeld := hHeld.trans (hb3.mono hHeld.size)
      refine hK.out _ _ hHeld (fun _ => ?_)
      clear hK K
      try simp only [Act.put, List.setIfInBounds_toArray, List.set_cons_zero, List.set_cons_succ]
      have hz := blk_below BX2 hb3
      have lz := liveN hz
      obtain ⟨z0, z1, z2⟩ : _ ∧ _ ∧ _ := ⟨cellN hz (i := 0) rfl, cellN hz (i := 1) rfl, cellN hz (i := 2) rfl⟩
      refine wpAnyH_ready (rs := [7]) (by kernel_rfl) (by simp) ?_
      refine AllReadyH.cons (op_at (rest := _) rfl) (fun K hK => ?_) AllReadyH.nil
      go_simp
      have KB := setL_all [.int .i64 y.n.kind, .string y.n.name, y.v] hz rfl
      have KS := setL_below (w := w) (B := w.heap.size) (g := w.heap.size) (Nat.le_refl _) [.int .i64 y.n.kind, .string y.n.name, y.v] w3 0 hHeld
      obtain ⟨by0, owy0⟩ := owy
      have KO := row_setL (cs := [.int .i64 y.n.kind, .string y.n.name, y.v]) (k := 0) (ownsRow_below owy0 hb3) hz (by decide)
      have KP := row_setL (cs := [.int .i64 y.n.kind, .string y.n.name, y.v]) (k := 0) hru hz (by decide)
      change K _ (setL w3 w.heap.size 0 [.int .i64 y.n.kind, .string y.n.name, y.v])
      generalize setL w3 w.heap.size 0 [.int .i64 y.n.kind, .string y.n.name, y.v] = w4 at *
      refine hK.out _ _ KS (fun hHeld => ?_)
      clear hK K lz z0 z1 z2
      try simp only [Act.put, List.setIfInBounds_toArray, List.set_cons_zero, List.set_cons_succ]
      refine wpAnyH_take (i := 8) (v := ?_) (op_at (rest := _) rfl) (by kernel_rfl) (by kernel_rfl) (by kernel_rfl) (fun _ _ _ h => h) (Or.inl ⟨by rfl, ?_⟩) (by assumption) ?_
      rotate_left 1
      · (intro W hSw; (try dsimp only at hSw); go_simp; (try with_reducible rfl))
      try simp only [Act.put, List.setIfInBounds_toArray, List.set_cons_zero, List.set_cons_succ]
      refine wpAnyH_done (by kernel_rfl) ?_ _
      refine NoPanic.normal ?_
      exact ⟨rfl, opF [.agg #[.int .i64 kd0, .string nm0, .slice xa vs0.length xc], .slice (some ⟨w.heap.size + 1, 0, none⟩) 1 1, .slice (some ⟨g, off, none⟩) 1 cp, .pointer (some ⟨g, off, none⟩), nV y, v1, u, u], (by simp only [putF, opF, List.getD_cons_zero, List.getD_cons_succ, Nat.reduceAdd, Act.put, List.setIfInBounds_toArray, List.set_cons_zero, List.set_cons_succ]), y, g, off, cp, u, rfl, HYN.out, KB, ⟨by0, KO⟩, ⟨_, KP⟩, KS⟩
    · go_simp
      refine (CL.out _ hHeld).mono ?_
      rintro e w3 ⟨u, rfl, hru, hb3⟩
      go_wp2_with fail
      replace hHeld := hHeld.trans (hb3.mono hHeld.size)
      refine hK.out _ _ hHeld (fun _ => ?_)
      clear hK K
      try simp only [Act.put, List.setIfInBounds_toArray, List.set_cons_zero, List.set_cons_succ]
      refine wpAnyH_ready (rs := [4]) (by kernel_rfl) (by simp) ?_
      refine AllReadyH.cons (op_at (rest := _) rfl) (fun K hK => ?_) AllReadyH.nil
      obtain ⟨q0, q1, q2⟩ := HCY.out _ (hb3)
      go_simp
      refine hK.out _ _ hHeld (fun _ => ?_)
      clear hK K q0 q1 q2
      try simp only [Act.put, List.setIfInBounds_toArray, List.set_cons_zero, List.set_cons_succ]
      have hz := blk_below BX2 hb3
      have lz := liveN hz
      obtain ⟨z0, z1, z2⟩ : _ ∧ _ ∧ _ := ⟨cellN hz (i := 0) rfl, cellN hz (i := 1) rfl, cellN hz (i := 2) rfl⟩
      refine wpAnyH_ready (rs := [7]) (by kernel_rfl) (by simp) ?_
      refine AllReadyH.cons (op_at (rest := _) rfl) (fun K hK => ?_) AllReadyH.nil
      go_simp
      have KB := setL_all [.int .i64 y.n.kind, .string y.n.name, y.v] hz rfl
      have KS := setL_below (w := w) (B := w.heap.size) (g := w.heap.size) (Nat.le_refl _) [.int .i64 y.n.kind, .string y.n.name, y.v] w3 0 hHeld
      obtain ⟨by0, owy0⟩ := owy
      have KO := row_setL (cs := [.int .i64 y.n.kind, .string y.n.name, y.v]) (k := 0) (ownsRow_below owy0 hb3) hz (by decide)
      have KP := row_setL (cs := [.int .i64 y.n.kind, .string y.n.name, y.v]) (k := 0) hru hz (by decide)
      change K _ (setL w3 w.heap.size 0 [.int .i64 y.n.kind, .string y.n.name, y.v])
      generalize setL w3 w.heap.size 0 [.int .i64 y.n.kind, .string y.n.name, y.v] = w4 at *
      refine hK.out _ _ KS (fun hHeld => ?_)
      clear hK K lz z0 z1 z2
      try simp only [Act.put, List.setIfInBounds_toArray, List.set_cons_zero, List.set_cons_succ]
      refine wpAnyH_take (i := 8) (v := ?_) (op_at (rest := _) rfl) (by kernel_rfl) (by kernel_rfl) (by kernel_rfl) (fun _ _ _ h => h) (Or.inl ⟨by rfl, ?_⟩) (by assumption) ?_
      rotate_left 1
      · (intro W hSw; (try dsimp only at hSw); go_simp; (try with_reducible rfl))
      try simp only [Act.put, List.setIfInBounds_toArray, List.set_cons_zero, List.set_cons_succ]
      refine wpAnyH_done (by kernel_rfl) ?_ _
      refine NoPanic.normal ?_
      exact ⟨rfl, opF [.agg #[.int .i64 kd0, .string nm0, .slice xa vs0.length xc], .slice (some ⟨w.heap.size + 1, 0, none⟩) 1 1, .slice (some ⟨g, off, none⟩) 1 cp, .pointer (some ⟨g, off, none⟩), nV y, v1, u, u], (by simp only [putF, opF, List.getD_cons_zero, List.getD_cons_succ, Nat.reduceAdd, Act.put, List.setIfInBounds_toArray, List.set_cons_zero, List.set_cons_succ]), y, g, off, cp, u, rfl, HYN.out, KB, ⟨by0, KO⟩, ⟨_, KP⟩, KS⟩
  rintro f w5 ⟨y, g, off, cp, u, rfl, hy, HBX, owy, ⟨bu, hru⟩, BB⟩
  simp only [putF, opF, List.getD_cons_zero, List.getD_cons_succ, Nat.reduceAdd, Act.put, List.setIfInBounds_toArray, List.set_cons_zero, List.set_cons_succ]
  have OKY : OkN y.n := by rw [hy]; exact fewN_ok _
  have SY := owy.at_
  have SP : Prs w5 u (fewB2 l2) := Prs.of_row rfl hru
  have okl := few_okB l2
  have okl2 := bfew_okP l2
  have hl31 := bfew_len l2
  clear hy owy hru CF CL
  generalize fewB2 l2 = l at *
  obtain ⟨⟨kd, nm, vs⟩, ya, yc⟩ := y
  dsimp only at *
  have SPH := hide SP
  obtain ⟨c, cc, rfl, _⟩ := SP
  have RY := OKY.raw
  have hvl := OKY.len
  dsimp only at hvl
  have KM := hide (fun W (x : NV) (hs : Sl ES W x.v x.n.vals) (hr : RawN x.n) (hW : Below w5.heap.size w5 W) => lmet_any x (.slice c l.length cc) l W hs hr (SPH.out.below hW) okl2)
  have KL := hide (fun W (hW : Below w5.heap.size w5 W) => lmay_any (.slice c l.length cc) l W (SPH.out.below hW) okl2)
  have SYH := hide SY
  have HOK2 := hide okl2
  have HL31 := hide hl31
  clear hl31
  have HES := hide (fun j (hj : j < vs.length) => es_all SY hj)
  have RV := hide RY.vals
  obtain ⟨f0, f1, f2⟩ : _ ∧ _ ∧ _ := ⟨cellN HBX (i := 0) rfl, cellN HBX (i := 1) rfl, cellN HBX (i := 2) rfl⟩
  have k6 := blk_below HBX ((Below.refl w5.heap.size w5).alloc (Nat.le_refl _) (.cells #[.int .i64 kd, .string nm, .slice none 0 0] 29))
  have b2 := cellN k6 (i := 2) rfl
  have k7 := blk_below HBX ((Below.refl w5.heap.size w5).alloc (Nat.le_refl _) (.cells #[.int .i64 kd, .string nm, .slice ya vs.length yc] 29))
  have b7 := cellN k7 (i := 2) rfl
  have hwl : IntKind.i64.wrap ((vs.length : Int) - 1) = (vs.length : Int) - 1 := by rw [IntKind.wrap_i64]; omega
  have hgb : w.heap.size < w5.heap.size := lt_blk HBX
  clear SY okl2 okl
  go_wp2_with fail
  have KZ := hide (alloc_new w5 (.cells #[.int .i64 kd, .string nm, .slice none 0 0] 29))
  have BZ := hide ((Below.refl w5.heap.size w5).alloc (Nat.le_refl _) (.cells #[.int .i64 kd, .string nm, .slice none 0 0] 29))
  clear b2 b7 k6 k7 f0 f1 f2 hwl
  generalize w5.alloc (.cells #[.int .i64 kd, .string nm, .slice none 0 0] 29) = w6 at *
  generalize hgbn : w5.heap.size = gb at *
  have HGB := hide hgbn
  have CV : Hid (∀ W, Below w5.heap.size w5 W → Below gb w5 W) := fun W h => by rw [← hgbn]; exact h
  clear hgbn
  go_loopw [8] (fun i wr => ∃ (r : Nat) (ts : List ByteArray) (a1 : Option Addr) (c1 : Nat), r ≤ vs.length ∧ i = .int .i64 ((r : Int) - 1) ∧ Hid (ts = (vs.drop r).reverse) ∧ wr.heap[gb]? = some (.cells #[.int .i64 kd, .string nm, .slice a1 ts.length c1] 29) ∧ wr.ownsRow (gb + 1) 9 ES.n (.slice a1 ts.length c1) ts.length (ES.flat ts) ∧ Below gb w5 wr) (fun i _ => (intOf i + 1).toNat)
  case atStart => exact ⟨vs.length, [], none, 0, Nat.le_refl _, rfl, by simp [Hid], KZ.out, World.ownsRow_nil _ _ _ _, BZ.out⟩
  case round =>
    clear KZ BZ
    obtain ⟨r, ts, a1, c1, hr, rfl, hts, hblk, hrow, hI⟩ := hrel
    have hI5 : Below w5.heap.size w5 wr := by rw [HGB.out]; exact hI
    have n1 := blk_below HBX hI5
    have HTL : Hid (ts.length = vs.length - r) := by
      unfold Hid
      rw [hts.out]
      simp
    cases r with
    | succ r =>
      rw [show (((r + 1 : Nat) : Int) - 1) = (r : Int) by omega]
      have hrl : r < vs.length := by omega
      have hrl' : (r : Int) < (vs.length : Int) := by omega
      have hwr : IntKind.i64.wrap ((r : Int) - 1) = (r : Int) - 1 := by rw [IntKind.wrap_i64]; omega
      obtain ⟨gx, ox, rfl, hgx, scell⟩ := HES.out r hrl
      have HTS : Hid (ts ++ [vs[r]] = (vs.drop r).reverse) := by
        unfold Hid
        rw [hts.out]
        exact rev_step hrl
      generalize vs[r] = s at *
      have hBsz : gb + 1 ≤ wr.heap.size := lt_blk hblk
      have hgw : w.heap.size < gb := hgb
      have D1 : ∀ W, Below (gb + 1) wr W → Below w5.heap.size w5 W := fun W hW => hI5.trans (hW.mono (by have := HGB.out; omega))
      have m1 : ∀ W, Below (gb + 1) wr W → W.cell? ⟨gb, 2, none⟩ = some (.slice a1 ts.length c1) := fun W hW => cellN ((hW.block gb (by omega)).trans hblk) rfl
      have m2 : ∀ W, Below (gb + 1) wr W → W.cell? ⟨w.heap.size, 2, none⟩ = some (.slice (some ⟨gx, ox, none⟩) vs.length yc) := fun W hW => cellN (blk_below HBX (D1 W hW)) rfl
      have m3 := fun W (hW : Below (gb + 1) wr W) => scell W (CV.out W (D1 W hW))
      have NBK := hide (fun W (hW : Below (gb + 1) wr W) => (hW.block gb (by omega)).trans hblk)
      have HROW := hide hrow
      clear scell D1 hrow hblk n1
      go_wp2_with fail
      refine wp_region_G 10 (fun W => Below (gb + 1) wr W) (by kernel_rfl) ((Below.refl _ _).drew) ?_
      refine wpG_take (i := 0) 5 (v := .pointer (some ⟨gb, 2, none⟩)) rfl (by kernel_rfl) (by kernel_rfl) (by kernel_rfl) (by decide) (by kernel_rfl) (by kernel_rfl) (fun _ _ _ h => h) (Or.inl ⟨by rfl, fun w1 hS => ?_⟩) ?_
      · (try dsimp only at hS)
        go_simp
      simp only [Act.put, List.setIfInBounds_toArray, List.set_cons_zero, List.set_cons_succ]
      refine wpG_take (i := 1) 5 (v := .slice a1 ts.length c1) rfl (by kernel_rfl) (by kernel_rfl) (by kernel_rfl) (by decide) (by kernel_rfl) (by kernel_rfl) (fun _ _ _ h => h) (Or.inl ⟨by rfl, fun w1 hS => ?_⟩) ?_
      · (try dsimp only at hS)
        go_simp
      simp only [Act.put, List.setIfInBounds_toArray, List.set_cons_zero, List.set_cons_succ]
      refine wpG_take (i := 2) 5 (v := .pointer (some ⟨w.heap.size, 2, none⟩)) rfl (by kernel_rfl) (by kernel_rfl) (by kernel_rfl) (by decide) (by kernel_rfl) (by kernel_rfl) (fun _ _ _ h => h) (Or.inl ⟨by rfl, fun w1 hS => ?_⟩) ?_
      · (try dsimp only at hS)
        go_simp
      simp only [Act.put, List.setIfInBounds_toArray, List.set_cons_zero, List.set_cons_succ]
      refine wpG_take (i := 3) 5 (v := .slice (some ⟨gx, ox, none⟩) vs.length yc) rfl (by kernel_rfl) (by kernel_rfl) (by kernel_rfl) (by decide) (by kernel_rfl) (by kernel_rfl) (fun _ _ _ h => h) (Or.inl ⟨by rfl, fun w1 hS => ?_⟩) ?_
      · (try dsimp only at hS)
        go_simp
      simp only [Act.put, List.setIfInBounds_toArray, List.set_cons_zero, List.set_cons_succ]
      refine wpG_take (i := 4) 5 (v := .int .i64 r) rfl (by kernel_rfl) (by kernel_rfl) (by kernel_rfl) (by decide) (by kernel_rfl) (by kernel_rfl) (fun _ _ _ h => h) (Or.inl ⟨by rfl, fun w1 hS => ?_⟩) ?_
      · (try dsimp only at hS)
        go_simp
      simp only [Act.put, List.setIfInBounds_toArray, List.set_cons_zero, List.set_cons_succ]
      refine wpG_take (i := 5) 5 (v := .pointer (some ⟨gx, ox + r, none⟩)) rfl (by kernel_rfl) (by kernel_rfl) (by kernel_rfl) (by decide) (by kernel_rfl) (by kernel_rfl) (fun _ _ _ h => h) (Or.inl ⟨by rfl, fun w1 hS => ?_⟩) ?_
      · (try dsimp only at hS)
        go_simp
      simp only [Act.put, List.setIfInBounds_toArray, List.set_cons_zero, List.set_cons_succ]
      refine wpG_take (i := 6) 5 (v := .string s) rfl (by kernel_rfl) (by kernel_rfl) (by kernel_rfl) (by decide) (by kernel_rfl) (by kernel_rfl) (fun _ _ _ h => h) (Or.inl ⟨by rfl, fun w1 hS => ?_⟩) ?_
      · (try dsimp only at hS)
        go_simp
      simp only [Act.put, List.setIfInBounds_toArray, List.set_cons_zero, List.set_cons_succ]
      clear m1 m2 m3
      refine wpG_ready (rs := [7]) (by kernel_rfl) (by simp) (fun wd hGd hSd i hi => ?_)
      obtain rfl : i = 7 := by simpa using hi
      clear hi
      refine wpOp_step rfl (by rfl) (fun K' hK' => ?_)
      replace hK' := hide hK'
      go_simp
      refine hK'.out _ _ (wpG_kept (by decide) (hSd.alloc (by have := hSd.size; omega) _) ?_)
      clear hK' K'
      refine wpG_ready (rs := [8]) (by kernel_rfl) (by simp) (fun we hGe hSe i hi => ?_)
      obtain rfl : i = 8 := by simpa using hi
      clear hi
      have RW : we.ownsRow (gb + 1) 9 ES.n (.slice a1 ts.length c1) ts.length (ES.flat ts) := ownsRow_below (ownsRow_below (ownsRow_below HROW.out ((Below.refl _ _).drew)) hGd) (below_box hGe)
      have SLW : Sl ES we (.slice (some ⟨wd.heap.size, 0, none⟩) 1 1) [s] := Sl.at_block (E := ES) (x := s) (box_block hGe) trivial
      refine wpOp_step rfl (by rfl) (fun K' hK' => ?_)
      refine wp_append_sl (E := ES) 27 9 _ 16 Tryd.underlying27 Tryd.infoStr rfl (by decide) _ _ _ rfl (gb + 1) _ _ _ rfl RW _ _ rfl SLW (by have := HTL.out; simp; omega) (by have := hSe.size; omega) ?_
      intro v5 w7 hr5 hg5
      have hS5 : Below (gb + 1) wr w7 := hSe.grown hg5 (by have := hSe.size; omega) (fun j e => ownBlock_ge RW e)
      obtain ⟨a5, c5, hv5⟩ := row_form hr5
      subst hv5
      refine hK' _ _ (wpG_kept (by decide) hS5 ?_)
      clear hK' K' hGd hSd hGe hSe RW SLW hg5
      try simp only [Act.put, List.setIfInBounds_toArray, List.set_cons_zero, List.set_cons_succ]
      refine wpG_take (i := 9) 5 (v := .pointer (some ⟨gb, 2, none⟩)) rfl (by kernel_rfl) (by kernel_rfl) (by kernel_rfl) (by decide) (by kernel_rfl) (by kernel_rfl) (fun _ _ _ h => h) (Or.inl ⟨by rfl, fun w1 hS => ?_⟩) ?_
      · (try dsimp only at hS)
        go_simp
      simp only [Act.put, List.setIfInBounds_toArray, List.set_cons_zero, List.set_cons_succ]
      refine wpG_ready (rs := [10]) (by kernel_rfl) (by simp) (fun wf hGf hSf i hi => ?_)
      obtain rfl : i = 10 := by simpa using hi
      clear hi
      have hz := NBK.out wf hSf
      have z2 := cellN hz (i := 2) rfl
      have lz := liveN hz
      refine wpOp_step rfl (by rfl) (fun K' hK' => ?_)
      go_simp
      refine hK' _ _ (wpG_past (by decide) ?_)
      clear hK' K' z2 lz
      have KB := setL_at (g := gb) (t := 29) [.slice a5 (ts.length + 1) c5] [.int .i64 kd, .string nm] [.slice a1 ts.length c1] wf hz rfl
      have KS := setL_below (w := w5) (B := gb) (g := gb) (Nat.le_refl _) [.slice a5 (ts.length + 1) c5] wf 2 (hI.trans (hSf.mono (by omega)))
      have KR := row_setLb (W := wf) (g := gb) (k := 2) (cs := [.slice a5 (ts.length + 1) c5]) (ownsRow_below hr5 hGf) (by omega)
      refine wpAny_end (by kernel_rfl) ?_
      change Exit.inBlock _ _ _ _ (setL wf gb 2 [.slice a5 (ts.length + 1) c5])
      change (setL wf gb 2 [.slice a5 (ts.length + 1) c5]).heap[gb]? = _ at KB
      generalize setL wf gb 2 [.slice a5 (ts.length + 1) c5] = w8 at *
      clear hz hGf hSf hr5 hS5 NBK HROW
      go_wp2_with fail
      exact ⟨⟨r, ts ++ [s], a5, c5, by omega, rfl, HTS, by rw [List.length_append]; exact KB, by rw [List.length_append]; exact KR, KS⟩, by simp [intOf]⟩
    | zero =>
      have HTV : Hid (ts = vs.reverse) := by
        unfold Hid
        rw [hts.out, List.drop_zero]
      have SW : Sl ES wr (.slice a1 ts.length c1) ts := Sl.of_row (E := ES) rfl hrow (fun _ _ => trivial)
      have D1 := hide (fun W (hW : Below wr.heap.size wr W) => blk_below n1 hW)
      have D2 := hide (fun W (hW : Below wr.heap.size wr W) => blk_below hblk hW)
      have M1 := hide (fun W (hW : Below wr.heap.size wr W) => KM.out W ⟨⟨kd, nm, ts⟩, a1, c1⟩ (SW.below hW) ⟨RY.name, fun s hs => RV.out s (by rw [HTV.out] at hs; exact List.mem_reverse.1 hs)⟩ (CV.out _ (bb2 hI5 hW)))
      have M2 := hide (fun W (hW : Below wr.heap.size wr W) => KM.out W ⟨⟨kd, nm, vs⟩, ya, yc⟩ (SYH.out.below (bb2 hI5 hW)) RY (CV.out _ (bb2 hI5 hW)))
      dsimp only at M1 M2
      rw [show La.met ⟨kd, nm, ts⟩ l = La.met ⟨kd, nm, vs⟩ l from by rw [HTV.out]; exact met_rev kd nm vs l] at M1
      have BW := hide hI5
      clear KM SW hts hblk hrow n1 HTV HTL hI
      have E1 : (La.met ⟨kd, nm, vs⟩ l != La.met ⟨kd, nm, vs⟩ l) = false := by cases La.met ⟨kd, nm, vs⟩ l <;> rfl
      rw [show (((0 : Nat) : Int) - 1) = (-1 : Int) from rfl]
      go_wp2_with fail
      refine wp_region_noPanic ?_
      refine wp_region_held_drew (S := fun W => Below (wr).heap.size (wr) W) (by kernel_rfl) ((Below.refl _ _).drew) (fun hHeld => ?_)
      refine wpAnyH_take (i := 0) (v := ?_) (op_at (rest := _) rfl) (by kernel_rfl) (by kernel_rfl) (by kernel_rfl) (fun _ _ _ h => h) (Or.inl ⟨by rfl, ?_⟩) (by assumption) ?_
      rotate_left 1
      · (intro W hSw; (try dsimp only at hSw); have q := D2.out W hSw ; have q0 := cellN q (i := 0) rfl ; have q1 := cellN q (i := 1) rfl ; have q2 := cellN q (i := 2) rfl; go_simp; (try with_reducible rfl))
      try simp only [Act.put, List.setIfInBounds_toArray, List.set_cons_zero, List.set_cons_succ]
      refine wpAnyH_take (i := 1) (v := ?_) (op_at (rest := _) rfl) (by kernel_rfl) (by kernel_rfl) (by kernel_rfl) (fun _ _ _ h => h) (Or.inl ⟨by rfl, ?_⟩) (by assumption) ?_
      rotate_left 1
      · (intro W hSw; (try dsimp only at hSw); go_simp; (try with_reducible rfl))
      try simp only [Act.put, List.setIfInBounds_toArray, List.set_cons_zero, List.set_cons_succ]
      refine wpAnyH_take (i := 3) (v := ?_) (op_at (rest := _) rfl) (by kernel_rfl) (by kernel_rfl) (by kernel_rfl) (fun _ _ _ h => h) (Or.inl ⟨by rfl, ?_⟩) (by assumption) ?_
      rotate_left 1
      · (intro W hSw; (try dsimp only at hSw); have q := D1.out W hSw ; have q0 := cellN q (i := 0) rfl ; have q1 := cellN q (i := 1) rfl ; have q2 := cellN q (i := 2) rfl; go_simp; (try with_reducible rfl))
      try simp only [Act.put, List.setIfInBounds_toArray, List.set_cons_zero, List.set_cons_succ]
      refine wpAnyH_take (i := 4) (v := ?_) (op_at (rest := _) rfl) (by kernel_rfl) (by kernel_rfl) (by kernel_rfl) (fun _ _ _ h => h) (Or.inl ⟨by rfl, ?_⟩) (by assumption) ?_
      rotate_left 1
      · (intro W hSw; (try dsimp only at hSw); go_simp; (try with_reducible rfl))
      try simp only [Act.put, List.setIfInBounds_toArray, List.set_cons_zero, List.set_cons_succ]
      refine wpAnyH_ready (rs := [2]) (by kernel_rfl) (by simp) ?_
      refine AllReadyH.cons (op_at (rest := _) rfl) (fun K hK => ?_) AllReadyH.nil
      go_simp
      refine (M1.out _ hHeld).mono ?_
      rintro e w9 ⟨rfl, hb9⟩
      go_wp2_with fail
      replace hHeld := hHeld.trans (hb9.mono hHeld.size)
      refine hK.out _ _ hHeld (fun _ => ?_)
      clear hK K
      try simp only [Act.put, List.setIfInBounds_toArray, List.set_cons_zero, List.set_cons_succ]
      refine wpAnyH_ready (rs := [5]) (by kernel_rfl) (by simp) ?_
      refine AllReadyH.cons (op_at (rest := _) rfl) (fun K hK => ?_) AllReadyH.nil
      go_simp
      refine (M2.out _ hHeld).mono ?_
      rintro e w10 ⟨rfl, hb10⟩
      go_wp2_with fail
      replace hHeld := hHeld.trans (hb10.mono hHeld.size)
      refine hK.out _ _ hHeld (fun _ => ?_)
      clear hK K
      try simp only [Act.put, List.setIfInBounds_toArray, List.set_cons_zero, List.set_cons_succ]
      refine wpAnyH_take (i := 6) (v := ?_) (op_at (rest := _) rfl) (by kernel_rfl) (by kernel_rfl) (by kernel_rfl) (fun _ _ _ h => h) (Or.inl ⟨by rfl, ?_⟩) (by assumption) ?_
      rotate_left 1
      · (intro W hSw; (try dsimp only at hSw); go_simp; (try with_reducible rfl))
      try simp only [Act.put, List.setIfInBounds_toArray, List.set_cons_zero, List.set_cons_succ]
      refine wpAnyH_done (by kernel_rfl) ?_ _
      refine NoPanic.normal ?_
      clear E1 M1
      have BW2 := hide (bb2 BW.out hHeld)
      have KL2 := hide (fun W (hW : Below w10.heap.size w10 W) => KL.out W (CV.out _ (bb2 BW2.out hW)))
      have D3 := hide (fun W (hW : Below w10.heap.size w10 W) => D1.out W (bb2 hHeld hW))
      have SY2 := hide (SYH.out.below BW2.out)
      clear D1 D2 M2 hHeld KL
      by_cases hz : l.length = 0
      · have hz' : ((l.length : Int) == 0) = true := by simpa using hz
        clear hz KL2 D3
        go_wp2_with fail
        refine (lawake_any _).mono ?_
        rintro e w11 ⟨rfl, hb11⟩
        go_wp2_with fail
        go_ret
        exact ⟨rfl, bb2 BB (bb2 BW2.out hb11)⟩
      have hz' : ((l.length : Int) == 0) = false := by simpa using hz
      cases hm : La.mayL l
      · rw [hm] at KL2
        clear hz D3
        go_wp2_with fail
        refine (KL2.out _ (Below.refl _ _)).mono ?_
        rintro e w11 ⟨rfl, hb11⟩
        go_wp2_with fail
        refine (lawake_any _).mono ?_
        rintro e w12 ⟨rfl, hb12⟩
        go_wp2_with fail
        go_ret
        exact ⟨rfl, bb2 BB (bb2 BW2.out (bb2 hb11 hb12))⟩
      rw [hm] at KL2
      have hpos : 0 < l.length := by omega
      have hkl : cb.toNat % l.length < l.length := Nat.mod_lt _ hpos
      have hrem : ((cb.toNat : Int) % (l.length : Int)) = ((cb.toNat % l.length : Nat) : Int) := by omega
      have hc255 : cb.toNat < 256 := cb.toNat_lt
      have hz3 : ¬ (l.length : Int) = 0 := by omega
      generalize hkk : cb.toNat % l.length = k at *
      clear hkk hz
      have hlen31 : l.length ≤ 31 := HL31.out
      have SP5 := SPH.out
      obtain ⟨a', cap', hev, hcap, hcm, hc⟩ := SP5
      injection hev with e1 e2 e3
      subst e1 e3
      obtain ⟨cap, hcapq⟩ : ∃ z, z = cc := ⟨_, rfl⟩
      subst hcapq
      obtain ⟨g, off, rfl, hg, c1, c2⟩ := hc k hkl
      unfold maxLen at hcm
      have hk1 : (k : Int) < (l.length : Int) := by omega
      have hk2 : (k : Int) ≤ (l.length : Int) := by omega
      have hkc : (k : Int) ≤ (cap : Int) := by omega
      have hwr : IntKind.i64.wrap ((k : Int) + 1) = ((k + 1 : Nat) : Int) := by rw [IntKind.wrap_i64]; omega
      have hm0 : (0 : Int) ≤ ((k + 1 : Nat) : Int) := by omega
      have hm1 : ((k + 1 : Nat) : Int) ≤ (l.length : Int) := by omega
      have hm2 : ((k + 1 : Nat) : Int) ≤ (cap : Int) := by omega
      have hm3 : k + 1 ≤ l.length := by omega
      have hcI : (l.length : Int) ≤ (cap : Int) := by omega
      have HLE := hide (fun (h : l[k].1 ≠ nm) => met_less (n := ⟨kd, nm, vs⟩) hkl hm h)
      have c1' := hide (fun W (h : Below w5.heap.size w5 W) => (h.cell (p := ⟨g, off + k * 2, none⟩) hg).trans c1)
      have HOK3 := hide (lsub_ok HOK2.out k (k + 1))
      clear hc c1 c2 hm e2
      generalize l[k].1 = p1 at *
      go_wp2_with fail
      refine (KL2.out _ (Below.refl _ _)).mono ?_
      rintro e w11 ⟨rfl, hb11⟩
      have BW3 := hide (bb2 BW2.out hb11)
      have D4 := hide (fun W (hW : Below w11.heap.size w11 W) => D3.out W (bb2 hb11 hW))
      have x1 := hide (fun W (hW : Below w11.heap.size w11 W) => c1'.out W (bb2 BW3.out hW))
      clear D3 c1' KL2 hb11
      cases hq : (p1.toList == nm.toList)
      · replace HLE := hide (HLE.out (fun e => by rw [e] at hq; simp at hq))
        go_wp2_with fail
        rw [hrem]
        refine wp_region_noPanic ?_
        refine wp_region_held_drew (S := fun W => Below (w11).heap.size (w11) W) (by kernel_rfl) ((Below.refl _ _).drew) (fun hHeld => ?_)
        refine wpAnyH_take (i := 0) (v := ?_) (op_at (rest := _) rfl) (by kernel_rfl) (by kernel_rfl) (by kernel_rfl) (fun _ _ _ h => h) (Or.inl ⟨by rfl, ?_⟩) (by assumption) ?_
        rotate_left 1
        · (intro W hSw; (try dsimp only at hSw); go_simp; (try with_reducible rfl))
        try simp only [Act.put, List.setIfInBounds_toArray, List.set_cons_zero, List.set_cons_succ]
        refine wpAnyH_take (i := 1) (v := ?_) (op_at (rest := _) rfl) (by kernel_rfl) (by kernel_rfl) (by kernel_rfl) (fun _ _ _ h => h) (Or.inl ⟨by rfl, ?_⟩) (by assumption) ?_
        rotate_left 1
        · (intro W hSw; (try dsimp only at hSw); go_simp; (try with_reducible rfl))
        try simp only [Act.put, List.setIfInBounds_toArray, List.set_cons_zero, List.set_cons_succ]
        refine wpAnyH_take (i := 2) (v := ?_) (op_at (rest := _) rfl) (by kernel_rfl) (by kernel_rfl) (by kernel_rfl) (fun _ _ _ h => h) (Or.inl ⟨by rfl, ?_⟩) (by assumption) ?_
        rotate_left 1
        · (intro W hSw; (try dsimp only at hSw); go_simp; (try with_reducible rfl))
        try simp only [Act.put, List.setIfInBounds_toArray, List.set_cons_zero, List.set_cons_succ]
        refine wpAnyH_take (i := 3) (v := ?_) (op_at (rest := _) rfl) (by kernel_rfl) (by kernel_rfl) (by kernel_rfl) (fun _ _ _ h => h) (Or.inl ⟨by rfl, ?_⟩) (by assumption) ?_
        rotate_left 1
        · (intro W hSw; (try dsimp only at hSw); go_simp; (try with_reducible rfl))
        try simp only [Act.put, List.setIfInBounds_toArray, List.set_cons_zero, List.set_cons_succ]
        refine wpAnyH_take (i := 4) (v := ?_) (op_at (rest := _) rfl) (by kernel_rfl) (by kernel_rfl) (by kernel_rfl) (fun _ _ _ h => h) (Or.inl ⟨by rfl, ?_⟩) (by assumption) ?_
        rotate_left 1
        · (intro W hSw; (try dsimp only at hSw); have q := x1.out W hSw; go_simp; (try with_reducible rfl))
        try simp only [Act.put, List.setIfInBounds_toArray, List.set_cons_zero, List.set_cons_succ]
        refine wpAnyH_take (i := 5) (v := ?_) (op_at (rest := _) rfl) (by kernel_rfl) (by kernel_rfl) (by kernel_rfl) (fun _ _ _ h => h) (Or.inl ⟨by rfl, ?_⟩) (by assumption) ?_
        rotate_left 1
        · (intro W hSw; (try dsimp only at hSw); go_simp; (try with_reducible rfl))
        try simp only [Act.put, List.setIfInBounds_toArray, List.set_cons_zero, List.set_cons_succ]
        refine wpAnyH_take (i := 6) (v := ?_) (op_at (rest := _) rfl) (by kernel_rfl) (by kernel_rfl) (by kernel_rfl) (fun _ _ _ h => h) (Or.inl ⟨by rfl, ?_⟩) (by assumption) ?_
        rotate_left 1
        · (intro W hSw; (try dsimp only at hSw); have q := D4.out W hSw ; have q0 := cellN q (i := 0) rfl ; have q1 := cellN q (i := 1) rfl ; have q2 := cellN q (i := 2) rfl; go_simp; (try with_reducible rfl))
        try simp only [Act.put, List.setIfInBounds_toArray, List.set_cons_zero, List.set_cons_succ]
        refine wpAnyH_take (i := 7) (v := ?_) (op_at (rest := _) rfl) (by kernel_rfl) (by kernel_rfl) (by kernel_rfl) (fun _ _ _ h => h) (Or.inl ⟨by rfl, ?_⟩) (by assumption) ?_
        rotate_left 1
        · (intro W hSw; (try dsimp only at hSw); go_simp; (try with_reducible rfl))
        try simp only [Act.put, List.setIfInBounds_toArray, List.set_cons_zero, List.set_cons_succ]
        refine wpAnyH_done (by kernel_rfl) ?_ _
        refine NoPanic.normal ?_
        clear hq hrem hz3 x1
        generalize hmk : k + 1 = m at *
        clear hmk
        have BWX := hide (bb2 BW3.out hHeld)
        have DX := hide (fun W (hW : Below _ _ W) => D4.out W (bb2 hHeld hW))
        clear D4
        generalize w11.drew = X at *
        have PX : Prs X (.slice (some ⟨g, off, none⟩) l.length cap) l := SPH.out.below BWX.out
        have PRE : Hid (Prs X (.slice (some ⟨g, off, none⟩) k cap) (l.take k)) := by
          unfold Hid
          have := PX.sub 0 k cap (by omega) (by omega) (by unfold maxLen; omega)
          simpa using this
        clear hHeld
        go_wp2_with fail
        refine region_out [some 68, some 69, some 70, some 71, some 72, some 73, some 74, some 75, some 76, some 77, some 10] (fun f W => ∃ v4 sv v9, f = opF [.slice (some ⟨X.heap.size, 0, none⟩) 0 0, .slice (some ⟨g, off, none⟩) l.length cap, .int .i64 k, .slice (some ⟨g, off, none⟩) k cap, v4, .slice (some ⟨g, off, none⟩) l.length cap, .int .i64 k, .int .i64 m, sv, v9, v9] ∧ Prs W v9 (l.take k ++ l.drop m) ∧ Below X.heap.size X W) ?_ ?_
        · rcases Classical.em (cap = m) with hcm2 | hcm2
          · subst hcm2
            have SUF : Prs X (.slice (some ⟨g, off, none⟩) 0 0) (l.drop cap) := by
              have := PX.sub 0 0 0 (by omega) (by omega) (by unfold maxLen; omega)
              rw [List.drop_eq_nil_of_le (by omega)]
              simpa using this
            have hll : l.length - cap = 0 := by omega
            have hcc : cap - cap = 0 := by omega
            refine wp_region_noPanic ?_
            refine wp_region_held_drew (S := fun W => Below (X).heap.size (X) W) (by kernel_rfl) ((Below.refl _ _).drew) (fun hHeld => ?_)
            refine wpAnyH_take (i := 1) (v := ?_) (op_at (rest := _) rfl) (by kernel_rfl) (by kernel_rfl) (by kernel_rfl) (fun _ _ _ h => h) (Or.inl ⟨by rfl, ?_⟩) (by assumption) ?_
            rotate_left 1
            · (intro W hSw; (try dsimp only at hSw); go_simp; (try with_reducible rfl))
            try simp only [Act.put, List.setIfInBounds_toArray, List.set_cons_zero, List.set_cons_succ]
            refine wpAnyH_take (i := 2) (v := ?_) (op_at (rest := _) rfl) (by kernel_rfl) (by kernel_rfl) (by kernel_rfl) (fun _ _ _ h => h) (Or.inl ⟨by rfl, ?_⟩) (by assumption) ?_
            rotate_left 1
            · (intro W hSw; (try dsimp only at hSw); go_simp; (try with_reducible rfl))
            try simp only [Act.put, List.setIfInBounds_toArray, List.set_cons_zero, List.set_cons_succ]
            refine wpAnyH_take (i := 3) (v := ?_) (op_at (rest := _) rfl) (by kernel_rfl) (by kernel_rfl) (by kernel_rfl) (fun _ _ _ h => h) (Or.inl ⟨by rfl, ?_⟩) (by assumption) ?_
            rotate_left 1
            · (intro W hSw; (try dsimp only at hSw); go_simp; (try with_reducible rfl))
            try simp only [Act.put, List.setIfInBounds_toArray, List.set_cons_zero, List.set_cons_succ]
            refine wpAnyH_take (i := 5) (v := ?_) (op_at (rest := _) rfl) (by kernel_rfl) (by kernel_rfl) (by kernel_rfl) (fun _ _ _ h => h) (Or.inl ⟨by rfl, ?_⟩) (by assumption) ?_
            rotate_left 1
            · (intro W hSw; (try dsimp only at hSw); go_simp; (try with_reducible rfl))
            try simp only [Act.put, List.setIfInBounds_toArray, List.set_cons_zero, List.set_cons_succ]
            refine wpAnyH_take (i := 6) (v := ?_) (op_at (rest := _) rfl) (by kernel_rfl) (by kernel_rfl) (by kernel_rfl) (fun _ _ _ h => h) (Or.inl ⟨by rfl, ?_⟩) (by assumption) ?_
            rotate_left 1
            · (intro W hSw; (try dsimp only at hSw); go_simp; (try with_reducible rfl))
            try simp only [Act.put, List.setIfInBounds_toArray, List.set_cons_zero, List.set_cons_succ]
            refine wpAnyH_take (i := 7) (v := ?_) (op_at (rest := _) rfl) (by kernel_rfl) (by kernel_rfl) (by kernel_rfl) (fun _ _ _ h => h) (Or.inl ⟨by rfl, ?_⟩) (by assumption) ?_
            rotate_left 1
            · (intro W hSw; (try dsimp only at hSw); go_simp; (try with_reducible rfl))
            try simp only [Act.put, List.setIfInBounds_toArray, List.set_cons_zero, List.set_cons_succ]
            refine wpAnyH_take (i := 8) (v := ?_) (op_at (rest := _) rfl) (by kernel_rfl) (by kernel_rfl) (by kernel_rfl) (fun _ _ _ h => h) (Or.inl ⟨by rfl, ?_⟩) (by assumption) ?_
            rotate_left 1
            · (intro W hSw; (try dsimp only at hSw); go_simp; (try with_reducible rfl))
            try simp only [Act.put, List.setIfInBounds_toArray, List.set_cons_zero, List.set_cons_succ]
            refine wpAnyH_ready (rs := [0]) (by kernel_rfl) (by simp) ?_
            refine AllReadyH.cons (op_at (rest := _) rfl) (fun K hK => ?_) AllReadyH.nil
            go_simp
            refine hK.out _ _ (hHeld.alloc hHeld.size _) (fun hA => ?_)
            clear hK K
            try simp only [Act.put, List.setIfInBounds_toArray, List.set_cons_zero, List.set_cons_succ]
            refine wpAnyH_ready (rs := [4]) (by kernel_rfl) (by simp) ?_
            refine AllReadyH.cons (op_at (rest := _) rfl) (fun K hK => ?_) AllReadyH.nil
            refine step_append_prs _ _ _ rfl rfl X.heap.size _ 0 [] rfl (owns_emptyT 41 2 X.drew _ rfl) _ _ rfl (PRE.out.below hA) (by simp; omega) hA.size ?_
            intro v4 w4 r4 g4
            have H4 := hA.grown g4 hA.size (fun j e => ownBlock_ge (owns_emptyT 41 2 X.drew _ rfl) e)
            refine hK.out _ _ H4 (fun _ => ?_)
            clear hK K
            try simp only [Act.put, List.setIfInBounds_toArray, List.set_cons_zero, List.set_cons_succ]
            refine wpAnyH_ready (rs := [9]) (by kernel_rfl) (by simp) ?_
            refine AllReadyH.cons (op_at (rest := _) rfl) (fun K hK => ?_) AllReadyH.nil
            refine step_append_prs _ _ _ rfl rfl X.heap.size _ _ _ rfl r4 _ _ rfl (SUF.below H4) (by simp; omega) H4.size ?_
            intro v9 w9 r9 g9
            have H9 := H4.grown g9 H4.size (fun j e => ownBlock_ge r4 e)
            refine hK.out _ _ H9 (fun _ => ?_)
            clear hK K
            try simp only [Act.put, List.setIfInBounds_toArray, List.set_cons_zero, List.set_cons_succ]
            refine wpAnyH_take (i := 10) (v := ?_) (op_at (rest := _) rfl) (by kernel_rfl) (by kernel_rfl) (by kernel_rfl) (fun _ _ _ h => h) (Or.inl ⟨by rfl, ?_⟩) (by assumption) ?_
            rotate_left 1
            · (intro W hSw; (try dsimp only at hSw); go_simp; (try with_reducible rfl))
            try simp only [Act.put, List.setIfInBounds_toArray, List.set_cons_zero, List.set_cons_succ]
            refine wpAnyH_done (by kernel_rfl) ?_ _
            refine NoPanic.normal ?_
            exact ⟨rfl, opF [.slice (some ⟨X.heap.size, 0, none⟩) 0 0, .slice (some ⟨g, off, none⟩) l.length cap, .int .i64 k, .slice (some ⟨g, off, none⟩) k cap, v4, .slice (some ⟨g, off, none⟩) l.length cap, .int .i64 k, .int .i64 cap, .slice (some ⟨g, off, none⟩) 0 0, v9, v9], (by simp only [putF, opF, List.getD_cons_zero, List.getD_cons_succ, Nat.reduceAdd, Act.put, List.setIfInBounds_toArray, List.set_cons_zero, List.set_cons_succ]), v4, _, v9, rfl, Prs.of_row (by simp) r9, H9⟩
          · have SUF : Prs X (.slice (some ⟨g, off + m * 2, none⟩) (l.length - m) (cap - m)) (l.drop m) := by
              have := PX.sub m (l.length - m) (cap - m) (by omega) (by omega) (by unfold maxLen; omega)
              rwa [List.take_of_length_le (by simp)] at this
            refine wp_region_noPanic ?_
            refine wp_region_held_drew (S := fun W => Below (X).heap.size (X) W) (by kernel_rfl) ((Below.refl _ _).drew) (fun hHeld => ?_)
            refine wpAnyH_take (i := 1) (v := ?_) (op_at (rest := _) rfl) (by kernel_rfl) (by kernel_rfl) (by kernel_rfl) (fun _ _ _ h => h) (Or.inl ⟨by rfl, ?_⟩) (by assumption) ?_
            rotate_left 1
            · (intro W hSw; (try dsimp only at hSw); go_simp; (try with_reducible rfl))
            try simp only [Act.put, List.setIfInBounds_toArray, List.set_cons_zero, List.set_cons_succ]
            refine wpAnyH_take (i := 2) (v := ?_) (op_at (rest := _) rfl) (by kernel_rfl) (by kernel_rfl) (by kernel_rfl) (fun _ _ _ h => h) (Or.inl ⟨by rfl, ?_⟩) (by assumption) ?_
            rotate_left 1
            · (intro W hSw; (try dsimp only at hSw); go_simp; (try with_reducible rfl))
            try simp only [Act.put, List.setIfInBounds_toArray, List.set_cons_zero, List.set_cons_succ]
            refine wpAnyH_take (i := 3) (v := ?_) (op_at (rest := _) rfl) (by kernel_rfl) (by kernel_rfl) (by kernel_rfl) (fun _ _ _ h => h) (Or.inl ⟨by rfl, ?_⟩) (by assumption) ?_
            rotate_left 1
            · (intro W hSw; (try dsimp only at hSw); go_simp; (try with_reducible rfl))
            try simp only [Act.put, List.setIfInBounds_toArray, List.set_cons_zero, List.set_cons_succ]
            refine wpAnyH_take (i := 5) (v := ?_) (op_at (rest := _) rfl) (by kernel_rfl) (by kernel_rfl) (by kernel_rfl) (fun _ _ _ h => h) (Or.inl ⟨by rfl, ?_⟩) (by assumption) ?_
            rotate_left 1
            · (intro W hSw; (try dsimp only at hSw); go_simp; (try with_reducible rfl))
            try simp only [Act.put, List.setIfInBounds_toArray, List.set_cons_zero, List.set_cons_succ]
            refine wpAnyH_take (i := 6) (v := ?_) (op_at (rest := _) rfl) (by kernel_rfl) (by kernel_rfl) (by kernel_rfl) (fun _ _ _ h => h) (Or.inl ⟨by rfl, ?_⟩) (by assumption) ?_
            rotate_left 1
            · (intro W hSw; (try dsimp only at hSw); go_simp; (try with_reducible rfl))
            try simp only [Act.put, List.setIfInBounds_toArray, List.set_cons_zero, List.set_cons_succ]
            refine wpAnyH_take (i := 7) (v := ?_) (op_at (rest := _) rfl) (by kernel_rfl) (by kernel_rfl) (by kernel_rfl) (fun _ _ _ h => h) (Or.inl ⟨by rfl, ?_⟩) (by assumption) ?_
            rotate_left 1
            · (intro W hSw; (try dsimp only at hSw); go_simp; (try with_reducible rfl))
            try simp only [Act.put, List.setIfInBounds_toArray, List.set_cons_zero, List.set_cons_succ]
            refine wpAnyH_take (i := 8) (v := ?_) (op_at (rest := _) rfl) (by kernel_rfl) (by kernel_rfl) (by kernel_rfl) (fun _ _ _ h => h) (Or.inl ⟨by rfl, ?_⟩) (by assumption) ?_
            rotate_left 1
            · (intro W hSw; (try dsimp only at hSw); go_simp; (try with_reducible rfl))
            try simp only [Act.put, List.setIfInBounds_toArray, List.set_cons_zero, List.set_cons_succ]
            refine wpAnyH_ready (rs := [0]) (by kernel_rfl) (by simp) ?_
            refine AllReadyH.cons (op_at (rest := _) rfl) (fun K hK => ?_) AllReadyH.nil
            go_simp
            refine hK.out _ _ (hHeld.alloc hHeld.size _) (fun hA => ?_)
            clear hK K
            try simp only [Act.put, List.setIfInBounds_toArray, List.set_cons_zero, List.set_cons_succ]
            refine wpAnyH_ready (rs := [4]) (by kernel_rfl) (by simp) ?_
            refine AllReadyH.cons (op_at (rest := _) rfl) (fun K hK => ?_) AllReadyH.nil
            refine step_append_prs _ _ _ rfl rfl X.heap.size _ 0 [] rfl (owns_emptyT 41 2 X.drew _ rfl) _ _ rfl (PRE.out.below hA) (by simp; omega) hA.size ?_
            intro v4 w4 r4 g4
            have H4 := hA.grown g4 hA.size (fun j e => ownBlock_ge (owns_emptyT 41 2 X.drew _ rfl) e)
            refine hK.out _ _ H4 (fun _ => ?_)
            clear hK K
            try simp only [Act.put, List.setIfInBounds_toArray, List.set_cons_zero, List.set_cons_succ]
            refine wpAnyH_ready (rs := [9]) (by kernel_rfl) (by simp) ?_
            refine AllReadyH.cons (op_at (rest := _) rfl) (fun K hK => ?_) AllReadyH.nil
            refine step_append_prs _ _ _ rfl rfl X.heap.size _ _ _ rfl r4 _ _ rfl (SUF.below H4) (by simp; omega) H4.size ?_
            intro v9 w9 r9 g9
            have H9 := H4.grown g9 H4.size (fun j e => ownBlock_ge r4 e)
            refine hK.out _ _ H9 (fun _ => ?_)
            clear hK K
            try simp only [Act.put, List.setIfInBounds_toArray, List.set_cons_zero, List.set_cons_succ]
            refine wpAnyH_take (i := 10) (v := ?_) (op_at (rest := _) rfl) (by kernel_rfl) (by kernel_rfl) (by kernel_rfl) (fun _ _ _ h => h) (Or.inl ⟨by rfl, ?_⟩) (by assumption) ?_
            rotate_left 1
            · (intro W hSw; (try dsimp only at hSw); go_simp; (try with_reducible rfl))
            try simp only [Act.put, List.setIfInBounds_toArray, List.set_cons_zero, List.set_cons_succ]
            refine wpAnyH_done (by kernel_rfl) ?_ _
            refine NoPanic.normal ?_
            exact ⟨rfl, opF [.slice (some ⟨X.heap.size, 0, none⟩) 0 0, .slice (some ⟨g, off, none⟩) l.length cap, .int .i64 k, .slice (some ⟨g, off, none⟩) k cap, v4, .slice (some ⟨g, off, none⟩) l.length cap, .int .i64 k, .int .i64 m, .slice (some ⟨g, off + m * 2, none⟩) (l.length - m) (cap - m), v9, v9], (by simp only [putF, opF, List.getD_cons_zero, List.getD_cons_succ, Nat.reduceAdd, Act.put, List.setIfInBounds_toArray, List.set_cons_zero, List.set_cons_succ]), v4, _, v9, rfl, Prs.of_row (by simp) r9, H9⟩
        rintro f w12 ⟨v4, sv, lv, rfl, SL5, hb12⟩
        simp only [putF, opF, List.getD_cons_zero, List.getD_cons_succ, Nat.reduceAdd, Act.put, List.setIfInBounds_toArray, List.set_cons_zero, List.set_cons_succ]
        have BY := hide (bb2 BWX.out hb12)
        have N1 := hide (fun W (hW : Below w12.heap.size w12 W) => lmet_any ⟨⟨kd, nm, vs⟩, ya, yc⟩ lv _ W (SYH.out.below (bb2 BY.out hW)) RY (SL5.below hW) HOK3.out)
        have N2 := hide (fun W (hW : Below w12.heap.size w12 W) => lmet_any ⟨⟨kd, nm, vs⟩, ya, yc⟩ _ l W (SYH.out.below (bb2 BY.out hW)) RY (SPH.out.below (bb2 BY.out hW)) HOK2.out)
        have DY := hide (fun W (hW : Below w12.heap.size w12 W) => DX.out W (bb2 hb12 hW))
        dsimp only at N1 N2
        rw [HLE.out] at N1
        have E1 : (La.met ⟨kd, nm, vs⟩ l == La.met ⟨kd, nm, vs⟩ l) = true := by cases La.met ⟨kd, nm, vs⟩ l <;> rfl
        clear DX BWX PX PRE hb12 SL5 HLE hk1 hk2 hkc hwr hm0 hm1 hm2 hm3 hcI
        go_wp2_with fail
        refine wp_region_noPanic ?_
        refine wp_region_held_drew (S := fun W => Below (w12).heap.size (w12) W) (by kernel_rfl) ((Below.refl _ _).drew) (fun hHeld => ?_)
        refine wpAnyH_take (i := 0) (v := ?_) (op_at (rest := _) rfl) (by kernel_rfl) (by kernel_rfl) (by kernel_rfl) (fun _ _ _ h => h) (Or.inl ⟨by rfl, ?_⟩) (by assumption) ?_
        rotate_left 1
        · (intro W hSw; (try dsimp only at hSw); have q := DY.out W hSw ; have q0 := cellN q (i := 0) rfl ; have q1 := cellN q (i := 1) rfl ; have q2 := cellN q (i := 2) rfl; go_simp; (try with_reducible rfl))
        try simp only [Act.put, List.setIfInBounds_toArray, List.set_cons_zero, List.set_cons_succ]
        refine wpAnyH_take (i := 1) (v := ?_) (op_at (rest := _) rfl) (by kernel_rfl) (by kernel_rfl) (by kernel_rfl) (fun _ _ _ h => h) (Or.inl ⟨by rfl, ?_⟩) (by assumption) ?_
        rotate_left 1
        · (intro W hSw; (try dsimp only at hSw); go_simp; (try with_reducible rfl))
        try simp only [Act.put, List.setIfInBounds_toArray, List.set_cons_zero, List.set_cons_succ]
        refine wpAnyH_take (i := 3) (v := ?_) (op_at (rest := _) rfl) (by kernel_rfl) (by kernel_rfl) (by kernel_rfl) (fun _ _ _ h => h) (Or.inl ⟨by rfl, ?_⟩) (by assumption) ?_
        rotate_left 1
        · (intro W hSw; (try dsimp only at hSw); have q := DY.out W hSw ; have q0 := cellN q (i := 0) rfl ; have q1 := cellN q (i := 1) rfl ; have q2 := cellN q (i := 2) rfl; go_simp; (try with_reducible rfl))
        try simp only [Act.put, List.setIfInBounds_toArray, List.set_cons_zero, List.set_cons_succ]
        refine wpAnyH_take (i := 4) (v := ?_) (op_at (rest := _) rfl) (by kernel_rfl) (by kernel_rfl) (by kernel_rfl) (fun _ _ _ h => h) (Or.inl ⟨by rfl, ?_⟩) (by assumption) ?_
        rotate_left 1
        · (intro W hSw; (try dsimp only at hSw); go_simp; (try with_reducible rfl))
        try simp only [Act.put, List.setIfInBounds_toArray, List.set_cons_zero, List.set_cons_succ]
        refine wpAnyH_ready (rs := [2]) (by kernel_rfl) (by simp) ?_
        refine AllReadyH.cons (op_at (rest := _) rfl) (fun K hK => ?_) AllReadyH.nil
        go_simp
        refine (N1.out _ hHeld).mono ?_
        rintro e w13 ⟨rfl, hb13⟩
        go_wp2_with fail
        replace hHeld := hHeld.trans (hb13.mono hHeld.size)
        refine hK.out _ _ hHeld (fun _ => ?_)
        clear hK K
        try simp only [Act.put, List.setIfInBounds_toArray, List.set_cons_zero, List.set_cons_succ]
        refine wpAnyH_ready (rs := [5]) (by kernel_rfl) (by simp) ?_
        refine AllReadyH.cons (op_at (rest := _) rfl) (fun K hK => ?_) AllReadyH.nil
        go_simp
        refine (N2.out _ hHeld).mono ?_
        rintro e w14 ⟨rfl, hb14⟩
        go_wp2_with fail
        replace hHeld := hHeld.trans (hb14.mono hHeld.size)
        refine hK.out _ _ hHeld (fun _ => ?_)
        clear hK K
        try simp only [Act.put, List.setIfInBounds_toArray, List.set_cons_zero, List.set_cons_succ]
        refine wpAnyH_take (i := 6) (v := ?_) (op_at (rest := _) rfl) (by kernel_rfl) (by kernel_rfl) (by kernel_rfl) (fun _ _ _ h => h) (Or.inl ⟨by rfl, ?_⟩) (by assumption) ?_
        rotate_left 1
        · (intro W hSw; (try dsimp only at hSw); go_simp; (try with_reducible rfl))
        try simp only [Act.put, List.setIfInBounds_toArray, List.set_cons_zero, List.set_cons_succ]
        refine wpAnyH_take (i := 7) (v := ?_) (op_at (rest := _) rfl) (by kernel_rfl) (by kernel_rfl) (by kernel_rfl) (fun _ _ _ h => h) (Or.inl ⟨by rfl, ?_⟩) (by assumption) ?_
        rotate_left 1
        · (intro W hSw; (try dsimp only at hSw); go_simp; (try with_reducible rfl))
        try simp only [Act.put, List.setIfInBounds_toArray, List.set_cons_zero, List.set_cons_succ]
        refine wpAnyH_ready (rs := [8]) (by kernel_rfl) (by simp) ?_
        refine AllReadyH.cons (op_at (rest := _) rfl) (fun K hK => ?_) AllReadyH.nil
        go_simp
        refine (lawake_any _).mono ?_
        rintro e w15 ⟨rfl, hb15⟩
        go_wp2_with fail
        replace hHeld := hHeld.trans (hb15.mono hHeld.size)
        refine hK.out _ _ hHeld (fun _ => ?_)
        clear hK K
        try simp only [Act.put, List.setIfInBounds_toArray, List.set_cons_zero, List.set_cons_succ]
        refine wpAnyH_take (i := 9) (v := ?_) (op_at (rest := _) rfl) (by kernel_rfl) (by kernel_rfl) (by kernel_rfl) (fun _ _ _ h => h) (Or.inl ⟨by rfl, ?_⟩) (by assumption) ?_
        rotate_left 1
        · (intro W hSw; (try dsimp only at hSw); go_simp; (try with_reducible rfl))
        try simp only [Act.put, List.setIfInBounds_toArray, List.set_cons_zero, List.set_cons_succ]
        refine wpAnyH_take (i := 10) (v := ?_) (op_at (rest := _) rfl) (by kernel_rfl) (by kernel_rfl) (by kernel_rfl) (fun _ _ _ h => h) (Or.inl ⟨by rfl, ?_⟩) (by assumption) ?_
        rotate_left 1
        · (intro W hSw; (try dsimp only at hSw); go_simp; (try with_reducible rfl))
        try simp only [Act.put, List.setIfInBounds_toArray, List.set_cons_zero, List.set_cons_succ]
        refine wpAnyH_done (by kernel_rfl) ?_ _
        refine NoPanic.normal ?_
        go_wp2_with fail
        go_ret
        exact ⟨rfl, bb2 BB (bb2 BY.out hHeld)⟩
      · clear HLE
        go_wp2_with fail
        rw [hrem]
        refine wp_region_noPanic ?_
        refine wp_region_held_drew (S := fun W => Below (w11).heap.size (w11) W) (by kernel_rfl) ((Below.refl _ _).drew) (fun hHeld => ?_)
        refine wpAnyH_take (i := 0) (v := ?_) (op_at (rest := _) rfl) (by kernel_rfl) (by kernel_rfl) (by kernel_rfl) (fun _ _ _ h => h) (Or.inl ⟨by rfl, ?_⟩) (by assumption) ?_
        rotate_left 1
        · (intro W hSw; (try dsimp only at hSw); go_simp; (try with_reducible rfl))
        try simp only [Act.put, List.setIfInBounds_toArray, List.set_cons_zero, List.set_cons_succ]
        refine wpAnyH_take (i := 1) (v := ?_) (op_at (rest := _) rfl) (by kernel_rfl) (by kernel_rfl) (by kernel_rfl) (fun _ _ _ h => h) (Or.inl ⟨by rfl, ?_⟩) (by assumption) ?_
        rotate_left 1
        · (intro W hSw; (try dsimp only at hSw); go_simp; (try with_reducible rfl))
        try simp only [Act.put, List.setIfInBounds_toArray, List.set_cons_zero, List.set_cons_succ]
        refine wpAnyH_take (i := 2) (v := ?_) (op_at (rest := _) rfl) (by kernel_rfl) (by kernel_rfl) (by kernel_rfl) (fun _ _ _ h => h) (Or.inl ⟨by rfl, ?_⟩) (by assumption) ?_
        rotate_left 1
        · (intro W hSw; (try dsimp only at hSw); go_simp; (try with_reducible rfl))
        try simp only [Act.put, List.setIfInBounds_toArray, List.set_cons_zero, List.set_cons_succ]
        refine wpAnyH_take (i := 3) (v := ?_) (op_at (rest := _) rfl) (by kernel_rfl) (by kernel_rfl) (by kernel_rfl) (fun _ _ _ h => h) (Or.inl ⟨by rfl, ?_⟩) (by assumption) ?_
        rotate_left 1
        · (intro W hSw; (try dsimp only at hSw); go_simp; (try with_reducible rfl))
        try simp only [Act.put, List.setIfInBounds_toArray, List.set_cons_zero, List.set_cons_succ]
        refine wpAnyH_take (i := 4) (v := ?_) (op_at (rest := _) rfl) (by kernel_rfl) (by kernel_rfl) (by kernel_rfl) (fun _ _ _ h => h) (Or.inl ⟨by rfl, ?_⟩) (by assumption) ?_
        rotate_left 1
        · (intro W hSw; (try dsimp only at hSw); have q := x1.out W hSw; go_simp; (try with_reducible rfl))
        try simp only [Act.put, List.setIfInBounds_toArray, List.set_cons_zero, List.set_cons_succ]
        refine wpAnyH_take (i := 5) (v := ?_) (op_at (rest := _) rfl) (by kernel_rfl) (by kernel_rfl) (by kernel_rfl) (fun _ _ _ h => h) (Or.inl ⟨by rfl, ?_⟩) (by assumption) ?_
        rotate_left 1
        · (intro W hSw; (try dsimp only at hSw); go_simp; (try with_reducible rfl))
        try simp only [Act.put, List.setIfInBounds_toArray, List.set_cons_zero, List.set_cons_succ]
        refine wpAnyH_take (i := 6) (v := ?_) (op_at (rest := _) rfl) (by kernel_rfl) (by kernel_rfl) (by kernel_rfl) (fun _ _ _ h => h) (Or.inl ⟨by rfl, ?_⟩) (by assumption) ?_
        rotate_left 1
        · (intro W hSw; (try dsimp only at hSw); have q := D4.out W hSw ; have q0 := cellN q (i := 0) rfl ; have q1 := cellN q (i := 1) rfl ; have q2 := cellN q (i := 2) rfl; go_simp; (try with_reducible rfl))
        try simp only [Act.put, List.setIfInBounds_toArray, List.set_cons_zero, List.set_cons_succ]
        refine wpAnyH_take (i := 7) (v := ?_) (op_at (rest := _) rfl) (by kernel_rfl) (by kernel_rfl) (by kernel_rfl) (fun _ _ _ h => h) (Or.inl ⟨by rfl, ?_⟩) (by assumption) ?_
        rotate_left 1
        · (intro W hSw; (try dsimp only at hSw); go_simp; (try with_reducible rfl))
        try simp only [Act.put, List.setIfInBounds_toArray, List.set_cons_zero, List.set_cons_succ]
        refine wpAnyH_done (by kernel_rfl) ?_ _
        refine NoPanic.normal ?_
        go_wp2_with fail
        refine (lawake_any _).mono ?_
        rintro e w12 ⟨rfl, hb12⟩
        go_wp2_with fail
        go_ret
        exact ⟨rfl, bb2 BB (bb2 BW3.out (bb2 hHeld hb12))⟩

end Go.Proofs.YtecnjbaanbakoaaDoor
