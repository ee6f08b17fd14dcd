/-
  Walks: fits, Do.
-/
import Derived.Test.YtejmcemgjpcobaaDoorFiWalkC
namespace Go.Proofs.YtejmcemgjpcobaaDoor
set_option maxRecDepth 20000
open Go Go.RowKit Go.Shelf Fi

theorem bx2 {w W : World} {o1 o2 : Obj} (h : Below ((w.alloc o1).alloc o2).heap.size ((w.alloc o1).alloc o2) W) : W.heap[w.heap.size]? = some o1 ∧ W.heap[w.heap.size + 1]? = some o2 := by
  have h1 := alloc_new w o1
  have h2 := alloc_new (w.alloc o1) o2
  simp only [World.size_alloc] at h2
  refine ⟨(h.block _ (by simp; omega)).trans ?_, (h.block _ (by simp)).trans h2⟩
  rw [Below.heap_alloc _ _ _ (by simp)]
  exact h1
theorem bx3 {w W : World} {o1 o2 o3 : Obj} (h : Below (((w.alloc o1).alloc o2).alloc o3).heap.size (((w.alloc o1).alloc o2).alloc o3) W) : W.heap[w.heap.size]? = some o1 ∧ W.heap[w.heap.size + 1]? = some o2 ∧ W.heap[w.heap.size + 1 + 1]? = some o3 := by
  have h3 := alloc_new ((w.alloc o1).alloc o2) o3
  simp only [World.size_alloc] at h3
  have h12 := bx2 (w := w) (o1 := o1) (o2 := o2) (W := W) (((Below.refl _ _).alloc (Nat.le_refl _) _).trans (h.mono (by simp)))
  exact ⟨h12.1, h12.2, (h.block _ (by simp)).trans h3⟩
theorem below_3 {w : World} (o1 o2 o3 : Obj) : Below w.heap.size w (((w.alloc o1).alloc o2).alloc o3) :=
  (((Below.refl _ _).alloc (Nat.le_refl _) _).alloc (by simp) _).alloc (by simp; omega) _

set_option maxHeartbeats 800000 in
theorem fits_any (vl : Value) (l : List FB) (pk : Int) (pv : ByteArray) (x : RV) (w : World) (hv : Sl EF w vl l) (ok : ∀ f ∈ l, OkFi f) (hpv : pv.size ≤ maxLen) (hrp : x.r.path.size ≤ maxLen) :
    Calls Tryd.prog 13 #[vl, .agg #[.int .i64 pk, .string pv], rV x.r x.vq x.vh] w fun e w' => e = .returned (.bool (allF l && holdP pk (dl pv) (dl x.r.path))) ∧ Below w.heap.size w w' := by
  obtain ⟨⟨rm, rho, rp, qu, hd⟩, aq, cq, ah, ch⟩ := x
  dsimp only at *
  have C1 := fun W (h : Below w.heap.size w W) => hide (fall_any vl l W (hv.below h) ok)
  have C2 := fun W => hide (pholds_any pk pv rp W hpv hrp)
  clear hv ok hpv hrp
  generalize allF l = x1 at *
  generalize holdP pk (dl pv) (dl rp) = x2 at *
  have B2 : Below w.heap.size w ((w.alloc (.cells #[.int .i64 pk, .string pv] 24)).alloc (.cells #[.string rm, .string rho, .string rp, .slice aq qu.length cq, .slice ah hd.length ch] 27)) := ((Below.refl _ _).alloc (Nat.le_refl _) _).alloc (by simp) _
  cases x1
  · go_enter Tryd.func13, Tryd.ntmps13
    go_wp2_with fail
    refine ((C1 _ B2).out).mono ?_
    rintro e w1 ⟨rfl, hb1⟩
    go_wp2_with fail
    go_ret
    exact ⟨rfl, bb2 B2 hb1⟩
  · go_enter Tryd.func13, Tryd.ntmps13
    go_wp2_with fail
    refine (C1 _ B2).out.mono ?_
    rintro e w1 ⟨rfl, hb1⟩
    obtain ⟨k0, k1⟩ := bx2 hb1
    have p0 := cellN k0 (i := 0) rfl
    have p1 := cellN k0 (i := 1) rfl
    have r2 := cellN k1 (i := 2) rfl
    go_wp2_with fail
    refine ((C2 _).out).mono ?_
    rintro e w2 ⟨rfl, hb2⟩
    go_wp2_with fail
    go_ret
    exact ⟨rfl, bb2 (bb2 B2 hb1) hb2⟩

theorem RV.own.setL {x : RV} {W : World} {g t k : Nat} {old : Array Value} {cs : List Value} (h : x.own W) (hz : W.heap[g]? = some (.cells old t)) (hne : 48 ≠ t) : x.own (Go.Proofs.YtejmcemgjpcobaaDoor.setL W g k cs) := by
  obtain ⟨⟨b, h1⟩, c, h2⟩ := h
  exact ⟨⟨b, row_setL h1 hz hne⟩, c, row_setL h2 hz hne⟩
/-- how large a request may have become -/
structure StOk (r : RB) (n : Nat) : Prop where
  len : r.head.length ≤ 31 + n
  head : ∀ p ∈ r.head, okF p
  path : r.path.size ≤ 100
theorem setQ_mem {l : List PairB} {n x : ByteArray} : ∀ p ∈ setQ l n x, p = (n, x) ∨ p ∈ l := by
  induction l with
  | nil => intro p hp; simp [setQ, Pb.setP] at hp; exact .inl hp
  | cons q r ih =>
    intro p hp
    unfold setQ Pb.setP at hp
    split at hp
    · rcases List.mem_cons.1 hp with rfl | hp
      · exact .inl rfl
      · exact .inr (List.mem_cons_of_mem _ (List.mem_filter.1 hp).1)
    · rcases List.mem_cons.1 hp with rfl | hp
      · exact .inr List.mem_cons_self
      · rcases ih p hp with h | h
        · exact .inl h
        · exact .inr (List.mem_cons_of_mem _ h)
theorem setQ_le (l : List PairB) (n x : ByteArray) : (setQ l n x).length ≤ l.length + 1 := by
  have h1 : (setQ l n x).length = (dropQ l n).length + 1 := Pb.len_set l n x
  have h2 : (dropQ l n).length ≤ l.length := List.length_filter_le _ _
  omega
theorem swapT_le (k : Int) (v b s : List UInt8) : (swapT k v b s).length ≤ 60 := by
  unfold swapT
  split
  · split
    · simp
    · omega
  · simp
theorem becT_le {f : FB} {k : Int} {v s : ByteArray} (hf : f.path.size ≤ 100) (hs : s.size ≤ 100) : (becT f k v s).size ≤ 100 := by
  unfold becT
  split
  · exact hs
  · split
    · exact hf
    · have := swapT_le k (dl v) (dl f.path) (dl s)
      show (swapT k (dl v) (dl f.path) (dl s)).toArray.size ≤ 100
      simp
      omega
theorem step_ok {k : Int} {v : ByteArray} {r y : RB} {f : FB} {n : Nat} (ok : OkFi f) (h : StOk r n) (hs : stepF k v r f = .ok y) : StOk y (n + 1) := by
  have hl := h.len
  unfold stepF at hs
  split at hs
  · cases hs
    have := setQ_le r.head f.name f.val
    exact ⟨by dsimp only; omega, fun p hp => by
      rcases setQ_mem p hp with rfl | hp
      · exact ⟨ok.name, ok.val⟩
      · exact h.head p hp, h.path⟩
  · split at hs
    · cases hs
      exact ⟨by simp; omega, fun p hp => by
        rcases List.mem_append.1 hp with hp | hp
        · exact h.head p hp
        · obtain rfl : p = (f.name, f.val) := by simpa using hp
          exact ⟨ok.name, ok.val⟩, h.path⟩
    · split at hs
      · cases hs
        have : (dropQ r.head f.name).length ≤ r.head.length := List.length_filter_le _ _
        exact ⟨by dsimp only; omega, fun p hp => h.head p (List.mem_filter.1 hp).1, h.path⟩
      · split at hs
        · split at hs
          · cases hs
            exact ⟨by dsimp only; omega, h.head, becT_le ok.path h.path⟩
          · cases hs
        · cases hs
          exact ⟨by omega, h.head, h.path⟩

/-- what holds at each round of Do -/
structure DoInv (w : World) (pk : Int) (pv : ByteArray) (M : Nat) (y : RV) (W : World) : Prop where
  own : y.own W
  pth : W.heap[w.heap.size]? = some (.cells #[.int .i64 pk, .string pv] 24)
  req : W.heap[w.heap.size + 1]? = some (.cells #[.string y.r.meth, .string y.r.host, .string y.r.path, .slice y.aq y.r.query.length y.cq, .slice y.ah y.r.head.length y.ch] 27)
  res : W.heap[w.heap.size + 1 + 1]? = some (.cells #[.string ⟨#[]⟩, .string ⟨#[]⟩, .string ⟨#[]⟩, .slice none 0 0, .slice none 0 0] 27)
  map : W.heap[M]? = some (.map deedEs 5)
  below : Below w.heap.size w W
theorem DoInv.next {w : World} {pk : Int} {pv : ByteArray} {M : Nat} {y y' : RV} {W W2 : World} {o o' : Obj} (h : DoInv w pk pv M y W) (hM : w.heap.size + 1 + 1 < M) (hb : Below (W.alloc o).heap.size (W.alloc o) W2) (hy : y'.own W2) :
    DoInv w pk pv M y' (setL (W2.alloc o') (w.heap.size + 1) 0 [.string y'.r.meth, .string y'.r.host, .string y'.r.path, .slice y'.aq y'.r.query.length y'.cq, .slice y'.ah y'.r.head.length y'.ch]) := by
  have b1 := bb2 (below_box hb) ((Below.refl _ W2).alloc (Nat.le_refl _) o')
  have hr := blk_below h.req b1
  exact ⟨(hy.below ((Below.refl _ W2).alloc (Nat.le_refl _) o')).setL hr (by decide), (setL_far (by omega) _ _ _).trans (blk_below h.pth b1), setL_all _ hr rfl, (setL_far (by omega) _ _ _).trans (blk_below h.res b1), (setL_far (by omega) _ _ _).trans (blk_below h.map b1), setL_below (by omega) _ _ _ (bb2 h.below b1)⟩

set_option maxHeartbeats 6400000 in
theorem do_any (vl : Value) (l : List FB) (pk : Int) (pv : ByteArray) (x : RV) (w : World) (hv : Sl EF w vl l) (ok : ∀ f ∈ l, OkFi f) (hpv : pv.size ≤ 100) (hx : x.at_ w) (okr : OkR x.r) :
    Calls Tryd.prog 5 #[vl, .agg #[.int .i64 pk, .string pv], rV x.r x.vq x.vh] w fun e w' => ∃ y : RV, e = rqE y (doF l pk pv x.r).2 ∧ y.r = (doF l pk pv x.r).1 ∧ y.own w' ∧ Below w.heap.size w w' := by
  have C1 := fun W (h : Below w.heap.size w W) => hide (fits_any vl l pk pv x W (hv.below h) ok (small_len (by omega)) (small_len (by have := okr.path; omega)))
  obtain ⟨⟨rm, rho, rp, qu, hd⟩, aq, cq, ah, ch⟩ := x
  obtain ⟨hq, hh⟩ := hx
  have lq := okr.qlen
  have lh := okr.hlen
  dsimp only at *
  have HOKR := hide okr
  have HOK := hide ok
  have hlen := hv.len
  obtain ⟨a, cap, rfl, hcap, hmax, hc⟩ := hv
  have HC := hide hc
  clear hc ok okr
  have B3 := below_3 (w := w) (.cells #[.int .i64 pk, .string pv] 24) (.cells #[.string rm, .string rho, .string rp, .slice aq qu.length cq, .slice ah hd.length ch] 27) (.cells #[.string ⟨#[]⟩, .string ⟨#[]⟩, .string ⟨#[]⟩, .slice none 0 0, .slice none 0 0] 27)
  cases hfit : (allF l && holdP pk (dl pv) (dl rp))
  · have HR : Hid (doF l pk pv ⟨rm, rho, rp, qu, hd⟩ = (zeroR, 1)) := by
      show doF _ _ _ _ = _
      unfold doF
      rw [if_neg (by rw [hfit]; decide)]
    rw [hfit] at C1
    clear hq hh
    go_enter Tryd.func5, Tryd.ntmps5
    go_wp2_with fail
    refine (C1 _ B3).out.mono ?_
    rintro e w1 ⟨rfl, hb1⟩
    have HZ := hide (bx3 hb1).2.2
    have BB := hide (bb2 B3 hb1)
    have lz := liveN HZ.out
    obtain ⟨z0, z1, z2, z3, z4⟩ : _ ∧ _ ∧ _ ∧ _ ∧ _ := ⟨cellN HZ.out (i := 0) rfl, cellN HZ.out (i := 1) rfl, cellN HZ.out (i := 2) rfl, cellN HZ.out (i := 3) rfl, cellN HZ.out (i := 4) rfl⟩
    clear C1
    go_wp2_with fail
    have S1 := setL_below (w := w) (B := w.heap.size) (g := w.heap.size + 1 + 1) (by omega) [.string ⟨#[]⟩, .string ⟨#[]⟩, .string ⟨#[]⟩, .slice none 0 0, .slice none 0 0] _ 0 BB.out
    have K4 := setL_all [.string ⟨#[]⟩, .string ⟨#[]⟩, .string ⟨#[]⟩, .slice none 0 0, .slice none 0 0] HZ.out rfl
    change bodyPost _ _ _ _ _ (setL w1 (w.heap.size + 1 + 1) 0 [.string ⟨#[]⟩, .string ⟨#[]⟩, .string ⟨#[]⟩, .slice none 0 0, .slice none 0 0])
    generalize setL w1 (w.heap.size + 1 + 1) 0 [.string ⟨#[]⟩, .string ⟨#[]⟩, .string ⟨#[]⟩, .slice none 0 0, .slice none 0 0] = W9 at *
    obtain ⟨e0, e1, e2, e3, e4⟩ : _ ∧ _ ∧ _ ∧ _ ∧ _ := ⟨cellN K4 (i := 0) rfl, cellN K4 (i := 1) rfl, cellN K4 (i := 2) rfl, cellN K4 (i := 3) rfl, cellN K4 (i := 4) rfl⟩
    exact bodyPost_ret (v := .tuple #[.agg #[.string ⟨#[]⟩, .string ⟨#[]⟩, .string ⟨#[]⟩, .slice none 0 0, .slice none 0 0], .int .i64 1]) (by simp [results, Tryd.f5, go_sem, e0, e1, e2, e3, e4]) rfl ⟨zeroRV, by rw [HR.out]; rfl, by rw [HR.out]; rfl, zeroRV_own _, S1⟩
  · have HFIT := hide hfit
    rw [hfit] at C1
    clear hfit
    go_enter Tryd.func5, Tryd.ntmps5
    go_wp2_with fail
    refine (C1 _ B3).out.mono ?_
    rintro e w1 ⟨rfl, hb1⟩
    have HB := fun W (h : Below w1.heap.size w1 W) => bx3 (bb2 hb1 h)
    have B4 := bb2 B3 hb1
    have CQ := fun W (h : Below w1.heap.size w1 W) => hide (clone_any (.slice aq qu.length cq) qu W (hq.below (bb2 B4 h)) (by omega))
    have CH := fun W (h : Below w1.heap.size w1 W) => hide (clone_any (.slice ah hd.length ch) hd W (hh.below (bb2 B4 h)) (by omega))
    have m3 := fun W h => cellN (HB W h).2.1 (i := 3) rfl
    have m4 := fun W h => cellN (HB W h).2.1 (i := 4) rfl
    have HBH := hide HB
    clear HB C1 hq hh hb1
    go_wp2_with fail
    refine wp_region_G 7 (fun w' => Below w1.heap.size w1 w') (by kernel_rfl) ((Below.refl _ _).drew) ?_
    refine wpG_take (i := 0) 5 (v := .pointer (some ⟨w.heap.size + 1, 3, none⟩)) rfl (by kernel_rfl) (by kernel_rfl) (by kernel_rfl) (by decide) (by kernel_rfl) (by kernel_rfl) (fun _ _ _ h => h) (Or.inl ⟨by rfl, fun w1 hS => ?_⟩) ?_
    · (try dsimp only at hS)
      go_simp
    simp only [Act.put, List.setIfInBounds_toArray, List.set_cons_zero, List.set_cons_succ]
    refine wpG_take (i := 1) 5 (v := .slice aq qu.length cq) rfl (by kernel_rfl) (by kernel_rfl) (by kernel_rfl) (by decide) (by kernel_rfl) (by kernel_rfl) (fun _ _ _ h => h) (Or.inl ⟨by rfl, fun w1 hS => ?_⟩) ?_
    · (try dsimp only at hS)
      go_simp
    simp only [Act.put, List.setIfInBounds_toArray, List.set_cons_zero, List.set_cons_succ]
    refine wpG_take (i := 3) 5 (v := .pointer (some ⟨w.heap.size + 1, 4, none⟩)) rfl (by kernel_rfl) (by kernel_rfl) (by kernel_rfl) (by decide) (by kernel_rfl) (by kernel_rfl) (fun _ _ _ h => h) (Or.inl ⟨by rfl, fun w1 hS => ?_⟩) ?_
    · (try dsimp only at hS)
      go_simp
    simp only [Act.put, List.setIfInBounds_toArray, List.set_cons_zero, List.set_cons_succ]
    refine wpG_take (i := 4) 5 (v := .slice ah hd.length ch) rfl (by kernel_rfl) (by kernel_rfl) (by kernel_rfl) (by decide) (by kernel_rfl) (by kernel_rfl) (fun _ _ _ h => h) (Or.inl ⟨by rfl, fun w1 hS => ?_⟩) ?_
    · (try dsimp only at hS)
      go_simp
    simp only [Act.put, List.setIfInBounds_toArray, List.set_cons_zero, List.set_cons_succ]
    clear m3 m4
    refine wpG_ready (rs := [2]) (by kernel_rfl) (by simp) (fun W2 hG2 hS2 i hi => ?_)
    obtain rfl : i = 2 := by simpa using hi
    clear hi
    refine wpOp_step rfl (by rfl) (fun K' hK' => ?_)
    replace hK' := hide hK'
    go_simp
    refine (CQ _ hS2).out.mono ?_
    rintro e x2 ⟨u2, rfl, ⟨d2, r2⟩, hb2⟩
    have B2 := hS2.trans (hb2.mono hS2.size)
    obtain ⟨aa, ac, hu2⟩ := row_form r2
    subst hu2
    go_wp2_with fail
    refine hK'.out _ _ (wpG_kept (by decide) B2 ?_)
    clear hK' K' hG2 hS2 hb2
    refine wpG_take (i := 6) 5 (v := .pointer (some ⟨w.heap.size + 1, 3, none⟩)) rfl (by kernel_rfl) (by kernel_rfl) (by kernel_rfl) (by decide) (by kernel_rfl) (by kernel_rfl) (fun _ _ _ h => h) (Or.inl ⟨by rfl, fun w1 hS => ?_⟩) ?_
    · (try dsimp only at hS)
      go_simp
    simp only [Act.put, List.setIfInBounds_toArray, List.set_cons_zero, List.set_cons_succ]
    refine wpG_ready (rs := [5]) (by kernel_rfl) (by simp) (fun W5 hG5 hS5 i hi => ?_)
    obtain rfl : i = 5 := by simpa using hi
    clear hi
    refine wpOp_step rfl (by rfl) (fun K' hK' => ?_)
    replace hK' := hide hK'
    go_simp
    refine (CH _ hS5).out.mono ?_
    rintro e x5 ⟨u5, rfl, ⟨d5, r5⟩, hb5⟩
    have B5 := hS5.trans (hb5.mono hS5.size)
    obtain ⟨ba, bc, hu5⟩ := row_form r5
    subst hu5
    go_wp2_with fail
    refine hK'.out _ _ (wpG_kept (by decide) B5 ?_)
    replace r2 := ownsRow_below (ownsRow_below r2 hG5) hb5
    clear hK' K' hG5 hS5 hb5
    refine wpG_ready (rs := [7]) (by kernel_rfl) (by simp) (fun W hG hS i hi => ?_)
    obtain rfl : i = 7 := by simpa using hi
    clear hi
    obtain ⟨k0, k1, k2⟩ := HBH.out W hS
    replace r2 := ownsRow_below r2 hG
    replace r5 := ownsRow_below r5 hG
    have BZ := bb2 B4 hS
    have x3 := cellN k1 (i := 3) rfl
    have lv := liveN k1
    refine wpOp_step rfl (by rfl) (fun K' hK' => ?_)
    go_simp
    refine hK' _ _ (wpG_past (by decide) ?_)
    clear hK' K' x3 lv hG hS HBH CQ CH
    have k1' := set_blk (i := 3) (.slice aa qu.length ac) k1
    have x4 := cellN k1' (i := 4) rfl
    have lv := liveN k1'
    refine wpAny_one (i := 8) (by kernel_rfl) ?_
    refine wpOp_step rfl (by rfl) (fun K' hK' => ?_)
    go_simp
    refine hK' _ _ ?_
    clear hK' K'
    refine wpAny_one (i := 9) (by kernel_rfl) ?_
    refine wpOp_step rfl (by rfl) (fun K' hK' => ?_)
    go_simp
    refine hK' _ _ ?_
    clear hK' K' x4 lv
    refine wpAny_end (by kernel_rfl) ?_
    have k1f := set_blk (i := 4) (.slice ba hd.length bc) k1'
    have OWN : RV.own ⟨⟨rm, rho, rp, qu, hd⟩, aa, ac, ba, bc⟩ (setL W (w.heap.size + 1) 3 [.slice aa qu.length ac, .slice ba hd.length bc]) := ⟨⟨_, row_setL r2 k1 (by decide)⟩, _, row_setL r5 k1 (by decide)⟩
    have k0f := (setL_far (g := w.heap.size + 1) (m := w.heap.size) (by omega) [.slice aa qu.length ac, .slice ba hd.length bc] W 3).trans k0
    have k2f := (setL_far (g := w.heap.size + 1) (m := w.heap.size + 1 + 1) (by omega) [.slice aa qu.length ac, .slice ba hd.length bc] W 3).trans k2
    have BF := setL_below (w := w) (B := w.heap.size) (g := w.heap.size + 1) (by omega) [.slice aa qu.length ac, .slice ba hd.length bc] W 3 BZ
    change (setL W (w.heap.size + 1) 3 [.slice aa qu.length ac, .slice ba hd.length bc]).heap[_]? = _ at k1f
    change Exit.then _ _ _ _ (setL W (w.heap.size + 1) 3 [.slice aa qu.length ac, .slice ba hd.length bc])
    generalize setL W (w.heap.size + 1) 3 [.slice aa qu.length ac, .slice ba hd.length bc] = V at *
    clear k0 k1 k1' k2 r2 r5 BZ B4 B3 B2 B5
    obtain ⟨M, hMe⟩ : ∃ z, z = V.heap.size := ⟨_, rfl⟩
    have I0 : DoInv w pk pv M ⟨⟨rm, rho, rp, qu, hd⟩, aa, ac, ba, bc⟩ (V.alloc (.map deedEs 5)) := by
      have ba := (Below.refl _ V).alloc (Nat.le_refl _) (.map deedEs 5)
      exact ⟨OWN.below ba, blk_below k0f ba, blk_below k1f ba, blk_below k2f ba, by rw [hMe]; exact alloc_new _ _, bb2 BF ba⟩
    have hM : w.heap.size + 1 + 1 < M := by rw [hMe]; exact lt_blk k2f
    have HI0 := hide I0
    clear I0 OWN k0f k1f k2f BF
    go_wp2_with fail
    refine (deeds_any V).mono ?_
    rintro e w3 ⟨rfl, hw3⟩
    rw [hw3, ← hMe]
    clear hw3 hMe
    go_wp2_with fail
    go_loopw [30] (fun i wr => ∃ k : Nat, k ≤ l.length ∧ i = .int .i64 k ∧ ∃ y : RV, Hid (runF pk pv (l.take k) ⟨rm, rho, rp, qu, hd⟩ = .ok y.r ∧ StOk y.r k) ∧ DoInv w pk pv M y wr) (fun i _ => l.length - (intOf i).toNat)
    case atStart => exact ⟨0, Nat.zero_le _, rfl, _, ⟨rfl, ⟨by omega, HOKR.out.head, HOKR.out.path⟩⟩, HI0.out⟩
    case round =>
      obtain ⟨k, hk, rfl, y, HRUN, hI⟩ := hrel
      have hall := (Bool.and_eq_true _ _ ▸ HFIT.out : allF l = true ∧ _).1
      have h8 := (allF_iff.1 hall).1
      have HM := hide hall
      clear hall
      by_cases hlt : k < l.length
      · have hlt' : (k : Int) < (l.length : Int) := by omega
        obtain ⟨_, gg, off, rfl, hgg, hat⟩ := HC.out k hlt
        obtain ⟨c0, c1, c2, c3, c4, c5, c6, c7⟩ := EF_at (show EF.At wr gg (off + k * 8) l[k] from fun j u hu => (hI.below.cell (p := ⟨gg, off + k * 8 + j, none⟩) hgg).trans (hat j u hu))
        clear hat
        have okk := HOK.out l[k] (List.getElem_mem hlt)
        have hkind := may_kind (may_one HM.out (List.getElem_mem hlt))
        have hMl : M < wr.heap.size := lt_blk hI.map
        have HFK : Hid (l[k] = l[k]) := rfl
        generalize hfk : l[k] = fk at *
        replace HFK := hide hfk
        clear hfk
        obtain ⟨k0, n0, v0, h0, p0, t0, b0, z0⟩ := fk
        dsimp only at c0 c1 c2 c3 c4 c5 c6 c7 hkind
        have B1 : Below wr.heap.size wr (wr.alloc (.cells #[.int .i64 k0, .string n0, .string v0, .string h0, .int .i64 p0, .string t0, .bool b0, .int .i64 z0] 36)) := (Below.refl _ wr).alloc (Nat.le_refl _) _
        have hp := blk_below hI.pth B1
        have hq := blk_below hI.req B1
        have p0' := cellN hp (i := 0) rfl
        have p1' := cellN hp (i := 1) rfl
        obtain ⟨q0, q1, q2, q3, q4⟩ : _ ∧ _ ∧ _ ∧ _ ∧ _ := ⟨cellN hq (i := 0) rfl, cellN hq (i := 1) rfl, cellN hq (i := 2) rfl, cellN hq (i := 3) rfl, cellN hq (i := 4) rfl⟩
        clear hp hq
        rcases hkind with hkind | hkind | hkind | hkind | hkind
        · obtain rfl : k0 = 1 := hkind
          have HL := (deeds_look (W := wr.alloc (.cells #[.int .i64 1, .string n0, .string v0, .string h0, .int .i64 p0, .string t0, .bool b0, .int .i64 z0] 36)) (m := M) ((Below.heap_alloc _ _ _ hMl).trans hI.map)).1
          have ent : ∀ (args : Array Value) (w : World), (callFunc 23 args).run Tryd.prog w = .ok (.enter 23 args) w := fun args w => enter_any Tryd.func23 (by kernel_rfl) rfl args w
          have C2 := hide (set_deed ⟨1, n0, v0, h0, p0, t0, b0, z0⟩ pk pv y (wr.alloc (.cells #[.int .i64 1, .string n0, .string v0, .string h0, .int .i64 p0, .string t0, .bool b0, .int .i64 z0] 36)) okk (hI.own.below B1) (fun p hp => okF_okP HRUN.out.2.head p hp) (by have := HRUN.out.2.len; omega))
          go_wp2_with fail
          refine C2.out.mono ?_
          rintro e w2 ⟨y2, rfl, hy2, own2, hb2⟩
          have HSt : Hid (stepF pk pv y.r (⟨1, n0, v0, h0, p0, t0, b0, z0⟩) = .ok y2.r) := by
            unfold Hid
            rw [hy2]
            rfl
          have HI2 := hide (hI.next (o' := (.cells #[.string y2.r.meth, .string y2.r.host, .string y2.r.path, .slice y2.aq y2.r.query.length y2.cq, .slice y2.ah y2.r.head.length y2.ch] 27)) hM hb2 own2)
          have hr := blk_below hI.req (bb2 (below_box hb2) ((Below.refl _ w2).alloc (Nat.le_refl _) (.cells #[.string y2.r.meth, .string y2.r.host, .string y2.r.path, .slice y2.aq y2.r.query.length y2.cq, .slice y2.ah y2.r.head.length y2.ch] 27)))
          have lr := liveN hr
          obtain ⟨s0, s1, s2, s3, s4⟩ : _ ∧ _ ∧ _ ∧ _ ∧ _ := ⟨cellN hr (i := 0) rfl, cellN hr (i := 1) rfl, cellN hr (i := 2) rfl, cellN hr (i := 3) rfl, cellN hr (i := 4) rfl⟩
          clear hr hy2 own2
          go_wp2_with fail
          exact ⟨⟨k + 1, by omega, by go_num, y2, ⟨by rw [run_take hlt, HRUN.out.1, HFK.out]; exact HSt.out, step_ok okk HRUN.out.2 HSt.out⟩, HI2.out⟩, by simp [intOf]; omega⟩
        · obtain rfl : k0 = 2 := hkind
          have HL := (deeds_look (W := wr.alloc (.cells #[.int .i64 2, .string n0, .string v0, .string h0, .int .i64 p0, .string t0, .bool b0, .int .i64 z0] 36)) (m := M) ((Below.heap_alloc _ _ _ hMl).trans hI.map)).2.1
          have ent : ∀ (args : Array Value) (w : World), (callFunc 24 args).run Tryd.prog w = .ok (.enter 24 args) w := fun args w => enter_any Tryd.func24 (by kernel_rfl) rfl args w
          have C2 := hide (add_deed ⟨2, n0, v0, h0, p0, t0, b0, z0⟩ pk pv y (wr.alloc (.cells #[.int .i64 2, .string n0, .string v0, .string h0, .int .i64 p0, .string t0, .bool b0, .int .i64 z0] 36)) okk (hI.own.below B1) (fun p hp => okF_okP HRUN.out.2.head p hp) (by have := HRUN.out.2.len; omega))
          go_wp2_with fail
          refine C2.out.mono ?_
          rintro e w2 ⟨y2, rfl, hy2, own2, hb2⟩
          have HSt : Hid (stepF pk pv y.r (⟨2, n0, v0, h0, p0, t0, b0, z0⟩) = .ok y2.r) := by
            unfold Hid
            rw [hy2]
            rfl
          have HI2 := hide (hI.next (o' := (.cells #[.string y2.r.meth, .string y2.r.host, .string y2.r.path, .slice y2.aq y2.r.query.length y2.cq, .slice y2.ah y2.r.head.length y2.ch] 27)) hM hb2 own2)
          have hr := blk_below hI.req (bb2 (below_box hb2) ((Below.refl _ w2).alloc (Nat.le_refl _) (.cells #[.string y2.r.meth, .string y2.r.host, .string y2.r.path, .slice y2.aq y2.r.query.length y2.cq, .slice y2.ah y2.r.head.length y2.ch] 27)))
          have lr := liveN hr
          obtain ⟨s0, s1, s2, s3, s4⟩ : _ ∧ _ ∧ _ ∧ _ ∧ _ := ⟨cellN hr (i := 0) rfl, cellN hr (i := 1) rfl, cellN hr (i := 2) rfl, cellN hr (i := 3) rfl, cellN hr (i := 4) rfl⟩
          clear hr hy2 own2
          go_wp2_with fail
          exact ⟨⟨k + 1, by omega, by go_num, y2, ⟨by rw [run_take hlt, HRUN.out.1, HFK.out]; exact HSt.out, step_ok okk HRUN.out.2 HSt.out⟩, HI2.out⟩, by simp [intOf]; omega⟩
        · obtain rfl : k0 = 3 := hkind
          have HL := (deeds_look (W := wr.alloc (.cells #[.int .i64 3, .string n0, .string v0, .string h0, .int .i64 p0, .string t0, .bool b0, .int .i64 z0] 36)) (m := M) ((Below.heap_alloc _ _ _ hMl).trans hI.map)).2.2.1
          have ent : ∀ (args : Array Value) (w : World), (callFunc 25 args).run Tryd.prog w = .ok (.enter 25 args) w := fun args w => enter_any Tryd.func25 (by kernel_rfl) rfl args w
          have C2 := hide (drop_deed ⟨3, n0, v0, h0, p0, t0, b0, z0⟩ pk pv y (wr.alloc (.cells #[.int .i64 3, .string n0, .string v0, .string h0, .int .i64 p0, .string t0, .bool b0, .int .i64 z0] 36)) okk (hI.own.below B1) (fun p hp => okF_okP HRUN.out.2.head p hp) (by have := HRUN.out.2.len; omega))
          go_wp2_with fail
          refine C2.out.mono ?_
          rintro e w2 ⟨y2, rfl, hy2, own2, hb2⟩
          have HSt : Hid (stepF pk pv y.r (⟨3, n0, v0, h0, p0, t0, b0, z0⟩) = .ok y2.r) := by
            unfold Hid
            rw [hy2]
            rfl
          have HI2 := hide (hI.next (o' := (.cells #[.string y2.r.meth, .string y2.r.host, .string y2.r.path, .slice y2.aq y2.r.query.length y2.cq, .slice y2.ah y2.r.head.length y2.ch] 27)) hM hb2 own2)
          have hr := blk_below hI.req (bb2 (below_box hb2) ((Below.refl _ w2).alloc (Nat.le_refl _) (.cells #[.string y2.r.meth, .string y2.r.host, .string y2.r.path, .slice y2.aq y2.r.query.length y2.cq, .slice y2.ah y2.r.head.length y2.ch] 27)))
          have lr := liveN hr
          obtain ⟨s0, s1, s2, s3, s4⟩ : _ ∧ _ ∧ _ ∧ _ ∧ _ := ⟨cellN hr (i := 0) rfl, cellN hr (i := 1) rfl, cellN hr (i := 2) rfl, cellN hr (i := 3) rfl, cellN hr (i := 4) rfl⟩
          clear hr hy2 own2
          go_wp2_with fail
          exact ⟨⟨k + 1, by omega, by go_num, y2, ⟨by rw [run_take hlt, HRUN.out.1, HFK.out]; exact HSt.out, step_ok okk HRUN.out.2 HSt.out⟩, HI2.out⟩, by simp [intOf]; omega⟩
        · obtain rfl : k0 = 4 := hkind
          have HL := (deeds_look (W := wr.alloc (.cells #[.int .i64 4, .string n0, .string v0, .string h0, .int .i64 p0, .string t0, .bool b0, .int .i64 z0] 36)) (m := M) ((Below.heap_alloc _ _ _ hMl).trans hI.map)).2.2.2.1
          have ent : ∀ (args : Array Value) (w : World), (callFunc 26 args).run Tryd.prog w = .ok (.enter 26 args) w := fun args w => enter_any Tryd.func26 (by kernel_rfl) rfl args w
          have C2 := hide (keep_deed ⟨4, n0, v0, h0, p0, t0, b0, z0⟩ pk pv y (wr.alloc (.cells #[.int .i64 4, .string n0, .string v0, .string h0, .int .i64 p0, .string t0, .bool b0, .int .i64 z0] 36)) (hI.own.below B1))
          go_wp2_with fail
          refine C2.out.mono ?_
          rintro e w2 ⟨y2, rfl, hy2, own2, hb2⟩
          have HSt : Hid (stepF pk pv y.r (⟨4, n0, v0, h0, p0, t0, b0, z0⟩) = .ok y2.r) := by
            unfold Hid
            rw [hy2]
            rfl
          have HI2 := hide (hI.next (o' := (.cells #[.string y2.r.meth, .string y2.r.host, .string y2.r.path, .slice y2.aq y2.r.query.length y2.cq, .slice y2.ah y2.r.head.length y2.ch] 27)) hM hb2 own2)
          have hr := blk_below hI.req (bb2 (below_box hb2) ((Below.refl _ w2).alloc (Nat.le_refl _) (.cells #[.string y2.r.meth, .string y2.r.host, .string y2.r.path, .slice y2.aq y2.r.query.length y2.cq, .slice y2.ah y2.r.head.length y2.ch] 27)))
          have lr := liveN hr
          obtain ⟨s0, s1, s2, s3, s4⟩ : _ ∧ _ ∧ _ ∧ _ ∧ _ := ⟨cellN hr (i := 0) rfl, cellN hr (i := 1) rfl, cellN hr (i := 2) rfl, cellN hr (i := 3) rfl, cellN hr (i := 4) rfl⟩
          clear hr hy2 own2
          go_wp2_with fail
          exact ⟨⟨k + 1, by omega, by go_num, y2, ⟨by rw [run_take hlt, HRUN.out.1, HFK.out]; exact HSt.out, step_ok okk HRUN.out.2 HSt.out⟩, HI2.out⟩, by simp [intOf]; omega⟩
        · obtain rfl : k0 = 5 := hkind
          have HL := (deeds_look (W := wr.alloc (.cells #[.int .i64 5, .string n0, .string v0, .string h0, .int .i64 p0, .string t0, .bool b0, .int .i64 z0] 36)) (m := M) ((Below.heap_alloc _ _ _ hMl).trans hI.map)).2.2.2.2
          have ent : ∀ (args : Array Value) (w : World), (callFunc 27 args).run Tryd.prog w = .ok (.enter 27 args) w := fun args w => enter_any Tryd.func27 (by kernel_rfl) rfl args w
          have C2 := hide (swap_deed ⟨5, n0, v0, h0, p0, t0, b0, z0⟩ pk pv y (wr.alloc (.cells #[.int .i64 5, .string n0, .string v0, .string h0, .int .i64 p0, .string t0, .bool b0, .int .i64 z0] 36)) okk (small_len (by omega)) (small_len (by have := HRUN.out.2.path; omega)) (hI.own.below B1))
          go_wp2_with fail
          refine C2.out.mono ?_
          rintro e w2 ⟨y2, rfl, hy2, own2, hb2⟩
          have HBE : Hid (stepF pk pv y.r ⟨5, n0, v0, h0, p0, t0, b0, z0⟩ = if becE ⟨5, n0, v0, h0, p0, t0, b0, z0⟩ pk pv y.r.path = 0 then .ok { y.r with host := hostOf ⟨5, n0, v0, h0, p0, t0, b0, z0⟩ y.r.host, path := becT ⟨5, n0, v0, h0, p0, t0, b0, z0⟩ pk pv y.r.path } else .error (becE ⟨5, n0, v0, h0, p0, t0, b0, z0⟩ pk pv y.r.path)) := rfl
          generalize becE ⟨5, n0, v0, h0, p0, t0, b0, z0⟩ pk pv y.r.path = be at *
          by_cases he : be = 0
          · rw [if_pos he] at hy2
            subst he
            have HSt : Hid (stepF pk pv y.r (⟨5, n0, v0, h0, p0, t0, b0, z0⟩) = .ok y2.r) := by
              unfold Hid
              rw [hy2]
              exact HBE.out.trans (if_pos rfl)
            have HI2 := hide (hI.next (o' := (.cells #[.string y2.r.meth, .string y2.r.host, .string y2.r.path, .slice y2.aq y2.r.query.length y2.cq, .slice y2.ah y2.r.head.length y2.ch] 27)) hM hb2 own2)
            have hr := blk_below hI.req (bb2 (below_box hb2) ((Below.refl _ w2).alloc (Nat.le_refl _) (.cells #[.string y2.r.meth, .string y2.r.host, .string y2.r.path, .slice y2.aq y2.r.query.length y2.cq, .slice y2.ah y2.r.head.length y2.ch] 27)))
            have lr := liveN hr
            obtain ⟨s0, s1, s2, s3, s4⟩ : _ ∧ _ ∧ _ ∧ _ ∧ _ := ⟨cellN hr (i := 0) rfl, cellN hr (i := 1) rfl, cellN hr (i := 2) rfl, cellN hr (i := 3) rfl, cellN hr (i := 4) rfl⟩
            clear hr hy2 own2
            go_wp2_with fail
            exact ⟨⟨k + 1, by omega, by go_num, y2, ⟨by rw [run_take hlt, HRUN.out.1, HFK.out]; exact HSt.out, step_ok okk HRUN.out.2 HSt.out⟩, HI2.out⟩, by simp [intOf]; omega⟩
          · have he' : (be != 0) = true := by simpa using he
            have HR : Hid (doF l pk pv ⟨rm, rho, rp, qu, hd⟩ = (zeroR, be)) := by
              have h1 : runF pk pv (l.take (k + 1)) ⟨rm, rho, rp, qu, hd⟩ = .error be := by
                rw [run_take hlt, HRUN.out.1, HFK.out]
                show stepF pk pv y.r ⟨5, n0, v0, h0, p0, t0, b0, z0⟩ = _
                rw [HBE.out, if_neg he]
              show doF _ _ _ _ = _
              unfold doF
              rw [if_pos HFIT.out, run_stop h1]
            rw [if_neg he] at hy2
            have b1 := bb2 (below_box hb2) ((Below.refl _ w2).alloc (Nat.le_refl _) (.cells #[.string y2.r.meth, .string y2.r.host, .string y2.r.path, .slice y2.aq y2.r.query.length y2.cq, .slice y2.ah y2.r.head.length y2.ch] 27))
            have HZ := hide (blk_below hI.res b1)
            have BB := hide (bb2 hI.below b1)
            have lz := liveN HZ.out
            obtain ⟨z0, z1, z2, z3, z4⟩ : _ ∧ _ ∧ _ ∧ _ ∧ _ := ⟨cellN HZ.out (i := 0) rfl, cellN HZ.out (i := 1) rfl, cellN HZ.out (i := 2) rfl, cellN HZ.out (i := 3) rfl, cellN HZ.out (i := 4) rfl⟩
            clear hy2 own2
            go_wp2_with fail
            have S1 := setL_below (w := w) (B := w.heap.size) (g := w.heap.size + 1 + 1) (by omega) [.string ⟨#[]⟩, .string ⟨#[]⟩, .string ⟨#[]⟩, .slice none 0 0, .slice none 0 0] _ 0 BB.out
            have K4 := setL_all [.string ⟨#[]⟩, .string ⟨#[]⟩, .string ⟨#[]⟩, .slice none 0 0, .slice none 0 0] HZ.out rfl
            change bodyPost _ _ _ _ _ (setL (w2.alloc (.cells #[.string y2.r.meth, .string y2.r.host, .string y2.r.path, .slice y2.aq y2.r.query.length y2.cq, .slice y2.ah y2.r.head.length y2.ch] 27)) (w.heap.size + 1 + 1) 0 [.string ⟨#[]⟩, .string ⟨#[]⟩, .string ⟨#[]⟩, .slice none 0 0, .slice none 0 0])
            generalize setL (w2.alloc (.cells #[.string y2.r.meth, .string y2.r.host, .string y2.r.path, .slice y2.aq y2.r.query.length y2.cq, .slice y2.ah y2.r.head.length y2.ch] 27)) (w.heap.size + 1 + 1) 0 [.string ⟨#[]⟩, .string ⟨#[]⟩, .string ⟨#[]⟩, .slice none 0 0, .slice none 0 0] = W9 at *
            obtain ⟨e0, e1, e2, e3, e4⟩ : _ ∧ _ ∧ _ ∧ _ ∧ _ := ⟨cellN K4 (i := 0) rfl, cellN K4 (i := 1) rfl, cellN K4 (i := 2) rfl, cellN K4 (i := 3) rfl, cellN K4 (i := 4) rfl⟩
            exact bodyPost_ret (v := .tuple #[.agg #[.string ⟨#[]⟩, .string ⟨#[]⟩, .string ⟨#[]⟩, .slice none 0 0, .slice none 0 0], .int .i64 be]) (by simp [results, Tryd.f5, go_sem, e0, e1, e2, e3, e4]) rfl ⟨zeroRV, by rw [HR.out]; rfl, by rw [HR.out]; rfl, zeroRV_own _, S1⟩
      · have hlt' : ¬ (k : Int) < (l.length : Int) := by omega
        have HRE : Hid (runF pk pv l ⟨rm, rho, rp, qu, hd⟩ = .ok y.r) := by
          have := HRUN.out.1
          rwa [List.take_of_length_le (by omega)] at this
        have HDO : Hid (doF l pk pv ⟨rm, rho, rp, qu, hd⟩ = if 30 < y.r.head.length then (zeroR, 5) else (y.r, 0)) := by
          show doF _ _ _ _ = _
          unfold doF
          rw [if_pos HFIT.out, HRE.out]
        have q4 := cellN hI.req (i := 4) rfl
        have HZ := hide hI.res
        have BB := hide hI.below
        have lz := liveN HZ.out
        obtain ⟨z0, z1, z2, z3, z4⟩ : _ ∧ _ ∧ _ ∧ _ ∧ _ := ⟨cellN HZ.out (i := 0) rfl, cellN HZ.out (i := 1) rfl, cellN HZ.out (i := 2) rfl, cellN HZ.out (i := 3) rfl, cellN HZ.out (i := 4) rfl⟩
        by_cases h30 : 30 < y.r.head.length
        · have h30' : (30 : Int) < (y.r.head.length : Int) := by omega
          have HR : Hid (doF l pk pv ⟨rm, rho, rp, qu, hd⟩ = (zeroR, 5)) := by
            show _ = _
            rw [HDO.out, if_pos h30]
          go_wp2_with fail
          have S1 := setL_below (w := w) (B := w.heap.size) (g := w.heap.size + 1 + 1) (by omega) [.string ⟨#[]⟩, .string ⟨#[]⟩, .string ⟨#[]⟩, .slice none 0 0, .slice none 0 0] _ 0 BB.out
          have K4 := setL_all [.string ⟨#[]⟩, .string ⟨#[]⟩, .string ⟨#[]⟩, .slice none 0 0, .slice none 0 0] HZ.out rfl
          change bodyPost _ _ _ _ _ (setL wr (w.heap.size + 1 + 1) 0 [.string ⟨#[]⟩, .string ⟨#[]⟩, .string ⟨#[]⟩, .slice none 0 0, .slice none 0 0])
          generalize setL wr (w.heap.size + 1 + 1) 0 [.string ⟨#[]⟩, .string ⟨#[]⟩, .string ⟨#[]⟩, .slice none 0 0, .slice none 0 0] = W9 at *
          obtain ⟨e0, e1, e2, e3, e4⟩ : _ ∧ _ ∧ _ ∧ _ ∧ _ := ⟨cellN K4 (i := 0) rfl, cellN K4 (i := 1) rfl, cellN K4 (i := 2) rfl, cellN K4 (i := 3) rfl, cellN K4 (i := 4) rfl⟩
          exact bodyPost_ret (v := .tuple #[.agg #[.string ⟨#[]⟩, .string ⟨#[]⟩, .string ⟨#[]⟩, .slice none 0 0, .slice none 0 0], .int .i64 5]) (by simp [results, Tryd.f5, go_sem, e0, e1, e2, e3, e4]) rfl ⟨zeroRV, by rw [HR.out]; rfl, by rw [HR.out]; rfl, zeroRV_own _, S1⟩
        · have h30' : ¬ (30 : Int) < (y.r.head.length : Int) := by omega
          have HR : Hid (doF l pk pv ⟨rm, rho, rp, qu, hd⟩ = (y.r, 0)) := by
            show _ = _
            rw [HDO.out, if_neg h30]
          obtain ⟨q0, q1, q2, q3⟩ : _ ∧ _ ∧ _ ∧ _ := ⟨cellN hI.req (i := 0) rfl, cellN hI.req (i := 1) rfl, cellN hI.req (i := 2) rfl, cellN hI.req (i := 3) rfl⟩
          go_wp2_with fail
          have S1 := setL_below (w := w) (B := w.heap.size) (g := w.heap.size + 1 + 1) (by omega) [.string y.r.meth, .string y.r.host, .string y.r.path, .slice y.aq y.r.query.length y.cq, .slice y.ah y.r.head.length y.ch] _ 0 BB.out
          have K4 := setL_all [.string y.r.meth, .string y.r.host, .string y.r.path, .slice y.aq y.r.query.length y.cq, .slice y.ah y.r.head.length y.ch] HZ.out rfl
          have O1 := hI.own.setL (k := 0) (cs := [.string y.r.meth, .string y.r.host, .string y.r.path, .slice y.aq y.r.query.length y.cq, .slice y.ah y.r.head.length y.ch]) HZ.out (by decide)
          change bodyPost _ _ _ _ _ (setL wr (w.heap.size + 1 + 1) 0 [.string y.r.meth, .string y.r.host, .string y.r.path, .slice y.aq y.r.query.length y.cq, .slice y.ah y.r.head.length y.ch])
          generalize setL wr (w.heap.size + 1 + 1) 0 [.string y.r.meth, .string y.r.host, .string y.r.path, .slice y.aq y.r.query.length y.cq, .slice y.ah y.r.head.length y.ch] = W9 at *
          obtain ⟨e0, e1, e2, e3, e4⟩ : _ ∧ _ ∧ _ ∧ _ ∧ _ := ⟨cellN K4 (i := 0) rfl, cellN K4 (i := 1) rfl, cellN K4 (i := 2) rfl, cellN K4 (i := 3) rfl, cellN K4 (i := 4) rfl⟩
          exact bodyPost_ret (v := .tuple #[.agg #[.string y.r.meth, .string y.r.host, .string y.r.path, .slice y.aq y.r.query.length y.cq, .slice y.ah y.r.head.length y.ch], .int .i64 0]) (by simp [results, Tryd.f5, go_sem, e0, e1, e2, e3, e4]) rfl ⟨y, by rw [HR.out], by rw [HR.out], O1, S1⟩

end Go.Proofs.YtejmcemgjpcobaaDoor
