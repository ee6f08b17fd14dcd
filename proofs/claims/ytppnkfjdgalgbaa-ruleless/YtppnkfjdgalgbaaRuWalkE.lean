/-
  Walks: slices.Equal at pairs, rule's Same; rule's First.
-/
import Derived.Test.YtppnkfjdgalgbaaRuWalkD
namespace Go.Proofs.Ytppnkfjdgalgbaa
open Go Go.RowKit Go.Shelf

attribute [local go_sem] gb_const

set_option maxHeartbeats 400000 in
theorem equal_len (w : World) (va vb : Value) (xs ys : List PairB) (ha : Prs w va xs) (hb : Prs w vb ys) (hne : xs.length ≠ ys.length) :
    Calls Try.prog 45 #[va, vb] w fun e w' => e = .returned (.bool (decide (xs = ys))) ∧ Below w.heap.size w w' := by
  obtain ⟨a, ca, rfl, _, _, hca⟩ := ha
  obtain ⟨b, cb, rfl, _, _, hcb⟩ := hb
  have hd : Hid (decide (xs = ys) = false) := decide_eq_false (fun e => hne (by rw [e]))
  have hx : ((xs.length : Int) != (ys.length : Int)) = true := by rw [bne_iff_ne]; omega
  clear hca hcb
  go_enter Try.func45, Try.ntmps45
  go_wp2_with fail
  go_ret
  exact ⟨ret_bool hd.out.symm, Below.refl _ _⟩

set_option maxHeartbeats 800000 in
theorem equal_any (w : World) (va vb : Value) (xs ys : List PairB) (ha : Prs w va xs) (hb : Prs w vb ys) :
    Calls Try.prog 45 #[va, vb] w fun e w' => e = .returned (.bool (decide (xs = ys))) ∧ Below w.heap.size w w' := by
  by_cases hnn : ¬ xs.length = ys.length
  · exact equal_len w va vb xs ys ha hb hnn
  have hne : xs.length = ys.length := Classical.not_not.1 hnn
  clear hnn
  have hl := ha.len
  obtain ⟨a, ca, rfl, _, _, hca⟩ := ha
  obtain ⟨b, cb, rfl, _, _, hcb⟩ := hb
  have HCA := hide hca
  have HCB := hide hcb
  clear hca hcb
  have HN := hide hne
  have hx : ((xs.length : Int) != (ys.length : Int)) = false := by rw [bne_eq_false_iff_eq]; omega
  clear hne
  go_enter Try.func45, Try.ntmps45
  go_wp2_with fail
  go_loopw [13] (fun i wr => ∃ k : Nat, k ≤ xs.length ∧ i = .int .i64 k ∧ Hid (xs.take k = ys.take k) ∧ Below w.heap.size w wr) (fun i _ => xs.length - (intOf i).toNat)
  case atStart => exact ⟨0, Nat.zero_le _, rfl, rfl, Below.refl _ _⟩
  case round =>
    obtain ⟨k, hk, rfl, htk, hB⟩ := hrel
    by_cases hlt : k < xs.length
    · have hlb : k < ys.length := by rw [← HN.out]; exact hlt
      obtain ⟨ga, oa, rfl, hga, a1, a2⟩ := HCA.out k hlt
      obtain ⟨gb, ob, rfl, hgb, b1, b2⟩ := HCB.out k hlb
      replace a1 := (hB.cell (p := ⟨ga, oa + k * 2, none⟩) hga).trans a1
      replace a2 := (hB.cell (p := ⟨ga, oa + k * 2 + 1, none⟩) hga).trans a2
      replace b1 := (hB.cell (p := ⟨gb, ob + k * 2, none⟩) hgb).trans b1
      replace b2 := (hB.cell (p := ⟨gb, ob + k * 2 + 1, none⟩) hgb).trans b2
      have hlt' : (k : Int) < (xs.length : Int) := by omega
      have hlb' : (k : Int) < (ys.length : Int) := by omega
      have HX : Hid (xs[k] = (xs[k].1, xs[k].2)) := rfl
      have HY : Hid (ys[k] = (ys[k].1, ys[k].2)) := rfl
      have HEQ : Hid (∀ j (h1 : j < xs.length) (h2 : j < ys.length), xs = ys → xs[j] = ys[j]) := by
        intro j h1 h2 e; subst e; rfl
      generalize hx1 : xs[k].1 = x1 at *
      generalize hx2 : xs[k].2 = x2 at *
      generalize hy1 : ys[k].1 = y1 at *
      generalize hy2 : ys[k].2 = y2 at *
      cases hq1 : (x1.toList == y1.toList)
      · have hqe : Hid (decide (xs = ys) = false) := by
          apply decide_eq_false
          intro e
          have := HEQ.out k hlt hlb e
          rw [HX.out, HY.out] at this
          rw [(Prod.mk.inj this).1] at hq1
          simp at hq1
        go_wp2_with fail
        go_region
        go_wp2_with fail
        go_ret
        exact ⟨ret_bool hqe.out.symm, hB.drew⟩
      · cases hq2 : (x2.toList == y2.toList)
        · have hqe : Hid (decide (xs = ys) = false) := by
            apply decide_eq_false
            intro e
            have := HEQ.out k hlt hlb e
            rw [HX.out, HY.out] at this
            rw [(Prod.mk.inj this).2] at hq2
            simp at hq2
          go_wp2_with fail
          go_region
          go_wp2_with fail
          go_ret
          exact ⟨ret_bool hqe.out.symm, hB.drew⟩
        · have hqe : Hid (xs[k] = ys[k]) := by
            unfold Hid
            rw [HX.out, HY.out, bytes_eq hq1, bytes_eq hq2]
          go_wp2_with fail
          go_region
          go_wp2_with fail
          refine ⟨⟨k + 1, by omega, by go_num, ?_, hB.drew⟩, by simp [intOf]; omega⟩
          unfold Hid
          rw [List.take_succ_eq_append_getElem hlt, List.take_succ_eq_append_getElem hlb, htk.out, hqe.out]
    · have hqe : Hid (decide (xs = ys) = true) := by
        apply decide_eq_true
        have := htk.out
        rwa [List.take_of_length_le (by omega), List.take_of_length_le (by rw [← HN.out]; omega)] at this
      have hlt' : ¬ (k : Int) < (xs.length : Int) := by omega
      go_wp2_with fail
      go_ret
      exact ⟨ret_bool hqe.out.symm, hB⟩

/-- the same, part by part -/
def sameM (a b : MB) : Bool := (a.kind == b.kind && a.val.toList == b.val.toList) && ((a.meth.toList == b.meth.toList) && (decide (a.head = b.head) && decide (a.query = b.query)))
theorem sameM_refl (a : MB) : sameM a a = true := by simp [sameM]

set_option maxHeartbeats 1600000 in
theorem same_m (a b : MB) (va vb vc vd : Value) (w : World) (ha1 : Prs w va a.head) (ha2 : Prs w vb a.query) (hb1 : Prs w vc b.head) (hb2 : Prs w vd b.query) :
    Calls Try.prog 25 #[mV a va vb, mV b vc vd] w fun e w' => e = .returned (.bool (sameM a b)) ∧ Below w.heap.size w w' := by
  have HP : Hid (sameM a b = ((a.kind == b.kind && a.val.toList == b.val.toList) && ((a.meth.toList == b.meth.toList) && (decide (a.head = b.head) && decide (a.query = b.query))))) := rfl
  have C1 := fun W (h : Below w.heap.size w W) => hide (equal_any W va vc a.head b.head (ha1.below h) (hb1.below h))
  have C2 := fun W (h : Below w.heap.size w W) => hide (equal_any W vb vd a.query b.query (ha2.below h) (hb2.below h))
  clear ha1 ha2 hb1 hb2
  generalize sameM a b = z at *
  generalize decide (a.head = b.head) = x3 at *
  generalize decide (a.query = b.query) = x4 at *
  obtain ⟨k, v, t, hd, qu⟩ := a
  obtain ⟨k', v', t', hd', qu'⟩ := b
  dsimp only at *
  have m0 := fun q : GB ((w.alloc (.cells #[.int .i64 k, .string v, .string t, va, vb] 26)).alloc (.cells #[.int .i64 k', .string v', .string t', vc, vd] 26)) => (box55 q.h).1.2.2.2.1
  have m1 := fun q : GB ((w.alloc (.cells #[.int .i64 k, .string v, .string t, va, vb] 26)).alloc (.cells #[.int .i64 k', .string v', .string t', vc, vd] 26)) => (box55 q.h).1.2.2.2.2
  have n0 := fun q : GB ((w.alloc (.cells #[.int .i64 k, .string v, .string t, va, vb] 26)).alloc (.cells #[.int .i64 k', .string v', .string t', vc, vd] 26)) => (box55 q.h).2.2.2.2.1
  have n1 := fun q : GB ((w.alloc (.cells #[.int .i64 k, .string v, .string t, va, vb] 26)).alloc (.cells #[.int .i64 k', .string v', .string t', vc, vd] 26)) => (box55 q.h).2.2.2.2.2
  have B2 : Below w.heap.size w ((w.alloc (.cells #[.int .i64 k, .string v, .string t, va, vb] 26)).alloc (.cells #[.int .i64 k', .string v', .string t', vc, vd] 26)) := ((Below.refl _ _).alloc (Nat.le_refl _) _).alloc (by simp) _
  cases e0 : (k == k')
  · rw [e0] at HP
    go_enter Try.func25, Try.ntmps25
    go_wp2_with fail
    go_ret
    exact ⟨ret_bool HP.out.symm, B2⟩
  cases e1 : (v.toList == v'.toList)
  · rw [e0, e1] at HP
    go_enter Try.func25, Try.ntmps25
    go_wp2_with fail
    go_ret
    exact ⟨ret_bool HP.out.symm, B2⟩
  cases e2 : (t.toList == t'.toList)
  · rw [e0, e1, e2] at HP
    go_enter Try.func25, Try.ntmps25
    go_wp2_with fail
    go_ret
    exact ⟨ret_bool HP.out.symm, B2⟩
  rw [e0, e1, e2] at HP
  cases x3
  · go_enter Try.func25, Try.ntmps25
    go_wp2_with fail
    refine (calls_gb0 ((C1 _ B2).out)).mono ?_
    rintro e x ⟨rfl, q, rfl⟩
    go_wp2_with fail
    go_ret
    exact ⟨ret_bool HP.out.symm, below_2 q.h⟩
  · go_enter Try.func25, Try.ntmps25
    go_wp2_with fail
    refine (calls_gb0 ((C1 _ B2).out)).mono ?_
    rintro e x ⟨rfl, q, rfl⟩
    go_wp2_with fail
    refine (calls_gb ((C2 _ (below_2 q.h)).out)).mono ?_
    rintro e x ⟨rfl, q, rfl⟩
    go_wp2_with fail
    go_ret
    exact ⟨ret_bool HP.out.symm, below_2 q.h⟩

/-! ### First -/
def atI (o : Option (Nat × MB)) : Nat := match o with
  | none => 0
  | some p => p.1
theorem ret_first {i j : Nat} {a b : Bool} (h : i = j) (k : a = b) : Ending.returned (.tuple #[.int .i64 (i : Int), .bool a]) = .returned (.tuple #[.int .i64 (j : Int), .bool b]) := by rw [h, k]
abbrev bestToM (r : RB) (l : List MB) (k : Nat) : Option (Nat × MB) := Ru.bestTo (fun m => holdM m r) ahM l k

set_option maxHeartbeats 3200000 in
theorem first_m (v : Value) (L : List MV) (r : RB) (vr vs : Value) (w : World) (hv : Mts w v L) (ok : ∀ x ∈ L, OkM x.m) (hr : Prs w vr r.query) (hs : Prs w vs r.head) (okr : OkR r) :
    Calls Try.prog 21 #[v, rV r vr vs] w fun e w' => e = .returned (.tuple #[.int .i64 (atI (bestM r (L.map MV.m)) : Nat), .bool (bestM r (L.map MV.m)).isSome]) ∧ Below w.heap.size w w' := by
  have hlen := hv.len
  have CH := fun (x : MV) W (hx : x.at_ W) (okx : OkM x.m) (h : Below w.heap.size w W) => hide (holds_m x.m x.vh x.vq r vr vs W hx.1 hx.2 okx (hr.below h) (hs.below h) okr)
  have CO := fun (x y : MV) W (hx : x.at_ W) (hy : y.at_ W) (okx : OkM x.m) (oky : OkM y.m) => hide (rorder_m x.m y.m x.vh x.vq y.vh y.vq W hx.1 hx.2 hy.1 hy.2 okx.order oky.order)
  have HSPEC := hide (fun k (hk : k ≤ (L.map MV.m).length) => Ru.bestTo_spec (h := fun m => holdM m r) ahM_rank (L.map MV.m) k hk)
  have HSUCC := hide (fun k (hk : k < (L.map MV.m).length) => Ru.bestTo_succ (h := fun m => holdM m r) (ah := ahM) (L.map MV.m) k hk)
  have HALL := hide hv.all
  obtain ⟨a, cap, rfl, _, _, hc⟩ := hv
  have HC := hide hc
  have HOK := hide ok
  have HEND : Hid (bestM r (L.map MV.m) = bestToM r (L.map MV.m) L.length) := by unfold Hid bestM Ru.best; rw [List.length_map]
  clear hc ok hr hs okr
  go_enter Try.func21, Try.ntmps21
  go_wp2_with fail
  go_loopw [6, 7, 12] (fun at_ fd i wr => ∃ k : Nat, k ≤ L.length ∧ i = .int .i64 k ∧ at_ = .int .i64 (atI (bestToM r (L.map MV.m) k) : Nat) ∧ fd = .bool (bestToM r (L.map MV.m) k).isSome ∧ Below (w.alloc (.cells #[.string r.meth, .string r.host, .string r.path, vr, vs] 28)).heap.size (w.alloc (.cells #[.string r.meth, .string r.host, .string r.path, vr, vs] 28)) wr) (fun _ _ i _ => L.length - (intOf i).toNat)
  case atStart => exact ⟨0, Nat.zero_le _, rfl, rfl, rfl, Below.refl _ _⟩
  case round =>
    obtain ⟨k, hk, rfl, rfl, rfl, hB⟩ := hrel
    have hW := below_box hB
    by_cases hlt : k < L.length
    · have hlt' : (k : Int) < (L.length : Int) := by omega
      obtain ⟨hat, g, off, rfl, hg, F⟩ := HC.out k hlt
      have okx := HOK.out _ (List.getElem_mem hlt)
      have HU : Hid (bestToM r (L.map MV.m) (k + 1) = Ru.stepB (fun m => holdM m r) ahM (bestToM r (L.map MV.m) k) k L[k].m) := by
        have := HSUCC.out k (by rw [List.length_map]; exact hlt)
        rw [List.getElem_map] at this
        exact this
      have HS : Hid (Ru.BestOr (fun m => holdM m r) ahM (L.map MV.m) k (bestToM r (L.map MV.m) k)) := HSPEC.out k (by rw [List.length_map]; exact hk)
      have HX : Hid (∀ i y, i < k → (L.map MV.m)[i]? = some y → ∃ hi : i < L.length, y = L[i].m) := fun i y hi h => by
        have hi' : i < L.length := by omega
        refine ⟨hi', ?_⟩
        rw [List.getElem?_map, List.getElem?_eq_getElem hi'] at h
        exact (Option.some.inj h).symm
      have HB1 : Hid (Below w.heap.size w wr) := hW
      generalize hx : L[k] = x at *
      have hBR := hB.alloc hB.size (.cells #[.int .i64 x.m.kind, .string x.m.val, .string x.m.meth, x.vh, x.vq] 26)
      have hBW := hW.alloc hW.size (.cells #[.int .i64 x.m.kind, .string x.m.val, .string x.m.meth, x.vh, x.vq] 26)
      have CH' := fun q : GB (wr.alloc (.cells #[.int .i64 x.m.kind, .string x.m.val, .string x.m.meth, x.vh, x.vq] 26)) => CH x q.W (hat.below (bb2 hBW q.h)) okx (bb2 hBW q.h)
      obtain ⟨F0, F1, F2, F3, F4⟩ := F.below hg hW
      have b0 := fun q : GB (wr.alloc (.cells #[.int .i64 x.m.kind, .string x.m.val, .string x.m.meth, x.vh, x.vq] 26)) => (box5 q.h).1
      have b1 := fun q : GB (wr.alloc (.cells #[.int .i64 x.m.kind, .string x.m.val, .string x.m.meth, x.vh, x.vq] 26)) => (box5 q.h).2.1
      have b2 := fun q : GB (wr.alloc (.cells #[.int .i64 x.m.kind, .string x.m.val, .string x.m.meth, x.vh, x.vq] 26)) => (box5 q.h).2.2.1
      have b3 := fun q : GB (wr.alloc (.cells #[.int .i64 x.m.kind, .string x.m.val, .string x.m.meth, x.vh, x.vq] 26)) => (box5 q.h).2.2.2.1
      have b4 := fun q : GB (wr.alloc (.cells #[.int .i64 x.m.kind, .string x.m.val, .string x.m.meth, x.vh, x.vq] 26)) => (box5 q.h).2.2.2.2
      have r0 := fun q : GB (wr.alloc (.cells #[.int .i64 x.m.kind, .string x.m.val, .string x.m.meth, x.vh, x.vq] 26)) => (box5 (hBR.trans (q.h.mono hBR.size))).1
      have r1 := fun q : GB (wr.alloc (.cells #[.int .i64 x.m.kind, .string x.m.val, .string x.m.meth, x.vh, x.vq] 26)) => (box5 (hBR.trans (q.h.mono hBR.size))).2.1
      have r2 := fun q : GB (wr.alloc (.cells #[.int .i64 x.m.kind, .string x.m.val, .string x.m.meth, x.vh, x.vq] 26)) => (box5 (hBR.trans (q.h.mono hBR.size))).2.2.1
      have r3 := fun q : GB (wr.alloc (.cells #[.int .i64 x.m.kind, .string x.m.val, .string x.m.meth, x.vh, x.vq] 26)) => (box5 (hBR.trans (q.h.mono hBR.size))).2.2.2.1
      have r4 := fun q : GB (wr.alloc (.cells #[.int .i64 x.m.kind, .string x.m.val, .string x.m.meth, x.vh, x.vq] 26)) => (box5 (hBR.trans (q.h.mono hBR.size))).2.2.2.2
      generalize hoo : bestToM r (L.map MV.m) k = o at *
      cases o with
      | none =>
        cases hh : holdM x.m r
        · have HN : Hid (bestToM r (L.map MV.m) (k + 1) = none) := by
            unfold Hid
            rw [HU.out]
            show (if holdM x.m r then _ else _) = _
            rw [hh]
            rfl
          rw [hh] at CH'
          clear hh HU HS hoo HX CH CO HSPEC HSUCC
          simp only [atI, Option.isSome_none]
          go_wp2_with fail
          refine wp_region_below (by kernel_rfl) (by kernel_rfl) ?_
          repeat (first | go_big_quiet_step ((go_at_call 15; exact calls_gb (CH' _).out)) | quiet_step ((go_at_call 15; exact calls_gb (CH' _).out)))
          refine wpQuiet_nil ?_
          intro _ hw'
          obtain ⟨qq, hw2⟩ := hw'
          subst hw2
          have hq := hBR.trans (qq.h.mono hBR.size)
          go_wp2_with fail
          exact ⟨⟨k + 1, by omega, by go_num, by rw [HN.out], by rw [HN.out]; rfl, hq⟩, by simp [intOf]; omega⟩
        · have HN : Hid (bestToM r (L.map MV.m) (k + 1) = some (k, x.m)) := by
            unfold Hid
            rw [HU.out]
            show (if holdM x.m r then _ else _) = _
            rw [hh]
            rfl
          rw [hh] at CH'
          clear hh HU HS hoo HX CH CO HSPEC HSUCC
          simp only [atI, Option.isSome_none]
          go_wp2_with fail
          refine wp_region_below (by kernel_rfl) (by kernel_rfl) ?_
          repeat (first | go_big_quiet_step ((go_at_call 15; exact calls_gb (CH' _).out)) | quiet_step ((go_at_call 15; exact calls_gb (CH' _).out)))
          refine wpQuiet_nil ?_
          intro _ hw'
          obtain ⟨qq, hw2⟩ := hw'
          subst hw2
          have hq := hBR.trans (qq.h.mono hBR.size)
          go_wp2_with fail
          exact ⟨⟨k + 1, by omega, by go_num, by rw [HN.out], by rw [HN.out]; rfl, hq⟩, by simp [intOf]; omega⟩
      | some p =>
        obtain ⟨i, y⟩ := p
        have HBst : Hid (Ru.Best (fun m => holdM m r) ahM (L.map MV.m) k i y) := HS.out
        obtain ⟨hi, hy⟩ := HX.out i y HBst.out.lt HBst.out.at_
        have hik := HBst.out.lt
        have hi' : (i : Int) < (L.length : Int) := by omega
        obtain ⟨hat2, g', off', he', _, G⟩ := HC.out i hi
        injection he' with he'
        injection he' with he1 he2
        subst he1 he2
        have oky := HOK.out _ (List.getElem_mem hi)
        generalize L[i] = z at *
        subst hy
        have CO' := fun q : GB (wr.alloc (.cells #[.int .i64 x.m.kind, .string x.m.val, .string x.m.meth, x.vh, x.vq] 26)) => CO x z q.W (hat.below (bb2 hBW q.h)) (hat2.below (bb2 hBW q.h)) okx oky
        have z0 := fun q : GB (wr.alloc (.cells #[.int .i64 x.m.kind, .string x.m.val, .string x.m.meth, x.vh, x.vq] 26)) => (G.below hg (bb2 hBW q.h)).1
        have z1 := fun q : GB (wr.alloc (.cells #[.int .i64 x.m.kind, .string x.m.val, .string x.m.meth, x.vh, x.vq] 26)) => (G.below hg (bb2 hBW q.h)).2.1
        have z2 := fun q : GB (wr.alloc (.cells #[.int .i64 x.m.kind, .string x.m.val, .string x.m.meth, x.vh, x.vq] 26)) => (G.below hg (bb2 hBW q.h)).2.2.1
        have z3 := fun q : GB (wr.alloc (.cells #[.int .i64 x.m.kind, .string x.m.val, .string x.m.meth, x.vh, x.vq] 26)) => (G.below hg (bb2 hBW q.h)).2.2.2.1
        have z4 := fun q : GB (wr.alloc (.cells #[.int .i64 x.m.kind, .string x.m.val, .string x.m.meth, x.vh, x.vq] 26)) => (G.below hg (bb2 hBW q.h)).2.2.2.2
        have HOL := hide (Ru.ord_lt (ah := ahM) x.m z.m)
        have HST : Hid (bestToM r (L.map MV.m) (k + 1) = if holdM x.m r && ahM x.m z.m then some (k, x.m) else some (i, z.m)) := by
          unfold Hid
          rw [HU.out]
          rfl
        cases hh : holdM x.m r
        · rw [hh] at CH' HST
          have HN : Hid (bestToM r (L.map MV.m) (k + 1) = some (i, z.m)) := HST.out
          clear hh HU HS hoo HX CH CO HSPEC HSUCC HBst HST HOL CO' G
          simp only [atI, Option.isSome_some]
          go_wp2_with fail
          refine wp_region_below (by kernel_rfl) (by kernel_rfl) ?_
          repeat (first | go_big_quiet_step ((go_at_call 15; exact calls_gb (CH' _).out)) | quiet_step ((go_at_call 15; exact calls_gb (CH' _).out)))
          refine wpQuiet_nil ?_
          intro _ hw'
          obtain ⟨qq, hw2⟩ := hw'
          subst hw2
          have hq := hBR.trans (qq.h.mono hBR.size)
          go_wp2_with fail
          exact ⟨⟨k + 1, by omega, by go_num, by rw [HN.out], by rw [HN.out]; rfl, hq⟩, by simp [intOf]; omega⟩
        · rw [hh] at CH' HST
          cases ha : ahM x.m z.m
          · rw [ha] at HST
            have HN : Hid (bestToM r (L.map MV.m) (k + 1) = some (i, z.m)) := HST.out
            have ho : ¬ ordM x.m z.m < 0 := fun h => by rw [HOL.out.1 h] at ha; cases ha
            clear hh ha HU HS hoo HX CH CO HSPEC HSUCC HBst HST HOL G
            generalize ordM x.m z.m = od at *
            simp only [atI, Option.isSome_some]
            go_wp2_with fail
            refine wp_region_below (by kernel_rfl) (by kernel_rfl) ?_
            repeat (first | go_big_quiet_step ((first | (go_at_call 15; exact calls_gb (CH' _).out) | (go_at_call 23; exact calls_gb (CO' _).out))) | quiet_step ((first | (go_at_call 15; exact calls_gb (CH' _).out) | (go_at_call 23; exact calls_gb (CO' _).out))))
            refine wpQuiet_nil ?_
            intro _ hw'
            obtain ⟨qq, hw2⟩ := hw'
            subst hw2
            have hq := hBR.trans (qq.h.mono hBR.size)
            go_wp2_with fail
            exact ⟨⟨k + 1, by omega, by go_num, by rw [HN.out], by rw [HN.out]; rfl, hq⟩, by simp [intOf]; omega⟩
          · rw [ha] at HST
            have HN : Hid (bestToM r (L.map MV.m) (k + 1) = some (k, x.m)) := HST.out
            have ho : ordM x.m z.m < 0 := HOL.out.2 ha
            clear hh ha HU HS hoo HX CH CO HSPEC HSUCC HBst HST HOL G
            generalize ordM x.m z.m = od at *
            simp only [atI, Option.isSome_some]
            go_wp2_with fail
            refine wp_region_below (by kernel_rfl) (by kernel_rfl) ?_
            repeat (first | go_big_quiet_step ((first | (go_at_call 15; exact calls_gb (CH' _).out) | (go_at_call 23; exact calls_gb (CO' _).out))) | quiet_step ((first | (go_at_call 15; exact calls_gb (CH' _).out) | (go_at_call 23; exact calls_gb (CO' _).out))))
            refine wpQuiet_nil ?_
            intro _ hw'
            obtain ⟨qq, hw2⟩ := hw'
            subst hw2
            have hq := hBR.trans (qq.h.mono hBR.size)
            go_wp2_with fail
            exact ⟨⟨k + 1, by omega, by go_num, by rw [HN.out], by rw [HN.out]; rfl, hq⟩, by simp [intOf]; omega⟩
    · have hlt' : ¬ (k : Int) < (L.length : Int) := by omega
      obtain rfl : k = L.length := by omega
      go_wp2_with fail
      go_ret2
      exact ⟨by rw [HEND.out]; rfl, hW⟩

end Go.Proofs.Ytppnkfjdgalgbaa
