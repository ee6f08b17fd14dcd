/-
  The document's SameAsk.
-/
import Derived.Test.YtfoabpkiaihkiaaDoorFiWalkD
namespace Go.Proofs.YtfoabpkiaihkiaaDoor
set_option maxRecDepth 20000
open Go Go.RowKit Go.Shelf Fi

/-- the same requests? -/
def sameR (a b : RB) : Bool := decide (a.meth = b.meth ∧ a.host = b.host ∧ a.path = b.path ∧ a.query = b.query ∧ a.head = b.head)
theorem sameR_iff {a b : RB} : sameR a b = true ↔ a = b := by
  unfold sameR
  rw [decide_eq_true_eq]
  constructor
  · rintro ⟨h1, h2, h3, h4, h5⟩
    obtain ⟨a1, a2, a3, a4, a5⟩ := a
    obtain ⟨b1, b2, b3, b4, b5⟩ := b
    dsimp only at *
    subst h1 h2 h3 h4 h5
    rfl
  · rintro rfl
    exact ⟨rfl, rfl, rfl, rfl, rfl⟩
theorem sameR_self (a : RB) : sameR a a = true := sameR_iff.2 rfl
theorem getElem_same {xs ys : List PairB} (e : xs = ys) {k : Nat} {h1 : k < xs.length} {h2 : k < ys.length} : xs[k] = ys[k] := by subst e; rfl

set_option maxHeartbeats 6400000 in
theorem sameAsk_any (x y : RV) (w : World) (hx : x.at_ w) (hy : y.at_ w) :
    Calls Tryd.prog 18 #[rV x.r x.vq x.vh, rV y.r y.vq y.vh] w fun e w' => e = .returned (.bool (sameR x.r y.r)) ∧ Below w.heap.size w w' := by
  obtain ⟨⟨am, ah_, ap, xq, yh⟩, xa, xc, ya, yc⟩ := x
  obtain ⟨⟨bm, bh_, bp, zq, uh⟩, za, zc, ua, uc⟩ := y
  obtain ⟨hxq, hyh⟩ := hx
  obtain ⟨hzq, huh⟩ := hy
  have hl1 := hxq.len
  have hl2 := hyh.len
  obtain ⟨xa', xc', e1, _, _, cA⟩ := hxq
  obtain ⟨ya', yc', e2, _, _, cC⟩ := hyh
  obtain ⟨za', zc', e3, _, _, cB⟩ := hzq
  obtain ⟨ua', uc', e4, _, _, cD⟩ := huh
  dsimp only at *
  injection e1 with e1 _ e1'
  injection e2 with e2 _ e2'
  injection e3 with e3 _ e3'
  injection e4 with e4 _ e4'
  subst e1 e1' e2 e2' e3 e3' e4 e4'
  have HA := hide cA
  have HB := hide cB
  have HC := hide cC
  have HD := hide cD
  clear cA cB cC cD
  have B2 : Below w.heap.size w ((w.alloc (.cells #[.string am, .string ah_, .string ap, .slice xa xq.length xc, .slice ya yh.length yc] 33)).alloc (.cells #[.string bm, .string bh_, .string bp, .slice za zq.length zc, .slice ua uh.length uc] 33)) := ((Below.refl _ _).alloc (Nat.le_refl _) _).alloc (by simp) _
  have HS : Hid (sameR ⟨am, ah_, ap, xq, yh⟩ ⟨bm, bh_, bp, zq, uh⟩ = decide (am = bm ∧ ah_ = bh_ ∧ ap = bp ∧ xq = zq ∧ yh = uh)) := rfl
  generalize sameR ⟨am, ah_, ap, xq, yh⟩ ⟨bm, bh_, bp, zq, uh⟩ = r at *
  cases h1 : (am.toList == bm.toList)
  · have HR : Hid (false = r) := by
      show _ = _
      rw [HS.out]
      exact (decide_eq_false fun h => by rw [h.1] at h1; simp at h1).symm
    go_enter Tryd.func18, Tryd.ntmps18
    go_wp2_with fail
    go_ret
    exact ⟨ret_bool HR.out, B2⟩
  cases h2 : (ah_.toList == bh_.toList)
  · have HR : Hid (false = r) := by
      show _ = _
      rw [HS.out]
      exact (decide_eq_false fun h => by rw [h.2.1] at h2; simp at h2).symm
    go_enter Tryd.func18, Tryd.ntmps18
    go_wp2_with fail
    go_ret
    exact ⟨ret_bool HR.out, B2⟩
  cases h3 : (ap.toList == bp.toList)
  · have HR : Hid (false = r) := by
      show _ = _
      rw [HS.out]
      exact (decide_eq_false fun h => by rw [h.2.2.1] at h3; simp at h3).symm
    go_enter Tryd.func18, Tryd.ntmps18
    go_wp2_with fail
    go_ret
    exact ⟨ret_bool HR.out, B2⟩
  by_cases hlq : xq.length = zq.length
  · by_cases hlh : yh.length = uh.length
    · have LQ := hide hlq
      have LH := hide hlh
      have n1 : ((xq.length : Int) != (zq.length : Int)) = false := by rw [bne_eq_false_iff_eq]; omega
      have n2 : ((yh.length : Int) != (uh.length : Int)) = false := by rw [bne_eq_false_iff_eq]; omega
      have HY : Hid (xq = zq → yh = uh → r = true) := fun q1 q2 => by
        rw [HS.out]
        exact decide_eq_true ⟨bytes_eq h1, bytes_eq h2, bytes_eq h3, q1, q2⟩
      have HN4 : Hid (¬ xq = zq → r = false) := fun q => by
        rw [HS.out]
        exact decide_eq_false fun h => q h.2.2.2.1
      have HN5 : Hid (¬ yh = uh → r = false) := fun q => by
        rw [HS.out]
        exact decide_eq_false fun h => q h.2.2.2.2
      clear hlq hlh HS
      go_enter Tryd.func18, Tryd.ntmps18
      go_wp2_with fail
      go_loopw [5] (fun i wr => ∃ k : Nat, k ≤ xq.length ∧ i = .int .i64 k ∧ Hid (xq.take k = zq.take k) ∧ Below ((w.alloc (.cells #[.string am, .string ah_, .string ap, .slice xa xq.length xc, .slice ya yh.length yc] 33)).alloc (.cells #[.string bm, .string bh_, .string bp, .slice za zq.length zc, .slice ua uh.length uc] 33)).heap.size ((w.alloc (.cells #[.string am, .string ah_, .string ap, .slice xa xq.length xc, .slice ya yh.length yc] 33)).alloc (.cells #[.string bm, .string bh_, .string bp, .slice za zq.length zc, .slice ua uh.length uc] 33)) wr) (fun i _ => xq.length - (intOf i).toNat)
      case atStart => exact ⟨0, Nat.zero_le _, rfl, rfl, Below.refl _ _⟩
      case round =>
        obtain ⟨k, hk, rfl, htk, hB⟩ := hrel
        have a3 := (hB.cell (p := ⟨w.heap.size, 3, none⟩) (by simp; omega)).trans (cellN (bx2 (Below.refl _ ((w.alloc (.cells #[.string am, .string ah_, .string ap, .slice xa xq.length xc, .slice ya yh.length yc] 33)).alloc (.cells #[.string bm, .string bh_, .string bp, .slice za zq.length zc, .slice ua uh.length uc] 33)))).1 (i := 3) rfl)
        have b3 := (hB.cell (p := ⟨w.heap.size + 1, 3, none⟩) (by simp)).trans (cellN (bx2 (Below.refl _ ((w.alloc (.cells #[.string am, .string ah_, .string ap, .slice xa xq.length xc, .slice ya yh.length yc] 33)).alloc (.cells #[.string bm, .string bh_, .string bp, .slice za zq.length zc, .slice ua uh.length uc] 33)))).2 (i := 3) rfl)
        by_cases hlt : k < xq.length
        · have hlb : k < zq.length := by rw [← LQ.out]; exact hlt
          obtain ⟨ga, oa, rfl, hga, a1, a2⟩ := HA.out k hlt
          obtain ⟨gb, ob, rfl, hgb, b1, b2⟩ := HB.out k hlb
          replace a1 := ((bb2 B2 hB).cell (p := ⟨ga, oa + k * 2, none⟩) hga).trans a1
          replace a2 := ((bb2 B2 hB).cell (p := ⟨ga, oa + k * 2 + 1, none⟩) hga).trans a2
          replace b1 := ((bb2 B2 hB).cell (p := ⟨gb, ob + k * 2, none⟩) hgb).trans b1
          replace b2 := ((bb2 B2 hB).cell (p := ⟨gb, ob + k * 2 + 1, none⟩) hgb).trans b2
          have hlt' : (k : Int) < (xq.length : Int) := by omega
          have hlb' : (k : Int) < (zq.length : Int) := by omega
          have HXk : Hid (xq[k] = (xq[k].1, xq[k].2)) := rfl
          have HYk : Hid (zq[k] = (zq[k].1, zq[k].2)) := rfl
          have HEQ : Hid (xq = zq → xq[k] = zq[k]) := fun e => getElem_same e
          generalize hx1 : xq[k].1 = x1 at *
          generalize hx2 : xq[k].2 = x2 at *
          generalize hy1 : zq[k].1 = y1 at *
          generalize hy2 : zq[k].2 = y2 at *
          cases hq1 : (x1.toList == y1.toList)
          · have hqe : Hid (false = r) := by
              refine (HN4.out fun e => ?_).symm
              have := HEQ.out e
              rw [HXk.out, HYk.out] at this
              rw [(Prod.mk.inj this).1] at hq1
              simp at hq1
            go_wp2_with fail
            go_region
            go_wp2_with fail
            go_ret
            exact ⟨ret_bool hqe.out, bb2 B2 hB.drew⟩
          · cases hq2 : (x2.toList == y2.toList)
            · have hqe : Hid (false = r) := by
                refine (HN4.out fun e => ?_).symm
                have := HEQ.out e
                rw [HXk.out, HYk.out] at this
                rw [(Prod.mk.inj this).2] at hq2
                simp at hq2
              go_wp2_with fail
              go_region
              go_wp2_with fail
              go_ret
              exact ⟨ret_bool hqe.out, bb2 B2 hB.drew⟩
            · have hqe : Hid (xq[k] = zq[k]) := by
                unfold Hid
                rw [HXk.out, HYk.out, bytes_eq hq1, bytes_eq hq2]
              go_wp2_with fail
              go_region
              go_wp2_with fail
              refine ⟨⟨k + 1, by omega, by go_num, ?_, hB.drew⟩, by simp [intOf]; omega⟩
              unfold Hid
              rw [List.take_succ_eq_append_getElem hlt, List.take_succ_eq_append_getElem hlb, htk.out, hqe.out]
        · have hlt' : ¬ (k : Int) < (xq.length : Int) := by omega
          have hqe : Hid (xq = zq) := by
            have := htk.out
            rwa [List.take_of_length_le (by omega), List.take_of_length_le (by rw [← LQ.out]; omega)] at this
          have HQ1 := hide hqe.out
          obtain ⟨w2, hw2e⟩ : ∃ z, z = wr := ⟨_, rfl⟩
          have hw2 := hB
          rw [← hw2e] at hw2
          have c4 := cellN (bx2 hw2).1 (i := 4) rfl
          have d4 := cellN (bx2 hw2).2 (i := 4) rfl
          go_wp2_with fail
          rw [← hw2e]
          clear hw2e hB a3 b3 hqe htk
          go_loopw [6] (fun i wr => ∃ k : Nat, k ≤ yh.length ∧ i = .int .i64 k ∧ Hid (yh.take k = uh.take k) ∧ Below w2.heap.size w2 wr) (fun i _ => yh.length - (intOf i).toNat)
          case atStart => exact ⟨0, Nat.zero_le _, rfl, rfl, Below.refl _ _⟩
          case round =>
            obtain ⟨k, hk, rfl, htk, hB⟩ := hrel
            have a4 := (hB.cell (p := ⟨w.heap.size, 4, none⟩) (Nat.lt_of_lt_of_le (by simp; omega) hw2.size)).trans (c4)
            have b4 := (hB.cell (p := ⟨w.heap.size + 1, 4, none⟩) (Nat.lt_of_lt_of_le (by simp) hw2.size)).trans (d4)
            by_cases hlt : k < yh.length
            · have hlb : k < uh.length := by rw [← LH.out]; exact hlt
              obtain ⟨ga, oa, rfl, hga, a1, a2⟩ := HC.out k hlt
              obtain ⟨gb, ob, rfl, hgb, b1, b2⟩ := HD.out k hlb
              replace a1 := ((bb2 (bb2 B2 hw2) hB).cell (p := ⟨ga, oa + k * 2, none⟩) hga).trans a1
              replace a2 := ((bb2 (bb2 B2 hw2) hB).cell (p := ⟨ga, oa + k * 2 + 1, none⟩) hga).trans a2
              replace b1 := ((bb2 (bb2 B2 hw2) hB).cell (p := ⟨gb, ob + k * 2, none⟩) hgb).trans b1
              replace b2 := ((bb2 (bb2 B2 hw2) hB).cell (p := ⟨gb, ob + k * 2 + 1, none⟩) hgb).trans b2
              have hlt' : (k : Int) < (yh.length : Int) := by omega
              have hlb' : (k : Int) < (uh.length : Int) := by omega
              have HXk : Hid (yh[k] = (yh[k].1, yh[k].2)) := rfl
              have HYk : Hid (uh[k] = (uh[k].1, uh[k].2)) := rfl
              have HEQ : Hid (yh = uh → yh[k] = uh[k]) := fun e => getElem_same e
              generalize hx1 : yh[k].1 = x1 at *
              generalize hx2 : yh[k].2 = x2 at *
              generalize hy1 : uh[k].1 = y1 at *
              generalize hy2 : uh[k].2 = y2 at *
              cases hq1 : (x1.toList == y1.toList)
              · have hqe : Hid (false = r) := by
                  refine (HN5.out fun e => ?_).symm
                  have := HEQ.out e
                  rw [HXk.out, HYk.out] at this
                  rw [(Prod.mk.inj this).1] at hq1
                  simp at hq1
                go_wp2_with fail
                go_region
                go_wp2_with fail
                go_ret
                exact ⟨ret_bool hqe.out, bb2 B2 (bb2 hw2 hB.drew)⟩
              · cases hq2 : (x2.toList == y2.toList)
                · have hqe : Hid (false = r) := by
                    refine (HN5.out fun e => ?_).symm
                    have := HEQ.out e
                    rw [HXk.out, HYk.out] at this
                    rw [(Prod.mk.inj this).2] at hq2
                    simp at hq2
                  go_wp2_with fail
                  go_region
                  go_wp2_with fail
                  go_ret
                  exact ⟨ret_bool hqe.out, bb2 B2 (bb2 hw2 hB.drew)⟩
                · have hqe : Hid (yh[k] = uh[k]) := by
                    unfold Hid
                    rw [HXk.out, HYk.out, bytes_eq hq1, bytes_eq hq2]
                  go_wp2_with fail
                  go_region
                  go_wp2_with fail
                  refine ⟨⟨k + 1, by omega, by go_num, ?_, hB.drew⟩, by simp [intOf]; omega⟩
                  unfold Hid
                  rw [List.take_succ_eq_append_getElem hlt, List.take_succ_eq_append_getElem hlb, htk.out, hqe.out]
            · have hlt' : ¬ (k : Int) < (yh.length : Int) := by omega
              have hqe : Hid (yh = uh) := by
                have := htk.out
                rwa [List.take_of_length_le (by omega), List.take_of_length_le (by rw [← LH.out]; omega)] at this
              have HT : Hid (true = r) := (HY.out HQ1.out hqe.out).symm
              go_wp2_with fail
              go_ret
              exact ⟨ret_bool HT.out, bb2 B2 (bb2 hw2 hB)⟩
    · have n1 : ((xq.length : Int) != (zq.length : Int)) = false := by rw [bne_eq_false_iff_eq]; omega
      have n2 : ((yh.length : Int) != (uh.length : Int)) = true := by rw [bne_iff_ne]; omega
      have HR : Hid (false = r) := by
        show _ = _
        rw [HS.out]
        exact (decide_eq_false fun h => hlh (by rw [h.2.2.2.2])).symm
      go_enter Tryd.func18, Tryd.ntmps18
      go_wp2_with fail
      go_ret
      exact ⟨ret_bool HR.out, B2⟩
  · have n1 : ((xq.length : Int) != (zq.length : Int)) = true := by rw [bne_iff_ne]; omega
    have HR : Hid (false = r) := by
      show _ = _
      rw [HS.out]
      exact (decide_eq_false fun h => hlq (by rw [h.2.2.2.1])).symm
    go_enter Tryd.func18, Tryd.ntmps18
    go_wp2_with fail
    go_ret
    exact ⟨ret_bool HR.out, B2⟩

end Go.Proofs.YtfoabpkiaihkiaaDoor
