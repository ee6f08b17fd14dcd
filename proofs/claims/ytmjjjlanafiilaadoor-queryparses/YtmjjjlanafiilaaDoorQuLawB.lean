/-
  The law QueryApart.
-/
import Derived.Test.YtmjjjlanafiilaaDoorQuArg
namespace Go.Proofs.YtmjjjlanafiilaaDoor
open Go Go.RowKit Go.Shelf

theorem tx_inj {a b : List PairB} (ha : Qu.may (a.map pl) = true) (hb : Qu.may (b.map pl) = true) : tx a = tx b ↔ a = b := by
  unfold tx
  rw [Qu.txt_inj ha hb]
  exact ⟨map_pl_inj, fun h => by rw [h]⟩
/-- a text of these octets -/
def mkB (l : List UInt8) : ByteArray := ⟨l.toArray⟩
theorem mkB_list (l : List UInt8) : (mkB l).data.toList = l := by simp [mkB]
theorem mkB_toList (l : List UInt8) : (mkB l).toList = l := by rw [Lib.toList_data, mkB_list]
theorem mkB_size (l : List UInt8) : (mkB l).size = l.length := rfl

theorem text_yes (v : Value) (l : List PairB) (w : World) (hv : Prs w v l) (hok : ∀ p ∈ l, p.1.size ≤ 41 ∧ p.2.size ≤ 41) (hm : Qu.may (l.map pl) = true) :
    Calls Tryd.prog 11 #[v] w fun e w' => e = .returned (.tuple #[.string (mkB (tx l)), .int .i64 0]) ∧ Below w.heap.size w w' := qtext_yes v l w hv (small_ok hok) hm
theorem text_no (v : Value) (l : List PairB) (w : World) (hv : Prs w v l) (hok : ∀ p ∈ l, p.1.size ≤ 41 ∧ p.2.size ≤ 41) (hm : Qu.may (l.map pl) = false) :
    Calls Tryd.prog 11 #[v] w fun e w' => e = .returned (.tuple #[.string ⟨#[]⟩, .int .i64 1]) ∧ Below w.heap.size w w' := qtext_no v l w hv (small_ok hok) hm

theorem bb2 {a b c : World} (h : Below a.heap.size a b) (k : Below b.heap.size b c) : Below a.heap.size a c := h.trans (k.mono h.size)

set_option maxHeartbeats 1600000 in
theorem queryApart_any (v0 v1 : Value) (w : World) (h0 : ArgPrs w v0) (h1 : ArgPrs w v1) :
    Calls Tryd.prog 7 #[v0, v1] w fun e w' => e = .returned (.bool true) ∧ Below w.heap.size w w' := by
  obtain ⟨la, pa, oka⟩ := h0
  obtain ⟨lb, pb, okb⟩ := h1
  have HA := hide (fewP_ok la)
  have HB := hide (fewP_ok lb)
  have CA := fun W (h : Prs W v0 la) => hide (few_any v0 la W h oka)
  have CB := fun W (h : Prs W v1 lb) => hide (few_any v1 lb W h okb)
  clear oka okb
  generalize fewP la = A at *
  generalize fewP lb = B at *
  cases ha : Qu.may (A.map pl)
  · have TA := fun v W (h : Prs W v A) => hide (text_no v A W h HA.out ha)
    clear ha
    cases hb : Qu.may (B.map pl)
    · have TB := fun v W (h : Prs W v B) => hide (text_no v B W h HB.out hb)
      clear hb
      go_enter Tryd.func7, Tryd.ntmps7
      go_wp2_with fail
      refine (CA w pa).out.mono ?_
      rintro e w1 ⟨va, rfl, qa, b1⟩
      go_wp2_with fail
      refine (CB w1 (pb.below b1)).out.mono ?_
      rintro e w2 ⟨vb, rfl, qb, b2⟩
      go_wp2_with fail
      refine (TA va w2 (qa.below b2)).out.mono ?_
      rintro e w3 ⟨rfl, b3⟩
      go_wp2_with fail
      refine (TB vb w3 (qb.below b3)).out.mono ?_
      rintro e w4 ⟨rfl, b4⟩
      go_wp2_with fail
      refine (awake_any w4).mono ?_
      rintro e w5 ⟨rfl, b5⟩
      go_wp2_with fail
      go_ret
      exact ⟨rfl, bb2 (bb2 (bb2 (bb2 b1 b2) b3) b4) b5⟩
    · have TB := fun v W (h : Prs W v B) => hide (text_yes v B W h HB.out hb)
      clear hb
      go_enter Tryd.func7, Tryd.ntmps7
      go_wp2_with fail
      refine (CA w pa).out.mono ?_
      rintro e w1 ⟨va, rfl, qa, b1⟩
      go_wp2_with fail
      refine (CB w1 (pb.below b1)).out.mono ?_
      rintro e w2 ⟨vb, rfl, qb, b2⟩
      go_wp2_with fail
      refine (TA va w2 (qa.below b2)).out.mono ?_
      rintro e w3 ⟨rfl, b3⟩
      go_wp2_with fail
      refine (TB vb w3 (qb.below b3)).out.mono ?_
      rintro e w4 ⟨rfl, b4⟩
      go_wp2_with fail
      refine (awake_any w4).mono ?_
      rintro e w5 ⟨rfl, b5⟩
      go_wp2_with fail
      go_ret
      exact ⟨rfl, bb2 (bb2 (bb2 (bb2 b1 b2) b3) b4) b5⟩
  · have TA := fun v W (h : Prs W v A) => hide (text_yes v A W h HA.out ha)
    cases hb : Qu.may (B.map pl)
    · have TB := fun v W (h : Prs W v B) => hide (text_no v B W h HB.out hb)
      clear hb ha
      go_enter Tryd.func7, Tryd.ntmps7
      go_wp2_with fail
      refine (CA w pa).out.mono ?_
      rintro e w1 ⟨va, rfl, qa, b1⟩
      go_wp2_with fail
      refine (CB w1 (pb.below b1)).out.mono ?_
      rintro e w2 ⟨vb, rfl, qb, b2⟩
      go_wp2_with fail
      refine (TA va w2 (qa.below b2)).out.mono ?_
      rintro e w3 ⟨rfl, b3⟩
      go_wp2_with fail
      refine (TB vb w3 (qb.below b3)).out.mono ?_
      rintro e w4 ⟨rfl, b4⟩
      go_wp2_with fail
      refine (awake_any w4).mono ?_
      rintro e w5 ⟨rfl, b5⟩
      go_wp2_with fail
      go_ret
      exact ⟨rfl, bb2 (bb2 (bb2 (bb2 b1 b2) b3) b4) b5⟩
    · have TB := fun v W (h : Prs W v B) => hide (text_yes v B W h HB.out hb)
      have HE : Hid (decide (A = B) = ((mkB (tx A)).toList == (mkB (tx B)).toList)) := by
        unfold Hid
        rw [mkB_toList, mkB_toList, Bool.eq_iff_iff, decide_eq_true_eq, beq_iff_eq]
        exact (tx_inj ha hb).symm
      clear hb ha
      generalize mkB (tx A) = s at *
      generalize mkB (tx B) = t at *
      cases hq : (s.toList == t.toList)
      all_goals
        rw [hq] at HE
        go_enter Tryd.func7, Tryd.ntmps7
        go_wp2_with fail
        refine (CA w pa).out.mono ?_
        rintro e w1 ⟨va, rfl, qa, b1⟩
        go_wp2_with fail
        refine (CB w1 (pb.below b1)).out.mono ?_
        rintro e w2 ⟨vb, rfl, qb, b2⟩
        go_wp2_with fail
        refine (TA va w2 (qa.below b2)).out.mono ?_
        rintro e w3 ⟨rfl, b3⟩
        go_wp2_with fail
        refine (TB vb w3 (qb.below b3)).out.mono ?_
        rintro e w4 ⟨rfl, b4⟩
        go_wp2_with fail
        refine (psame_any w4 va vb A B (((qa.below b2).below b3).below b4) ((qb.below b3).below b4)).mono ?_
        rintro e w5 ⟨rfl, b5⟩
        rw [HE.out]
        go_wp2_with fail
        refine (awake_any w5).mono ?_
        rintro e w6 ⟨rfl, b6⟩
        go_wp2_with fail
        go_ret
        exact ⟨rfl, bb2 (bb2 (bb2 (bb2 (bb2 b1 b2) b3) b4) b5) b6⟩

end Go.Proofs.YtmjjjlanafiilaaDoor
