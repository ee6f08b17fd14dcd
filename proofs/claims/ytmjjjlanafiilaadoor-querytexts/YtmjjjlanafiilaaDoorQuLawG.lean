/-
  The law QueryTexts.
-/
import Derived.Test.YtmjjjlanafiilaaDoorQuRefB
namespace Go.Proofs.YtmjjjlanafiilaaDoor
open Go Go.RowKit Go.Shelf

set_option maxHeartbeats 1600000 in
theorem queryTexts_any (v0 : Value) (n1 : Int) (w : World) (h0 : ArgPrs w v0) (h1 : (Lit.int .u8 n1).wf = true) :
    Calls Tryd.prog 3 #[v0, .int .u8 n1] w fun e w' => e = .returned (.bool true) ∧ Below w.heap.size w w' := by
  obtain ⟨l, p0, ok0⟩ := h0
  obtain ⟨c, rfl⟩ := u8_lit h1
  clear h1
  have hc8 := c.toNat_lt
  have HA := fewP_ok l
  have HL := fewP_len l
  have CA := fun W (h : Prs W v0 l) => hide (few_any v0 l W h ok0)
  clear ok0
  generalize fewP l = A at *
  have M1 := fun v W (h : Prs W v A) => hide (qmay_any v A W h (small_ok HA))
  have M2 := fun v W (h : Prs W v A) => hide (rmay_any v A W h (small_ok HA))
  have P1 := fun W => hide (qplain_any c W)
  have P2 := fun W => hide (rplain_any c W)
  generalize Qu.plainO c = b at *
  cases ha : Qu.may (A.map pl)
  · have TA := fun v W (h : Prs W v A) => hide (text_no v A W h HA ha)
    rw [ha] at M1 M2
    clear ha HA
    go_enter Tryd.func3, Tryd.ntmps3
    go_wp2_with fail
    refine (CA w p0).out.mono ?_
    rintro e w1 ⟨va, rfl, qa, hb1⟩
    go_wp2_with fail
    refine ((TA va w1 qa).out).mono ?_
    rintro e w2 ⟨rfl, hb2⟩
    replace qa := qa.below hb2
    go_wp2_with fail
    refine ((M1 va w2 qa).out).mono ?_
    rintro e w3 ⟨rfl, hb3⟩
    replace qa := qa.below hb3
    go_wp2_with fail
    refine ((M2 va w3 qa).out).mono ?_
    rintro e x ⟨rfl, hx⟩
    subst x
    go_wp2_with fail
    refine ((P1 w3).out).mono ?_
    rintro e x ⟨rfl, hx⟩
    subst x
    go_wp2_with fail
    refine ((P2 w3).out).mono ?_
    rintro e x ⟨rfl, hx⟩
    subst x
    go_wp2_with fail
    refine ((M2 va w3 qa).out).mono ?_
    rintro e x ⟨rfl, hx⟩
    subst x
    go_wp2_with fail
    refine (awake_any w3).mono ?_
    rintro e w4 ⟨rfl, hb4⟩
    go_wp2_with fail
    go_ret
    exact ⟨rfl, bb2 (bb2 (bb2 hb1 hb2) hb3) hb4⟩
  · have TA := fun v W (h : Prs W v A) => hide (text_yes v A W h HA ha)
    have RT := fun v W (h : Prs W v A) => hide (rtext_any v A W h HA HL)
    have zA : (mkB (tx A)).size ≤ 100000 := by rw [mkB_size]; have := tx_len HA HL; omega
    have PA := fun W => hide (qparse_yes (mkB (tx A)) A W zA (by rw [mkB_list]; exact Qu.parse_txt ha))
    rw [ha] at M1 M2
    clear ha HA
    generalize mkB (tx A) = s at *
    go_enter Tryd.func3, Tryd.ntmps3
    go_wp2_with fail
    refine (CA w p0).out.mono ?_
    rintro e w1 ⟨va, rfl, qa, hb1⟩
    go_wp2_with fail
    refine ((TA va w1 qa).out).mono ?_
    rintro e w2 ⟨rfl, hb2⟩
    replace qa := qa.below hb2
    go_wp2_with fail
    refine ((M1 va w2 qa).out).mono ?_
    rintro e w3 ⟨rfl, hb3⟩
    replace qa := qa.below hb3
    go_wp2_with fail
    refine ((M2 va w3 qa).out).mono ?_
    rintro e x ⟨rfl, hx⟩
    subst x
    go_wp2_with fail
    refine ((P1 w3).out).mono ?_
    rintro e x ⟨rfl, hx⟩
    subst x
    go_wp2_with fail
    refine ((P2 w3).out).mono ?_
    rintro e x ⟨rfl, hx⟩
    subst x
    go_wp2_with fail
    refine ((M2 va w3 qa).out).mono ?_
    rintro e x ⟨rfl, hx⟩
    subst x
    go_wp2_with fail
    refine (PA w3).out.mono ?_
    rintro e w4 ⟨vx, rfl, qx, hb4⟩
    replace qa := qa.below hb4
    go_wp2_with fail
    refine ((RT va w4 qa).out).mono ?_
    rintro e w5 ⟨rfl, hb5⟩
    replace qa := qa.below hb5
    replace qx := qx.below hb5
    go_wp2_with fail
    refine (psame_any w5 vx va A A qx qa).mono ?_
    rintro e w6 ⟨rfl, hb6⟩
    rw [decide_eq_true rfl]
    go_wp2_with fail
    refine (awake_any w6).mono ?_
    rintro e w7 ⟨rfl, hb7⟩
    go_wp2_with fail
    go_ret
    exact ⟨rfl, bb2 (bb2 (bb2 (bb2 (bb2 (bb2 hb1 hb2) hb3) hb4) hb5) hb6) hb7⟩

end Go.Proofs.YtmjjjlanafiilaaDoor
