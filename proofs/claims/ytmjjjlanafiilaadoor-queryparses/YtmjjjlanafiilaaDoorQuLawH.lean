/-
  The law QueryParses.
-/
import Derived.Test.YtmjjjlanafiilaaDoorQuRefD
namespace Go.Proofs.YtmjjjlanafiilaaDoor
open Go Go.RowKit Go.Shelf

set_option maxHeartbeats 1600000 in
theorem queryParses_any (s0 : ByteArray) (w : World) (hs0 : s0.size ≤ maxLen) :
    Calls Tryd.prog 4 #[.string s0] w fun e w' => e = .returned (.bool true) ∧ Below w.heap.size w w' := by
  have C0 := fun W => hide (ltext_any s0 W hs0)
  have la := text6_le s0
  generalize text6 s0 = s at *
  clear hs0
  cases hp : Qu.parse s.data.toList with
  | none =>
    have P1 := fun W => hide (qparse_no s W (by omega) hp)
    have P2 := fun W => hide (rparse_no s W (by omega) hp)
    clear hp
    go_enter Tryd.func4, Tryd.ntmps4
    go_wp2_with fail
    refine ((C0 w).out).mono ?_
    rintro e x ⟨rfl, hx⟩
    subst x
    go_wp2_with fail
    refine ((P1 w).out).mono ?_
    rintro e w1 ⟨rfl, hb1⟩
    go_wp2_with fail
    refine ((P2 w1).out).mono ?_
    rintro e w2 ⟨rfl, hb2⟩
    go_wp2_with fail
    refine (psame_any w2 _ _ [] [] (Prs.nil _) (Prs.nil _)).mono ?_
    rintro e w3 ⟨rfl, hb3⟩
    rw [decide_eq_true rfl]
    go_wp2_with fail
    refine (awake_any w3).mono ?_
    rintro e w4 ⟨rfl, hb4⟩
    go_wp2_with fail
    go_ret
    exact ⟨rfl, bb2 (bb2 (bb2 hb1 hb2) hb3) hb4⟩
  | some L =>
    obtain ⟨x, rfl⟩ : ∃ x : List PairB, L = x.map pl := ⟨L.map bp, (map_pl_bp L).symm⟩
    have hm := Qu.parse_may hp
    obtain ⟨ok1, ok2⟩ := ok_of_may hm
    have ok3 : ∀ p ∈ x, p.1.size ≤ 41 ∧ p.2.size ≤ 41 := fun p hp => by have := ok1 p hp; omega
    have P1 := fun W => hide (qparse_yes s x W (by omega) hp)
    have P2 := fun W => hide (rparse_yes s x W (by omega) hp)
    have TX := fun v W (h : Prs W v x) => hide (text_yes v x W h ok3 hm)
    have zA : (mkB (tx x)).size ≤ 100000 := by rw [mkB_size]; have := tx_len ok3 (by omega); omega
    have P3 := fun W => hide (qparse_yes (mkB (tx x)) x W zA (by rw [mkB_list]; exact Qu.parse_txt hm))
    clear hp hm ok1 ok2 ok3
    generalize mkB (tx x) = t at *
    go_enter Tryd.func4, Tryd.ntmps4
    go_wp2_with fail
    refine ((C0 w).out).mono ?_
    rintro e x ⟨rfl, hx⟩
    subst x
    go_wp2_with fail
    refine (P1 w).out.mono ?_
    rintro e w1 ⟨vl, rfl, ql, hb1⟩
    go_wp2_with fail
    refine (P2 w1).out.mono ?_
    rintro e w2 ⟨vm, rfl, qm, hb2⟩
    replace ql := ql.below hb2
    go_wp2_with fail
    refine (psame_any w2 vl vm x x ql qm).mono ?_
    rintro e w3 ⟨rfl, hb3⟩
    rw [decide_eq_true rfl]
    replace ql := ql.below hb3
    go_wp2_with fail
    refine ((TX vl w3 ql).out).mono ?_
    rintro e w4 ⟨rfl, hb4⟩
    replace ql := ql.below hb4
    go_wp2_with fail
    refine (P3 w4).out.mono ?_
    rintro e w5 ⟨vx, rfl, qx, hb5⟩
    replace ql := ql.below hb5
    go_wp2_with fail
    refine (psame_any w5 vx vl x x qx ql).mono ?_
    rintro e w6 ⟨rfl, hb6⟩
    rw [decide_eq_true rfl]
    go_wp2_with fail
    refine (awake_any w6).mono ?_
    rintro e w7 ⟨rfl, hb7⟩
    go_wp2_with fail
    go_ret
    exact ⟨rfl, bb2 (bb2 (bb2 (bb2 (bb2 (bb2 hb1 hb2) hb3) hb4) hb5) hb6) hb7⟩

end Go.Proofs.YtmjjjlanafiilaaDoor
