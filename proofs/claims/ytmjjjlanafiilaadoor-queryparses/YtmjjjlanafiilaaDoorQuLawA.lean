/-
  Walks: awake.
-/
import Derived.Test.YtmjjjlanafiilaaDoorQuWalkH
namespace Go.Proofs.YtmjjjlanafiilaaDoor
open Go Go.RowKit Go.Shelf

theorem Prs.lit1 (w : World) (a b : ByteArray) : Prs (w.alloc (.cells #[.string a, .string b] 42)) (.slice (some ⟨w.heap.size, 0, none⟩) 1 1) [(a, b)] := by
  refine ⟨_, 1, rfl, Nat.le_refl _, by decide, fun i hi => ⟨w.heap.size, 0, rfl, by simp, ?_, ?_⟩⟩
  all_goals
    have : i = 0 := by simpa using hi
    subst this
    (simp only [World.cell?]; rw [alloc_new]; rfl)
theorem Prs.lit2 (w : World) (a b c d : ByteArray) : Prs (w.alloc (.cells #[.string a, .string b, .string c, .string d] 42)) (.slice (some ⟨w.heap.size, 0, none⟩) 2 2) [(a, b), (c, d)] := by
  refine ⟨_, 2, rfl, Nat.le_refl _, by decide, fun i hi => ⟨w.heap.size, 0, rfl, by simp, ?_, ?_⟩⟩
  all_goals
    have : i = 0 ∨ i = 1 := by simp at hi; omega
    rcases this with rfl | rfl
    · (simp only [World.cell?]; rw [alloc_new]; rfl)
    · (simp only [World.cell?]; rw [alloc_new]; rfl)

theorem aw1 : Qu.parse (⟨#[97, 61, 49, 38, 98]⟩ : ByteArray).data.toList = some (([(⟨#[97]⟩, ⟨#[49]⟩), (⟨#[98]⟩, ⟨#[]⟩)] : List PairB).map pl) := by decide
theorem aw2 : Qu.parse (⟨#[97, 61, 37, 52, 97, 43]⟩ : ByteArray).data.toList = some (([(⟨#[97]⟩, ⟨#[74, 32]⟩)] : List PairB).map pl) := by decide
theorem aw3 : (tx [(⟨#[97]⟩, ⟨#[61, 38]⟩)]) = [97, 61, 37, 51, 68, 37, 50, 54] := by decide
theorem aw4 : Qu.parse (⟨#[38]⟩ : ByteArray).data.toList = none := by decide

set_option maxHeartbeats 800000 in
theorem awake_any (w : World) : Calls Tryd.prog 16 #[] w fun e w' => e = .returned (.bool true) ∧ Below w.heap.size w w' := by
  have H3 := hide aw3
  go_enter Tryd.func16, Tryd.ntmps16
  go_wp2_with fail
  refine (qparse_yes _ _ w (by decide) aw1).mono ?_
  rintro e w1 ⟨v1, rfl, hp1, hb1⟩
  go_wp2_with fail
  refine (qparse_yes _ _ w1 (by decide) aw2).mono ?_
  rintro e w2 ⟨v2, rfl, hp2, hb2⟩
  go_wp2_with fail
  refine (qtext_yes _ _ _ (Prs.lit1 w2 ⟨#[97]⟩ ⟨#[61, 38]⟩) (small_ok (by decide)) (by decide)).mono ?_
  rintro e w3 ⟨rfl, hb3⟩
  rw [H3.out]
  go_wp2_with fail
  refine (qparse_no _ w3 (by decide) aw4).mono ?_
  rintro e w4 ⟨rfl, hb4⟩
  have s2 := below_box hb3
  have q1 := ((hp1.below hb2).below s2).below hb4
  have q2 := (hp2.below s2).below hb4
  have B4 := ((hb1.trans (hb2.mono hb1.size)).trans (s2.mono (Nat.le_trans hb1.size hb2.size))).trans (hb4.mono (Nat.le_trans hb1.size (Nat.le_trans hb2.size s2.size)))
  clear hb1 hb2 hb3 hb4 s2 hp1 hp2
  go_wp2_with fail
  refine (psame_any _ _ _ _ _ (q1.below ((Below.refl _ _).alloc (Nat.le_refl _) _)) (Prs.lit2 w4 _ _ _ _)).mono ?_
  rintro e w5 ⟨rfl, hb5⟩
  rw [decide_eq_true rfl]
  have s5 := below_box hb5
  have q5 := q2.below s5
  go_wp2_with fail
  refine (psame_any _ _ _ _ _ (q5.below ((Below.refl _ _).alloc (Nat.le_refl _) _)) (Prs.lit1 w5 _ _)).mono ?_
  rintro e w6 ⟨rfl, hb6⟩
  rw [decide_eq_true rfl]
  have s6 := below_box hb6
  have B6 := (B4.trans (s5.mono B4.size)).trans (s6.mono (Nat.le_trans B4.size s5.size))
  go_wp2_with fail
  go_ret
  exact ⟨rfl, B6⟩

end Go.Proofs.YtmjjjlanafiilaaDoor
