/-
  Walks: awake (of the laws of pairs).
-/
import Derived.Test.YtoaakhfedfameaaPbLawA
namespace Go.Proofs.Ytoaakhfedfameaa
open Go Go.RowKit Go.Shelf Go.Deep

theorem aw_get : getQ [(⟨#[104, 111, 115, 116]⟩, ⟨#[97]⟩)] ⟨#[72, 111, 115, 116]⟩ = some ⟨#[97]⟩ := by decide
theorem aw_set : setQ [(⟨#[97]⟩, ⟨#[49]⟩), (⟨#[98]⟩, ⟨#[50]⟩), (⟨#[65]⟩, ⟨#[52]⟩)] ⟨#[97]⟩ ⟨#[51]⟩ = [(⟨#[97]⟩, ⟨#[51]⟩), (⟨#[98]⟩, ⟨#[50]⟩)] := by decide
theorem aw_yes : holdsQ true [(⟨#[120]⟩, ⟨#[49]⟩)] [(⟨#[88]⟩, ⟨#[49]⟩)] = true := by decide
theorem aw_no : holdsQ false [(⟨#[120]⟩, ⟨#[49]⟩)] [(⟨#[88]⟩, ⟨#[49]⟩)] = false := by decide
theorem Prs.lit3 (w : World) (a b c d e f : ByteArray) : Prs (w.alloc (.cells #[.string a, .string b, .string c, .string d, .string e, .string f] 38)) (.slice (some ⟨w.heap.size, 0, none⟩) 3 3) [(a, b), (c, d), (e, f)] := by
  refine ⟨_, 3, rfl, Nat.le_refl _, by decide, fun i hi => ⟨w.heap.size, 0, rfl, by simp, ?_, ?_⟩⟩
  all_goals
    have : i = 0 ∨ i = 1 ∨ i = 2 := by simp at hi; omega
    rcases this with rfl | rfl | rfl
    all_goals
      simp only [World.cell?]
      rw [alloc_new]
      rfl

theorem Prs.lit2at (w : World) (n : Nat) (h : w.heap.size = n) (a b c d : ByteArray) : Prs (w.alloc (.cells #[.string a, .string b, .string c, .string d] 38)) (.slice (some ⟨n, 0, none⟩) 2 2) [(a, b), (c, d)] := by
  subst h
  exact Prs.lit2 w a b c d

set_option maxHeartbeats 800000 in
theorem bawake_any (w : World) : Calls Try.prog 22 #[] w fun e w' => e = .returned (.bool true) ∧ Below w.heap.size w w' := by
  have H1 := hide aw_get
  have H2 := hide aw_set
  have H3 := hide aw_yes
  have H4 := hide aw_no
  go_enter Try.func22, Try.ntmps22
  go_wp2_with fail
  refine (get_any _ _ _ _ (by decide) (Prs.lit1 w _ _) (ok_small (by decide))).mono ?_
  rintro e w1 ⟨rfl, hb1⟩
  rw [H1.out]
  simp only [valO, Option.getD_some, Option.isSome_some]
  have s1 := below_box hb1
  clear hb1
  go_wp2_with fail
  refine (set_any _ _ _ _ _ (by decide) (Prs.lit3 w1 _ _ _ _ _ _) (ok_small (by decide)) (by decide)).mono ?_
  rintro e w2 ⟨v2, rfl, hp2, hb2⟩
  rw [H2.out] at hp2
  have s2 := bb2 s1 (below_box hb2)
  have hp2' := hide hp2
  clear hb2 s1 hp2
  have px := hide (fun o => (Prs.lit1 w2 ⟨#[120]⟩ ⟨#[49]⟩).below ((Below.refl _ _).alloc (Nat.le_refl _) o))
  have py := hide (Prs.at1 (w2.alloc (.cells #[.string ⟨#[120]⟩, .string ⟨#[49]⟩] 38)) (w2.heap.size + 1) (by simp) ⟨#[88]⟩ ⟨#[49]⟩)
  have s3 : Below w2.heap.size w2 ((w2.alloc (.cells #[.string ⟨#[120]⟩, .string ⟨#[49]⟩] 38)).alloc (.cells #[.string ⟨#[88]⟩, .string ⟨#[49]⟩] 38)) := ((Below.refl _ _).alloc (Nat.le_refl _) _).alloc (by simp) _
  go_wp2_with fail
  refine (psame_any _ v2 _ _ _ ((hp2'.out.below s3).below ((Below.refl _ _).alloc (Nat.le_refl _) _)) (Prs.lit2at _ _ (by simp) _ _ _ _)).mono ?_
  rintro e w4 ⟨rfl, hb4⟩
  rw [decide_eq_true rfl]
  have s4 := below_box hb4
  clear hb4
  go_wp2_with fail
  refine (holds_any _ _ _ _ _ _ ((px.out _).below s4) (ok_small (by decide)) (py.out.below s4) (ok_small (by decide))).mono ?_
  rintro e w5 ⟨rfl, hb5⟩
  rw [H3.out]
  have s5 := bb2 s4 hb5
  go_wp2_with fail
  refine (holds_any _ _ _ _ _ _ ((px.out _).below s5) (ok_small (by decide)) (py.out.below s5) (ok_small (by decide))).mono ?_
  rintro e w6 ⟨rfl, hb6⟩
  rw [H4.out]
  have s6 := bb2 s5 hb6
  go_wp2_with fail
  go_ret
  exact ⟨rfl, bb2 (bb2 s2 s3) s6⟩

end Go.Proofs.Ytoaakhfedfameaa
