/-
  Walks: awake (of the laws of labels).
-/
import Derived.Test.YtecnjbaanbakoaaDoorLaWalkG
import Derived.Test.YtecnjbaanbakoaaDoorLaWalkE
namespace Go.Proofs.YtecnjbaanbakoaaDoor
open Go Go.RowKit Go.Shelf

/-- the chapter's labels -/
abbrev exL : List PairB := [(⟨#[97]⟩, ⟨#[49]⟩), (⟨#[98]⟩, ⟨#[]⟩)]
theorem ex_ok : ∀ p ∈ exL, okP p := by
  intro p hp
  simp at hp
  rcases hp with rfl | rfl <;> exact ⟨by decide, by decide⟩
theorem mayV_0 : La.mayV ⟨#[]⟩ = true := by unfold La.mayV; rw [Lib.toList_data]; decide
theorem mayV_1 : La.mayV ⟨#[49]⟩ = true := by unfold La.mayV; rw [Lib.toList_data]; decide
theorem mayV_2 : La.mayV ⟨#[50]⟩ = true := by unfold La.mayV; rw [Lib.toList_data]; decide
theorem ex_may : La.mayL exL = true := by
  refine (La.mayL_good exL).2 ⟨by decide, fun p hp => ?_, ?_⟩
  · simp at hp
    rcases hp with rfl | rfl
    · exact ⟨by decide, mayV_1⟩
    · exact ⟨by decide, mayV_0⟩
  · refine List.Pairwise.cons (fun q hq => ?_) (List.pairwise_singleton _ _)
    simp at hq
    subst hq
    show Op.bytesLess _ _ = true
    rw [Lib.toList_data, Lib.toList_data]
    decide
theorem ex_met1 : La.met ⟨1, ⟨#[97]⟩, [⟨#[49]⟩, ⟨#[50]⟩]⟩ exL = true := by
  unfold La.met
  have h : La.mayN ⟨1, ⟨#[97]⟩, [⟨#[49]⟩, ⟨#[50]⟩]⟩ = true := by
    unfold La.mayN La.mayVs
    simp only [List.all_cons, List.all_nil, mayV_1, mayV_2]
    decide
  rw [ex_may, h]
  decide
theorem ex_met2 : La.met ⟨2, ⟨#[98]⟩, [⟨#[49]⟩]⟩ exL = true := by
  unfold La.met
  have h : La.mayN ⟨2, ⟨#[98]⟩, [⟨#[49]⟩]⟩ = true := by
    unfold La.mayN La.mayVs
    simp only [List.all_cons, List.all_nil, mayV_1]
    decide
  rw [ex_may, h]
  decide
theorem ex_met3 : La.met ⟨4, ⟨#[99]⟩, []⟩ exL = true := by
  unfold La.met
  have h : La.mayN ⟨4, ⟨#[99]⟩, []⟩ = true := by decide
  rw [ex_may, h]
  decide
theorem ex_raw1 : RawN ⟨1, ⟨#[97]⟩, [⟨#[49]⟩, ⟨#[50]⟩]⟩ := ⟨by decide, fun s hs => by simp at hs; rcases hs with rfl | rfl <;> decide⟩
theorem ex_raw2 : RawN ⟨2, ⟨#[98]⟩, [⟨#[49]⟩]⟩ := ⟨by decide, fun s hs => by simp at hs; subst hs; decide⟩
theorem ex_not : La.mayN ⟨4, ⟨#[99]⟩, []⟩ = true := by decide

set_option maxHeartbeats 1600000 in
theorem lawake_any (w : World) :
    Calls Tryd.prog 22 #[] w fun e w' => e = .returned (.bool true) ∧ Below w.heap.size w w' := by
  have C0 : ∀ W, Calls Tryd.prog 23 #[.agg #[.int .i64 4, .string ⟨#[99]⟩, .slice none 0 0]] W fun e w' => ∃ a c, e = .returned (.tuple #[.agg #[.int .i64 3, .string ⟨#[99]⟩, .slice a 0 c], .bool true]) ∧ Below W.heap.size W w' := fun W =>
    (lnot_yes ⟨⟨4, ⟨#[99]⟩, []⟩, none, 0⟩ W (Sl.nil W) ⟨by decide, fun s hs => absurd hs (by simp)⟩ (by decide) ex_not).mono (fun _ _ ⟨a, c, he, _, hb⟩ => ⟨a, c, he, hb⟩)
  have C0 := hide C0
  have C1 : ∀ W p, Sl ES W (.slice (some ⟨p, 0, none⟩) 2 2) [⟨#[49]⟩, ⟨#[50]⟩] → Prs W (.slice (some ⟨w.heap.size, 0, none⟩) 2 2) exL → Calls Tryd.prog 12 #[.agg #[.int .i64 1, .string ⟨#[97]⟩, .slice (some ⟨p, 0, none⟩) 2 2], .slice (some ⟨w.heap.size, 0, none⟩) 2 2] W fun e w' => e = .returned (.bool true) ∧ Below W.heap.size W w' := fun W p h1 h2 => by
    have := lmet_any ⟨⟨1, ⟨#[97]⟩, [⟨#[49]⟩, ⟨#[50]⟩]⟩, some ⟨p, 0, none⟩, 2⟩ _ exL W h1 ex_raw1 h2 ex_ok
    rw [ex_met1] at this
    exact this
  have C1 := hide C1
  have C2 : ∀ W p, Sl ES W (.slice (some ⟨p, 0, none⟩) 1 1) [⟨#[49]⟩] → Prs W (.slice (some ⟨w.heap.size, 0, none⟩) 2 2) exL → Calls Tryd.prog 12 #[.agg #[.int .i64 2, .string ⟨#[98]⟩, .slice (some ⟨p, 0, none⟩) 1 1], .slice (some ⟨w.heap.size, 0, none⟩) 2 2] W fun e w' => e = .returned (.bool true) ∧ Below W.heap.size W w' := fun W p h1 h2 => by
    have := lmet_any ⟨⟨2, ⟨#[98]⟩, [⟨#[49]⟩]⟩, some ⟨p, 0, none⟩, 1⟩ _ exL W h1 ex_raw2 h2 ex_ok
    rw [ex_met2] at this
    exact this
  have C2 := hide C2
  have C3 : ∀ W, Prs W (.slice (some ⟨w.heap.size, 0, none⟩) 2 2) exL → Calls Tryd.prog 12 #[.agg #[.int .i64 4, .string ⟨#[99]⟩, .slice none 0 0], .slice (some ⟨w.heap.size, 0, none⟩) 2 2] W fun e w' => e = .returned (.bool true) ∧ Below W.heap.size W w' := fun W h2 => by
    have := lmet_any ⟨⟨4, ⟨#[99]⟩, []⟩, none, 0⟩ _ exL W (Sl.nil W) ⟨by decide, fun s hs => absurd hs (by simp)⟩ h2 ex_ok
    rw [ex_met3] at this
    exact this
  have C3 := hide C3
  have PL : Prs (w.alloc (.cells #[.string ⟨#[97]⟩, .string ⟨#[49]⟩, .string ⟨#[98]⟩, .string ⟨#[]⟩] 41)) (.slice (some ⟨w.heap.size, 0, none⟩) 2 2) exL := Prs.lit2 w _ _ _ _
  have PL := hide PL
  have B0 := hide ((Below.refl w.heap.size w).alloc (Nat.le_refl _) (.cells #[.string ⟨#[97]⟩, .string ⟨#[49]⟩, .string ⟨#[98]⟩, .string ⟨#[]⟩] 41))
  go_enter Tryd.func22, Tryd.ntmps22
  go_wp2_with fail
  refine (C0.out _).mono ?_
  rintro e w1 ⟨a, c, rfl, hb1⟩
  go_wp2_with fail
  have B1 := ((Below.refl w1.heap.size w1).alloc (Nat.le_refl _) (.cells #[.int .i64 3, .string ⟨#[99]⟩, .slice a 0 c] 29)).alloc (by simp) (.cells #[.string ⟨#[49]⟩, .string ⟨#[50]⟩] 9)
  refine (C1.out _ _ (Sl.lit (E := ES) _ 9 [⟨#[49]⟩, ⟨#[50]⟩] _ rfl 2 _ rfl (by simp) (by omega) (fun _ _ => trivial)) (PL.out.below (bb2 hb1 B1))).mono ?_
  rintro e w2 ⟨rfl, hb2⟩
  have hN : w2.heap[w1.heap.size]? = some (.cells #[.int .i64 3, .string ⟨#[99]⟩, .slice a 0 c] 29) := box_block (below_box hb2)
  have BB2 := bb2 hb1 (bb2 B1 hb2)
  go_wp2_with fail
  have B2 := (Below.refl w2.heap.size w2).alloc (Nat.le_refl _) (.cells #[.string ⟨#[49]⟩] 9)
  refine (C2.out _ _ (Sl.lit (E := ES) _ 9 [⟨#[49]⟩] _ rfl 1 _ rfl (by simp) (by omega) (fun _ _ => trivial)) (PL.out.below (bb2 BB2 B2))).mono ?_
  rintro e w3 ⟨rfl, hb3⟩
  have BB3 := bb2 BB2 (bb2 B2 hb3)
  go_wp2_with fail
  refine (C3.out _ (PL.out.below BB3)).mono ?_
  rintro e w4 ⟨rfl, hb4⟩
  have hN4 := blk_below hN (bb2 B2 (bb2 hb3 hb4))
  have y0 := cellN hN4 (i := 0) rfl
  have y1 := cellN hN4 (i := 1) rfl
  go_wp2_with fail
  go_ret
  exact ⟨rfl, bb2 B0.out (bb2 BB3 hb4)⟩

end Go.Proofs.YtecnjbaanbakoaaDoor
