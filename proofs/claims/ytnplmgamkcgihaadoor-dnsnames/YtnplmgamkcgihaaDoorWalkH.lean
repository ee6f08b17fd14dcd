/-
  Walks: Few; awake.
-/
import Derived.Test.YtnplmgamkcgihaaDoorWalkG
namespace Go.Proofs.YtnplmgamkcgihaaDoor
open Go Go.RowKit Go.Shelf

set_option maxHeartbeats 400000 in
theorem few_any (s : ByteArray) (w : World) (hs : s.size ≤ maxLen) :
    Calls Tryd.prog 10 #[.string s] w fun e w' => ∃ t : ByteArray, e = .returned (.string t) ∧ t.size ≤ 100 ∧ w' = w := by
  unfold maxLen at hs
  by_cases h : 100 < s.size
  · go_enter Tryd.func10, Tryd.ntmps10
    go_wp2
    go_ret
    exact ⟨_, rfl, by rw [ByteArray.size_extract]; omega, rfl⟩
  · go_enter Tryd.func10, Tryd.ntmps10
    go_wp2
    go_ret
    exact ⟨s, rfl, by omega, rfl⟩

theorem nm_a : D.isName (⟨#[97]⟩ : ByteArray).data.toList = true := by decide
theorem sp_e : D.maySp (⟨#[]⟩ : ByteArray).data.toList = true := by decide
theorem nm_abc : D.isName (⟨#[97, 46, 98, 45, 99]⟩ : ByteArray).data.toList = true := by decide
theorem parts_abc : parts 46 (⟨#[97, 46, 98, 45, 99]⟩ : ByteArray) = [⟨#[97]⟩, ⟨#[98, 45, 99]⟩] := by decide
theorem under_yes : under (⟨#[97, 46, 98, 46, 99]⟩ : ByteArray).data.toList (⟨#[98, 46, 99]⟩ : ByteArray).data.toList = true := by decide
theorem under_not : under (⟨#[120, 98, 46, 99]⟩ : ByteArray).data.toList (⟨#[98, 46, 99]⟩ : ByteArray).data.toList = false := by decide

theorem key_lit : (⟨#[]⟩ ++ ⟨#[47]⟩ ++ ⟨#[97]⟩ : ByteArray) = ⟨#[47, 97]⟩ := by decide

/-- a literal of two texts -/
theorem strs_two (w : World) (a b : ByteArray) : Strs (w.alloc (.cells #[.string a, .string b] 9)) (.slice (some ⟨w.heap.size, 0, none⟩) 2 2) [a, b] := by
  refine ⟨_, 2, rfl, fun i hi => ⟨_, rfl, by simp, ?_⟩⟩
  have h := World.alloc_heap_new w (.cells #[.string a, .string b] 9)
  have hi' : i < 2 := hi
  rcases i with _ | _ | i
  · simp only [World.cell?]; rw [h]; rfl
  · simp only [World.cell?]; rw [h]; rfl
  · omega

theorem small_len {s : ByteArray} (h : s.size ≤ 1000) : s.size ≤ maxLen := by unfold maxLen; omega

set_option maxHeartbeats 800000 in
theorem awake_any (w : World) : Calls Tryd.prog 20 #[] w fun e w' => e = .returned (.bool true) ∧ Below w.heap.size w w' := by
  go_enter Tryd.func20, Tryd.ntmps20
  go_wp2_with fail
  refine (key_yes _ _ _ (small_len (by decide)) (small_len (by decide)) sp_e nm_a).mono ?_
  rintro e w1 ⟨rfl, hb1⟩
  rw [key_lit]
  go_wp2_with fail
  refine (labels_yes _ _ (small_len (by decide)) nm_abc).mono ?_
  rintro e w2 ⟨v, rfl, hrow, hb2⟩
  rw [parts_abc] at hrow
  have hS := Strs.of_row rfl hrow
  clear hrow
  go_wp2_with fail
  have hS1 : Strs (w2.alloc (.cells #[.string ⟨#[97]⟩, .string ⟨#[98, 45, 99]⟩] 9)) v [⟨#[97]⟩, ⟨#[98, 45, 99]⟩] := hS.below ((Below.refl _ _).alloc (Nat.le_refl _) _)
  refine (same_any _ _ _ _ _ hS1 (strs_two w2 _ _) (by decide)).mono ?_
  rintro e w3 ⟨rfl, hb3⟩
  rw [decide_eq_true rfl]
  clear hS hS1
  go_wp2_with fail
  refine (under_any _ _ _ (small_len (by decide)) (small_len (by decide))).mono ?_
  rintro e w4 ⟨rfl, hb4⟩
  rw [under_yes]
  go_wp2_with fail
  refine (under_any _ _ _ (small_len (by decide)) (small_len (by decide))).mono ?_
  rintro e w5 ⟨rfl, hb5⟩
  rw [under_not]
  go_wp2_with fail
  go_ret
  have b2 := hb1.trans (hb2.mono hb1.size)
  have b3 := (b2.alloc b2.size _).trans (hb3.mono (Nat.le_trans b2.size (by simp)))
  have b4 := b3.trans (hb4.mono b3.size)
  exact ⟨rfl, b4.trans (hb5.mono b4.size)⟩

end Go.Proofs.YtnplmgamkcgihaaDoor
