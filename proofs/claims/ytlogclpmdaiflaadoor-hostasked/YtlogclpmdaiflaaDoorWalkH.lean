/-
  Walks: Few; awake.
-/
import Derived.Test.YtlogclpmdaiflaaDoorWalkG
namespace Go.Proofs.YtlogclpmdaiflaaDoor
open Go Go.RowKit Go.Shelf

set_option maxHeartbeats 400000 in
theorem few_any (s : ByteArray) (w : World) (hs : s.size ≤ maxLen) :
    Calls Tryd.prog 11 #[.string s] w fun e w' => ∃ t : ByteArray, e = .returned (.string t) ∧ t.size ≤ 100 ∧ w' = w := by
  unfold maxLen at hs
  by_cases h : 100 < s.size
  · go_enter Tryd.func11, Tryd.ntmps11
    go_wp2
    go_ret
    exact ⟨_, rfl, by rw [ByteArray.size_extract]; omega, rfl⟩
  · go_enter Tryd.func11, Tryd.ntmps11
    go_wp2
    go_ret
    exact ⟨s, rfl, by omega, rfl⟩

theorem nm_a : D.isName (⟨#[97]⟩ : ByteArray).data.toList = true := by decide
theorem sp_e : D.maySp (⟨#[]⟩ : ByteArray).data.toList = true := by decide
theorem nm_abc : D.isName (⟨#[97, 46, 98, 45, 99]⟩ : ByteArray).data.toList = true := by decide
theorem parts_abc : parts 46 (⟨#[97, 46, 98, 45, 99]⟩ : ByteArray) = [⟨#[97]⟩, ⟨#[98, 45, 99]⟩] := by decide
theorem under_yes : under (⟨#[97, 46, 98, 46, 99]⟩ : ByteArray).data.toList (⟨#[98, 46, 99]⟩ : ByteArray).data.toList = true := by decide
theorem under_not : under (⟨#[120, 98, 46, 99]⟩ : ByteArray).data.toList (⟨#[98, 46, 99]⟩ : ByteArray).data.toList = false := by decide

theorem key_lit : (⟨#[]⟩ ++ ⟨#[47]⟩ ++ ⟨#[97]⟩ : ByteArray) = ⟨#[47, 97]⟩ := by decide

/-- a literal of two texts -/
theorem strs_two (w : World) (a b : ByteArray) : Strs (w.alloc (.cells #[.string a, .string b] 9)) (.slice (some ⟨w.heap.size, 0, none⟩) 2 2) [a, b] := by
  refine ⟨_, 2, rfl, fun i hi => ⟨_, rfl, by simp, ?_⟩⟩
  have h := World.alloc_heap_new w (.cells #[.string a, .string b] 9)
  have hi' : i < 2 := hi
  rcases i with _ | _ | i
  · simp only [World.cell?]; rw [h]; rfl
  · simp only [World.cell?]; rw [h]; rfl
  · omega

theorem small_len {s : ByteArray} (h : s.size ≤ 1000) : s.size ≤ maxLen := by unfold maxLen; omega

end Go.Proofs.YtlogclpmdaiflaaDoor
