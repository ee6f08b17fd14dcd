/-
  Walks: strings.Index at a text of one octet.
-/
import Derived.Test.YtblmdcpcekoogaaGreatDoorIdx
import Derived.Test.YtblmdcpcekoogaaGreatDoorPlain
import Derived.Lib.Bytealg
import Derived.Lib.Strings
namespace Go.Proofs.YtblmdcpcekoogaaGreatDoor
set_option maxRecDepth 20000
open Go Go.RowKit

set_option maxHeartbeats 400000 in
theorem index1_any (s : ByteArray) (c : UInt8) (w : World) :
    Calls Tryz.prog 273 #[.string s, .string ⟨#[c]⟩] w fun e w' => e = .returned (.int .i64 (Lib.indexByte s.data.toList c)) ∧ w' = w := by
  cases h : ([c] == s.toList)
  · go_enter Tryz.func273, Tryz.ntmps273
    go_wp2_with (go_at_call 284; refine (indexByte_any _ _ _).mono ?_; rintro e w' ⟨rfl, rfl⟩)
    go_ret
    exact ⟨ret_int rfl, rfl⟩
  · have hx : Hid (Lib.indexByte s.data.toList c = 0) := by
      have := eq_of_beq h
      rw [Lib.toList_data] at this
      unfold Hid
      rw [← this]
      simp [Lib.indexByte]
    go_enter Tryz.func273, Tryz.ntmps273
    go_wp2
    go_ret
    exact ⟨ret_int hx.out.symm, rfl⟩

set_option maxHeartbeats 400000 in
theorem index_any (s : ByteArray) (c : UInt8) (w : World) :
    Calls Tryz.prog 250 #[.string s, .string ⟨#[c]⟩] w fun e w' => e = .returned (.int .i64 (Lib.indexByte s.data.toList c)) ∧ w' = w := by
  go_enter Tryz.func250, Tryz.ntmps250
  go_wp2_with (go_at_call 273; refine (index1_any _ _ _).mono ?_; rintro e w' ⟨rfl, rfl⟩)
  go_ret
  exact ⟨rfl, rfl⟩

/-- what the first place of an octet says of the parts -/
theorem idx_cases (c : UInt8) (l : List UInt8) : (Lib.indexByte l c = -1 ∧ ∀ x ∈ l, x ≠ c) ∨
    ∃ i : Nat, i < l.length ∧ Lib.indexByte l c = i ∧ l = l.take i ++ c :: l.drop (i + 1) ∧ ∀ x ∈ l.take i, x ≠ c := by
  induction l with
  | nil => left; simp [Lib.indexByte]
  | cons a r ih =>
    by_cases h : a = c
    · right
      exact ⟨0, by simp, by simp [Lib.indexByte, h], by simp [h], by simp⟩
    · rcases ih with ⟨h1, h2⟩ | ⟨i, h1, h2, h3, h4⟩
      · left
        refine ⟨by simp [Lib.indexByte, h, h1], ?_⟩
        intro x hx
        rcases List.mem_cons.1 hx with rfl | hx
        · exact h
        · exact h2 x hx
      · right
        refine ⟨i + 1, by simp; omega, ?_, ?_, ?_⟩
        · have hne : ¬ ((i : Int) = -1) := by omega
          simp [Lib.indexByte, h, h2, hne]
        · simp; exact h3
        · intro x hx
          simp at hx
          rcases hx with rfl | hx
          · exact h
          · exact h4 x hx

theorem spl_idx_none {c : UInt8} {l : List UInt8} (h : ∀ x ∈ l, x ≠ c) : D.spl c l = [l] := D.spl_none h
theorem spl_idx_some {c : UInt8} {l : List UInt8} {i : Nat} (h : l = l.take i ++ c :: l.drop (i + 1)) (h' : ∀ x ∈ l.take i, x ≠ c) : D.spl c l = l.take i :: D.spl c (l.drop (i + 1)) := by
  conv => lhs; rw [h]
  exact D.spl_at h'

end Go.Proofs.YtblmdcpcekoogaaGreatDoor
