/-
  Walks: strings.SplitSeq, dns.Name.
-/
import Derived.Test.YtmjjjlanafiilaaDoorWalkC
import Derived.Test.YtmjjjlanafiilaaDoorWalkA
namespace Go.Proofs.YtmjjjlanafiilaaDoor
open Go Go.RowKit Go.Shelf

attribute [local go_sem] Oper.semAt_some

/-- the world behind SplitSeq -/
def boxed3 (w : World) (s sep : ByteArray) : World := ((w.alloc (.cells #[.string s] 9)).alloc (.cells #[.string sep] 9)).alloc (.cells #[.int .i64 0] 3)
abbrev itv (B : Nat) : Value := .func (.func 37) #[] #[.pointer (some ⟨B + 1, 0, none⟩), .pointer (some ⟨B, 0, none⟩), .pointer (some ⟨B + 2, 0, none⟩)]

set_option maxHeartbeats 400000 in
theorem splitSeq_any (s sep : ByteArray) (w : World) :
    Calls Tryd.prog 31 #[.string s, .string sep, .int .i64 0] w fun e w' => e = .returned (itv w.heap.size) ∧ w' = boxed3 w s sep := by
  go_enter Tryd.func31, Tryd.ntmps31
  go_wp2
  go_ret
  exact ⟨rfl, rfl⟩

set_option maxHeartbeats 400000 in
theorem SplitSeq_any (s sep : ByteArray) (w : World) :
    Calls Tryd.prog 25 #[.string s, .string sep] w fun e w' => e = .returned (itv w.heap.size) ∧ w' = boxed3 w s sep := by
  go_enter Tryd.func25, Tryd.ntmps25
  go_wp2_with (go_at_call 31; refine (splitSeq_any _ _ _).mono ?_; rintro e w' ⟨rfl, rfl⟩)
  go_ret
  exact ⟨rfl, rfl⟩

theorem boxed3_size (w : World) (s sep : ByteArray) : (boxed3 w s sep).heap.size = w.heap.size + 3 := by simp [boxed3]
theorem boxed3_below (w : World) (s sep : ByteArray) (n : Nat) (h : n ≤ w.heap.size) : Below n w (boxed3 w s sep) :=
  (((Below.refl n w).alloc h _).alloc (by simp; omega) _).alloc (by simp; omega) _
theorem boxed3_c0 (w : World) (s sep : ByteArray) : Boxed (boxed3 w s sep) w.heap.size 9 (.string s) :=
  ((Boxed.new w 9 (.string s)).alloc _).alloc _
theorem boxed3_c1 (w : World) (s sep : ByteArray) : Boxed (boxed3 w s sep) (w.heap.size + 1) 9 (.string sep) := by
  have h := Boxed.new (w.alloc (.cells #[.string s] 9)) 9 (.string sep)
  rw [World.size_alloc] at h
  exact h.alloc _
theorem boxed3_c2 (w : World) (s sep : ByteArray) : Boxed (boxed3 w s sep) (w.heap.size + 2) 3 (.int .i64 0) := by
  have h := Boxed.new ((w.alloc (.cells #[.string s] 9)).alloc (.cells #[.string sep] 9)) 3 (.int .i64 0)
  simp only [World.size_alloc] at h
  exact h

theorem boxed_far {W : World} {B B' : Nat} {t : TypeId} {v : Value} (h : Boxed W B t v) (hne : B ≠ B') (u : Value) : Boxed (W.setCell ⟨B', 0, none⟩ u) B t v :=
  (Below.heap_setCell W ⟨B', 0, none⟩ u B hne).trans h

/-- the iterator that SplitSeq hands back, in the world behind it and later -/
theorem split_steps (n : Nat) (c : UInt8) (s : ByteArray) (w W : World) (hs : s.size ≤ maxLen) (hW : W = boxed3 w s ⟨#[c]⟩) :
    SeqSteps Fence.wide n Tryd.prog 37 #[.pointer (some ⟨w.heap.size + 1, 0, none⟩), .pointer (some ⟨w.heap.size, 0, none⟩), .pointer (some ⟨w.heap.size + 2, 0, none⟩)] (parts c s) w.heap.size w.heap.size (w.heap.size + 3) W := by
  subst hW
  exact seq_steps n w.heap.size c s _ hs (by rw [boxed3_size]; omega) (boxed3_c0 ..).cell (boxed3_c0 ..).frozen (boxed3_c1 ..).cell (boxed3_c2 ..).cell

theorem name_of_parts (s : ByteArray) (h : s.size ≤ 60) (hall : ∀ j (hj : j < (parts 46 s).length), D.isLabel (parts 46 s)[j].data.toList = true) : D.isName s.data.toList = true := by
  unfold D.isName
  rw [Bool.and_eq_true]
  refine ⟨decide_eq_true (by simpa using h), List.all_eq_true.2 fun p hp => ?_⟩
  obtain ⟨j, hj, rfl⟩ := List.getElem_of_mem hp
  have := hall j (by rw [parts_len]; exact hj)
  simpa [parts] using this
theorem not_name_of_part (s : ByteArray) {j : Nat} (hj : j < (parts 46 s).length) (h : D.isLabel (parts 46 s)[j].data.toList = false) : D.isName s.data.toList = false := by
  unfold D.isName
  rw [Bool.and_eq_false_iff]
  right
  rw [List.all_eq_false]
  refine ⟨(D.spl 46 s.data.toList)[j]'(by rw [← parts_len]; exact hj), List.getElem_mem _, ?_⟩
  have : D.isLabel ((D.spl 46 s.data.toList)[j]'(by rw [← parts_len]; exact hj)) = false := by simpa [parts] using h
  simp [this]
theorem part_size (c : UInt8) (s : ByteArray) {j : Nat} (hj : j < (parts c s).length) : (parts c s)[j].size ≤ s.size := by
  have hm : (D.spl c s.data.toList)[j]'(by rw [← parts_len]; exact hj) ∈ D.spl c s.data.toList := List.getElem_mem _
  have := D.spl_len _ hm
  have e : (parts c s)[j] = ⟨((D.spl c s.data.toList)[j]'(by rw [← parts_len]; exact hj)).toArray⟩ := by simp only [parts, List.getElem_map]
  rw [e]
  have e2 : s.size = s.data.toList.length := by simp
  rw [e2]
  show (List.toArray _).size ≤ _
  rw [List.size_toArray]
  exact this

end Go.Proofs.YtmjjjlanafiilaaDoor
