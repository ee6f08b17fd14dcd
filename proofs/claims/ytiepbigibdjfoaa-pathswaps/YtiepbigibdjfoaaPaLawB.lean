/-
  The laws PathExact.
-/
import Derived.Test.YtiepbigibdjfoaaPaLawA
namespace Go.Proofs.Ytiepbigibdjfoaa
open Go Go.RowKit Go.Shelf

/-- two structs of two fields that were laid one behind the other: their cells in whatever world grows of it -/
theorem gb2_cells (w : World) (a b c d : Value) (t : Nat) :
    (∀ p : GB ((w.alloc (.cells #[a, b] t)).alloc (.cells #[c, d] t)), p.W.cell? ⟨w.heap.size, 0, none⟩ = some a) ∧
    (∀ p : GB ((w.alloc (.cells #[a, b] t)).alloc (.cells #[c, d] t)), p.W.cell? ⟨w.heap.size, 1, none⟩ = some b) ∧
    (∀ p : GB ((w.alloc (.cells #[a, b] t)).alloc (.cells #[c, d] t)), p.W.cell? ⟨w.heap.size + 1, 0, none⟩ = some c) ∧
    (∀ p : GB ((w.alloc (.cells #[a, b] t)).alloc (.cells #[c, d] t)), p.W.cell? ⟨w.heap.size + 1, 1, none⟩ = some d) := by
  have h1 : ∀ p : GB ((w.alloc (.cells #[a, b] t)).alloc (.cells #[c, d] t)), p.W.heap[w.heap.size]? = some (.cells #[a, b] t) := fun p => by
    rw [p.h.block _ (by simp; omega), Below.heap_alloc _ _ _ (by simp)]
    exact alloc_new w _
  have h2 : ∀ p : GB ((w.alloc (.cells #[a, b] t)).alloc (.cells #[c, d] t)), p.W.heap[w.heap.size + 1]? = some (.cells #[c, d] t) := fun p => by
    rw [p.h.block _ (by simp)]
    have := alloc_new (w.alloc (.cells #[a, b] t)) (.cells #[c, d] t)
    simpa using this
  refine ⟨fun p => ?_, fun p => ?_, fun p => ?_, fun p => ?_⟩
  · simp only [World.cell?]; rw [h1]; rfl
  · simp only [World.cell?]; rw [h1]; rfl
  · simp only [World.cell?]; rw [h2]; rfl
  · simp only [World.cell?]; rw [h2]; rfl
theorem below_box2 {w w1 : World} {o o2 : Obj} (h : Below ((w.alloc o).alloc o2).heap.size ((w.alloc o).alloc o2) w1) : Below w.heap.size w w1 :=
  (((Below.refl _ _).alloc (Nat.le_refl _) _).alloc (by simp) _).trans (h.mono (by simp; omega))

set_option maxHeartbeats 1600000 in
theorem pathExact_any (s0 m0 : ByteArray) (w : World) (hs0 : s0.size ≤ maxLen) (hm0 : m0.size ≤ maxLen) :
    Calls Try.prog 8 #[.string s0, .string m0] w fun e w' => e = .returned (.bool true) ∧ Below w.heap.size w w' := by
  go_enter Try.func8, Try.ntmps8
  go_wp2_with fail
  refine (fewB_any _ _ hs0).mono ?_
  rintro e x ⟨rfl, hx⟩
  subst x
  go_wp2_with fail
  refine (fewB_any _ _ hm0).mono ?_
  rintro e x ⟨rfl, hx⟩
  subst x
  go_wp2_with fail
  have ls := fewB_le s0
  have lm := fewB_le m0
  generalize fewB s0 = s at *
  generalize fewB m0 = m at *
  clear hs0 hm0
  have hs : s.size ≤ maxLen := small_len (by omega)
  have hm : m.size ≤ maxLen := small_len (by omega)
  obtain ⟨ca, cb, cc, cd⟩ := gb2_cells w (.int .i64 1) (.string s) (.int .i64 2) (.string s) 23
  cases hA : isP s.data.toList
  · have hB : abv s.data.toList = false := by unfold abv; rw [hA]; rfl
    have M1 : Hid (mayP 1 s.data.toList = false) := by unfold Hid; rw [may1, hA]
    have M2 : Hid (mayP 2 s.data.toList = false) := by unfold Hid; rw [may2, hB]
    have H1 : Hid (holdP 1 s.data.toList s.data.toList = false) := by unfold Hid; rw [hold1_self, hA]
    have H2 : Hid (holdP 1 s.data.toList m.data.toList = false) := by unfold Hid; rw [hold1, hA]; rfl
    have HI := hide hA
    clear hA hB
    refine (calls_gb0 (may_any _ _ _ hs)).mono ?_
    rintro e x ⟨rfl, q, rfl⟩
    rw [M1.out]
    go_wp2_with fail
    refine (calls_gb (isPath_any _ _ hs)).mono ?_
    rintro e x ⟨rfl, q, rfl⟩
    rw [HI.out]
    go_wp2_with fail
    refine (calls_gb (may_any _ _ _ hs)).mono ?_
    rintro e x ⟨rfl, q, rfl⟩
    rw [M2.out]
    go_wp2_with fail
    refine (calls_gb (pholds_any _ _ _ _ hs hs)).mono ?_
    rintro e x ⟨rfl, q, rfl⟩
    rw [H1.out]
    go_wp2_with fail
    refine (calls_gb (isPath_any _ _ hs)).mono ?_
    rintro e x ⟨rfl, q, rfl⟩
    rw [HI.out]
    go_wp2_with fail
    refine (calls_gb (pholds_any _ _ _ _ hs hm)).mono ?_
    rintro e x ⟨rfl, q, rfl⟩
    rw [H2.out]
    go_wp2_with fail
    refine (calls_gb (isPath_any _ _ hs)).mono ?_
    rintro e x ⟨rfl, q, rfl⟩
    rw [HI.out]
    go_wp2_with fail
    refine (calls_gb (may_any _ _ _ hs)).mono ?_
    rintro e x ⟨rfl, q, rfl⟩
    rw [M2.out]
    go_wp2_with fail
    refine (calls_gb (pawake_any _)).mono ?_
    rintro e x ⟨rfl, q, rfl⟩
    go_wp2_with fail
    go_ret
    exact ⟨rfl, below_box2 q.h⟩
  · cases hB : abv s.data.toList
    · have M1 : Hid (mayP 1 s.data.toList = true) := by unfold Hid; rw [may1, hA]
      have M2 : Hid (mayP 2 s.data.toList = false) := by unfold Hid; rw [may2, hB]
      have H1 : Hid (holdP 1 s.data.toList s.data.toList = true) := by unfold Hid; rw [hold1_self, hA]
      have H2 : Hid (holdP 1 s.data.toList m.data.toList = (s.toList == m.toList)) := by unfold Hid; rw [hold1, hA, list_beq]; rfl
      have HI := hide hA
      clear hA hB
      cases hE : (s.toList == m.toList)
      all_goals
        refine (calls_gb0 (may_any _ _ _ hs)).mono ?_
        rintro e x ⟨rfl, q, rfl⟩
        rw [M1.out]
        go_wp2_with fail
        refine (calls_gb (isPath_any _ _ hs)).mono ?_
        rintro e x ⟨rfl, q, rfl⟩
        rw [HI.out]
        go_wp2_with fail
        refine (calls_gb (may_any _ _ _ hs)).mono ?_
        rintro e x ⟨rfl, q, rfl⟩
        rw [M2.out]
        go_wp2_with fail
        refine (calls_gb (pholds_any _ _ _ _ hs hs)).mono ?_
        rintro e x ⟨rfl, q, rfl⟩
        rw [H1.out]
        go_wp2_with fail
        refine (calls_gb (isPath_any _ _ hs)).mono ?_
        rintro e x ⟨rfl, q, rfl⟩
        rw [HI.out]
        go_wp2_with fail
        refine (calls_gb (pholds_any _ _ _ _ hs hm)).mono ?_
        rintro e x ⟨rfl, q, rfl⟩
        rw [H2.out, hE]
        go_wp2_with fail
        refine (calls_gb (isPath_any _ _ hs)).mono ?_
        rintro e x ⟨rfl, q, rfl⟩
        rw [HI.out]
        go_wp2_with fail
        refine (calls_gb (may_any _ _ _ hs)).mono ?_
        rintro e x ⟨rfl, q, rfl⟩
        rw [M2.out]
        go_wp2_with fail
        refine (calls_gb (pawake_any _)).mono ?_
        rintro e x ⟨rfl, q, rfl⟩
        go_wp2_with fail
        go_ret
        exact ⟨rfl, below_box2 q.h⟩
    · have M1 : Hid (mayP 1 s.data.toList = true) := by unfold Hid; rw [may1, hA]
      have M2 : Hid (mayP 2 s.data.toList = true) := by unfold Hid; rw [may2, hB]
      have H1 : Hid (holdP 1 s.data.toList s.data.toList = true) := by unfold Hid; rw [hold1_self, hA]
      have H2 : Hid (holdP 1 s.data.toList m.data.toList = (s.toList == m.toList)) := by unfold Hid; rw [hold1, hA, list_beq]; rfl
      have H3 := hide (hold2_self hB)
      have H4 : Hid (holdP 2 s.data.toList (s ++ ⟨#[47]⟩ ++ m : ByteArray).data.toList = isP (s ++ ⟨#[47]⟩ ++ m : ByteArray).data.toList) := by unfold Hid; rw [app_data, app_data]; exact hold2_more _ hB
      have ht : (s ++ ⟨#[47]⟩ ++ m : ByteArray).size ≤ maxLen := small_len (by rw [ByteArray.size_append, ByteArray.size_append]; show s.size + 1 + m.size ≤ 1000; omega)
      have HI := hide hA
      clear hA hB
      cases hE : (s.toList == m.toList)
      all_goals
        cases hC : isP (s ++ ⟨#[47]⟩ ++ m : ByteArray).data.toList
        all_goals
          have HC := hide hC
          clear hC
          refine (calls_gb0 (may_any _ _ _ hs)).mono ?_
          rintro e x ⟨rfl, q, rfl⟩
          rw [M1.out]
          go_wp2_with fail
          refine (calls_gb (isPath_any _ _ hs)).mono ?_
          rintro e x ⟨rfl, q, rfl⟩
          rw [HI.out]
          go_wp2_with fail
          refine (calls_gb (may_any _ _ _ hs)).mono ?_
          rintro e x ⟨rfl, q, rfl⟩
          rw [M2.out]
          go_wp2_with fail
          refine (calls_gb (may_any _ _ _ hs)).mono ?_
          rintro e x ⟨rfl, q, rfl⟩
          rw [M1.out]
          go_wp2_with fail
          refine (calls_gb (pholds_any _ _ _ _ hs hs)).mono ?_
          rintro e x ⟨rfl, q, rfl⟩
          rw [H1.out]
          go_wp2_with fail
          refine (calls_gb (isPath_any _ _ hs)).mono ?_
          rintro e x ⟨rfl, q, rfl⟩
          rw [HI.out]
          go_wp2_with fail
          refine (calls_gb (pholds_any _ _ _ _ hs hm)).mono ?_
          rintro e x ⟨rfl, q, rfl⟩
          rw [H2.out, hE]
          go_wp2_with fail
          refine (calls_gb (isPath_any _ _ hs)).mono ?_
          rintro e x ⟨rfl, q, rfl⟩
          rw [HI.out]
          go_wp2_with fail
          refine (calls_gb (may_any _ _ _ hs)).mono ?_
          rintro e x ⟨rfl, q, rfl⟩
          rw [M2.out]
          go_wp2_with fail
          refine (calls_gb (pholds_any _ _ _ _ hs hs)).mono ?_
          rintro e x ⟨rfl, q, rfl⟩
          rw [H3.out]
          go_wp2_with fail
          refine (calls_gb (pholds_any _ _ _ _ hs ht)).mono ?_
          rintro e x ⟨rfl, q, rfl⟩
          rw [H4.out, HC.out]
          go_wp2_with fail
          refine (calls_gb (isPath_any _ _ ht)).mono ?_
          rintro e x ⟨rfl, q, rfl⟩
          rw [HC.out]
          go_wp2_with fail
          refine (calls_gb (pawake_any _)).mono ?_
          rintro e x ⟨rfl, q, rfl⟩
          go_wp2_with fail
          go_ret
          exact ⟨rfl, below_box2 q.h⟩

end Go.Proofs.Ytiepbigibdjfoaa
