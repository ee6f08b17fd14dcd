/-
  An argument that is a path that is asked for; the law PathHolds.
-/
import Derived.Test.YtiepbigibdjfoaaPaRefA
namespace Go.Proofs.Ytiepbigibdjfoaa
open Go Go.RowKit Go.Shelf Go.ChangeShapes Go.WideShapes

attribute [local go_sem] gb_const

/-- a path that is asked for -/
def ArgPath (v : Value) : Prop := ∃ (k : Int) (s : ByteArray), v = .agg #[.int .i64 k, .string s] ∧ s.size ≤ maxLen

theorem argPath_open {H : Type} {enc : TypeId × Value → H} {W : World} {base : Nat} {v : Value} {d : DataW H} {ps : List MemPlace} (hval : Value.okWide Try.prog W .any base 23 v)
    (h : DataW.Trod enc Try.prog W 0 (fun _ => true) true 23 v d ps) : ArgPath v := by
  obtain ⟨v0, v1, y0, y1, n, rfl, -, -, h0, h1⟩ := Joins.open_agg2 Try.underlying23 (by kernel_rfl) (by kernel_rfl) hval h
  obtain ⟨k0, e0, _, _⟩ := DataW.trod_int Try.underlying3 h0
  obtain ⟨s1, e1, _, z1⟩ := DataW.trod_string Try.underlying9 h1
  simp only [List.cons.injEq, and_true] at e0 e1
  subst e0 e1
  exact ⟨k0, s1, rfl, z1⟩

/-- one struct of two fields, written anew -/
def set1 (q : World) (n : Nat) (a b : Value) : World := (q.setCell ⟨n, 0, none⟩ a).setCell ⟨n, 1, none⟩ b
theorem set1_block {q : World} {n : Nat} {a b a' b' : Value} {t : Nat} (h1 : q.heap[n]? = some (.cells #[a, b] t)) : (set1 q n a' b').heap[n]? = some (.cells #[a', b'] t) :=
  set_block1 (b := b) _ (set_block0 (a := a) (b := b) _ h1)
theorem set1_below {w q : World} {n : Nat} {a b : Value} (h : Below w.heap.size w q) (hn : w.heap.size ≤ n) : Below w.heap.size w (set1 q n a b) :=
  (h.setCell (p := ⟨n, 0, none⟩) hn _).setCell (p := ⟨n, 1, none⟩) hn _
theorem set1_size {q : World} {n : Nat} {a b : Value} : (set1 q n a b).heap.size = q.heap.size := by simp [set1, World.setCell]

set_option maxHeartbeats 3200000 in
theorem pathHolds_any (v0 : Value) (s0 : ByteArray) (w : World) (h0 : ArgPath v0) (hs0 : s0.size ≤ maxLen) :
    Calls Try.prog 3 #[v0, .string s0] w fun e w' => e = .returned (.bool true) ∧ Below w.heap.size w w' := by
  obtain ⟨k, u0, rfl, hu0⟩ := h0
  go_enter Try.func3, Try.ntmps3
  go_wp2_with fail
  refine (pfew_any _ _ _ hu0).mono ?_
  rintro e w1 ⟨rfl, hb1⟩
  have bb := box_block hb1
  have c0 := block_fst bb
  have c1 := block_snd bb
  have l0 := fun i => block_live (i := i) bb
  go_wp2_with fail
  refine (fewB_any _ _ hs0).mono ?_
  rintro e x ⟨rfl, hx⟩
  subst x
  go_wp2_with fail
  change Code.wp _ _ _ _ (set1 w1 w.heap.size (.int .i64 k) (.string (fewB u0)))
  have S := set1_block (a' := .int .i64 k) (b' := .string (fewB u0)) bb
  have BB : Below w.heap.size w (set1 w1 w.heap.size (.int .i64 k) (.string (fewB u0))) := set1_below (below_box hb1) (Nat.le_refl _)
  generalize set1 w1 w.heap.size (.int .i64 k) (.string (fewB u0)) = W at *
  have hn := lt_of_block S
  have m0 : ∀ p : GB W, p.W.cell? ⟨w.heap.size, 0, none⟩ = some (.int .i64 k) := fun p => block_fst ((p.h.block _ hn).trans S)
  have m1 : ∀ p : GB W, p.W.cell? ⟨w.heap.size, 1, none⟩ = some (.string (fewB u0)) := fun p => block_snd ((p.h.block _ hn).trans S)
  have lv := fewB_le u0
  have ls := fewB_le s0
  generalize fewB u0 = v at *
  generalize fewB s0 = s at *
  clear hu0 hs0 c0 c1 l0 bb S hn hb1
  have hv : v.size ≤ maxLen := small_len (by omega)
  have hs : s.size ≤ maxLen := small_len (by omega)
  refine wp_region_below (by kernel_rfl) (by kernel_rfl) ?_
  repeat (first | go_big_quiet_step ((first | (go_at_call 12; exact calls_gb (isPath_any _ _ hs)) | (go_at_call 13; exact calls_gb_same (ris_any _ _ hs)) | (go_at_call 14; exact calls_gb (may_any _ _ _ hv)) | (go_at_call 15; exact calls_gb (rmay_any _ _ _ hv)) | (go_at_call 16; exact calls_gb (pholds_any _ _ _ _ hv hs)) | (go_at_call 17; exact calls_gb (rholds_any _ _ _ _ hv hs)) | (go_at_call 18; exact calls_gb (pawake_any _)))) | quiet_step ((first | (go_at_call 12; exact calls_gb (isPath_any _ _ hs)) | (go_at_call 13; exact calls_gb_same (ris_any _ _ hs)) | (go_at_call 14; exact calls_gb (may_any _ _ _ hv)) | (go_at_call 15; exact calls_gb (rmay_any _ _ _ hv)) | (go_at_call 16; exact calls_gb (pholds_any _ _ _ _ hv hs)) | (go_at_call 17; exact calls_gb (rholds_any _ _ _ _ hv hs)) | (go_at_call 18; exact calls_gb (pawake_any _)))))
  refine wpQuiet_nil ?_
  intro _ hw'
  obtain ⟨q, hw2⟩ := hw'
  subst hw2
  go_wp2_with fail
  go_ret
  exact ⟨rfl, BB.trans (q.h.mono BB.size)⟩

end Go.Proofs.Ytiepbigibdjfoaa
