/-
  An argument of four texts; the law PathChain.
-/
import Derived.Test.YtiepbigibdjfoaaPaLawC
import Derived.ProofKit
import Derived.Lib.SmallJoins
namespace Go.Proofs.Ytiepbigibdjfoaa
open Go Go.RowKit Go.Shelf Go.ChangeShapes Go.WideShapes

theorem Try.cells9 : Try.prog.cellsOf 9 = 1 := by kernel_rfl
theorem Try.laidOut : laidOutB Try.prog = true := by kernel_rfl

/-- four texts -/
def ArgFour (v : Value) : Prop := ∃ a b c d : ByteArray, v = .agg #[.string a, .string b, .string c, .string d] ∧ a.size ≤ maxLen ∧ b.size ≤ maxLen ∧ c.size ≤ maxLen ∧ d.size ≤ maxLen

theorem argFour_open {H : Type} {enc : TypeId × Value → H} {W : World} {base : Nat} {v : Value} {d : DataW H} {ps : List MemPlace} (hval : Value.okWide Try.prog W .any base 41 v)
    (h : DataW.Trod enc Try.prog W 0 (fun _ => true) true 41 v d ps) : ArgFour v := by
  obtain ⟨v0, v1, v2, v3, y0, y1, y2, y3, n, rfl, -, -, h0, h1, h2, h3⟩ := Joins.open_agg4 Try.underlying41 (by kernel_rfl) (by kernel_rfl) hval h
  obtain ⟨s0, e0, _, z0⟩ := DataW.trod_string Try.underlying9 h0
  obtain ⟨s1, e1, _, z1⟩ := DataW.trod_string Try.underlying9 h1
  obtain ⟨s2, e2, _, z2⟩ := DataW.trod_string Try.underlying9 h2
  obtain ⟨s3, e3, _, z3⟩ := DataW.trod_string Try.underlying9 h3
  simp only [List.cons.injEq, and_true] at e0 e1 e2 e3
  subst e0 e1 e2 e3
  exact ⟨s0, s1, s2, s3, rfl, z0, z1, z2, z3⟩

theorem gb4_cells (w : World) (a b c d : Value) (t : Nat) :
    (∀ p : GB (w.alloc (.cells #[a, b, c, d] t)), p.W.cell? ⟨w.heap.size, 0, none⟩ = some a) ∧
    (∀ p : GB (w.alloc (.cells #[a, b, c, d] t)), p.W.cell? ⟨w.heap.size, 1, none⟩ = some b) ∧
    (∀ p : GB (w.alloc (.cells #[a, b, c, d] t)), p.W.cell? ⟨w.heap.size, 2, none⟩ = some c) ∧
    (∀ p : GB (w.alloc (.cells #[a, b, c, d] t)), p.W.cell? ⟨w.heap.size, 3, none⟩ = some d) := by
  have h1 : ∀ p : GB (w.alloc (.cells #[a, b, c, d] t)), p.W.heap[w.heap.size]? = some (.cells #[a, b, c, d] t) := fun p => box_block p.h
  refine ⟨fun p => ?_, fun p => ?_, fun p => ?_, fun p => ?_⟩
  all_goals (simp only [World.cell?]; rw [h1]; rfl)

attribute [local go_sem] gb_const

set_option maxHeartbeats 3200000 in
theorem pathChain_any (v : Value) (w : World) (hv : ArgFour v) :
    Calls Try.prog 9 #[v] w fun e w' => e = .returned (.bool true) ∧ Below w.heap.size w w' := by
  obtain ⟨a0, b0, c0, s0, rfl, ha0, hb0, hc0, hs0⟩ := hv
  obtain ⟨k0, k1, k2, k3⟩ := gb4_cells w (.string a0) (.string b0) (.string c0) (.string s0) 41
  go_enter Try.func9, Try.ntmps9
  go_wp2_with fail
  refine wp_region_below (by kernel_rfl) (by kernel_rfl) ?_
  repeat (first | go_big_quiet_step ((go_at_call 11; first | exact calls_gb_same (fewB_any _ _ ha0) | exact calls_gb_same (fewB_any _ _ hb0) | exact calls_gb_same (fewB_any _ _ hc0) | exact calls_gb_same (fewB_any _ _ hs0))) | quiet_step ((go_at_call 11; first | exact calls_gb_same (fewB_any _ _ ha0) | exact calls_gb_same (fewB_any _ _ hb0) | exact calls_gb_same (fewB_any _ _ hc0) | exact calls_gb_same (fewB_any _ _ hs0))))
  refine wpQuiet_nil ?_
  intro _ hw'
  obtain ⟨q, hw2⟩ := hw'
  subst hw2
  have la := fewB_le a0
  have lb := fewB_le b0
  have lc := fewB_le c0
  have ls := fewB_le s0
  generalize fewB a0 = a at *
  generalize fewB b0 = b at *
  generalize fewB c0 = c at *
  generalize fewB s0 = s at *
  clear ha0 hb0 hc0 hs0 k0 k1 k2 k3
  have ha : a.size ≤ maxLen := small_len (by omega)
  have hb : b.size ≤ maxLen := small_len (by omega)
  have hc : c.size ≤ maxLen := small_len (by omega)
  have hs : s.size ≤ maxLen := small_len (by omega)
  cases h1 : (a.toList == [47])
  · cases h2 : (b.toList == [47])
    · cases h3 : (c.toList == [47])
      · by_cases hE : swapE 2 a.data.toList b.data.toList s.data.toList = 0
        · have hch := swap_chain (c := c.data.toList) hE (root_not h2)
          have ht : (mkB (swapT 2 a.data.toList b.data.toList s.data.toList)).size ≤ maxLen := small_len (by
            have := isP_len (s := mkB (swapT 2 a.data.toList b.data.toList s.data.toList)) (by rw [mkB_data]; exact (swap_isP hE).1)
            omega)
          have HE := hide hE
          have C1 : Hid (swapE 2 b.data.toList c.data.toList (mkB (swapT 2 a.data.toList b.data.toList s.data.toList)).data.toList = swapE 2 a.data.toList c.data.toList s.data.toList) := by unfold Hid; rw [mkB_data]; exact hch.1
          have C2 : Hid (mkB (swapT 2 b.data.toList c.data.toList (mkB (swapT 2 a.data.toList b.data.toList s.data.toList)).data.toList) = mkB (swapT 2 a.data.toList c.data.toList s.data.toList)) := by unfold Hid; rw [mkB_data, hch.2]
          have hr := swapE_range 2 a.data.toList c.data.toList s.data.toList
          clear hE hch
          go_wp2_with fail
          refine (calls_gb (pswap_any _ _ _ _ _ ha hb hs)).mono ?_
          rintro e x ⟨rfl, q, rfl⟩
          rw [HE.out]
          generalize mkB (swapT 2 a.data.toList b.data.toList s.data.toList) = t at *
          go_wp2_with fail
          refine (calls_gb (pswap_any _ _ _ _ _ hb hc ht)).mono ?_
          rintro e x ⟨rfl, q, rfl⟩
          rw [C1.out, C2.out]
          go_wp2_with fail
          refine (calls_gb (pswap_any _ _ _ _ _ ha hc hs)).mono ?_
          rintro e x ⟨rfl, q, rfl⟩
          generalize mkB (swapT 2 a.data.toList c.data.toList s.data.toList) = u at *
          generalize swapE 2 a.data.toList c.data.toList s.data.toList = n at *
          rcases hr with rfl | rfl | rfl
          all_goals
            go_wp2_with fail
            refine (calls_gb (pawake_any _)).mono ?_
            rintro e x ⟨rfl, q, rfl⟩
            go_wp2_with fail
            go_ret
            exact ⟨rfl, below_box q.h⟩
        · have h5 : (swapE 2 a.data.toList b.data.toList s.data.toList != 0) = true := by simpa using hE
          have ht : (mkB (swapT 2 a.data.toList b.data.toList s.data.toList)).size ≤ maxLen := by
            rw [swap_no hE]
            exact small_len (by decide)
          clear hE
          go_wp2_with fail
          refine (calls_gb (pswap_any _ _ _ _ _ ha hb hs)).mono ?_
          rintro e x ⟨rfl, q, rfl⟩
          generalize mkB (swapT 2 a.data.toList b.data.toList s.data.toList) = t at *
          generalize swapE 2 a.data.toList b.data.toList s.data.toList = n at *
          go_wp2_with fail
          refine (calls_gb (pswap_any _ _ _ _ _ hb hc ht)).mono ?_
          rintro e x ⟨rfl, q, rfl⟩
          go_wp2_with fail
          refine (calls_gb (pswap_any _ _ _ _ _ ha hc hs)).mono ?_
          rintro e x ⟨rfl, q, rfl⟩
          go_wp2_with fail
          refine (calls_gb (pawake_any _)).mono ?_
          rintro e x ⟨rfl, q, rfl⟩
          go_wp2_with fail
          go_ret
          exact ⟨rfl, below_box q.h⟩
      · go_wp2_with fail
        refine (calls_gb (pawake_any _)).mono ?_
        rintro e x ⟨rfl, q, rfl⟩
        go_wp2_with fail
        go_ret
        exact ⟨rfl, below_box q.h⟩
    · go_wp2_with fail
      refine (calls_gb (pawake_any _)).mono ?_
      rintro e x ⟨rfl, q, rfl⟩
      go_wp2_with fail
      go_ret
      exact ⟨rfl, below_box q.h⟩
  · go_wp2_with fail
    refine (calls_gb (pawake_any _)).mono ?_
    rintro e x ⟨rfl, q, rfl⟩
    go_wp2_with fail
    go_ret
    exact ⟨rfl, below_box q.h⟩

end Go.Proofs.Ytiepbigibdjfoaa
