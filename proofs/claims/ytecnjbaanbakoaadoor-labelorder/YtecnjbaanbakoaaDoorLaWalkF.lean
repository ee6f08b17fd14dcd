/-
  Walks: slices of texts of whatever place: slices.Equal, the document's Same, slices.Clone.
-/
import Derived.Test.YtecnjbaanbakoaaDoorLaMem
namespace Go.Proofs.YtecnjbaanbakoaaDoor
open Go Go.RowKit Go.Shelf

set_option maxHeartbeats 400000 in
theorem sequal_len (w : World) (va vb : Value) (xs ys : List ByteArray) (ha : Sl ES w va xs) (hb : Sl ES w vb ys) (hne : xs.length ≠ ys.length) :
    Calls Tryd.prog 45 #[va, vb] w fun e w' => e = .returned (.bool (decide (xs = ys))) ∧ Below w.heap.size w w' := by
  obtain ⟨a, ca, rfl⟩ := ha.form
  obtain ⟨b, cb, rfl⟩ := hb.form
  have hd : Hid (decide (xs = ys) = false) := decide_eq_false (fun e => hne (by rw [e]))
  have hx : ((xs.length : Int) != (ys.length : Int)) = true := by rw [bne_iff_ne]; omega
  clear ha hb
  go_enter Tryd.func45, Tryd.ntmps45
  go_wp2_with fail
  go_ret
  exact ⟨ret_bool hd.out.symm, Below.refl _ _⟩

set_option maxHeartbeats 800000 in
theorem sequal_any (w : World) (va vb : Value) (xs ys : List ByteArray) (ha : Sl ES w va xs) (hb : Sl ES w vb ys) :
    Calls Tryd.prog 45 #[va, vb] w fun e w' => e = .returned (.bool (decide (xs = ys))) ∧ Below w.heap.size w w' := by
  by_cases hnn : ¬ xs.length = ys.length
  · exact sequal_len w va vb xs ys ha hb hnn
  have hne : xs.length = ys.length := Classical.not_not.1 hnn
  clear hnn
  have hl := ha.len
  obtain ⟨a, ca, rfl, _, _, hca⟩ := ha
  obtain ⟨b, cb, rfl, _, _, hcb⟩ := hb
  have hx : ((xs.length : Int) != (ys.length : Int)) = false := by rw [bne_eq_false_iff_eq]; omega
  have HN := hide hne
  have HA := hide hca
  have HB := hide hcb
  clear hne hca hcb
  go_enter Tryd.func45, Tryd.ntmps45
  go_wp2_with fail
  go_loopw [13] (fun i wr => ∃ k : Nat, k ≤ xs.length ∧ i = .int .i64 k ∧ Hid (xs.take k = ys.take k) ∧ Below w.heap.size w wr) (fun i _ => xs.length - (intOf i).toNat)
  case atStart => exact ⟨0, Nat.zero_le _, rfl, rfl, Below.refl _ _⟩
  case round =>
    obtain ⟨k, hk, rfl, htk, hB⟩ := hrel
    by_cases hlt : k < xs.length
    · have hlb : k < ys.length := by rw [← HN.out]; exact hlt
      obtain ⟨_, ga, oa, rfl, hga, c1⟩ := HA.out k hlt
      obtain ⟨_, gb, ob, rfl, hgb, c2⟩ := HB.out k hlb
      replace c1 := ES_at (c1.below hga hB)
      replace c2 := ES_at (c2.below hgb hB)
      rw [show oa + k * ES.n = oa + k from by show oa + k * 1 = _; rw [Nat.mul_one]] at c1
      rw [show ob + k * ES.n = ob + k from by show ob + k * 1 = _; rw [Nat.mul_one]] at c2
      have hlt' : (k : Int) < (xs.length : Int) := by omega
      have hlb' : (k : Int) < (ys.length : Int) := by omega
      cases hq : (xs[k].toList == ys[k].toList)
      · have hqe : Hid (decide (xs = ys) = false) := by
          apply decide_eq_false
          intro e
          subst e
          simp at hq
        go_wp2
        go_region
        go_wp2
        go_ret
        exact ⟨ret_bool hqe.out.symm, hB.drew⟩
      · have hqe : Hid (xs[k] = ys[k]) := bytes_eq hq
        go_wp2
        go_region
        go_wp2
        refine ⟨⟨k + 1, by omega, by go_num, ?_, hB.drew⟩, by simp [intOf]; omega⟩
        unfold Hid
        rw [List.take_succ_eq_append_getElem hlt, List.take_succ_eq_append_getElem hlb, htk.out, hqe.out]
    · have hqe : Hid (decide (xs = ys) = true) := by
        apply decide_eq_true
        have := htk.out
        rwa [List.take_of_length_le (by omega), List.take_of_length_le (by rw [← HN.out]; omega)] at this
      go_wp2
      go_ret
      exact ⟨ret_bool hqe.out.symm, hB⟩

set_option maxHeartbeats 400000 in
theorem rsameS_len (w : World) (va vb : Value) (xs ys : List ByteArray) (ha : Sl ES w va xs) (hb : Sl ES w vb ys) (hne : xs.length ≠ ys.length) :
    Calls Tryd.prog 24 #[va, vb] w fun e w' => e = .returned (.bool (decide (xs = ys))) ∧ Below w.heap.size w w' := by
  obtain ⟨a, ca, rfl⟩ := ha.form
  obtain ⟨b, cb, rfl⟩ := hb.form
  have hd : Hid (decide (xs = ys) = false) := decide_eq_false (fun e => hne (by rw [e]))
  have hx : ((xs.length : Int) != (ys.length : Int)) = true := by rw [bne_iff_ne]; omega
  clear ha hb
  go_enter Tryd.func24, Tryd.ntmps24
  go_wp2_with fail
  go_ret
  exact ⟨ret_bool hd.out.symm, Below.refl _ _⟩

set_option maxHeartbeats 800000 in
theorem rsameS_any (w : World) (va vb : Value) (xs ys : List ByteArray) (ha : Sl ES w va xs) (hb : Sl ES w vb ys) :
    Calls Tryd.prog 24 #[va, vb] w fun e w' => e = .returned (.bool (decide (xs = ys))) ∧ Below w.heap.size w w' := by
  by_cases hnn : ¬ xs.length = ys.length
  · exact rsameS_len w va vb xs ys ha hb hnn
  have hne : xs.length = ys.length := Classical.not_not.1 hnn
  clear hnn
  have hl := ha.len
  obtain ⟨a, ca, rfl, _, _, hca⟩ := ha
  obtain ⟨b, cb, rfl, _, _, hcb⟩ := hb
  have hx : ((xs.length : Int) != (ys.length : Int)) = false := by rw [bne_eq_false_iff_eq]; omega
  have HN := hide hne
  have HA := hide hca
  have HB := hide hcb
  clear hne hca hcb
  go_enter Tryd.func24, Tryd.ntmps24
  go_wp2_with fail
  go_loopw [5] (fun i wr => ∃ k : Nat, k ≤ xs.length ∧ i = .int .i64 k ∧ Hid (xs.take k = ys.take k) ∧ Below w.heap.size w wr) (fun i _ => xs.length - (intOf i).toNat)
  case atStart => exact ⟨0, Nat.zero_le _, rfl, rfl, Below.refl _ _⟩
  case round =>
    obtain ⟨k, hk, rfl, htk, hB⟩ := hrel
    by_cases hlt : k < xs.length
    · have hlb : k < ys.length := by rw [← HN.out]; exact hlt
      obtain ⟨_, ga, oa, rfl, hga, c1⟩ := HA.out k hlt
      obtain ⟨_, gb, ob, rfl, hgb, c2⟩ := HB.out k hlb
      replace c1 := ES_at (c1.below hga hB)
      replace c2 := ES_at (c2.below hgb hB)
      rw [show oa + k * ES.n = oa + k from by show oa + k * 1 = _; rw [Nat.mul_one]] at c1
      rw [show ob + k * ES.n = ob + k from by show ob + k * 1 = _; rw [Nat.mul_one]] at c2
      have hlt' : (k : Int) < (xs.length : Int) := by omega
      have hlb' : (k : Int) < (ys.length : Int) := by omega
      cases hq : (xs[k].toList == ys[k].toList)
      · have hqe : Hid (decide (xs = ys) = false) := by
          apply decide_eq_false
          intro e
          subst e
          simp at hq
        go_wp2
        go_region
        go_wp2
        go_ret
        exact ⟨ret_bool hqe.out.symm, hB.drew⟩
      · have hqe : Hid (xs[k] = ys[k]) := bytes_eq hq
        go_wp2
        go_region
        go_wp2
        refine ⟨⟨k + 1, by omega, by go_num, ?_, hB.drew⟩, by simp [intOf]; omega⟩
        unfold Hid
        rw [List.take_succ_eq_append_getElem hlt, List.take_succ_eq_append_getElem hlb, htk.out, hqe.out]
    · have hqe : Hid (decide (xs = ys) = true) := by
        apply decide_eq_true
        have := htk.out
        rwa [List.take_of_length_le (by omega), List.take_of_length_le (by rw [← HN.out]; omega)] at this
      go_wp2
      go_ret
      exact ⟨ret_bool hqe.out.symm, hB⟩

set_option maxHeartbeats 800000 in
theorem sclone_any (v : Value) (l : List ByteArray) (w : World) (hv : Sl ES w v l) (hl : l.length ≤ 1000) :
    Calls Tryd.prog 38 #[v] w fun e w' => ∃ v', e = .returned v' ∧ w'.ownsRow w.heap.size 9 ES.n v' l.length (ES.flat l) ∧ Below w.heap.size w w' := by
  have HV := hide hv
  have qS : ∀ (w : World) (a : Option Addr) (n c : Nat), (binOp .eql 27 (.slice a n c) (.slice none 0 0)).run Tryd.prog w = .ok (.bool a.isNone) w := fun w a n c => Lib.run_eql_slice_nil w _ _ a n c 0 0 Tryd.underlying27
  obtain ⟨a, cap, rfl, _, _, hc⟩ := hv
  cases a with
  | none =>
    have : l = [] := by
      cases l with
      | nil => rfl
      | cons p l =>
        obtain ⟨_, g, off, h1, _⟩ := hc 0 (by simp)
        exact absurd h1 (by simp)
    subst this
    clear hc
    go_enter Tryd.func38, Tryd.ntmps38
    go_wp2_with fail
    go_ret
    exact ⟨_, rfl, World.ownsRow_nil _ _ _ _, Below.refl _ _⟩
  | some ad =>
    clear hc
    go_enter Tryd.func38, Tryd.ntmps38
    go_wp2_with (at_builtin; refine wpList_append_sl (E := ES) _ 9 (.string ⟨#[]⟩) 16 Tryd.underlying27 (by kernel_rfl) rfl (by omega) _ _ _ rfl (by rfl) w.heap.size _ _ [] rfl (owns_emptyT _ _ _ _ rfl) _ _ rfl (HV.out.below ((Below.refl _ _).alloc (Nat.le_refl _) _)) (by omega) (by simp) ?_; intro v' w' hown' hgrow)
    go_ret
    refine ⟨_, rfl, by simpa using hown', ((Below.refl _ _).alloc (Nat.le_refl _) _).grown hgrow (by simp) (fun j e => ?_)⟩
    have := ownBlock_ge (owns_emptyT 9 ES.n w w.heap.size rfl) e
    simpa using this

end Go.Proofs.YtecnjbaanbakoaaDoor
