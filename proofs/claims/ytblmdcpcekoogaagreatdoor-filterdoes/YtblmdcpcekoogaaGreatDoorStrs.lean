/-
  A slice of texts; the document's Same (of two such).
-/
import Derived.Test.YtblmdcpcekoogaaGreatDoorCore
namespace Go.Proofs.YtblmdcpcekoogaaGreatDoor
set_option maxRecDepth 20000
open Go Go.RowKit Go.Shelf

/-- a slice of texts, in memory of its own or nil -/
def Strs (w : World) (v : Value) (ss : List ByteArray) : Prop :=
  ∃ a cap, v = .slice a ss.length cap ∧ ∀ i (h : i < ss.length), ∃ g, a = some ⟨g, 0, none⟩ ∧ g < w.heap.size ∧ w.cell? ⟨g, i, none⟩ = some (.string ss[i])

theorem Strs.below {w w' : World} {v : Value} {ss : List ByteArray} (h : Strs w v ss) (hb : Below w.heap.size w w') : Strs w' v ss := by
  obtain ⟨a, cap, hv, hc⟩ := h
  refine ⟨a, cap, hv, fun i hi => ?_⟩
  obtain ⟨g, hg, hlt, hcell⟩ := hc i hi
  exact ⟨g, hg, Nat.lt_of_lt_of_le hlt hb.size, (hb.cell (p := ⟨g, i, none⟩) hlt).trans hcell⟩

theorem Strs.of_row {w : World} {base : Nat} {v : Value} {ss : List ByteArray} {n : Nat} (hn : n = ss.length) (h : w.ownsRow base 9 1 v n (ss.map Value.string)) : Strs w v ss := by
  subst hn
  obtain ⟨_, h2⟩ := h
  rcases h2 with ⟨rfl, h0⟩ | ⟨g, cap, cur, rfl, hg, hgb, hle, _, hsz, hcur⟩
  · exact ⟨none, 0, by rw [h0], fun i hi => by omega⟩
  · refine ⟨some ⟨g, 0, none⟩, cap, rfl, fun i hi => ⟨g, rfl, (Array.getElem?_eq_some_iff.1 hgb).1, ?_⟩⟩
    have hi' : i < cur.size := by omega
    have : cur[i]? = some (.string ss[i]) := by
      have e := congrArg (fun l => l[i]?) hcur
      simp only [Nat.mul_one] at e
      rw [List.getElem?_take_of_lt hi] at e
      rw [List.getElem?_map, List.getElem?_eq_getElem hi] at e
      simpa using e
    simp [World.cell?, hgb, this]

theorem Strs.nil (w : World) : Strs w (.slice none 0 0) [] := ⟨none, 0, rfl, fun i hi => absurd hi (by simp)⟩

set_option maxHeartbeats 400000 in
theorem same_len (w : World) (va vb : Value) (xs ys : List ByteArray) (ha : Strs w va xs) (hb : Strs w vb ys) (hne : xs.length ≠ ys.length) :
    Calls Tryz.prog 68 #[va, vb] w fun e w' => e = .returned (.bool (decide (xs = ys))) ∧ Below w.heap.size w w' := by
  obtain ⟨a, ca, rfl, hca⟩ := ha
  obtain ⟨b, cb, rfl, hcb⟩ := hb
  have hd : Hid (decide (xs = ys) = false) := decide_eq_false (fun e => hne (by rw [e]))
  have hx : ((xs.length : Int) != (ys.length : Int)) = true := by rw [bne_iff_ne]; omega
  clear hca hcb
  go_enter Tryz.func68, Tryz.ntmps68
  go_wp2
  go_ret
  exact ⟨ret_bool hd.out.symm, Below.refl _ _⟩

set_option maxHeartbeats 800000 in
theorem same_any (w : World) (va vb : Value) (xs ys : List ByteArray) (ha : Strs w va xs) (hb : Strs w vb ys) (hl : xs.length ≤ maxLen) :
    Calls Tryz.prog 68 #[va, vb] w fun e w' => e = .returned (.bool (decide (xs = ys))) ∧ Below w.heap.size w w' := by
  by_cases hnn : ¬ xs.length = ys.length
  · exact same_len w va vb xs ys ha hb hnn
  have hne : xs.length = ys.length := Classical.not_not.1 hnn
  clear hnn
  obtain ⟨a, ca, rfl, hca⟩ := ha
  obtain ⟨b, cb, rfl, hcb⟩ := hb
  unfold maxLen at hl
  have hx : ((xs.length : Int) != (ys.length : Int)) = false := by rw [bne_eq_false_iff_eq]; omega
  have HN := hide hne
  have HA := hide hca
  have HB := hide hcb
  clear hne hca hcb
  go_enter Tryz.func68, Tryz.ntmps68
  go_wp2
  go_loopw [5] (fun i wr => ∃ k : Nat, k ≤ xs.length ∧ i = .int .i64 k ∧ Hid (xs.take k = ys.take k) ∧ Below w.heap.size w wr) (fun i _ => xs.length - (intOf i).toNat)
  case atStart => exact ⟨0, Nat.zero_le _, rfl, rfl, Below.refl _ _⟩
  case round =>
    obtain ⟨k, hk, rfl, htk, hB⟩ := hrel
    by_cases hlt : k < xs.length
    · have hlb : k < ys.length := by rw [← HN.out]; exact hlt
      obtain ⟨ga, rfl, hga, hcella⟩ := HA.out k hlt
      obtain ⟨gb, rfl, hgb, hcellb⟩ := HB.out k hlb
      have c1 := (hB.cell (p := ⟨ga, k, none⟩) hga).trans hcella
      have c2 := (hB.cell (p := ⟨gb, k, none⟩) hgb).trans hcellb
      have hlt' : (k : Int) < (xs.length : Int) := by omega
      have hlb' : (k : Int) < (ys.length : Int) := by omega
      clear hcella hcellb
      cases hq : (xs[k].toList == ys[k].toList)
      · have hqe : Hid (decide (xs = ys) = false) := by
          apply decide_eq_false
          intro e
          subst e
          simp at hq
        go_wp2
        go_region
        go_wp2
        go_ret
        exact ⟨ret_bool hqe.out.symm, hB.drew⟩
      · have hqe : Hid (xs[k] = ys[k]) := bytes_eq hq
        go_wp2
        go_region
        go_wp2
        refine ⟨⟨k + 1, by omega, by go_num, ?_, hB.drew⟩, by simp [intOf]; omega⟩
        unfold Hid
        rw [List.take_succ_eq_append_getElem hlt, List.take_succ_eq_append_getElem hlb, htk.out, hqe.out]
    · have hqe : Hid (decide (xs = ys) = true) := by
        apply decide_eq_true
        have := htk.out
        rwa [List.take_of_length_le (by omega), List.take_of_length_le (by rw [← HN.out]; omega)] at this
      go_wp2
      go_ret
      exact ⟨ret_bool hqe.out.symm, hB⟩

end Go.Proofs.YtblmdcpcekoogaaGreatDoor
