/-
  Walks: the document's May (of a query's pairs).
-/
import Derived.Test.YtppnkfjdgalgbaaQuWalkA
namespace Go.Proofs.Ytppnkfjdgalgbaa
open Go Go.RowKit Go.Shelf

attribute [local go_sem] gb_const

set_option maxHeartbeats 800000 in
theorem qrmay_any (v : Value) (l : List PairB) (w : World) (hv : Prs w v l) (hok : ∀ p ∈ l, okP p) :
    Calls Try.prog 33 #[v] w fun e w' => e = .returned (.bool (Qu.may (l.map pl))) ∧ w' = w := by
  have hlen := hv.len
  obtain ⟨a, cap, rfl, _, _, hc⟩ := hv
  have HC := hide hc
  have HOK := hide hok
  clear hc hok
  go_enter Try.func33, Try.ntmps33
  go_wp2_with fail
  go_loopw [3] (fun i wr => ∃ k : Nat, k ≤ l.length ∧ i = .int .i64 k ∧ Hid (∀ j (hj : j < l.length), j < k → Qu.mayP (pl l[j]) = true) ∧ wr = w) (fun i _ => l.length - (intOf i).toNat)
  case atStart => exact ⟨0, Nat.zero_le _, rfl, fun _ _ h => absurd h (by omega), rfl⟩
  case round =>
    obtain ⟨k, hk, rfl, hall, rfl⟩ := hrel
    by_cases hlt : k < l.length
    · have hlt' : (k : Int) < (l.length : Int) := by omega
      obtain ⟨g, off, rfl, hg, c1, c2⟩ := HC.out k hlt
      obtain ⟨o1, o2⟩ := HOK.out _ (List.getElem_mem hlt)
      have HM : Hid (Qu.mayP (pl l[k]) = (decide (1 ≤ l[k].1.size) && decide (l[k].1.size ≤ 40) && decide (l[k].2.size ≤ 40))) := by
        unfold Hid Qu.mayP pl
        simp only [Array.length_toList]
        rfl
      have HNO := hide (may_no hlt)
      generalize hp1 : l[k].1 = p1 at *
      generalize hp2 : l[k].2 = p2 at *
      unfold maxLen at o1 o2
      by_cases h1 : p1.size < 1
      · have a1 : (p1.size : Int) < 1 := by omega
        have HE := hide (HNO.out (by rw [HM.out, decide_eq_false (by omega : ¬ 1 ≤ p1.size)]; rfl))
        go_wp2_with fail
        go_ret
        exact ⟨ret_bool HE.out.symm, rfl⟩
      · have a1 : ¬ (p1.size : Int) < 1 := by omega
        by_cases h2 : p1.size ≤ 40
        · have a2 : ¬ (40 : Int) < (p1.size : Int) := by omega
          by_cases h3 : p2.size ≤ 40
          · have a3 : ¬ (40 : Int) < (p2.size : Int) := by omega
            have HY : Hid (Qu.mayP (pl l[k]) = true) := by
              unfold Hid
              rw [HM.out, decide_eq_true (by omega : 1 ≤ p1.size), decide_eq_true h2, decide_eq_true h3]; rfl
            go_wp2_with fail
            refine ⟨⟨k + 1, by omega, by go_num, ?_, by simp⟩, by simp [intOf]; omega⟩
            intro j hj hjk
            by_cases e : j = k
            · subst e; exact HY.out
            · exact hall.out j hj (by omega)
          · have a3 : (40 : Int) < (p2.size : Int) := by omega
            have HE := hide (HNO.out (by rw [HM.out, decide_eq_false h3, Bool.and_false]))
            go_wp2_with fail
            go_ret
            exact ⟨ret_bool HE.out.symm, rfl⟩
        · have a2 : (40 : Int) < (p1.size : Int) := by omega
          have HE := hide (HNO.out (by rw [HM.out, decide_eq_false h2, Bool.and_false, Bool.false_and]))
          go_wp2_with fail
          go_ret
          exact ⟨ret_bool HE.out.symm, rfl⟩
    · have hlt' : ¬ (k : Int) < (l.length : Int) := by omega
      have HE : Hid (Qu.may (l.map pl) = decide ((l.length : Int) ≤ 20)) := by
        unfold Hid
        rw [may_yes (fun j hj => hall.out j hj (by omega))]
        exact decide_eq_decide.2 (by omega)
      go_wp2_with fail
      go_ret
      exact ⟨ret_bool HE.out.symm, rfl⟩

end Go.Proofs.Ytppnkfjdgalgbaa
