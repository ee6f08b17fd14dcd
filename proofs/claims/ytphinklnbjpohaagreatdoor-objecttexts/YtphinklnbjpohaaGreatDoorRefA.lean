/-
  Walks of the document's own answers: Label.
-/
import Derived.Test.YtphinklnbjpohaaGreatDoorWalkA
namespace Go.Proofs.YtphinklnbjpohaaGreatDoor
set_option maxRecDepth 20000
open Go Go.RowKit Go.Shelf

/-- an octet that may stand at a place of a label -/
def OkAt (l : List UInt8) (j : Nat) : Prop :=
  97 ≤ D.at' l j ∧ D.at' l j ≤ 122 ∨ 48 ≤ D.at' l j ∧ D.at' l j ≤ 57 ∨ D.at' l j = 45 ∧ j ≠ 0 ∧ j ≠ l.length - 1

theorem isLabel_iff (l : List UInt8) : D.isLabel l = true ↔ 1 ≤ l.length ∧ l.length ≤ 20 ∧ ∀ j, j < l.length → OkAt l j := by
  have hat : ∀ j (h : j < l.length), D.at' l j = (l[j].toNat : Int) := fun j h => by
    unfold D.at'; rw [List.getElem?_eq_getElem h]; rfl
  simp only [D.isLabel, Bool.and_eq_true, decide_eq_true_eq, List.all_eq_true]
  constructor
  · rintro ⟨⟨⟨⟨h1, h2⟩, h3⟩, h4⟩, h5⟩
    refine ⟨h1, h2, fun j hj => ?_⟩
    have h := h3 l[j] (List.getElem_mem hj)
    rw [← hat j hj] at h
    simp only [D.inLab, decide_eq_true_eq] at h
    unfold OkAt
    by_cases e0 : j = 0
    · subst e0; omega
    · by_cases e1 : j = l.length - 1
      · subst e1; omega
      · omega
  · rintro ⟨h1, h2, h3⟩
    refine ⟨⟨⟨⟨h1, h2⟩, fun x hx => ?_⟩, ?_⟩, ?_⟩
    · obtain ⟨j, hj, rfl⟩ := List.getElem_of_mem hx
      have h := h3 j hj
      unfold OkAt at h
      rw [hat j hj] at h
      simp only [D.inLab, decide_eq_true_eq]
      omega
    · have h := h3 0 (by omega)
      unfold OkAt at h
      omega
    · have h := h3 (l.length - 1) (by omega)
      unfold OkAt at h
      omega

theorem isLabel_not {l : List UInt8} (h : ¬ (1 ≤ l.length ∧ l.length ≤ 20 ∧ ∀ j, j < l.length → OkAt l j)) : D.isLabel l = false := by
  cases h' : D.isLabel l
  · rfl
  · exact absurd ((isLabel_iff l).1 h') h

theorem rl_round {s : ByteArray} {k : Nat} (hok : OkAt s.data.toList k) (hall : Hid (∀ j, j < k → OkAt s.data.toList j)) (hlt : k < s.size) :
    (∃ k_1 : Nat, k_1 ≤ s.size ∧ Value.int .i64 ((k : Int) + 1) = Value.int .i64 (k_1 : Int) ∧ Hid (∀ j, j < k_1 → OkAt s.data.toList j)) ∧
      s.size - (intOf (Value.int .i64 ((k : Int) + 1))).toNat < s.size - (intOf (Value.int .i64 (k : Int))).toNat := by
  refine ⟨⟨k + 1, by omega, by go_num, fun j hj => ?_⟩, by simp [intOf]; omega⟩
  by_cases e : j = k
  · subst e; exact hok
  · exact hall.out j (by omega)

theorem rl_no {s : ByteArray} {k : Nat} (hok : ¬ OkAt s.data.toList k) (hlt : k < s.data.toList.length) : D.isLabel s.data.toList = false :=
  isLabel_not (fun h => hok (h.2.2 k hlt))

theorem ends (k n : Nat) (h : k < n) : (((k : Int) == 0) = true ∧ Hid (k = 0)) ∨ (((k : Int) == 0) = false ∧ ((k : Int) == (n : Int) - 1) = true ∧ Hid (k = n - 1)) ∨
    (((k : Int) == 0) = false ∧ ((k : Int) == (n : Int) - 1) = false ∧ Hid (k ≠ 0 ∧ k ≠ n - 1)) := by
  by_cases h0 : k = 0
  · exact .inl ⟨beq_iff_eq.2 (by omega), h0⟩
  · by_cases h1 : k = n - 1
    · exact .inr (.inl ⟨beq_eq_false_iff_ne.2 (by omega), beq_iff_eq.2 (by omega), h1⟩)
    · exact .inr (.inr ⟨beq_eq_false_iff_ne.2 (by omega), beq_eq_false_iff_ne.2 (by omega), h0, h1⟩)

set_option maxHeartbeats 1600000 in
theorem rlabel_any (s : ByteArray) (w : World) (hs : s.size ≤ maxLen) :
    Calls Tryz.prog 92 #[.string s] w fun e w' => e = .returned (.bool (D.isLabel s.data.toList)) ∧ w' = w := by
  unfold maxLen at hs
  have hsl : s.data.toList.length = s.size := Array.length_toList
  have HSL := hide hsl
  clear hsl
  go_enter Tryz.func92, Tryz.ntmps92
  go_wp2
  go_loop [3] (fun i => ∃ k : Nat, k ≤ s.size ∧ i = .int .i64 k ∧ Hid (∀ j, j < k → OkAt s.data.toList j)) (fun i => s.size - (intOf i).toNat)
  case atStart => exact ⟨0, Nat.zero_le _, rfl, fun j hj => by omega⟩
  case round =>
    obtain ⟨k, hk, rfl, hall⟩ := hrel
    by_cases hlt : k < s.size
    · have hk8 := s[k].toNat_lt
      have HE := hide (at_eq s k hlt)
      have hlt' : (k : Int) < (s.size : Int) := by omega
      rcases ends k s.size hlt with ⟨e0, HQ⟩ | ⟨e0, e1, HQ⟩ | ⟨e0, e1, HQ⟩
      · by_cases r1 : (97 : Int) ≤ (s[k].toNat : Int) ∧ (s[k].toNat : Int) ≤ 122
        · have HOK : Hid (OkAt s.data.toList k) := by
            have hq := HQ.out
            unfold Hid OkAt; rw [HE.out, HSL.out]; omega
          have t1 : (97 : Int) ≤ (s[k].toNat : Int) := by omega
          have t2 : (s[k].toNat : Int) ≤ 122 := by omega
          clear r1
          go_wp2_with fail
          exact rl_round HOK.out hall hlt
        · by_cases r2 : (48 : Int) ≤ (s[k].toNat : Int) ∧ (s[k].toNat : Int) ≤ 57
          · have HOK : Hid (OkAt s.data.toList k) := by
              have hq := HQ.out
              unfold Hid OkAt; rw [HE.out, HSL.out]; omega
            have t1 : decide ((97 : Int) ≤ (s[k].toNat : Int)) = false := decide_eq_false (by omega)
            have t3 : (48 : Int) ≤ (s[k].toNat : Int) := by omega
            have t4 : (s[k].toNat : Int) ≤ 57 := by omega
            clear r1 r2
            go_wp2_with fail
            exact rl_round HOK.out hall hlt
          · by_cases r3 : (s[k].toNat : Int) = 45
            · have HOK : Hid (¬ OkAt s.data.toList k) := by
                have hq := HQ.out
                unfold Hid OkAt; rw [HE.out, HSL.out]; omega
              have t1 : decide ((97 : Int) ≤ (s[k].toNat : Int)) = false := decide_eq_false (by omega)
              have t3 : decide ((48 : Int) ≤ (s[k].toNat : Int)) = false := decide_eq_false (by omega)
              have t5 : ((s[k].toNat : Int) == 45) = true := beq_iff_eq.2 (by omega)
              clear r1 r2 r3
              go_wp2_with fail
              go_ret
              exact ⟨ret_bool (rl_no HOK.out (by rw [HSL.out]; exact hlt)).symm, rfl⟩
            · by_cases r4 : (s[k].toNat : Int) < 48
              · have HOK : Hid (¬ OkAt s.data.toList k) := by
                  have hq := HQ.out
                  unfold Hid OkAt; rw [HE.out, HSL.out]; omega
                have t1 : decide ((97 : Int) ≤ (s[k].toNat : Int)) = false := decide_eq_false (by omega)
                have t3 : decide ((48 : Int) ≤ (s[k].toNat : Int)) = false := decide_eq_false (by omega)
                have t5 : ((s[k].toNat : Int) == 45) = false := beq_eq_false_iff_ne.2 (by omega)
                clear r1 r2 r3 r4
                go_wp2_with fail
                go_ret
                exact ⟨ret_bool (rl_no HOK.out (by rw [HSL.out]; exact hlt)).symm, rfl⟩
              · by_cases r5 : (s[k].toNat : Int) < 97
                · have HOK : Hid (¬ OkAt s.data.toList k) := by
                    have hq := HQ.out
                    unfold Hid OkAt; rw [HE.out, HSL.out]; omega
                  have t1 : decide ((97 : Int) ≤ (s[k].toNat : Int)) = false := decide_eq_false (by omega)
                  have t3 : (48 : Int) ≤ (s[k].toNat : Int) := by omega
                  have t4 : decide ((s[k].toNat : Int) ≤ 57) = false := decide_eq_false (by omega)
                  have t5 : ((s[k].toNat : Int) == 45) = false := beq_eq_false_iff_ne.2 (by omega)
                  clear r1 r2 r3 r4 r5
                  go_wp2_with fail
                  go_ret
                  exact ⟨ret_bool (rl_no HOK.out (by rw [HSL.out]; exact hlt)).symm, rfl⟩
                · have HOK : Hid (¬ OkAt s.data.toList k) := by
                    have hq := HQ.out
                    unfold Hid OkAt; rw [HE.out, HSL.out]; omega
                  have t1 : (97 : Int) ≤ (s[k].toNat : Int) := by omega
                  have t2 : decide ((s[k].toNat : Int) ≤ 122) = false := decide_eq_false (by omega)
                  have t3 : (48 : Int) ≤ (s[k].toNat : Int) := by omega
                  have t4 : decide ((s[k].toNat : Int) ≤ 57) = false := decide_eq_false (by omega)
                  have t5 : ((s[k].toNat : Int) == 45) = false := beq_eq_false_iff_ne.2 (by omega)
                  clear r1 r2 r3 r4 r5
                  go_wp2_with fail
                  go_ret
                  exact ⟨ret_bool (rl_no HOK.out (by rw [HSL.out]; exact hlt)).symm, rfl⟩
      · by_cases r1 : (97 : Int) ≤ (s[k].toNat : Int) ∧ (s[k].toNat : Int) ≤ 122
        · have HOK : Hid (OkAt s.data.toList k) := by
            have hq := HQ.out
            unfold Hid OkAt; rw [HE.out, HSL.out]; omega
          have t1 : (97 : Int) ≤ (s[k].toNat : Int) := by omega
          have t2 : (s[k].toNat : Int) ≤ 122 := by omega
          clear r1
          go_wp2_with fail
          exact rl_round HOK.out hall hlt
        · by_cases r2 : (48 : Int) ≤ (s[k].toNat : Int) ∧ (s[k].toNat : Int) ≤ 57
          · have HOK : Hid (OkAt s.data.toList k) := by
              have hq := HQ.out
              unfold Hid OkAt; rw [HE.out, HSL.out]; omega
            have t1 : decide ((97 : Int) ≤ (s[k].toNat : Int)) = false := decide_eq_false (by omega)
            have t3 : (48 : Int) ≤ (s[k].toNat : Int) := by omega
            have t4 : (s[k].toNat : Int) ≤ 57 := by omega
            clear r1 r2
            go_wp2_with fail
            exact rl_round HOK.out hall hlt
          · by_cases r3 : (s[k].toNat : Int) = 45
            · have HOK : Hid (¬ OkAt s.data.toList k) := by
                have hq := HQ.out
                unfold Hid OkAt; rw [HE.out, HSL.out]; omega
              have t1 : decide ((97 : Int) ≤ (s[k].toNat : Int)) = false := decide_eq_false (by omega)
              have t3 : decide ((48 : Int) ≤ (s[k].toNat : Int)) = false := decide_eq_false (by omega)
              have t5 : ((s[k].toNat : Int) == 45) = true := beq_iff_eq.2 (by omega)
              clear r1 r2 r3
              go_wp2_with fail
              go_ret
              exact ⟨ret_bool (rl_no HOK.out (by rw [HSL.out]; exact hlt)).symm, rfl⟩
            · by_cases r4 : (s[k].toNat : Int) < 48
              · have HOK : Hid (¬ OkAt s.data.toList k) := by
                  have hq := HQ.out
                  unfold Hid OkAt; rw [HE.out, HSL.out]; omega
                have t1 : decide ((97 : Int) ≤ (s[k].toNat : Int)) = false := decide_eq_false (by omega)
                have t3 : decide ((48 : Int) ≤ (s[k].toNat : Int)) = false := decide_eq_false (by omega)
                have t5 : ((s[k].toNat : Int) == 45) = false := beq_eq_false_iff_ne.2 (by omega)
                clear r1 r2 r3 r4
                go_wp2_with fail
                go_ret
                exact ⟨ret_bool (rl_no HOK.out (by rw [HSL.out]; exact hlt)).symm, rfl⟩
              · by_cases r5 : (s[k].toNat : Int) < 97
                · have HOK : Hid (¬ OkAt s.data.toList k) := by
                    have hq := HQ.out
                    unfold Hid OkAt; rw [HE.out, HSL.out]; omega
                  have t1 : decide ((97 : Int) ≤ (s[k].toNat : Int)) = false := decide_eq_false (by omega)
                  have t3 : (48 : Int) ≤ (s[k].toNat : Int) := by omega
                  have t4 : decide ((s[k].toNat : Int) ≤ 57) = false := decide_eq_false (by omega)
                  have t5 : ((s[k].toNat : Int) == 45) = false := beq_eq_false_iff_ne.2 (by omega)
                  clear r1 r2 r3 r4 r5
                  go_wp2_with fail
                  go_ret
                  exact ⟨ret_bool (rl_no HOK.out (by rw [HSL.out]; exact hlt)).symm, rfl⟩
                · have HOK : Hid (¬ OkAt s.data.toList k) := by
                    have hq := HQ.out
                    unfold Hid OkAt; rw [HE.out, HSL.out]; omega
                  have t1 : (97 : Int) ≤ (s[k].toNat : Int) := by omega
                  have t2 : decide ((s[k].toNat : Int) ≤ 122) = false := decide_eq_false (by omega)
                  have t3 : (48 : Int) ≤ (s[k].toNat : Int) := by omega
                  have t4 : decide ((s[k].toNat : Int) ≤ 57) = false := decide_eq_false (by omega)
                  have t5 : ((s[k].toNat : Int) == 45) = false := beq_eq_false_iff_ne.2 (by omega)
                  clear r1 r2 r3 r4 r5
                  go_wp2_with fail
                  go_ret
                  exact ⟨ret_bool (rl_no HOK.out (by rw [HSL.out]; exact hlt)).symm, rfl⟩
      · by_cases r1 : (97 : Int) ≤ (s[k].toNat : Int) ∧ (s[k].toNat : Int) ≤ 122
        · have HOK : Hid (OkAt s.data.toList k) := by
            have hq := HQ.out
            unfold Hid OkAt; rw [HE.out, HSL.out]; omega
          have t1 : (97 : Int) ≤ (s[k].toNat : Int) := by omega
          have t2 : (s[k].toNat : Int) ≤ 122 := by omega
          clear r1
          go_wp2_with fail
          exact rl_round HOK.out hall hlt
        · by_cases r2 : (48 : Int) ≤ (s[k].toNat : Int) ∧ (s[k].toNat : Int) ≤ 57
          · have HOK : Hid (OkAt s.data.toList k) := by
              have hq := HQ.out
              unfold Hid OkAt; rw [HE.out, HSL.out]; omega
            have t1 : decide ((97 : Int) ≤ (s[k].toNat : Int)) = false := decide_eq_false (by omega)
            have t3 : (48 : Int) ≤ (s[k].toNat : Int) := by omega
            have t4 : (s[k].toNat : Int) ≤ 57 := by omega
            clear r1 r2
            go_wp2_with fail
            exact rl_round HOK.out hall hlt
          · by_cases r3 : (s[k].toNat : Int) = 45
            · have HOK : Hid (OkAt s.data.toList k) := by
                have hq := HQ.out
                unfold Hid OkAt; rw [HE.out, HSL.out]; omega
              have t1 : decide ((97 : Int) ≤ (s[k].toNat : Int)) = false := decide_eq_false (by omega)
              have t3 : decide ((48 : Int) ≤ (s[k].toNat : Int)) = false := decide_eq_false (by omega)
              have t5 : ((s[k].toNat : Int) == 45) = true := beq_iff_eq.2 (by omega)
              clear r1 r2 r3
              go_wp2_with fail
              exact rl_round HOK.out hall hlt
            · by_cases r4 : (s[k].toNat : Int) < 48
              · have HOK : Hid (¬ OkAt s.data.toList k) := by
                  have hq := HQ.out
                  unfold Hid OkAt; rw [HE.out, HSL.out]; omega
                have t1 : decide ((97 : Int) ≤ (s[k].toNat : Int)) = false := decide_eq_false (by omega)
                have t3 : decide ((48 : Int) ≤ (s[k].toNat : Int)) = false := decide_eq_false (by omega)
                have t5 : ((s[k].toNat : Int) == 45) = false := beq_eq_false_iff_ne.2 (by omega)
                clear r1 r2 r3 r4
                go_wp2_with fail
                go_ret
                exact ⟨ret_bool (rl_no HOK.out (by rw [HSL.out]; exact hlt)).symm, rfl⟩
              · by_cases r5 : (s[k].toNat : Int) < 97
                · have HOK : Hid (¬ OkAt s.data.toList k) := by
                    have hq := HQ.out
                    unfold Hid OkAt; rw [HE.out, HSL.out]; omega
                  have t1 : decide ((97 : Int) ≤ (s[k].toNat : Int)) = false := decide_eq_false (by omega)
                  have t3 : (48 : Int) ≤ (s[k].toNat : Int) := by omega
                  have t4 : decide ((s[k].toNat : Int) ≤ 57) = false := decide_eq_false (by omega)
                  have t5 : ((s[k].toNat : Int) == 45) = false := beq_eq_false_iff_ne.2 (by omega)
                  clear r1 r2 r3 r4 r5
                  go_wp2_with fail
                  go_ret
                  exact ⟨ret_bool (rl_no HOK.out (by rw [HSL.out]; exact hlt)).symm, rfl⟩
                · have HOK : Hid (¬ OkAt s.data.toList k) := by
                    have hq := HQ.out
                    unfold Hid OkAt; rw [HE.out, HSL.out]; omega
                  have t1 : (97 : Int) ≤ (s[k].toNat : Int) := by omega
                  have t2 : decide ((s[k].toNat : Int) ≤ 122) = false := decide_eq_false (by omega)
                  have t3 : (48 : Int) ≤ (s[k].toNat : Int) := by omega
                  have t4 : decide ((s[k].toNat : Int) ≤ 57) = false := decide_eq_false (by omega)
                  have t5 : ((s[k].toNat : Int) == 45) = false := beq_eq_false_iff_ne.2 (by omega)
                  clear r1 r2 r3 r4 r5
                  go_wp2_with fail
                  go_ret
                  exact ⟨ret_bool (rl_no HOK.out (by rw [HSL.out]; exact hlt)).symm, rfl⟩
    · have hlt' : ¬ (k : Int) < (s.size : Int) := by omega
      have hks : k = s.size := by omega
      subst hks
      by_cases h1 : 1 ≤ s.size
      · by_cases h20 : s.size ≤ 20
        · have hx : Hid (D.isLabel s.data.toList = true) := (isLabel_iff _).2 ⟨by rw [HSL.out]; exact h1, by rw [HSL.out]; exact h20, by rw [HSL.out]; exact hall.out⟩
          have a1 : (1 : Int) ≤ (s.size : Int) := by omega
          have a2 : decide ((s.size : Int) ≤ 20) = true := decide_eq_true (by omega)
          go_wp2
          go_ret
          exact ⟨ret_bool hx.out.symm, rfl⟩
        · have hx : Hid (D.isLabel s.data.toList = false) := isLabel_not (fun h => h20 (by rw [← HSL.out]; exact h.2.1))
          have a1 : (1 : Int) ≤ (s.size : Int) := by omega
          have a2 : decide ((s.size : Int) ≤ 20) = false := decide_eq_false (by omega)
          go_wp2
          go_ret
          exact ⟨ret_bool hx.out.symm, rfl⟩
      · have hx : Hid (D.isLabel s.data.toList = false) := isLabel_not (fun h => h1 (by rw [← HSL.out]; exact h.1))
        have a1 : decide ((1 : Int) ≤ (s.size : Int)) = false := decide_eq_false (by omega)
        go_wp2
        go_ret
        exact ⟨ret_bool hx.out.symm, rfl⟩

end Go.Proofs.YtphinklnbjpohaaGreatDoor
