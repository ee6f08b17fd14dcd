/-
  Walks of the leaves: inLabel, Label.
-/
import Derived.Test.YtblmdcpcekoogaaGreatDoorCore
import Derived.Test.YtblmdcpcekoogaaGreatDoorPlain
namespace Go.Proofs.YtblmdcpcekoogaaGreatDoor
set_option maxRecDepth 20000
open Go Go.RowKit

set_option maxHeartbeats 400000 in
theorem inLabel_any (c : Int) (w : World) (h0 : 0 ≤ c) (h1 : c < 256) :
    Calls Tryz.prog 146 #[.int .u8 c] w fun e w' => e = .returned (.bool (D.inLab c)) ∧ w' = w := by
  go_enter Tryz.func146, Tryz.ntmps146
  go_wp2
  all_goals go_ret
  all_goals (refine ⟨ret_bool ?_, rfl⟩)
  all_goals (simp only [D.inLab]; rw [Bool.eq_iff_iff]; simp)
  all_goals omega

theorem at_eq (s : ByteArray) (k : Nat) (h : k < s.size) : D.at' s.data.toList k = (s[k].toNat : Int) := by
  unfold D.at'
  rw [List.getElem?_eq_getElem (by simpa using h)]
  rfl

set_option maxHeartbeats 400000 in
theorem label_any (s : ByteArray) (w : World) (hs : s.size ≤ maxLen) :
    Calls Tryz.prog 98 #[.string s] w fun e w' => e = .returned (.bool (D.isLabel s.data.toList)) ∧ w' = w := by
  unfold maxLen at hs
  have hsz : s.data.toList.length = s.size := by simp
  by_cases h0 : s.size = 0
  · have hb : ((s.size : Int) == 0) = true := by simp [h0]
    have hx : Hid (D.isLabel s.data.toList = false) := by simp [Hid, D.isLabel, hsz, h0]
    clear hsz
    go_enter Tryz.func98, Tryz.ntmps98
    go_wp2
    all_goals go_ret
    all_goals exact ⟨ret_bool hx.out.symm, rfl⟩
  by_cases h20 : 20 < s.size
  · have hb : ((s.size : Int) == 0) = false := beq_eq_false_iff_ne.2 (by omega)
    have hx : Hid (D.isLabel s.data.toList = false) := by simp [Hid, D.isLabel, hsz]; omega
    clear hsz
    go_enter Tryz.func98, Tryz.ntmps98
    go_wp2
    all_goals go_ret
    all_goals exact ⟨ret_bool hx.out.symm, rfl⟩
  have hb : ((s.size : Int) == 0) = false := beq_eq_false_iff_ne.2 (by omega)
  have hb2 : ¬ ((20 : Int) < s.size) := by omega
  go_enter Tryz.func98, Tryz.ntmps98
  go_wp2
  go_loop [14] (fun i => ∃ k : Nat, k ≤ s.size ∧ i = .int .i64 k ∧ ∀ j, j < k → D.inLab (D.at' s.data.toList j) = true) (fun i => s.size - (intOf i).toNat)
  case atStart => exact ⟨0, Nat.zero_le _, rfl, by simp⟩
  case round =>
    obtain ⟨k, hk, rfl, hall⟩ := hrel
    have HA := hide hall
    clear hall
    by_cases hlt : k < s.size
    · have hk8 := s[k].toNat_lt
      have HE := hide (at_eq s k hlt)
      cases hin : D.inLab (s[k].toNat : Int)
      · go_wp2_with (go_at_call 146; refine (inLabel_any _ _ (by omega) (by omega)).mono ?_; rintro e w' ⟨rfl, rfl⟩)
        go_ret
        refine ⟨ret_bool ?_, rfl⟩
        symm
        unfold D.isLabel
        have : s.data.toList.all (fun c => D.inLab c.toNat) = false := by
          rw [List.all_eq_false]
          exact ⟨s[k], by simp [ByteArray.getElem_eq_getElem_data], by simp [hin]⟩
        simp [this]
      · go_wp2_with (go_at_call 146; refine (inLabel_any _ _ (by omega) (by omega)).mono ?_; rintro e w' ⟨rfl, rfl⟩)
        go_round
        case rel => exact ⟨k + 1, by omega, by go_num, fun j hj => by
          by_cases e : j = k
          · subst e; rw [HE.out]; exact hin
          · exact HA.out j (by omega)⟩
        case measure => simp [intOf]; omega
    · have hks : k = s.size := by omega
      subst hks
      have l0 : 0 < s.size := by omega
      have l1 : s.size - 1 < s.size := by omega
      have e0 := hide (at_eq s 0 l0)
      have e1 := hide (at_eq s (s.size - 1) l1)
      have hL : ∀ b : Bool, b = (((s[0].toNat : Int) != 45) && ((s[s.size - 1].toNat : Int) != 45)) → Hid (b = D.isLabel s.data.toList) := by
        intro b hb'
        subst hb'
        unfold D.isLabel Hid
        have hall : s.data.toList.all (fun c => D.inLab c.toNat) = true := by
          rw [List.all_eq_true]
          intro x hx
          obtain ⟨j, hj, rfl⟩ := List.getElem_of_mem hx
          have hj' : j < s.size := by simpa using hj
          have := HA.out j hj'
          rw [at_eq s j hj'] at this
          exact this
        rw [hall, hsz, e0.out, e1.out]
        have a1 : decide (1 ≤ s.size) = true := decide_eq_true (by omega)
        have a2 : decide (s.size ≤ 20) = true := decide_eq_true (by omega)
        rw [a1, a2]
        simp [bne, BEq.beq]
      have hL0 := fun h => (hL false h).out
      have hL1 := (hL _ rfl).out
      have HL0 := hide hL0
      have HL1 := hide hL1
      clear hL hL0 hL1
      go_wp2
      all_goals go_ret
      · exact ⟨ret_bool (HL0.out (by rename_i h _ ; simp [h])), rfl⟩
      · exact ⟨ret_bool HL1.out, rfl⟩

end Go.Proofs.YtblmdcpcekoogaaGreatDoor
