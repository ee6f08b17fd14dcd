/-
  Walks: the document's Token, Value.
-/
import Derived.Test.YtppnkfjdgalgbaaPbWalkE
namespace Go.Proofs.Ytppnkfjdgalgbaa
open Go Go.RowKit Go.Shelf

theorem tok_iff {c : UInt8} : tokC c = true ↔ (97 ≤ c.toNat ∧ c.toNat ≤ 122 ∨ 65 ≤ c.toNat ∧ c.toNat ≤ 90 ∨ 48 ≤ c.toNat ∧ c.toNat ≤ 57 ∨ c.toNat = 33 ∨ c.toNat = 35 ∨ c.toNat = 36 ∨ c.toNat = 37 ∨ c.toNat = 38 ∨ c.toNat = 39 ∨ c.toNat = 42 ∨ c.toNat = 43 ∨ c.toNat = 45 ∨ c.toNat = 46 ∨ c.toNat = 94 ∨ c.toNat = 95 ∨ c.toNat = 96 ∨ c.toNat = 124 ∨ c.toNat = 126) := by
  unfold tokC tokN
  simp only [Bool.or_eq_true, decide_eq_true_eq, List.contains_cons, List.contains_nil, beq_iff_eq, Bool.or_false, or_assoc]
theorem tok_iff_not {c : UInt8} : tokC c = false ↔ ¬ (97 ≤ c.toNat ∧ c.toNat ≤ 122 ∨ 65 ≤ c.toNat ∧ c.toNat ≤ 90 ∨ 48 ≤ c.toNat ∧ c.toNat ≤ 57 ∨ c.toNat = 33 ∨ c.toNat = 35 ∨ c.toNat = 36 ∨ c.toNat = 37 ∨ c.toNat = 38 ∨ c.toNat = 39 ∨ c.toNat = 42 ∨ c.toNat = 43 ∨ c.toNat = 45 ∨ c.toNat = 46 ∨ c.toNat = 94 ∨ c.toNat = 95 ∨ c.toNat = 96 ∨ c.toNat = 124 ∨ c.toNat = 126) := by
  rw [← tok_iff, Bool.not_eq_true]

set_option maxHeartbeats 6400000 in
theorem rtoken_any (s : ByteArray) (w : World) (hs : s.size ≤ 100) :
    Calls Try.prog 34 #[.string s] w fun e w' => Tells (TokenP s) e ∧ w' = w := by
  go_enter Try.func34, Try.ntmps34
  go_wp2_with fail
  go_loopw [3] (fun i wr => ∃ k : Nat, k ≤ s.size ∧ i = .int .i64 k ∧ Hid (∀ j (h : j < s.size), j < k → tokC s[j] = true) ∧ wr = w) (fun i _ => s.size - (intOf i).toNat)
  case atStart => exact ⟨0, Nat.zero_le _, rfl, fun _ _ h => absurd h (by omega), rfl⟩
  case round =>
    obtain ⟨k, hk, rfl, hno, rfl⟩ := hrel
    by_cases hlt : k < s.size
    · have hlt' : (k : Int) < (s.size : Int) := by omega
      have HX : Hid (tokC s[k] = true → ∀ j (h : j < s.size), j < k + 1 → tokC s[j] = true) := fun h j hj hjk => by
        rcases Nat.lt_or_ge j k with h1 | h1
        · exact hno.out j hj h1
        · obtain rfl : j = k := by omega
          exact h
      have hall : (s[k].toNat = 33) ∨ (s[k].toNat = 35) ∨ (s[k].toNat = 36) ∨ (s[k].toNat = 37) ∨ (s[k].toNat = 38) ∨ (s[k].toNat = 39) ∨ (s[k].toNat = 42) ∨ (s[k].toNat = 43) ∨ (s[k].toNat = 45) ∨ (s[k].toNat = 46) ∨ (s[k].toNat = 94) ∨ (s[k].toNat = 95) ∨ (s[k].toNat = 96) ∨ (s[k].toNat = 124) ∨ (s[k].toNat = 126) ∨ (48 ≤ s[k].toNat ∧ s[k].toNat ≤ 57) ∨ (65 ≤ s[k].toNat ∧ s[k].toNat ≤ 90) ∨ (97 ≤ s[k].toNat ∧ s[k].toNat ≤ 122) ∨ (s[k].toNat < 48 ∧ s[k].toNat ≠ 33 ∧ s[k].toNat ≠ 35 ∧ s[k].toNat ≠ 36 ∧ s[k].toNat ≠ 37 ∧ s[k].toNat ≠ 38 ∧ s[k].toNat ≠ 39 ∧ s[k].toNat ≠ 42 ∧ s[k].toNat ≠ 43 ∧ s[k].toNat ≠ 45 ∧ s[k].toNat ≠ 46) ∨ (58 ≤ s[k].toNat ∧ s[k].toNat ≤ 64) ∨ (91 ≤ s[k].toNat ∧ s[k].toNat ≤ 93) ∨ (123 ≤ s[k].toNat ∧ s[k].toNat ≠ 124 ∧ s[k].toNat ≠ 126) := by omega
      rcases hall with h | h | h | h | h | h | h | h | h | h | h | h | h | h | h | h | h | h | h | h | h | h
      · have HG : Hid (tokC s[k] = true) := by unfold Hid; rw [tok_iff]; omega
        have t0 : ¬ (48 : Int) ≤ (s[k].toNat : Int) := by omega
        have t2 : ¬ (65 : Int) ≤ (s[k].toNat : Int) := by omega
        have t4 : ¬ (97 : Int) ≤ (s[k].toNat : Int) := by omega
        have e33 : ((s[k].toNat : Int) == 33) = true := by rw [beq_iff_eq]; omega
        clear h
        have HY := hide (HX.out HG.out)
        clear HG HX
        go_wp2_with fail
        exact ⟨⟨k + 1, by omega, by go_num, HY.out, trivial⟩, by simp [intOf]; omega⟩
      · have HG : Hid (tokC s[k] = true) := by unfold Hid; rw [tok_iff]; omega
        have t0 : ¬ (48 : Int) ≤ (s[k].toNat : Int) := by omega
        have t2 : ¬ (65 : Int) ≤ (s[k].toNat : Int) := by omega
        have t4 : ¬ (97 : Int) ≤ (s[k].toNat : Int) := by omega
        have e33 : ((s[k].toNat : Int) == 33) = false := beq_eq_false_iff_ne.2 (by omega)
        have e35 : ((s[k].toNat : Int) == 35) = true := by rw [beq_iff_eq]; omega
        clear h
        have HY := hide (HX.out HG.out)
        clear HG HX
        go_wp2_with fail
        exact ⟨⟨k + 1, by omega, by go_num, HY.out, trivial⟩, by simp [intOf]; omega⟩
      · have HG : Hid (tokC s[k] = true) := by unfold Hid; rw [tok_iff]; omega
        have t0 : ¬ (48 : Int) ≤ (s[k].toNat : Int) := by omega
        have t2 : ¬ (65 : Int) ≤ (s[k].toNat : Int) := by omega
        have t4 : ¬ (97 : Int) ≤ (s[k].toNat : Int) := by omega
        have e33 : ((s[k].toNat : Int) == 33) = false := beq_eq_false_iff_ne.2 (by omega)
        have e35 : ((s[k].toNat : Int) == 35) = false := beq_eq_false_iff_ne.2 (by omega)
        have e36 : ((s[k].toNat : Int) == 36) = true := by rw [beq_iff_eq]; omega
        clear h
        have HY := hide (HX.out HG.out)
        clear HG HX
        go_wp2_with fail
        exact ⟨⟨k + 1, by omega, by go_num, HY.out, trivial⟩, by simp [intOf]; omega⟩
      · have HG : Hid (tokC s[k] = true) := by unfold Hid; rw [tok_iff]; omega
        have t0 : ¬ (48 : Int) ≤ (s[k].toNat : Int) := by omega
        have t2 : ¬ (65 : Int) ≤ (s[k].toNat : Int) := by omega
        have t4 : ¬ (97 : Int) ≤ (s[k].toNat : Int) := by omega
        have e33 : ((s[k].toNat : Int) == 33) = false := beq_eq_false_iff_ne.2 (by omega)
        have e35 : ((s[k].toNat : Int) == 35) = false := beq_eq_false_iff_ne.2 (by omega)
        have e36 : ((s[k].toNat : Int) == 36) = false := beq_eq_false_iff_ne.2 (by omega)
        have e37 : ((s[k].toNat : Int) == 37) = true := by rw [beq_iff_eq]; omega
        clear h
        have HY := hide (HX.out HG.out)
        clear HG HX
        go_wp2_with fail
        exact ⟨⟨k + 1, by omega, by go_num, HY.out, trivial⟩, by simp [intOf]; omega⟩
      · have HG : Hid (tokC s[k] = true) := by unfold Hid; rw [tok_iff]; omega
        have t0 : ¬ (48 : Int) ≤ (s[k].toNat : Int) := by omega
        have t2 : ¬ (65 : Int) ≤ (s[k].toNat : Int) := by omega
        have t4 : ¬ (97 : Int) ≤ (s[k].toNat : Int) := by omega
        have e33 : ((s[k].toNat : Int) == 33) = false := beq_eq_false_iff_ne.2 (by omega)
        have e35 : ((s[k].toNat : Int) == 35) = false := beq_eq_false_iff_ne.2 (by omega)
        have e36 : ((s[k].toNat : Int) == 36) = false := beq_eq_false_iff_ne.2 (by omega)
        have e37 : ((s[k].toNat : Int) == 37) = false := beq_eq_false_iff_ne.2 (by omega)
        have e38 : ((s[k].toNat : Int) == 38) = true := by rw [beq_iff_eq]; omega
        clear h
        have HY := hide (HX.out HG.out)
        clear HG HX
        go_wp2_with fail
        exact ⟨⟨k + 1, by omega, by go_num, HY.out, trivial⟩, by simp [intOf]; omega⟩
      · have HG : Hid (tokC s[k] = true) := by unfold Hid; rw [tok_iff]; omega
        have t0 : ¬ (48 : Int) ≤ (s[k].toNat : Int) := by omega
        have t2 : ¬ (65 : Int) ≤ (s[k].toNat : Int) := by omega
        have t4 : ¬ (97 : Int) ≤ (s[k].toNat : Int) := by omega
        have e33 : ((s[k].toNat : Int) == 33) = false := beq_eq_false_iff_ne.2 (by omega)
        have e35 : ((s[k].toNat : Int) == 35) = false := beq_eq_false_iff_ne.2 (by omega)
        have e36 : ((s[k].toNat : Int) == 36) = false := beq_eq_false_iff_ne.2 (by omega)
        have e37 : ((s[k].toNat : Int) == 37) = false := beq_eq_false_iff_ne.2 (by omega)
        have e38 : ((s[k].toNat : Int) == 38) = false := beq_eq_false_iff_ne.2 (by omega)
        have e39 : ((s[k].toNat : Int) == 39) = true := by rw [beq_iff_eq]; omega
        clear h
        have HY := hide (HX.out HG.out)
        clear HG HX
        go_wp2_with fail
        exact ⟨⟨k + 1, by omega, by go_num, HY.out, trivial⟩, by simp [intOf]; omega⟩
      · have HG : Hid (tokC s[k] = true) := by unfold Hid; rw [tok_iff]; omega
        have t0 : ¬ (48 : Int) ≤ (s[k].toNat : Int) := by omega
        have t2 : ¬ (65 : Int) ≤ (s[k].toNat : Int) := by omega
        have t4 : ¬ (97 : Int) ≤ (s[k].toNat : Int) := by omega
        have e33 : ((s[k].toNat : Int) == 33) = false := beq_eq_false_iff_ne.2 (by omega)
        have e35 : ((s[k].toNat : Int) == 35) = false := beq_eq_false_iff_ne.2 (by omega)
        have e36 : ((s[k].toNat : Int) == 36) = false := beq_eq_false_iff_ne.2 (by omega)
        have e37 : ((s[k].toNat : Int) == 37) = false := beq_eq_false_iff_ne.2 (by omega)
        have e38 : ((s[k].toNat : Int) == 38) = false := beq_eq_false_iff_ne.2 (by omega)
        have e39 : ((s[k].toNat : Int) == 39) = false := beq_eq_false_iff_ne.2 (by omega)
        have e42 : ((s[k].toNat : Int) == 42) = true := by rw [beq_iff_eq]; omega
        clear h
        have HY := hide (HX.out HG.out)
        clear HG HX
        go_wp2_with fail
        exact ⟨⟨k + 1, by omega, by go_num, HY.out, trivial⟩, by simp [intOf]; omega⟩
      · have HG : Hid (tokC s[k] = true) := by unfold Hid; rw [tok_iff]; omega
        have t0 : ¬ (48 : Int) ≤ (s[k].toNat : Int) := by omega
        have t2 : ¬ (65 : Int) ≤ (s[k].toNat : Int) := by omega
        have t4 : ¬ (97 : Int) ≤ (s[k].toNat : Int) := by omega
        have e33 : ((s[k].toNat : Int) == 33) = false := beq_eq_false_iff_ne.2 (by omega)
        have e35 : ((s[k].toNat : Int) == 35) = false := beq_eq_false_iff_ne.2 (by omega)
        have e36 : ((s[k].toNat : Int) == 36) = false := beq_eq_false_iff_ne.2 (by omega)
        have e37 : ((s[k].toNat : Int) == 37) = false := beq_eq_false_iff_ne.2 (by omega)
        have e38 : ((s[k].toNat : Int) == 38) = false := beq_eq_false_iff_ne.2 (by omega)
        have e39 : ((s[k].toNat : Int) == 39) = false := beq_eq_false_iff_ne.2 (by omega)
        have e42 : ((s[k].toNat : Int) == 42) = false := beq_eq_false_iff_ne.2 (by omega)
        have e43 : ((s[k].toNat : Int) == 43) = true := by rw [beq_iff_eq]; omega
        clear h
        have HY := hide (HX.out HG.out)
        clear HG HX
        go_wp2_with fail
        exact ⟨⟨k + 1, by omega, by go_num, HY.out, trivial⟩, by simp [intOf]; omega⟩
      · have HG : Hid (tokC s[k] = true) := by unfold Hid; rw [tok_iff]; omega
        have t0 : ¬ (48 : Int) ≤ (s[k].toNat : Int) := by omega
        have t2 : ¬ (65 : Int) ≤ (s[k].toNat : Int) := by omega
        have t4 : ¬ (97 : Int) ≤ (s[k].toNat : Int) := by omega
        have e33 : ((s[k].toNat : Int) == 33) = false := beq_eq_false_iff_ne.2 (by omega)
        have e35 : ((s[k].toNat : Int) == 35) = false := beq_eq_false_iff_ne.2 (by omega)
        have e36 : ((s[k].toNat : Int) == 36) = false := beq_eq_false_iff_ne.2 (by omega)
        have e37 : ((s[k].toNat : Int) == 37) = false := beq_eq_false_iff_ne.2 (by omega)
        have e38 : ((s[k].toNat : Int) == 38) = false := beq_eq_false_iff_ne.2 (by omega)
        have e39 : ((s[k].toNat : Int) == 39) = false := beq_eq_false_iff_ne.2 (by omega)
        have e42 : ((s[k].toNat : Int) == 42) = false := beq_eq_false_iff_ne.2 (by omega)
        have e43 : ((s[k].toNat : Int) == 43) = false := beq_eq_false_iff_ne.2 (by omega)
        have e45 : ((s[k].toNat : Int) == 45) = true := by rw [beq_iff_eq]; omega
        clear h
        have HY := hide (HX.out HG.out)
        clear HG HX
        go_wp2_with fail
        exact ⟨⟨k + 1, by omega, by go_num, HY.out, trivial⟩, by simp [intOf]; omega⟩
      · have HG : Hid (tokC s[k] = true) := by unfold Hid; rw [tok_iff]; omega
        have t0 : ¬ (48 : Int) ≤ (s[k].toNat : Int) := by omega
        have t2 : ¬ (65 : Int) ≤ (s[k].toNat : Int) := by omega
        have t4 : ¬ (97 : Int) ≤ (s[k].toNat : Int) := by omega
        have e33 : ((s[k].toNat : Int) == 33) = false := beq_eq_false_iff_ne.2 (by omega)
        have e35 : ((s[k].toNat : Int) == 35) = false := beq_eq_false_iff_ne.2 (by omega)
        have e36 : ((s[k].toNat : Int) == 36) = false := beq_eq_false_iff_ne.2 (by omega)
        have e37 : ((s[k].toNat : Int) == 37) = false := beq_eq_false_iff_ne.2 (by omega)
        have e38 : ((s[k].toNat : Int) == 38) = false := beq_eq_false_iff_ne.2 (by omega)
        have e39 : ((s[k].toNat : Int) == 39) = false := beq_eq_false_iff_ne.2 (by omega)
        have e42 : ((s[k].toNat : Int) == 42) = false := beq_eq_false_iff_ne.2 (by omega)
        have e43 : ((s[k].toNat : Int) == 43) = false := beq_eq_false_iff_ne.2 (by omega)
        have e45 : ((s[k].toNat : Int) == 45) = false := beq_eq_false_iff_ne.2 (by omega)
        have e46 : ((s[k].toNat : Int) == 46) = true := by rw [beq_iff_eq]; omega
        clear h
        have HY := hide (HX.out HG.out)
        clear HG HX
        go_wp2_with fail
        exact ⟨⟨k + 1, by omega, by go_num, HY.out, trivial⟩, by simp [intOf]; omega⟩
      · have HG : Hid (tokC s[k] = true) := by unfold Hid; rw [tok_iff]; omega
        have t0 : (48 : Int) ≤ (s[k].toNat : Int) := by omega
        have t1 : ¬ (s[k].toNat : Int) ≤ 57 := by omega
        have t2 : (65 : Int) ≤ (s[k].toNat : Int) := by omega
        have t3 : ¬ (s[k].toNat : Int) ≤ 90 := by omega
        have t4 : ¬ (97 : Int) ≤ (s[k].toNat : Int) := by omega
        have e33 : ((s[k].toNat : Int) == 33) = false := beq_eq_false_iff_ne.2 (by omega)
        have e35 : ((s[k].toNat : Int) == 35) = false := beq_eq_false_iff_ne.2 (by omega)
        have e36 : ((s[k].toNat : Int) == 36) = false := beq_eq_false_iff_ne.2 (by omega)
        have e37 : ((s[k].toNat : Int) == 37) = false := beq_eq_false_iff_ne.2 (by omega)
        have e38 : ((s[k].toNat : Int) == 38) = false := beq_eq_false_iff_ne.2 (by omega)
        have e39 : ((s[k].toNat : Int) == 39) = false := beq_eq_false_iff_ne.2 (by omega)
        have e42 : ((s[k].toNat : Int) == 42) = false := beq_eq_false_iff_ne.2 (by omega)
        have e43 : ((s[k].toNat : Int) == 43) = false := beq_eq_false_iff_ne.2 (by omega)
        have e45 : ((s[k].toNat : Int) == 45) = false := beq_eq_false_iff_ne.2 (by omega)
        have e46 : ((s[k].toNat : Int) == 46) = false := beq_eq_false_iff_ne.2 (by omega)
        have e94 : ((s[k].toNat : Int) == 94) = true := by rw [beq_iff_eq]; omega
        clear h
        have HY := hide (HX.out HG.out)
        clear HG HX
        go_wp2_with fail
        exact ⟨⟨k + 1, by omega, by go_num, HY.out, trivial⟩, by simp [intOf]; omega⟩
      · have HG : Hid (tokC s[k] = true) := by unfold Hid; rw [tok_iff]; omega
        have t0 : (48 : Int) ≤ (s[k].toNat : Int) := by omega
        have t1 : ¬ (s[k].toNat : Int) ≤ 57 := by omega
        have t2 : (65 : Int) ≤ (s[k].toNat : Int) := by omega
        have t3 : ¬ (s[k].toNat : Int) ≤ 90 := by omega
        have t4 : ¬ (97 : Int) ≤ (s[k].toNat : Int) := by omega
        have e33 : ((s[k].toNat : Int) == 33) = false := beq_eq_false_iff_ne.2 (by omega)
        have e35 : ((s[k].toNat : Int) == 35) = false := beq_eq_false_iff_ne.2 (by omega)
        have e36 : ((s[k].toNat : Int) == 36) = false := beq_eq_false_iff_ne.2 (by omega)
        have e37 : ((s[k].toNat : Int) == 37) = false := beq_eq_false_iff_ne.2 (by omega)
        have e38 : ((s[k].toNat : Int) == 38) = false := beq_eq_false_iff_ne.2 (by omega)
        have e39 : ((s[k].toNat : Int) == 39) = false := beq_eq_false_iff_ne.2 (by omega)
        have e42 : ((s[k].toNat : Int) == 42) = false := beq_eq_false_iff_ne.2 (by omega)
        have e43 : ((s[k].toNat : Int) == 43) = false := beq_eq_false_iff_ne.2 (by omega)
        have e45 : ((s[k].toNat : Int) == 45) = false := beq_eq_false_iff_ne.2 (by omega)
        have e46 : ((s[k].toNat : Int) == 46) = false := beq_eq_false_iff_ne.2 (by omega)
        have e94 : ((s[k].toNat : Int) == 94) = false := beq_eq_false_iff_ne.2 (by omega)
        have e95 : ((s[k].toNat : Int) == 95) = true := by rw [beq_iff_eq]; omega
        clear h
        have HY := hide (HX.out HG.out)
        clear HG HX
        go_wp2_with fail
        exact ⟨⟨k + 1, by omega, by go_num, HY.out, trivial⟩, by simp [intOf]; omega⟩
      · have HG : Hid (tokC s[k] = true) := by unfold Hid; rw [tok_iff]; omega
        have t0 : (48 : Int) ≤ (s[k].toNat : Int) := by omega
        have t1 : ¬ (s[k].toNat : Int) ≤ 57 := by omega
        have t2 : (65 : Int) ≤ (s[k].toNat : Int) := by omega
        have t3 : ¬ (s[k].toNat : Int) ≤ 90 := by omega
        have t4 : ¬ (97 : Int) ≤ (s[k].toNat : Int) := by omega
        have e33 : ((s[k].toNat : Int) == 33) = false := beq_eq_false_iff_ne.2 (by omega)
        have e35 : ((s[k].toNat : Int) == 35) = false := beq_eq_false_iff_ne.2 (by omega)
        have e36 : ((s[k].toNat : Int) == 36) = false := beq_eq_false_iff_ne.2 (by omega)
        have e37 : ((s[k].toNat : Int) == 37) = false := beq_eq_false_iff_ne.2 (by omega)
        have e38 : ((s[k].toNat : Int) == 38) = false := beq_eq_false_iff_ne.2 (by omega)
        have e39 : ((s[k].toNat : Int) == 39) = false := beq_eq_false_iff_ne.2 (by omega)
        have e42 : ((s[k].toNat : Int) == 42) = false := beq_eq_false_iff_ne.2 (by omega)
        have e43 : ((s[k].toNat : Int) == 43) = false := beq_eq_false_iff_ne.2 (by omega)
        have e45 : ((s[k].toNat : Int) == 45) = false := beq_eq_false_iff_ne.2 (by omega)
        have e46 : ((s[k].toNat : Int) == 46) = false := beq_eq_false_iff_ne.2 (by omega)
        have e94 : ((s[k].toNat : Int) == 94) = false := beq_eq_false_iff_ne.2 (by omega)
        have e95 : ((s[k].toNat : Int) == 95) = false := beq_eq_false_iff_ne.2 (by omega)
        have e96 : ((s[k].toNat : Int) == 96) = true := by rw [beq_iff_eq]; omega
        clear h
        have HY := hide (HX.out HG.out)
        clear HG HX
        go_wp2_with fail
        exact ⟨⟨k + 1, by omega, by go_num, HY.out, trivial⟩, by simp [intOf]; omega⟩
      · have HG : Hid (tokC s[k] = true) := by unfold Hid; rw [tok_iff]; omega
        have t0 : (48 : Int) ≤ (s[k].toNat : Int) := by omega
        have t1 : ¬ (s[k].toNat : Int) ≤ 57 := by omega
        have t2 : (65 : Int) ≤ (s[k].toNat : Int) := by omega
        have t3 : ¬ (s[k].toNat : Int) ≤ 90 := by omega
        have t4 : (97 : Int) ≤ (s[k].toNat : Int) := by omega
        have t5 : ¬ (s[k].toNat : Int) ≤ 122 := by omega
        have e33 : ((s[k].toNat : Int) == 33) = false := beq_eq_false_iff_ne.2 (by omega)
        have e35 : ((s[k].toNat : Int) == 35) = false := beq_eq_false_iff_ne.2 (by omega)
        have e36 : ((s[k].toNat : Int) == 36) = false := beq_eq_false_iff_ne.2 (by omega)
        have e37 : ((s[k].toNat : Int) == 37) = false := beq_eq_false_iff_ne.2 (by omega)
        have e38 : ((s[k].toNat : Int) == 38) = false := beq_eq_false_iff_ne.2 (by omega)
        have e39 : ((s[k].toNat : Int) == 39) = false := beq_eq_false_iff_ne.2 (by omega)
        have e42 : ((s[k].toNat : Int) == 42) = false := beq_eq_false_iff_ne.2 (by omega)
        have e43 : ((s[k].toNat : Int) == 43) = false := beq_eq_false_iff_ne.2 (by omega)
        have e45 : ((s[k].toNat : Int) == 45) = false := beq_eq_false_iff_ne.2 (by omega)
        have e46 : ((s[k].toNat : Int) == 46) = false := beq_eq_false_iff_ne.2 (by omega)
        have e94 : ((s[k].toNat : Int) == 94) = false := beq_eq_false_iff_ne.2 (by omega)
        have e95 : ((s[k].toNat : Int) == 95) = false := beq_eq_false_iff_ne.2 (by omega)
        have e96 : ((s[k].toNat : Int) == 96) = false := beq_eq_false_iff_ne.2 (by omega)
        have e124 : ((s[k].toNat : Int) == 124) = true := by rw [beq_iff_eq]; omega
        clear h
        have HY := hide (HX.out HG.out)
        clear HG HX
        go_wp2_with fail
        exact ⟨⟨k + 1, by omega, by go_num, HY.out, trivial⟩, by simp [intOf]; omega⟩
      · have HG : Hid (tokC s[k] = true) := by unfold Hid; rw [tok_iff]; omega
        have t0 : (48 : Int) ≤ (s[k].toNat : Int) := by omega
        have t1 : ¬ (s[k].toNat : Int) ≤ 57 := by omega
        have t2 : (65 : Int) ≤ (s[k].toNat : Int) := by omega
        have t3 : ¬ (s[k].toNat : Int) ≤ 90 := by omega
        have t4 : (97 : Int) ≤ (s[k].toNat : Int) := by omega
        have t5 : ¬ (s[k].toNat : Int) ≤ 122 := by omega
        have e33 : ((s[k].toNat : Int) == 33) = false := beq_eq_false_iff_ne.2 (by omega)
        have e35 : ((s[k].toNat : Int) == 35) = false := beq_eq_false_iff_ne.2 (by omega)
        have e36 : ((s[k].toNat : Int) == 36) = false := beq_eq_false_iff_ne.2 (by omega)
        have e37 : ((s[k].toNat : Int) == 37) = false := beq_eq_false_iff_ne.2 (by omega)
        have e38 : ((s[k].toNat : Int) == 38) = false := beq_eq_false_iff_ne.2 (by omega)
        have e39 : ((s[k].toNat : Int) == 39) = false := beq_eq_false_iff_ne.2 (by omega)
        have e42 : ((s[k].toNat : Int) == 42) = false := beq_eq_false_iff_ne.2 (by omega)
        have e43 : ((s[k].toNat : Int) == 43) = false := beq_eq_false_iff_ne.2 (by omega)
        have e45 : ((s[k].toNat : Int) == 45) = false := beq_eq_false_iff_ne.2 (by omega)
        have e46 : ((s[k].toNat : Int) == 46) = false := beq_eq_false_iff_ne.2 (by omega)
        have e94 : ((s[k].toNat : Int) == 94) = false := beq_eq_false_iff_ne.2 (by omega)
        have e95 : ((s[k].toNat : Int) == 95) = false := beq_eq_false_iff_ne.2 (by omega)
        have e96 : ((s[k].toNat : Int) == 96) = false := beq_eq_false_iff_ne.2 (by omega)
        have e124 : ((s[k].toNat : Int) == 124) = false := beq_eq_false_iff_ne.2 (by omega)
        have e126 : ((s[k].toNat : Int) == 126) = true := by rw [beq_iff_eq]; omega
        clear h
        have HY := hide (HX.out HG.out)
        clear HG HX
        go_wp2_with fail
        exact ⟨⟨k + 1, by omega, by go_num, HY.out, trivial⟩, by simp [intOf]; omega⟩
      · have HG : Hid (tokC s[k] = true) := by unfold Hid; rw [tok_iff]; omega
        have t0 : (48 : Int) ≤ (s[k].toNat : Int) := by omega
        have t1 : (s[k].toNat : Int) ≤ 57 := by omega
        have e33 : ((s[k].toNat : Int) == 33) = false := beq_eq_false_iff_ne.2 (by omega)
        have e35 : ((s[k].toNat : Int) == 35) = false := beq_eq_false_iff_ne.2 (by omega)
        have e36 : ((s[k].toNat : Int) == 36) = false := beq_eq_false_iff_ne.2 (by omega)
        have e37 : ((s[k].toNat : Int) == 37) = false := beq_eq_false_iff_ne.2 (by omega)
        have e38 : ((s[k].toNat : Int) == 38) = false := beq_eq_false_iff_ne.2 (by omega)
        have e39 : ((s[k].toNat : Int) == 39) = false := beq_eq_false_iff_ne.2 (by omega)
        have e42 : ((s[k].toNat : Int) == 42) = false := beq_eq_false_iff_ne.2 (by omega)
        have e43 : ((s[k].toNat : Int) == 43) = false := beq_eq_false_iff_ne.2 (by omega)
        have e45 : ((s[k].toNat : Int) == 45) = false := beq_eq_false_iff_ne.2 (by omega)
        have e46 : ((s[k].toNat : Int) == 46) = false := beq_eq_false_iff_ne.2 (by omega)
        have e94 : ((s[k].toNat : Int) == 94) = false := beq_eq_false_iff_ne.2 (by omega)
        have e95 : ((s[k].toNat : Int) == 95) = false := beq_eq_false_iff_ne.2 (by omega)
        have e96 : ((s[k].toNat : Int) == 96) = false := beq_eq_false_iff_ne.2 (by omega)
        have e124 : ((s[k].toNat : Int) == 124) = false := beq_eq_false_iff_ne.2 (by omega)
        have e126 : ((s[k].toNat : Int) == 126) = false := beq_eq_false_iff_ne.2 (by omega)
        clear h
        have HY := hide (HX.out HG.out)
        clear HG HX
        go_wp2_with fail
        exact ⟨⟨k + 1, by omega, by go_num, HY.out, trivial⟩, by simp [intOf]; omega⟩
      · have HG : Hid (tokC s[k] = true) := by unfold Hid; rw [tok_iff]; omega
        have t0 : (48 : Int) ≤ (s[k].toNat : Int) := by omega
        have t1 : ¬ (s[k].toNat : Int) ≤ 57 := by omega
        have t2 : (65 : Int) ≤ (s[k].toNat : Int) := by omega
        have t3 : (s[k].toNat : Int) ≤ 90 := by omega
        have e33 : ((s[k].toNat : Int) == 33) = false := beq_eq_false_iff_ne.2 (by omega)
        have e35 : ((s[k].toNat : Int) == 35) = false := beq_eq_false_iff_ne.2 (by omega)
        have e36 : ((s[k].toNat : Int) == 36) = false := beq_eq_false_iff_ne.2 (by omega)
        have e37 : ((s[k].toNat : Int) == 37) = false := beq_eq_false_iff_ne.2 (by omega)
        have e38 : ((s[k].toNat : Int) == 38) = false := beq_eq_false_iff_ne.2 (by omega)
        have e39 : ((s[k].toNat : Int) == 39) = false := beq_eq_false_iff_ne.2 (by omega)
        have e42 : ((s[k].toNat : Int) == 42) = false := beq_eq_false_iff_ne.2 (by omega)
        have e43 : ((s[k].toNat : Int) == 43) = false := beq_eq_false_iff_ne.2 (by omega)
        have e45 : ((s[k].toNat : Int) == 45) = false := beq_eq_false_iff_ne.2 (by omega)
        have e46 : ((s[k].toNat : Int) == 46) = false := beq_eq_false_iff_ne.2 (by omega)
        have e94 : ((s[k].toNat : Int) == 94) = false := beq_eq_false_iff_ne.2 (by omega)
        have e95 : ((s[k].toNat : Int) == 95) = false := beq_eq_false_iff_ne.2 (by omega)
        have e96 : ((s[k].toNat : Int) == 96) = false := beq_eq_false_iff_ne.2 (by omega)
        have e124 : ((s[k].toNat : Int) == 124) = false := beq_eq_false_iff_ne.2 (by omega)
        have e126 : ((s[k].toNat : Int) == 126) = false := beq_eq_false_iff_ne.2 (by omega)
        clear h
        have HY := hide (HX.out HG.out)
        clear HG HX
        go_wp2_with fail
        exact ⟨⟨k + 1, by omega, by go_num, HY.out, trivial⟩, by simp [intOf]; omega⟩
      · have HG : Hid (tokC s[k] = true) := by unfold Hid; rw [tok_iff]; omega
        have t0 : (48 : Int) ≤ (s[k].toNat : Int) := by omega
        have t1 : ¬ (s[k].toNat : Int) ≤ 57 := by omega
        have t2 : (65 : Int) ≤ (s[k].toNat : Int) := by omega
        have t3 : ¬ (s[k].toNat : Int) ≤ 90 := by omega
        have t4 : (97 : Int) ≤ (s[k].toNat : Int) := by omega
        have t5 : (s[k].toNat : Int) ≤ 122 := by omega
        have e33 : ((s[k].toNat : Int) == 33) = false := beq_eq_false_iff_ne.2 (by omega)
        have e35 : ((s[k].toNat : Int) == 35) = false := beq_eq_false_iff_ne.2 (by omega)
        have e36 : ((s[k].toNat : Int) == 36) = false := beq_eq_false_iff_ne.2 (by omega)
        have e37 : ((s[k].toNat : Int) == 37) = false := beq_eq_false_iff_ne.2 (by omega)
        have e38 : ((s[k].toNat : Int) == 38) = false := beq_eq_false_iff_ne.2 (by omega)
        have e39 : ((s[k].toNat : Int) == 39) = false := beq_eq_false_iff_ne.2 (by omega)
        have e42 : ((s[k].toNat : Int) == 42) = false := beq_eq_false_iff_ne.2 (by omega)
        have e43 : ((s[k].toNat : Int) == 43) = false := beq_eq_false_iff_ne.2 (by omega)
        have e45 : ((s[k].toNat : Int) == 45) = false := beq_eq_false_iff_ne.2 (by omega)
        have e46 : ((s[k].toNat : Int) == 46) = false := beq_eq_false_iff_ne.2 (by omega)
        have e94 : ((s[k].toNat : Int) == 94) = false := beq_eq_false_iff_ne.2 (by omega)
        have e95 : ((s[k].toNat : Int) == 95) = false := beq_eq_false_iff_ne.2 (by omega)
        have e96 : ((s[k].toNat : Int) == 96) = false := beq_eq_false_iff_ne.2 (by omega)
        have e124 : ((s[k].toNat : Int) == 124) = false := beq_eq_false_iff_ne.2 (by omega)
        have e126 : ((s[k].toNat : Int) == 126) = false := beq_eq_false_iff_ne.2 (by omega)
        clear h
        have HY := hide (HX.out HG.out)
        clear HG HX
        go_wp2_with fail
        exact ⟨⟨k + 1, by omega, by go_num, HY.out, trivial⟩, by simp [intOf]; omega⟩
      · have HG : Hid (tokC s[k] = false) := by unfold Hid; rw [tok_iff_not]; omega
        have t0 : ¬ (48 : Int) ≤ (s[k].toNat : Int) := by omega
        have t2 : ¬ (65 : Int) ≤ (s[k].toNat : Int) := by omega
        have t4 : ¬ (97 : Int) ≤ (s[k].toNat : Int) := by omega
        have e33 : ((s[k].toNat : Int) == 33) = false := beq_eq_false_iff_ne.2 (by omega)
        have e35 : ((s[k].toNat : Int) == 35) = false := beq_eq_false_iff_ne.2 (by omega)
        have e36 : ((s[k].toNat : Int) == 36) = false := beq_eq_false_iff_ne.2 (by omega)
        have e37 : ((s[k].toNat : Int) == 37) = false := beq_eq_false_iff_ne.2 (by omega)
        have e38 : ((s[k].toNat : Int) == 38) = false := beq_eq_false_iff_ne.2 (by omega)
        have e39 : ((s[k].toNat : Int) == 39) = false := beq_eq_false_iff_ne.2 (by omega)
        have e42 : ((s[k].toNat : Int) == 42) = false := beq_eq_false_iff_ne.2 (by omega)
        have e43 : ((s[k].toNat : Int) == 43) = false := beq_eq_false_iff_ne.2 (by omega)
        have e45 : ((s[k].toNat : Int) == 45) = false := beq_eq_false_iff_ne.2 (by omega)
        have e46 : ((s[k].toNat : Int) == 46) = false := beq_eq_false_iff_ne.2 (by omega)
        have e94 : ((s[k].toNat : Int) == 94) = false := beq_eq_false_iff_ne.2 (by omega)
        have e95 : ((s[k].toNat : Int) == 95) = false := beq_eq_false_iff_ne.2 (by omega)
        have e96 : ((s[k].toNat : Int) == 96) = false := beq_eq_false_iff_ne.2 (by omega)
        have e124 : ((s[k].toNat : Int) == 124) = false := beq_eq_false_iff_ne.2 (by omega)
        have e126 : ((s[k].toNat : Int) == 126) = false := beq_eq_false_iff_ne.2 (by omega)
        clear h
        have HN : Hid (¬ TokenP s) := fun h => by have := h.2.2 k hlt; rw [HG.out] at this; cases this
        clear HG HX
        go_wp2_with fail
        go_ret
        exact ⟨tells_no HN.out, rfl⟩
      · have HG : Hid (tokC s[k] = false) := by unfold Hid; rw [tok_iff_not]; omega
        have t0 : (48 : Int) ≤ (s[k].toNat : Int) := by omega
        have t1 : ¬ (s[k].toNat : Int) ≤ 57 := by omega
        have t2 : ¬ (65 : Int) ≤ (s[k].toNat : Int) := by omega
        have t4 : ¬ (97 : Int) ≤ (s[k].toNat : Int) := by omega
        have e33 : ((s[k].toNat : Int) == 33) = false := beq_eq_false_iff_ne.2 (by omega)
        have e35 : ((s[k].toNat : Int) == 35) = false := beq_eq_false_iff_ne.2 (by omega)
        have e36 : ((s[k].toNat : Int) == 36) = false := beq_eq_false_iff_ne.2 (by omega)
        have e37 : ((s[k].toNat : Int) == 37) = false := beq_eq_false_iff_ne.2 (by omega)
        have e38 : ((s[k].toNat : Int) == 38) = false := beq_eq_false_iff_ne.2 (by omega)
        have e39 : ((s[k].toNat : Int) == 39) = false := beq_eq_false_iff_ne.2 (by omega)
        have e42 : ((s[k].toNat : Int) == 42) = false := beq_eq_false_iff_ne.2 (by omega)
        have e43 : ((s[k].toNat : Int) == 43) = false := beq_eq_false_iff_ne.2 (by omega)
        have e45 : ((s[k].toNat : Int) == 45) = false := beq_eq_false_iff_ne.2 (by omega)
        have e46 : ((s[k].toNat : Int) == 46) = false := beq_eq_false_iff_ne.2 (by omega)
        have e94 : ((s[k].toNat : Int) == 94) = false := beq_eq_false_iff_ne.2 (by omega)
        have e95 : ((s[k].toNat : Int) == 95) = false := beq_eq_false_iff_ne.2 (by omega)
        have e96 : ((s[k].toNat : Int) == 96) = false := beq_eq_false_iff_ne.2 (by omega)
        have e124 : ((s[k].toNat : Int) == 124) = false := beq_eq_false_iff_ne.2 (by omega)
        have e126 : ((s[k].toNat : Int) == 126) = false := beq_eq_false_iff_ne.2 (by omega)
        clear h
        have HN : Hid (¬ TokenP s) := fun h => by have := h.2.2 k hlt; rw [HG.out] at this; cases this
        clear HG HX
        go_wp2_with fail
        go_ret
        exact ⟨tells_no HN.out, rfl⟩
      · have HG : Hid (tokC s[k] = false) := by unfold Hid; rw [tok_iff_not]; omega
        have t0 : (48 : Int) ≤ (s[k].toNat : Int) := by omega
        have t1 : ¬ (s[k].toNat : Int) ≤ 57 := by omega
        have t2 : (65 : Int) ≤ (s[k].toNat : Int) := by omega
        have t3 : ¬ (s[k].toNat : Int) ≤ 90 := by omega
        have t4 : ¬ (97 : Int) ≤ (s[k].toNat : Int) := by omega
        have e33 : ((s[k].toNat : Int) == 33) = false := beq_eq_false_iff_ne.2 (by omega)
        have e35 : ((s[k].toNat : Int) == 35) = false := beq_eq_false_iff_ne.2 (by omega)
        have e36 : ((s[k].toNat : Int) == 36) = false := beq_eq_false_iff_ne.2 (by omega)
        have e37 : ((s[k].toNat : Int) == 37) = false := beq_eq_false_iff_ne.2 (by omega)
        have e38 : ((s[k].toNat : Int) == 38) = false := beq_eq_false_iff_ne.2 (by omega)
        have e39 : ((s[k].toNat : Int) == 39) = false := beq_eq_false_iff_ne.2 (by omega)
        have e42 : ((s[k].toNat : Int) == 42) = false := beq_eq_false_iff_ne.2 (by omega)
        have e43 : ((s[k].toNat : Int) == 43) = false := beq_eq_false_iff_ne.2 (by omega)
        have e45 : ((s[k].toNat : Int) == 45) = false := beq_eq_false_iff_ne.2 (by omega)
        have e46 : ((s[k].toNat : Int) == 46) = false := beq_eq_false_iff_ne.2 (by omega)
        have e94 : ((s[k].toNat : Int) == 94) = false := beq_eq_false_iff_ne.2 (by omega)
        have e95 : ((s[k].toNat : Int) == 95) = false := beq_eq_false_iff_ne.2 (by omega)
        have e96 : ((s[k].toNat : Int) == 96) = false := beq_eq_false_iff_ne.2 (by omega)
        have e124 : ((s[k].toNat : Int) == 124) = false := beq_eq_false_iff_ne.2 (by omega)
        have e126 : ((s[k].toNat : Int) == 126) = false := beq_eq_false_iff_ne.2 (by omega)
        clear h
        have HN : Hid (¬ TokenP s) := fun h => by have := h.2.2 k hlt; rw [HG.out] at this; cases this
        clear HG HX
        go_wp2_with fail
        go_ret
        exact ⟨tells_no HN.out, rfl⟩
      · have HG : Hid (tokC s[k] = false) := by unfold Hid; rw [tok_iff_not]; omega
        have t0 : (48 : Int) ≤ (s[k].toNat : Int) := by omega
        have t1 : ¬ (s[k].toNat : Int) ≤ 57 := by omega
        have t2 : (65 : Int) ≤ (s[k].toNat : Int) := by omega
        have t3 : ¬ (s[k].toNat : Int) ≤ 90 := by omega
        have t4 : (97 : Int) ≤ (s[k].toNat : Int) := by omega
        have t5 : ¬ (s[k].toNat : Int) ≤ 122 := by omega
        have e33 : ((s[k].toNat : Int) == 33) = false := beq_eq_false_iff_ne.2 (by omega)
        have e35 : ((s[k].toNat : Int) == 35) = false := beq_eq_false_iff_ne.2 (by omega)
        have e36 : ((s[k].toNat : Int) == 36) = false := beq_eq_false_iff_ne.2 (by omega)
        have e37 : ((s[k].toNat : Int) == 37) = false := beq_eq_false_iff_ne.2 (by omega)
        have e38 : ((s[k].toNat : Int) == 38) = false := beq_eq_false_iff_ne.2 (by omega)
        have e39 : ((s[k].toNat : Int) == 39) = false := beq_eq_false_iff_ne.2 (by omega)
        have e42 : ((s[k].toNat : Int) == 42) = false := beq_eq_false_iff_ne.2 (by omega)
        have e43 : ((s[k].toNat : Int) == 43) = false := beq_eq_false_iff_ne.2 (by omega)
        have e45 : ((s[k].toNat : Int) == 45) = false := beq_eq_false_iff_ne.2 (by omega)
        have e46 : ((s[k].toNat : Int) == 46) = false := beq_eq_false_iff_ne.2 (by omega)
        have e94 : ((s[k].toNat : Int) == 94) = false := beq_eq_false_iff_ne.2 (by omega)
        have e95 : ((s[k].toNat : Int) == 95) = false := beq_eq_false_iff_ne.2 (by omega)
        have e96 : ((s[k].toNat : Int) == 96) = false := beq_eq_false_iff_ne.2 (by omega)
        have e124 : ((s[k].toNat : Int) == 124) = false := beq_eq_false_iff_ne.2 (by omega)
        have e126 : ((s[k].toNat : Int) == 126) = false := beq_eq_false_iff_ne.2 (by omega)
        clear h
        have HN : Hid (¬ TokenP s) := fun h => by have := h.2.2 k hlt; rw [HG.out] at this; cases this
        clear HG HX
        go_wp2_with fail
        go_ret
        exact ⟨tells_no HN.out, rfl⟩
    · have hlt' : ¬ (k : Int) < (s.size : Int) := by omega
      have HT : Hid (TokenP s ↔ 1 ≤ s.size ∧ s.size ≤ 40) := ⟨fun h => ⟨h.1, h.2.1⟩, fun h => ⟨h.1, h.2, fun j hj => hno.out j hj (by omega)⟩⟩
      by_cases h1 : 1 ≤ s.size
      · have t1 : (1 : Int) ≤ (s.size : Int) := by omega
        by_cases h40 : s.size ≤ 40
        · have t2 : (s.size : Int) ≤ 40 := by omega
          go_wp2_with fail
          go_ret
          exact ⟨tells_yes (HT.out.2 ⟨h1, h40⟩), rfl⟩
        · have t2 : decide ((s.size : Int) ≤ 40) = false := decide_eq_false (by omega)
          have HN : Hid (¬ TokenP s) := fun h => h40 (HT.out.1 h).2
          clear h40
          go_wp2_with fail
          go_ret
          exact ⟨tells_no HN.out, rfl⟩
      · have t1 : decide ((1 : Int) ≤ (s.size : Int)) = false := decide_eq_false (by omega)
        have HN : Hid (¬ TokenP s) := fun h => h1 (HT.out.1 h).1
        clear h1
        go_wp2_with fail
        go_ret
        exact ⟨tells_no HN.out, rfl⟩

set_option maxHeartbeats 3200000 in
theorem rvalue_any (s : ByteArray) (w : World) (hs : s.size ≤ 100) :
    Calls Try.prog 35 #[.string s] w fun e w' => Tells (ValueP s) e ∧ w' = w := by
  go_enter Try.func35, Try.ntmps35
  go_wp2_with fail
  go_loopw [3] (fun i wr => ∃ k : Nat, k ≤ s.size ∧ i = .int .i64 k ∧ Hid (∀ j (h : j < s.size), j < k → valAt s j h) ∧ wr = w) (fun i _ => s.size - (intOf i).toNat)
  case atStart => exact ⟨0, Nat.zero_le _, rfl, fun _ _ h => absurd h (by omega), rfl⟩
  case round =>
    obtain ⟨k, hk, rfl, hno, rfl⟩ := hrel
    by_cases hlt : k < s.size
    · have hlt' : (k : Int) < (s.size : Int) := by omega
      have HX : Hid (valAt s k hlt → ∀ j (h : j < s.size), j < k + 1 → valAt s j h) := fun h j hj hjk => by
        rcases Nat.lt_or_ge j k with h1 | h1
        · exact hno.out j hj h1
        · obtain rfl : j = k := by omega
          exact h
      rcases (show k = 0 ∨ (k ≠ 0 ∧ k + 1 = s.size) ∨ (k ≠ 0 ∧ k + 1 ≠ s.size) by omega) with he | he | he
      · rcases (show s[k].toNat < 32 ∨ 126 < s[k].toNat ∨ s[k].toNat = 32 ∨ (33 ≤ s[k].toNat ∧ s[k].toNat ≤ 126) by omega) with h | h | h | h
        · have HE := hide he
          have HH := hide h
          have e0 : ((k : Int) == 0) = true := by rw [beq_iff_eq]; omega
          have t0 : (s[k].toNat : Int) < 32 := by omega
          have HN : Hid (¬ ValueP s) := fun hv => by have := hv.2 k hlt; unfold valAt at this; omega
          clear he h HE HH HX
          go_wp2_with fail
          go_ret
          exact ⟨tells_no HN.out, rfl⟩
        · have HE := hide he
          have HH := hide h
          have e0 : ((k : Int) == 0) = true := by rw [beq_iff_eq]; omega
          have t0 : ¬ (s[k].toNat : Int) < 32 := by omega
          have t1 : (126 : Int) < (s[k].toNat : Int) := by omega
          have HN : Hid (¬ ValueP s) := fun hv => by have := hv.2 k hlt; unfold valAt at this; omega
          clear he h HE HH HX
          go_wp2_with fail
          go_ret
          exact ⟨tells_no HN.out, rfl⟩
        · have HE := hide he
          have HH := hide h
          have e0 : ((k : Int) == 0) = true := by rw [beq_iff_eq]; omega
          have t0 : ¬ (s[k].toNat : Int) < 32 := by omega
          have t1 : ¬ (126 : Int) < (s[k].toNat : Int) := by omega
          have t2 : ((s[k].toNat : Int) == 32) = true := by rw [beq_iff_eq]; omega
          have HN : Hid (¬ ValueP s) := fun hv => by have := hv.2 k hlt; unfold valAt at this; omega
          clear he h HE HH HX
          go_wp2_with fail
          go_ret
          exact ⟨tells_no HN.out, rfl⟩
        · have HE := hide he
          have HH := hide h
          have e0 : ((k : Int) == 0) = true := by rw [beq_iff_eq]; omega
          have t0 : ¬ (s[k].toNat : Int) < 32 := by omega
          have t1 : ¬ (126 : Int) < (s[k].toNat : Int) := by omega
          have t2 : ((s[k].toNat : Int) == 32) = false := beq_eq_false_iff_ne.2 (by omega)
          have HY := hide (HX.out (by unfold valAt; omega))
          clear he h HE HH HX
          go_wp2_with fail
          exact ⟨⟨k + 1, by omega, by go_num, HY.out, trivial⟩, by simp [intOf]; omega⟩
      · rcases (show s[k].toNat < 32 ∨ 126 < s[k].toNat ∨ s[k].toNat = 32 ∨ (33 ≤ s[k].toNat ∧ s[k].toNat ≤ 126) by omega) with h | h | h | h
        · have HE := hide he
          have HH := hide h
          have e0 : ((k : Int) == 0) = false := beq_eq_false_iff_ne.2 (by omega)
          have e1 : ((k : Int) == (s.size : Int) - 1) = true := by rw [beq_iff_eq]; omega
          have t0 : (s[k].toNat : Int) < 32 := by omega
          have HN : Hid (¬ ValueP s) := fun hv => by have := hv.2 k hlt; unfold valAt at this; omega
          clear he h HE HH HX
          go_wp2_with fail
          go_ret
          exact ⟨tells_no HN.out, rfl⟩
        · have HE := hide he
          have HH := hide h
          have e0 : ((k : Int) == 0) = false := beq_eq_false_iff_ne.2 (by omega)
          have e1 : ((k : Int) == (s.size : Int) - 1) = true := by rw [beq_iff_eq]; omega
          have t0 : ¬ (s[k].toNat : Int) < 32 := by omega
          have t1 : (126 : Int) < (s[k].toNat : Int) := by omega
          have HN : Hid (¬ ValueP s) := fun hv => by have := hv.2 k hlt; unfold valAt at this; omega
          clear he h HE HH HX
          go_wp2_with fail
          go_ret
          exact ⟨tells_no HN.out, rfl⟩
        · have HE := hide he
          have HH := hide h
          have e0 : ((k : Int) == 0) = false := beq_eq_false_iff_ne.2 (by omega)
          have e1 : ((k : Int) == (s.size : Int) - 1) = true := by rw [beq_iff_eq]; omega
          have t0 : ¬ (s[k].toNat : Int) < 32 := by omega
          have t1 : ¬ (126 : Int) < (s[k].toNat : Int) := by omega
          have t2 : ((s[k].toNat : Int) == 32) = true := by rw [beq_iff_eq]; omega
          have HN : Hid (¬ ValueP s) := fun hv => by have := hv.2 k hlt; unfold valAt at this; omega
          clear he h HE HH HX
          go_wp2_with fail
          go_ret
          exact ⟨tells_no HN.out, rfl⟩
        · have HE := hide he
          have HH := hide h
          have e0 : ((k : Int) == 0) = false := beq_eq_false_iff_ne.2 (by omega)
          have e1 : ((k : Int) == (s.size : Int) - 1) = true := by rw [beq_iff_eq]; omega
          have t0 : ¬ (s[k].toNat : Int) < 32 := by omega
          have t1 : ¬ (126 : Int) < (s[k].toNat : Int) := by omega
          have t2 : ((s[k].toNat : Int) == 32) = false := beq_eq_false_iff_ne.2 (by omega)
          have HY := hide (HX.out (by unfold valAt; omega))
          clear he h HE HH HX
          go_wp2_with fail
          exact ⟨⟨k + 1, by omega, by go_num, HY.out, trivial⟩, by simp [intOf]; omega⟩
      · rcases (show s[k].toNat < 32 ∨ 126 < s[k].toNat ∨ s[k].toNat = 32 ∨ (33 ≤ s[k].toNat ∧ s[k].toNat ≤ 126) by omega) with h | h | h | h
        · have HE := hide he
          have HH := hide h
          have e0 : ((k : Int) == 0) = false := beq_eq_false_iff_ne.2 (by omega)
          have e1 : ((k : Int) == (s.size : Int) - 1) = false := beq_eq_false_iff_ne.2 (by omega)
          have t0 : (s[k].toNat : Int) < 32 := by omega
          have HN : Hid (¬ ValueP s) := fun hv => by have := hv.2 k hlt; unfold valAt at this; omega
          clear he h HE HH HX
          go_wp2_with fail
          go_ret
          exact ⟨tells_no HN.out, rfl⟩
        · have HE := hide he
          have HH := hide h
          have e0 : ((k : Int) == 0) = false := beq_eq_false_iff_ne.2 (by omega)
          have e1 : ((k : Int) == (s.size : Int) - 1) = false := beq_eq_false_iff_ne.2 (by omega)
          have t0 : ¬ (s[k].toNat : Int) < 32 := by omega
          have t1 : (126 : Int) < (s[k].toNat : Int) := by omega
          have HN : Hid (¬ ValueP s) := fun hv => by have := hv.2 k hlt; unfold valAt at this; omega
          clear he h HE HH HX
          go_wp2_with fail
          go_ret
          exact ⟨tells_no HN.out, rfl⟩
        · have HE := hide he
          have HH := hide h
          have e0 : ((k : Int) == 0) = false := beq_eq_false_iff_ne.2 (by omega)
          have e1 : ((k : Int) == (s.size : Int) - 1) = false := beq_eq_false_iff_ne.2 (by omega)
          have t0 : ¬ (s[k].toNat : Int) < 32 := by omega
          have t1 : ¬ (126 : Int) < (s[k].toNat : Int) := by omega
          have t2 : ((s[k].toNat : Int) == 32) = true := by rw [beq_iff_eq]; omega
          have HY := hide (HX.out (by unfold valAt; omega))
          clear he h HE HH HX
          go_wp2_with fail
          exact ⟨⟨k + 1, by omega, by go_num, HY.out, trivial⟩, by simp [intOf]; omega⟩
        · have HE := hide he
          have HH := hide h
          have e0 : ((k : Int) == 0) = false := beq_eq_false_iff_ne.2 (by omega)
          have e1 : ((k : Int) == (s.size : Int) - 1) = false := beq_eq_false_iff_ne.2 (by omega)
          have t0 : ¬ (s[k].toNat : Int) < 32 := by omega
          have t1 : ¬ (126 : Int) < (s[k].toNat : Int) := by omega
          have t2 : ((s[k].toNat : Int) == 32) = false := beq_eq_false_iff_ne.2 (by omega)
          have HY := hide (HX.out (by unfold valAt; omega))
          clear he h HE HH HX
          go_wp2_with fail
          exact ⟨⟨k + 1, by omega, by go_num, HY.out, trivial⟩, by simp [intOf]; omega⟩
    · have hlt' : ¬ (k : Int) < (s.size : Int) := by omega
      have HT : Hid (ValueP s ↔ s.size ≤ 40) := ⟨fun h => h.1, fun h => ⟨h, fun j hj => hno.out j hj (by omega)⟩⟩
      by_cases h40 : s.size ≤ 40
      · have t2 : (s.size : Int) ≤ 40 := by omega
        go_wp2_with fail
        go_ret
        exact ⟨tells_yes (HT.out.2 h40), rfl⟩
      · have t2 : decide ((s.size : Int) ≤ 40) = false := decide_eq_false (by omega)
        have HN : Hid (¬ ValueP s) := fun h => h40 (HT.out.1 h)
        clear h40
        go_wp2_with fail
        go_ret
        exact ⟨tells_no HN.out, rfl⟩

end Go.Proofs.Ytppnkfjdgalgbaa
