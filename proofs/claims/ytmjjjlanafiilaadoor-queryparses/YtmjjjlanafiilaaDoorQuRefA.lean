/-
  Walks of the document's own answers: Plain, May, hex, written, Text.
-/
import Derived.Test.YtmjjjlanafiilaaDoorQuLawF
import Derived.Test.YtmjjjlanafiilaaDoorGrow
import Derived.Deep.RegionHeld3
namespace Go.Proofs.YtmjjjlanafiilaaDoor
open Go Go.RowKit Go.Shelf

attribute [local go_sem] gb_const

set_option maxHeartbeats 1600000 in
theorem rplain_any (c : UInt8) (w : World) :
    Calls Tryd.prog 15 #[.int .u8 (c.toNat : Int)] w fun e w' => e = .returned (.bool (Qu.plainO c)) ∧ w' = w := by
  have hc8 := c.toNat_lt
  have hall : (97 ≤ c.toNat ∧ c.toNat ≤ 122) ∨ (c.toNat = 126) ∨ (123 ≤ c.toNat ∧ c.toNat ≠ 126) ∨ (65 ≤ c.toNat ∧ c.toNat ≤ 90) ∨ (c.toNat = 95) ∨ (91 ≤ c.toNat ∧ c.toNat ≤ 96 ∧ c.toNat ≠ 95) ∨ (48 ≤ c.toNat ∧ c.toNat ≤ 57) ∨ (58 ≤ c.toNat ∧ c.toNat ≤ 64) ∨ (c.toNat = 45) ∨ (c.toNat = 46) ∨ (c.toNat ≤ 47 ∧ c.toNat ≠ 45 ∧ c.toNat ≠ 46) := by omega
  have HT : c.toNat < 256 → Hid (Qu.plainO c = true ↔ (97 ≤ c.toNat ∧ c.toNat ≤ 122 ∨ 65 ≤ c.toNat ∧ c.toNat ≤ 90 ∨ 48 ≤ c.toNat ∧ c.toNat ≤ 57 ∨ c.toNat = 45 ∨ c.toNat = 46 ∨ c.toNat = 95 ∨ c.toNat = 126)) := by
    intro _
    unfold Hid Qu.plainO Qu.plainN
    simp only [Bool.or_eq_true, Bool.and_eq_true, decide_eq_true_eq, beq_iff_eq, or_assoc]
  rcases hall with h | h | h | h | h | h | h | h | h | h | h
  · have HP : Hid (Qu.plainO c = true) := (HT hc8).out.2 (by omega)
    have t0 : (97 : Int) ≤ (c.toNat : Int) := by omega
    have t1 : (c.toNat : Int) ≤ 122 := by omega
    clear h HT
    go_enter Tryd.func15, Tryd.ntmps15
    go_wp2_with fail
    go_ret
    exact ⟨ret_bool HP.out.symm, rfl⟩
  · have HP : Hid (Qu.plainO c = true) := (HT hc8).out.2 (by omega)
    have t0 : (97 : Int) ≤ (c.toNat : Int) := by omega
    have t1 : ¬ (c.toNat : Int) ≤ 122 := by omega
    have t2 : (65 : Int) ≤ (c.toNat : Int) := by omega
    have t3 : ¬ (c.toNat : Int) ≤ 90 := by omega
    have t4 : (48 : Int) ≤ (c.toNat : Int) := by omega
    have t5 : ¬ (c.toNat : Int) ≤ 57 := by omega
    have t6 : ((c.toNat : Int) == 45) = false := beq_eq_false_iff_ne.2 (by omega)
    have t7 : ((c.toNat : Int) == 46) = false := beq_eq_false_iff_ne.2 (by omega)
    have t8 : ((c.toNat : Int) == 95) = false := beq_eq_false_iff_ne.2 (by omega)
    have t9 : ((c.toNat : Int) == 126) = true := by rw [beq_iff_eq]; omega
    clear h HT
    go_enter Tryd.func15, Tryd.ntmps15
    go_wp2_with fail
    go_ret
    exact ⟨ret_bool HP.out.symm, rfl⟩
  · have HP : Hid (Qu.plainO c = false) := by unfold Hid; rw [← Bool.not_eq_true, (HT hc8).out]; omega
    have t0 : (97 : Int) ≤ (c.toNat : Int) := by omega
    have t1 : ¬ (c.toNat : Int) ≤ 122 := by omega
    have t2 : (65 : Int) ≤ (c.toNat : Int) := by omega
    have t3 : ¬ (c.toNat : Int) ≤ 90 := by omega
    have t4 : (48 : Int) ≤ (c.toNat : Int) := by omega
    have t5 : ¬ (c.toNat : Int) ≤ 57 := by omega
    have t6 : ((c.toNat : Int) == 45) = false := beq_eq_false_iff_ne.2 (by omega)
    have t7 : ((c.toNat : Int) == 46) = false := beq_eq_false_iff_ne.2 (by omega)
    have t8 : ((c.toNat : Int) == 95) = false := beq_eq_false_iff_ne.2 (by omega)
    have t9 : ((c.toNat : Int) == 126) = false := beq_eq_false_iff_ne.2 (by omega)
    clear h HT
    go_enter Tryd.func15, Tryd.ntmps15
    go_wp2_with fail
    go_ret
    exact ⟨ret_bool HP.out.symm, rfl⟩
  · have HP : Hid (Qu.plainO c = true) := (HT hc8).out.2 (by omega)
    have t0 : ¬ (97 : Int) ≤ (c.toNat : Int) := by omega
    have t1 : (65 : Int) ≤ (c.toNat : Int) := by omega
    have t2 : (c.toNat : Int) ≤ 90 := by omega
    clear h HT
    go_enter Tryd.func15, Tryd.ntmps15
    go_wp2_with fail
    go_ret
    exact ⟨ret_bool HP.out.symm, rfl⟩
  · have HP : Hid (Qu.plainO c = true) := (HT hc8).out.2 (by omega)
    have t0 : ¬ (97 : Int) ≤ (c.toNat : Int) := by omega
    have t1 : (65 : Int) ≤ (c.toNat : Int) := by omega
    have t2 : ¬ (c.toNat : Int) ≤ 90 := by omega
    have t3 : (48 : Int) ≤ (c.toNat : Int) := by omega
    have t4 : ¬ (c.toNat : Int) ≤ 57 := by omega
    have t5 : ((c.toNat : Int) == 45) = false := beq_eq_false_iff_ne.2 (by omega)
    have t6 : ((c.toNat : Int) == 46) = false := beq_eq_false_iff_ne.2 (by omega)
    have t7 : ((c.toNat : Int) == 95) = true := by rw [beq_iff_eq]; omega
    clear h HT
    go_enter Tryd.func15, Tryd.ntmps15
    go_wp2_with fail
    go_ret
    exact ⟨ret_bool HP.out.symm, rfl⟩
  · have HP : Hid (Qu.plainO c = false) := by unfold Hid; rw [← Bool.not_eq_true, (HT hc8).out]; omega
    have t0 : ¬ (97 : Int) ≤ (c.toNat : Int) := by omega
    have t1 : (65 : Int) ≤ (c.toNat : Int) := by omega
    have t2 : ¬ (c.toNat : Int) ≤ 90 := by omega
    have t3 : (48 : Int) ≤ (c.toNat : Int) := by omega
    have t4 : ¬ (c.toNat : Int) ≤ 57 := by omega
    have t5 : ((c.toNat : Int) == 45) = false := beq_eq_false_iff_ne.2 (by omega)
    have t6 : ((c.toNat : Int) == 46) = false := beq_eq_false_iff_ne.2 (by omega)
    have t7 : ((c.toNat : Int) == 95) = false := beq_eq_false_iff_ne.2 (by omega)
    have t8 : ((c.toNat : Int) == 126) = false := beq_eq_false_iff_ne.2 (by omega)
    clear h HT
    go_enter Tryd.func15, Tryd.ntmps15
    go_wp2_with fail
    go_ret
    exact ⟨ret_bool HP.out.symm, rfl⟩
  · have HP : Hid (Qu.plainO c = true) := (HT hc8).out.2 (by omega)
    have t0 : ¬ (97 : Int) ≤ (c.toNat : Int) := by omega
    have t1 : ¬ (65 : Int) ≤ (c.toNat : Int) := by omega
    have t2 : (48 : Int) ≤ (c.toNat : Int) := by omega
    have t3 : (c.toNat : Int) ≤ 57 := by omega
    clear h HT
    go_enter Tryd.func15, Tryd.ntmps15
    go_wp2_with fail
    go_ret
    exact ⟨ret_bool HP.out.symm, rfl⟩
  · have HP : Hid (Qu.plainO c = false) := by unfold Hid; rw [← Bool.not_eq_true, (HT hc8).out]; omega
    have t0 : ¬ (97 : Int) ≤ (c.toNat : Int) := by omega
    have t1 : ¬ (65 : Int) ≤ (c.toNat : Int) := by omega
    have t2 : (48 : Int) ≤ (c.toNat : Int) := by omega
    have t3 : ¬ (c.toNat : Int) ≤ 57 := by omega
    have t4 : ((c.toNat : Int) == 45) = false := beq_eq_false_iff_ne.2 (by omega)
    have t5 : ((c.toNat : Int) == 46) = false := beq_eq_false_iff_ne.2 (by omega)
    have t6 : ((c.toNat : Int) == 95) = false := beq_eq_false_iff_ne.2 (by omega)
    have t7 : ((c.toNat : Int) == 126) = false := beq_eq_false_iff_ne.2 (by omega)
    clear h HT
    go_enter Tryd.func15, Tryd.ntmps15
    go_wp2_with fail
    go_ret
    exact ⟨ret_bool HP.out.symm, rfl⟩
  · have HP : Hid (Qu.plainO c = true) := (HT hc8).out.2 (by omega)
    have t0 : ¬ (97 : Int) ≤ (c.toNat : Int) := by omega
    have t1 : ¬ (65 : Int) ≤ (c.toNat : Int) := by omega
    have t2 : ¬ (48 : Int) ≤ (c.toNat : Int) := by omega
    have t3 : ((c.toNat : Int) == 45) = true := by rw [beq_iff_eq]; omega
    clear h HT
    go_enter Tryd.func15, Tryd.ntmps15
    go_wp2_with fail
    go_ret
    exact ⟨ret_bool HP.out.symm, rfl⟩
  · have HP : Hid (Qu.plainO c = true) := (HT hc8).out.2 (by omega)
    have t0 : ¬ (97 : Int) ≤ (c.toNat : Int) := by omega
    have t1 : ¬ (65 : Int) ≤ (c.toNat : Int) := by omega
    have t2 : ¬ (48 : Int) ≤ (c.toNat : Int) := by omega
    have t3 : ((c.toNat : Int) == 45) = false := beq_eq_false_iff_ne.2 (by omega)
    have t4 : ((c.toNat : Int) == 46) = true := by rw [beq_iff_eq]; omega
    clear h HT
    go_enter Tryd.func15, Tryd.ntmps15
    go_wp2_with fail
    go_ret
    exact ⟨ret_bool HP.out.symm, rfl⟩
  · have HP : Hid (Qu.plainO c = false) := by unfold Hid; rw [← Bool.not_eq_true, (HT hc8).out]; omega
    have t0 : ¬ (97 : Int) ≤ (c.toNat : Int) := by omega
    have t1 : ¬ (65 : Int) ≤ (c.toNat : Int) := by omega
    have t2 : ¬ (48 : Int) ≤ (c.toNat : Int) := by omega
    have t3 : ((c.toNat : Int) == 45) = false := beq_eq_false_iff_ne.2 (by omega)
    have t4 : ((c.toNat : Int) == 46) = false := beq_eq_false_iff_ne.2 (by omega)
    have t5 : ((c.toNat : Int) == 95) = false := beq_eq_false_iff_ne.2 (by omega)
    have t6 : ((c.toNat : Int) == 126) = false := beq_eq_false_iff_ne.2 (by omega)
    clear h HT
    go_enter Tryd.func15, Tryd.ntmps15
    go_wp2_with fail
    go_ret
    exact ⟨ret_bool HP.out.symm, rfl⟩

set_option maxHeartbeats 800000 in
theorem rmay_any (v : Value) (l : List PairB) (w : World) (hv : Prs w v l) (hok : ∀ p ∈ l, okP p) :
    Calls Tryd.prog 13 #[v] w fun e w' => e = .returned (.bool (Qu.may (l.map pl))) ∧ w' = w := by
  have hlen := hv.len
  obtain ⟨a, cap, rfl, _, _, hc⟩ := hv
  have HC := hide hc
  have HOK := hide hok
  clear hc hok
  go_enter Tryd.func13, Tryd.ntmps13
  go_wp2_with fail
  go_loopw [3] (fun i wr => ∃ k : Nat, k ≤ l.length ∧ i = .int .i64 k ∧ Hid (∀ j (hj : j < l.length), j < k → Qu.mayP (pl l[j]) = true) ∧ wr = w) (fun i _ => l.length - (intOf i).toNat)
  case atStart => exact ⟨0, Nat.zero_le _, rfl, fun _ _ h => absurd h (by omega), rfl⟩
  case round =>
    obtain ⟨k, hk, rfl, hall, rfl⟩ := hrel
    by_cases hlt : k < l.length
    · have hlt' : (k : Int) < (l.length : Int) := by omega
      obtain ⟨g, off, rfl, hg, c1, c2⟩ := HC.out k hlt
      obtain ⟨o1, o2⟩ := HOK.out _ (List.getElem_mem hlt)
      have HM : Hid (Qu.mayP (pl l[k]) = (decide (1 ≤ l[k].1.size) && decide (l[k].1.size ≤ 40) && decide (l[k].2.size ≤ 40))) := by
        unfold Hid Qu.mayP pl
        simp only [Array.length_toList]
        rfl
      have HNO := hide (may_no hlt)
      generalize hp1 : l[k].1 = p1 at *
      generalize hp2 : l[k].2 = p2 at *
      unfold maxLen at o1 o2
      by_cases h1 : p1.size < 1
      · have a1 : (p1.size : Int) < 1 := by omega
        have HE := hide (HNO.out (by rw [HM.out, decide_eq_false (by omega : ¬ 1 ≤ p1.size)]; rfl))
        go_wp2_with fail
        go_ret
        exact ⟨ret_bool HE.out.symm, rfl⟩
      · have a1 : ¬ (p1.size : Int) < 1 := by omega
        by_cases h2 : p1.size ≤ 40
        · have a2 : ¬ (40 : Int) < (p1.size : Int) := by omega
          by_cases h3 : p2.size ≤ 40
          · have a3 : ¬ (40 : Int) < (p2.size : Int) := by omega
            have HY : Hid (Qu.mayP (pl l[k]) = true) := by
              unfold Hid
              rw [HM.out, decide_eq_true (by omega : 1 ≤ p1.size), decide_eq_true h2, decide_eq_true h3]; rfl
            go_wp2_with fail
            refine ⟨⟨k + 1, by omega, by go_num, ?_, by simp⟩, by simp [intOf]; omega⟩
            intro j hj hjk
            by_cases e : j = k
            · subst e; exact HY.out
            · exact hall.out j hj (by omega)
          · have a3 : (40 : Int) < (p2.size : Int) := by omega
            have HE := hide (HNO.out (by rw [HM.out, decide_eq_false h3, Bool.and_false]))
            go_wp2_with fail
            go_ret
            exact ⟨ret_bool HE.out.symm, rfl⟩
        · have a2 : (40 : Int) < (p1.size : Int) := by omega
          have HE := hide (HNO.out (by rw [HM.out, decide_eq_false h2, Bool.and_false, Bool.false_and]))
          go_wp2_with fail
          go_ret
          exact ⟨ret_bool HE.out.symm, rfl⟩
    · have hlt' : ¬ (k : Int) < (l.length : Int) := by omega
      have HE : Hid (Qu.may (l.map pl) = decide ((l.length : Int) ≤ 20)) := by
        unfold Hid
        rw [may_yes (fun j hj => hall.out j hj (by omega))]
        exact decide_eq_decide.2 (by omega)
      go_wp2_with fail
      go_ret
      exact ⟨ret_bool HE.out.symm, rfl⟩

set_option maxHeartbeats 400000 in
theorem rhex_any (n : Nat) (w : World) (h : n < 16) :
    Calls Tryd.prog 34 #[.int .u8 (n : Int)] w fun e w' => e = .returned (.int .u8 ((Qu.hexd n).toNat : Int)) ∧ w' = w := by
  have key : ∀ n, n < 16 → (Qu.hexd n).toNat = Qu.hexN n := by decide
  have HK := hide (key n h)
  clear key
  by_cases h10 : n < 10
  · have a1 : (n : Int) < 10 := by omega
    have HE : Hid ((48 : Int) + (n : Int) = ((Qu.hexd n).toNat : Int)) := by unfold Hid; rw [HK.out]; unfold Qu.hexN; rw [if_pos h10]; omega
    go_enter Tryd.func34, Tryd.ntmps34
    go_wp2_with fail
    go_ret
    exact ⟨ret_int HE.out, rfl⟩
  · have a1 : ¬ (n : Int) < 10 := by omega
    have HE : Hid ((55 : Int) + (n : Int) = ((Qu.hexd n).toNat : Int)) := by unfold Hid; rw [HK.out]; unfold Qu.hexN; rw [if_neg h10]; omega
    go_enter Tryd.func34, Tryd.ntmps34
    go_wp2_with fail
    go_ret
    exact ⟨ret_int HE.out, rfl⟩

theorem app_data (a b : ByteArray) : (a ++ b).data.toList = a.data.toList ++ b.data.toList := by simp [ByteArray.data_append]
theorem bytes_ext {a b : ByteArray} (h : a.data.toList = b.data.toList) : a = b := by rw [← Lib.mk_data a, h, Lib.mk_data]

set_option maxRecDepth 100000 in
set_option maxHeartbeats 1600000 in
theorem rwritten_any (s : ByteArray) (w : World) (hs : s.size ≤ 1000) :
    Calls Tryd.prog 27 #[.string s] w fun e w' => e = .returned (.string (mkB (Qu.wr s.data.toList))) ∧ Below w.heap.size w w' := by
  have HSL : Hid (s.data.toList.length = s.size) := Array.length_toList
  go_enter Tryd.func27, Tryd.ntmps27
  go_wp2_with fail
  go_loopw [3, 4] (fun o i wr => ∃ (k : Nat) (t : ByteArray), k ≤ s.size ∧ i = .int .i64 k ∧ o = .string t ∧ Hid (t.data.toList = Qu.wr (s.data.toList.take k)) ∧ t.size ≤ 3 * k ∧ Below w.heap.size w wr) (fun _ i _ => s.size - (intOf i).toNat)
  case atStart => exact ⟨0, ⟨#[]⟩, Nat.zero_le _, rfl, rfl, rfl, Nat.zero_le _, Below.refl _ _⟩
  case round =>
    obtain ⟨k, t, hk, rfl, rfl, ht, htl, hB⟩ := hrel
    by_cases hlt : k < s.size
    · have hlt' : (k : Int) < (s.size : Int) := by omega
      have hts := hide (take_snoc' s k hlt)
      have hex : (s.extract k (k + 1)).size = 1 := by rw [ByteArray.size_extract]; omega
      have HEX : Hid ((s.extract k (k + 1)).data.toList = [s[k]]) := by
        unfold Hid
        rw [Lib.extract_data, List.drop_eq_getElem_cons (by rw [HSL.out]; exact hlt), Nat.add_sub_cancel_left]
        rfl
      generalize hc : s[k] = c at *
      have hc8 := c.toNat_lt
      have hgo : ∀ (y : ByteArray), Hid (y.data.toList = Qu.wr1 c) → Hid ((t ++ y).data.toList = Qu.wr (s.data.toList.take (k + 1))) ∧ (t ++ y).size ≤ 3 * (k + 1) := by
        intro y hy
        have h3 := (Qu.wr1_len c).2
        have hyl : y.size = (Qu.wr1 c).length := by rw [← hy.out, Array.length_toList]; rfl
        refine ⟨?_, by rw [ByteArray.size_append]; omega⟩
        unfold Hid
        rw [app_data, ht.out, hy.out, hts.out, wr_snoc]
      have HGO := hide hgo
      clear hgo
      have PL := fun W => hide (rplain_any c W)
      cases hp : Qu.plainO c
      · rw [hp] at PL
        by_cases h32 : c = 32
        · obtain ⟨z1, z2⟩ := HGO.out ⟨#[43]⟩ (by unfold Hid Qu.wr1; rw [hp, h32]; rfl)
          have t1 : ((c.toNat : Int) == 32) = true := by rw [h32]; rfl
          clear h32 hp
          go_wp2_with fail
          refine (PL wr).out.mono ?_
          rintro e w1 ⟨rfl, rfl⟩
          go_wp2_with fail
          exact ⟨⟨k + 1, _, by omega, by go_num, rfl, z1, z2, hB⟩, by simp [intOf]; omega⟩
        · obtain ⟨z1, z2⟩ := HGO.out (mkB [37, Qu.hexd (c.toNat / 16), Qu.hexd (c.toNat % 16)]) (by unfold Hid; rw [mkB_list]; unfold Qu.wr1; rw [hp, if_neg h32]; rfl)
          have t1 : ((c.toNat : Int) == 32) = false := beq_eq_false_iff_ne.2 (fun e => h32 (UInt8.toNat_inj.1 (by show c.toNat = 32; omega)))
          clear h32 hp
          have qw : IntKind.u8.wrap ((c.toNat : Int) / 16) = (c.toNat : Int) / 16 := by rw [IntKind.wrap_u8']; omega
          have qm : Int.tmod (c.toNat : Int) 16 = (c.toNat : Int) % 16 := Int.tmod_eq_emod_of_nonneg (by omega)
          have H1 : ∀ W, Hid (Calls Tryd.prog 34 #[.int .u8 ((c.toNat : Int) / 16)] W fun e w' => e = .returned (.int .u8 ((Qu.hexd (c.toNat / 16)).toNat : Int)) ∧ w' = W) := fun W => by
            have := rhex_any (c.toNat / 16) W (by omega)
            rwa [show (((c.toNat / 16 : Nat)) : Int) = (c.toNat : Int) / 16 by omega] at this
          have H2 : ∀ W, Hid (Calls Tryd.prog 34 #[.int .u8 ((c.toNat : Int) % 16)] W fun e w' => e = .returned (.int .u8 ((Qu.hexd (c.toNat % 16)).toNat : Int)) ∧ w' = W) := fun W => by
            have := rhex_any (c.toNat % 16) W (by omega)
            rwa [show (((c.toNat % 16 : Nat)) : Int) = (c.toNat : Int) % 16 by omega] at this
          generalize Qu.hexd (c.toNat / 16) = d1 at *
          generalize Qu.hexd (c.toNat % 16) = d2 at *
          have ms : (mkB [37, d1, d2]).size = 3 := rfl
          have hq : ¬ 9223372036854775807 < t.size + 3 := by omega
          have f1 : (convert 40 9 (.slice (some ⟨wr.heap.size, 0, none⟩) 3 3)).run Tryd.prog (wr.alloc (.cells #[.int .u8 37, .int .u8 (d1.toNat : Int), .int .u8 (d2.toNat : Int)] 5)).drew = .ok (.string (mkB [37, d1, d2])) (wr.alloc (.cells #[.int .u8 37, .int .u8 (d1.toNat : Int), .int .u8 (d2.toNat : Int)] 5)).drew := bytes_at wr.drew wr.heap.size rfl [37, d1, d2] 3 3 rfl _ rfl
          go_wp2_with fail
          refine (PL wr).out.mono ?_
          rintro e w1 ⟨rfl, rfl⟩
          go_wp2_with fail
          refine wp_region_noPanic ?_
          refine wp_region_held_drew (S := fun W => Below w1.heap.size w1 W) (by kernel_rfl) ((Below.refl _ _).drew) (fun hHeld => ?_)
          refine wpAnyH_take (i := 0) (v := ?_) (op_at (rest := _) rfl) (by kernel_rfl) (by kernel_rfl) (by kernel_rfl) (fun _ _ _ h => h) (Or.inl ⟨by rfl, ?_⟩) (by assumption) ?_
          rotate_left 1
          · (intro W hSw; (try dsimp only at hSw); go_simp; (try with_reducible rfl))
          try simp only [Act.put, List.setIfInBounds_toArray, List.set_cons_zero, List.set_cons_succ]
          refine wpAnyH_take (i := 1) (v := ?_) (op_at (rest := _) rfl) (by kernel_rfl) (by kernel_rfl) (by kernel_rfl) (fun _ _ _ h => h) (Or.inl ⟨by rfl, ?_⟩) (by assumption) ?_
          rotate_left 1
          · (intro W hSw; (try dsimp only at hSw); go_simp; (try with_reducible rfl))
          try simp only [Act.put, List.setIfInBounds_toArray, List.set_cons_zero, List.set_cons_succ]
          refine wpAnyH_take (i := 2) (v := ?_) (op_at (rest := _) rfl) (by kernel_rfl) (by kernel_rfl) (by kernel_rfl) (fun _ _ _ h => h) (Or.inl ⟨by rfl, ?_⟩) (by assumption) ?_
          rotate_left 1
          · (intro W hSw; (try dsimp only at hSw); go_simp; (try with_reducible rfl))
          try simp only [Act.put, List.setIfInBounds_toArray, List.set_cons_zero, List.set_cons_succ]
          refine wpAnyH_take (i := 3) (v := ?_) (op_at (rest := _) rfl) (by kernel_rfl) (by kernel_rfl) (by kernel_rfl) (fun _ _ _ h => h) (Or.inl ⟨by rfl, ?_⟩) (by assumption) ?_
          rotate_left 1
          · (intro W hSw; (try dsimp only at hSw); go_simp; (try with_reducible rfl))
          try simp only [Act.put, List.setIfInBounds_toArray, List.set_cons_zero, List.set_cons_succ]
          refine wpAnyH_take (i := 4) (v := ?_) (op_at (rest := _) rfl) (by kernel_rfl) (by kernel_rfl) (by kernel_rfl) (fun _ _ _ h => h) (Or.inl ⟨by rfl, ?_⟩) (by assumption) ?_
          rotate_left 1
          · (intro W hSw; (try dsimp only at hSw); go_simp; (try with_reducible rfl))
          try simp only [Act.put, List.setIfInBounds_toArray, List.set_cons_zero, List.set_cons_succ]
          refine wpAnyH_take (i := 6) (v := ?_) (op_at (rest := _) rfl) (by kernel_rfl) (by kernel_rfl) (by kernel_rfl) (fun _ _ _ h => h) (Or.inl ⟨by rfl, ?_⟩) (by assumption) ?_
          rotate_left 1
          · (intro W hSw; (try dsimp only at hSw); go_simp; (try with_reducible rfl))
          try simp only [Act.put, List.setIfInBounds_toArray, List.set_cons_zero, List.set_cons_succ]
          refine wpAnyH_take (i := 7) (v := ?_) (op_at (rest := _) rfl) (by kernel_rfl) (by kernel_rfl) (by kernel_rfl) (fun _ _ _ h => h) (Or.inl ⟨by rfl, ?_⟩) (by assumption) ?_
          rotate_left 1
          · (intro W hSw; (try dsimp only at hSw); go_simp; (try with_reducible rfl))
          try simp only [Act.put, List.setIfInBounds_toArray, List.set_cons_zero, List.set_cons_succ]
          refine wpAnyH_take (i := 8) (v := ?_) (op_at (rest := _) rfl) (by kernel_rfl) (by kernel_rfl) (by kernel_rfl) (fun _ _ _ h => h) (Or.inl ⟨by rfl, ?_⟩) (by assumption) ?_
          rotate_left 1
          · (intro W hSw; (try dsimp only at hSw); go_simp; (try with_reducible rfl))
          try simp only [Act.put, List.setIfInBounds_toArray, List.set_cons_zero, List.set_cons_succ]
          refine wpAnyH_take (i := 9) (v := ?_) (op_at (rest := _) rfl) (by kernel_rfl) (by kernel_rfl) (by kernel_rfl) (fun _ _ _ h => h) (Or.inl ⟨by rfl, ?_⟩) (by assumption) ?_
          rotate_left 1
          · (intro W hSw; (try dsimp only at hSw); go_simp; (try with_reducible rfl))
          try simp only [Act.put, List.setIfInBounds_toArray, List.set_cons_zero, List.set_cons_succ]
          refine wpAnyH_ready (rs := [5]) (by kernel_rfl) (by simp) ?_
          refine AllReadyH.cons (op_at (rest := _) rfl) (fun K hK => ?_) AllReadyH.nil
          go_simp
          refine ((H1 _).out).mono ?_
          rintro e w3 ⟨rfl, rfl⟩
          go_wp2_with fail
          refine hK.out _ _ ?_ (fun hHeld => ?_)
          · exact hHeld
          clear hK K
          try simp only [Act.put, List.setIfInBounds_toArray, List.set_cons_zero, List.set_cons_succ]
          refine wpAnyH_ready (rs := [10]) (by kernel_rfl) (by simp) ?_
          refine AllReadyH.cons (op_at (rest := _) rfl) (fun K hK => ?_) AllReadyH.nil
          go_simp
          refine ((H2 _).out).mono ?_
          rintro e w3 ⟨rfl, rfl⟩
          go_wp2_with fail
          refine hK.out _ _ ?_ (fun hHeld => ?_)
          · exact hHeld
          clear hK K
          try simp only [Act.put, List.setIfInBounds_toArray, List.set_cons_zero, List.set_cons_succ]
          refine wpAnyH_ready (rs := [11]) (by kernel_rfl) (by simp) ?_
          refine AllReadyH.cons (op_at (rest := _) rfl) (fun K hK => ?_) AllReadyH.nil
          go_simp
          refine hK.out _ _ ?_ (fun hHeld => ?_)
          · exact hHeld.alloc hHeld.size _
          clear hK K
          try simp only [Act.put, List.setIfInBounds_toArray, List.set_cons_zero, List.set_cons_succ]
          refine wpAnyH_ready (rs := [12]) (by kernel_rfl) (by simp) ?_
          refine AllReadyH.cons (op_at (rest := _) rfl) (fun K hK => ?_) AllReadyH.nil
          go_simp
          refine hK.out _ _ ?_ (fun hHeld => ?_)
          · exact hHeld
          clear hK K
          try simp only [Act.put, List.setIfInBounds_toArray, List.set_cons_zero, List.set_cons_succ]
          refine wpAnyH_take (i := 13) (v := ?_) (op_at (rest := _) rfl) (by kernel_rfl) (by kernel_rfl) (by kernel_rfl) (fun _ _ _ h => h) (Or.inl ⟨by rfl, ?_⟩) (by assumption) ?_
          rotate_left 1
          · (intro W hSw; (try dsimp only at hSw); go_simp; (try with_reducible rfl))
          try simp only [Act.put, List.setIfInBounds_toArray, List.set_cons_zero, List.set_cons_succ]
          refine wpAnyH_take (i := 14) (v := ?_) (op_at (rest := _) rfl) (by kernel_rfl) (by kernel_rfl) (by kernel_rfl) (fun _ _ _ h => h) (Or.inl ⟨by rfl, ?_⟩) (by assumption) ?_
          rotate_left 1
          · (intro W hSw; (try dsimp only at hSw); go_simp; (try with_reducible rfl))
          try simp only [Act.put, List.setIfInBounds_toArray, List.set_cons_zero, List.set_cons_succ]
          refine wpAnyH_done (by kernel_rfl) ?_ _
          refine NoPanic.normal ?_
          replace hHeld := hB.trans (hHeld.mono hB.size)
          generalize (w1.alloc (.cells #[.int .u8 37, .int .u8 (d1.toNat : Int), .int .u8 (d2.toNat : Int)] 5)).drew = W at *
          go_wp2_with fail
          exact ⟨⟨k + 1, _, by omega, by go_num, rfl, z1, z2, hHeld⟩, by simp [intOf]; omega⟩
      · rw [hp] at PL
        obtain ⟨z1, z2⟩ := HGO.out (s.extract k (k + 1)) (by unfold Hid; rw [HEX.out]; unfold Qu.wr1; rw [hp]; rfl)
        clear hp
        go_wp2_with fail
        refine (PL wr).out.mono ?_
        rintro e w1 ⟨rfl, rfl⟩
        go_wp2_with fail
        exact ⟨⟨k + 1, _, by omega, by go_num, rfl, z1, z2, hB⟩, by simp [intOf]; omega⟩
    · have hlt' : ¬ (k : Int) < (s.size : Int) := by omega
      have HE : Hid (t = mkB (Qu.wr s.data.toList)) := by
        apply bytes_ext
        rw [mkB_list, ht.out, List.take_of_length_le (by rw [HSL.out]; omega)]
      go_wp2_with fail
      go_ret
      exact ⟨ret_str HE.out, hB⟩

end Go.Proofs.YtmjjjlanafiilaaDoor
