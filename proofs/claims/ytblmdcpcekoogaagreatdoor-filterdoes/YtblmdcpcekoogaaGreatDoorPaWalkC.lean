/-
  Walks: tail, join, Swap (of package path).
-/
import Derived.Test.YtblmdcpcekoogaaGreatDoorPaWalkB
namespace Go.Proofs.YtblmdcpcekoogaaGreatDoor
set_option maxRecDepth 20000
open Go Go.RowKit Go.Shelf

theorem mkB_eq {a : ByteArray} {l : List UInt8} (h : a.data.toList = l) : a = mkB l := by
  subst h
  simp [mkB]

set_option maxHeartbeats 800000 in
theorem tail_any (v s : ByteArray) (w : World) (_hs : s.size ≤ maxLen) (hle : v.data.toList ≠ [47] → v.size ≤ s.size) :
    Calls Tryz.prog 143 #[.string v, .string s] w fun e w' => e = .returned (.string (mkB (tailP v.data.toList s.data.toList))) ∧ w' = w := by
  cases hr : (v.toList == [47])
  · have hv : v.data.toList ≠ [47] := by rw [list_root] at hr; exact beq_eq_false_iff_ne.1 hr
    have hl := hle hv
    have HT : Hid (s.extract v.size s.size = mkB (tailP v.data.toList s.data.toList)) := by
      refine mkB_eq ?_
      rw [drop_data]
      unfold tailP
      rw [if_neg hv, size_len]
    clear hle hv
    go_enter Tryz.func143, Tryz.ntmps143
    go_wp2_with fail
    go_ret
    exact ⟨ret_str HT.out, rfl⟩
  · have hv : v.data.toList = [47] := by rw [list_root] at hr; exact eq_of_beq hr
    cases hq : (s.toList == [47])
    · have HT : Hid (s = mkB (tailP v.data.toList s.data.toList)) := by
        refine mkB_eq ?_
        unfold tailP
        rw [list_root] at hq
        rw [if_pos hv, if_neg (beq_eq_false_iff_ne.1 hq)]
      clear hv hle
      go_enter Tryz.func143, Tryz.ntmps143
      go_wp2_with fail
      go_ret
      exact ⟨ret_str HT.out, rfl⟩
    · have HT : Hid (⟨#[]⟩ = mkB (tailP v.data.toList s.data.toList)) := by
        refine mkB_eq ?_
        unfold tailP
        rw [list_root] at hq
        rw [if_pos hv, if_pos (eq_of_beq hq)]
      clear hv hle
      go_enter Tryz.func143, Tryz.ntmps143
      go_wp2_with fail
      go_ret
      exact ⟨ret_str HT.out, rfl⟩

set_option maxHeartbeats 800000 in
theorem join_any (b t : ByteArray) (w : World) (hb : b.size ≤ 1000) (ht : t.size ≤ 1000) :
    Calls Tryz.prog 142 #[.string b, .string t] w fun e w' => e = .returned (.string (mkB (joinP b.data.toList t.data.toList))) ∧ w' = w := by
  cases hr : (b.toList == [47])
  · have hv : b.data.toList ≠ [47] := by rw [list_root] at hr; exact beq_eq_false_iff_ne.1 hr
    have HT : Hid (b ++ t = mkB (joinP b.data.toList t.data.toList)) := by
      refine mkB_eq ?_
      rw [app_data]
      unfold joinP
      rw [if_neg hv]
    clear hv
    go_enter Tryz.func142, Tryz.ntmps142
    go_wp2_with fail
    go_ret
    exact ⟨ret_str HT.out, rfl⟩
  · have hv : b.data.toList = [47] := by rw [list_root] at hr; exact eq_of_beq hr
    cases hq : t.toList.isEmpty
    · have HT : Hid (t = mkB (joinP b.data.toList t.data.toList)) := by
        refine mkB_eq ?_
        unfold joinP
        rw [list_none] at hq
        rw [if_pos hv, if_neg (fun e => by rw [e] at hq; cases hq)]
      clear hv
      go_enter Tryz.func142, Tryz.ntmps142
      go_wp2_with fail
      go_ret
      exact ⟨ret_str HT.out, rfl⟩
    · have HT : Hid (⟨#[47]⟩ = mkB (joinP b.data.toList t.data.toList)) := by
        refine mkB_eq ?_
        unfold joinP
        rw [list_none] at hq
        rw [if_pos hv, if_pos (List.isEmpty_iff.1 hq)]
      clear hv
      go_enter Tryz.func142, Tryz.ntmps142
      go_wp2_with fail
      go_ret
      exact ⟨ret_str HT.out, rfl⟩

theorem tail_le (v s : List UInt8) : (tailP v s).length ≤ s.length := by
  unfold tailP
  split
  · split <;> simp
  · simp

theorem ret_two {a b : ByteArray} {x y : Int} (h : a = b) (k : x = y) : Ending.returned (.tuple #[.string a, .int .i64 x]) = .returned (.tuple #[.string b, .int .i64 y]) := by rw [h, k]

theorem swap_arg {k : Int} {v b s : List UInt8} (h : okSw k v b s = false) : Hid (⟨#[]⟩ = mkB (swapT k v b s)) ∧ Hid (1 = swapE k v b s) := by
  unfold swapT swapE Hid
  rw [h]
  exact ⟨rfl, rfl⟩
theorem swap_large {k : Int} {v b s : List UInt8} (h : okSw k v b s = true) (hl : 60 < (joinP b (tailP v s)).length) : Hid (⟨#[]⟩ = mkB (swapT k v b s)) ∧ Hid (5 = swapE k v b s) := by
  unfold swapT swapE Hid
  rw [h, if_pos hl, if_pos hl]
  exact ⟨rfl, rfl⟩
theorem swap_fine {k : Int} {v b s : List UInt8} (h : okSw k v b s = true) (hl : ¬ 60 < (joinP b (tailP v s)).length) : Hid (mkB (joinP b (tailP v s)) = mkB (swapT k v b s)) ∧ Hid (0 = swapE k v b s) := by
  unfold swapT swapE Hid
  rw [h, if_neg hl, if_neg hl]
  exact ⟨rfl, rfl⟩

set_option maxHeartbeats 1600000 in
theorem pswap_any (k : Int) (v b s : ByteArray) (w : World) (hv : v.size ≤ maxLen) (hb : b.size ≤ maxLen) (hs : s.size ≤ maxLen) :
    Calls Tryz.prog 95 #[.agg #[.int .i64 k, .string v], .string b, .string s] w fun e w' => e = .returned (.tuple #[.string (mkB (swapT k v.data.toList b.data.toList s.data.toList)), .int .i64 (swapE k v.data.toList b.data.toList s.data.toList)]) ∧ Below w.heap.size w w' := by
  cases h2 : (k == 2)
  · have ⟨HT, HE⟩ := swap_arg (k := k) (v := v.data.toList) (b := b.data.toList) (s := s.data.toList) (by unfold okSw; rw [decide_eq_false (beq_eq_false_iff_ne.1 h2)]; rfl)
    have h2' : (k != 2) = true := by simp [bne, h2]
    go_enter Tryz.func95, Tryz.ntmps95
    go_wp2_with fail
    go_ret2
    exact ⟨ret_two HT.out HE.out, (Below.refl _ _).alloc (Nat.le_refl _) _⟩
  · have hk : k = 2 := eq_of_beq h2
    subst hk
    clear h2
    cases hh : holdP 2 v.data.toList s.data.toList
    · have ⟨HT, HE⟩ := swap_arg (k := 2) (v := v.data.toList) (b := b.data.toList) (s := s.data.toList) (by unfold okSw; rw [hh]; rfl)
      have HH := hide hh
      clear hh
      go_enter Tryz.func95, Tryz.ntmps95
      go_wp2_with fail
      refine (pholds_any _ _ _ _ hv hs).mono ?_
      rintro e w1 ⟨rfl, hb1⟩
      rw [HH.out]
      go_wp2_with fail
      go_ret2
      exact ⟨ret_two HT.out HE.out, below_box hb1⟩
    · cases ha : abv b.data.toList
      · have ⟨HT, HE⟩ := swap_arg (k := 2) (v := v.data.toList) (b := b.data.toList) (s := s.data.toList) (by unfold okSw; rw [hh, ha]; rfl)
        have HH := hide hh
        have HA := hide ha
        clear hh ha
        go_enter Tryz.func95, Tryz.ntmps95
        go_wp2_with fail
        refine (pholds_any _ _ _ _ hv hs).mono ?_
        rintro e w1 ⟨rfl, hb1⟩
        rw [HH.out]
        go_wp2_with fail
        refine (mayBegin_any _ _ hb).mono ?_
        rintro e w2 ⟨rfl, hb2⟩
        rw [HA.out]
        go_wp2_with fail
        go_ret2
        exact ⟨ret_two HT.out HE.out, below_box (hb1.trans (hb2.mono hb1.size))⟩
      · have hok : okSw 2 v.data.toList b.data.toList s.data.toList = true := okSw_iff.2 ⟨hh, ha⟩
        have h2i := hold2_iff.1 hh
        have hsl := isP_len h2i.2.1
        have hbl := isP_len (abv_isP ha)
        have hpre : v.data.toList ≠ [47] → v.size ≤ s.size := fun _ => by
          have := (und_pre h2i.2.1 h2i.2.2).length_le
          rwa [size_len, size_len] at this
        have htl : (mkB (tailP v.data.toList s.data.toList)).size ≤ 1000 := by
          rw [mkB_size]
          have := tail_le v.data.toList s.data.toList
          rw [size_len] at this
          omega
        have HPre := hide hpre
        have HH := hide hh
        have HA := hide ha
        by_cases hl : 60 < (joinP b.data.toList (tailP v.data.toList s.data.toList)).length
        · have ⟨HT, HE⟩ := swap_large hok hl
          have HL : decide ((60 : Int) < ((mkB (joinP b.data.toList (tailP v.data.toList s.data.toList))).size : Int)) = true := by rw [mkB_size]; exact decide_eq_true (by omega)
          clear hh ha hok h2i hpre hl
          go_enter Tryz.func95, Tryz.ntmps95
          go_wp2_with fail
          refine (pholds_any _ _ _ _ hv hs).mono ?_
          rintro e w1 ⟨rfl, hb1⟩
          rw [HH.out]
          go_wp2_with fail
          refine (mayBegin_any _ _ hb).mono ?_
          rintro e w2 ⟨rfl, hb2⟩
          rw [HA.out]
          have bb := hb1.trans (hb2.mono hb1.size)
          have c0 := box_fst bb
          have c1 := box_snd bb
          go_wp2_with fail
          refine (tail_any _ _ _ hs HPre.out).mono ?_
          rintro e x ⟨rfl, hx⟩
          subst x
          go_wp2_with fail
          refine (join_any _ _ _ (by omega) htl).mono ?_
          rintro e x ⟨rfl, hx⟩
          subst x
          rw [mkB_data]
          go_wp2_with fail
          go_ret2
          exact ⟨ret_two HT.out HE.out, below_box bb⟩
        · have ⟨HT, HE⟩ := swap_fine hok hl
          have HL : decide ((60 : Int) < ((mkB (joinP b.data.toList (tailP v.data.toList s.data.toList))).size : Int)) = false := by rw [mkB_size]; exact decide_eq_false (by omega)
          clear hh ha hok h2i hpre hl
          go_enter Tryz.func95, Tryz.ntmps95
          go_wp2_with fail
          refine (pholds_any _ _ _ _ hv hs).mono ?_
          rintro e w1 ⟨rfl, hb1⟩
          rw [HH.out]
          go_wp2_with fail
          refine (mayBegin_any _ _ hb).mono ?_
          rintro e w2 ⟨rfl, hb2⟩
          rw [HA.out]
          have bb := hb1.trans (hb2.mono hb1.size)
          have c0 := box_fst bb
          have c1 := box_snd bb
          go_wp2_with fail
          refine (tail_any _ _ _ hs HPre.out).mono ?_
          rintro e x ⟨rfl, hx⟩
          subst x
          go_wp2_with fail
          refine (join_any _ _ _ (by omega) htl).mono ?_
          rintro e x ⟨rfl, hx⟩
          subst x
          rw [mkB_data]
          go_wp2_with fail
          go_ret2
          exact ⟨ret_two HT.out HE.out, below_box bb⟩

end Go.Proofs.YtblmdcpcekoogaaGreatDoor
