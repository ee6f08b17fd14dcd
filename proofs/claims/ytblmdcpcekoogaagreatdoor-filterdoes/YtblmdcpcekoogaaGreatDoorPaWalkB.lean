/-
  Walks: mayBegin, May, Holds (of package path).
-/
import Derived.Test.YtblmdcpcekoogaaGreatDoorPaWalkA
namespace Go.Proofs.YtblmdcpcekoogaaGreatDoor
set_option maxRecDepth 20000
open Go Go.RowKit Go.Shelf

theorem list_beq {a b : ByteArray} : (a.toList == b.toList) = (a.data.toList == b.data.toList) := by rw [Lib.toList_data, Lib.toList_data]
theorem list_root {a : ByteArray} : (a.toList == [47]) = (a.data.toList == [47]) := by rw [Lib.toList_data]
theorem list_none {a : ByteArray} : a.toList.isEmpty = a.data.toList.isEmpty := by rw [Lib.toList_data]
theorem isP_len {s : ByteArray} (h : isP s.data.toList = true) : s.size ≤ 60 := by
  have := (isP_iff.1 h).1
  rwa [Array.length_toList] at this
theorem may_isP {k : Int} {s : List UInt8} (h : mayP k s = true) : isP s = true := by
  unfold mayP at h
  split at h
  · exact h
  · split at h
    · exact abv_isP h
    · cases h

set_option maxHeartbeats 800000 in
theorem mayBegin_any (s : ByteArray) (w : World) (hs : s.size ≤ maxLen) :
    Calls Tryz.prog 141 #[.string s] w fun e w' => e = .returned (.bool (abv s.data.toList)) ∧ Below w.heap.size w w' := by
  cases hp : isP s.data.toList
  · have HA : Hid (abv s.data.toList = false) := by unfold Hid abv; rw [hp]; rfl
    have HP := hide hp
    clear hp
    go_enter Tryz.func141, Tryz.ntmps141
    go_wp2_with fail
    refine (isPath_any _ _ hs).mono ?_
    rintro e w1 ⟨rfl, hb1⟩
    rw [HP.out]
    go_wp2_with fail
    go_ret
    exact ⟨ret_bool HA.out.symm, hb1⟩
  · have HP := hide hp
    cases hr : (s.toList == [47])
    · have HA : Hid (abv s.data.toList = !Lib.hasSuffix s.data.toList (⟨#[47]⟩ : ByteArray).data.toList) := by
        unfold Hid abv
        rw [hp, ← list_root, hr]; rfl
      clear hp
      go_enter Tryz.func141, Tryz.ntmps141
      go_wp2_with fail
      refine (isPath_any _ _ hs).mono ?_
      rintro e w1 ⟨rfl, hb1⟩
      rw [HP.out]
      go_wp2_with fail
      refine (hasSuffix_any _ _ _ hs root_len).mono ?_
      rintro e x ⟨rfl, hx⟩
      subst x
      go_wp2_with fail
      go_ret
      exact ⟨ret_bool HA.out.symm, hb1⟩
    · have HA : Hid (abv s.data.toList = true) := by
        unfold Hid abv
        rw [hp, ← list_root, hr]; rfl
      clear hp
      go_enter Tryz.func141, Tryz.ntmps141
      go_wp2_with fail
      refine (isPath_any _ _ hs).mono ?_
      rintro e w1 ⟨rfl, hb1⟩
      rw [HP.out]
      go_wp2_with fail
      go_ret
      exact ⟨ret_bool HA.out.symm, hb1⟩

set_option maxHeartbeats 800000 in
theorem may_any (k : Int) (s : ByteArray) (w : World) (hs : s.size ≤ maxLen) :
    Calls Tryz.prog 130 #[.agg #[.int .i64 k, .string s]] w fun e w' => e = .returned (.bool (mayP k s.data.toList)) ∧ Below w.heap.size w w' := by
  cases h1 : (k == 1)
  · cases h2 : (k == 2)
    · have HM : Hid (mayP k s.data.toList = false) := by
        unfold Hid mayP
        rw [if_neg (beq_eq_false_iff_ne.1 h1), if_neg (beq_eq_false_iff_ne.1 h2)]
      go_enter Tryz.func130, Tryz.ntmps130
      go_wp2_with fail
      go_ret
      exact ⟨ret_bool HM.out.symm, (Below.refl _ _).alloc (Nat.le_refl _) _⟩
    · have HM : Hid (mayP k s.data.toList = abv s.data.toList) := by
        unfold Hid mayP
        rw [if_neg (beq_eq_false_iff_ne.1 h1), if_pos (eq_of_beq h2)]
      go_enter Tryz.func130, Tryz.ntmps130
      go_wp2_with fail
      refine (mayBegin_any _ _ hs).mono ?_
      rintro e w1 ⟨rfl, hb1⟩
      go_wp2_with fail
      go_ret
      exact ⟨ret_bool HM.out.symm, below_box hb1⟩
  · have HM : Hid (mayP k s.data.toList = isP s.data.toList) := by
      unfold Hid mayP
      rw [if_pos (eq_of_beq h1)]
    go_enter Tryz.func130, Tryz.ntmps130
    go_wp2_with fail
    refine (isPath_any _ _ hs).mono ?_
    rintro e w1 ⟨rfl, hb1⟩
    go_wp2_with fail
    go_ret
    exact ⟨ret_bool HM.out.symm, below_box hb1⟩

set_option maxHeartbeats 1600000 in
theorem pholds_any (k : Int) (v s : ByteArray) (w : World) (hv : v.size ≤ maxLen) (hs : s.size ≤ maxLen) :
    Calls Tryz.prog 84 #[.agg #[.int .i64 k, .string v], .string s] w fun e w' => e = .returned (.bool (holdP k v.data.toList s.data.toList)) ∧ Below w.heap.size w w' := by
  cases hm : mayP k v.data.toList
  · have HH : Hid (holdP k v.data.toList s.data.toList = false) := by unfold Hid holdP; rw [hm]; rfl
    have HM := hide hm
    clear hm
    go_enter Tryz.func84, Tryz.ntmps84
    go_wp2_with fail
    refine (may_any _ _ _ hv).mono ?_
    rintro e w1 ⟨rfl, hb1⟩
    rw [HM.out]
    go_wp2_with fail
    go_ret
    exact ⟨ret_bool HH.out.symm, below_box hb1⟩
  · have HM := hide hm
    have hvl := isP_len (may_isP hm)
    cases hp : isP s.data.toList
    · have HH : Hid (holdP k v.data.toList s.data.toList = false) := by unfold Hid holdP; rw [hm, hp]; rfl
      have HP := hide hp
      clear hm hp
      go_enter Tryz.func84, Tryz.ntmps84
      go_wp2_with fail
      refine (may_any _ _ _ hv).mono ?_
      rintro e w1 ⟨rfl, hb1⟩
      rw [HM.out]
      go_wp2_with fail
      refine (isPath_any _ _ hs).mono ?_
      rintro e w2 ⟨rfl, hb2⟩
      rw [HP.out]
      go_wp2_with fail
      go_ret
      exact ⟨ret_bool HH.out.symm, below_box (hb1.trans (hb2.mono hb1.size))⟩
    · have HP := hide hp
      cases h1 : (k == 1)
      · cases he : (s.toList == v.toList)
        · cases hr : (v.toList == [47])
          · have HH : Hid (holdP k v.data.toList s.data.toList = Lib.hasPrefix s.data.toList (v ++ ⟨#[47]⟩ : ByteArray).data.toList) := by
              unfold Hid holdP und
              rw [hm, hp, if_neg (beq_eq_false_iff_ne.1 h1), ← list_beq, he, ← list_root, hr, app_data]; rfl
            have hvl' : (v ++ ⟨#[47]⟩ : ByteArray).size ≤ maxLen := small_len (by rw [ByteArray.size_append]; exact Nat.le_trans (Nat.add_le_add_right hvl _) (by decide))
            clear hm hp
            go_enter Tryz.func84, Tryz.ntmps84
            go_wp2_with fail
            refine (may_any _ _ _ hv).mono ?_
            rintro e w1 ⟨rfl, hb1⟩
            rw [HM.out]
            go_wp2_with fail
            refine (isPath_any _ _ hs).mono ?_
            rintro e w2 ⟨rfl, hb2⟩
            rw [HP.out]
            have bb := hb1.trans (hb2.mono hb1.size)
            have c0 := box_fst bb
            have c1 := box_snd bb
            go_wp2_with fail
            refine (hasPrefix_any _ _ _ hs hvl').mono ?_
            rintro e x ⟨rfl, hx⟩
            subst x
            go_wp2_with fail
            go_ret
            exact ⟨ret_bool HH.out.symm, below_box bb⟩
          · have HH : Hid (holdP k v.data.toList s.data.toList = true) := by
              unfold Hid holdP und
              rw [hm, hp, if_neg (beq_eq_false_iff_ne.1 h1), ← list_beq, he, ← list_root, hr]; rfl
            clear hm hp
            go_enter Tryz.func84, Tryz.ntmps84
            go_wp2_with fail
            refine (may_any _ _ _ hv).mono ?_
            rintro e w1 ⟨rfl, hb1⟩
            rw [HM.out]
            go_wp2_with fail
            refine (isPath_any _ _ hs).mono ?_
            rintro e w2 ⟨rfl, hb2⟩
            rw [HP.out]
            have bb := hb1.trans (hb2.mono hb1.size)
            have c0 := box_fst bb
            have c1 := box_snd bb
            go_wp2_with fail
            go_ret
            exact ⟨ret_bool HH.out.symm, below_box bb⟩
        · have HH : Hid (holdP k v.data.toList s.data.toList = true) := by
            unfold Hid holdP und
            rw [hm, hp, if_neg (beq_eq_false_iff_ne.1 h1), ← list_beq, he]; rfl
          clear hm hp
          go_enter Tryz.func84, Tryz.ntmps84
          go_wp2_with fail
          refine (may_any _ _ _ hv).mono ?_
          rintro e w1 ⟨rfl, hb1⟩
          rw [HM.out]
          go_wp2_with fail
          refine (isPath_any _ _ hs).mono ?_
          rintro e w2 ⟨rfl, hb2⟩
          rw [HP.out]
          have bb := hb1.trans (hb2.mono hb1.size)
          have c0 := box_fst bb
          have c1 := box_snd bb
          go_wp2_with fail
          go_ret
          exact ⟨ret_bool HH.out.symm, below_box bb⟩
      · have HH : Hid (holdP k v.data.toList s.data.toList = (s.toList == v.toList)) := by
          unfold Hid holdP
          rw [hm, hp, if_pos (eq_of_beq h1), list_beq]; rfl
        clear hm hp
        go_enter Tryz.func84, Tryz.ntmps84
        go_wp2_with fail
        refine (may_any _ _ _ hv).mono ?_
        rintro e w1 ⟨rfl, hb1⟩
        rw [HM.out]
        go_wp2_with fail
        refine (isPath_any _ _ hs).mono ?_
        rintro e w2 ⟨rfl, hb2⟩
        rw [HP.out]
        have bb := hb1.trans (hb2.mono hb1.size)
        have c0 := box_fst bb
        have c1 := box_snd bb
        go_wp2_with fail
        go_ret
        exact ⟨ret_bool HH.out.symm, below_box bb⟩

end Go.Proofs.YtblmdcpcekoogaaGreatDoor
