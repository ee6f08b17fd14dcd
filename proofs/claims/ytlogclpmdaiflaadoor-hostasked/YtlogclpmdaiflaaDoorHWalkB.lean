/-
  Walks: May, within, Holds, Meet.
-/
import Derived.Test.YtlogclpmdaiflaaDoorHWalkA
namespace Go.Proofs.YtlogclpmdaiflaaDoor
open Go Go.RowKit Go.Shelf

abbrev starDot : ByteArray := ⟨#[42, 46]⟩
theorem star_len : starDot.size ≤ maxLen := by unfold maxLen; decide
theorem tpB_data (s : ByteArray) : (trimP s ⟨#[42, 46]⟩).data.toList = tp s.data.toList := trimP_data s _
theorem isWB (s : ByteArray) : Lib.hasPrefix s.data.toList (⟨#[42, 46]⟩ : ByteArray).data.toList = isW s.data.toList := rfl
theorem empty_iff (s : ByteArray) : s.data.toList.isEmpty = s.toList.isEmpty := by rw [Lib.toList_data]

set_option maxHeartbeats 400000 in
theorem hmay_any (s : ByteArray) (w : World) (hs : s.size ≤ maxLen) :
    Calls Tryd.prog 12 #[.string s] w fun e w' => e = .returned (.bool (may s.data.toList)) ∧ Below w.heap.size w w' := by
  have HM : Hid (may s.data.toList = (s.data.toList.isEmpty || (decide (s.data.toList.length ≤ 60) && D.isName (trimP s ⟨#[42, 46]⟩).data.toList))) := by
    unfold Hid; rw [tpB_data]; rfl
  have hsl : s.data.toList.length = s.size := Array.length_toList
  cases h : s.toList.isEmpty
  · by_cases h60 : s.size ≤ 60
    · have lt := Nat.le_trans (trimP_le s ⟨#[42, 46]⟩) hs
      have HE : Hid (D.isName (trimP s ⟨#[42, 46]⟩).data.toList = may s.data.toList) := by
        unfold Hid; rw [HM.out, empty_iff, h, hsl, decide_eq_true h60]; rfl
      have h60' : (s.size : Int) ≤ 60 := by omega
      clear hsl
      go_enter Tryd.func12, Tryd.ntmps12
      go_wp2_with fail
      refine (trimPrefix_any _ _ _ hs star_len).mono ?_
      rintro e x ⟨rfl, rfl⟩
      go_wp2_with fail
      refine (name_any _ _ lt).mono ?_
      rintro e x ⟨rfl, hb⟩
      go_wp2_with fail
      go_ret
      exact ⟨ret_bool HE.out, hb⟩
    · have HE : Hid (may s.data.toList = false) := by
        unfold Hid; rw [HM.out, empty_iff, h, hsl, decide_eq_false h60]; rfl
      have h60' : ¬ (s.size : Int) ≤ 60 := by omega
      clear hsl
      go_enter Tryd.func12, Tryd.ntmps12
      go_wp2_with fail
      go_ret
      exact ⟨ret_bool HE.out.symm, Below.refl _ _⟩
  · have HE : Hid (may s.data.toList = true) := by
      unfold Hid; rw [HM.out, empty_iff, h]; rfl
    clear hsl
    go_enter Tryd.func12, Tryd.ntmps12
    go_wp2_with fail
    go_ret
    exact ⟨ret_bool HE.out.symm, Below.refl _ _⟩

theorem beq_data (a b : ByteArray) : (a.toList == b.toList) = (a.data.toList == b.data.toList) := by rw [Lib.toList_data, Lib.toList_data]

set_option maxHeartbeats 400000 in
theorem hwithin_any (a b : ByteArray) (w : World) (ha : a.size ≤ maxLen) (hb : b.size ≤ maxLen) :
    Calls Tryd.prog 30 #[.string a, .string b] w fun e w' => e = .returned (.bool (within a.data.toList b.data.toList)) ∧ Below w.heap.size w w' := by
  have HM : Hid (within a.data.toList b.data.toList = (b.data.toList.isEmpty || a.data.toList == b.data.toList || (isW b.data.toList && under (trimP a ⟨#[42, 46]⟩).data.toList (trimP b ⟨#[42, 46]⟩).data.toList))) := by
    unfold Hid; rw [tpB_data, tpB_data]; rfl
  cases h : b.toList.isEmpty
  · cases hq : (a.toList == b.toList)
    · cases hw : isW b.data.toList
      · have HE : Hid (within a.data.toList b.data.toList = false) := by
          unfold Hid; rw [HM.out, empty_iff, h, ← beq_data, hq, hw]; rfl
        have HW := hide hw
        clear hw
        go_enter Tryd.func30, Tryd.ntmps30
        go_wp2_with fail
        refine (cutPrefix_any _ _ _ hb star_len).mono ?_
        rintro e x ⟨rfl, rfl⟩
        rw [isWB, HW.out]
        go_wp2_with fail
        go_ret
        exact ⟨ret_bool HE.out.symm, Below.refl _ _⟩
      · have HE : Hid (under (trimP a ⟨#[42, 46]⟩).data.toList (trimP b ⟨#[42, 46]⟩).data.toList = within a.data.toList b.data.toList) := by
          unfold Hid; rw [HM.out, empty_iff, h, ← beq_data, hq, hw]; rfl
        have HW := hide hw
        clear hw
        have la := Nat.le_trans (trimP_le a ⟨#[42, 46]⟩) ha
        have lb := Nat.le_trans (trimP_le b ⟨#[42, 46]⟩) hb
        go_enter Tryd.func30, Tryd.ntmps30
        go_wp2_with fail
        refine (cutPrefix_any _ _ _ hb star_len).mono ?_
        rintro e x ⟨rfl, rfl⟩
        rw [isWB, HW.out]
        go_wp2_with fail
        refine (trimPrefix_any _ _ _ ha star_len).mono ?_
        rintro e x ⟨rfl, rfl⟩
        go_wp2_with fail
        refine (under_any _ _ _ la lb).mono ?_
        rintro e x ⟨rfl, hx⟩
        go_wp2_with fail
        go_ret
        exact ⟨ret_bool HE.out, hx⟩
    · have HE : Hid (within a.data.toList b.data.toList = true) := by
        unfold Hid; rw [HM.out, empty_iff, h, ← beq_data, hq]; rfl
      go_enter Tryd.func30, Tryd.ntmps30
      go_wp2_with fail
      go_ret
      exact ⟨ret_bool HE.out.symm, Below.refl _ _⟩
  · have HE : Hid (within a.data.toList b.data.toList = true) := by
      unfold Hid; rw [HM.out, empty_iff, h]; rfl
    go_enter Tryd.func30, Tryd.ntmps30
    go_wp2_with fail
    go_ret
    exact ⟨ret_bool HE.out.symm, Below.refl _ _⟩

set_option maxHeartbeats 400000 in
theorem hholds_any (p h : ByteArray) (w : World) (hp : p.size ≤ maxLen) (hh : h.size ≤ maxLen) :
    Calls Tryd.prog 14 #[.string p, .string h] w fun e w' => e = .returned (.bool (holds p.data.toList h.data.toList)) ∧ Below w.heap.size w w' := by
  have HM : Hid (holds p.data.toList h.data.toList = (may p.data.toList && D.isName h.data.toList && within h.data.toList p.data.toList)) := rfl
  cases h1 : may p.data.toList
  · have H1 := hide h1
    clear h1
    go_enter Tryd.func14, Tryd.ntmps14
    go_wp2_with fail
    refine (hmay_any _ _ hp).mono ?_
    rintro e w1 ⟨rfl, hb1⟩
    rw [H1.out]
    go_wp2_with fail
    go_ret
    exact ⟨ret_bool (by rw [HM.out, H1.out]; rfl), hb1⟩
  · have H1 := hide h1
    clear h1
    cases h2 : D.isName h.data.toList
    · have H2 := hide h2
      clear h2
      go_enter Tryd.func14, Tryd.ntmps14
      go_wp2_with fail
      refine (hmay_any _ _ hp).mono ?_
      rintro e w1 ⟨rfl, hb1⟩
      rw [H1.out]
      go_wp2_with fail
      refine (name_any _ _ hh).mono ?_
      rintro e w2 ⟨rfl, hb2⟩
      rw [H2.out]
      go_wp2_with fail
      go_ret
      exact ⟨ret_bool (by rw [HM.out, H1.out, H2.out]; rfl), hb1.trans (hb2.mono hb1.size)⟩
    · have H2 := hide h2
      clear h2
      go_enter Tryd.func14, Tryd.ntmps14
      go_wp2_with fail
      refine (hmay_any _ _ hp).mono ?_
      rintro e w1 ⟨rfl, hb1⟩
      rw [H1.out]
      go_wp2_with fail
      refine (name_any _ _ hh).mono ?_
      rintro e w2 ⟨rfl, hb2⟩
      rw [H2.out]
      go_wp2_with fail
      refine (hwithin_any _ _ _ hh hp).mono ?_
      rintro e w3 ⟨rfl, hb3⟩
      go_wp2_with fail
      go_ret
      have b2 := hb1.trans (hb2.mono hb1.size)
      exact ⟨ret_bool (by rw [HM.out, H1.out, H2.out]; rfl), b2.trans (hb3.mono b2.size)⟩

/-- what two meet in, as a text -/
def meetB (a b : ByteArray) : ByteArray := ⟨(meetV a.data.toList b.data.toList).toArray⟩
theorem meetB_data (a b : ByteArray) : (meetB a b).data.toList = meetV a.data.toList b.data.toList := by simp [meetB]
theorem meetB_no {a b : ByteArray} (h : meetI a.data.toList b.data.toList = false) : meetB a b = ⟨#[]⟩ := by unfold meetB; rw [meetV_no h]
theorem meetB_a {a b : ByteArray} (h : meetI a.data.toList b.data.toList = true) (hw : within a.data.toList b.data.toList = true) : meetB a b = a := by
  apply bytes_ext; rw [meetB_data]; unfold meetV; rw [if_pos h, if_pos hw]
theorem meetB_b {a b : ByteArray} (h : meetI a.data.toList b.data.toList = true) (hw : within a.data.toList b.data.toList = false) : meetB a b = b := by
  apply bytes_ext; rw [meetB_data]; unfold meetV; rw [if_pos h, hw]; simp
theorem meetB_le {a b : ByteArray} {n : Nat} (ha : a.size ≤ n) (hb : b.size ≤ n) : (meetB a b).size ≤ n := by
  rw [Lib.size_eq] at *
  rw [meetB_data]
  exact meetV_len ha hb

set_option maxHeartbeats 800000 in
theorem hmeet_any (a b : ByteArray) (w : World) (ha : a.size ≤ maxLen) (hb : b.size ≤ maxLen) :
    Calls Tryd.prog 17 #[.string a, .string b] w fun e w' => e = .returned (.tuple #[.string (meetB a b), .bool (meetI a.data.toList b.data.toList)]) ∧ Below w.heap.size w w' := by
  have HI : Hid (meetI a.data.toList b.data.toList = (may a.data.toList && may b.data.toList && (within a.data.toList b.data.toList || within b.data.toList a.data.toList))) := rfl
  cases h1 : may a.data.toList
  · have HE : Hid (meetI a.data.toList b.data.toList = false) := by unfold Hid; rw [HI.out, h1]; rfl
    have HV := hide (meetB_no HE.out)
    have H1 := hide h1
    clear h1
    go_enter Tryd.func17, Tryd.ntmps17
    go_wp2_with fail
    refine (hmay_any _ _ ha).mono ?_
    rintro e w1 ⟨rfl, hb1⟩
    rw [H1.out]
    go_wp2_with fail
    go_ret2
    exact ⟨by rw [HE.out, HV.out]; rfl, hb1⟩
  · have H1 := hide h1
    cases h2 : may b.data.toList
    · have HE : Hid (meetI a.data.toList b.data.toList = false) := by unfold Hid; rw [HI.out, h1, h2]; rfl
      have HV := hide (meetB_no HE.out)
      have H2 := hide h2
      clear h1 h2
      go_enter Tryd.func17, Tryd.ntmps17
      go_wp2_with fail
      refine (hmay_any _ _ ha).mono ?_
      rintro e w1 ⟨rfl, hb1⟩
      rw [H1.out]
      go_wp2_with fail
      refine (hmay_any _ _ hb).mono ?_
      rintro e w2 ⟨rfl, hb2⟩
      rw [H2.out]
      go_wp2_with fail
      go_ret2
      exact ⟨by rw [HE.out, HV.out]; rfl, hb1.trans (hb2.mono hb1.size)⟩
    · have H2 := hide h2
      cases h3 : within a.data.toList b.data.toList
      · have H3 := hide h3
        cases h4 : within b.data.toList a.data.toList
        · have HE : Hid (meetI a.data.toList b.data.toList = false) := by unfold Hid; rw [HI.out, h1, h2, h3, h4]; rfl
          have HV := hide (meetB_no HE.out)
          have H4 := hide h4
          clear h1 h2 h3 h4
          go_enter Tryd.func17, Tryd.ntmps17
          go_wp2_with fail
          refine (hmay_any _ _ ha).mono ?_
          rintro e w1 ⟨rfl, hb1⟩
          rw [H1.out]
          go_wp2_with fail
          refine (hmay_any _ _ hb).mono ?_
          rintro e w2 ⟨rfl, hb2⟩
          rw [H2.out]
          go_wp2_with fail
          refine (hwithin_any _ _ _ ha hb).mono ?_
          rintro e w3 ⟨rfl, hb3⟩
          rw [H3.out]
          go_wp2_with fail
          refine (hwithin_any _ _ _ hb ha).mono ?_
          rintro e w4 ⟨rfl, hb4⟩
          rw [H4.out]
          go_wp2_with fail
          go_ret2
          have b2 := hb1.trans (hb2.mono hb1.size)
          have b3 := b2.trans (hb3.mono b2.size)
          exact ⟨by rw [HE.out, HV.out]; rfl, b3.trans (hb4.mono b3.size)⟩
        · have HE : Hid (meetI a.data.toList b.data.toList = true) := by unfold Hid; rw [HI.out, h1, h2, h3, h4]; rfl
          have HV := hide (meetB_b HE.out h3)
          have H4 := hide h4
          clear h1 h2 h3 h4
          go_enter Tryd.func17, Tryd.ntmps17
          go_wp2_with fail
          refine (hmay_any _ _ ha).mono ?_
          rintro e w1 ⟨rfl, hb1⟩
          rw [H1.out]
          go_wp2_with fail
          refine (hmay_any _ _ hb).mono ?_
          rintro e w2 ⟨rfl, hb2⟩
          rw [H2.out]
          go_wp2_with fail
          refine (hwithin_any _ _ _ ha hb).mono ?_
          rintro e w3 ⟨rfl, hb3⟩
          rw [H3.out]
          go_wp2_with fail
          refine (hwithin_any _ _ _ hb ha).mono ?_
          rintro e w4 ⟨rfl, hb4⟩
          rw [H4.out]
          go_wp2_with fail
          go_ret2
          have b2 := hb1.trans (hb2.mono hb1.size)
          have b3 := b2.trans (hb3.mono b2.size)
          exact ⟨by rw [HE.out, HV.out]; rfl, b3.trans (hb4.mono b3.size)⟩
      · have HE : Hid (meetI a.data.toList b.data.toList = true) := by unfold Hid; rw [HI.out, h1, h2, h3]; rfl
        have HV := hide (meetB_a HE.out h3)
        have H3 := hide h3
        clear h1 h2 h3
        go_enter Tryd.func17, Tryd.ntmps17
        go_wp2_with fail
        refine (hmay_any _ _ ha).mono ?_
        rintro e w1 ⟨rfl, hb1⟩
        rw [H1.out]
        go_wp2_with fail
        refine (hmay_any _ _ hb).mono ?_
        rintro e w2 ⟨rfl, hb2⟩
        rw [H2.out]
        go_wp2_with fail
        refine (hwithin_any _ _ _ ha hb).mono ?_
        rintro e w3 ⟨rfl, hb3⟩
        rw [H3.out]
        go_wp2_with fail
        go_ret2
        have b2 := hb1.trans (hb2.mono hb1.size)
        exact ⟨by rw [HE.out, HV.out]; rfl, b2.trans (hb3.mono b2.size)⟩

end Go.Proofs.YtlogclpmdaiflaaDoor
