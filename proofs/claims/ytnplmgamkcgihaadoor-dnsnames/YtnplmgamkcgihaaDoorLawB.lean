/-
  The law DnsGoes: the plain facts of under, and its walk.
-/
import Derived.Test.YtnplmgamkcgihaaDoorLawA
namespace Go.Proofs.YtnplmgamkcgihaaDoor
open Go Go.RowKit Go.Shelf

theorem under_iff {a b : List UInt8} : under a b = true ↔ D.isName a = true ∧ D.isName b = true ∧ (46 :: b) <:+ a := by
  unfold under Lib.hasSuffix
  rw [Bool.and_eq_true, Bool.and_eq_true, List.isSuffixOf_iff_suffix, and_assoc]
theorem under_len {a b : List UInt8} (h : under a b = true) : b.length + 1 ≤ a.length := by
  have := (under_iff.1 h).2.2.length_le
  simpa using this
theorem under_self (a : List UInt8) : under a a = false := by
  cases h : under a a
  · rfl
  · have := under_len h; omega
theorem under_not_back {a b : List UInt8} (h : under a b = true) : under b a = false := by
  cases h' : under b a
  · rfl
  · have := under_len h; have := under_len h'; omega
theorem under_trans {a b c : List UInt8} (h : under a b = true) (k : under b c = true) : under a c = true := by
  obtain ⟨h1, h2, h3⟩ := under_iff.1 h
  obtain ⟨_, k2, k3⟩ := under_iff.1 k
  exact under_iff.2 ⟨h1, k2, (k3.trans (List.suffix_cons 46 b)).trans h3⟩

theorem label_no_dot {l : List UInt8} (h : D.isLabel l = true) : ∀ x ∈ l, x ≠ 46 := fun x hx => (inLab_ne (label_octets h x hx)).2

theorem isName_iff {l : List UInt8} : D.isName l = true ↔ l.length ≤ 60 ∧ ∀ p ∈ D.spl 46 l, D.isLabel p = true := by
  unfold D.isName
  rw [Bool.and_eq_true, decide_eq_true_eq, List.all_eq_true]

theorem name_dot {a b : List UInt8} (ha : D.isName a = true) (hb : D.isLabel b = true) (hl : a.length + b.length < 60) : D.isName (b ++ 46 :: a) = true := by
  rw [isName_iff, D.spl_at (label_no_dot hb)]
  refine ⟨by simp; omega, fun p hp => ?_⟩
  rcases List.mem_cons.1 hp with rfl | hp
  · exact hb
  · exact (isName_iff.1 ha).2 p hp

theorem under_dot {a b : List UInt8} (ha : D.isName a = true) (hb : D.isLabel b = true) (hl : a.length + b.length < 60) : under (b ++ 46 :: a) a = true :=
  under_iff.2 ⟨name_dot ha hb hl, ha, List.suffix_append b _⟩

theorem label_pos {l : List UInt8} (h : D.isLabel l = true) : l ≠ [] := by
  rintro rfl
  revert h
  decide

theorem under_glued {a b : List UInt8} (hb : D.isLabel b = true) : under (b ++ a) a = false := by
  cases h : under (b ++ a) a
  · rfl
  · obtain ⟨_, _, t, ht⟩ := under_iff.1 h
    have hlen := congrArg List.length ht
    simp at hlen
    have h2 : t ++ [46] ++ a = b ++ a := by rw [← ht]; simp
    have h3 := List.append_cancel_right h2
    exact absurd rfl (label_no_dot hb 46 (by rw [← h3]; simp))

theorem dot_cat (a b : ByteArray) : (b ++ ⟨#[46]⟩ ++ a).data.toList = b.data.toList ++ 46 :: a.data.toList := by
  simp [ByteArray.data_append]
theorem cat_data (a b : ByteArray) : (b ++ a).data.toList = b.data.toList ++ a.data.toList := by
  simp [ByteArray.data_append]
theorem dot_size (a b : ByteArray) : (b ++ ⟨#[46]⟩ ++ a).size = b.size + 1 + a.size := by
  simp only [ByteArray.size_append]; rfl

set_option maxHeartbeats 1600000 in
theorem goes_any (s1 s2 s3 : ByteArray) (w : World) (hs1 : s1.size ≤ maxLen) (hs2 : s2.size ≤ maxLen) (hs3 : s3.size ≤ maxLen) :
    Calls Tryd.prog 7 #[.string s1, .string s2, .string s3] w fun e w' => e = .returned (.bool true) ∧ Below w.heap.size w w' := by
  go_enter Tryd.func7, Tryd.ntmps7
  go_wp2_with fail
  refine (few_any _ _ hs1).mono ?_
  rintro e w0 ⟨a, rfl, ha, rfl⟩
  go_wp2_with fail
  refine (few_any _ _ hs2).mono ?_
  rintro e w1 ⟨b, rfl, hb, rfl⟩
  go_wp2_with fail
  refine (few_any _ _ hs3).mono ?_
  rintro e w ⟨c, rfl, hc, rfl⟩
  go_wp2_with fail
  have la : a.size ≤ maxLen := small_len (by omega)
  have lb : b.size ≤ maxLen := small_len (by omega)
  have lc : c.size ≤ maxLen := small_len (by omega)
  refine (under_any _ _ _ la la).mono ?_
  rintro e u1 ⟨rfl, hb1⟩
  rw [under_self]
  go_wp2_with fail
  refine (under_any _ _ _ la lb).mono ?_
  rintro e u2 ⟨rfl, hb2⟩
  have B2 := hb1.trans (hb2.mono hb1.size)
  clear hb1 hb2
  cases hab : under a.data.toList b.data.toList
  · have B := B2
    clear B2 hab
    cases hna : D.isName a.data.toList
    · have HNA := hide hna
      clear hna
      go_wp2_with fail
      refine (name_any _ _ la).mono ?_
      rintro e x1 ⟨rfl, hx1⟩
      rw [HNA.out]
      go_wp2_with fail
      refine (awake_any _).mono ?_
      rintro e x2 ⟨rfl, hx2⟩
      go_wp2_with fail
      go_ret
      have Bx := B.trans (hx1.mono B.size)
      exact ⟨rfl, Bx.trans (hx2.mono Bx.size)⟩
    · cases hlb : D.isLabel b.data.toList
      · have HNA := hide hna
        have HLB := hide hlb
        clear hna hlb
        go_wp2_with fail
        refine (name_any _ _ la).mono ?_
        rintro e x1 ⟨rfl, hx1⟩
        rw [HNA.out]
        go_wp2_with fail
        refine (label_any _ _ lb).mono ?_
        rintro e x3 ⟨rfl, rfl⟩
        rw [HLB.out]
        go_wp2_with fail
        refine (awake_any _).mono ?_
        rintro e x2 ⟨rfl, hx2⟩
        go_wp2_with fail
        go_ret
        have Bx := B.trans (hx1.mono B.size)
        exact ⟨rfl, Bx.trans (hx2.mono Bx.size)⟩
      · by_cases h60 : 60 ≤ a.size + b.size
        · have HNA := hide hna
          have HLB := hide hlb
          clear hna hlb
          have h60' : (60 : Int) ≤ (a.size : Int) + (b.size : Int) := by omega
          go_wp2_with fail
          refine (name_any _ _ la).mono ?_
          rintro e x1 ⟨rfl, hx1⟩
          rw [HNA.out]
          go_wp2_with fail
          refine (label_any _ _ lb).mono ?_
          rintro e x3 ⟨rfl, rfl⟩
          rw [HLB.out]
          go_wp2_with fail
          refine (awake_any _).mono ?_
          rintro e x2 ⟨rfl, hx2⟩
          go_wp2_with fail
          go_ret
          have Bx := B.trans (hx1.mono B.size)
          exact ⟨rfl, Bx.trans (hx2.mono Bx.size)⟩
        · have ea : a.data.toList.length = a.size := Array.length_toList
          have eb : b.data.toList.length = b.size := Array.length_toList
          have U1 : Hid (under (b ++ ⟨#[46]⟩ ++ a).data.toList a.data.toList = true) := by
            unfold Hid; rw [dot_cat]; exact under_dot hna hlb (by omega)
          have U2 : Hid (under (b ++ a).data.toList a.data.toList = false) := by
            unfold Hid; rw [cat_data]; exact under_glued hlb
          have HNA := hide hna
          have HLB := hide hlb
          clear hna hlb ea eb
          have l1 : (b ++ ⟨#[46]⟩ ++ a).size ≤ maxLen := by rw [dot_size]; unfold maxLen; omega
          have l2 : (b ++ a).size ≤ maxLen := by rw [ByteArray.size_append]; unfold maxLen; omega
          have h60' : ¬ (60 : Int) ≤ (a.size : Int) + (b.size : Int) := by omega
          go_wp2_with fail
          refine (name_any _ _ la).mono ?_
          rintro e x1 ⟨rfl, hx1⟩
          rw [HNA.out]
          go_wp2_with fail
          refine (label_any _ _ lb).mono ?_
          rintro e x3 ⟨rfl, rfl⟩
          rw [HLB.out]
          go_wp2_with fail
          refine (under_any _ _ _ l1 la).mono ?_
          rintro e x4 ⟨rfl, hx4⟩
          rw [U1.out]
          go_wp2_with fail
          refine (under_any _ _ _ l2 la).mono ?_
          rintro e x5 ⟨rfl, hx5⟩
          rw [U2.out]
          go_wp2_with fail
          refine (awake_any _).mono ?_
          rintro e x2 ⟨rfl, hx2⟩
          go_wp2_with fail
          go_ret
          have Bx := B.trans (hx1.mono B.size)
          have By := Bx.trans (hx4.mono Bx.size)
          have Bz := By.trans (hx5.mono By.size)
          exact ⟨rfl, Bz.trans (hx2.mono Bz.size)⟩
  · have HBA := hide (under_not_back hab)
    cases hbc : under b.data.toList c.data.toList
    · have HBC := hide hbc
      clear hab hbc
      go_wp2_with fail
      refine (under_any _ _ _ lb la).mono ?_
      rintro e u3 ⟨rfl, hb3⟩
      rw [HBA.out]
      go_wp2_with fail
      refine (under_any _ _ _ lb lc).mono ?_
      rintro e u4 ⟨rfl, hb4⟩
      rw [HBC.out]
      have B3 := B2.trans (hb3.mono B2.size)
      have B := B3.trans (hb4.mono B3.size)
      clear B2 B3 hb3 hb4
      cases hna : D.isName a.data.toList
      · have HNA := hide hna
        clear hna
        go_wp2_with fail
        refine (name_any _ _ la).mono ?_
        rintro e x1 ⟨rfl, hx1⟩
        rw [HNA.out]
        go_wp2_with fail
        refine (awake_any _).mono ?_
        rintro e x2 ⟨rfl, hx2⟩
        go_wp2_with fail
        go_ret
        have Bx := B.trans (hx1.mono B.size)
        exact ⟨rfl, Bx.trans (hx2.mono Bx.size)⟩
      · cases hlb : D.isLabel b.data.toList
        · have HNA := hide hna
          have HLB := hide hlb
          clear hna hlb
          go_wp2_with fail
          refine (name_any _ _ la).mono ?_
          rintro e x1 ⟨rfl, hx1⟩
          rw [HNA.out]
          go_wp2_with fail
          refine (label_any _ _ lb).mono ?_
          rintro e x3 ⟨rfl, rfl⟩
          rw [HLB.out]
          go_wp2_with fail
          refine (awake_any _).mono ?_
          rintro e x2 ⟨rfl, hx2⟩
          go_wp2_with fail
          go_ret
          have Bx := B.trans (hx1.mono B.size)
          exact ⟨rfl, Bx.trans (hx2.mono Bx.size)⟩
        · by_cases h60 : 60 ≤ a.size + b.size
          · have HNA := hide hna
            have HLB := hide hlb
            clear hna hlb
            have h60' : (60 : Int) ≤ (a.size : Int) + (b.size : Int) := by omega
            go_wp2_with fail
            refine (name_any _ _ la).mono ?_
            rintro e x1 ⟨rfl, hx1⟩
            rw [HNA.out]
            go_wp2_with fail
            refine (label_any _ _ lb).mono ?_
            rintro e x3 ⟨rfl, rfl⟩
            rw [HLB.out]
            go_wp2_with fail
            refine (awake_any _).mono ?_
            rintro e x2 ⟨rfl, hx2⟩
            go_wp2_with fail
            go_ret
            have Bx := B.trans (hx1.mono B.size)
            exact ⟨rfl, Bx.trans (hx2.mono Bx.size)⟩
          · have ea : a.data.toList.length = a.size := Array.length_toList
            have eb : b.data.toList.length = b.size := Array.length_toList
            have U1 : Hid (under (b ++ ⟨#[46]⟩ ++ a).data.toList a.data.toList = true) := by
              unfold Hid; rw [dot_cat]; exact under_dot hna hlb (by omega)
            have U2 : Hid (under (b ++ a).data.toList a.data.toList = false) := by
              unfold Hid; rw [cat_data]; exact under_glued hlb
            have HNA := hide hna
            have HLB := hide hlb
            clear hna hlb ea eb
            have l1 : (b ++ ⟨#[46]⟩ ++ a).size ≤ maxLen := by rw [dot_size]; unfold maxLen; omega
            have l2 : (b ++ a).size ≤ maxLen := by rw [ByteArray.size_append]; unfold maxLen; omega
            have h60' : ¬ (60 : Int) ≤ (a.size : Int) + (b.size : Int) := by omega
            go_wp2_with fail
            refine (name_any _ _ la).mono ?_
            rintro e x1 ⟨rfl, hx1⟩
            rw [HNA.out]
            go_wp2_with fail
            refine (label_any _ _ lb).mono ?_
            rintro e x3 ⟨rfl, rfl⟩
            rw [HLB.out]
            go_wp2_with fail
            refine (under_any _ _ _ l1 la).mono ?_
            rintro e x4 ⟨rfl, hx4⟩
            rw [U1.out]
            go_wp2_with fail
            refine (under_any _ _ _ l2 la).mono ?_
            rintro e x5 ⟨rfl, hx5⟩
            rw [U2.out]
            go_wp2_with fail
            refine (awake_any _).mono ?_
            rintro e x2 ⟨rfl, hx2⟩
            go_wp2_with fail
            go_ret
            have Bx := B.trans (hx1.mono B.size)
            have By := Bx.trans (hx4.mono Bx.size)
            have Bz := By.trans (hx5.mono By.size)
            exact ⟨rfl, Bz.trans (hx2.mono Bz.size)⟩
    · have HBC := hide hbc
      have HAC := hide (under_trans hab hbc)
      clear hab hbc
      go_wp2_with fail
      refine (under_any _ _ _ lb la).mono ?_
      rintro e u3 ⟨rfl, hb3⟩
      rw [HBA.out]
      go_wp2_with fail
      refine (under_any _ _ _ lb lc).mono ?_
      rintro e u4 ⟨rfl, hb4⟩
      rw [HBC.out]
      go_wp2_with fail
      refine (under_any _ _ _ la lc).mono ?_
      rintro e u5 ⟨rfl, hb5⟩
      rw [HAC.out]
      have B3 := B2.trans (hb3.mono B2.size)
      have B4 := B3.trans (hb4.mono B3.size)
      have B := B4.trans (hb5.mono B4.size)
      clear B2 B3 B4 hb3 hb4 hb5
      cases hna : D.isName a.data.toList
      · have HNA := hide hna
        clear hna
        go_wp2_with fail
        refine (name_any _ _ la).mono ?_
        rintro e x1 ⟨rfl, hx1⟩
        rw [HNA.out]
        go_wp2_with fail
        refine (awake_any _).mono ?_
        rintro e x2 ⟨rfl, hx2⟩
        go_wp2_with fail
        go_ret
        have Bx := B.trans (hx1.mono B.size)
        exact ⟨rfl, Bx.trans (hx2.mono Bx.size)⟩
      · cases hlb : D.isLabel b.data.toList
        · have HNA := hide hna
          have HLB := hide hlb
          clear hna hlb
          go_wp2_with fail
          refine (name_any _ _ la).mono ?_
          rintro e x1 ⟨rfl, hx1⟩
          rw [HNA.out]
          go_wp2_with fail
          refine (label_any _ _ lb).mono ?_
          rintro e x3 ⟨rfl, rfl⟩
          rw [HLB.out]
          go_wp2_with fail
          refine (awake_any _).mono ?_
          rintro e x2 ⟨rfl, hx2⟩
          go_wp2_with fail
          go_ret
          have Bx := B.trans (hx1.mono B.size)
          exact ⟨rfl, Bx.trans (hx2.mono Bx.size)⟩
        · by_cases h60 : 60 ≤ a.size + b.size
          · have HNA := hide hna
            have HLB := hide hlb
            clear hna hlb
            have h60' : (60 : Int) ≤ (a.size : Int) + (b.size : Int) := by omega
            go_wp2_with fail
            refine (name_any _ _ la).mono ?_
            rintro e x1 ⟨rfl, hx1⟩
            rw [HNA.out]
            go_wp2_with fail
            refine (label_any _ _ lb).mono ?_
            rintro e x3 ⟨rfl, rfl⟩
            rw [HLB.out]
            go_wp2_with fail
            refine (awake_any _).mono ?_
            rintro e x2 ⟨rfl, hx2⟩
            go_wp2_with fail
            go_ret
            have Bx := B.trans (hx1.mono B.size)
            exact ⟨rfl, Bx.trans (hx2.mono Bx.size)⟩
          · have ea : a.data.toList.length = a.size := Array.length_toList
            have eb : b.data.toList.length = b.size := Array.length_toList
            have U1 : Hid (under (b ++ ⟨#[46]⟩ ++ a).data.toList a.data.toList = true) := by
              unfold Hid; rw [dot_cat]; exact under_dot hna hlb (by omega)
            have U2 : Hid (under (b ++ a).data.toList a.data.toList = false) := by
              unfold Hid; rw [cat_data]; exact under_glued hlb
            have HNA := hide hna
            have HLB := hide hlb
            clear hna hlb ea eb
            have l1 : (b ++ ⟨#[46]⟩ ++ a).size ≤ maxLen := by rw [dot_size]; unfold maxLen; omega
            have l2 : (b ++ a).size ≤ maxLen := by rw [ByteArray.size_append]; unfold maxLen; omega
            have h60' : ¬ (60 : Int) ≤ (a.size : Int) + (b.size : Int) := by omega
            go_wp2_with fail
            refine (name_any _ _ la).mono ?_
            rintro e x1 ⟨rfl, hx1⟩
            rw [HNA.out]
            go_wp2_with fail
            refine (label_any _ _ lb).mono ?_
            rintro e x3 ⟨rfl, rfl⟩
            rw [HLB.out]
            go_wp2_with fail
            refine (under_any _ _ _ l1 la).mono ?_
            rintro e x4 ⟨rfl, hx4⟩
            rw [U1.out]
            go_wp2_with fail
            refine (under_any _ _ _ l2 la).mono ?_
            rintro e x5 ⟨rfl, hx5⟩
            rw [U2.out]
            go_wp2_with fail
            refine (awake_any _).mono ?_
            rintro e x2 ⟨rfl, hx2⟩
            go_wp2_with fail
            go_ret
            have Bx := B.trans (hx1.mono B.size)
            have By := Bx.trans (hx4.mono Bx.size)
            have Bz := By.trans (hx5.mono By.size)
            exact ⟨rfl, Bz.trans (hx2.mono Bz.size)⟩

end Go.Proofs.YtnplmgamkcgihaaDoor
