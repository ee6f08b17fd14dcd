/-
  Walks of the document's own answers: wide, May, Holds, Meet, kind, Order.
-/
import Derived.Test.YtlogclpmdaiflaaDoorHWalkD
namespace Go.Proofs.YtlogclpmdaiflaaDoor
open Go Go.RowKit Go.Shelf

theorem isW_iff (l : List UInt8) : isW l = true ↔ ∃ t, l = 42 :: 46 :: t := by
  constructor
  · intro h; exact ⟨_, isW_form h⟩
  · rintro ⟨t, rfl⟩; simp [isW, Lib.hasPrefix]
theorem isWL_at (l : List UInt8) (h : 2 ≤ l.length) : isW l = (decide ((l[0].toNat : Int) = 42) && decide ((l[1].toNat : Int) = 46)) := by
  rcases l with _ | ⟨x, _ | ⟨y, t⟩⟩
  · simp at h
  · simp at h
  · rw [Bool.eq_iff_iff, isW_iff, Bool.and_eq_true, decide_eq_true_eq, decide_eq_true_eq]
    simp only [List.getElem_cons_zero, List.getElem_cons_succ]
    constructor
    · rintro ⟨t', h'⟩
      simp at h'
      rw [h'.1, h'.2.1]
      exact ⟨rfl, rfl⟩
    · rintro ⟨h1, h2⟩
      have a : x = 42 := UInt8.toNat_inj.1 (by show x.toNat = 42; omega)
      have b : y = 46 := UInt8.toNat_inj.1 (by show y.toNat = 46; omega)
      exact ⟨t, by rw [a, b]⟩
theorem isW_at (s : ByteArray) (h : 2 ≤ s.size) : isW s.data.toList = (decide ((s[0].toNat : Int) = 42) && decide ((s[1].toNat : Int) = 46)) :=
  isWL_at s.data.toList (by rw [Array.length_toList]; exact h)
theorem isW_short {s : ByteArray} (h : ¬ 2 ≤ s.size) : isW s.data.toList = false := by
  have hsl : s.data.toList.length = s.size := Array.length_toList
  cases hw : isW s.data.toList
  · rfl
  · have := isW_len hw; omega

set_option maxHeartbeats 400000 in
theorem wide_any (s : ByteArray) (w : World) (hs : s.size ≤ maxLen) :
    Calls Tryd.prog 29 #[.string s] w fun e w' => e = .returned (.tuple #[.string (trimP s ⟨#[42, 46]⟩), .bool (isW s.data.toList)]) ∧ w' = w := by
  unfold maxLen at hs
  by_cases h2 : 2 ≤ s.size
  · have hat := isW_at s h2
    cases hw : isW s.data.toList
    · have HX := hide (trimP_miss (p := ⟨#[42, 46]⟩) hw)
      have HW := hide hw
      rw [hw] at hat
      have h2' : (2 : Int) ≤ (s.size : Int) := by omega
      cases q0 : ((s[0].toNat : Int) == 42)
      · clear hat hw
        go_enter Tryd.func29, Tryd.ntmps29
        go_wp2_with fail
        go_ret2
        exact ⟨by rw [← HX.out]; rfl, rfl⟩
      · have q1 : ((s[1].toNat : Int) == 46) = false := by
          cases q1 : ((s[1].toNat : Int) == 46)
          · rfl
          · rw [decide_eq_true (beq_iff_eq.1 q0), decide_eq_true (beq_iff_eq.1 q1)] at hat; cases hat
        clear hat hw
        go_enter Tryd.func29, Tryd.ntmps29
        go_wp2_with fail
        go_ret2
        exact ⟨by rw [← HX.out]; rfl, rfl⟩
    · have HX := hide (trimP_hit (p := ⟨#[42, 46]⟩) hw)
      have HW := hide hw
      rw [hw] at hat
      have h2' : (2 : Int) ≤ (s.size : Int) := by omega
      have hat' := Bool.and_eq_true _ _ ▸ hat.symm
      have q0 : ((s[0].toNat : Int) == 42) = true := beq_iff_eq.2 (of_decide_eq_true hat'.1)
      have q1 : ((s[1].toNat : Int) == 46) = true := beq_iff_eq.2 (of_decide_eq_true hat'.2)
      clear hat hat' hw
      go_enter Tryd.func29, Tryd.ntmps29
      go_wp2_with fail
      go_ret2
      exact ⟨by rw [← HX.out]; rfl, rfl⟩
  · have hw := isW_short h2
    have HX := hide (trimP_miss (p := ⟨#[42, 46]⟩) hw)
    have HW := hide hw
    have h2' : ¬ (2 : Int) ≤ (s.size : Int) := by omega
    clear hw
    go_enter Tryd.func29, Tryd.ntmps29
    go_wp2_with fail
    go_ret2
    exact ⟨by rw [HW.out, ← HX.out]; rfl, rfl⟩

set_option maxHeartbeats 400000 in
theorem rmay_any (s : ByteArray) (w : World) (hs : s.size ≤ 100) :
    Calls Tryd.prog 13 #[.string s] w fun e w' => e = .returned (.bool (may s.data.toList)) ∧ Below w.heap.size w w' := by
  have HM : Hid (may s.data.toList = (s.data.toList.isEmpty || (decide (s.data.toList.length ≤ 60) && D.isName (trimP s ⟨#[42, 46]⟩).data.toList))) := by
    unfold Hid; rw [tpB_data]; rfl
  have hsl : s.data.toList.length = s.size := Array.length_toList
  have ls : s.size ≤ maxLen := small_len (by omega)
  cases h : s.toList.isEmpty
  · by_cases h60 : s.size ≤ 60
    · have lt := Nat.le_trans (trimP_le s ⟨#[42, 46]⟩) hs
      have HE : Hid (D.isName (trimP s ⟨#[42, 46]⟩).data.toList = may s.data.toList) := by
        unfold Hid; rw [HM.out, empty_iff, h, hsl, decide_eq_true h60]; rfl
      have h60' : (s.size : Int) ≤ 60 := by omega
      clear hsl
      go_enter Tryd.func13, Tryd.ntmps13
      go_wp2_with fail
      refine (wide_any _ _ ls).mono ?_
      rintro e x ⟨rfl, rfl⟩
      go_wp2_with fail
      refine (rname_any _ _ (by omega)).mono ?_
      rintro e x ⟨rfl, hb⟩
      go_wp2_with fail
      go_ret
      exact ⟨ret_bool HE.out, hb⟩
    · have HE : Hid (may s.data.toList = false) := by
        unfold Hid; rw [HM.out, empty_iff, h, hsl, decide_eq_false h60]; rfl
      have h60' : ¬ (s.size : Int) ≤ 60 := by omega
      clear hsl
      go_enter Tryd.func13, Tryd.ntmps13
      go_wp2_with fail
      refine (wide_any _ _ ls).mono ?_
      rintro e x ⟨rfl, rfl⟩
      go_wp2_with fail
      go_ret
      exact ⟨ret_bool HE.out.symm, Below.refl _ _⟩
  · have HE : Hid (may s.data.toList = true) := by
      unfold Hid; rw [HM.out, empty_iff, h]; rfl
    clear hsl
    go_enter Tryd.func13, Tryd.ntmps13
    go_wp2_with fail
    refine (wide_any _ _ ls).mono ?_
    rintro e x ⟨rfl, rfl⟩
    go_wp2_with fail
    go_ret
    exact ⟨ret_bool HE.out.symm, Below.refl _ _⟩

set_option maxHeartbeats 800000 in
theorem rholds_any (p h : ByteArray) (w : World) (hp : p.size ≤ 100) (hh : h.size ≤ 100) :
    Calls Tryd.prog 15 #[.string p, .string h] w fun e w' => e = .returned (.bool (holds p.data.toList h.data.toList)) ∧ Below w.heap.size w w' := by
  have HM : Hid (holds p.data.toList h.data.toList = (may p.data.toList && D.isName h.data.toList && within h.data.toList p.data.toList)) := rfl
  have lp : p.size ≤ maxLen := small_len (by omega)
  cases h1 : may p.data.toList
  · have H1 := hide h1
    clear h1
    go_enter Tryd.func15, Tryd.ntmps15
    go_wp2_with fail
    refine (rmay_any _ _ hp).mono ?_
    rintro e w1 ⟨rfl, hb1⟩
    rw [H1.out]
    go_wp2_with fail
    go_ret
    exact ⟨ret_bool (by rw [HM.out, H1.out]; rfl), hb1⟩
  · have H1 := hide h1
    cases h2 : D.isName h.data.toList
    · have H2 := hide h2
      clear h1 h2
      go_enter Tryd.func15, Tryd.ntmps15
      go_wp2_with fail
      refine (rmay_any _ _ hp).mono ?_
      rintro e w1 ⟨rfl, hb1⟩
      rw [H1.out]
      go_wp2_with fail
      refine (rname_any _ _ (by omega)).mono ?_
      rintro e w2 ⟨rfl, hb2⟩
      rw [H2.out]
      go_wp2_with fail
      go_ret
      exact ⟨ret_bool (by rw [HM.out, H1.out, H2.out]; rfl), hb1.trans (hb2.mono hb1.size)⟩
    · have H2 := hide h2
      have HR := hide (holds_ref _ _ h1 h2)
      have lt := Nat.le_trans (trimP_le p ⟨#[42, 46]⟩) hp
      cases h3 : isW p.data.toList
      · have H3 := hide h3
        have HR' : Hid (holds p.data.toList h.data.toList = (p.toList.isEmpty || (p.toList == h.toList))) := by
          unfold Hid; rw [HR.out, h3, Lib.toList_data, Lib.toList_data]; rfl
        clear h1 h2 h3 HM
        cases h4 : p.toList.isEmpty
        · rw [h4] at HR'
          go_enter Tryd.func15, Tryd.ntmps15
          go_wp2_with fail
          refine (rmay_any _ _ hp).mono ?_
          rintro e w1 ⟨rfl, hb1⟩
          rw [H1.out]
          go_wp2_with fail
          refine (rname_any _ _ (by omega)).mono ?_
          rintro e w2 ⟨rfl, hb2⟩
          rw [H2.out]
          go_wp2_with fail
          refine (wide_any _ _ lp).mono ?_
          rintro e x ⟨rfl, rfl⟩
          rw [H3.out]
          go_wp2_with fail
          go_ret
          exact ⟨ret_bool (by rw [HR'.out]; rfl), hb1.trans (hb2.mono hb1.size)⟩
        · rw [h4] at HR'
          go_enter Tryd.func15, Tryd.ntmps15
          go_wp2_with fail
          refine (rmay_any _ _ hp).mono ?_
          rintro e w1 ⟨rfl, hb1⟩
          rw [H1.out]
          go_wp2_with fail
          refine (rname_any _ _ (by omega)).mono ?_
          rintro e w2 ⟨rfl, hb2⟩
          rw [H2.out]
          go_wp2_with fail
          refine (wide_any _ _ lp).mono ?_
          rintro e x ⟨rfl, rfl⟩
          rw [H3.out]
          go_wp2_with fail
          go_ret
          exact ⟨ret_bool (by rw [HR'.out]; rfl), hb1.trans (hb2.mono hb1.size)⟩
      · have H3 := hide h3
        have HR' : Hid (under h.data.toList (trimP p ⟨#[42, 46]⟩).data.toList = holds p.data.toList h.data.toList) := by
          unfold Hid; rw [HR.out, h3, tpB_data]; rfl
        clear h1 h2 h3 HM
        go_enter Tryd.func15, Tryd.ntmps15
        go_wp2_with fail
        refine (rmay_any _ _ hp).mono ?_
        rintro e w1 ⟨rfl, hb1⟩
        rw [H1.out]
        go_wp2_with fail
        refine (rname_any _ _ (by omega)).mono ?_
        rintro e w2 ⟨rfl, hb2⟩
        rw [H2.out]
        go_wp2_with fail
        refine (wide_any _ _ lp).mono ?_
        rintro e x ⟨rfl, rfl⟩
        rw [H3.out]
        go_wp2_with fail
        refine (runder_any _ _ _ hh lt).mono ?_
        rintro e w3 ⟨rfl, hb3⟩
        go_wp2_with fail
        go_ret
        have b2 := hb1.trans (hb2.mono hb1.size)
        exact ⟨ret_bool HR'.out, b2.trans (hb3.mono b2.size)⟩

/-- the document's Meet, by all cases -/
theorem meet_ref_nil (b : List UInt8) (hb : may b = true) : meetI [] b = true ∧ meetV [] b = b := by
  have h : meetI [] b = true := meetI_iff.2 ⟨rfl, hb, .inr (within_all b)⟩
  exact ⟨h, by rcases meetV_cases h with ⟨hw, e⟩ | ⟨hw, e⟩; rw [e]; exact within_back hw (within_all b); exact e⟩
theorem meet_ref_a {a b : List UInt8} (ha : may a = true) (hb : may b = true) (hw : within a b = true) : meetI a b = true ∧ meetV a b = a := by
  have h : meetI a b = true := meetI_iff.2 ⟨ha, hb, .inl hw⟩
  exact ⟨h, by unfold meetV; rw [if_pos h, if_pos hw]⟩
theorem meet_ref_b {a b : List UInt8} (ha : may a = true) (hb : may b = true) (hw : within b a = true) : meetI a b = true ∧ meetV a b = b := by
  rw [meetI_comm, meetV_comm]
  exact meet_ref_a hb ha hw
theorem meet_ref_no {a b : List UInt8} (h1 : within a b = false) (h2 : within b a = false) : meetI a b = false ∧ meetV a b = [] := by
  have h : meetI a b = false := by simp [meetI, h1, h2]
  exact ⟨h, meetV_no h⟩
theorem within_plain {a b : List UInt8} (h1 : b.isEmpty = false) (h2 : (a == b) = false) : within a b = (isW b && under (tp a) (tp b)) := by simp [within, h1, h2]

set_option maxHeartbeats 1600000 in
theorem rmeet_any (a b : ByteArray) (w : World) (ha : a.size ≤ 100) (hb : b.size ≤ 100) :
    Calls Tryd.prog 18 #[.string a, .string b] w fun e w' => e = .returned (.tuple #[.string (meetB a b), .bool (meetI a.data.toList b.data.toList)]) ∧ Below w.heap.size w w' := by
  have HI : Hid (meetI a.data.toList b.data.toList = (may a.data.toList && may b.data.toList && (within a.data.toList b.data.toList || within b.data.toList a.data.toList))) := rfl
  have la : a.size ≤ maxLen := small_len (by omega)
  have lb : b.size ≤ maxLen := small_len (by omega)
  cases h1 : may a.data.toList
  · have HE : Hid (meetI a.data.toList b.data.toList = false) := by unfold Hid; rw [HI.out, h1]; rfl
    have HV := hide (meetB_no HE.out)
    have H1 := hide h1
    clear h1
    go_enter Tryd.func18, Tryd.ntmps18
    go_wp2_with fail
    refine (rmay_any _ _ ha).mono ?_
    rintro e w1 ⟨rfl, hb1⟩
    rw [H1.out]
    go_wp2_with fail
    go_ret2
    exact ⟨by rw [HE.out, HV.out]; rfl, hb1⟩
  · have H1 := hide h1
    cases h2 : may b.data.toList
    · have HE : Hid (meetI a.data.toList b.data.toList = false) := by unfold Hid; rw [HI.out, h1, h2]; rfl
      have HV := hide (meetB_no HE.out)
      have H2 := hide h2
      clear h1 h2
      go_enter Tryd.func18, Tryd.ntmps18
      go_wp2_with fail
      refine (rmay_any _ _ ha).mono ?_
      rintro e w1 ⟨rfl, hb1⟩
      rw [H1.out]
      go_wp2_with fail
      refine (rmay_any _ _ hb).mono ?_
      rintro e w2 ⟨rfl, hb2⟩
      rw [H2.out]
      go_wp2_with fail
      go_ret2
      exact ⟨by rw [HE.out, HV.out]; rfl, hb1.trans (hb2.mono hb1.size)⟩
    · have H2 := hide h2
      suffices hrest : ∃ (x : ByteArray) (is : Bool), Hid (meetB a b = x ∧ meetI a.data.toList b.data.toList = is) ∧ Calls Tryd.prog 18 #[.string a, .string b] w fun e w' => e = .returned (.tuple #[.string x, .bool is]) ∧ Below w.heap.size w w' by
        obtain ⟨x, is, hx, hc⟩ := hrest
        rw [hx.out.1, hx.out.2]
        exact hc
      have toB : ∀ {x : ByteArray} {is : Bool}, meetI a.data.toList b.data.toList = is → meetV a.data.toList b.data.toList = x.data.toList → Hid (meetB a b = x ∧ meetI a.data.toList b.data.toList = is) := fun h h' => ⟨bytes_ext (by rw [meetB_data]; exact h'), h⟩
      cases h3 : a.toList.isEmpty
      · cases h4 : b.toList.isEmpty
        · cases h5 : (a.toList == b.toList)
          · have w1 := within_plain (a := a.data.toList) (b := b.data.toList) (by rw [empty_iff]; exact h4) (by rw [← beq_data]; exact h5)
            have w2 := within_plain (a := b.data.toList) (b := a.data.toList) (by rw [empty_iff]; exact h3) (by
              rw [← beq_data]; rw [beq_eq_false_iff_ne] at h5 ⊢; exact fun e => h5 e.symm)
            rw [← tpB_data, ← tpB_data] at w1 w2
            have lta := Nat.le_trans (trimP_le a ⟨#[42, 46]⟩) ha
            have ltb := Nat.le_trans (trimP_le b ⟨#[42, 46]⟩) hb
            cases h6 : isW b.data.toList
            · have H6 := hide h6
              rw [h6] at w1
              cases h7 : isW a.data.toList
              · have H7 := hide h7
                rw [h7] at w2
                have hm := meet_ref_no w1 w2
                refine ⟨⟨#[]⟩, false, toB hm.1 hm.2, ?_⟩
                clear h1 h2 h6 h7 w1 w2 hm toB HI
                go_enter Tryd.func18, Tryd.ntmps18
                go_wp2_with fail
                refine (rmay_any _ _ ha).mono ?_
                rintro e w1 ⟨rfl, hb1⟩
                rw [H1.out]
                go_wp2_with fail
                refine (rmay_any _ _ hb).mono ?_
                rintro e w2 ⟨rfl, hb2⟩
                rw [H2.out]
                go_wp2_with fail
                refine (wide_any _ _ la).mono ?_
                rintro e x ⟨rfl, rfl⟩
                rw [H7.out]
                go_wp2_with fail
                refine (wide_any _ _ lb).mono ?_
                rintro e x ⟨rfl, rfl⟩
                rw [H6.out]
                go_wp2_with fail
                go_ret2
                exact ⟨rfl, hb1.trans (hb2.mono hb1.size)⟩
              · have H7 := hide h7
                rw [h7, Bool.true_and] at w2
                cases h8 : under (trimP b ⟨#[42, 46]⟩).data.toList (trimP a ⟨#[42, 46]⟩).data.toList
                · have H8 := hide h8
                  rw [h8] at w2
                  have hm := meet_ref_no w1 w2
                  refine ⟨⟨#[]⟩, false, toB hm.1 hm.2, ?_⟩
                  clear h1 h2 h6 h7 h8 w1 w2 hm toB HI
                  go_enter Tryd.func18, Tryd.ntmps18
                  go_wp2_with fail
                  refine (rmay_any _ _ ha).mono ?_
                  rintro e w1 ⟨rfl, hb1⟩
                  rw [H1.out]
                  go_wp2_with fail
                  refine (rmay_any _ _ hb).mono ?_
                  rintro e w2 ⟨rfl, hb2⟩
                  rw [H2.out]
                  go_wp2_with fail
                  refine (wide_any _ _ la).mono ?_
                  rintro e x ⟨rfl, rfl⟩
                  rw [H7.out]
                  go_wp2_with fail
                  refine (wide_any _ _ lb).mono ?_
                  rintro e x ⟨rfl, rfl⟩
                  rw [H6.out]
                  go_wp2_with fail
                  refine (runder_any _ _ _ ltb lta).mono ?_
                  rintro e w3 ⟨rfl, hb3⟩
                  rw [H8.out]
                  go_wp2_with fail
                  go_ret2
                  have b2 := hb1.trans (hb2.mono hb1.size)
                  exact ⟨rfl, b2.trans (hb3.mono b2.size)⟩
                · have H8 := hide h8
                  rw [h8] at w2
                  have hm := meet_ref_b h1 h2 w2
                  refine ⟨b, true, toB hm.1 hm.2, ?_⟩
                  clear h1 h2 h6 h7 h8 w1 w2 hm toB HI
                  go_enter Tryd.func18, Tryd.ntmps18
                  go_wp2_with fail
                  refine (rmay_any _ _ ha).mono ?_
                  rintro e w1 ⟨rfl, hb1⟩
                  rw [H1.out]
                  go_wp2_with fail
                  refine (rmay_any _ _ hb).mono ?_
                  rintro e w2 ⟨rfl, hb2⟩
                  rw [H2.out]
                  go_wp2_with fail
                  refine (wide_any _ _ la).mono ?_
                  rintro e x ⟨rfl, rfl⟩
                  rw [H7.out]
                  go_wp2_with fail
                  refine (wide_any _ _ lb).mono ?_
                  rintro e x ⟨rfl, rfl⟩
                  rw [H6.out]
                  go_wp2_with fail
                  refine (runder_any _ _ _ ltb lta).mono ?_
                  rintro e w3 ⟨rfl, hb3⟩
                  rw [H8.out]
                  go_wp2_with fail
                  go_ret2
                  have b2 := hb1.trans (hb2.mono hb1.size)
                  exact ⟨rfl, b2.trans (hb3.mono b2.size)⟩
            · have H6 := hide h6
              rw [h6, Bool.true_and] at w1
              cases h9 : under (trimP a ⟨#[42, 46]⟩).data.toList (trimP b ⟨#[42, 46]⟩).data.toList
              · have H9 := hide h9
                rw [h9] at w1
                cases h7 : isW a.data.toList
                · have H7 := hide h7
                  rw [h7] at w2
                  have hm := meet_ref_no w1 w2
                  refine ⟨⟨#[]⟩, false, toB hm.1 hm.2, ?_⟩
                  clear h1 h2 h6 h7 h9 w1 w2 hm toB HI
                  go_enter Tryd.func18, Tryd.ntmps18
                  go_wp2_with fail
                  refine (rmay_any _ _ ha).mono ?_
                  rintro e w1 ⟨rfl, hb1⟩
                  rw [H1.out]
                  go_wp2_with fail
                  refine (rmay_any _ _ hb).mono ?_
                  rintro e w2 ⟨rfl, hb2⟩
                  rw [H2.out]
                  go_wp2_with fail
                  refine (wide_any _ _ la).mono ?_
                  rintro e x ⟨rfl, rfl⟩
                  rw [H7.out]
                  go_wp2_with fail
                  refine (wide_any _ _ lb).mono ?_
                  rintro e x ⟨rfl, rfl⟩
                  rw [H6.out]
                  go_wp2_with fail
                  refine (runder_any _ _ _ lta ltb).mono ?_
                  rintro e w3 ⟨rfl, hb3⟩
                  rw [H9.out]
                  go_wp2_with fail
                  go_ret2
                  have b2 := hb1.trans (hb2.mono hb1.size)
                  exact ⟨rfl, b2.trans (hb3.mono b2.size)⟩
                · have H7 := hide h7
                  rw [h7, Bool.true_and] at w2
                  cases h8 : under (trimP b ⟨#[42, 46]⟩).data.toList (trimP a ⟨#[42, 46]⟩).data.toList
                  · have H8 := hide h8
                    rw [h8] at w2
                    have hm := meet_ref_no w1 w2
                    refine ⟨⟨#[]⟩, false, toB hm.1 hm.2, ?_⟩
                    clear h1 h2 h6 h7 h8 h9 w1 w2 hm toB HI
                    go_enter Tryd.func18, Tryd.ntmps18
                    go_wp2_with fail
                    refine (rmay_any _ _ ha).mono ?_
                    rintro e w1 ⟨rfl, hb1⟩
                    rw [H1.out]
                    go_wp2_with fail
                    refine (rmay_any _ _ hb).mono ?_
                    rintro e w2 ⟨rfl, hb2⟩
                    rw [H2.out]
                    go_wp2_with fail
                    refine (wide_any _ _ la).mono ?_
                    rintro e x ⟨rfl, rfl⟩
                    rw [H7.out]
                    go_wp2_with fail
                    refine (wide_any _ _ lb).mono ?_
                    rintro e x ⟨rfl, rfl⟩
                    rw [H6.out]
                    go_wp2_with fail
                    refine (runder_any _ _ _ lta ltb).mono ?_
                    rintro e w3 ⟨rfl, hb3⟩
                    rw [H9.out]
                    go_wp2_with fail
                    refine (runder_any _ _ _ ltb lta).mono ?_
                    rintro e w4 ⟨rfl, hb4⟩
                    rw [H8.out]
                    go_wp2_with fail
                    go_ret2
                    have b2 := hb1.trans (hb2.mono hb1.size)
                    have b3 := b2.trans (hb3.mono b2.size)
                    exact ⟨rfl, b3.trans (hb4.mono b3.size)⟩
                  · have H8 := hide h8
                    rw [h8] at w2
                    have hm := meet_ref_b h1 h2 w2
                    refine ⟨b, true, toB hm.1 hm.2, ?_⟩
                    clear h1 h2 h6 h7 h8 h9 w1 w2 hm toB HI
                    go_enter Tryd.func18, Tryd.ntmps18
                    go_wp2_with fail
                    refine (rmay_any _ _ ha).mono ?_
                    rintro e w1 ⟨rfl, hb1⟩
                    rw [H1.out]
                    go_wp2_with fail
                    refine (rmay_any _ _ hb).mono ?_
                    rintro e w2 ⟨rfl, hb2⟩
                    rw [H2.out]
                    go_wp2_with fail
                    refine (wide_any _ _ la).mono ?_
                    rintro e x ⟨rfl, rfl⟩
                    rw [H7.out]
                    go_wp2_with fail
                    refine (wide_any _ _ lb).mono ?_
                    rintro e x ⟨rfl, rfl⟩
                    rw [H6.out]
                    go_wp2_with fail
                    refine (runder_any _ _ _ lta ltb).mono ?_
                    rintro e w3 ⟨rfl, hb3⟩
                    rw [H9.out]
                    go_wp2_with fail
                    refine (runder_any _ _ _ ltb lta).mono ?_
                    rintro e w4 ⟨rfl, hb4⟩
                    rw [H8.out]
                    go_wp2_with fail
                    go_ret2
                    have b2 := hb1.trans (hb2.mono hb1.size)
                    have b3 := b2.trans (hb3.mono b2.size)
                    exact ⟨rfl, b3.trans (hb4.mono b3.size)⟩
              · have H9 := hide h9
                rw [h9] at w1
                have hm := meet_ref_a h1 h2 w1
                refine ⟨a, true, toB hm.1 hm.2, ?_⟩
                clear h1 h2 h6 h9 w1 w2 hm toB HI
                generalize isW a.data.toList = wa at *
                go_enter Tryd.func18, Tryd.ntmps18
                go_wp2_with fail
                refine (rmay_any _ _ ha).mono ?_
                rintro e w1 ⟨rfl, hb1⟩
                rw [H1.out]
                go_wp2_with fail
                refine (rmay_any _ _ hb).mono ?_
                rintro e w2 ⟨rfl, hb2⟩
                rw [H2.out]
                go_wp2_with fail
                refine (wide_any _ _ la).mono ?_
                rintro e x ⟨rfl, rfl⟩
                go_wp2_with fail
                refine (wide_any _ _ lb).mono ?_
                rintro e x ⟨rfl, rfl⟩
                rw [H6.out]
                go_wp2_with fail
                refine (runder_any _ _ _ lta ltb).mono ?_
                rintro e w3 ⟨rfl, hb3⟩
                rw [H9.out]
                go_wp2_with fail
                go_ret2
                have b2 := hb1.trans (hb2.mono hb1.size)
                exact ⟨rfl, b2.trans (hb3.mono b2.size)⟩
          · have hm := meet_ref_a h1 h2 (show within a.data.toList b.data.toList = true by rw [bytes_eq h5]; exact within_self _)
            refine ⟨a, true, toB hm.1 hm.2, ?_⟩
            clear h1 h2 hm toB HI
            go_enter Tryd.func18, Tryd.ntmps18
            go_wp2_with fail
            refine (rmay_any _ _ ha).mono ?_
            rintro e w1 ⟨rfl, hb1⟩
            rw [H1.out]
            go_wp2_with fail
            refine (rmay_any _ _ hb).mono ?_
            rintro e w2 ⟨rfl, hb2⟩
            rw [H2.out]
            go_wp2_with fail
            go_ret2
            exact ⟨rfl, hb1.trans (hb2.mono hb1.size)⟩
        · have hm := meet_ref_a h1 h2 (show within a.data.toList b.data.toList = true by unfold within; rw [empty_iff, h4]; rfl)
          refine ⟨a, true, toB hm.1 hm.2, ?_⟩
          clear h1 h2 hm toB HI
          go_enter Tryd.func18, Tryd.ntmps18
          go_wp2_with fail
          refine (rmay_any _ _ ha).mono ?_
          rintro e w1 ⟨rfl, hb1⟩
          rw [H1.out]
          go_wp2_with fail
          refine (rmay_any _ _ hb).mono ?_
          rintro e w2 ⟨rfl, hb2⟩
          rw [H2.out]
          go_wp2_with fail
          go_ret2
          exact ⟨rfl, hb1.trans (hb2.mono hb1.size)⟩
      · have hm := meet_ref_b h1 h2 (show within b.data.toList a.data.toList = true by unfold within; rw [empty_iff, h3]; rfl)
        refine ⟨b, true, toB hm.1 hm.2, ?_⟩
        clear h1 h2 hm toB HI
        go_enter Tryd.func18, Tryd.ntmps18
        go_wp2_with fail
        refine (rmay_any _ _ ha).mono ?_
        rintro e w1 ⟨rfl, hb1⟩
        rw [H1.out]
        go_wp2_with fail
        refine (rmay_any _ _ hb).mono ?_
        rintro e w2 ⟨rfl, hb2⟩
        rw [H2.out]
        go_wp2_with fail
        go_ret2
        exact ⟨rfl, hb1.trans (hb2.mono hb1.size)⟩

end Go.Proofs.YtlogclpmdaiflaaDoor
