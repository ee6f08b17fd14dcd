/-
  Walks of the document's own answers: Is, Above, May, Holds.
-/
import Derived.Test.YtppnkfjdgalgbaaPaWalkB
namespace Go.Proofs.Ytppnkfjdgalgbaa
open Go Go.RowKit Go.Shelf

attribute [local go_sem] gb_const

theorem pfirst_not {s : ByteArray} (h0 : 0 < s.size) (h : ((s[0].toNat : Int) != 47) = true) : isP s.data.toList = false := by
  refine isP_root ?_
  rw [Bool.eq_false_iff]
  intro hp
  obtain ⟨r, hr⟩ := hasP_iff.1 hp
  have e : s.data.toList[0]? = some 47 := by rw [← hr]; rfl
  rw [List.getElem?_eq_getElem (by rw [size_len]; exact h0)] at e
  have e' : s[0] = 47 := Option.some.inj e
  rw [e'] at h
  exact absurd h (by decide)
theorem pfirst_yes {s : ByteArray} (h0 : 0 < s.size) (h : ((s[0].toNat : Int) != 47) = false) : Lib.hasPrefix s.data.toList [47] = true := by
  have h' : (s[0].toNat : Int) = 47 := by simpa using h
  have e : s[0] = 47 := UInt8.toNat_inj.1 (by show s[0].toNat = 47; omega)
  rw [hasP_iff]
  refine ⟨s.data.toList.drop 1, ?_⟩
  have : s.data.toList = s[0] :: s.data.toList.drop 1 := by
    have hl : 0 < s.data.toList.length := by rw [size_len]; exact h0
    exact (List.drop_zero (l := s.data.toList)).symm.trans (List.drop_eq_getElem_cons hl)
  rw [this, e]
  rfl

theorem inP_out {c : Int} (h : inP c = true) : ¬ c < 33 ∧ ¬ 126 < c ∧ (c == 63) = false ∧ (c == 35) = false := by
  simp only [inP, Bool.and_eq_true, decide_eq_true_eq, Bool.not_eq_true'] at h
  exact ⟨by omega, by omega, h.1.2, h.2⟩

set_option maxHeartbeats 800000 in
theorem ris_any (s : ByteArray) (w : World) (hs : s.size ≤ maxLen) :
    Calls Try.prog 55 #[.string s] w fun e w' => e = .returned (.bool (isP s.data.toList)) ∧ w' = w := by
  unfold maxLen at hs
  by_cases h60 : 60 < s.size
  · have HX := hide (isP_long h60)
    go_enter Try.func55, Try.ntmps55
    go_wp2_with fail
    go_ret
    exact ⟨ret_bool HX.out.symm, rfl⟩
  by_cases h0 : 0 < s.size
  · have h1 : ¬ (s.size : Int) < 1 := by omega
    have h2 : ¬ (60 : Int) < s.size := by omega
    cases hf : ((s[0].toNat : Int) != 47)
    · have HX := hide (fun h => isP_all h60 (pfirst_yes h0 hf) h)
      go_enter Try.func55, Try.ntmps55
      go_wp2_with fail
      go_loop [3] (fun i => ∃ k : Nat, k ≤ s.size ∧ i = .int .i64 k ∧ Hid (∀ j (h : j < s.size), j < k → inP (s[j].toNat : Int) = true)) (fun i => s.size - (intOf i).toNat)
      case atStart => exact ⟨0, Nat.zero_le _, rfl, fun j h hj => by omega⟩
      case round =>
        obtain ⟨k, hk, rfl, hall⟩ := hrel
        by_cases hlt : k < s.size
        · have hk8 := s[k].toNat_lt
          cases hin : inP (s[k].toNat : Int)
          · have HN := hide (isP_not hlt hin)
            have HI := hide hin
            clear hin
            go_wp2_with fail
            all_goals first
              | (go_ret; exact ⟨ret_bool HN.out.symm, rfl⟩)
              | (exfalso
                 have hi := HI.out
                 simp only [inP, Bool.and_eq_false_iff, decide_eq_false_iff_not, Bool.not_eq_false'] at hi
                 simp_all <;> omega)
          · have HI := hide hin
            obtain ⟨a1, a2, a3, a4⟩ := inP_out hin
            clear hin
            go_wp2_with fail
            refine ⟨⟨k + 1, by omega, by go_num, fun j h hj => ?_⟩, ?_⟩
            · by_cases e : j = k
              · subst e; exact HI.out
              · exact hall.out j h (by omega)
            · simp [intOf]; omega
        · have HY := hide (HX.out (fun j h => hall.out j h (by omega)))
          go_wp2_with fail
          go_ret
          exact ⟨ret_bool HY.out.symm, rfl⟩
    · have HX := hide (pfirst_not h0 hf)
      go_enter Try.func55, Try.ntmps55
      go_wp2_with fail
      go_ret
      exact ⟨ret_bool HX.out.symm, rfl⟩
  · have h1 : s.size = 0 := by omega
    have HX : Hid (isP s.data.toList = false) := by
      refine isP_root ?_
      rw [Bool.eq_false_iff]
      intro hp
      have := (hasP_iff.1 hp).length_le
      rw [size_len, h1] at this
      simp at this
    have h2 : (s.size : Int) < 1 := by omega
    clear h0 h60
    go_enter Try.func55, Try.ntmps55
    go_wp2_with fail
    go_ret
    exact ⟨ret_bool HX.out.symm, rfl⟩

theorem one_root {s : ByteArray} (hp : isP s.data.toList = true) : ((s.size : Int) == 1) = (s.data.toList == [47]) := by
  rw [Bool.eq_iff_iff, beq_iff_eq, beq_iff_eq]
  have h := (isP_iff.1 hp).2.1
  constructor
  · intro e
    exact (h.eq_of_length (by rw [size_len]; show 1 = s.size; omega)).symm
  · intro e
    rw [← size_len, e]
    rfl
theorem last_suffix {s : ByteArray} (h0 : 0 < s.size) : ((s[s.size - 1].toNat : Int) == 47) = Lib.hasSuffix s.data.toList [47] := by
  rw [Bool.eq_iff_iff, beq_iff_eq]
  unfold Lib.hasSuffix
  rw [List.isSuffixOf_iff_suffix]
  have hl : s.data.toList ≠ [] := by intro e; have := size_len s; rw [e] at this; simp at this; omega
  have he : s.data.toList.getLast hl = s[s.size - 1] := by
    rw [List.getLast_eq_getElem]
    simp only [size_len]
    rfl
  constructor
  · intro h
    refine ⟨s.data.toList.dropLast, ?_⟩
    have e : s[s.size - 1] = 47 := UInt8.toNat_inj.1 (by show s[s.size - 1].toNat = 47; omega)
    have := List.dropLast_concat_getLast hl
    rw [he, e] at this
    exact this
  · rintro ⟨r, hr⟩
    have : s.data.toList.getLast hl = 47 := by
      simp only [← hr]
      simp
    rw [he] at this
    rw [this]
    rfl

set_option maxHeartbeats 800000 in
theorem rabove_any (s : ByteArray) (w : World) (hs : s.size ≤ maxLen) :
    Calls Try.prog 56 #[.string s] w fun e w' => e = .returned (.bool (abv s.data.toList)) ∧ w' = w := by
  cases hp : isP s.data.toList
  · have HA : Hid (abv s.data.toList = false) := by unfold Hid abv; rw [hp]; rfl
    have HP := hide hp
    clear hp
    go_enter Try.func56, Try.ntmps56
    go_wp2_with fail
    refine (ris_any _ _ hs).mono ?_
    rintro e x ⟨rfl, hx⟩
    subst x
    rw [HP.out]
    go_wp2_with fail
    go_ret
    exact ⟨ret_bool HA.out.symm, rfl⟩
  · have HP := hide hp
    have h0 : 0 < s.size := by
      have := (isP_iff.1 hp).2.1.length_le
      rw [size_len] at this
      exact this
    have hl := isP_len hp
    cases hr : ((s.size : Int) == 1)
    · have HA : Hid (abv s.data.toList = !((s[s.size - 1].toNat : Int) == 47)) := by
        unfold Hid abv
        rw [hp, ← one_root hp, hr, last_suffix h0]; rfl
      cases hc : ((s[s.size - 1].toNat : Int) == 47)
      all_goals
        have hc' := hc
        rw [hc] at HA
        clear hp
        go_enter Try.func56, Try.ntmps56
        go_wp2_with fail
        refine (ris_any _ _ hs).mono ?_
        rintro e x ⟨rfl, hx⟩
        subst x
        rw [HP.out]
        go_wp2_with fail
        go_ret
        exact ⟨ret_bool (by rw [HA.out]; simp [bne, hc']), rfl⟩
    · have HA : Hid (abv s.data.toList = true) := by
        unfold Hid abv
        rw [hp, ← one_root hp, hr]; rfl
      clear hp
      go_enter Try.func56, Try.ntmps56
      go_wp2_with fail
      refine (ris_any _ _ hs).mono ?_
      rintro e x ⟨rfl, hx⟩
      subst x
      rw [HP.out]
      go_wp2_with fail
      go_ret
      exact ⟨ret_bool HA.out.symm, rfl⟩

set_option maxHeartbeats 800000 in
theorem prmay_any (k : Int) (s : ByteArray) (w : World) (hs : s.size ≤ maxLen) :
    Calls Try.prog 32 #[.agg #[.int .i64 k, .string s]] w fun e w' => e = .returned (.bool (mayP k s.data.toList)) ∧ Below w.heap.size w w' := by
  cases h1 : (k == 1)
  · cases h2 : (k == 2)
    · have HM : Hid (mayP k s.data.toList = false) := by
        unfold Hid mayP
        rw [if_neg (beq_eq_false_iff_ne.1 h1), if_neg (beq_eq_false_iff_ne.1 h2)]
      go_enter Try.func32, Try.ntmps32
      go_wp2_with fail
      go_ret
      exact ⟨ret_bool HM.out.symm, (Below.refl _ _).alloc (Nat.le_refl _) _⟩
    · have HM : Hid (mayP k s.data.toList = abv s.data.toList) := by
        unfold Hid mayP
        rw [if_neg (beq_eq_false_iff_ne.1 h1), if_pos (eq_of_beq h2)]
      go_enter Try.func32, Try.ntmps32
      go_wp2_with fail
      refine (rabove_any _ _ hs).mono ?_
      rintro e x ⟨rfl, hx⟩
      subst x
      go_wp2_with fail
      go_ret
      exact ⟨ret_bool HM.out.symm, (Below.refl _ _).alloc (Nat.le_refl _) _⟩
  · have HM : Hid (mayP k s.data.toList = isP s.data.toList) := by
      unfold Hid mayP
      rw [if_pos (eq_of_beq h1)]
    go_enter Try.func32, Try.ntmps32
    go_wp2_with fail
    refine (ris_any _ _ hs).mono ?_
    rintro e x ⟨rfl, hx⟩
    subst x
    go_wp2_with fail
    go_ret
    exact ⟨ret_bool HM.out.symm, (Below.refl _ _).alloc (Nat.le_refl _) _⟩

theorem pre_split {v s : List UInt8} : (v ++ [47] <+: s) ↔ v.length < s.length ∧ s.take v.length = v ∧ s[v.length]? = some 47 := by
  constructor
  · rintro ⟨r, rfl⟩
    simp
  · rintro ⟨h1, h2, h3⟩
    refine ⟨s.drop (v.length + 1), ?_⟩
    have e : s.drop v.length = 47 :: s.drop (v.length + 1) := by
      rw [List.drop_eq_getElem_cons h1]
      congr 1
      rw [List.getElem?_eq_getElem h1] at h3
      exact Option.some.inj h3
    rw [List.append_assoc]
    show v ++ (47 :: s.drop (v.length + 1)) = s
    have h4 := List.take_append_drop v.length s
    rw [h2, e] at h4
    exact h4
theorem pre_no_len {v s : ByteArray} (h : ¬ v.size < s.size) : Lib.hasPrefix s.data.toList (v.data.toList ++ [47]) = false := by
  rw [Bool.eq_false_iff, ne_eq, hasP_iff, pre_split, size_len, size_len]
  exact fun x => h x.1
theorem take_toList (s : ByteArray) (n : Nat) : (s.extract 0 n).toList = s.data.toList.take n := by
  rw [Lib.extract_toList]
  simp
theorem pre_no_text {v s : ByteArray} (h : ((s.extract 0 v.size).toList == v.toList) = false) : Lib.hasPrefix s.data.toList (v.data.toList ++ [47]) = false := by
  rw [Bool.eq_false_iff, ne_eq, hasP_iff, pre_split, size_len, size_len]
  rw [take_toList, Lib.toList_data] at h
  exact fun x => beq_eq_false_iff_ne.1 h x.2.1
theorem pre_at {v s : ByteArray} (hl : v.size < s.size) (h : ((s.extract 0 v.size).toList == v.toList) = true) : Lib.hasPrefix s.data.toList (v.data.toList ++ [47]) = ((s[v.size].toNat : Int) == 47) := by
  rw [take_toList, Lib.toList_data] at h
  have h' := eq_of_beq h
  rw [Bool.eq_iff_iff, hasP_iff, pre_split, size_len, size_len, beq_iff_eq]
  have hg : s.data.toList[v.size]? = some s[v.size] := by
    rw [List.getElem?_eq_getElem (by rw [size_len]; exact hl)]
    rfl
  rw [hg]
  constructor
  · intro x
    rw [Option.some.inj x.2.2]
    rfl
  · intro x
    refine ⟨hl, h', ?_⟩
    congr 1
    exact UInt8.toNat_inj.1 (by show s[v.size].toNat = 47; omega)

set_option maxHeartbeats 1600000 in
theorem prholds_any (k : Int) (v s : ByteArray) (w : World) (hv : v.size ≤ maxLen) (hs : s.size ≤ maxLen) :
    Calls Try.prog 39 #[.agg #[.int .i64 k, .string v], .string s] w fun e w' => e = .returned (.bool (holdP k v.data.toList s.data.toList)) ∧ Below w.heap.size w w' := by
  cases hm : mayP k v.data.toList
  · have HH : Hid (holdP k v.data.toList s.data.toList = false) := by unfold Hid holdP; rw [hm]; rfl
    have HM := hide hm
    clear hm
    go_enter Try.func39, Try.ntmps39
    go_wp2_with fail
    refine (prmay_any _ _ _ hv).mono ?_
    rintro e w1 ⟨rfl, hb1⟩
    rw [HM.out]
    go_wp2_with fail
    go_ret
    exact ⟨ret_bool HH.out.symm, below_box hb1⟩
  · have HM := hide hm
    have hvl := isP_len (may_isP hm)
    cases hp : isP s.data.toList
    · have HH : Hid (holdP k v.data.toList s.data.toList = false) := by unfold Hid holdP; rw [hm, hp]; rfl
      have HP := hide hp
      clear hm hp
      go_enter Try.func39, Try.ntmps39
      go_wp2_with fail
      refine (prmay_any _ _ _ hv).mono ?_
      rintro e w1 ⟨rfl, hb1⟩
      rw [HM.out]
      go_wp2_with fail
      refine (ris_any _ _ hs).mono ?_
      rintro e x ⟨rfl, hx⟩
      subst x
      rw [HP.out]
      go_wp2_with fail
      go_ret
      exact ⟨ret_bool HH.out.symm, below_box hb1⟩
    · have HP := hide hp
      have hsl := isP_len hp
      cases h1 : (k == 1)
      · cases he : (v.toList == s.toList)
        · have he' : (s.toList == v.toList) = false := by rw [← he]; exact Bool.beq_comm
          cases hr : ((v.size : Int) == 1)
          · have HH : Hid (holdP k v.data.toList s.data.toList = Lib.hasPrefix s.data.toList (v.data.toList ++ [47])) := by
              unfold Hid holdP und
              rw [hm, hp, if_neg (beq_eq_false_iff_ne.1 h1), ← list_beq, he', ← one_root (may_isP hm), hr]; rfl
            clear hm hp he'
            by_cases hlt : v.size < s.size
            · have hd : decide ((v.size : Int) < s.size) = true := decide_eq_true (by omega)
              have hd2 : (v.size : Int) < s.size := by omega
              cases hx : ((s.extract 0 v.size).toList == v.toList)
              · have HN := hide (HH.out.trans (pre_no_text hx))
                go_enter Try.func39, Try.ntmps39
                go_wp2_with fail
                refine (prmay_any _ _ _ hv).mono ?_
                rintro e w1 ⟨rfl, hb1⟩
                rw [HM.out]
                go_wp2_with fail
                refine (ris_any _ _ hs).mono ?_
                rintro e x ⟨rfl, hx⟩
                subst x
                rw [HP.out]
                have c0 := box_fst hb1
                have c1 := box_snd hb1
                have g1 : ∀ p : GB w1, p.W.cell? ⟨w.heap.size, 1, none⟩ = some (.string v) := fun p => box_snd (hb1.trans (p.h.mono hb1.size))
                go_wp2_with fail
                refine wp_region_below (by kernel_rfl) (by kernel_rfl) ?_
                repeat (first | go_big_quiet_step (fail) | quiet_step (fail))
                refine wpQuiet_nil ?_
                intro _ hw'
                obtain ⟨q, hw2⟩ := hw'
                subst hw2
                go_wp2_with fail
                go_ret
                exact ⟨ret_bool HN.out.symm, below_box (hb1.trans (q.h.mono hb1.size))⟩
              · have HN := hide (HH.out.trans (pre_at hlt hx))
                go_enter Try.func39, Try.ntmps39
                go_wp2_with fail
                refine (prmay_any _ _ _ hv).mono ?_
                rintro e w1 ⟨rfl, hb1⟩
                rw [HM.out]
                go_wp2_with fail
                refine (ris_any _ _ hs).mono ?_
                rintro e x ⟨rfl, hx⟩
                subst x
                rw [HP.out]
                have c0 := box_fst hb1
                have c1 := box_snd hb1
                have g1 : ∀ p : GB w1, p.W.cell? ⟨w.heap.size, 1, none⟩ = some (.string v) := fun p => box_snd (hb1.trans (p.h.mono hb1.size))
                go_wp2_with fail
                refine wp_region_below (by kernel_rfl) (by kernel_rfl) ?_
                repeat (first | go_big_quiet_step (fail) | quiet_step (fail))
                refine wpQuiet_nil ?_
                intro _ hw'
                obtain ⟨q, hw2⟩ := hw'
                subst hw2
                go_wp2_with fail
                go_ret
                exact ⟨ret_bool HN.out.symm, below_box (hb1.trans (q.h.mono hb1.size))⟩
            · have HN := hide (HH.out.trans (pre_no_len hlt))
              have hd : decide ((v.size : Int) < s.size) = false := decide_eq_false (by omega)
              go_enter Try.func39, Try.ntmps39
              go_wp2_with fail
              refine (prmay_any _ _ _ hv).mono ?_
              rintro e w1 ⟨rfl, hb1⟩
              rw [HM.out]
              go_wp2_with fail
              refine (ris_any _ _ hs).mono ?_
              rintro e x ⟨rfl, hx⟩
              subst x
              rw [HP.out]
              have c0 := box_fst hb1
              have c1 := box_snd hb1
              have g1 : ∀ p : GB w1, p.W.cell? ⟨w.heap.size, 1, none⟩ = some (.string v) := fun p => box_snd (hb1.trans (p.h.mono hb1.size))
              go_wp2_with fail
              refine wp_region_below (by kernel_rfl) (by kernel_rfl) ?_
              repeat (first | go_big_quiet_step (fail) | quiet_step (fail))
              refine wpQuiet_nil ?_
              intro _ hw'
              obtain ⟨q, hw2⟩ := hw'
              subst hw2
              go_wp2_with fail
              go_ret
              exact ⟨ret_bool HN.out.symm, below_box (hb1.trans (q.h.mono hb1.size))⟩
          · have HH : Hid (holdP k v.data.toList s.data.toList = true) := by
              unfold Hid holdP und
              rw [hm, hp, if_neg (beq_eq_false_iff_ne.1 h1), ← list_beq, he', ← one_root (may_isP hm), hr]; rfl
            clear hm hp he'
            go_enter Try.func39, Try.ntmps39
            go_wp2_with fail
            refine (prmay_any _ _ _ hv).mono ?_
            rintro e w1 ⟨rfl, hb1⟩
            rw [HM.out]
            go_wp2_with fail
            refine (ris_any _ _ hs).mono ?_
            rintro e x ⟨rfl, hx⟩
            subst x
            rw [HP.out]
            have c0 := box_fst hb1
            have c1 := box_snd hb1
            have g1 : ∀ p : GB w1, p.W.cell? ⟨w.heap.size, 1, none⟩ = some (.string v) := fun p => box_snd (hb1.trans (p.h.mono hb1.size))
            go_wp2_with fail
            refine wp_region_below (by kernel_rfl) (by kernel_rfl) ?_
            repeat (first | go_big_quiet_step (fail) | quiet_step (fail))
            refine wpQuiet_nil ?_
            intro _ hw'
            obtain ⟨q, hw2⟩ := hw'
            subst hw2
            go_wp2_with fail
            go_ret
            exact ⟨ret_bool HH.out.symm, below_box (hb1.trans (q.h.mono hb1.size))⟩
        · have hes : v.data.toList = s.data.toList := by rw [list_beq] at he; exact eq_of_beq he
          have HH : Hid (holdP k v.data.toList s.data.toList = true) := by
            unfold Hid holdP und
            rw [hm, hp, if_neg (beq_eq_false_iff_ne.1 h1), hes]; simp
          clear hm hp hes
          go_enter Try.func39, Try.ntmps39
          go_wp2_with fail
          refine (prmay_any _ _ _ hv).mono ?_
          rintro e w1 ⟨rfl, hb1⟩
          rw [HM.out]
          go_wp2_with fail
          refine (ris_any _ _ hs).mono ?_
          rintro e x ⟨rfl, hx⟩
          subst x
          rw [HP.out]
          have c0 := box_fst hb1
          have c1 := box_snd hb1
          go_wp2_with fail
          go_ret
          exact ⟨ret_bool HH.out.symm, below_box hb1⟩
      · have HH : Hid (holdP k v.data.toList s.data.toList = (v.toList == s.toList)) := by
          unfold Hid holdP
          rw [hm, hp, if_pos (eq_of_beq h1), list_beq, Bool.beq_comm]; rfl
        clear hm hp
        go_enter Try.func39, Try.ntmps39
        go_wp2_with fail
        refine (prmay_any _ _ _ hv).mono ?_
        rintro e w1 ⟨rfl, hb1⟩
        rw [HM.out]
        go_wp2_with fail
        refine (ris_any _ _ hs).mono ?_
        rintro e x ⟨rfl, hx⟩
        subst x
        rw [HP.out]
        have c0 := box_fst hb1
        have c1 := box_snd hb1
        go_wp2_with fail
        go_ret
        exact ⟨ret_bool HH.out.symm, below_box hb1⟩

end Go.Proofs.Ytppnkfjdgalgbaa
