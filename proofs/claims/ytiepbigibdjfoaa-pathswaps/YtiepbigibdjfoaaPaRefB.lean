/-
  Walks of the document's own answers: Order, Swap.
-/
import Derived.Test.YtiepbigibdjfoaaPaLawF
namespace Go.Proofs.Ytiepbigibdjfoaa
open Go Go.RowKit Go.Shelf

theorem ordP_kind {ka kb : Int} {a b : List UInt8} (h : (ka == kb) = false) : ordP ka a kb b = if ka < kb then -1 else 1 := by
  have hne := beq_eq_false_iff_ne.1 h
  unfold ordP cmpI orI
  by_cases h1 : ka < kb
  · simp [h1]
  · have h2 : kb < ka := by omega
    simp [h1, h2]
theorem ordP_len {k : Int} {a b : List UInt8} (h : a.length ≠ b.length) : ordP k a k b = if b.length < a.length then -1 else 1 := by
  unfold ordP cmpI orI
  by_cases h1 : b.length < a.length
  · have h2 : (b.length : Int) < a.length := by omega
    simp [h1, h2]
  · have h2 : (a.length : Int) < b.length := by omega
    have h3 : ¬ (b.length : Int) < a.length := by omega
    simp [h1, h2, h3]
theorem ordP_text {k : Int} {a b : List UInt8} (h : a.length = b.length) : ordP k a k b = Lib.compareBytes a b := by
  unfold ordP cmpI orI
  simp [h]

set_option maxHeartbeats 1600000 in
theorem rorder_any (ka : Int) (a : ByteArray) (kb : Int) (b : ByteArray) (w : World) :
    Calls Try.prog 22 #[.agg #[.int .i64 ka, .string a], .agg #[.int .i64 kb, .string b]] w fun e w' => e = .returned (.int .i64 (ordP ka a.data.toList kb b.data.toList)) ∧ Below w.heap.size w w' := by
  have B : Below w.heap.size w ((w.alloc (.cells #[.int .i64 ka, .string a] 23)).alloc (.cells #[.int .i64 kb, .string b] 23)) := ((Below.refl _ _).alloc (Nat.le_refl _) _).alloc (by simp) _
  cases hk : (ka == kb)
  · have HO := hide (ordP_kind (a := a.data.toList) (b := b.data.toList) hk)
    by_cases hl : ka < kb
    · have HO2 : Hid (ordP ka a.data.toList kb b.data.toList = -1) := HO.out.trans (if_pos hl)
      clear HO
      go_enter Try.func22, Try.ntmps22
      go_wp2_with fail
      go_ret
      exact ⟨ret_int HO2.out.symm, B⟩
    · have HO2 : Hid (ordP ka a.data.toList kb b.data.toList = 1) := HO.out.trans (if_neg hl)
      clear HO
      go_enter Try.func22, Try.ntmps22
      go_wp2_with fail
      go_ret
      exact ⟨ret_int HO2.out.symm, B⟩
  · have hk' := eq_of_beq hk
    subst hk'
    clear hk
    by_cases hsz : a.size = b.size
    · have HO := hide (ordP_text (k := ka) (a := a.data.toList) (b := b.data.toList) (by rw [size_len, size_len]; exact hsz))
      have hz : ((a.size : Int) == (b.size : Int)) = true := by rw [hsz]; simp
      clear hsz
      rcases text_cases a b with ⟨t1, t2⟩ | ⟨t1, t2, t3⟩ | ⟨t1, t2, t3⟩
      · have HO2 := hide (HO.out.trans t2.out)
        have he : (a.toList == b.toList) = false := by
          rw [list_beq, beq_eq_false_iff_ne]
          intro e
          have := (cmp_zero a.data.toList b.data.toList).2 e
          rw [t2.out] at this
          exact absurd this (by decide)
        clear HO t2
        go_enter Try.func22, Try.ntmps22
        go_wp2_with fail
        go_ret
        exact ⟨ret_int HO2.out.symm, B⟩
      · have HO2 := hide (HO.out.trans t3.out)
        clear HO t3
        go_enter Try.func22, Try.ntmps22
        go_wp2_with fail
        go_ret
        exact ⟨ret_int HO2.out.symm, B⟩
      · have HO2 := hide (HO.out.trans t3.out)
        clear HO t3
        go_enter Try.func22, Try.ntmps22
        go_wp2_with fail
        go_ret
        exact ⟨ret_int HO2.out.symm, B⟩
    · have HO := hide (ordP_len (k := ka) (a := a.data.toList) (b := b.data.toList) (by rw [size_len, size_len]; exact hsz))
      have hz : ((a.size : Int) == (b.size : Int)) = false := beq_eq_false_iff_ne.2 (by omega)
      have he : (a.toList == b.toList) = false := by
        rw [list_beq, beq_eq_false_iff_ne]
        intro e
        apply hsz
        rw [← size_len, ← size_len, e]
      clear hsz
      by_cases hl : b.size < a.size
      · have HO2 : Hid (ordP ka a.data.toList ka b.data.toList = -1) := HO.out.trans (if_pos (by rw [size_len, size_len]; exact hl))
        have hl' : (b.size : Int) < a.size := by omega
        clear HO hl
        go_enter Try.func22, Try.ntmps22
        go_wp2_with fail
        go_ret
        exact ⟨ret_int HO2.out.symm, B⟩
      · have HO2 : Hid (ordP ka a.data.toList ka b.data.toList = 1) := HO.out.trans (if_neg (by rw [size_len, size_len]; exact hl))
        have hl' : ¬ (b.size : Int) < a.size := by omega
        clear HO hl
        go_enter Try.func22, Try.ntmps22
        go_wp2_with fail
        go_ret
        exact ⟨ret_int HO2.out.symm, B⟩

theorem no_size : (⟨#[]⟩ : ByteArray).size = 0 := rfl
theorem long_root {s : ByteArray} (h : 1 < s.size) : s.data.toList ≠ [47] := by
  intro e
  have := size_len s
  rw [e] at this
  simp at this
  omega
theorem short_root {s : ByteArray} (hp : isP s.data.toList = true) (h : ¬ 1 < s.size) : s.data.toList = [47] := by
  have h1 := (isP_iff.1 hp).2.1
  exact (h1.eq_of_length (by
    have := h1.length_le
    rw [size_len] at this ⊢
    simp at this ⊢
    omega)).symm

set_option maxHeartbeats 3200000 in
theorem rswap_any (k : Int) (v b s : ByteArray) (w : World) (hv : v.size ≤ maxLen) (hb : b.size ≤ maxLen) (hs : s.size ≤ maxLen) :
    Calls Try.prog 20 #[.agg #[.int .i64 k, .string v], .string b, .string s] w fun e w' => e = .returned (.tuple #[.string (mkB (swapT k v.data.toList b.data.toList s.data.toList)), .int .i64 (swapE k v.data.toList b.data.toList s.data.toList)]) ∧ Below w.heap.size w w' := by
  cases h2 : (k == 2)
  · have ⟨HT, HE⟩ := swap_arg (k := k) (v := v.data.toList) (b := b.data.toList) (s := s.data.toList) (by unfold okSw; rw [decide_eq_false (beq_eq_false_iff_ne.1 h2)]; rfl)
    have h2' : (k != 2) = true := by simp [bne, h2]
    go_enter Try.func20, Try.ntmps20
    go_wp2_with fail
    go_ret2
    exact ⟨ret_two HT.out HE.out, (Below.refl _ _).alloc (Nat.le_refl _) _⟩
  · have hk : k = 2 := eq_of_beq h2
    subst hk
    clear h2
    cases hh : holdP 2 v.data.toList s.data.toList
    · have ⟨HT, HE⟩ := swap_arg (k := 2) (v := v.data.toList) (b := b.data.toList) (s := s.data.toList) (by unfold okSw; rw [hh]; rfl)
      have HH := hide hh
      clear hh
      go_enter Try.func20, Try.ntmps20
      go_wp2_with fail
      refine (rholds_any _ _ _ _ hv hs).mono ?_
      rintro e w1 ⟨rfl, hb1⟩
      rw [HH.out]
      go_wp2_with fail
      go_ret2
      exact ⟨ret_two HT.out HE.out, below_box hb1⟩
    · cases ha : abv b.data.toList
      · have ⟨HT, HE⟩ := swap_arg (k := 2) (v := v.data.toList) (b := b.data.toList) (s := s.data.toList) (by unfold okSw; rw [hh, ha]; rfl)
        have HH := hide hh
        have HA := hide ha
        clear hh ha
        go_enter Try.func20, Try.ntmps20
        go_wp2_with fail
        refine (rholds_any _ _ _ _ hv hs).mono ?_
        rintro e w1 ⟨rfl, hb1⟩
        rw [HH.out]
        go_wp2_with fail
        refine (rabove_any _ _ hb).mono ?_
        rintro e x ⟨rfl, hx⟩
        subst x
        rw [HA.out]
        go_wp2_with fail
        go_ret2
        exact ⟨ret_two HT.out HE.out, below_box hb1⟩
      · have hok : okSw 2 v.data.toList b.data.toList s.data.toList = true := okSw_iff.2 ⟨hh, ha⟩
        have h2i := hold2_iff.1 hh
        have hvp := abv_isP h2i.1
        have hsp := h2i.2.1
        have hbp := abv_isP ha
        have hsl := isP_len hsp
        have hbl := isP_len hbp
        have hb0 : b.toList.isEmpty = false := by
          rw [list_none]
          cases e : b.data.toList
          · exact absurd e (isP_ne hbp)
          · rfl
        have hpre : v.size ≤ s.size := by
          have := (und_pre h2i.2.1 h2i.2.2).length_le
          rwa [size_len, size_len] at this
        have HH := hide hh
        have HA := hide ha
        have LARGE := hide (fun hl => swap_large hok hl)
        have FINE := hide (fun hl => swap_fine hok hl)
        clear hh ha hok h2i
        by_cases hv1 : 1 < v.size
        · have hv2 : (1 : Int) < v.size := by omega
          have hvr := long_root hv1
          by_cases hb1' : 1 < b.size
          · have hb2 : (1 : Int) < b.size := by omega
            have hbr := long_root hb1'
            have hne : (b ++ (s.extract v.size s.size)).toList.isEmpty = false := by rw [list_none, app_data]; rw [list_none] at hb0; cases e : b.data.toList <;> simp_all
            have HX : Hid (b ++ (s.extract v.size s.size) = mkB (joinP b.data.toList (tailP v.data.toList s.data.toList))) := by
              refine mkB_eq ?_
              rw [app_data, drop_data]
              unfold tailP joinP
              rw [if_neg hbr, if_neg hvr, size_len]
            have hsz : ((b ++ (s.extract v.size s.size) : ByteArray).size) = (joinP b.data.toList (tailP v.data.toList s.data.toList)).length := (congrArg ByteArray.size HX.out).trans (mkB_size _)
            simp only [ByteArray.size_append, ByteArray.size_extract] at hsz
            by_cases hl : 60 < (joinP b.data.toList (tailP v.data.toList s.data.toList)).length
            · have ⟨HT, HE⟩ := LARGE.out hl
              have hX : (60 : Int) < (b.size : Int) + ((s.size - v.size : Nat) : Int) := by omega
              clear hl hvp hsp hbp LARGE FINE hsz
              go_enter Try.func20, Try.ntmps20
              go_wp2_with fail
              refine (rholds_any _ _ _ _ hv hs).mono ?_
              rintro e w1 ⟨rfl, hb1⟩
              rw [HH.out]
              go_wp2_with fail
              refine (rabove_any _ _ hb).mono ?_
              rintro e x ⟨rfl, hx⟩
              subst x
              rw [HA.out]
              have c0 := box_fst hb1
              have c1 := box_snd hb1
              go_wp2_with fail
              go_ret2
              exact ⟨ret_two HT.out HE.out, below_box hb1⟩
            · have ⟨HT, HE⟩ := FINE.out hl
              have hX : (b.size : Int) + ((s.size - v.size : Nat) : Int) ≤ 60 := by omega
              clear hl hvp hsp hbp LARGE FINE hsz
              go_enter Try.func20, Try.ntmps20
              go_wp2_with fail
              refine (rholds_any _ _ _ _ hv hs).mono ?_
              rintro e w1 ⟨rfl, hb1⟩
              rw [HH.out]
              go_wp2_with fail
              refine (rabove_any _ _ hb).mono ?_
              rintro e x ⟨rfl, hx⟩
              subst x
              rw [HA.out]
              have c0 := box_fst hb1
              have c1 := box_snd hb1
              go_wp2_with fail
              go_ret2
              exact ⟨ret_two (HX.out.trans HT.out) HE.out, below_box hb1⟩
          · have hb2 : ¬ (1 : Int) < b.size := by omega
            have hbr := short_root hbp hb1'
            cases hne : (s.extract v.size s.size).toList.isEmpty
            · have HX : Hid ((s.extract v.size s.size) = mkB (joinP b.data.toList (tailP v.data.toList s.data.toList))) := by
                refine mkB_eq ?_
                rw [drop_data]
                unfold tailP joinP
                rw [list_none, drop_data] at hne
                rw [if_pos hbr, if_neg hvr, size_len, if_neg (fun e => by rw [e] at hne; cases hne)]
              have hsz : (((s.extract v.size s.size) : ByteArray).size) = (joinP b.data.toList (tailP v.data.toList s.data.toList)).length := (congrArg ByteArray.size HX.out).trans (mkB_size _)
              simp only [ByteArray.size_extract] at hsz
              by_cases hl : 60 < (joinP b.data.toList (tailP v.data.toList s.data.toList)).length
              · exfalso
                omega
              · have ⟨HT, HE⟩ := FINE.out hl
                have hX : ((s.size - v.size : Nat) : Int) ≤ 60 := by omega
                clear hl hvp hsp hbp LARGE FINE hsz
                go_enter Try.func20, Try.ntmps20
                go_wp2_with fail
                refine (rholds_any _ _ _ _ hv hs).mono ?_
                rintro e w1 ⟨rfl, hb1⟩
                rw [HH.out]
                go_wp2_with fail
                refine (rabove_any _ _ hb).mono ?_
                rintro e x ⟨rfl, hx⟩
                subst x
                rw [HA.out]
                have c0 := box_fst hb1
                have c1 := box_snd hb1
                go_wp2_with fail
                go_ret2
                exact ⟨ret_two (HX.out.trans HT.out) HE.out, below_box hb1⟩
            · have HX : Hid (b = mkB (joinP b.data.toList (tailP v.data.toList s.data.toList))) := by
                refine mkB_eq ?_
                unfold tailP joinP
                rw [list_none, drop_data] at hne
                rw [if_pos hbr, if_neg hvr, size_len, if_pos (List.isEmpty_iff.1 hne), hbr]
              have hsz : ((b : ByteArray).size) = (joinP b.data.toList (tailP v.data.toList s.data.toList)).length := (congrArg ByteArray.size HX.out).trans (mkB_size _)
              by_cases hl : 60 < (joinP b.data.toList (tailP v.data.toList s.data.toList)).length
              · exfalso
                omega
              · have ⟨HT, HE⟩ := FINE.out hl
                clear hl hvp hsp hbp LARGE FINE hsz
                go_enter Try.func20, Try.ntmps20
                go_wp2_with fail
                refine (rholds_any _ _ _ _ hv hs).mono ?_
                rintro e w1 ⟨rfl, hb1⟩
                rw [HH.out]
                go_wp2_with fail
                refine (rabove_any _ _ hb).mono ?_
                rintro e x ⟨rfl, hx⟩
                subst x
                rw [HA.out]
                have c0 := box_fst hb1
                have c1 := box_snd hb1
                go_wp2_with fail
                go_ret2
                exact ⟨ret_two (HX.out.trans HT.out) HE.out, below_box hb1⟩
        · have hv2 : ¬ (1 : Int) < v.size := by omega
          have hvr := short_root hvp hv1
          by_cases hs1 : 1 < s.size
          · have hs2 : (1 : Int) < s.size := by omega
            have hsr := long_root hs1
            have hs0 : s.toList.isEmpty = false := by
              rw [list_none]
              cases e : s.data.toList
              · exact absurd e (isP_ne hsp)
              · rfl
            by_cases hb1' : 1 < b.size
            · have hb2 : (1 : Int) < b.size := by omega
              have hbr := long_root hb1'
              have hne : (b ++ s).toList.isEmpty = false := by rw [list_none, app_data]; rw [list_none] at hb0; cases e : b.data.toList <;> simp_all
              have HX : Hid (b ++ s = mkB (joinP b.data.toList (tailP v.data.toList s.data.toList))) := by
                refine mkB_eq ?_
                rw [app_data]
                unfold tailP joinP
                rw [if_neg hbr, if_pos hvr, if_neg hsr]
              have hsz : ((b ++ s : ByteArray).size) = (joinP b.data.toList (tailP v.data.toList s.data.toList)).length := (congrArg ByteArray.size HX.out).trans (mkB_size _)
              simp only [ByteArray.size_append] at hsz
              by_cases hl : 60 < (joinP b.data.toList (tailP v.data.toList s.data.toList)).length
              · have ⟨HT, HE⟩ := LARGE.out hl
                have hX : (60 : Int) < (b.size : Int) + (s.size : Int) := by omega
                clear hl hvp hsp hbp LARGE FINE hsz
                go_enter Try.func20, Try.ntmps20
                go_wp2_with fail
                refine (rholds_any _ _ _ _ hv hs).mono ?_
                rintro e w1 ⟨rfl, hb1⟩
                rw [HH.out]
                go_wp2_with fail
                refine (rabove_any _ _ hb).mono ?_
                rintro e x ⟨rfl, hx⟩
                subst x
                rw [HA.out]
                have c0 := box_fst hb1
                have c1 := box_snd hb1
                go_wp2_with fail
                go_ret2
                exact ⟨ret_two HT.out HE.out, below_box hb1⟩
              · have ⟨HT, HE⟩ := FINE.out hl
                have hX : (b.size : Int) + (s.size : Int) ≤ 60 := by omega
                clear hl hvp hsp hbp LARGE FINE hsz
                go_enter Try.func20, Try.ntmps20
                go_wp2_with fail
                refine (rholds_any _ _ _ _ hv hs).mono ?_
                rintro e w1 ⟨rfl, hb1⟩
                rw [HH.out]
                go_wp2_with fail
                refine (rabove_any _ _ hb).mono ?_
                rintro e x ⟨rfl, hx⟩
                subst x
                rw [HA.out]
                have c0 := box_fst hb1
                have c1 := box_snd hb1
                go_wp2_with fail
                go_ret2
                exact ⟨ret_two (HX.out.trans HT.out) HE.out, below_box hb1⟩
            · have hb2 : ¬ (1 : Int) < b.size := by omega
              have hbr := short_root hbp hb1'
              have HX : Hid (s = mkB (joinP b.data.toList (tailP v.data.toList s.data.toList))) := by
                refine mkB_eq ?_
                unfold tailP joinP
                rw [if_pos hbr, if_pos hvr, if_neg hsr, if_neg (isP_ne hsp)]
              have hsz : ((s : ByteArray).size) = (joinP b.data.toList (tailP v.data.toList s.data.toList)).length := (congrArg ByteArray.size HX.out).trans (mkB_size _)
              by_cases hl : 60 < (joinP b.data.toList (tailP v.data.toList s.data.toList)).length
              · exfalso
                omega
              · have ⟨HT, HE⟩ := FINE.out hl
                clear hl hvp hsp hbp LARGE FINE hsz
                go_enter Try.func20, Try.ntmps20
                go_wp2_with fail
                refine (rholds_any _ _ _ _ hv hs).mono ?_
                rintro e w1 ⟨rfl, hb1⟩
                rw [HH.out]
                go_wp2_with fail
                refine (rabove_any _ _ hb).mono ?_
                rintro e x ⟨rfl, hx⟩
                subst x
                rw [HA.out]
                have c0 := box_fst hb1
                have c1 := box_snd hb1
                go_wp2_with fail
                go_ret2
                exact ⟨ret_two (HX.out.trans HT.out) HE.out, below_box hb1⟩
          · have hs2 : ¬ (1 : Int) < s.size := by omega
            have hsr := short_root hsp hs1
            by_cases hb1' : 1 < b.size
            · have hb2 : (1 : Int) < b.size := by omega
              have hbr := long_root hb1'
              have hne : (b ++ ⟨#[]⟩ : ByteArray).toList.isEmpty = false := by rw [list_none, app_data]; rw [list_none] at hb0; cases e : b.data.toList <;> simp_all
              have HX : Hid (b ++ ⟨#[]⟩ = mkB (joinP b.data.toList (tailP v.data.toList s.data.toList))) := by
                refine mkB_eq ?_
                rw [app_data]
                unfold tailP joinP
                rw [if_neg hbr, if_pos hvr, if_pos hsr]
              have hsz : ((b ++ ⟨#[]⟩ : ByteArray).size) = (joinP b.data.toList (tailP v.data.toList s.data.toList)).length := (congrArg ByteArray.size HX.out).trans (mkB_size _)
              simp only [ByteArray.size_append, no_size] at hsz
              by_cases hl : 60 < (joinP b.data.toList (tailP v.data.toList s.data.toList)).length
              · exfalso
                omega
              · have ⟨HT, HE⟩ := FINE.out hl
                have hX : (b.size : Int) ≤ 60 := by omega
                clear hl hvp hsp hbp LARGE FINE hsz
                go_enter Try.func20, Try.ntmps20
                go_wp2_with fail
                refine (rholds_any _ _ _ _ hv hs).mono ?_
                rintro e w1 ⟨rfl, hb1⟩
                rw [HH.out]
                go_wp2_with fail
                refine (rabove_any _ _ hb).mono ?_
                rintro e x ⟨rfl, hx⟩
                subst x
                rw [HA.out]
                have c0 := box_fst hb1
                have c1 := box_snd hb1
                go_wp2_with fail
                go_ret2
                exact ⟨ret_two (HX.out.trans HT.out) HE.out, below_box hb1⟩
            · have hb2 : ¬ (1 : Int) < b.size := by omega
              have hbr := short_root hbp hb1'
              have HX : Hid (b = mkB (joinP b.data.toList (tailP v.data.toList s.data.toList))) := by
                refine mkB_eq ?_
                unfold tailP joinP
                rw [if_pos hbr, if_pos hvr, if_pos hsr, if_pos rfl, hbr]
              have hsz : ((b : ByteArray).size) = (joinP b.data.toList (tailP v.data.toList s.data.toList)).length := (congrArg ByteArray.size HX.out).trans (mkB_size _)
              by_cases hl : 60 < (joinP b.data.toList (tailP v.data.toList s.data.toList)).length
              · exfalso
                omega
              · have ⟨HT, HE⟩ := FINE.out hl
                clear hl hvp hsp hbp LARGE FINE hsz
                go_enter Try.func20, Try.ntmps20
                go_wp2_with fail
                refine (rholds_any _ _ _ _ hv hs).mono ?_
                rintro e w1 ⟨rfl, hb1⟩
                rw [HH.out]
                go_wp2_with fail
                refine (rabove_any _ _ hb).mono ?_
                rintro e x ⟨rfl, hx⟩
                subst x
                rw [HA.out]
                have c0 := box_fst hb1
                have c1 := box_snd hb1
                go_wp2_with fail
                go_ret2
                exact ⟨ret_two (HX.out.trans HT.out) HE.out, below_box hb1⟩

end Go.Proofs.Ytiepbigibdjfoaa
