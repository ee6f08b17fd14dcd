/-
  Walks: LastIndexByte, isPort, withoutPort, Of.
-/
import Derived.Test.YtlogclpmdaiflaaDoorHWalkC
namespace Go.Proofs.YtlogclpmdaiflaaDoor
open Go Go.RowKit Go.Shelf

def isDig (c : UInt8) : Bool := decide (48 ≤ c.toNat) && decide (c.toNat ≤ 57)
/-- one to five digits -/
def portD (d : List UInt8) : Bool := decide (1 ≤ d.length) && decide (d.length ≤ 5) && d.all isDig
theorem portD_iff {d : List UInt8} : portD d = true ↔ 1 ≤ d.length ∧ d.length ≤ 5 ∧ ∀ x ∈ d, isDig x = true := by
  simp only [portD, Bool.and_eq_true, decide_eq_true_eq, List.all_eq_true, and_assoc]
theorem dig_not_colon {d : List UInt8} (h : ∀ x ∈ d, isDig x = true) : ∀ x ∈ d, x ≠ 58 := by
  rintro x hx rfl
  have := h _ hx
  revert this; decide

set_option maxHeartbeats 400000 in
theorem isPort_any (s : ByteArray) (w : World) (hs : s.size ≤ maxLen) :
    Calls Tryd.prog 50 #[.string s] w fun e w' => e = .returned (.bool (portD s.data.toList)) ∧ w' = w := by
  unfold maxLen at hs
  have hsl : s.data.toList.length = s.size := Array.length_toList
  by_cases h0 : s.size = 0
  · have hb : ((s.size : Int) == 0) = true := by simp [h0]
    have hx : Hid (portD s.data.toList = false) := by simp [Hid, portD, hsl, h0]
    clear hsl
    go_enter Tryd.func50, Tryd.ntmps50
    go_wp2
    all_goals go_ret
    all_goals exact ⟨ret_bool hx.out.symm, rfl⟩
  by_cases h5 : 5 < s.size
  · have hb : ((s.size : Int) == 0) = false := beq_eq_false_iff_ne.2 (by omega)
    have hx : Hid (portD s.data.toList = false) := by
      have : ¬ s.size ≤ 5 := by omega
      simp [Hid, portD, hsl, this]
    clear hsl
    go_enter Tryd.func50, Tryd.ntmps50
    go_wp2
    all_goals go_ret
    all_goals exact ⟨ret_bool hx.out.symm, rfl⟩
  have hb : ((s.size : Int) == 0) = false := beq_eq_false_iff_ne.2 (by omega)
  have hb2 : ¬ ((5 : Int) < s.size) := by omega
  have HSL := hide hsl
  clear hsl
  go_enter Tryd.func50, Tryd.ntmps50
  go_wp2
  go_loop [14] (fun i => ∃ k : Nat, k ≤ s.size ∧ i = .int .i64 k ∧ Hid (∀ j (h : j < s.size), j < k → isDig s[j] = true)) (fun i => s.size - (intOf i).toNat)
  case atStart => exact ⟨0, Nat.zero_le _, rfl, fun j _ hj => by omega⟩
  case round =>
    obtain ⟨k, hk, rfl, hall⟩ := hrel
    by_cases hlt : k < s.size
    · have hk8 := s[k].toNat_lt
      have hlt' : (k : Int) < (s.size : Int) := by omega
      by_cases r1 : (s[k].toNat : Int) < 48
      · have hx : Hid (portD s.data.toList = false) := by
          unfold Hid
          cases hp : portD s.data.toList
          · rfl
          · have := (portD_iff.1 hp).2.2 s[k] (by simp [ByteArray.getElem_eq_getElem_data])
            simp [isDig] at this
            omega
        go_wp2_with fail
        go_ret
        exact ⟨ret_bool hx.out.symm, rfl⟩
      · by_cases r2 : (57 : Int) < (s[k].toNat : Int)
        · have hx : Hid (portD s.data.toList = false) := by
            unfold Hid
            cases hp : portD s.data.toList
            · rfl
            · have := (portD_iff.1 hp).2.2 s[k] (by simp [ByteArray.getElem_eq_getElem_data])
              simp [isDig] at this
              omega
          go_wp2_with fail
          go_ret
          exact ⟨ret_bool hx.out.symm, rfl⟩
        · have HD : Hid (isDig s[k] = true) := by
            simp only [Hid, isDig, Bool.and_eq_true, decide_eq_true_eq]; omega
          go_wp2_with fail
          refine ⟨⟨k + 1, by omega, by go_num, fun j hj hjk => ?_⟩, by simp [intOf]; omega⟩
          by_cases e : j = k
          · subst e; exact HD.out
          · exact hall.out j hj (by omega)
    · have hlt' : ¬ (k : Int) < (s.size : Int) := by omega
      have hx : Hid (portD s.data.toList = true) := by
        refine portD_iff.2 ⟨by rw [HSL.out]; omega, by rw [HSL.out]; omega, fun x hx => ?_⟩
        obtain ⟨j, hj, rfl⟩ := List.getElem_of_mem hx
        have hj' : j < s.size := by rw [← HSL.out]; exact hj
        exact hall.out j hj' (by omega)
      go_wp2_with fail
      go_ret
      exact ⟨ret_bool hx.out.symm, rfl⟩

set_option maxHeartbeats 400000 in
theorem lastIndexByte1_any (s : ByteArray) (c : Int) (w : World) (hs : s.size ≤ maxLen) :
    Calls Tryd.prog 60 #[.string s, .int .u8 c] w fun e w' => e = .returned (.int .i64 (Lib.lastIndexByte s c)) ∧ w' = w := by
  unfold maxLen at hs
  go_enter Tryd.func60, Tryd.ntmps60
  go_wp2
  go_loop [5] (fun i => ∃ k : Nat, k ≤ s.size ∧ i = .int .i64 ((k : Int) - 1) ∧ Hid (Lib.lastIndexByte s c = Lib.lastIdx s c k)) (fun i => (intOf i + 1).toNat)
  case atStart => exact ⟨s.size, Nat.le_refl _, rfl, rfl⟩
  case round =>
    obtain ⟨k, hk, rfl, hall⟩ := hrel
    rcases k with _ | k
    · have h0 : ((0 : Nat) : Int) - 1 = -1 := rfl
      rw [h0]
      go_wp2_with fail
      go_ret
      exact ⟨ret_int hall.out.symm, rfl⟩
    · have h0 : ((k + 1 : Nat) : Int) - 1 = (k : Int) := by omega
      rw [h0]
      have hlt : k < s.size := by omega
      have hat : Hid (((s.data[k]!).toNat : Int) = (s[k].toNat : Int)) := by
        unfold Hid; rw [getElem!_pos s.data k hlt]; rfl
      clear h0
      cases hq : ((s[k].toNat : Int) == c)
      · have hx : Hid (Lib.lastIdx s c (k + 1) = Lib.lastIdx s c k) := Lib.lastIdx_miss s c k (by rw [hat.out]; exact beq_eq_false_iff_ne.1 hq)
        go_wp2_with fail
        refine ⟨⟨k, by omega, rfl, ?_⟩, by simp [intOf]⟩
        unfold Hid
        rw [hall.out, hx.out]
      · have hx : Hid (Lib.lastIdx s c (k + 1) = k) := Lib.lastIdx_hit s c k (by rw [hat.out]; exact beq_iff_eq.1 hq)
        go_wp2_with fail
        go_ret
        exact ⟨ret_int (by rw [hall.out, hx.out]), rfl⟩

set_option maxHeartbeats 400000 in
theorem lastIndexByte_any (s : ByteArray) (c : Int) (w : World) (hs : s.size ≤ maxLen) :
    Calls Tryd.prog 49 #[.string s, .int .u8 c] w fun e w' => e = .returned (.int .i64 (Lib.lastIndexByte s c)) ∧ w' = w := by
  go_enter Tryd.func49, Tryd.ntmps49
  go_wp2_with (go_at_call 60; refine (lastIndexByte1_any _ _ _ hs).mono ?_; rintro e w' ⟨rfl, rfl⟩)
  go_ret
  exact ⟨rfl, rfl⟩

/-- a is l without : and one to five digits at its end, if there are such -/
def Ported (l a : List UInt8) : Prop := (∃ d, portD d = true ∧ l = a ++ 58 :: d) ∨ (a = l ∧ ∀ a' d, portD d = true → l ≠ a' ++ 58 :: d)
theorem ported_ex (l : List UInt8) : ∃ a, Ported l a := by
  by_cases h : ∃ a d, portD d = true ∧ l = a ++ 58 :: d
  · obtain ⟨a, d, h1, h2⟩ := h; exact ⟨a, .inl ⟨d, h1, h2⟩⟩
  · exact ⟨l, .inr ⟨rfl, fun a' d hd e => h ⟨a', d, hd, e⟩⟩⟩
/-- where a text is parted at an octet that is not behind it, in one way alone -/
theorem part_last_one {c : UInt8} {a a' d d' : List UInt8} (h : a ++ c :: d = a' ++ c :: d') (hd : ∀ x ∈ d, x ≠ c) (hd' : ∀ x ∈ d', x ≠ c) : a = a' ∧ d = d' := by
  rcases List.append_eq_append_iff.1 h with ⟨t, h1, h2⟩ | ⟨t, h1, h2⟩
  · cases t with
    | nil => simp at h1 h2; exact ⟨h1.symm, h2⟩
    | cons y t =>
      simp at h2
      exact absurd rfl (hd c (by rw [h2.2]; simp))
  · cases t with
    | nil => simp at h1 h2; exact ⟨h1, h2.symm⟩
    | cons y t =>
      simp at h2
      exact absurd rfl (hd' c (by rw [h2.2]; simp))
theorem ported_one {l a b : List UInt8} (h : Ported l a) (k : Ported l b) : a = b := by
  rcases h with ⟨d, hd, e⟩ | ⟨rfl, hn⟩ <;> rcases k with ⟨d', hd', e'⟩ | ⟨rfl, hn'⟩
  · exact (part_last_one (e.symm.trans e') (dig_not_colon (portD_iff.1 hd).2.2) (dig_not_colon (portD_iff.1 hd').2.2)).1
  · exact absurd e (hn' _ _ hd)
  · exact absurd e' (hn _ _ hd')
  · rfl
theorem ported_len {l a : List UInt8} (h : Ported l a) : a.length ≤ l.length := by
  rcases h with ⟨d, hd, rfl⟩ | ⟨rfl, hn⟩
  · simp
  · exact Nat.le_refl _

theorem data_at (s : ByteArray) (j : Nat) (h : j < s.size) : (((s.data[j]!).toNat : Int)) = ((s.data.toList[j]'(by rw [Array.length_toList]; exact h)).toNat : Int) := by
  rw [getElem!_pos s.data j h]; simp
theorem last_cut (s : ByteArray) : (Lib.lastIndexByte s 58 = -1 ∧ ∀ x ∈ s.data.toList, x ≠ 58) ∨
    ∃ i : Nat, i < s.size ∧ Lib.lastIndexByte s 58 = i ∧ s.data.toList = s.data.toList.take i ++ 58 :: s.data.toList.drop (i + 1) ∧ ∀ x ∈ s.data.toList.drop (i + 1), x ≠ 58 := by
  have hsl : s.data.toList.length = s.size := Array.length_toList
  rcases Lib.lastIndexByte_spec s 58 with ⟨h1, h2⟩ | ⟨i, hi, h1, h2, h3⟩
  · left
    refine ⟨h1, fun x hx e => ?_⟩
    obtain ⟨j, hj, rfl⟩ := List.getElem_of_mem hx
    have hj' : j < s.size := by rw [← hsl]; exact hj
    have := h2 j hj'
    rw [data_at s j hj', e] at this
    exact this rfl
  · right
    refine ⟨i, hi, h1, ?_, fun x hx e => ?_⟩
    · have hc : s.data.toList[i]'(by rw [hsl]; exact hi) = 58 := by
        rw [data_at s i hi] at h2
        apply UInt8.toNat_inj.1
        have : ((58 : UInt8).toNat : Int) = 58 := rfl
        omega
      conv => lhs; rw [← List.take_append_drop i s.data.toList]
      rw [List.drop_eq_getElem_cons (by rw [hsl]; exact hi), hc]
    · obtain ⟨j, hj, rfl⟩ := List.getElem_of_mem hx
      rw [List.length_drop, hsl] at hj
      have hj' : i + 1 + j < s.size := by omega
      have := h3 (i + 1 + j) (by omega) hj'
      rw [data_at s _ hj'] at this
      rw [List.getElem_drop] at e
      rw [e] at this
      exact this rfl

theorem take_data (s : ByteArray) (i : Nat) : (s.extract 0 i).data.toList = s.data.toList.take i := by rw [Lib.extract_data]; simp
theorem drop_data (s : ByteArray) (i : Nat) : (s.extract i s.size).data.toList = s.data.toList.drop i := by
  rw [Lib.extract_data, List.take_of_length_le (by rw [List.length_drop, Lib.size_eq]; omega)]

set_option maxHeartbeats 800000 in
theorem withoutPort_any (s a : ByteArray) (w : World) (hs : s.size ≤ maxLen) (hp : Ported s.data.toList a.data.toList) :
    Calls Tryd.prog 33 #[.string s] w fun e w' => e = .returned (.string a) ∧ w' = w := by
  have hs' := hs
  unfold maxLen at hs'
  rcases last_cut s with ⟨h1, h2⟩ | ⟨i, hi, h1, h2, h3⟩
  · have HA : Hid (s = a) := by
      apply bytes_ext
      refine ported_one (.inr ⟨rfl, fun a' d hd e => ?_⟩) hp
      exact h2 58 (by rw [e]; simp) rfl
    have H1 := hide h1
    clear h1 h2 hp
    go_enter Tryd.func33, Tryd.ntmps33
    go_wp2_with fail
    refine (lastIndexByte_any _ _ _ hs).mono ?_
    rintro e x ⟨rfl, rfl⟩
    rw [H1.out]
    go_wp2_with fail
    go_ret
    exact ⟨ret_str HA.out, rfl⟩
  · have hl : (s.extract (i + 1) s.size).size ≤ maxLen := by rw [ByteArray.size_extract]; omega
    have hdd := drop_data s (i + 1)
    cases hd : portD (s.extract (i + 1) s.size).data.toList
    · have HA : Hid (s = a) := by
        apply bytes_ext
        refine ported_one (.inr ⟨rfl, fun a' d hd' e => ?_⟩) hp
        have := part_last_one (h2.symm.trans e) h3 (dig_not_colon (portD_iff.1 hd').2.2)
        rw [hdd, this.2, hd'] at hd
        cases hd
      have H1 := hide h1
      have HD := hide hd
      clear h1 h2 h3 hp hdd hd
      go_enter Tryd.func33, Tryd.ntmps33
      go_wp2_with fail
      refine (lastIndexByte_any _ _ _ hs).mono ?_
      rintro e x ⟨rfl, rfl⟩
      rw [H1.out]
      go_wp2_with fail
      refine (isPort_any _ _ hl).mono ?_
      rintro e x ⟨rfl, rfl⟩
      rw [HD.out]
      go_wp2_with fail
      go_ret
      exact ⟨ret_str HA.out, rfl⟩
    · have HA : Hid (s.extract 0 i = a) := by
        apply bytes_ext
        rw [take_data]
        refine ported_one (.inl ⟨_, ?_, h2⟩) hp
        rw [← hdd]; exact hd
      have H1 := hide h1
      have HD := hide hd
      clear h1 h2 h3 hp hdd hd
      go_enter Tryd.func33, Tryd.ntmps33
      go_wp2_with fail
      refine (lastIndexByte_any _ _ _ hs).mono ?_
      rintro e x ⟨rfl, rfl⟩
      rw [H1.out]
      go_wp2_with fail
      refine (isPort_any _ _ hl).mono ?_
      rintro e x ⟨rfl, rfl⟩
      rw [HD.out]
      go_wp2_with fail
      go_ret
      exact ⟨ret_str HA.out, rfl⟩

abbrev dot1 : ByteArray := ⟨#[46]⟩
theorem dot1_len : dot1.size ≤ maxLen := by unfold maxLen; decide

/-- h is the host that s is asked for -/
def Asked (s h : ByteArray) : Prop := ∃ a : ByteArray, Ported (foldB s).data.toList a.data.toList ∧ h = trimS a ⟨#[46]⟩
theorem asked_ex (s : ByteArray) : ∃ h, Asked s h := by
  obtain ⟨a, ha⟩ := ported_ex (foldB s).data.toList
  exact ⟨_, ⟨a.toArray⟩, by simpa using ha, rfl⟩
theorem asked_len {s h : ByteArray} (hh : Asked s h) : h.size ≤ s.size := by
  obtain ⟨a, ha, rfl⟩ := hh
  have h1 := ported_len ha
  rw [← Lib.size_eq, ← Lib.size_eq, foldB_size] at h1
  exact Nat.le_trans (trimS_le a _) h1

set_option maxHeartbeats 400000 in
theorem hof_yes (s h : ByteArray) (w : World) (hs : s.size ≤ maxLen) (hh : Asked s h) (hn : D.isName h.data.toList = true) :
    Calls Tryd.prog 19 #[.string s] w fun e w' => e = .returned (.tuple #[.string h, .int .i64 0]) ∧ Below w.heap.size w w' := by
  have hl := Nat.le_trans (asked_len hh) hs
  obtain ⟨a, ha, he⟩ := hh
  have lf : (foldB s).size ≤ maxLen := by rw [foldB_size]; exact hs
  have la : a.size ≤ maxLen := by
    have h1 := ported_len ha
    rw [← Lib.size_eq, ← Lib.size_eq] at h1
    exact Nat.le_trans h1 lf
  have HE := hide he
  have HN := hide hn
  have HA := hide ha
  clear he hn ha
  go_enter Tryd.func19, Tryd.ntmps19
  go_wp2_with fail
  refine (foldB_any _ _ hs).mono ?_
  rintro e w1 ⟨rfl, hb1⟩
  go_wp2_with fail
  refine (withoutPort_any _ _ _ lf HA.out).mono ?_
  rintro e x ⟨rfl, rfl⟩
  go_wp2_with fail
  refine (trimSuffix_any _ _ _ la dot1_len).mono ?_
  rintro e x ⟨rfl, rfl⟩
  rw [← HE.out]
  go_wp2_with fail
  refine (name_any _ _ hl).mono ?_
  rintro e w2 ⟨rfl, hb2⟩
  rw [HN.out]
  go_wp2_with fail
  go_ret2
  exact ⟨rfl, hb1.trans (hb2.mono hb1.size)⟩

set_option maxHeartbeats 400000 in
theorem hof_no (s h : ByteArray) (w : World) (hs : s.size ≤ maxLen) (hh : Asked s h) (hn : D.isName h.data.toList = false) :
    Calls Tryd.prog 19 #[.string s] w fun e w' => e = .returned (.tuple #[.string ⟨#[]⟩, .int .i64 2]) ∧ Below w.heap.size w w' := by
  have hl := Nat.le_trans (asked_len hh) hs
  obtain ⟨a, ha, he⟩ := hh
  have lf : (foldB s).size ≤ maxLen := by rw [foldB_size]; exact hs
  have la : a.size ≤ maxLen := by
    have h1 := ported_len ha
    rw [← Lib.size_eq, ← Lib.size_eq] at h1
    exact Nat.le_trans h1 lf
  have HE := hide he
  have HN := hide hn
  have HA := hide ha
  clear he hn ha
  go_enter Tryd.func19, Tryd.ntmps19
  go_wp2_with fail
  refine (foldB_any _ _ hs).mono ?_
  rintro e w1 ⟨rfl, hb1⟩
  go_wp2_with fail
  refine (withoutPort_any _ _ _ lf HA.out).mono ?_
  rintro e x ⟨rfl, rfl⟩
  go_wp2_with fail
  refine (trimSuffix_any _ _ _ la dot1_len).mono ?_
  rintro e x ⟨rfl, rfl⟩
  rw [← HE.out]
  go_wp2_with fail
  refine (name_any _ _ hl).mono ?_
  rintro e w2 ⟨rfl, hb2⟩
  rw [HN.out]
  go_wp2_with fail
  go_ret2
  exact ⟨rfl, hb1.trans (hb2.mono hb1.size)⟩

end Go.Proofs.YtlogclpmdaiflaaDoor
