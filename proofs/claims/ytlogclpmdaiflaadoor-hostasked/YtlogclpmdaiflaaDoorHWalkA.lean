/-
  Walks of the library's functions: HasPrefix, TrimPrefix, CutPrefix, TrimSuffix, Compare, LastIndexByte; cmp.Compare and cmp.Or at int.
-/
import Derived.Test.YtlogclpmdaiflaaDoorHPlain
import Derived.Lib.LastIndexByte
namespace Go.Proofs.YtlogclpmdaiflaaDoor
open Go Go.RowKit Go.Shelf

theorem ret_str {a b : ByteArray} (h : a = b) : Ending.returned (.string a) = .returned (.string b) := by rw [h]
theorem mk_data' (l : List UInt8) : (⟨l.toArray⟩ : ByteArray).data.toList = l := by simp
theorem ba_size (l : List UInt8) : (⟨l.toArray⟩ : ByteArray).size = l.length := rfl

set_option maxHeartbeats 400000 in
theorem hasPrefix1_any (s p : ByteArray) (w : World) (_hs : s.size ≤ maxLen) (_hp : p.size ≤ maxLen) :
    Calls Tryd.prog 56 #[.string s, .string p] w fun e w' => e = .returned (.bool (Lib.hasPrefix s.data.toList p.data.toList)) ∧ w' = w := by
  have hx := hide (Lib.hasPrefix_raw s p)
  by_cases hle : p.size ≤ s.size
  · go_enter Tryd.func56, Tryd.ntmps56
    go_wp2
    go_ret
    refine ⟨ret_bool ?_, rfl⟩
    rw [← hx.out, decide_eq_true hle, Bool.true_and]
  · go_enter Tryd.func56, Tryd.ntmps56
    go_wp2
    go_ret
    refine ⟨ret_bool ?_, rfl⟩
    rw [← hx.out, decide_eq_false hle, Bool.false_and]

set_option maxHeartbeats 400000 in
theorem hasPrefix_any (s p : ByteArray) (w : World) (hs : s.size ≤ maxLen) (hp : p.size ≤ maxLen) :
    Calls Tryd.prog 51 #[.string s, .string p] w fun e w' => e = .returned (.bool (Lib.hasPrefix s.data.toList p.data.toList)) ∧ w' = w := by
  go_enter Tryd.func51, Tryd.ntmps51
  go_wp2_with (go_at_call 56; refine (hasPrefix1_any _ _ _ hs hp).mono ?_; rintro e w' ⟨rfl, rfl⟩)
  go_ret
  exact ⟨rfl, rfl⟩

/-- a text without what it begins with -/
def trimP (s p : ByteArray) : ByteArray := ⟨(Lib.trimPrefix s.data.toList p.data.toList).toArray⟩
def trimS (s p : ByteArray) : ByteArray := ⟨(Lib.trimSuffix s.data.toList p.data.toList).toArray⟩
theorem trimP_data (s p : ByteArray) : (trimP s p).data.toList = Lib.trimPrefix s.data.toList p.data.toList := by simp [trimP]
theorem trimS_data (s p : ByteArray) : (trimS s p).data.toList = Lib.trimSuffix s.data.toList p.data.toList := by simp [trimS]
theorem trimP_le (s p : ByteArray) : (trimP s p).size ≤ s.size := by
  have := Lib.trimPrefix_le s.data.toList p.data.toList
  rw [← trimP_data, ← Lib.size_eq, ← Lib.size_eq] at this
  exact this
theorem trimS_le (s p : ByteArray) : (trimS s p).size ≤ s.size := by
  have := Lib.trimSuffix_le s.data.toList p.data.toList
  rw [← trimS_data, ← Lib.size_eq, ← Lib.size_eq] at this
  exact this
theorem hasP_le {s p : ByteArray} (h : Lib.hasPrefix s.data.toList p.data.toList = true) : p.size ≤ s.size := by
  rw [← Lib.hasPrefix_raw, Bool.and_eq_true, decide_eq_true_eq] at h; exact h.1
theorem hasS_le {s p : ByteArray} (h : Lib.hasSuffix s.data.toList p.data.toList = true) : p.size ≤ s.size := by
  rw [← Lib.hasSuffix_raw, Bool.and_eq_true, decide_eq_true_eq] at h; exact h.1
theorem trimP_hit {s p : ByteArray} (h : Lib.hasPrefix s.data.toList p.data.toList = true) : s.extract p.size s.size = trimP s p := by
  have h' := h
  rw [← Lib.hasPrefix_raw, Bool.and_eq_true, decide_eq_true_eq] at h'
  exact (Lib.trimPrefix_hit s p h'.1 h'.2).symm
theorem trimP_miss {s p : ByteArray} (h : Lib.hasPrefix s.data.toList p.data.toList = false) : s = trimP s p :=
  (Lib.trimPrefix_miss s p (by rw [Lib.hasPrefix_raw]; exact h)).symm
theorem trimS_hit {s p : ByteArray} (h : Lib.hasSuffix s.data.toList p.data.toList = true) : s.extract 0 (s.size - p.size) = trimS s p := by
  have h' := h
  rw [← Lib.hasSuffix_raw, Bool.and_eq_true, decide_eq_true_eq] at h'
  exact (Lib.trimSuffix_hit s p h'.1 h'.2).symm
theorem trimS_miss {s p : ByteArray} (h : Lib.hasSuffix s.data.toList p.data.toList = false) : s = trimS s p :=
  (Lib.trimSuffix_miss s p (by rw [Lib.hasSuffix_raw]; exact h)).symm

set_option maxHeartbeats 400000 in
theorem trimPrefix1_any (s p : ByteArray) (w : World) (hs : s.size ≤ maxLen) (hp : p.size ≤ maxLen) :
    Calls Tryd.prog 45 #[.string s, .string p] w fun e w' => e = .returned (.string (trimP s p)) ∧ w' = w := by
  cases h : Lib.hasPrefix s.data.toList p.data.toList
  · have HX := hide (trimP_miss h)
    have H := hide h
    clear h
    go_enter Tryd.func45, Tryd.ntmps45
    go_wp2_with fail
    refine (hasPrefix1_any _ _ _ hs hp).mono ?_
    rintro e x ⟨rfl, rfl⟩
    rw [H.out]
    go_wp2_with fail
    go_ret
    exact ⟨ret_str HX.out, rfl⟩
  · have HX := hide (trimP_hit h)
    have hle := hasP_le h
    have H := hide h
    clear h
    have hs' := hs
    have hp' := hp
    unfold maxLen at hs' hp'
    go_enter Tryd.func45, Tryd.ntmps45
    go_wp2_with fail
    refine (hasPrefix1_any _ _ _ hs hp).mono ?_
    rintro e x ⟨rfl, rfl⟩
    rw [H.out]
    go_wp2_with fail
    go_ret
    exact ⟨ret_str HX.out, rfl⟩

set_option maxHeartbeats 400000 in
theorem trimPrefix_any (s p : ByteArray) (w : World) (hs : s.size ≤ maxLen) (hp : p.size ≤ maxLen) :
    Calls Tryd.prog 28 #[.string s, .string p] w fun e w' => e = .returned (.string (trimP s p)) ∧ w' = w := by
  go_enter Tryd.func28, Tryd.ntmps28
  go_wp2_with (go_at_call 45; refine (trimPrefix1_any _ _ _ hs hp).mono ?_; rintro e w' ⟨rfl, rfl⟩)
  go_ret
  exact ⟨rfl, rfl⟩

set_option maxHeartbeats 400000 in
theorem cutPrefix1_any (s p : ByteArray) (w : World) (hs : s.size ≤ maxLen) (hp : p.size ≤ maxLen) :
    Calls Tryd.prog 57 #[.string s, .string p] w fun e w' => e = .returned (.tuple #[.string (trimP s p), .bool (Lib.hasPrefix s.data.toList p.data.toList)]) ∧ w' = w := by
  cases h : Lib.hasPrefix s.data.toList p.data.toList
  · have HX := hide (trimP_miss h)
    have H := hide h
    clear h
    go_enter Tryd.func57, Tryd.ntmps57
    go_wp2_with fail
    refine (hasPrefix1_any _ _ _ hs hp).mono ?_
    rintro e x ⟨rfl, rfl⟩
    rw [H.out]
    go_wp2_with fail
    go_ret2
    exact ⟨by rw [← HX.out]; rfl, rfl⟩
  · have HX := hide (trimP_hit h)
    have hle := hasP_le h
    have H := hide h
    clear h
    have hs' := hs
    have hp' := hp
    unfold maxLen at hs' hp'
    go_enter Tryd.func57, Tryd.ntmps57
    go_wp2_with fail
    refine (hasPrefix1_any _ _ _ hs hp).mono ?_
    rintro e x ⟨rfl, rfl⟩
    rw [H.out]
    go_wp2_with fail
    go_ret2
    exact ⟨by rw [← HX.out]; rfl, rfl⟩

set_option maxHeartbeats 400000 in
theorem cutPrefix_any (s p : ByteArray) (w : World) (hs : s.size ≤ maxLen) (hp : p.size ≤ maxLen) :
    Calls Tryd.prog 46 #[.string s, .string p] w fun e w' => e = .returned (.tuple #[.string (trimP s p), .bool (Lib.hasPrefix s.data.toList p.data.toList)]) ∧ w' = w := by
  go_enter Tryd.func46, Tryd.ntmps46
  go_wp2_with (go_at_call 57; refine (cutPrefix1_any _ _ _ hs hp).mono ?_; rintro e w' ⟨rfl, rfl⟩)
  go_ret2
  exact ⟨rfl, rfl⟩

set_option maxHeartbeats 400000 in
theorem trimSuffix1_any (s p : ByteArray) (w : World) (hs : s.size ≤ maxLen) (hp : p.size ≤ maxLen) :
    Calls Tryd.prog 48 #[.string s, .string p] w fun e w' => e = .returned (.string (trimS s p)) ∧ w' = w := by
  cases h : Lib.hasSuffix s.data.toList p.data.toList
  · have HX := hide (trimS_miss h)
    have H := hide h
    clear h
    go_enter Tryd.func48, Tryd.ntmps48
    go_wp2_with fail
    refine (hasSuffix1_any _ _ _ hs hp).mono ?_
    rintro e x ⟨rfl, rfl⟩
    rw [H.out]
    go_wp2_with fail
    go_ret
    exact ⟨ret_str HX.out, rfl⟩
  · have HX := hide (trimS_hit h)
    have hle := hasS_le h
    have H := hide h
    clear h
    have hs' := hs
    have hp' := hp
    unfold maxLen at hs' hp'
    go_enter Tryd.func48, Tryd.ntmps48
    go_wp2_with fail
    refine (hasSuffix1_any _ _ _ hs hp).mono ?_
    rintro e x ⟨rfl, rfl⟩
    rw [H.out]
    go_wp2_with fail
    go_ret
    exact ⟨ret_str HX.out, rfl⟩

set_option maxHeartbeats 400000 in
theorem trimSuffix_any (s p : ByteArray) (w : World) (hs : s.size ≤ maxLen) (hp : p.size ≤ maxLen) :
    Calls Tryd.prog 32 #[.string s, .string p] w fun e w' => e = .returned (.string (trimS s p)) ∧ w' = w := by
  go_enter Tryd.func32, Tryd.ntmps32
  go_wp2_with (go_at_call 48; refine (trimSuffix1_any _ _ _ hs hp).mono ?_; rintro e w' ⟨rfl, rfl⟩)
  go_ret
  exact ⟨rfl, rfl⟩

set_option maxHeartbeats 400000 in
theorem compareString_any (a b : ByteArray) (w : World) :
    Calls Tryd.prog 52 #[.string a, .string b] w fun e w' => e = .returned (.int .i64 (Lib.compareBytes a.data.toList b.data.toList)) ∧ w' = w := by
  go_enter Tryd.func52, Tryd.ntmps52
  go_wp2
  rw [run_callFunc_extern Tryd.func61 (by kernel_rfl) (by kernel_rfl) (by kernel_rfl) (e := Extern.BytealgCompare.compare) (by kernel_rfl), Lib.run_compareString]
  simp only [Result.andThen]
  rw [Oper.upon_value]
  go_wp2
  go_ret
  exact ⟨rfl, rfl⟩

set_option maxHeartbeats 400000 in
theorem compare_any (a b : ByteArray) (w : World) :
    Calls Tryd.prog 37 #[.string a, .string b] w fun e w' => e = .returned (.int .i64 (Lib.compareBytes a.data.toList b.data.toList)) ∧ w' = w := by
  go_enter Tryd.func37, Tryd.ntmps37
  go_wp2_with (go_at_call 52; refine (compareString_any _ _ _).mono ?_; rintro e w' ⟨rfl, rfl⟩)
  go_ret
  exact ⟨rfl, rfl⟩

set_option maxHeartbeats 400000 in
theorem isNaN_any (a : Int) (w : World) :
    Calls Tryd.prog 53 #[.int .i64 a] w fun e w' => e = .returned (.bool false) ∧ w' = w := by
  go_enter Tryd.func53, Tryd.ntmps53
  go_wp2
  go_ret
  exact ⟨ret_bool (by simp), rfl⟩

set_option maxHeartbeats 400000 in
theorem cmpCompare_any (a b : Int) (w : World) :
    Calls Tryd.prog 39 #[.int .i64 a, .int .i64 b] w fun e w' => e = .returned (.int .i64 (cmpI a b)) ∧ w' = w := by
  by_cases h1 : a < b
  · have hx : Hid (cmpI a b = -1) := by simp [Hid, cmpI, h1]
    go_enter Tryd.func39, Tryd.ntmps39
    go_wp2_with (go_at_call 53; refine (isNaN_any _ _).mono ?_; rintro e w' ⟨rfl, rfl⟩)
    go_ret
    exact ⟨ret_int hx.out.symm, rfl⟩
  · by_cases h2 : b < a
    · have hx : Hid (cmpI a b = 1) := by simp [Hid, cmpI, h1, h2]
      go_enter Tryd.func39, Tryd.ntmps39
      go_wp2_with (go_at_call 53; refine (isNaN_any _ _).mono ?_; rintro e w' ⟨rfl, rfl⟩)
      go_ret
      exact ⟨ret_int hx.out.symm, rfl⟩
    · have hx : Hid (cmpI a b = 0) := by simp [Hid, cmpI, h1, h2]
      go_enter Tryd.func39, Tryd.ntmps39
      go_wp2_with (go_at_call 53; refine (isNaN_any _ _).mono ?_; rintro e w' ⟨rfl, rfl⟩)
      go_ret
      exact ⟨ret_int hx.out.symm, rfl⟩

/-- the first of two that is not 0 -/
def orI (x y : Int) : Int := if x = 0 then y else x

set_option maxHeartbeats 400000 in
theorem cmpOr_any (x y : Int) (g : Nat) (w : World) (h0 : w.cell? ⟨g, 0, none⟩ = some (.int .i64 x)) (h1 : w.cell? ⟨g, 1, none⟩ = some (.int .i64 y)) :
    Calls Tryd.prog 38 #[.slice (some ⟨g, 0, none⟩) 2 2] w fun e w' => e = .returned (.int .i64 (orI x y)) ∧ w' = w := by
  go_enter Tryd.func38, Tryd.ntmps38
  go_wp2
  go_loop [8] (fun i => ∃ k : Nat, k ≤ 2 ∧ i = .int .i64 k ∧ (1 ≤ k → Hid (x = 0)) ∧ (2 ≤ k → Hid (y = 0))) (fun i => 2 - (intOf i).toNat)
  case atStart => exact ⟨0, by omega, rfl, fun h => absurd h (by omega), fun h => absurd h (by omega)⟩
  case round =>
    obtain ⟨k, hk, rfl, hx, hy⟩ := hrel
    rcases k with _ | _ | k
    · clear hx hy
      cases hq : (x != 0)
      · have HX : Hid (x = 0) := by simpa [Hid] using hq
        go_wp2
        go_round
        case rel => exact ⟨1, by omega, rfl, fun _ => HX, fun h => absurd h (by omega)⟩
        case measure => simp [intOf]
      · have HX : Hid (orI x y = x) := by
          have : x ≠ 0 := by simpa using hq
          simp [Hid, orI, this]
        go_wp2
        go_ret
        exact ⟨ret_int HX.out.symm, rfl⟩
    · have HX0 := hx (by omega)
      clear hx hy
      cases hq : (y != 0)
      · have HX : Hid (y = 0) := by simpa [Hid] using hq
        go_wp2
        go_round
        case rel => exact ⟨2, by omega, rfl, fun _ => HX0, fun _ => HX⟩
        case measure => simp [intOf]
      · have HX : Hid (orI x y = y) := by simp [Hid, orI, HX0.out]
        go_wp2
        go_ret
        exact ⟨ret_int HX.out.symm, rfl⟩
    · have hk0 : k = 0 := by omega
      subst hk0
      have HX : Hid (orI x y = 0) := by
        have a := (hx (by omega)).out
        have b := (hy (by omega)).out
        simp [Hid, orI, a, b]
      clear hx hy
      go_wp2
      go_ret
      exact ⟨ret_int HX.out.symm, rfl⟩

end Go.Proofs.YtlogclpmdaiflaaDoor
