/-
  The plain mathematics of hosts' patterns: lists of octets. Of the program nothing is used here but what is under what.
-/
import Derived.Test.YthnodpdiocppgaaGreatDoorJ6
import Derived.Lib.LastIndexByte
namespace Go.Proofs.YthnodpdiocppgaaGreatDoor
set_option maxRecDepth 20000
open Go

/-- begins with *. -/
def isW (l : List UInt8) : Bool := Lib.hasPrefix l [42, 46]
/-- without *. ahead -/
def tp (l : List UInt8) : List UInt8 := Lib.trimPrefix l [42, 46]
def may (l : List UInt8) : Bool := l.isEmpty || (decide (l.length ≤ 60) && D.isName (tp l))
def within (a b : List UInt8) : Bool := b.isEmpty || a == b || (isW b && under (tp a) (tp b))
def holds (p h : List UInt8) : Bool := may p && D.isName h && within h p
/-- of what form, and how long -/
def kd (l : List UInt8) : Int := if l.isEmpty then 2 else if isW l then 1 else 0
end Go.Proofs.YthnodpdiocppgaaGreatDoor
namespace Go.Proofs.YthnodpdiocppgaaGreatDoor
set_option maxRecDepth 20000
open Go Go.RowKit Go.Shelf

/-- a text without what it begins with -/
def trimP (s p : ByteArray) : ByteArray := ⟨(Lib.trimPrefix s.data.toList p.data.toList).toArray⟩
theorem trimP_data (s p : ByteArray) : (trimP s p).data.toList = Lib.trimPrefix s.data.toList p.data.toList := by simp [trimP]
theorem trimP_le (s p : ByteArray) : (trimP s p).size ≤ s.size := by
  have := Lib.trimPrefix_le s.data.toList p.data.toList
  rw [← trimP_data, ← Lib.size_eq, ← Lib.size_eq] at this
  exact this
theorem hasP_le {s p : ByteArray} (h : Lib.hasPrefix s.data.toList p.data.toList = true) : p.size ≤ s.size := by
  rw [← Lib.hasPrefix_raw, Bool.and_eq_true, decide_eq_true_eq] at h; exact h.1
theorem trimP_hit {s p : ByteArray} (h : Lib.hasPrefix s.data.toList p.data.toList = true) : s.extract p.size s.size = trimP s p := by
  have h' := h
  rw [← Lib.hasPrefix_raw, Bool.and_eq_true, decide_eq_true_eq] at h'
  exact (Lib.trimPrefix_hit s p h'.1 h'.2).symm
theorem trimP_miss {s p : ByteArray} (h : Lib.hasPrefix s.data.toList p.data.toList = false) : s = trimP s p :=
  (Lib.trimPrefix_miss s p (by rw [Lib.hasPrefix_raw]; exact h)).symm
set_option maxHeartbeats 400000 in
theorem trimPrefix1_any (s p : ByteArray) (w : World) (hs : s.size ≤ maxLen) (hp : p.size ≤ maxLen) :
    Calls Tryz.prog 206 #[.string s, .string p] w fun e w' => e = .returned (.string (trimP s p)) ∧ w' = w := by
  cases h : Lib.hasPrefix s.data.toList p.data.toList
  · have HX := hide (trimP_miss h)
    have H := hide h
    clear h
    go_enter Tryz.func206, Tryz.ntmps206
    go_wp2_with fail
    refine (hasPrefix1_any _ _ _ hs hp).mono ?_
    rintro e x ⟨rfl, rfl⟩
    rw [H.out]
    go_wp2_with fail
    go_ret
    exact ⟨ret_str HX.out, rfl⟩
  · have HX := hide (trimP_hit h)
    have hle := hasP_le h
    have H := hide h
    clear h
    have hs' := hs
    have hp' := hp
    unfold maxLen at hs' hp'
    go_enter Tryz.func206, Tryz.ntmps206
    go_wp2_with fail
    refine (hasPrefix1_any _ _ _ hs hp).mono ?_
    rintro e x ⟨rfl, rfl⟩
    rw [H.out]
    go_wp2_with fail
    go_ret
    exact ⟨ret_str HX.out, rfl⟩

set_option maxHeartbeats 400000 in
theorem trimPrefix_any (s p : ByteArray) (w : World) (hs : s.size ≤ maxLen) (hp : p.size ≤ maxLen) :
    Calls Tryz.prog 181 #[.string s, .string p] w fun e w' => e = .returned (.string (trimP s p)) ∧ w' = w := by
  go_enter Tryz.func181, Tryz.ntmps181
  go_wp2_with (go_at_call 206; refine (trimPrefix1_any _ _ _ hs hp).mono ?_; rintro e w' ⟨rfl, rfl⟩)
  go_ret
  exact ⟨rfl, rfl⟩

end Go.Proofs.YthnodpdiocppgaaGreatDoor
namespace Go.Proofs.YthnodpdiocppgaaGreatDoor
set_option maxRecDepth 20000
open Go Go.RowKit Go.Shelf

abbrev starDot : ByteArray := ⟨#[42, 46]⟩
theorem star_len : starDot.size ≤ maxLen := by unfold maxLen; decide
theorem tpB_data (s : ByteArray) : (trimP s ⟨#[42, 46]⟩).data.toList = tp s.data.toList := trimP_data s _
theorem empty_iff (s : ByteArray) : s.data.toList.isEmpty = s.toList.isEmpty := by rw [Lib.toList_data]

set_option maxHeartbeats 400000 in
theorem hmay_any (s : ByteArray) (w : World) (hs : s.size ≤ maxLen) :
    Calls Tryz.prog 141 #[.string s] w fun e w' => e = .returned (.bool (may s.data.toList)) ∧ Below w.heap.size w w' := by
  have HM : Hid (may s.data.toList = (s.data.toList.isEmpty || (decide (s.data.toList.length ≤ 60) && D.isName (trimP s ⟨#[42, 46]⟩).data.toList))) := by
    unfold Hid; rw [tpB_data]; rfl
  have hsl : s.data.toList.length = s.size := Array.length_toList
  cases h : s.toList.isEmpty
  · by_cases h60 : s.size ≤ 60
    · have lt := Nat.le_trans (trimP_le s ⟨#[42, 46]⟩) hs
      have HE : Hid (D.isName (trimP s ⟨#[42, 46]⟩).data.toList = may s.data.toList) := by
        unfold Hid; rw [HM.out, empty_iff, h, hsl, decide_eq_true h60]; rfl
      have h60' : (s.size : Int) ≤ 60 := by omega
      clear hsl
      go_enter Tryz.func141, Tryz.ntmps141
      go_wp2_with fail
      refine (trimPrefix_any _ _ _ hs star_len).mono ?_
      rintro e x ⟨rfl, rfl⟩
      go_wp2_with fail
      refine (name_any _ _ lt).mono ?_
      rintro e x ⟨rfl, hb⟩
      go_wp2_with fail
      go_ret
      exact ⟨ret_bool HE.out, hb⟩
    · have HE : Hid (may s.data.toList = false) := by
        unfold Hid; rw [HM.out, empty_iff, h, hsl, decide_eq_false h60]; rfl
      have h60' : ¬ (s.size : Int) ≤ 60 := by omega
      clear hsl
      go_enter Tryz.func141, Tryz.ntmps141
      go_wp2_with fail
      go_ret
      exact ⟨ret_bool HE.out.symm, Below.refl _ _⟩
  · have HE : Hid (may s.data.toList = true) := by
      unfold Hid; rw [HM.out, empty_iff, h]; rfl
    clear hsl
    go_enter Tryz.func141, Tryz.ntmps141
    go_wp2_with fail
    go_ret
    exact ⟨ret_bool HE.out.symm, Below.refl _ _⟩

end Go.Proofs.YthnodpdiocppgaaGreatDoor
