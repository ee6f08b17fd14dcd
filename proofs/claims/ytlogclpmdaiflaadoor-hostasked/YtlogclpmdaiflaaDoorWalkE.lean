/-
  Walks: maySpace, strings.HasSuffix, strings.Cut, Key, Cut, Under.
-/
import Derived.Test.YtlogclpmdaiflaaDoorWalkD
namespace Go.Proofs.YtlogclpmdaiflaaDoor
open Go Go.RowKit Go.Shelf

set_option maxHeartbeats 400000 in
theorem hasSuffix1_any (s p : ByteArray) (w : World) (hs : s.size ≤ maxLen) (hp : p.size ≤ maxLen) :
    Calls Tryd.prog 59 #[.string s, .string p] w fun e w' => e = .returned (.bool (Lib.hasSuffix s.data.toList p.data.toList)) ∧ w' = w := by
  have hx := hide (Lib.hasSuffix_raw s p)
  unfold maxLen at hs hp
  by_cases hle : p.size ≤ s.size
  · go_enter Tryd.func59, Tryd.ntmps59
    go_wp2
    go_ret
    refine ⟨ret_bool ?_, rfl⟩
    rw [← hx.out, decide_eq_true hle, Bool.true_and]
  · go_enter Tryd.func59, Tryd.ntmps59
    go_wp2
    go_ret
    refine ⟨ret_bool ?_, rfl⟩
    rw [← hx.out, decide_eq_false hle, Bool.false_and]

set_option maxHeartbeats 400000 in
theorem hasSuffix_any (s p : ByteArray) (w : World) (hs : s.size ≤ maxLen) (hp : p.size ≤ maxLen) :
    Calls Tryd.prog 58 #[.string s, .string p] w fun e w' => e = .returned (.bool (Lib.hasSuffix s.data.toList p.data.toList)) ∧ w' = w := by
  go_enter Tryd.func58, Tryd.ntmps58
  go_wp2_with (go_at_call 59; refine (hasSuffix1_any _ _ _ hs hp).mono ?_; rintro e w' ⟨rfl, rfl⟩)
  go_ret
  exact ⟨rfl, rfl⟩

theorem label_len {s : ByteArray} (h : D.isLabel s.data.toList = true) : s.size ≤ 20 := by
  simp only [D.isLabel, Bool.and_eq_true, decide_eq_true_eq] at h
  have := h.1.1.1.2
  rwa [Array.length_toList] at this
theorem maySp_len {s : ByteArray} (h : D.maySp s.data.toList = true) : s.size ≤ 20 := by
  unfold D.maySp at h
  rcases Bool.or_eq_true _ _ ▸ h with h | h
  · have h0 := List.isEmpty_iff.1 h
    show s.data.size ≤ 20
    rw [← Array.length_toList, h0]
    simp
  · exact label_len h
theorem isName_len {s : ByteArray} (h : D.isName s.data.toList = true) : s.size ≤ 60 := by
  simp only [D.isName, Bool.and_eq_true, decide_eq_true_eq] at h
  have := h.1
  rwa [Array.length_toList] at this

/-- what Cut says of a key: the document's answer on lists -/
def cutOf (l : List UInt8) : Option (List UInt8 × List UInt8) :=
  match D.spl 47 l with
  | [a, b] => if D.maySp a && D.isName b then some (a, b) else none
  | _ => none

def under (a b : List UInt8) : Bool := D.isName a && D.isName b && Lib.hasSuffix a (46 :: b)

theorem dot_data (b : ByteArray) : ((⟨#[46]⟩ : ByteArray) ++ b).data.toList = 46 :: b.data.toList := by
  simp [ByteArray.data_append]

set_option maxHeartbeats 400000 in
theorem under_any (a b : ByteArray) (w : World) (ha : a.size ≤ maxLen) (hb : b.size ≤ maxLen) :
    Calls Tryd.prog 47 #[.string a, .string b] w fun e w' => e = .returned (.bool (under a.data.toList b.data.toList)) ∧ Below w.heap.size w w' := by
  have HU : Hid (under a.data.toList b.data.toList = (D.isName a.data.toList && D.isName b.data.toList && Lib.hasSuffix a.data.toList (46 :: b.data.toList))) := rfl
  cases h1 : D.isName a.data.toList
  · have H1 := hide h1
    clear h1
    go_enter Tryd.func47, Tryd.ntmps47
    go_wp2_with fail
    refine (name_any _ _ ha).mono ?_
    rintro e w1 ⟨rfl, hb1⟩
    rw [H1.out]
    go_wp2_with fail
    go_ret
    exact ⟨ret_bool (by rw [HU.out, H1.out]; rfl), hb1⟩
  · cases h2 : D.isName b.data.toList
    · have H1 := hide h1
      have H2 := hide h2
      clear h1 h2
      go_enter Tryd.func47, Tryd.ntmps47
      go_wp2_with fail
      refine (name_any _ _ ha).mono ?_
      rintro e w1 ⟨rfl, hb1⟩
      rw [H1.out]
      go_wp2_with fail
      refine (name_any _ _ hb).mono ?_
      rintro e w2 ⟨rfl, hb2⟩
      rw [H2.out]
      go_wp2_with fail
      go_ret
      exact ⟨ret_bool (by rw [HU.out, H1.out, H2.out]; rfl), hb1.trans (hb2.mono hb1.size)⟩
    · have l1 := isName_len h1
      have l2 := isName_len h2
      have H1 := hide h1
      have H2 := hide h2
      clear h1 h2
      have l3 : ((⟨#[46]⟩ : ByteArray) ++ b).size ≤ maxLen := by
        rw [ByteArray.size_append]
        show 1 + b.size ≤ maxLen
        unfold maxLen
        omega
      go_enter Tryd.func47, Tryd.ntmps47
      go_wp2_with fail
      refine (name_any _ _ ha).mono ?_
      rintro e w1 ⟨rfl, hb1⟩
      rw [H1.out]
      go_wp2_with fail
      refine (name_any _ _ hb).mono ?_
      rintro e w2 ⟨rfl, hb2⟩
      rw [H2.out]
      go_wp2_with fail
      refine (hasSuffix_any _ _ _ ha l3).mono ?_
      rintro e w3 ⟨rfl, rfl⟩
      go_wp2_with fail
      go_ret
      exact ⟨ret_bool (by rw [HU.out, H1.out, H2.out]; rfl), hb1.trans (hb2.mono hb1.size)⟩

end Go.Proofs.YtlogclpmdaiflaaDoor
