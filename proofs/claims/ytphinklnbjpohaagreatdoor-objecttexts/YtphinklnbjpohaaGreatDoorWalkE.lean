/-
  Walks: maySpace, strings.HasSuffix, strings.Cut, Key, Cut, Under.
-/
import Derived.Test.YtphinklnbjpohaaGreatDoorWalkD
namespace Go.Proofs.YtphinklnbjpohaaGreatDoor
set_option maxRecDepth 20000
open Go Go.RowKit Go.Shelf

set_option maxHeartbeats 400000 in
theorem maySpace_any (s : ByteArray) (w : World) (hs : s.size ≤ maxLen) :
    Calls Tryz.prog 129 #[.string s] w fun e w' => e = .returned (.bool (D.maySp s.data.toList)) ∧ w' = w := by
  cases h : s.toList.isEmpty
  · have hx : Hid (D.isLabel s.data.toList = D.maySp s.data.toList) := by
      rw [Lib.toList_data] at h
      simp [Hid, D.maySp, h]
    go_enter Tryz.func129, Tryz.ntmps129
    go_wp2_with (go_at_call 89; refine (label_any _ _ hs).mono ?_; rintro e w' ⟨rfl, rfl⟩)
    go_ret
    exact ⟨ret_bool hx.out, rfl⟩
  · have hx : Hid (D.maySp s.data.toList = true) := by
      rw [Lib.toList_data] at h
      simp only [Hid, D.maySp, h, Bool.true_or]
    go_enter Tryz.func129, Tryz.ntmps129
    go_wp2
    go_ret
    exact ⟨ret_bool hx.out.symm, rfl⟩

set_option maxHeartbeats 400000 in
theorem cut1_none (s : ByteArray) (c : UInt8) (w : World) (hi : Lib.indexByte s.data.toList c = -1) :
    Calls Tryz.prog 131 #[.string s, .string ⟨#[c]⟩] w fun e w' => e = .returned (.tuple #[.string s, .string ⟨#[]⟩, .bool false]) ∧ w' = w := by
  have HI := hide hi
  clear hi
  go_enter Tryz.func131, Tryz.ntmps131
  go_wp2_with (go_at_call 195; refine (index1_any _ _ _).mono ?_; rintro e w' ⟨rfl, rfl⟩; rw [HI.out])
  go_ret3
  exact ⟨rfl, rfl⟩

set_option maxHeartbeats 400000 in
theorem cut1_some (s : ByteArray) (c : UInt8) (i : Nat) (w : World) (hs : s.size ≤ maxLen) (hil : i < s.size) (hi : Lib.indexByte s.data.toList c = i) :
    Calls Tryz.prog 131 #[.string s, .string ⟨#[c]⟩] w fun e w' => e = .returned (.tuple #[.string (s.extract 0 i), .string (s.extract (i + 1) s.size), .bool true]) ∧ Below w.heap.size w w' := by
  unfold maxLen at hs
  have HI := hide hi
  clear hi
  go_enter Tryz.func131, Tryz.ntmps131
  go_wp2_with (go_at_call 195; refine (index1_any _ _ _).mono ?_; rintro e w' ⟨rfl, rfl⟩; rw [HI.out])
  go_region
  go_wp2
  go_ret3
  exact ⟨rfl, (Below.refl _ _).drew⟩

set_option maxHeartbeats 400000 in
theorem cut_none (s : ByteArray) (c : UInt8) (w : World) (hi : Lib.indexByte s.data.toList c = -1) :
    Calls Tryz.prog 85 #[.string s, .string ⟨#[c]⟩] w fun e w' => e = .returned (.tuple #[.string s, .string ⟨#[]⟩, .bool false]) ∧ Below w.heap.size w w' := by
  have HI := hide hi
  clear hi
  go_enter Tryz.func85, Tryz.ntmps85
  go_wp2_with (go_at_call 131; refine (cut1_none _ _ _ HI.out).mono ?_; rintro e w' ⟨rfl, rfl⟩)
  go_ret3
  exact ⟨rfl, Below.refl _ _⟩

set_option maxHeartbeats 400000 in
theorem cut_some (s : ByteArray) (c : UInt8) (i : Nat) (w : World) (hs : s.size ≤ maxLen) (hil : i < s.size) (hi : Lib.indexByte s.data.toList c = i) :
    Calls Tryz.prog 85 #[.string s, .string ⟨#[c]⟩] w fun e w' => e = .returned (.tuple #[.string (s.extract 0 i), .string (s.extract (i + 1) s.size), .bool true]) ∧ Below w.heap.size w w' := by
  have HI := hide hi
  clear hi
  go_enter Tryz.func85, Tryz.ntmps85
  go_wp2_with (go_at_call 131; refine (cut1_some _ _ i _ hs hil HI.out).mono ?_; rintro e w' ⟨rfl, hb⟩)
  go_ret3
  exact ⟨rfl, hb⟩

theorem label_len {s : ByteArray} (h : D.isLabel s.data.toList = true) : s.size ≤ 20 := by
  simp only [D.isLabel, Bool.and_eq_true, decide_eq_true_eq] at h
  have := h.1.1.1.2
  rwa [Array.length_toList] at this
theorem maySp_len {s : ByteArray} (h : D.maySp s.data.toList = true) : s.size ≤ 20 := by
  unfold D.maySp at h
  rcases Bool.or_eq_true _ _ ▸ h with h | h
  · have h0 := List.isEmpty_iff.1 h
    show s.data.size ≤ 20
    rw [← Array.length_toList, h0]
    simp
  · exact label_len h
theorem isName_len {s : ByteArray} (h : D.isName s.data.toList = true) : s.size ≤ 60 := by
  simp only [D.isName, Bool.and_eq_true, decide_eq_true_eq] at h
  have := h.1
  rwa [Array.length_toList] at this

set_option maxHeartbeats 400000 in
theorem key_yes (sp nm : ByteArray) (w : World) (hs : sp.size ≤ maxLen) (hn : nm.size ≤ maxLen) (h1 : D.maySp sp.data.toList = true) (h2 : D.isName nm.data.toList = true) :
    Calls Tryz.prog 83 #[.string sp, .string nm] w fun e w' => e = .returned (.tuple #[.string (sp ++ ⟨#[47]⟩ ++ nm), .int .i64 0]) ∧ Below w.heap.size w w' := by
  have b1 := maySp_len h1
  have b2 := isName_len h2
  have H1 := hide h1
  have H2 := hide h2
  clear h1 h2
  go_enter Tryz.func83, Tryz.ntmps83
  go_wp2_with (first | (go_at_call 129; refine (maySpace_any _ _ hs).mono ?_; rintro e w' ⟨rfl, rfl⟩; rw [H1.out]) | (go_at_call 88; refine (name_any _ _ hn).mono ?_; rintro e w2 ⟨rfl, hb⟩; rw [H2.out]))
  go_ret2
  exact ⟨rfl, hb⟩

set_option maxHeartbeats 400000 in
theorem key_no (sp nm : ByteArray) (w : World) (hs : sp.size ≤ maxLen) (hn : nm.size ≤ maxLen) (h : (D.maySp sp.data.toList && D.isName nm.data.toList) = false) :
    Calls Tryz.prog 83 #[.string sp, .string nm] w fun e w' => e = .returned (.tuple #[.string ⟨#[]⟩, .int .i64 1]) ∧ Below w.heap.size w w' := by
  cases h1 : D.maySp sp.data.toList
  · have H1 := hide h1
    clear h1 h
    go_enter Tryz.func83, Tryz.ntmps83
    go_wp2_with (go_at_call 129; refine (maySpace_any _ _ hs).mono ?_; rintro e w' ⟨rfl, rfl⟩; rw [H1.out])
    go_ret2
    exact ⟨rfl, Below.refl _ _⟩
  · have H1 := hide h1
    have H2 : Hid (D.isName nm.data.toList = false) := by rw [h1] at h; exact h
    clear h1 h
    go_enter Tryz.func83, Tryz.ntmps83
    go_wp2_with (first | (go_at_call 129; refine (maySpace_any _ _ hs).mono ?_; rintro e w' ⟨rfl, rfl⟩; rw [H1.out]) | (go_at_call 88; refine (name_any _ _ hn).mono ?_; rintro e w2 ⟨rfl, hb⟩; rw [H2.out]))
    go_ret2
    exact ⟨rfl, hb⟩

/-- what Cut says of a key: the document's answer on lists -/
def cutOf (l : List UInt8) : Option (List UInt8 × List UInt8) :=
  match D.spl 47 l with
  | [a, b] => if D.maySp a && D.isName b then some (a, b) else none
  | _ => none

set_option maxHeartbeats 400000 in
theorem dcut_none (s : ByteArray) (w : World) (hi : Lib.indexByte s.data.toList 47 = -1) :
    Calls Tryz.prog 86 #[.string s] w fun e w' => e = .returned (.tuple #[.string ⟨#[]⟩, .string ⟨#[]⟩, .int .i64 2]) ∧ Below w.heap.size w w' := by
  have HI := hide hi
  clear hi
  go_enter Tryz.func86, Tryz.ntmps86
  go_wp2_with (go_at_call 85; refine (cut_none _ _ _ HI.out).mono ?_; rintro e w' ⟨rfl, hb⟩)
  go_ret3
  exact ⟨rfl, hb⟩

set_option maxHeartbeats 400000 in
theorem dcut_yes (s : ByteArray) (i : Nat) (w : World) (hs : s.size ≤ maxLen) (hil : i < s.size) (hi : Lib.indexByte s.data.toList 47 = i)
    (h1 : D.maySp (s.extract 0 i).data.toList = true) (h2 : D.isName (s.extract (i + 1) s.size).data.toList = true) :
    Calls Tryz.prog 86 #[.string s] w fun e w' => e = .returned (.tuple #[.string (s.extract 0 i), .string (s.extract (i + 1) s.size), .int .i64 0]) ∧ Below w.heap.size w w' := by
  have HI := hide hi
  have H1 := hide h1
  have H2 := hide h2
  clear hi h1 h2
  have l1 : (s.extract 0 i).size ≤ maxLen := by rw [ByteArray.size_extract]; omega
  have l2 : (s.extract (i + 1) s.size).size ≤ maxLen := by rw [ByteArray.size_extract]; omega
  go_enter Tryz.func86, Tryz.ntmps86
  go_wp2_with (first | (go_at_call 85; refine (cut_some _ _ i _ hs hil HI.out).mono ?_; rintro e w' ⟨rfl, hb⟩) | (go_at_call 129; refine (maySpace_any _ _ l1).mono ?_; rintro e w' ⟨rfl, rfl⟩; rw [H1.out]) | (go_at_call 88; refine (name_any _ _ l2).mono ?_; rintro e w2 ⟨rfl, hb2⟩; rw [H2.out]))
  go_ret3
  exact ⟨rfl, hb.trans (hb2.mono hb.size)⟩

set_option maxHeartbeats 400000 in
theorem dcut_no (s : ByteArray) (i : Nat) (w : World) (hs : s.size ≤ maxLen) (hil : i < s.size) (hi : Lib.indexByte s.data.toList 47 = i)
    (h : (D.maySp (s.extract 0 i).data.toList && D.isName (s.extract (i + 1) s.size).data.toList) = false) :
    Calls Tryz.prog 86 #[.string s] w fun e w' => e = .returned (.tuple #[.string ⟨#[]⟩, .string ⟨#[]⟩, .int .i64 2]) ∧ Below w.heap.size w w' := by
  have HI := hide hi
  clear hi
  have l1 : (s.extract 0 i).size ≤ maxLen := by rw [ByteArray.size_extract]; omega
  have l2 : (s.extract (i + 1) s.size).size ≤ maxLen := by rw [ByteArray.size_extract]; omega
  cases h1 : D.maySp (s.extract 0 i).data.toList
  · have H1 := hide h1
    clear h1 h
    go_enter Tryz.func86, Tryz.ntmps86
    go_wp2_with (first | (go_at_call 85; refine (cut_some _ _ i _ hs hil HI.out).mono ?_; rintro e w' ⟨rfl, hb⟩) | (go_at_call 129; refine (maySpace_any _ _ l1).mono ?_; rintro e w' ⟨rfl, rfl⟩; rw [H1.out]))
    go_ret3
    exact ⟨rfl, hb⟩
  · have H1 := hide h1
    have H2 : Hid (D.isName (s.extract (i + 1) s.size).data.toList = false) := by rw [h1] at h; exact h
    clear h1 h
    go_enter Tryz.func86, Tryz.ntmps86
    go_wp2_with (first | (go_at_call 85; refine (cut_some _ _ i _ hs hil HI.out).mono ?_; rintro e w' ⟨rfl, hb⟩) | (go_at_call 129; refine (maySpace_any _ _ l1).mono ?_; rintro e w' ⟨rfl, rfl⟩; rw [H1.out]) | (go_at_call 88; refine (name_any _ _ l2).mono ?_; rintro e w2 ⟨rfl, hb2⟩; rw [H2.out]))
    go_ret3
    exact ⟨rfl, hb.trans (hb2.mono hb.size)⟩

def under (a b : List UInt8) : Bool := D.isName a && D.isName b && Lib.hasSuffix a (46 :: b)

theorem dot_data (b : ByteArray) : ((⟨#[46]⟩ : ByteArray) ++ b).data.toList = 46 :: b.data.toList := by
  simp [ByteArray.data_append]

end Go.Proofs.YtphinklnbjpohaaGreatDoor
