/-
  Walks: maySpace, strings.HasSuffix, strings.Cut, Key, Cut, Under.
-/
import Derived.Test.YtmjjjlanafiilaaDoorWalkD
namespace Go.Proofs.YtmjjjlanafiilaaDoor
open Go Go.RowKit Go.Shelf

set_option maxHeartbeats 400000 in
theorem cut1_none (s : ByteArray) (c : UInt8) (w : World) (hi : Lib.indexByte s.data.toList c = -1) :
    Calls Tryd.prog 40 #[.string s, .string ⟨#[c]⟩] w fun e w' => e = .returned (.tuple #[.string s, .string ⟨#[]⟩, .bool false]) ∧ w' = w := by
  have HI := hide hi
  clear hi
  go_enter Tryd.func40, Tryd.ntmps40
  go_wp2_with (go_at_call 43; refine (index1_any _ _ _).mono ?_; rintro e w' ⟨rfl, rfl⟩; rw [HI.out])
  go_ret3
  exact ⟨rfl, rfl⟩

set_option maxHeartbeats 400000 in
theorem cut1_some (s : ByteArray) (c : UInt8) (i : Nat) (w : World) (hs : s.size ≤ maxLen) (hil : i < s.size) (hi : Lib.indexByte s.data.toList c = i) :
    Calls Tryd.prog 40 #[.string s, .string ⟨#[c]⟩] w fun e w' => e = .returned (.tuple #[.string (s.extract 0 i), .string (s.extract (i + 1) s.size), .bool true]) ∧ Below w.heap.size w w' := by
  unfold maxLen at hs
  have HI := hide hi
  clear hi
  go_enter Tryd.func40, Tryd.ntmps40
  go_wp2_with (go_at_call 43; refine (index1_any _ _ _).mono ?_; rintro e w' ⟨rfl, rfl⟩; rw [HI.out])
  go_region
  go_wp2
  go_ret3
  exact ⟨rfl, (Below.refl _ _).drew⟩

set_option maxHeartbeats 400000 in
theorem cut_none (s : ByteArray) (c : UInt8) (w : World) (hi : Lib.indexByte s.data.toList c = -1) :
    Calls Tryd.prog 32 #[.string s, .string ⟨#[c]⟩] w fun e w' => e = .returned (.tuple #[.string s, .string ⟨#[]⟩, .bool false]) ∧ Below w.heap.size w w' := by
  have HI := hide hi
  clear hi
  go_enter Tryd.func32, Tryd.ntmps32
  go_wp2_with (go_at_call 40; refine (cut1_none _ _ _ HI.out).mono ?_; rintro e w' ⟨rfl, rfl⟩)
  go_ret3
  exact ⟨rfl, Below.refl _ _⟩

set_option maxHeartbeats 400000 in
theorem cut_some (s : ByteArray) (c : UInt8) (i : Nat) (w : World) (hs : s.size ≤ maxLen) (hil : i < s.size) (hi : Lib.indexByte s.data.toList c = i) :
    Calls Tryd.prog 32 #[.string s, .string ⟨#[c]⟩] w fun e w' => e = .returned (.tuple #[.string (s.extract 0 i), .string (s.extract (i + 1) s.size), .bool true]) ∧ Below w.heap.size w w' := by
  have HI := hide hi
  clear hi
  go_enter Tryd.func32, Tryd.ntmps32
  go_wp2_with (go_at_call 40; refine (cut1_some _ _ i _ hs hil HI.out).mono ?_; rintro e w' ⟨rfl, hb⟩)
  go_ret3
  exact ⟨rfl, hb⟩

theorem label_len {s : ByteArray} (h : D.isLabel s.data.toList = true) : s.size ≤ 20 := by
  simp only [D.isLabel, Bool.and_eq_true, decide_eq_true_eq] at h
  have := h.1.1.1.2
  rwa [Array.length_toList] at this
theorem maySp_len {s : ByteArray} (h : D.maySp s.data.toList = true) : s.size ≤ 20 := by
  unfold D.maySp at h
  rcases Bool.or_eq_true _ _ ▸ h with h | h
  · have h0 := List.isEmpty_iff.1 h
    show s.data.size ≤ 20
    rw [← Array.length_toList, h0]
    simp
  · exact label_len h
theorem isName_len {s : ByteArray} (h : D.isName s.data.toList = true) : s.size ≤ 60 := by
  simp only [D.isName, Bool.and_eq_true, decide_eq_true_eq] at h
  have := h.1
  rwa [Array.length_toList] at this

/-- what Cut says of a key: the document's answer on lists -/
def cutOf (l : List UInt8) : Option (List UInt8 × List UInt8) :=
  match D.spl 47 l with
  | [a, b] => if D.maySp a && D.isName b then some (a, b) else none
  | _ => none

def under (a b : List UInt8) : Bool := D.isName a && D.isName b && Lib.hasSuffix a (46 :: b)

theorem dot_data (b : ByteArray) : ((⟨#[46]⟩ : ByteArray) ++ b).data.toList = 46 :: b.data.toList := by
  simp [ByteArray.data_append]

end Go.Proofs.YtmjjjlanafiilaaDoor
