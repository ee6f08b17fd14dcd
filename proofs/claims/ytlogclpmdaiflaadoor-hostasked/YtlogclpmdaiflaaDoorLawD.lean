/-
  The law DnsFolds: plain facts of folding, and its walk.
-/
import Derived.Test.YtlogclpmdaiflaaDoorWalkI
namespace Go.Proofs.YtlogclpmdaiflaaDoor
open Go Go.RowKit Go.Shelf

theorem foldc_not_up (c : UInt8) : ¬ (65 ≤ (foldc c).toNat ∧ (foldc c).toNat ≤ 90) := by
  by_cases h : 65 ≤ c.toNat ∧ c.toNat ≤ 90
  · have := foldc_yes h.1 h.2
    omega
  · rw [foldc_no h]; exact h
theorem foldc_twice (c : UInt8) : foldc (foldc c) = foldc c := foldc_no (foldc_not_up c)
theorem foldL_twice (l : List UInt8) : foldL (foldL l) = foldL l := by
  simp only [foldL, List.map_map]
  exact List.map_congr_left (fun c _ => foldc_twice c)
theorem foldL_len (l : List UInt8) : (foldL l).length = l.length := by simp [foldL]
theorem foldL_label {l : List UInt8} (h : D.isLabel l = true) : foldL l = l := by
  have ho := label_octets h
  unfold foldL
  conv => rhs; rw [← List.map_id l]
  refine List.map_congr_left (fun c hc => foldc_no ?_)
  have := ho c hc
  simp only [D.inLab, decide_eq_true_eq] at this
  omega

/-- the folded text -/
def foldB (s : ByteArray) : ByteArray := ⟨(foldL s.data.toList).toArray⟩
theorem foldB_data (s : ByteArray) : (foldB s).data.toList = foldL s.data.toList := by simp [foldB]
theorem foldB_size (s : ByteArray) : (foldB s).size = s.size := by
  have h1 : (foldB s).data.toList.length = (foldB s).size := Array.length_toList
  have h2 : s.data.toList.length = s.size := Array.length_toList
  rw [← h1, foldB_data, foldL_len, h2]
theorem foldB_twice (s : ByteArray) : foldB (foldB s) = foldB s := by
  apply bytes_ext; rw [foldB_data, foldB_data, foldL_twice]
theorem foldB_at (s : ByteArray) (k : Nat) (h : k < s.size) (h' : k < (foldB s).size) : (foldB s)[k] = foldc s[k] := by
  have e1 : (foldB s)[k] = (foldB s).data.toList[k]'(by rw [Array.length_toList]; exact h') := rfl
  have e2 : s[k] = s.data.toList[k]'(by rw [Array.length_toList]; exact h) := rfl
  rw [e1, e2]
  simp [foldB, foldL]

theorem foldB_any (s : ByteArray) (w : World) (hs : s.size ≤ maxLen) :
    Calls Tryd.prog 34 #[.string s] w fun e w' => e = .returned (.string (foldB s)) ∧ Below w.heap.size w w' := fold_any s w hs

end Go.Proofs.YtlogclpmdaiflaaDoor
