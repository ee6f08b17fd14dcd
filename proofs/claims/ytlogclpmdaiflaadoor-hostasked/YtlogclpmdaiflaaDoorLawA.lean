/-
  The law DnsBacks: its walk.
-/
import Derived.Test.YtlogclpmdaiflaaDoorWalkH
namespace Go.Proofs.YtlogclpmdaiflaaDoor
open Go Go.RowKit Go.Shelf

theorem inLab_ne {c : UInt8} (h : D.inLab c.toNat = true) : c ≠ 47 ∧ c ≠ 46 := by
  constructor <;> (rintro rfl; revert h; decide)

theorem label_octets {l : List UInt8} (h : D.isLabel l = true) : ∀ x ∈ l, D.inLab x.toNat = true := by
  simp only [D.isLabel, Bool.and_eq_true] at h
  exact List.all_eq_true.1 h.1.1.2

theorem maySp_octets {l : List UInt8} (h : D.maySp l = true) : ∀ x ∈ l, x ≠ 47 := by
  unfold D.maySp at h
  rcases Bool.or_eq_true _ _ ▸ h with h | h
  · rw [List.isEmpty_iff.1 h]; simp
  · exact fun x hx => (inLab_ne (label_octets h x hx)).1

theorem index_at {c : UInt8} : ∀ {l r : List UInt8}, (∀ x ∈ l, x ≠ c) → Lib.indexByte (l ++ c :: r) c = l.length
  | [], r, _ => by simp [Lib.indexByte]
  | a :: l, r, h => by
    have ih := index_at (r := r) (fun x hx => h x (List.mem_cons_of_mem _ hx))
    have ha : a ≠ c := h a (by simp)
    have hne : ¬ ((l.length : Int) = -1) := by omega
    simp [Lib.indexByte, ha, ih, hne]

theorem key_data (a b : ByteArray) : (a ++ ⟨#[47]⟩ ++ b).data.toList = a.data.toList ++ 47 :: b.data.toList := by
  simp [ByteArray.data_append]
theorem bytes_ext {a b : ByteArray} (h : a.data.toList = b.data.toList) : a = b := by rw [← Lib.mk_data a, h, Lib.mk_data]
theorem key_size (a b : ByteArray) : (a ++ ⟨#[47]⟩ ++ b).size = a.size + 1 + b.size := by
  simp only [ByteArray.size_append]; rfl
theorem key_head (a b : ByteArray) : (a ++ ⟨#[47]⟩ ++ b).extract 0 a.size = a := by
  apply bytes_ext
  rw [Lib.extract_data, key_data]
  simp
theorem key_tail (a b : ByteArray) : (a ++ ⟨#[47]⟩ ++ b).extract (a.size + 1) (a ++ ⟨#[47]⟩ ++ b).size = b := by
  apply bytes_ext
  rw [Lib.extract_to_end, key_data]
  have e : a.size + 1 = a.data.toList.length + 1 := by rw [Array.length_toList]; rfl
  rw [e, List.drop_append]
  simp
theorem key_index (a b : ByteArray) (h : D.maySp a.data.toList = true) : Lib.indexByte (a ++ ⟨#[47]⟩ ++ b).data.toList 47 = a.size := by
  rw [key_data, index_at (maySp_octets h), Array.length_toList]; rfl

end Go.Proofs.YtlogclpmdaiflaaDoor
