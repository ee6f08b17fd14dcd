/-
  The law DnsGoes: the plain facts of under, and its walk.
-/
import Derived.Test.YtlogclpmdaiflaaDoorLawA
namespace Go.Proofs.YtlogclpmdaiflaaDoor
open Go Go.RowKit Go.Shelf

theorem under_iff {a b : List UInt8} : under a b = true ↔ D.isName a = true ∧ D.isName b = true ∧ (46 :: b) <:+ a := by
  unfold under Lib.hasSuffix
  rw [Bool.and_eq_true, Bool.and_eq_true, List.isSuffixOf_iff_suffix, and_assoc]
theorem under_len {a b : List UInt8} (h : under a b = true) : b.length + 1 ≤ a.length := by
  have := (under_iff.1 h).2.2.length_le
  simpa using this
theorem under_self (a : List UInt8) : under a a = false := by
  cases h : under a a
  · rfl
  · have := under_len h; omega
theorem under_not_back {a b : List UInt8} (h : under a b = true) : under b a = false := by
  cases h' : under b a
  · rfl
  · have := under_len h; have := under_len h'; omega
theorem under_trans {a b c : List UInt8} (h : under a b = true) (k : under b c = true) : under a c = true := by
  obtain ⟨h1, h2, h3⟩ := under_iff.1 h
  obtain ⟨_, k2, k3⟩ := under_iff.1 k
  exact under_iff.2 ⟨h1, k2, (k3.trans (List.suffix_cons 46 b)).trans h3⟩

theorem label_no_dot {l : List UInt8} (h : D.isLabel l = true) : ∀ x ∈ l, x ≠ 46 := fun x hx => (inLab_ne (label_octets h x hx)).2

theorem isName_iff {l : List UInt8} : D.isName l = true ↔ l.length ≤ 60 ∧ ∀ p ∈ D.spl 46 l, D.isLabel p = true := by
  unfold D.isName
  rw [Bool.and_eq_true, decide_eq_true_eq, List.all_eq_true]

theorem name_dot {a b : List UInt8} (ha : D.isName a = true) (hb : D.isLabel b = true) (hl : a.length + b.length < 60) : D.isName (b ++ 46 :: a) = true := by
  rw [isName_iff, D.spl_at (label_no_dot hb)]
  refine ⟨by simp; omega, fun p hp => ?_⟩
  rcases List.mem_cons.1 hp with rfl | hp
  · exact hb
  · exact (isName_iff.1 ha).2 p hp

theorem under_dot {a b : List UInt8} (ha : D.isName a = true) (hb : D.isLabel b = true) (hl : a.length + b.length < 60) : under (b ++ 46 :: a) a = true :=
  under_iff.2 ⟨name_dot ha hb hl, ha, List.suffix_append b _⟩

theorem label_pos {l : List UInt8} (h : D.isLabel l = true) : l ≠ [] := by
  rintro rfl
  revert h
  decide

theorem under_glued {a b : List UInt8} (hb : D.isLabel b = true) : under (b ++ a) a = false := by
  cases h : under (b ++ a) a
  · rfl
  · obtain ⟨_, _, t, ht⟩ := under_iff.1 h
    have hlen := congrArg List.length ht
    simp at hlen
    have h2 : t ++ [46] ++ a = b ++ a := by rw [← ht]; simp
    have h3 := List.append_cancel_right h2
    exact absurd rfl (label_no_dot hb 46 (by rw [← h3]; simp))

theorem dot_cat (a b : ByteArray) : (b ++ ⟨#[46]⟩ ++ a).data.toList = b.data.toList ++ 46 :: a.data.toList := by
  simp [ByteArray.data_append]
theorem cat_data (a b : ByteArray) : (b ++ a).data.toList = b.data.toList ++ a.data.toList := by
  simp [ByteArray.data_append]
theorem dot_size (a b : ByteArray) : (b ++ ⟨#[46]⟩ ++ a).size = b.size + 1 + a.size := by
  simp only [ByteArray.size_append]; rfl

end Go.Proofs.YtlogclpmdaiflaaDoor
