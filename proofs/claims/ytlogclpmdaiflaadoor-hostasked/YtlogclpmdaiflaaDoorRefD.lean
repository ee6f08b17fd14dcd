/-
  Walks of the document's own answers: Cut.
-/
import Derived.Test.YtlogclpmdaiflaaDoorRefC
namespace Go.Proofs.YtlogclpmdaiflaaDoor
open Go Go.RowKit Go.Shelf

theorem parts_none {c : UInt8} {s : ByteArray} (h : ∀ x ∈ s.data.toList, x ≠ c) : parts c s = [s] := by
  unfold parts
  rw [D.spl_none h]
  simp
theorem parts_some {c : UInt8} {s : ByteArray} {i : Nat} (hcut : s.data.toList = s.data.toList.take i ++ c :: s.data.toList.drop (i + 1)) (hno : ∀ x ∈ s.data.toList.take i, x ≠ c) :
    parts c s = s.extract 0 i :: parts c (s.extract (i + 1) s.size) := by
  unfold parts
  rw [spl_idx_some hcut hno, Lib.extract_to_end]
  have hfr : s.extract 0 i = ⟨(s.data.toList.take i).toArray⟩ := by rw [Lib.extract_eq]; simp
  rw [hfr]
  rfl

theorem name_octets {l : List UInt8} (h : D.isName l = true) : ∀ x ∈ l, x ≠ 47 := by
  have h2 := (isName_iff.1 h).2
  intro x hx
  have hm : ∀ (l : List UInt8), x ∈ l → x = 46 ∨ ∃ p ∈ D.spl 46 l, x ∈ p := by
    intro l
    induction l with
    | nil => intro h; cases h
    | cons a r ih =>
      intro hx
      have hne := D.spl_ne 46 r
      unfold D.spl
      rcases List.mem_cons.1 hx with rfl | hx
      · split
        · rename_i e; exact .inl e
        · exact .inr ⟨_, List.mem_cons_self .., List.mem_cons_self ..⟩
      · rcases ih hx with e | ⟨p, hp, hxp⟩
        · exact .inl e
        · right
          split
          · exact ⟨p, List.mem_cons_of_mem _ hp, hxp⟩
          · cases hs : D.spl 46 r with
            | nil => exact absurd hs hne
            | cons q t =>
              rw [hs] at hp
              rcases List.mem_cons.1 hp with rfl | hp
              · exact ⟨_, List.mem_cons_self .., List.mem_cons_of_mem _ hxp⟩
              · exact ⟨p, List.mem_cons_of_mem _ hp, hxp⟩
  rcases hm l hx with rfl | ⟨p, hp, hxp⟩
  · decide
  · exact (inLab_ne (label_octets (h2 p hp) x hxp)).1

theorem lt_of_cell {w : World} {a : Addr} {u : Value} (h : w.cell? a = some u) : a.block < w.heap.size := by
  obtain ⟨o, ho, _⟩ := cells_of_cell h
  exact (Array.getElem?_eq_some_iff.1 ho).1

/-- two parts, in memory -/
theorem strs_pair {w : World} {v : Value} {p q : ByteArray} (h : Strs w v [p, q]) : ∃ g cap, v = .slice (some ⟨g, 0, none⟩) 2 cap ∧ w.cell? ⟨g, 0, none⟩ = some (.string p) ∧ w.cell? ⟨g, 1, none⟩ = some (.string q) := by
  obtain ⟨a, ca, rfl, hca⟩ := h
  obtain ⟨g, rfl, _, c0⟩ := hca 0 (by simp)
  obtain ⟨g', e, _, c1⟩ := hca 1 (by simp)
  obtain rfl : g = g' := by injection e with e; injection e
  exact ⟨g, ca, rfl, c0, c1⟩

end Go.Proofs.YtlogclpmdaiflaaDoor
