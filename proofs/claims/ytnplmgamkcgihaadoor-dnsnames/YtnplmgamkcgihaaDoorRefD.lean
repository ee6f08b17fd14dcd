/-
  Walks of the document's own answers: Cut.
-/
import Derived.Test.YtnplmgamkcgihaaDoorRefC
namespace Go.Proofs.YtnplmgamkcgihaaDoor
open Go Go.RowKit Go.Shelf

theorem parts_none {c : UInt8} {s : ByteArray} (h : ∀ x ∈ s.data.toList, x ≠ c) : parts c s = [s] := by
  unfold parts
  rw [D.spl_none h]
  simp
theorem parts_some {c : UInt8} {s : ByteArray} {i : Nat} (hcut : s.data.toList = s.data.toList.take i ++ c :: s.data.toList.drop (i + 1)) (hno : ∀ x ∈ s.data.toList.take i, x ≠ c) :
    parts c s = s.extract 0 i :: parts c (s.extract (i + 1) s.size) := by
  unfold parts
  rw [spl_idx_some hcut hno, Lib.extract_to_end]
  have hfr : s.extract 0 i = ⟨(s.data.toList.take i).toArray⟩ := by rw [Lib.extract_eq]; simp
  rw [hfr]
  rfl

theorem name_octets {l : List UInt8} (h : D.isName l = true) : ∀ x ∈ l, x ≠ 47 := by
  have h2 := (isName_iff.1 h).2
  intro x hx
  have hm : ∀ (l : List UInt8), x ∈ l → x = 46 ∨ ∃ p ∈ D.spl 46 l, x ∈ p := by
    intro l
    induction l with
    | nil => intro h; cases h
    | cons a r ih =>
      intro hx
      have hne := D.spl_ne 46 r
      unfold D.spl
      rcases List.mem_cons.1 hx with rfl | hx
      · split
        · rename_i e; exact .inl e
        · exact .inr ⟨_, List.mem_cons_self .., List.mem_cons_self ..⟩
      · rcases ih hx with e | ⟨p, hp, hxp⟩
        · exact .inl e
        · right
          split
          · exact ⟨p, List.mem_cons_of_mem _ hp, hxp⟩
          · cases hs : D.spl 46 r with
            | nil => exact absurd hs hne
            | cons q t =>
              rw [hs] at hp
              rcases List.mem_cons.1 hp with rfl | hp
              · exact ⟨_, List.mem_cons_self .., List.mem_cons_of_mem _ hxp⟩
              · exact ⟨p, List.mem_cons_of_mem _ hp, hxp⟩
  rcases hm l hx with rfl | ⟨p, hp, hxp⟩
  · decide
  · exact (inLab_ne (label_octets (h2 p hp) x hxp)).1

set_option maxHeartbeats 800000 in
theorem rcut_len (s : ByteArray) (w : World) (hs : s.size ≤ 100) (h : (parts 47 s).length ≠ 2) :
    Calls Tryd.prog 24 #[.string s] w fun e w' => e = .returned (.tuple #[.string ⟨#[]⟩, .string ⟨#[]⟩, .bool false]) ∧ Below w.heap.size w w' := by
  have t1 : (((parts 47 s).length : Int) != 2) = true := by rw [bne_iff_ne]; omega
  clear h
  go_enter Tryd.func24, Tryd.ntmps24
  go_wp2_with fail
  refine (rsplit47 _ _ (by omega)).mono ?_
  rintro e w1 ⟨v, rfl, hS, hb1⟩
  obtain ⟨a, ca, rfl, hca⟩ := hS
  clear hca
  go_wp2_with fail
  go_ret3
  exact ⟨rfl, hb1⟩

theorem lt_of_cell {w : World} {a : Addr} {u : Value} (h : w.cell? a = some u) : a.block < w.heap.size := by
  obtain ⟨o, ho, _⟩ := cells_of_cell h
  exact (Array.getElem?_eq_some_iff.1 ho).1

/-- two parts, in memory -/
theorem strs_pair {w : World} {v : Value} {p q : ByteArray} (h : Strs w v [p, q]) : ∃ g cap, v = .slice (some ⟨g, 0, none⟩) 2 cap ∧ w.cell? ⟨g, 0, none⟩ = some (.string p) ∧ w.cell? ⟨g, 1, none⟩ = some (.string q) := by
  obtain ⟨a, ca, rfl, hca⟩ := h
  obtain ⟨g, rfl, _, c0⟩ := hca 0 (by simp)
  obtain ⟨g', e, _, c1⟩ := hca 1 (by simp)
  obtain rfl : g = g' := by injection e with e; injection e
  exact ⟨g, ca, rfl, c0, c1⟩

set_option maxHeartbeats 800000 in
theorem rcut_yes (s p q : ByteArray) (w : World) (hs : s.size ≤ 100) (hp : parts 47 s = [p, q]) (lp : p.size ≤ 100) (lq : q.size ≤ 100) (h1 : D.maySp p.data.toList = true) (h2 : D.isName q.data.toList = true) :
    Calls Tryd.prog 24 #[.string s] w fun e w' => e = .returned (.tuple #[.string p, .string q, .bool true]) ∧ Below w.heap.size w w' := by
  have H1 := hide h1
  have H2 := hide h2
  have HP := hide hp
  have lpm : p.size ≤ maxLen := small_len (by omega)
  clear h1 h2 hp
  go_enter Tryd.func24, Tryd.ntmps24
  go_wp2_with fail
  refine (rsplit47 _ _ (by omega)).mono ?_
  rintro e w1 ⟨v, rfl, hS, hb1⟩
  rw [HP.out] at hS
  obtain ⟨g, cap, rfl, c0, c1⟩ := strs_pair hS
  clear hS
  cases he : p.toList.isEmpty
  · have HL : Hid (D.isLabel p.data.toList = true) := by
      have := H1.out
      rw [Lib.toList_data] at he
      unfold D.maySp at this
      rw [he] at this
      exact this
    go_wp2_with fail
    refine (rlabel_any _ _ lpm).mono ?_
    rintro e x ⟨rfl, rfl⟩
    rw [HL.out]
    go_wp2_with fail
    refine (rname_any _ _ (by omega)).mono ?_
    rintro e x1 ⟨rfl, hx1⟩
    rw [H2.out]
    have hcell := fun (o : Nat) (u : Value) (hc : x.cell? ⟨g, o, none⟩ = some u) => (hx1.cell (p := ⟨g, o, none⟩) (lt_of_cell hc)).trans hc
    have d0 := hcell 0 _ c0
    have d1 := hcell 1 _ c1
    clear hcell c0 c1
    go_wp2_with fail
    go_region
    go_wp2_with fail
    go_ret3
    exact ⟨rfl, (hb1.trans (hx1.mono hb1.size)).drew⟩
  · go_wp2_with fail
    refine (rname_any _ _ (by omega)).mono ?_
    rintro e x1 ⟨rfl, hx1⟩
    rw [H2.out]
    have hcell := fun (o : Nat) (u : Value) (hc : w1.cell? ⟨g, o, none⟩ = some u) => (hx1.cell (p := ⟨g, o, none⟩) (lt_of_cell hc)).trans hc
    have d0 := hcell 0 _ c0
    have d1 := hcell 1 _ c1
    clear hcell c0 c1
    go_wp2_with fail
    go_region
    go_wp2_with fail
    go_ret3
    exact ⟨rfl, (hb1.trans (hx1.mono hb1.size)).drew⟩

set_option maxHeartbeats 800000 in
theorem rcut_no (s p q : ByteArray) (w : World) (hs : s.size ≤ 100) (hp : parts 47 s = [p, q]) (lp : p.size ≤ 100) (lq : q.size ≤ 100) (h : (D.maySp p.data.toList && D.isName q.data.toList) = false) :
    Calls Tryd.prog 24 #[.string s] w fun e w' => e = .returned (.tuple #[.string ⟨#[]⟩, .string ⟨#[]⟩, .bool false]) ∧ Below w.heap.size w w' := by
  have HP := hide hp
  have lpm : p.size ≤ maxLen := small_len (by omega)
  have HH := hide h
  clear hp h
  go_enter Tryd.func24, Tryd.ntmps24
  go_wp2_with fail
  refine (rsplit47 _ _ (by omega)).mono ?_
  rintro e w1 ⟨v, rfl, hS, hb1⟩
  rw [HP.out] at hS
  obtain ⟨g, cap, rfl, c0, c1⟩ := strs_pair hS
  clear hS
  cases he : p.toList.isEmpty
  · have hm : D.maySp p.data.toList = D.isLabel p.data.toList := by
      rw [Lib.toList_data] at he
      unfold D.maySp
      rw [he]
      rfl
    cases hl : D.isLabel p.data.toList
    · have HL := hide hl
      clear hl hm
      go_wp2_with fail
      refine (rlabel_any _ _ lpm).mono ?_
      rintro e x ⟨rfl, rfl⟩
      rw [HL.out]
      go_wp2_with fail
      go_ret3
      exact ⟨rfl, hb1⟩
    · have HL := hide hl
      have H2 : Hid (D.isName q.data.toList = false) := by have := HH.out; rw [hm, hl] at this; exact this
      clear hl hm
      go_wp2_with fail
      refine (rlabel_any _ _ lpm).mono ?_
      rintro e x ⟨rfl, rfl⟩
      rw [HL.out]
      go_wp2_with fail
      refine (rname_any _ _ (by omega)).mono ?_
      rintro e x1 ⟨rfl, hx1⟩
      rw [H2.out]
      go_wp2_with fail
      go_ret3
      exact ⟨rfl, hb1.trans (hx1.mono hb1.size)⟩
  · have H2 : Hid (D.isName q.data.toList = false) := by
      have := HH.out
      rw [Lib.toList_data] at he
      unfold D.maySp at this
      rw [he] at this
      exact this
    go_wp2_with fail
    refine (rname_any _ _ (by omega)).mono ?_
    rintro e x1 ⟨rfl, hx1⟩
    rw [H2.out]
    go_wp2_with fail
    go_ret3
    exact ⟨rfl, hb1.trans (hx1.mono hb1.size)⟩

end Go.Proofs.YtnplmgamkcgihaaDoor
