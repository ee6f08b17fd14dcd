/-
  Walks: Labels.
-/
import Derived.Test.YtphinklnbjpohaaGreatDoorWalkE
import Derived.Maps.AppendAt
import Derived.Test.YtphinklnbjpohaaGreatDoorStrs
import Derived.Test.YtphinklnbjpohaaGreatDoorFold
import Derived.Test.YtphinklnbjpohaaGreatDoorRefC
namespace Go.Proofs.YtphinklnbjpohaaGreatDoor
set_option maxRecDepth 20000
open Go Go.RowKit Go.Shelf

attribute [local go_sem] Oper.semAt_some

/-- behind an append in a round: the iterator's blocks lie as they lay -/
theorem stays_appended {W w1 : World} {lo hi n₁ B : Nat} {size : Nat} {v v' : Value} {k : Nat} {xs : List Value} {tmp : Obj}
    (hrow : W.ownsRow n₁ 9 size v k xs) (hhi : hi ≤ n₁) (hn : n₁ ≤ W.heap.size) (hB : B < lo) (hgrow : (W.alloc tmp).grownBy w1 v.ownBlock) : Stays lo hi W (w1.setCell ⟨B, 0, none⟩ v') := fun b h1 h2 => by
  rw [Below.heap_setCell _ _ _ _ (by show b ≠ B; omega)]
  rw [hgrow.block b (by simp; omega) (fun e => by have := ownBlock_ge hrow e.symm; omega)]
  exact Below.heap_alloc _ _ _ (by omega)

theorem map_take_succ (xs : List ByteArray) (k : Nat) (h : k < xs.length) : (xs.take (k + 1)).map Value.string = (xs.take k).map Value.string ++ [.string xs[k]] := by
  rw [List.take_succ_eq_append_getElem h, List.map_append]; rfl

end Go.Proofs.YtphinklnbjpohaaGreatDoor
namespace Go.Proofs.YtphinklnbjpohaaGreatDoor
set_option maxRecDepth 20000
open Go Go.RowKit Go.Shelf

set_option maxHeartbeats 400000 in
theorem few_any (s : ByteArray) (w : World) (hs : s.size ≤ maxLen) :
    Calls Tryz.prog 27 #[.string s] w fun e w' => ∃ t : ByteArray, e = .returned (.string t) ∧ t.size ≤ 100 ∧ w' = w := by
  unfold maxLen at hs
  by_cases h : 100 < s.size
  · go_enter Tryz.func27, Tryz.ntmps27
    go_wp2
    go_ret
    exact ⟨_, rfl, by rw [ByteArray.size_extract]; omega, rfl⟩
  · go_enter Tryz.func27, Tryz.ntmps27
    go_wp2
    go_ret
    exact ⟨s, rfl, by omega, rfl⟩

theorem nm_a : D.isName (⟨#[97]⟩ : ByteArray).data.toList = true := by decide
theorem sp_e : D.maySp (⟨#[]⟩ : ByteArray).data.toList = true := by decide
theorem nm_abc : D.isName (⟨#[97, 46, 98, 45, 99]⟩ : ByteArray).data.toList = true := by decide
theorem parts_abc : parts 46 (⟨#[97, 46, 98, 45, 99]⟩ : ByteArray) = [⟨#[97]⟩, ⟨#[98, 45, 99]⟩] := by decide
theorem under_yes : under (⟨#[97, 46, 98, 46, 99]⟩ : ByteArray).data.toList (⟨#[98, 46, 99]⟩ : ByteArray).data.toList = true := by decide
theorem under_not : under (⟨#[120, 98, 46, 99]⟩ : ByteArray).data.toList (⟨#[98, 46, 99]⟩ : ByteArray).data.toList = false := by decide

theorem key_lit : (⟨#[]⟩ ++ ⟨#[47]⟩ ++ ⟨#[97]⟩ : ByteArray) = ⟨#[47, 97]⟩ := by decide

/-- a literal of two texts -/
theorem strs_two (w : World) (a b : ByteArray) : Strs (w.alloc (.cells #[.string a, .string b] 9)) (.slice (some ⟨w.heap.size, 0, none⟩) 2 2) [a, b] := by
  refine ⟨_, 2, rfl, fun i hi => ⟨_, rfl, by simp, ?_⟩⟩
  have h := World.alloc_heap_new w (.cells #[.string a, .string b] 9)
  have hi' : i < 2 := hi
  rcases i with _ | _ | i
  · simp only [World.cell?]; rw [h]; rfl
  · simp only [World.cell?]; rw [h]; rfl
  · omega

end Go.Proofs.YtphinklnbjpohaaGreatDoor
namespace Go.Proofs.YtphinklnbjpohaaGreatDoor
set_option maxRecDepth 20000
open Go Go.RowKit Go.Shelf

theorem inLab_ne {c : UInt8} (h : D.inLab c.toNat = true) : c ≠ 47 ∧ c ≠ 46 := by
  constructor <;> (rintro rfl; revert h; decide)

theorem label_octets {l : List UInt8} (h : D.isLabel l = true) : ∀ x ∈ l, D.inLab x.toNat = true := by
  simp only [D.isLabel, Bool.and_eq_true] at h
  exact List.all_eq_true.1 h.1.1.2

theorem maySp_octets {l : List UInt8} (h : D.maySp l = true) : ∀ x ∈ l, x ≠ 47 := by
  unfold D.maySp at h
  rcases Bool.or_eq_true _ _ ▸ h with h | h
  · rw [List.isEmpty_iff.1 h]; simp
  · exact fun x hx => (inLab_ne (label_octets h x hx)).1

theorem index_at {c : UInt8} : ∀ {l r : List UInt8}, (∀ x ∈ l, x ≠ c) → Lib.indexByte (l ++ c :: r) c = l.length
  | [], r, _ => by simp [Lib.indexByte]
  | a :: l, r, h => by
    have ih := index_at (r := r) (fun x hx => h x (List.mem_cons_of_mem _ hx))
    have ha : a ≠ c := h a (by simp)
    have hne : ¬ ((l.length : Int) = -1) := by omega
    simp [Lib.indexByte, ha, ih, hne]

theorem key_data (a b : ByteArray) : (a ++ ⟨#[47]⟩ ++ b).data.toList = a.data.toList ++ 47 :: b.data.toList := by
  simp [ByteArray.data_append]
theorem key_size (a b : ByteArray) : (a ++ ⟨#[47]⟩ ++ b).size = a.size + 1 + b.size := by
  simp only [ByteArray.size_append]; rfl
theorem key_head (a b : ByteArray) : (a ++ ⟨#[47]⟩ ++ b).extract 0 a.size = a := by
  apply bytes_ext
  rw [Lib.extract_data, key_data]
  simp
theorem key_tail (a b : ByteArray) : (a ++ ⟨#[47]⟩ ++ b).extract (a.size + 1) (a ++ ⟨#[47]⟩ ++ b).size = b := by
  apply bytes_ext
  rw [Lib.extract_to_end, key_data]
  have e : a.size + 1 = a.data.toList.length + 1 := by rw [Array.length_toList]; rfl
  rw [e, List.drop_append]
  simp
theorem key_index (a b : ByteArray) (h : D.maySp a.data.toList = true) : Lib.indexByte (a ++ ⟨#[47]⟩ ++ b).data.toList 47 = a.size := by
  rw [key_data, index_at (maySp_octets h), Array.length_toList]; rfl

theorem dcut_key (sp nm k : ByteArray) (w : World) (hk : k = sp ++ ⟨#[47]⟩ ++ nm) (h1 : D.maySp sp.data.toList = true) (h2 : D.isName nm.data.toList = true) :
    Calls Tryz.prog 86 #[.string k] w fun e w' => e = .returned (.tuple #[.string sp, .string nm, .int .i64 0]) ∧ Below w.heap.size w w' := by
  subst hk
  have a1 := maySp_len h1
  have a2 := isName_len h2
  have hsz := key_size sp nm
  have := dcut_yes (sp ++ ⟨#[47]⟩ ++ nm) sp.size w (small_len (by omega)) (by omega) (key_index sp nm h1) (by rw [key_head]; exact h1) (by rw [key_tail]; exact h2)
  rw [key_head, key_tail] at this
  exact this

end Go.Proofs.YtphinklnbjpohaaGreatDoor
namespace Go.Proofs.YtphinklnbjpohaaGreatDoor
set_option maxRecDepth 20000
open Go Go.RowKit Go.Shelf

theorem under_iff {a b : List UInt8} : under a b = true ↔ D.isName a = true ∧ D.isName b = true ∧ (46 :: b) <:+ a := by
  unfold under Lib.hasSuffix
  rw [Bool.and_eq_true, Bool.and_eq_true, List.isSuffixOf_iff_suffix, and_assoc]
theorem under_len {a b : List UInt8} (h : under a b = true) : b.length + 1 ≤ a.length := by
  have := (under_iff.1 h).2.2.length_le
  simpa using this
theorem under_self (a : List UInt8) : under a a = false := by
  cases h : under a a
  · rfl
  · have := under_len h; omega
theorem under_not_back {a b : List UInt8} (h : under a b = true) : under b a = false := by
  cases h' : under b a
  · rfl
  · have := under_len h; have := under_len h'; omega
theorem under_trans {a b c : List UInt8} (h : under a b = true) (k : under b c = true) : under a c = true := by
  obtain ⟨h1, h2, h3⟩ := under_iff.1 h
  obtain ⟨_, k2, k3⟩ := under_iff.1 k
  exact under_iff.2 ⟨h1, k2, (k3.trans (List.suffix_cons 46 b)).trans h3⟩

theorem label_no_dot {l : List UInt8} (h : D.isLabel l = true) : ∀ x ∈ l, x ≠ 46 := fun x hx => (inLab_ne (label_octets h x hx)).2

theorem isName_iff {l : List UInt8} : D.isName l = true ↔ l.length ≤ 60 ∧ ∀ p ∈ D.spl 46 l, D.isLabel p = true := by
  unfold D.isName
  rw [Bool.and_eq_true, decide_eq_true_eq, List.all_eq_true]

theorem name_dot {a b : List UInt8} (ha : D.isName a = true) (hb : D.isLabel b = true) (hl : a.length + b.length < 60) : D.isName (b ++ 46 :: a) = true := by
  rw [isName_iff, D.spl_at (label_no_dot hb)]
  refine ⟨by simp; omega, fun p hp => ?_⟩
  rcases List.mem_cons.1 hp with rfl | hp
  · exact hb
  · exact (isName_iff.1 ha).2 p hp

theorem under_dot {a b : List UInt8} (ha : D.isName a = true) (hb : D.isLabel b = true) (hl : a.length + b.length < 60) : under (b ++ 46 :: a) a = true :=
  under_iff.2 ⟨name_dot ha hb hl, ha, List.suffix_append b _⟩

theorem label_pos {l : List UInt8} (h : D.isLabel l = true) : l ≠ [] := by
  rintro rfl
  revert h
  decide

theorem under_glued {a b : List UInt8} (hb : D.isLabel b = true) : under (b ++ a) a = false := by
  cases h : under (b ++ a) a
  · rfl
  · obtain ⟨_, _, t, ht⟩ := under_iff.1 h
    have hlen := congrArg List.length ht
    simp at hlen
    have h2 : t ++ [46] ++ a = b ++ a := by rw [← ht]; simp
    have h3 := List.append_cancel_right h2
    exact absurd rfl (label_no_dot hb 46 (by rw [← h3]; simp))

theorem dot_cat (a b : ByteArray) : (b ++ ⟨#[46]⟩ ++ a).data.toList = b.data.toList ++ 46 :: a.data.toList := by
  simp [ByteArray.data_append]
theorem cat_data (a b : ByteArray) : (b ++ a).data.toList = b.data.toList ++ a.data.toList := by
  simp [ByteArray.data_append]
theorem dot_size (a b : ByteArray) : (b ++ ⟨#[46]⟩ ++ a).size = b.size + 1 + a.size := by
  simp only [ByteArray.size_append]; rfl

end Go.Proofs.YtphinklnbjpohaaGreatDoor
namespace Go.Proofs.YtphinklnbjpohaaGreatDoor
set_option maxRecDepth 20000
open Go Go.RowKit Go.Shelf

/-- the parts with a dot between each two -/
def jn : List (List UInt8) → List UInt8
  | [] => []
  | p :: ps => p ++ ps.flatMap (fun q => 46 :: q)

theorem jn_cons (p : List UInt8) {ps : List (List UInt8)} (h : ps ≠ []) : jn (p :: ps) = p ++ 46 :: jn ps := by
  cases ps with
  | nil => exact absurd rfl h
  | cons q qs => simp [jn]

theorem jn_spl (l : List UInt8) : jn (D.spl 46 l) = l := by
  induction l with
  | nil => simp [D.spl, jn]
  | cons a r ih =>
    have hne := D.spl_ne 46 r
    unfold D.spl
    split
    · rename_i h; rw [jn_cons _ hne, ih, h]; rfl
    · cases hs : D.spl 46 r with
      | nil => exact absurd hs hne
      | cons q t => rw [hs] at ih; simp [jn] at ih ⊢; exact ih

theorem jn_snoc {ps : List (List UInt8)} (p : List UInt8) (h : ps ≠ []) : jn (ps ++ [p]) = jn ps ++ 46 :: p := by
  cases ps with
  | nil => exact absurd rfl h
  | cons q qs => simp [jn]

theorem jn_take_succ {ps : List (List UInt8)} {k : Nat} (hk : k < ps.length) (h0 : 0 < k) : jn (ps.take (k + 1)) = jn (ps.take k) ++ 46 :: ps[k] := by
  rw [List.take_succ_eq_append_getElem hk, jn_snoc]
  intro h
  have := congrArg List.length h
  rw [List.length_take, List.length_nil] at this
  omega
theorem jn_take_one {ps : List (List UInt8)} (hk : 0 < ps.length) : jn (ps.take 1) = ps[0] := by
  rw [List.take_succ_eq_append_getElem hk]; simp [jn]

theorem jn_take_len (ps : List (List UInt8)) (k : Nat) : (jn (ps.take k)).length ≤ (jn ps).length := by
  cases ps with
  | nil => simp
  | cons p ps =>
    cases k with
    | zero => simp [jn]
    | succ k =>
      have h : ps.flatMap (fun q => 46 :: q) = (ps.take k).flatMap (fun q => 46 :: q) ++ (ps.drop k).flatMap (fun q => (46 : UInt8) :: q) := by
        rw [← List.flatMap_append, List.take_append_drop]
      simp only [List.take_succ_cons, jn, List.length_append, h]
      omega

theorem spl_append (a b : List UInt8) : D.spl 46 (a ++ 46 :: b) = D.spl 46 a ++ D.spl 46 b := by
  induction a with
  | nil => simp [D.spl]
  | cons x r ih =>
    have hne := D.spl_ne 46 r
    rw [List.cons_append]
    conv => lhs; unfold D.spl
    conv => rhs; lhs; unfold D.spl
    rw [ih]
    split
    · simp
    · cases hs : D.spl 46 r with
      | nil => exact absurd hs hne
      | cons q t => simp

theorem name_more {s m : List UInt8} (hs : D.isName s = true) : D.isName (s ++ 46 :: m) = (D.isName m && decide ((s ++ 46 :: m).length ≤ 60)) := by
  rw [Bool.eq_iff_iff, Bool.and_eq_true, decide_eq_true_eq, isName_iff, isName_iff, spl_append]
  have h := (isName_iff.1 hs).2
  constructor
  · rintro ⟨h1, h2⟩
    exact ⟨⟨by simp at h1; omega, fun p hp => h2 p (List.mem_append_right _ hp)⟩, h1⟩
  · rintro ⟨⟨_, h2⟩, h1⟩
    exact ⟨h1, fun p hp => (List.mem_append.1 hp).elim (h p) (h2 p)⟩

theorem part_data (c : UInt8) (s : ByteArray) {k : Nat} (hk : k < (parts c s).length) : (parts c s)[k].data.toList = (D.spl c s.data.toList)[k]'(by rw [← parts_len]; exact hk) := by
  simp [parts]

theorem part_label (s : ByteArray) (h : D.isName s.data.toList = true) {k : Nat} (hk : k < (parts 46 s).length) : D.isLabel (parts 46 s)[k].data.toList = true := by
  rw [part_data]
  exact (isName_iff.1 h).2 _ (List.getElem_mem _)

end Go.Proofs.YtphinklnbjpohaaGreatDoor
namespace Go.Proofs.YtphinklnbjpohaaGreatDoor
set_option maxRecDepth 20000
open Go Go.RowKit Go.Shelf

theorem foldL_label {l : List UInt8} (h : D.isLabel l = true) : foldL l = l := by
  have ho := label_octets h
  unfold foldL
  conv => rhs; rw [← List.map_id l]
  refine List.map_congr_left (fun c hc => foldc_no ?_)
  have := ho c hc
  simp only [D.inLab, decide_eq_true_eq] at this
  omega

end Go.Proofs.YtphinklnbjpohaaGreatDoor
namespace Go.Proofs.YtphinklnbjpohaaGreatDoor
set_option maxRecDepth 20000
open Go Go.RowKit Go.Shelf

theorem parts_none {c : UInt8} {s : ByteArray} (h : ∀ x ∈ s.data.toList, x ≠ c) : parts c s = [s] := by
  unfold parts
  rw [D.spl_none h]
  simp
theorem parts_some {c : UInt8} {s : ByteArray} {i : Nat} (hcut : s.data.toList = s.data.toList.take i ++ c :: s.data.toList.drop (i + 1)) (hno : ∀ x ∈ s.data.toList.take i, x ≠ c) :
    parts c s = s.extract 0 i :: parts c (s.extract (i + 1) s.size) := by
  unfold parts
  rw [spl_idx_some hcut hno, Lib.extract_to_end]
  have hfr : s.extract 0 i = ⟨(s.data.toList.take i).toArray⟩ := by rw [Lib.extract_eq]; simp
  rw [hfr]
  rfl

theorem name_octets {l : List UInt8} (h : D.isName l = true) : ∀ x ∈ l, x ≠ 47 := by
  have h2 := (isName_iff.1 h).2
  intro x hx
  have hm : ∀ (l : List UInt8), x ∈ l → x = 46 ∨ ∃ p ∈ D.spl 46 l, x ∈ p := by
    intro l
    induction l with
    | nil => intro h; cases h
    | cons a r ih =>
      intro hx
      have hne := D.spl_ne 46 r
      unfold D.spl
      rcases List.mem_cons.1 hx with rfl | hx
      · split
        · rename_i e; exact .inl e
        · exact .inr ⟨_, List.mem_cons_self .., List.mem_cons_self ..⟩
      · rcases ih hx with e | ⟨p, hp, hxp⟩
        · exact .inl e
        · right
          split
          · exact ⟨p, List.mem_cons_of_mem _ hp, hxp⟩
          · cases hs : D.spl 46 r with
            | nil => exact absurd hs hne
            | cons q t =>
              rw [hs] at hp
              rcases List.mem_cons.1 hp with rfl | hp
              · exact ⟨_, List.mem_cons_self .., List.mem_cons_of_mem _ hxp⟩
              · exact ⟨p, List.mem_cons_of_mem _ hp, hxp⟩
  rcases hm l hx with rfl | ⟨p, hp, hxp⟩
  · decide
  · exact (inLab_ne (label_octets (h2 p hp) x hxp)).1

set_option maxHeartbeats 800000 in
theorem rcut_len (s : ByteArray) (w : World) (hs : s.size ≤ 100) (h : (parts 47 s).length ≠ 2) :
    Calls Tryz.prog 87 #[.string s] w fun e w' => e = .returned (.tuple #[.string ⟨#[]⟩, .string ⟨#[]⟩, .bool false]) ∧ Below w.heap.size w w' := by
  have t1 : (((parts 47 s).length : Int) != 2) = true := by rw [bne_iff_ne]; omega
  clear h
  go_enter Tryz.func87, Tryz.ntmps87
  go_wp2_with fail
  refine (rsplit47 _ _ (by omega)).mono ?_
  rintro e w1 ⟨v, rfl, hS, hb1⟩
  obtain ⟨a, ca, rfl, hca⟩ := hS
  clear hca
  go_wp2_with fail
  go_ret3
  exact ⟨rfl, hb1⟩

theorem lt_of_cell {w : World} {a : Addr} {u : Value} (h : w.cell? a = some u) : a.block < w.heap.size := by
  obtain ⟨o, ho, _⟩ := cells_of_cell h
  exact (Array.getElem?_eq_some_iff.1 ho).1

/-- two parts, in memory -/
theorem strs_pair {w : World} {v : Value} {p q : ByteArray} (h : Strs w v [p, q]) : ∃ g cap, v = .slice (some ⟨g, 0, none⟩) 2 cap ∧ w.cell? ⟨g, 0, none⟩ = some (.string p) ∧ w.cell? ⟨g, 1, none⟩ = some (.string q) := by
  obtain ⟨a, ca, rfl, hca⟩ := h
  obtain ⟨g, rfl, _, c0⟩ := hca 0 (by simp)
  obtain ⟨g', e, _, c1⟩ := hca 1 (by simp)
  obtain rfl : g = g' := by injection e with e; injection e
  exact ⟨g, ca, rfl, c0, c1⟩

set_option maxHeartbeats 800000 in
theorem rcut_yes (s p q : ByteArray) (w : World) (hs : s.size ≤ 100) (hp : parts 47 s = [p, q]) (lp : p.size ≤ 100) (lq : q.size ≤ 100) (h1 : D.maySp p.data.toList = true) (h2 : D.isName q.data.toList = true) :
    Calls Tryz.prog 87 #[.string s] w fun e w' => e = .returned (.tuple #[.string p, .string q, .bool true]) ∧ Below w.heap.size w w' := by
  have H1 := hide h1
  have H2 := hide h2
  have HP := hide hp
  have lpm : p.size ≤ maxLen := small_len (by omega)
  clear h1 h2 hp
  go_enter Tryz.func87, Tryz.ntmps87
  go_wp2_with fail
  refine (rsplit47 _ _ (by omega)).mono ?_
  rintro e w1 ⟨v, rfl, hS, hb1⟩
  rw [HP.out] at hS
  obtain ⟨g, cap, rfl, c0, c1⟩ := strs_pair hS
  clear hS
  cases he : p.toList.isEmpty
  · have HL : Hid (D.isLabel p.data.toList = true) := by
      have := H1.out
      rw [Lib.toList_data] at he
      unfold D.maySp at this
      rw [he] at this
      exact this
    go_wp2_with fail
    refine (rlabel_any _ _ lpm).mono ?_
    rintro e x ⟨rfl, rfl⟩
    rw [HL.out]
    go_wp2_with fail
    refine (rname_any _ _ (by omega)).mono ?_
    rintro e x1 ⟨rfl, hx1⟩
    rw [H2.out]
    have hcell := fun (o : Nat) (u : Value) (hc : x.cell? ⟨g, o, none⟩ = some u) => (hx1.cell (p := ⟨g, o, none⟩) (lt_of_cell hc)).trans hc
    have d0 := hcell 0 _ c0
    have d1 := hcell 1 _ c1
    clear hcell c0 c1
    go_wp2_with fail
    go_region
    go_wp2_with fail
    go_ret3
    exact ⟨rfl, (hb1.trans (hx1.mono hb1.size)).drew⟩
  · go_wp2_with fail
    refine (rname_any _ _ (by omega)).mono ?_
    rintro e x1 ⟨rfl, hx1⟩
    rw [H2.out]
    have hcell := fun (o : Nat) (u : Value) (hc : w1.cell? ⟨g, o, none⟩ = some u) => (hx1.cell (p := ⟨g, o, none⟩) (lt_of_cell hc)).trans hc
    have d0 := hcell 0 _ c0
    have d1 := hcell 1 _ c1
    clear hcell c0 c1
    go_wp2_with fail
    go_region
    go_wp2_with fail
    go_ret3
    exact ⟨rfl, (hb1.trans (hx1.mono hb1.size)).drew⟩

set_option maxHeartbeats 800000 in
theorem rcut_no (s p q : ByteArray) (w : World) (hs : s.size ≤ 100) (hp : parts 47 s = [p, q]) (lp : p.size ≤ 100) (lq : q.size ≤ 100) (h : (D.maySp p.data.toList && D.isName q.data.toList) = false) :
    Calls Tryz.prog 87 #[.string s] w fun e w' => e = .returned (.tuple #[.string ⟨#[]⟩, .string ⟨#[]⟩, .bool false]) ∧ Below w.heap.size w w' := by
  have HP := hide hp
  have lpm : p.size ≤ maxLen := small_len (by omega)
  have HH := hide h
  clear hp h
  go_enter Tryz.func87, Tryz.ntmps87
  go_wp2_with fail
  refine (rsplit47 _ _ (by omega)).mono ?_
  rintro e w1 ⟨v, rfl, hS, hb1⟩
  rw [HP.out] at hS
  obtain ⟨g, cap, rfl, c0, c1⟩ := strs_pair hS
  clear hS
  cases he : p.toList.isEmpty
  · have hm : D.maySp p.data.toList = D.isLabel p.data.toList := by
      rw [Lib.toList_data] at he
      unfold D.maySp
      rw [he]
      rfl
    cases hl : D.isLabel p.data.toList
    · have HL := hide hl
      clear hl hm
      go_wp2_with fail
      refine (rlabel_any _ _ lpm).mono ?_
      rintro e x ⟨rfl, rfl⟩
      rw [HL.out]
      go_wp2_with fail
      go_ret3
      exact ⟨rfl, hb1⟩
    · have HL := hide hl
      have H2 : Hid (D.isName q.data.toList = false) := by have := HH.out; rw [hm, hl] at this; exact this
      clear hl hm
      go_wp2_with fail
      refine (rlabel_any _ _ lpm).mono ?_
      rintro e x ⟨rfl, rfl⟩
      rw [HL.out]
      go_wp2_with fail
      refine (rname_any _ _ (by omega)).mono ?_
      rintro e x1 ⟨rfl, hx1⟩
      rw [H2.out]
      go_wp2_with fail
      go_ret3
      exact ⟨rfl, hb1.trans (hx1.mono hb1.size)⟩
  · have H2 : Hid (D.isName q.data.toList = false) := by
      have := HH.out
      rw [Lib.toList_data] at he
      unfold D.maySp at this
      rw [he] at this
      exact this
    go_wp2_with fail
    refine (rname_any _ _ (by omega)).mono ?_
    rintro e x1 ⟨rfl, hx1⟩
    rw [H2.out]
    go_wp2_with fail
    go_ret3
    exact ⟨rfl, hb1.trans (hx1.mono hb1.size)⟩

end Go.Proofs.YtphinklnbjpohaaGreatDoor
namespace Go.Proofs.YtphinklnbjpohaaGreatDoor
set_option maxRecDepth 20000
open Go Go.RowKit Go.Shelf

theorem parts_one {c : UInt8} {s : ByteArray} (h : (parts c s).length = 1) : parts c s = [s] := by
  rcases idx_cases c s.data.toList with ⟨_, hno⟩ | ⟨i, _, _, hcut, hno⟩
  · exact parts_none hno
  · rw [parts_some hcut hno] at h
    have := D.spl_pos c (s.extract (i + 1) s.size).data.toList
    rw [← parts_len] at this
    simp at h
    rw [h] at this
    simp at this

/-- what Cut answers, and what the document's Cut answers -/
theorem cut_both (s : ByteArray) (hs : s.size ≤ 100) : ∃ (x y : ByteArray) (err : Int) (ok : Bool),
    (∀ w, Calls Tryz.prog 86 #[.string s] w fun e w' => e = .returned (.tuple #[.string x, .string y, .int .i64 err]) ∧ Below w.heap.size w w') ∧
    (∀ w, Calls Tryz.prog 87 #[.string s] w fun e w' => e = .returned (.tuple #[.string x, .string y, .bool ok]) ∧ Below w.heap.size w w') ∧
    (err = 0 ∧ ok = true ∨ err = 2 ∧ ok = false) := by
  have ls : s.size ≤ maxLen := small_len (by omega)
  rcases idx_cases 47 s.data.toList with ⟨hi, hno⟩ | ⟨i, hil, hi, hcut, hno⟩
  · exact ⟨⟨#[]⟩, ⟨#[]⟩, 2, false, fun w => dcut_none s w hi, fun w => rcut_len s w hs (by rw [parts_none hno]; simp), .inr ⟨rfl, rfl⟩⟩
  · have hil' : i < s.size := by simpa using hil
    have hps := parts_some hcut hno
    have l1 : (s.extract 0 i).size ≤ 100 := by rw [ByteArray.size_extract]; omega
    have l2 : (s.extract (i + 1) s.size).size ≤ 100 := by rw [ByteArray.size_extract]; omega
    cases h : (D.maySp (s.extract 0 i).data.toList && D.isName (s.extract (i + 1) s.size).data.toList)
    · refine ⟨⟨#[]⟩, ⟨#[]⟩, 2, false, fun w => dcut_no s i w ls hil' hi h, fun w => ?_, .inr ⟨rfl, rfl⟩⟩
      by_cases h2 : (parts 47 s).length = 2
      · have h1 : (parts 47 (s.extract (i + 1) s.size)).length = 1 := by rw [hps] at h2; simpa using h2
        rw [parts_one h1] at hps
        exact rcut_no s _ _ w hs hps l1 l2 h
      · exact rcut_len s w hs h2
    · rw [Bool.and_eq_true] at h
      rw [parts_none (name_octets h.2)] at hps
      exact ⟨_, _, 0, true, fun w => dcut_yes s i w ls hil' hi h.1 h.2, fun w => rcut_yes s _ _ w hs hps l1 l2 h.1 h.2, .inl ⟨rfl, rfl⟩⟩

end Go.Proofs.YtphinklnbjpohaaGreatDoor
namespace Go.Proofs.YtphinklnbjpohaaGreatDoor
set_option maxRecDepth 20000
open Go Go.RowKit Go.Shelf

theorem jn_append {ps qs : List (List UInt8)} (hp : ps ≠ []) (hq : qs ≠ []) : jn (ps ++ qs) = jn ps ++ 46 :: jn qs := by
  cases ps with
  | nil => exact absurd rfl hp
  | cons p ps =>
    cases qs with
    | nil => exact absurd rfl hq
    | cons q qs => simp [jn]

theorem suffix_spl (a b : List UInt8) : (46 :: b) <:+ a ↔ (D.spl 46 b).length < (D.spl 46 a).length ∧ D.spl 46 b <:+ D.spl 46 a := by
  constructor
  · rintro ⟨t, rfl⟩
    rw [spl_append]
    have := D.spl_pos 46 t
    exact ⟨by simp; omega, List.suffix_append _ _⟩
  · rintro ⟨hl, ps, hps⟩
    have hne : ps ≠ [] := by
      rintro rfl
      rw [← hps] at hl
      simp at hl
    refine ⟨jn ps, ?_⟩
    have h := jn_spl a
    rw [← hps, jn_append hne (D.spl_ne 46 b), jn_spl] at h
    exact h

theorem under_parts (a b : ByteArray) (h1 : D.isName a.data.toList = true) (h2 : D.isName b.data.toList = true) :
    under a.data.toList b.data.toList = decide ((parts 46 b).length < (parts 46 a).length ∧ parts 46 b <:+ parts 46 a) := by
  rw [Bool.eq_iff_iff, under_iff, decide_eq_true_eq, suffix_spl, parts_len, parts_len]
  constructor
  · rintro ⟨_, _, h3, t, h4⟩
    exact ⟨h3, t.map (fun l => ⟨l.toArray⟩), by unfold parts; rw [← List.map_append, h4]⟩
  · rintro ⟨h3, t, h4⟩
    refine ⟨h1, h2, h3, t.map (fun s => s.data.toList), ?_⟩
    have h5 := congrArg (List.map (fun s : ByteArray => s.data.toList)) h4
    unfold parts at h5
    rw [List.map_append, List.map_map, List.map_map] at h5
    simpa [Function.comp_def] using h5

theorem suffix_of_ends {xs ys : List ByteArray} (hl : ys.length ≤ xs.length) (h : ∀ i (hi : i < ys.length), xs[xs.length - 1 - i]'(by omega) = ys[ys.length - 1 - i]'(by omega)) : ys <:+ xs := by
  refine ⟨xs.take (xs.length - ys.length), ?_⟩
  have hd : ys = xs.drop (xs.length - ys.length) := by
    apply List.ext_getElem
    · simp; omega
    · intro j h1 h2
      have := h (ys.length - 1 - j) (by omega)
      rw [List.getElem_drop]
      have e1 : ys.length - 1 - (ys.length - 1 - j) = j := by omega
      have e2 : xs.length - 1 - (ys.length - 1 - j) = xs.length - ys.length + j := by omega
      simp only [e1, e2] at this
      exact this.symm
  conv => lhs; rhs; rw [hd]
  exact List.take_append_drop _ _
theorem not_suffix_of_end {xs ys : List ByteArray} {i : Nat} (hi : i < ys.length) (hx : i < xs.length) (h : xs[xs.length - 1 - i]'(by omega) ≠ ys[ys.length - 1 - i]'(by omega)) : ¬ ys <:+ xs := by
  rintro ⟨t, rfl⟩
  apply h
  have e : (t ++ ys).length - 1 - i = t.length + (ys.length - 1 - i) := by simp; omega
  simp only [e]
  rw [List.getElem_append_right (by omega)]
  simp

end Go.Proofs.YtphinklnbjpohaaGreatDoor
namespace Go.Proofs.YtphinklnbjpohaaGreatDoor
set_option maxRecDepth 20000
open Go Go.RowKit Go.Shelf

end Go.Proofs.YtphinklnbjpohaaGreatDoor
