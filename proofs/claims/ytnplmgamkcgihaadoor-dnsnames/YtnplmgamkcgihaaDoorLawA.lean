/-
  The law DnsBacks: its walk.
-/
import Derived.Test.YtnplmgamkcgihaaDoorWalkH
namespace Go.Proofs.YtnplmgamkcgihaaDoor
open Go Go.RowKit Go.Shelf

theorem inLab_ne {c : UInt8} (h : D.inLab c.toNat = true) : c ≠ 47 ∧ c ≠ 46 := by
  constructor <;> (rintro rfl; revert h; decide)

theorem label_octets {l : List UInt8} (h : D.isLabel l = true) : ∀ x ∈ l, D.inLab x.toNat = true := by
  simp only [D.isLabel, Bool.and_eq_true] at h
  exact List.all_eq_true.1 h.1.1.2

theorem maySp_octets {l : List UInt8} (h : D.maySp l = true) : ∀ x ∈ l, x ≠ 47 := by
  unfold D.maySp at h
  rcases Bool.or_eq_true _ _ ▸ h with h | h
  · rw [List.isEmpty_iff.1 h]; simp
  · exact fun x hx => (inLab_ne (label_octets h x hx)).1

theorem index_at {c : UInt8} : ∀ {l r : List UInt8}, (∀ x ∈ l, x ≠ c) → Lib.indexByte (l ++ c :: r) c = l.length
  | [], r, _ => by simp [Lib.indexByte]
  | a :: l, r, h => by
    have ih := index_at (r := r) (fun x hx => h x (List.mem_cons_of_mem _ hx))
    have ha : a ≠ c := h a (by simp)
    have hne : ¬ ((l.length : Int) = -1) := by omega
    simp [Lib.indexByte, ha, ih, hne]

theorem key_data (a b : ByteArray) : (a ++ ⟨#[47]⟩ ++ b).data.toList = a.data.toList ++ 47 :: b.data.toList := by
  simp [ByteArray.data_append]
theorem bytes_ext {a b : ByteArray} (h : a.data.toList = b.data.toList) : a = b := by rw [← Lib.mk_data a, h, Lib.mk_data]
theorem key_size (a b : ByteArray) : (a ++ ⟨#[47]⟩ ++ b).size = a.size + 1 + b.size := by
  simp only [ByteArray.size_append]; rfl
theorem key_head (a b : ByteArray) : (a ++ ⟨#[47]⟩ ++ b).extract 0 a.size = a := by
  apply bytes_ext
  rw [Lib.extract_data, key_data]
  simp
theorem key_tail (a b : ByteArray) : (a ++ ⟨#[47]⟩ ++ b).extract (a.size + 1) (a ++ ⟨#[47]⟩ ++ b).size = b := by
  apply bytes_ext
  rw [Lib.extract_to_end, key_data]
  have e : a.size + 1 = a.data.toList.length + 1 := by rw [Array.length_toList]; rfl
  rw [e, List.drop_append]
  simp
theorem key_index (a b : ByteArray) (h : D.maySp a.data.toList = true) : Lib.indexByte (a ++ ⟨#[47]⟩ ++ b).data.toList 47 = a.size := by
  rw [key_data, index_at (maySp_octets h), Array.length_toList]; rfl

theorem dcut_key (sp nm k : ByteArray) (w : World) (hk : k = sp ++ ⟨#[47]⟩ ++ nm) (h1 : D.maySp sp.data.toList = true) (h2 : D.isName nm.data.toList = true) :
    Calls Tryd.prog 23 #[.string k] w fun e w' => e = .returned (.tuple #[.string sp, .string nm, .int .i64 0]) ∧ Below w.heap.size w w' := by
  subst hk
  have a1 := maySp_len h1
  have a2 := isName_len h2
  have hsz := key_size sp nm
  have := dcut_yes (sp ++ ⟨#[47]⟩ ++ nm) sp.size w (small_len (by omega)) (by omega) (key_index sp nm h1) (by rw [key_head]; exact h1) (by rw [key_tail]; exact h2)
  rw [key_head, key_tail] at this
  exact this

set_option maxHeartbeats 800000 in
theorem backs_any (s1 s2 : ByteArray) (w : World) (hs1 : s1.size ≤ maxLen) (hs2 : s2.size ≤ maxLen) :
    Calls Tryd.prog 5 #[.string s1, .string s2] w fun e w' => e = .returned (.bool true) ∧ Below w.heap.size w w' := by
  go_enter Tryd.func5, Tryd.ntmps5
  go_wp2_with fail
  refine (few_any _ _ hs1).mono ?_
  rintro e w' ⟨sp, rfl, hsp, rfl⟩
  go_wp2_with fail
  refine (few_any _ _ hs2).mono ?_
  rintro e w1 ⟨nm, rfl, hnm, rfl⟩
  go_wp2_with fail
  have lsp : sp.size ≤ maxLen := small_len (by omega)
  have lnm : nm.size ≤ maxLen := small_len (by omega)
  cases h : (D.maySp sp.data.toList && D.isName nm.data.toList)
  · have H := hide h
    clear h
    refine (key_no _ _ _ lsp lnm H.out).mono ?_
    rintro e w2 ⟨rfl, hb2⟩
    go_wp2_with fail
    refine (awake_any _).mono ?_
    rintro e w3 ⟨rfl, hb3⟩
    go_wp2_with fail
    go_ret
    exact ⟨rfl, hb2.trans (hb3.mono hb2.size)⟩
  · have H1 : Hid (D.maySp sp.data.toList = true) := (Bool.and_eq_true _ _ ▸ h).1
    have H2 : Hid (D.isName nm.data.toList = true) := (Bool.and_eq_true _ _ ▸ h).2
    clear h
    refine (key_yes _ _ _ lsp lnm H1.out H2.out).mono ?_
    rintro e w2 ⟨rfl, hb2⟩
    have hks := key_size sp nm
    generalize hk : sp ++ ⟨#[47]⟩ ++ nm = k at *
    have HK := hide hk
    clear hk
    go_wp2_with fail
    refine (dcut_key sp nm k _ HK.out.symm H1.out H2.out).mono ?_
    rintro e w3 ⟨rfl, hb3⟩
    have hsum : ((k.size : Int) == (sp.size : Int) + 1 + (nm.size : Int)) = true := by rw [beq_iff_eq]; omega
    have HKS := hide hks
    clear hks
    go_wp2_with fail
    refine (awake_any _).mono ?_
    rintro e w4 ⟨rfl, hb4⟩
    go_wp2_with fail
    go_ret
    have b3 := hb2.trans (hb3.mono hb2.size)
    exact ⟨rfl, b3.trans (hb4.mono b3.size)⟩

end Go.Proofs.YtnplmgamkcgihaaDoor
