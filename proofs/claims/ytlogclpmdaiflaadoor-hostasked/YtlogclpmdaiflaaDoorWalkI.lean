/-
  Walks: Fold.
-/
import Derived.Test.YtlogclpmdaiflaaDoorLawC
import Derived.Laws.IdiomStrings
namespace Go.Proofs.YtlogclpmdaiflaaDoor
open Go Go.RowKit Go.Shelf

/-- a small letter for a great one -/
def foldc (c : UInt8) : UInt8 := if 65 ≤ c.toNat ∧ c.toNat ≤ 90 then c + 32 else c
def foldL (l : List UInt8) : List UInt8 := l.map foldc

theorem foldc_yes {c : UInt8} (h1 : 65 ≤ c.toNat) (h2 : c.toNat ≤ 90) : ((foldc c).toNat : Int) = (c.toNat : Int) + 32 := by
  unfold foldc
  rw [if_pos ⟨h1, h2⟩, UInt8.toNat_add]
  have : (32 : UInt8).toNat = 32 := rfl
  rw [this]
  omega
theorem foldc_no {c : UInt8} (h : ¬ (65 ≤ c.toNat ∧ c.toNat ≤ 90)) : foldc c = c := by unfold foldc; rw [if_neg h]

/-- the octets l lie in the block g -/
def BytesAt (W : World) (g : Nat) (l : List UInt8) : Prop := ∀ j (hj : j < l.length), W.cell? ⟨g, j, none⟩ = some (.int .u8 (l[j].toNat : Int)) ∧ W.frozen? ⟨g, j, none⟩ = false

theorem BytesAt.set {W : World} {g : Nat} {l : List UInt8} (h : BytesAt W g l) {k : Nat} (c : UInt8) : BytesAt (W.setCell ⟨g, k, none⟩ (.int .u8 (c.toNat : Int))) g (l.set k c) := fun j hj => by
  have hj' : j < l.length := by simpa using hj
  obtain ⟨h1, h2⟩ := h j hj'
  refine ⟨?_, by rw [World.frozen?_setCell]; exact h2⟩
  by_cases e : k = j
  · subst e
    rw [World.cell?_setCell_same' _ _ _ (by rw [h1]; rfl)]
    simp
  · rw [World.cell?_setCell_other (w := W) (a := ⟨g, k, none⟩) (b := ⟨g, j, none⟩) (h := fun e' => e (Addr.mk.inj e').2.1), h1, List.getElem_set_ne e]

/-- how far the fold has come -/
def foldTo (l : List UInt8) (k : Nat) : List UInt8 := foldL (l.take k) ++ l.drop k

theorem foldTo_len (l : List UInt8) (k : Nat) : (foldTo l k).length = l.length := by
  simp [foldTo, foldL]; omega
theorem foldTo_at (l : List UInt8) (k : Nat) (h : k < l.length) : (foldTo l k)[k]'(by rw [foldTo_len]; exact h) = l[k] := by
  have hl : (foldL (l.take k)).length = k := by simp [foldL]; omega
  simp only [foldTo]
  rw [List.getElem_append_right (by omega)]
  simp [hl]
theorem foldTo_succ (l : List UInt8) (k : Nat) (h : k < l.length) : foldTo l (k + 1) = (foldTo l k).set k (foldc l[k]) := by
  have hl : (foldL (l.take k)).length = k := by simp [foldL]; omega
  unfold foldTo
  rw [List.set_append_right _ _ (by omega), hl, Nat.sub_self, List.drop_eq_getElem_cons h, List.set_cons_zero, List.take_succ_eq_append_getElem h]
  simp only [foldL, List.map_append, List.map_cons, List.map_nil, List.append_assoc, List.singleton_append]

/-- the world behind '[]byte(s)' -/
theorem bytes_made (s : ByteArray) (w : World) : ∃ cap W1, (convert 9 42 (.string s)).run Tryd.prog w = .ok (.slice (some ⟨w.heap.size, 0, none⟩) s.size cap) W1 ∧ BytesAt W1 w.heap.size s.data.toList ∧ Below w.heap.size w W1 := by
  refine ⟨_, _, run_bytes_of_string (P := Tryd.prog) w 9 42 5 s Tryd.underlying9 Tryd.underlying42 Tryd.underlying5, ?_, ((Below.refl _ w).drew).alloc (Nat.le_refl _) _⟩
  intro j hj
  have hj' : j < s.data.size := by simpa using hj
  have hb := bytesRow_at s (grownCap w s.size 0 5) j hj'
  have h1 := World.cell?_alloc_mark w.drew (bytesRow s (grownCap w s.size 0 5)) 5 ((bytesRow s (grownCap w s.size 0 5)).size, (bytesRow s (grownCap w s.size 0 5)).size + 1) j
  have h2 := World.frozen?_alloc_mark w.drew (bytesRow s (grownCap w s.size 0 5)) 5 (bytesRow s (grownCap w s.size 0 5)).size ((bytesRow s (grownCap w s.size 0 5)).size + 1) j
  refine ⟨h1.trans (hb.trans (by simp)), h2.trans ?_⟩
  have hlt := (Array.getElem?_eq_some_iff.1 hb).1
  simp; omega

theorem addr_add (g j : Nat) : (⟨g, 0, none⟩ : Addr).add j = ⟨g, j, none⟩ := by
  cases j with
  | zero => rfl
  | succ j => simp [Addr.add]

set_option maxHeartbeats 800000 in
theorem fold_any (s : ByteArray) (w : World) (hs : s.size ≤ maxLen) :
    Calls Tryd.prog 34 #[.string s] w fun e w' => e = .returned (.string ⟨(foldL s.data.toList).toArray⟩) ∧ Below w.heap.size w w' := by
  unfold maxLen at hs
  have hsl : s.data.toList.length = s.size := Array.length_toList
  obtain ⟨cap, W1, hconv, hB1, hb1⟩ := bytes_made s w
  have HB1 := hide hB1
  have HSL := hide hsl
  clear hB1 hsl
  go_enter Tryd.func34, Tryd.ntmps34
  go_wp2
  go_loopw [10] (fun i wr => ∃ k : Nat, k ≤ s.size ∧ i = .int .i64 k ∧ Hid (BytesAt wr w.heap.size (foldTo s.data.toList k)) ∧ Below w.heap.size w wr) (fun i _ => s.size - (intOf i).toNat)
  case atStart => exact ⟨0, Nat.zero_le _, rfl, HB1.out, hb1⟩
  case round =>
    clear hconv
    obtain ⟨k, hk, rfl, hBk, hb⟩ := hrel
    by_cases hlt : k < s.size
    · have hlt' : (k : Int) < (s.size : Int) := by omega
      have hkl : k < s.data.toList.length := by rw [HSL.out]; exact hlt
      obtain ⟨c1, c2⟩ := hBk.out k (by rw [foldTo_len]; exact hkl)
      rw [foldTo_at _ _ hkl] at c1
      have hsucc := hide (foldTo_succ s.data.toList k hkl)
      generalize hc : s.data.toList[k] = c at *
      have HC := hide hc
      clear hc
      have hc8 := c.toNat_lt
      by_cases hup : 65 ≤ c.toNat ∧ c.toNat ≤ 90
      · obtain ⟨hu1, hu2⟩ := hup
        have hf := hide (foldc_yes hu1 hu2)
        have i1 : (65 : Int) ≤ (c.toNat : Int) := by omega
        have i2 : (c.toNat : Int) ≤ 90 := by omega
        go_wp2
        have hv : (c.toNat : Int) - 65 + 97 = ((foldc c).toNat : Int) := by rw [hf.out]; omega
        rw [hv]
        refine ⟨⟨k + 1, by omega, by go_num, ?_, hb.setCell (p := ⟨w.heap.size, k, none⟩) (Nat.le_refl _) _⟩, by simp [intOf]; omega⟩
        unfold Hid
        rw [hsucc.out]
        exact hBk.out.set _
      · have hfn : foldTo s.data.toList (k + 1) = foldTo s.data.toList k := by
          rw [hsucc.out, foldc_no hup, ← HC.out]
          conv => lhs; rw [← foldTo_at _ _ hkl]
          exact List.set_getElem_self _
        have HF := hide hfn
        clear hfn
        by_cases h65 : (65 : Int) ≤ (c.toNat : Int)
        · have h90 : ¬ (c.toNat : Int) ≤ 90 := by omega
          go_wp2
          refine ⟨⟨k + 1, by omega, by go_num, by rw [HF.out]; exact hBk, hb⟩, by simp [intOf]; omega⟩
        · go_wp2
          refine ⟨⟨k + 1, by omega, by go_num, by rw [HF.out]; exact hBk, hb⟩, by simp [intOf]; omega⟩
    · have hks : k = s.size := by omega
      subst hks
      have hall : foldTo s.data.toList s.size = foldL s.data.toList := by
        unfold foldTo
        rw [List.take_of_length_le (by rw [HSL.out]; omega), List.drop_eq_nil_of_le (by rw [HSL.out]; omega), List.append_nil]
      have hBk' := hBk.out
      rw [hall] at hBk'
      have hback := run_convert_bytes_back (P := Tryd.prog) wr 42 9 5 ⟨w.heap.size, 0, none⟩ cap (foldL s.data.toList) Tryd.underlying42 Tryd.underlying5 Tryd.underlying9 (fun j hj => by
        have := (hBk' j hj).1
        rw [addr_add]
        exact this)
      have hfl : (foldL s.data.toList).length = s.size := by rw [← HSL.out]; simp [foldL]
      rw [hfl] at hback
      clear hall hBk' hfl
      go_wp2
      go_ret
      exact ⟨rfl, hb⟩

end Go.Proofs.YtlogclpmdaiflaaDoor
