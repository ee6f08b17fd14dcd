/-
  Folding (small letters for great ones): dns.Fold, the document's Fold.
-/
import Derived.Test.YtblmdcpcekoogaaGreatDoorCore
import Derived.Laws.IdiomStrings
namespace Go.Proofs.YtblmdcpcekoogaaGreatDoor
set_option maxRecDepth 20000
open Go Go.RowKit Go.Shelf

/-- a small letter for a great one -/
def foldc (c : UInt8) : UInt8 := if 65 ≤ c.toNat ∧ c.toNat ≤ 90 then c + 32 else c
def foldL (l : List UInt8) : List UInt8 := l.map foldc

theorem foldc_yes {c : UInt8} (h1 : 65 ≤ c.toNat) (h2 : c.toNat ≤ 90) : ((foldc c).toNat : Int) = (c.toNat : Int) + 32 := by
  unfold foldc
  rw [if_pos ⟨h1, h2⟩, UInt8.toNat_add]
  have : (32 : UInt8).toNat = 32 := rfl
  rw [this]
  omega
theorem foldc_no {c : UInt8} (h : ¬ (65 ≤ c.toNat ∧ c.toNat ≤ 90)) : foldc c = c := by unfold foldc; rw [if_neg h]

/-- the octets l lie in the block g -/
def BytesAt (W : World) (g : Nat) (l : List UInt8) : Prop := ∀ j (hj : j < l.length), W.cell? ⟨g, j, none⟩ = some (.int .u8 (l[j].toNat : Int)) ∧ W.frozen? ⟨g, j, none⟩ = false

theorem BytesAt.set {W : World} {g : Nat} {l : List UInt8} (h : BytesAt W g l) {k : Nat} (c : UInt8) : BytesAt (W.setCell ⟨g, k, none⟩ (.int .u8 (c.toNat : Int))) g (l.set k c) := fun j hj => by
  have hj' : j < l.length := by simpa using hj
  obtain ⟨h1, h2⟩ := h j hj'
  refine ⟨?_, by rw [World.frozen?_setCell]; exact h2⟩
  by_cases e : k = j
  · subst e
    rw [World.cell?_setCell_same' _ _ _ (by rw [h1]; rfl)]
    simp
  · rw [World.cell?_setCell_other (w := W) (a := ⟨g, k, none⟩) (b := ⟨g, j, none⟩) (h := fun e' => e (Addr.mk.inj e').2.1), h1, List.getElem_set_ne e]

/-- how far the fold has come -/
def foldTo (l : List UInt8) (k : Nat) : List UInt8 := foldL (l.take k) ++ l.drop k

theorem foldTo_len (l : List UInt8) (k : Nat) : (foldTo l k).length = l.length := by
  simp [foldTo, foldL]; omega
theorem foldTo_at (l : List UInt8) (k : Nat) (h : k < l.length) : (foldTo l k)[k]'(by rw [foldTo_len]; exact h) = l[k] := by
  have hl : (foldL (l.take k)).length = k := by simp [foldL]; omega
  simp only [foldTo]
  rw [List.getElem_append_right (by omega)]
  simp [hl]
theorem foldTo_succ (l : List UInt8) (k : Nat) (h : k < l.length) : foldTo l (k + 1) = (foldTo l k).set k (foldc l[k]) := by
  have hl : (foldL (l.take k)).length = k := by simp [foldL]; omega
  unfold foldTo
  rw [List.set_append_right _ _ (by omega), hl, Nat.sub_self, List.drop_eq_getElem_cons h, List.set_cons_zero, List.take_succ_eq_append_getElem h]
  simp only [foldL, List.map_append, List.map_cons, List.map_nil, List.append_assoc, List.singleton_append]

/-- the world behind '[]byte(s)' -/
theorem bytes_made (s : ByteArray) (w : World) : ∃ cap W1, (convert 9 144 (.string s)).run Tryz.prog w = .ok (.slice (some ⟨w.heap.size, 0, none⟩) s.size cap) W1 ∧ BytesAt W1 w.heap.size s.data.toList ∧ Below w.heap.size w W1 := by
  refine ⟨_, _, run_bytes_of_string (P := Tryz.prog) w 9 144 5 s Tryz.underlying9 Tryz.underlying144 Tryz.underlying5, ?_, ((Below.refl _ w).drew).alloc (Nat.le_refl _) _⟩
  intro j hj
  have hj' : j < s.data.size := by simpa using hj
  have hb := bytesRow_at s (grownCap w s.size 0 5) j hj'
  have h1 := World.cell?_alloc_mark w.drew (bytesRow s (grownCap w s.size 0 5)) 5 ((bytesRow s (grownCap w s.size 0 5)).size, (bytesRow s (grownCap w s.size 0 5)).size + 1) j
  have h2 := World.frozen?_alloc_mark w.drew (bytesRow s (grownCap w s.size 0 5)) 5 (bytesRow s (grownCap w s.size 0 5)).size ((bytesRow s (grownCap w s.size 0 5)).size + 1) j
  refine ⟨h1.trans (hb.trans (by simp)), h2.trans ?_⟩
  have hlt := (Array.getElem?_eq_some_iff.1 hb).1
  simp; omega

set_option maxHeartbeats 800000 in
theorem fold_any (s : ByteArray) (w : World) (hs : s.size ≤ maxLen) :
    Calls Tryz.prog 237 #[.string s] w fun e w' => e = .returned (.string ⟨(foldL s.data.toList).toArray⟩) ∧ Below w.heap.size w w' := by
  unfold maxLen at hs
  have hsl : s.data.toList.length = s.size := Array.length_toList
  obtain ⟨cap, W1, hconv, hB1, hb1⟩ := bytes_made s w
  have HB1 := hide hB1
  have HSL := hide hsl
  clear hB1 hsl
  go_enter Tryz.func237, Tryz.ntmps237
  go_wp2
  go_loopw [10] (fun i wr => ∃ k : Nat, k ≤ s.size ∧ i = .int .i64 k ∧ Hid (BytesAt wr w.heap.size (foldTo s.data.toList k)) ∧ Below w.heap.size w wr) (fun i _ => s.size - (intOf i).toNat)
  case atStart => exact ⟨0, Nat.zero_le _, rfl, HB1.out, hb1⟩
  case round =>
    clear hconv
    obtain ⟨k, hk, rfl, hBk, hb⟩ := hrel
    by_cases hlt : k < s.size
    · have hlt' : (k : Int) < (s.size : Int) := by omega
      have hkl : k < s.data.toList.length := by rw [HSL.out]; exact hlt
      obtain ⟨c1, c2⟩ := hBk.out k (by rw [foldTo_len]; exact hkl)
      rw [foldTo_at _ _ hkl] at c1
      have hsucc := hide (foldTo_succ s.data.toList k hkl)
      generalize hc : s.data.toList[k] = c at *
      have HC := hide hc
      clear hc
      have hc8 := c.toNat_lt
      by_cases hup : 65 ≤ c.toNat ∧ c.toNat ≤ 90
      · obtain ⟨hu1, hu2⟩ := hup
        have hf := hide (foldc_yes hu1 hu2)
        have i1 : (65 : Int) ≤ (c.toNat : Int) := by omega
        have i2 : (c.toNat : Int) ≤ 90 := by omega
        go_wp2
        have hv : (c.toNat : Int) - 65 + 97 = ((foldc c).toNat : Int) := by rw [hf.out]; omega
        rw [hv]
        refine ⟨⟨k + 1, by omega, by go_num, ?_, hb.setCell (p := ⟨w.heap.size, k, none⟩) (Nat.le_refl _) _⟩, by simp [intOf]; omega⟩
        unfold Hid
        rw [hsucc.out]
        exact hBk.out.set _
      · have hfn : foldTo s.data.toList (k + 1) = foldTo s.data.toList k := by
          rw [hsucc.out, foldc_no hup, ← HC.out]
          conv => lhs; rw [← foldTo_at _ _ hkl]
          exact List.set_getElem_self _
        have HF := hide hfn
        clear hfn
        by_cases h65 : (65 : Int) ≤ (c.toNat : Int)
        · have h90 : ¬ (c.toNat : Int) ≤ 90 := by omega
          go_wp2
          refine ⟨⟨k + 1, by omega, by go_num, by rw [HF.out]; exact hBk, hb⟩, by simp [intOf]; omega⟩
        · go_wp2
          refine ⟨⟨k + 1, by omega, by go_num, by rw [HF.out]; exact hBk, hb⟩, by simp [intOf]; omega⟩
    · have hks : k = s.size := by omega
      subst hks
      have hall : foldTo s.data.toList s.size = foldL s.data.toList := by
        unfold foldTo
        rw [List.take_of_length_le (by rw [HSL.out]; omega), List.drop_eq_nil_of_le (by rw [HSL.out]; omega), List.append_nil]
      have hBk' := hBk.out
      rw [hall] at hBk'
      have hback := run_convert_bytes_back (P := Tryz.prog) wr 144 9 5 ⟨w.heap.size, 0, none⟩ cap (foldL s.data.toList) Tryz.underlying144 Tryz.underlying5 Tryz.underlying9 (fun j hj => by
        have := (hBk' j hj).1
        rw [addr_add]
        exact this)
      have hfl : (foldL s.data.toList).length = s.size := by rw [← HSL.out]; simp [foldL]
      rw [hfl] at hback
      clear hall hBk' hfl
      go_wp2
      go_ret
      exact ⟨rfl, hb⟩

theorem foldc_not_up (c : UInt8) : ¬ (65 ≤ (foldc c).toNat ∧ (foldc c).toNat ≤ 90) := by
  by_cases h : 65 ≤ c.toNat ∧ c.toNat ≤ 90
  · have := foldc_yes h.1 h.2
    omega
  · rw [foldc_no h]; exact h
theorem foldc_twice (c : UInt8) : foldc (foldc c) = foldc c := foldc_no (foldc_not_up c)
theorem foldL_twice (l : List UInt8) : foldL (foldL l) = foldL l := by
  simp only [foldL, List.map_map]
  exact List.map_congr_left (fun c _ => foldc_twice c)
theorem foldL_len (l : List UInt8) : (foldL l).length = l.length := by simp [foldL]
/-- the folded text -/
def foldB (s : ByteArray) : ByteArray := ⟨(foldL s.data.toList).toArray⟩
theorem foldB_data (s : ByteArray) : (foldB s).data.toList = foldL s.data.toList := by simp [foldB]
theorem foldB_size (s : ByteArray) : (foldB s).size = s.size := by
  have h1 : (foldB s).data.toList.length = (foldB s).size := Array.length_toList
  have h2 : s.data.toList.length = s.size := Array.length_toList
  rw [← h1, foldB_data, foldL_len, h2]
theorem foldB_twice (s : ByteArray) : foldB (foldB s) = foldB s := by
  apply bytes_ext; rw [foldB_data, foldB_data, foldL_twice]
theorem foldB_at (s : ByteArray) (k : Nat) (h : k < s.size) (h' : k < (foldB s).size) : (foldB s)[k] = foldc s[k] := by
  have e1 : (foldB s)[k] = (foldB s).data.toList[k]'(by rw [Array.length_toList]; exact h') := rfl
  have e2 : s[k] = s.data.toList[k]'(by rw [Array.length_toList]; exact h) := rfl
  rw [e1, e2]
  simp [foldB, foldL]

theorem foldB_any (s : ByteArray) (w : World) (hs : s.size ≤ maxLen) :
    Calls Tryz.prog 237 #[.string s] w fun e w' => e = .returned (.string (foldB s)) ∧ Below w.heap.size w w' := fold_any s w hs

theorem foldL_take_succ (s : ByteArray) (k : Nat) (h : k < s.size) : foldL (s.data.toList.take (k + 1)) = foldL (s.data.toList.take k) ++ [foldc s[k]] := by
  rw [take_snoc' s k h]; simp only [foldL, List.map_append, List.map_cons, List.map_nil]

/-- 'string([]byte{c})' -/
theorem one_byte (W : World) (c : UInt8) : (convert 144 9 (.slice (some ⟨W.heap.size, 0, none⟩) 1 1)).run Tryz.prog (W.alloc (.cells #[.int .u8 (c.toNat : Int)] 5)) = .ok (.string ⟨#[c]⟩) (W.alloc (.cells #[.int .u8 (c.toNat : Int)] 5)) := by
  have := run_convert_bytes_back (P := Tryz.prog) (W.alloc (.cells #[.int .u8 (c.toNat : Int)] 5)) 144 9 5 ⟨W.heap.size, 0, none⟩ 1 [c] Tryz.underlying144 Tryz.underlying5 Tryz.underlying9 (fun j hj => by
    obtain rfl : j = 0 := by simp at hj; exact hj
    rw [addr_add]
    simp only [World.cell?]
    rw [alloc_new]
    rfl)
  exact this

theorem fold_round {s t : ByteArray} {k : Nat} {c : UInt8} {w W : World} (hlt : k < s.size) (ht : Hid (t.data.toList = foldL (s.data.toList.take k))) (hsucc : Hid (foldL (s.data.toList.take (k + 1)) = foldL (s.data.toList.take k) ++ [c])) (htl : t.size ≤ k) (hB : Below w.heap.size w W) :
    (∃ (k_1 : Nat) (t_1 : ByteArray), k_1 ≤ s.size ∧ Value.int .i64 ((k : Int) + 1) = Value.int .i64 (k_1 : Int) ∧ Value.string (t ++ ⟨#[c]⟩) = Value.string t_1 ∧ Hid (t_1.data.toList = foldL (s.data.toList.take k_1)) ∧ t_1.size ≤ k_1 ∧ Below w.heap.size w W) ∧
      s.size - (intOf (Value.int .i64 ((k : Int) + 1))).toNat < s.size - (intOf (Value.int .i64 (k : Int))).toNat := by
  refine ⟨⟨k + 1, t ++ ⟨#[c]⟩, by omega, by go_num, rfl, ?_, ?_, hB⟩, by simp [intOf]; omega⟩
  · unfold Hid
    rw [hsucc.out, app_data, ht.out]
  · rw [ByteArray.size_append]
    show t.size + 1 ≤ k + 1
    omega

set_option maxHeartbeats 800000 in
theorem rfold_any (s : ByteArray) (w : World) (hs : s.size ≤ 1000) :
    Calls Tryz.prog 139 #[.string s] w fun e w' => e = .returned (.string (foldB s)) ∧ Below w.heap.size w w' := by
  have hsl : s.data.toList.length = s.size := Array.length_toList
  have HSL := hide hsl
  clear hsl
  go_enter Tryz.func139, Tryz.ntmps139
  go_wp2_with fail
  go_loopw [3, 4] (fun o i wr => ∃ (k : Nat) (t : ByteArray), k ≤ s.size ∧ i = .int .i64 k ∧ o = .string t ∧ Hid (t.data.toList = foldL (s.data.toList.take k)) ∧ t.size ≤ k ∧ Below w.heap.size w wr) (fun _ i _ => s.size - (intOf i).toNat)
  case atStart => exact ⟨0, ⟨#[]⟩, Nat.zero_le _, rfl, rfl, rfl, Nat.le_refl _, Below.refl _ _⟩
  case round =>
    obtain ⟨k, t, hk, rfl, rfl, ht, htl, hB⟩ := hrel
    by_cases hlt : k < s.size
    · have hlt' : (k : Int) < (s.size : Int) := by omega
      have hsucc := hide (foldL_take_succ s k hlt)
      have hc8 := s[k].toNat_lt
      by_cases hup : 65 ≤ s[k].toNat ∧ s[k].toNat ≤ 90
      · have i1 : (65 : Int) ≤ (s[k].toNat : Int) := by omega
        have i2 : (s[k].toNat : Int) ≤ 90 := by omega
        have hone := one_byte wr (foldc s[k])
        rw [foldc_yes hup.1 hup.2] at hone
        clear hup
        go_wp2_with fail
        exact fold_round hlt ht hsucc htl (hB.alloc hB.size _)
      · have hone := one_byte wr s[k]
        have hsame := foldc_no hup
        rw [hsame] at hsucc
        clear hsame
        by_cases h65 : (65 : Int) ≤ (s[k].toNat : Int)
        · have i2 : ¬ (s[k].toNat : Int) ≤ 90 := by omega
          clear hup
          go_wp2_with fail
          exact fold_round hlt ht hsucc htl (hB.alloc hB.size _)
        · clear hup
          go_wp2_with fail
          exact fold_round hlt ht hsucc htl (hB.alloc hB.size _)
    · have hlt' : ¬ (k : Int) < (s.size : Int) := by omega
      have hts : t = foldB s := by
        apply bytes_ext
        rw [ht.out, foldB_data, List.take_of_length_le (by rw [HSL.out]; omega)]
      have HT := hide hts
      clear hts
      go_wp2_with fail
      go_ret
      exact ⟨by rw [← HT.out]; rfl, hB⟩

end Go.Proofs.YtblmdcpcekoogaaGreatDoor
