/-
  Walks of the document's own answers: Fold; the law DnsNames.
-/
import Derived.Test.YtlogclpmdaiflaaDoorRefE
namespace Go.Proofs.YtlogclpmdaiflaaDoor
open Go Go.RowKit Go.Shelf

theorem foldL_take_succ (s : ByteArray) (k : Nat) (h : k < s.size) : foldL (s.data.toList.take (k + 1)) = foldL (s.data.toList.take k) ++ [foldc s[k]] := by
  rw [take_snoc' s k h]; simp only [foldL, List.map_append, List.map_cons, List.map_nil]

/-- 'string([]byte{c})' -/
theorem one_byte (W : World) (c : UInt8) : (convert 42 9 (.slice (some ⟨W.heap.size, 0, none⟩) 1 1)).run Tryd.prog (W.alloc (.cells #[.int .u8 (c.toNat : Int)] 5)) = .ok (.string ⟨#[c]⟩) (W.alloc (.cells #[.int .u8 (c.toNat : Int)] 5)) := by
  have := run_convert_bytes_back (P := Tryd.prog) (W.alloc (.cells #[.int .u8 (c.toNat : Int)] 5)) 42 9 5 ⟨W.heap.size, 0, none⟩ 1 [c] Tryd.underlying42 Tryd.underlying5 Tryd.underlying9 (fun j hj => by
    obtain rfl : j = 0 := by simp at hj; exact hj
    rw [addr_add]
    exact (Boxed.new W 5 (.int .u8 (c.toNat : Int))).cell)
  exact this

theorem fold_round {s t : ByteArray} {k : Nat} {c : UInt8} {w W : World} (hlt : k < s.size) (ht : Hid (t.data.toList = foldL (s.data.toList.take k))) (hsucc : Hid (foldL (s.data.toList.take (k + 1)) = foldL (s.data.toList.take k) ++ [c])) (htl : t.size ≤ k) (hB : Below w.heap.size w W) :
    (∃ (k_1 : Nat) (t_1 : ByteArray), k_1 ≤ s.size ∧ Value.int .i64 ((k : Int) + 1) = Value.int .i64 (k_1 : Int) ∧ Value.string (t ++ ⟨#[c]⟩) = Value.string t_1 ∧ Hid (t_1.data.toList = foldL (s.data.toList.take k_1)) ∧ t_1.size ≤ k_1 ∧ Below w.heap.size w W) ∧
      s.size - (intOf (Value.int .i64 ((k : Int) + 1))).toNat < s.size - (intOf (Value.int .i64 (k : Int))).toNat := by
  refine ⟨⟨k + 1, t ++ ⟨#[c]⟩, by omega, by go_num, rfl, ?_, ?_, hB⟩, by simp [intOf]; omega⟩
  · unfold Hid
    rw [hsucc.out, cat_data, ht.out]
  · rw [ByteArray.size_append]
    show t.size + 1 ≤ k + 1
    omega

set_option maxHeartbeats 800000 in
theorem rfold_any (s : ByteArray) (w : World) (hs : s.size ≤ 1000) :
    Calls Tryd.prog 35 #[.string s] w fun e w' => e = .returned (.string (foldB s)) ∧ Below w.heap.size w w' := by
  have hsl : s.data.toList.length = s.size := Array.length_toList
  have HSL := hide hsl
  clear hsl
  go_enter Tryd.func35, Tryd.ntmps35
  go_wp2_with fail
  go_loopw [3, 4] (fun o i wr => ∃ (k : Nat) (t : ByteArray), k ≤ s.size ∧ i = .int .i64 k ∧ o = .string t ∧ Hid (t.data.toList = foldL (s.data.toList.take k)) ∧ t.size ≤ k ∧ Below w.heap.size w wr) (fun _ i _ => s.size - (intOf i).toNat)
  case atStart => exact ⟨0, ⟨#[]⟩, Nat.zero_le _, rfl, rfl, rfl, Nat.le_refl _, Below.refl _ _⟩
  case round =>
    obtain ⟨k, t, hk, rfl, rfl, ht, htl, hB⟩ := hrel
    by_cases hlt : k < s.size
    · have hlt' : (k : Int) < (s.size : Int) := by omega
      have hsucc := hide (foldL_take_succ s k hlt)
      have hc8 := s[k].toNat_lt
      by_cases hup : 65 ≤ s[k].toNat ∧ s[k].toNat ≤ 90
      · have i1 : (65 : Int) ≤ (s[k].toNat : Int) := by omega
        have i2 : (s[k].toNat : Int) ≤ 90 := by omega
        have hone := one_byte wr (foldc s[k])
        rw [foldc_yes hup.1 hup.2] at hone
        clear hup
        go_wp2_with fail
        exact fold_round hlt ht hsucc htl (hB.alloc hB.size _)
      · have hone := one_byte wr s[k]
        have hsame := foldc_no hup
        rw [hsame] at hsucc
        clear hsame
        by_cases h65 : (65 : Int) ≤ (s[k].toNat : Int)
        · have i2 : ¬ (s[k].toNat : Int) ≤ 90 := by omega
          clear hup
          go_wp2_with fail
          exact fold_round hlt ht hsucc htl (hB.alloc hB.size _)
        · clear hup
          go_wp2_with fail
          exact fold_round hlt ht hsucc htl (hB.alloc hB.size _)
    · have hlt' : ¬ (k : Int) < (s.size : Int) := by omega
      have hts : t = foldB s := by
        apply bytes_ext
        rw [ht.out, foldB_data, List.take_of_length_le (by rw [HSL.out]; omega)]
      have HT := hide hts
      clear hts
      go_wp2_with fail
      go_ret
      exact ⟨by rw [← HT.out]; rfl, hB⟩

end Go.Proofs.YtlogclpmdaiflaaDoor
