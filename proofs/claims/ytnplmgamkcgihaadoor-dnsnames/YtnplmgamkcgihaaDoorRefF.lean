/-
  Walks of the document's own answers: Fold; the law DnsNames.
-/
import Derived.Test.YtnplmgamkcgihaaDoorRefE
namespace Go.Proofs.YtnplmgamkcgihaaDoor
open Go Go.RowKit Go.Shelf

theorem foldL_take_succ (s : ByteArray) (k : Nat) (h : k < s.size) : foldL (s.data.toList.take (k + 1)) = foldL (s.data.toList.take k) ++ [foldc s[k]] := by
  rw [take_snoc' s k h]; simp only [foldL, List.map_append, List.map_cons, List.map_nil]

/-- 'string([]byte{c})' -/
theorem one_byte (W : World) (c : UInt8) : (convert 44 9 (.slice (some ⟨W.heap.size, 0, none⟩) 1 1)).run Tryd.prog (W.alloc (.cells #[.int .u8 (c.toNat : Int)] 5)) = .ok (.string ⟨#[c]⟩) (W.alloc (.cells #[.int .u8 (c.toNat : Int)] 5)) := by
  have := run_convert_bytes_back (P := Tryd.prog) (W.alloc (.cells #[.int .u8 (c.toNat : Int)] 5)) 44 9 5 ⟨W.heap.size, 0, none⟩ 1 [c] Tryd.underlying44 Tryd.underlying5 Tryd.underlying9 (fun j hj => by
    obtain rfl : j = 0 := by simp at hj; exact hj
    rw [addr_add]
    exact (Boxed.new W 5 (.int .u8 (c.toNat : Int))).cell)
  exact this

theorem fold_round {s t : ByteArray} {k : Nat} {c : UInt8} {w W : World} (hlt : k < s.size) (ht : Hid (t.data.toList = foldL (s.data.toList.take k))) (hsucc : Hid (foldL (s.data.toList.take (k + 1)) = foldL (s.data.toList.take k) ++ [c])) (htl : t.size ≤ k) (hB : Below w.heap.size w W) :
    (∃ (k_1 : Nat) (t_1 : ByteArray), k_1 ≤ s.size ∧ Value.int .i64 ((k : Int) + 1) = Value.int .i64 (k_1 : Int) ∧ Value.string (t ++ ⟨#[c]⟩) = Value.string t_1 ∧ Hid (t_1.data.toList = foldL (s.data.toList.take k_1)) ∧ t_1.size ≤ k_1 ∧ Below w.heap.size w W) ∧
      s.size - (intOf (Value.int .i64 ((k : Int) + 1))).toNat < s.size - (intOf (Value.int .i64 (k : Int))).toNat := by
  refine ⟨⟨k + 1, t ++ ⟨#[c]⟩, by omega, by go_num, rfl, ?_, ?_, hB⟩, by simp [intOf]; omega⟩
  · unfold Hid
    rw [hsucc.out, cat_data, ht.out]
  · rw [ByteArray.size_append]
    show t.size + 1 ≤ k + 1
    omega

set_option maxHeartbeats 800000 in
theorem rfold_any (s : ByteArray) (w : World) (hs : s.size ≤ 1000) :
    Calls Tryd.prog 19 #[.string s] w fun e w' => e = .returned (.string (foldB s)) ∧ Below w.heap.size w w' := by
  have hsl : s.data.toList.length = s.size := Array.length_toList
  have HSL := hide hsl
  clear hsl
  go_enter Tryd.func19, Tryd.ntmps19
  go_wp2_with fail
  go_loopw [3, 4] (fun o i wr => ∃ (k : Nat) (t : ByteArray), k ≤ s.size ∧ i = .int .i64 k ∧ o = .string t ∧ Hid (t.data.toList = foldL (s.data.toList.take k)) ∧ t.size ≤ k ∧ Below w.heap.size w wr) (fun _ i _ => s.size - (intOf i).toNat)
  case atStart => exact ⟨0, ⟨#[]⟩, Nat.zero_le _, rfl, rfl, rfl, Nat.le_refl _, Below.refl _ _⟩
  case round =>
    obtain ⟨k, t, hk, rfl, rfl, ht, htl, hB⟩ := hrel
    by_cases hlt : k < s.size
    · have hlt' : (k : Int) < (s.size : Int) := by omega
      have hsucc := hide (foldL_take_succ s k hlt)
      have hc8 := s[k].toNat_lt
      by_cases hup : 65 ≤ s[k].toNat ∧ s[k].toNat ≤ 90
      · have i1 : (65 : Int) ≤ (s[k].toNat : Int) := by omega
        have i2 : (s[k].toNat : Int) ≤ 90 := by omega
        have hone := one_byte wr (foldc s[k])
        rw [foldc_yes hup.1 hup.2] at hone
        clear hup
        go_wp2_with fail
        exact fold_round hlt ht hsucc htl (hB.alloc hB.size _)
      · have hone := one_byte wr s[k]
        have hsame := foldc_no hup
        rw [hsame] at hsucc
        clear hsame
        by_cases h65 : (65 : Int) ≤ (s[k].toNat : Int)
        · have i2 : ¬ (s[k].toNat : Int) ≤ 90 := by omega
          clear hup
          go_wp2_with fail
          exact fold_round hlt ht hsucc htl (hB.alloc hB.size _)
        · clear hup
          go_wp2_with fail
          exact fold_round hlt ht hsucc htl (hB.alloc hB.size _)
    · have hlt' : ¬ (k : Int) < (s.size : Int) := by omega
      have hts : t = foldB s := by
        apply bytes_ext
        rw [ht.out, foldB_data, List.take_of_length_le (by rw [HSL.out]; omega)]
      have HT := hide hts
      clear hts
      go_wp2_with fail
      go_ret
      exact ⟨by rw [← HT.out]; rfl, hB⟩

set_option maxHeartbeats 1600000 in
theorem names_law (s1 : ByteArray) (w : World) (hs1 : s1.size ≤ maxLen) :
    Calls Tryd.prog 3 #[.string s1] w fun e w' => e = .returned (.bool true) ∧ Below w.heap.size w w' := by
  go_enter Tryd.func3, Tryd.ntmps3
  go_wp2_with fail
  refine (few_any _ _ hs1).mono ?_
  rintro e w ⟨s, rfl, hs, rfl⟩
  have ls : s.size ≤ maxLen := small_len (by omega)
  have hcnt : (parts 46 s).length ≤ maxLen := by
    rw [parts_len]
    have := D.spl_count (c := 46) (l := s.data.toList)
    have e : s.data.toList.length = s.size := Array.length_toList
    unfold maxLen
    omega
  go_wp2_with fail
  refine (rname_any _ _ (by omega)).mono ?_
  rintro e u1 ⟨rfl, hu1⟩
  cases hn : D.isName s.data.toList
  · have HN := hide hn
    clear hn
    go_wp2_with fail
    refine (label_any _ _ ls).mono ?_
    rintro e u2 ⟨rfl, rfl⟩
    go_wp2_with fail
    refine (rlabel_any _ _ ls).mono ?_
    rintro e u3 ⟨rfl, rfl⟩
    generalize D.isLabel s.data.toList = lb at *
    have hlb : (lb == lb) = true := by simp
    go_wp2_with fail
    refine (name_any _ _ ls).mono ?_
    rintro e u4 ⟨rfl, hu4⟩
    rw [HN.out]
    go_wp2_with fail
    refine (rname_any _ _ (by omega)).mono ?_
    rintro e u5 ⟨rfl, hu5⟩
    rw [HN.out]
    go_wp2_with fail
    refine (labels_no _ _ ls HN.out).mono ?_
    rintro e u6 ⟨rfl, hu6⟩
    go_wp2_with fail
    refine (same_any _ _ _ [] [] (Strs.nil _) (Strs.nil _) (by simp)).mono ?_
    rintro e u7 ⟨rfl, hu7⟩
    rw [decide_eq_true rfl]
    go_wp2_with fail
    refine (foldB_any _ _ ls).mono ?_
    rintro e u8 ⟨rfl, hu8⟩
    go_wp2_with fail
    refine (rfold_any _ _ (by omega)).mono ?_
    rintro e u9 ⟨rfl, hu9⟩
    generalize foldB s = fs at *
    go_wp2_with fail
    refine (awake_any _).mono ?_
    rintro e u10 ⟨rfl, hu10⟩
    go_wp2_with fail
    go_ret
    have B4 := hu1.trans (hu4.mono hu1.size)
    have B5 := B4.trans (hu5.mono B4.size)
    have B6 := B5.trans (hu6.mono B5.size)
    have B7 := B6.trans (hu7.mono B6.size)
    have B8 := B7.trans (hu8.mono B7.size)
    have B9 := B8.trans (hu9.mono B8.size)
    exact ⟨rfl, B9.trans (hu10.mono B9.size)⟩
  · have HN := hide hn
    clear hn
    go_wp2_with fail
    refine (rsplit46 _ _ (by omega)).mono ?_
    rintro e u0 ⟨v0, rfl, hS0, hu0⟩
    have HS0 := hide hS0
    clear hS0
    have B0 := hu1.trans (hu0.mono hu1.size)
    go_wp2_with fail
    refine (label_any _ _ ls).mono ?_
    rintro e u2 ⟨rfl, rfl⟩
    go_wp2_with fail
    refine (rlabel_any _ _ ls).mono ?_
    rintro e u3 ⟨rfl, rfl⟩
    generalize D.isLabel s.data.toList = lb at *
    have hlb : (lb == lb) = true := by simp
    go_wp2_with fail
    refine (name_any _ _ ls).mono ?_
    rintro e u4 ⟨rfl, hu4⟩
    rw [HN.out]
    go_wp2_with fail
    refine (rname_any _ _ (by omega)).mono ?_
    rintro e u5 ⟨rfl, hu5⟩
    rw [HN.out]
    go_wp2_with fail
    refine (labels_yes _ _ ls HN.out).mono ?_
    rintro e u6 ⟨v6, rfl, hr6, hu6⟩
    have hS6 := Strs.of_row rfl hr6
    have hS0 := ((HS0.out.below hu4).below hu5).below hu6
    have HS6 := hide hS6
    have HS0' := hide hS0
    clear hr6 hS6 hS0 HS0
    go_wp2_with fail
    refine (same_any _ _ _ _ _ HS6.out HS0'.out hcnt).mono ?_
    rintro e u7 ⟨rfl, hu7⟩
    rw [decide_eq_true rfl]
    go_wp2_with fail
    refine (foldB_any _ _ ls).mono ?_
    rintro e u8 ⟨rfl, hu8⟩
    go_wp2_with fail
    refine (rfold_any _ _ (by omega)).mono ?_
    rintro e u9 ⟨rfl, hu9⟩
    generalize foldB s = fs at *
    go_wp2_with fail
    refine (awake_any _).mono ?_
    rintro e u10 ⟨rfl, hu10⟩
    go_wp2_with fail
    go_ret
    have B4 := B0.trans (hu4.mono B0.size)
    have B5 := B4.trans (hu5.mono B4.size)
    have B6 := B5.trans (hu6.mono B5.size)
    have B7 := B6.trans (hu7.mono B6.size)
    have B8 := B7.trans (hu8.mono B7.size)
    have B9 := B8.trans (hu9.mono B8.size)
    exact ⟨rfl, B9.trans (hu10.mono B9.size)⟩

end Go.Proofs.YtnplmgamkcgihaaDoor
