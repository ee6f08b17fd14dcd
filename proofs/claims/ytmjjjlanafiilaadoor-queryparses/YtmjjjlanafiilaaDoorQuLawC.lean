/-
  The law QueryDigits.
-/
import Derived.Test.YtmjjjlanafiilaaDoorQuLawB
namespace Go.Proofs.YtmjjjlanafiilaaDoor
open Go Go.RowKit Go.Shelf

theorem addr_add (g j : Nat) : (⟨g, 0, none⟩ : Addr).add j = ⟨g, j, none⟩ := by
  cases j with
  | zero => rfl
  | succ j => simp [Addr.add]
/-- 'string([]byte{..})' -/
theorem some_bytes (W : World) (l : List UInt8) (cap : Nat) : (convert 40 9 (.slice (some ⟨W.heap.size, 0, none⟩) l.length cap)).run Tryd.prog (W.alloc (.cells (oc l).toArray 5)) = .ok (.string (mkB l)) (W.alloc (.cells (oc l).toArray 5)) := by
  refine run_convert_bytes_back (P := Tryd.prog) (W.alloc (.cells (oc l).toArray 5)) 40 9 5 ⟨W.heap.size, 0, none⟩ cap l Tryd.underlying40 Tryd.underlying5 Tryd.underlying9 (fun j hj => ?_)
  rw [addr_add]
  simp only [World.cell?]
  rw [alloc_new]
  simp [oc, hj]

theorem Prs.at1 (w : World) (n : Nat) (h : w.heap.size = n) (a b : ByteArray) : Prs (w.alloc (.cells #[.string a, .string b] 42)) (.slice (some ⟨n, 0, none⟩) 1 1) [(a, b)] := by
  subst h
  exact Prs.lit1 w a b

abbrev dBig : ByteArray := ⟨#[48, 49, 50, 51, 52, 53, 54, 55, 56, 57, 65, 66, 67, 68, 69, 70]⟩
abbrev dSmall : ByteArray := ⟨#[48, 49, 50, 51, 52, 53, 54, 55, 56, 57, 97, 98, 99, 100, 101, 102]⟩

/-- the text that is read: a=%, and the octet's two digits -/
def dTxt (d : ByteArray) (c : UInt8) : ByteArray := (⟨#[97, 61, 37]⟩ : ByteArray) ++ d.extract (c.toNat / 16) (c.toNat / 16 + 1) ++ d.extract (c.toNat % 16) (c.toNat % 16 + 1)
theorem dTxt_size (d : ByteArray) (c : UInt8) : (dTxt d c).size ≤ 100000 := by
  unfold dTxt
  rw [ByteArray.size_append, ByteArray.size_append, ByteArray.size_extract, ByteArray.size_extract]
  show 3 + _ + _ ≤ _
  omega
theorem dig_list (d : ByteArray) (i : Nat) (h : i < d.size) : (d.extract i (i + 1)).data.toList = [d[i]] := by
  rw [Lib.extract_data]
  rw [List.drop_eq_getElem_cons (by simpa using h), Nat.add_sub_cancel_left]
  rfl
theorem dTxt_parse (d : ByteArray) (hd : d = dBig ∨ d = dSmall) (c : UInt8) : Qu.parse (dTxt d c).data.toList = some (([(⟨#[97]⟩, mkB [c])] : List PairB).map pl) := by
  have hc := c.toNat_lt
  have hs : d.size = 16 := by rcases hd with rfl | rfl <;> rfl
  have key : ∀ n (h : n < 16), Qu.num (d[n]'(by omega)) = n ∧ d[n]'(by omega) ≠ 38 ∧ d[n]'(by omega) ≠ 61 := by
    rcases hd with rfl | rfl
    · show ∀ n (h : n < 16), Qu.num (dBig[n]'(by show n < 16; omega)) = n ∧ dBig[n]'(by show n < 16; omega) ≠ 38 ∧ dBig[n]'(by show n < 16; omega) ≠ 61
      decide
    · show ∀ n (h : n < 16), Qu.num (dSmall[n]'(by show n < 16; omega)) = n ∧ dSmall[n]'(by show n < 16; omega) ≠ 38 ∧ dSmall[n]'(by show n < 16; omega) ≠ 61
      decide
  have hl : (dTxt d c).data.toList = [97, 61, 37, d[c.toNat / 16]'(by omega), d[c.toNat % 16]'(by omega)] := by
    unfold dTxt
    rw [ByteArray.data_append, ByteArray.data_append, Array.toList_append, Array.toList_append, dig_list _ _ (by omega), dig_list _ _ (by omega)]
    rfl
  obtain ⟨a1, a2, a3⟩ := key (c.toNat / 16) (by omega)
  obtain ⟨b1, b2, b3⟩ := key (c.toNat % 16) (by omega)
  rw [hl, Qu.parse_digits a1 b1 ⟨a2, a3, b2, b3⟩]
  simp [pl, mkB]

set_option maxHeartbeats 1600000 in
theorem queryDigits_any (n0 : Int) (w : World) (h0 : (Lit.int .u8 n0).wf = true) :
    Calls Tryd.prog 9 #[.int .u8 n0] w fun e w' => e = .returned (.bool true) ∧ Below w.heap.size w w' := by
  obtain ⟨c, rfl⟩ : ∃ c : UInt8, n0 = (c.toNat : Int) := by
    simp [Lit.wf, IntKind.min, IntKind.max, IntKind.bits, IntKind.signed] at h0
    refine ⟨UInt8.ofNat n0.toNat, ?_⟩
    simp
    omega
  clear h0
  have hc8 := c.toNat_lt
  have b1 : (0 : Int) ≤ (c.toNat : Int) / 16 := by omega
  have b2 : (c.toNat : Int) / 16 < 16 := by omega
  have b3 : (0 : Int) ≤ (c.toNat : Int) % 16 := by omega
  have b4 : (c.toNat : Int) % 16 < 16 := by omega
  have b5 : bits .and .u8 (c.toNat : Int) 15 = (c.toNat : Int) % 16 := (u8_and_nat c.toNat 15 hc8 (by decide)).trans (by rw [nat_mask4]; omega)
  have b6 : IntKind.u8.wrap ((c.toNat : Int) / 16 + 1) = (c.toNat : Int) / 16 + 1 := by rw [IntKind.wrap_u8']; omega
  have b7 : IntKind.u8.wrap ((c.toNat : Int) % 16 + 1) = (c.toNat : Int) % 16 + 1 := by rw [IntKind.wrap_u8']; omega
  have b8 : (c.toNat : Int) / 16 + 1 ≤ 16 := by omega
  have b9 : (c.toNat : Int) % 16 + 1 ≤ 16 := by omega
  have b10 : (0 : Int) ≤ (c.toNat : Int) / 16 + 1 := by omega
  have b11 : (0 : Int) ≤ (c.toNat : Int) % 16 + 1 := by omega
  have b12 : (c.toNat : Int) / 16 ≤ (c.toNat : Int) / 16 + 1 := by omega
  have b13 : (c.toNat : Int) % 16 ≤ (c.toNat : Int) % 16 + 1 := by omega
  go_enter Tryd.func9, Tryd.ntmps9
  go_wp2_with fail
  go_loopw [13] (fun i wr => ∃ k : Nat, k ≤ 2 ∧ i = .int .i64 k ∧ Below (w.alloc (.cells #[.string dBig, .string dSmall] 9)).heap.size (w.alloc (.cells #[.string dBig, .string dSmall] 9)) wr) (fun i _ => 2 - (intOf i).toNat)
  case atStart => exact ⟨0, Nat.zero_le _, rfl, Below.refl _ _⟩
  case round =>
    obtain ⟨k, hk, rfl, hB⟩ := hrel
    have hbk := (hB.block w.heap.size (by simp)).trans (alloc_new _ _)
    by_cases hlt : k < 2
    · have hlt' : (k : Int) < 2 := by omega
      obtain ⟨d, hd, hcell⟩ : ∃ d : ByteArray, (d = dBig ∨ d = dSmall) ∧ wr.cell? ⟨w.heap.size, k, none⟩ = some (.string d) := by
        rcases (by omega : k = 0 ∨ k = 1) with rfl | rfl
        · exact ⟨dBig, .inl rfl, by simp [World.cell?, hbk]⟩
        · exact ⟨dSmall, .inr rfl, by simp [World.cell?, hbk]⟩
      have hds : d.size = 16 := by rcases hd with rfl | rfl <;> rfl
      have HP := hide (dTxt_parse d hd c)
      have HZ := hide (dTxt_size d c)
      have z1 : (d.extract (c.toNat / 16) (c.toNat / 16 + 1)).size = 1 := by rw [ByteArray.size_extract]; omega
      have z2 : (d.extract (c.toNat % 16) (c.toNat % 16 + 1)).size = 1 := by rw [ByteArray.size_extract]; omega
      have z3 : ((⟨#[97, 61, 37]⟩ : ByteArray) ++ d.extract (c.toNat / 16) (c.toNat / 16 + 1)).size = 4 := by rw [ByteArray.size_append, z1]; rfl
      have z0 : ((⟨#[97, 61, 37]⟩ : ByteArray).size : Int) ≤ 8388608 := by decide
      have z4 : ((d.extract (c.toNat / 16) (c.toNat / 16 + 1)).size : Int) ≤ 8388608 := by omega
      have z5 : (((⟨#[97, 61, 37]⟩ : ByteArray).size : Int) + ((d.extract (c.toNat / 16) (c.toNat / 16 + 1)).size : Int)) ≤ 9223372036854775807 := by omega
      clear hd hbk
      go_wp2_with fail
      go_region_with ((go_at_call 17; refine (qparse_yes (dTxt d c) [(⟨#[97]⟩, mkB [c])] _ HZ.out HP.out).mono ?_; rintro e w1 ⟨v1, rfl, hp1, hb1⟩))
      all_goals
        have hB1 : Below (w.alloc (.cells #[.string dBig, .string dSmall] 9)).heap.size (w.alloc (.cells #[.string dBig, .string dSmall] 9)) w1 := hB.drew.trans (hb1.mono hB.drew.size)
        have hcv : (convert 40 9 (.slice (some ⟨w1.heap.size, 0, none⟩) 1 1)).run Tryd.prog (w1.alloc (.cells #[.int .u8 (c.toNat : Int)] 5)) = .ok (.string (mkB [c])) (w1.alloc (.cells #[.int .u8 (c.toNat : Int)] 5)) := some_bytes w1 [c] 1
        clear hb1 b1 b2 b3 b4 b5 b6 b7 b8 b9 b10 b11 b12 b13 z0 z1 z2 z3 z4 z5 HP HZ hcell
        go_wp2_with fail
        have s1 := (Below.refl w1.heap.size w1).alloc (Nat.le_refl _) (.cells #[.int .u8 (c.toNat : Int)] 5)
        refine (psame_any _ _ _ [(⟨#[97]⟩, mkB [c])] _ ((hp1.below s1).below ((Below.refl _ _).alloc (Nat.le_refl _) _)) (Prs.at1 (w1.alloc (.cells #[.int .u8 (c.toNat : Int)] 5)) (w1.heap.size + 1) (by simp) ⟨#[97]⟩ (mkB [c]))).mono ?_
        rintro e w2 ⟨rfl, hb2⟩
        rw [decide_eq_true rfl]
        go_wp2_with fail
        exact ⟨⟨k + 1, by omega, by go_num, hB1.trans ((s1.trans ((below_box hb2).mono s1.size)).mono hB1.size)⟩, by simp [intOf]; omega⟩
    · obtain rfl : k = 2 := by omega
      go_wp2_with fail
      refine (awake_any wr).mono ?_
      rintro e w1 ⟨rfl, hb1⟩
      go_wp2_with fail
      go_ret
      exact ⟨rfl, bb2 (below_box hB) hb1⟩

end Go.Proofs.YtmjjjlanafiilaaDoor
