/-
  Walks: digit, ofDigits, read, readPair (of package query).
-/
import Derived.Test.YtmjjjlanafiilaaDoorQuWalkC
import Derived.OwnWalk
namespace Go.Proofs.YtmjjjlanafiilaaDoor
open Go Go.RowKit Go.Shelf

theorem num_cases (c : UInt8) : (48 ≤ c.toNat ∧ c.toNat ≤ 57 ∧ Qu.num c = c.toNat - 48) ∨ (65 ≤ c.toNat ∧ c.toNat ≤ 70 ∧ Qu.num c = c.toNat - 55) ∨ (97 ≤ c.toNat ∧ c.toNat ≤ 102 ∧ Qu.num c = c.toNat - 87) ∨
    (¬ (48 ≤ c.toNat ∧ c.toNat ≤ 57) ∧ ¬ (65 ≤ c.toNat ∧ c.toNat ≤ 70) ∧ ¬ (97 ≤ c.toNat ∧ c.toNat ≤ 102) ∧ Qu.num c = 99) := by
  unfold Qu.num
  by_cases h1 : 48 ≤ c.toNat ∧ c.toNat ≤ 57
  · rw [if_pos h1]; exact .inl ⟨h1.1, h1.2, rfl⟩
  · rw [if_neg h1]
    by_cases h2 : 65 ≤ c.toNat ∧ c.toNat ≤ 70
    · rw [if_pos h2]; exact .inr (.inl ⟨h2.1, h2.2, rfl⟩)
    · rw [if_neg h2]
      by_cases h3 : 97 ≤ c.toNat ∧ c.toNat ≤ 102
      · rw [if_pos h3]; exact .inr (.inr (.inl ⟨h3.1, h3.2, rfl⟩))
      · rw [if_neg h3]; exact .inr (.inr (.inr ⟨h1, h2, h3, rfl⟩))

theorem ret_dig {a b : Int} {x : Bool} (h : a = b) : Ending.returned (.tuple #[.int .u8 a, .bool x]) = .returned (.tuple #[.int .u8 b, .bool x]) := by rw [h]

set_option maxHeartbeats 800000 in
theorem digit_yes (c : UInt8) (w : World) (h : Qu.num c ≤ 15) :
    Calls Tryd.prog 44 #[.int .u8 (c.toNat : Int)] w fun e w' => e = .returned (.tuple #[.int .u8 (Qu.num c : Int), .bool true]) ∧ w' = w := by
  have hc8 := c.toNat_lt
  rcases num_cases c with ⟨h1, h2, h3⟩ | ⟨h1, h2, h3⟩ | ⟨h1, h2, h3⟩ | ⟨_, _, _, h3⟩
  · have HN : Hid ((c.toNat : Int) - 48 = (Qu.num c : Int)) := by unfold Hid; omega
    clear h3 h
    have a1 : (48 : Int) ≤ (c.toNat : Int) := by omega
    have a2 : (c.toNat : Int) ≤ 57 := by omega
    go_enter Tryd.func44, Tryd.ntmps44
    go_wp2_with fail
    go_ret2
    exact ⟨ret_dig HN.out, rfl⟩
  · have HN : Hid ((c.toNat : Int) - 65 + 10 = (Qu.num c : Int)) := by unfold Hid; omega
    clear h3 h
    have a1 : (48 : Int) ≤ (c.toNat : Int) := by omega
    have a2 : ¬ (c.toNat : Int) ≤ 57 := by omega
    have a3 : (65 : Int) ≤ (c.toNat : Int) := by omega
    have a4 : (c.toNat : Int) ≤ 70 := by omega
    go_enter Tryd.func44, Tryd.ntmps44
    go_wp2_with fail
    go_ret2
    exact ⟨ret_dig HN.out, rfl⟩
  · have HN : Hid ((c.toNat : Int) - 97 + 10 = (Qu.num c : Int)) := by unfold Hid; omega
    clear h3 h
    have a1 : (48 : Int) ≤ (c.toNat : Int) := by omega
    have a2 : ¬ (c.toNat : Int) ≤ 57 := by omega
    have a3 : (65 : Int) ≤ (c.toNat : Int) := by omega
    have a4 : ¬ (c.toNat : Int) ≤ 70 := by omega
    have a5 : (97 : Int) ≤ (c.toNat : Int) := by omega
    have a6 : (c.toNat : Int) ≤ 102 := by omega
    go_enter Tryd.func44, Tryd.ntmps44
    go_wp2_with fail
    go_ret2
    exact ⟨ret_dig HN.out, rfl⟩
  · omega

set_option maxHeartbeats 800000 in
theorem digit_no (c : UInt8) (w : World) (h : ¬ Qu.num c ≤ 15) :
    Calls Tryd.prog 44 #[.int .u8 (c.toNat : Int)] w fun e w' => e = .returned (.tuple #[.int .u8 0, .bool false]) ∧ w' = w := by
  have hc8 := c.toNat_lt
  rcases num_cases c with ⟨h1, h2, h3⟩ | ⟨h1, h2, h3⟩ | ⟨h1, h2, h3⟩ | ⟨k1, k2, k3, h3⟩
  · omega
  · omega
  · omega
  · clear h3 h
    by_cases h48 : 48 ≤ c.toNat
    · have a1 : (48 : Int) ≤ (c.toNat : Int) := by omega
      have a2 : ¬ (c.toNat : Int) ≤ 57 := by omega
      by_cases h65 : 65 ≤ c.toNat
      · have a3 : (65 : Int) ≤ (c.toNat : Int) := by omega
        have a4 : ¬ (c.toNat : Int) ≤ 70 := by omega
        by_cases h97 : 97 ≤ c.toNat
        · have a5 : (97 : Int) ≤ (c.toNat : Int) := by omega
          have a6 : ¬ (c.toNat : Int) ≤ 102 := by omega
          clear k1 k2 k3
          go_enter Tryd.func44, Tryd.ntmps44
          go_wp2_with fail
          go_ret2
          exact ⟨rfl, rfl⟩
        · have a5 : ¬ (97 : Int) ≤ (c.toNat : Int) := by omega
          clear k1 k2 k3
          go_enter Tryd.func44, Tryd.ntmps44
          go_wp2_with fail
          go_ret2
          exact ⟨rfl, rfl⟩
      · have a3 : ¬ (65 : Int) ≤ (c.toNat : Int) := by omega
        have a5 : ¬ (97 : Int) ≤ (c.toNat : Int) := by omega
        clear k1 k2 k3
        go_enter Tryd.func44, Tryd.ntmps44
        go_wp2_with fail
        go_ret2
        exact ⟨rfl, rfl⟩
    · have a1 : ¬ (48 : Int) ≤ (c.toNat : Int) := by omega
      have a3 : ¬ (65 : Int) ≤ (c.toNat : Int) := by omega
      have a5 : ¬ (97 : Int) ≤ (c.toNat : Int) := by omega
      clear k1 k2 k3
      go_enter Tryd.func44, Tryd.ntmps44
      go_wp2_with fail
      go_ret2
      exact ⟨rfl, rfl⟩

theorem oct_join (x y : Nat) (hx : x ≤ 15) (hy : y ≤ 15) : bits .or .u8 ((x : Int) * 16) (y : Int) = ((16 * x + y : Nat) : Int) := by
  have e : ((x : Int) * 16) = ((x * 16 : Nat) : Int) := by omega
  rw [e, u8_or_nat (x * 16) y (by omega) (by omega), nat_join4 _ _ (by omega) (by omega)]
  omega
theorem octet_nat {a b : UInt8} (ha : Qu.num a ≤ 15) (hb : Qu.num b ≤ 15) : (Qu.octet a b).toNat = 16 * Qu.num a + Qu.num b := by
  unfold Qu.octet
  simp
  omega
theorem at_of_list {t : ByteArray} {l : List UInt8} (h : t.data.toList = l) {i : Nat} (hi : i < l.length) : ∃ h' : i < t.size, t[i] = l[i] := by
  subst h
  exact ⟨by simpa using hi, rfl⟩

set_option maxHeartbeats 800000 in
theorem ofDigits_yes (t : ByteArray) (a b : UInt8) (r : List UInt8) (w : World) (ht : t.data.toList = a :: b :: r) (hs : t.size ≤ maxLen) (ha : Qu.num a ≤ 15) (hb : Qu.num b ≤ 15) :
    Calls Tryd.prog 41 #[.string t] w fun e w' => e = .returned (.tuple #[.int .u8 ((Qu.octet a b).toNat : Int), .bool true]) ∧ w' = w := by
  unfold maxLen at hs
  obtain ⟨h0, e0⟩ := at_of_list ht (i := 0) (by simp)
  obtain ⟨h1, e1⟩ := at_of_list ht (i := 1) (by simp)
  simp only [List.getElem_cons_zero, List.getElem_cons_succ] at e0 e1
  have a1 : ¬ (t.size : Int) < 2 := by omega
  have HO := hide (octet_nat ha hb)
  have HJ := hide (oct_join _ _ ha hb)
  have HT := hide ht
  clear ht
  generalize hx : Qu.num a = x at *
  generalize hy : Qu.num b = y at *
  have dA := digit_yes a w (by omega)
  have dB := digit_yes b w (by omega)
  rw [hx] at dA
  rw [hy] at dB
  clear hx hy
  go_enter Tryd.func41, Tryd.ntmps41
  go_wp2_with fail
  refine dA.mono ?_
  rintro e w1 ⟨rfl, rfl⟩
  go_wp2_with fail
  refine dB.mono ?_
  rintro e w1 ⟨rfl, rfl⟩
  go_wp2_with fail
  go_ret2
  exact ⟨ret_dig (HJ.out.trans (by rw [HO.out])), rfl⟩

set_option maxHeartbeats 800000 in
theorem ofDigits_no (t : ByteArray) (w : World) (hs : t.size ≤ maxLen) (h : ∀ a b r, t.data.toList = a :: b :: r → ¬ (Qu.num a ≤ 15 ∧ Qu.num b ≤ 15)) :
    Calls Tryd.prog 41 #[.string t] w fun e w' => (∃ x, e = .returned (.tuple #[.int .u8 x, .bool false])) ∧ w' = w := by
  unfold maxLen at hs
  by_cases h2 : t.size < 2
  · have a1 : (t.size : Int) < 2 := by omega
    clear h
    go_enter Tryd.func41, Tryd.ntmps41
    go_wp2_with fail
    go_ret2
    exact ⟨⟨_, rfl⟩, rfl⟩
  · obtain ⟨a, b, r, ht⟩ : ∃ a b r, t.data.toList = a :: b :: r := by
      have hl : t.data.toList.length = t.size := Array.length_toList
      match hm : t.data.toList, hl with
      | [], hl => simp at hl; omega
      | [_], hl => simp at hl; omega
      | a :: b :: r, _ => exact ⟨a, b, r, rfl⟩
    obtain ⟨h0, e0⟩ := at_of_list ht (i := 0) (by simp)
    obtain ⟨h1, e1⟩ := at_of_list ht (i := 1) (by simp)
    simp only [List.getElem_cons_zero, List.getElem_cons_succ] at e0 e1
    have a1 : ¬ (t.size : Int) < 2 := by omega
    replace h := h a b r ht
    clear ht
    have hxl := Qu.num a
    by_cases ha : Qu.num a ≤ 15
    · have hb : ¬ Qu.num b ≤ 15 := fun hb => h ⟨ha, hb⟩
      have dA := digit_yes a w ha
      have dB := digit_no b w hb
      generalize hx : Qu.num a = x at *
      clear hb h hx
      go_enter Tryd.func41, Tryd.ntmps41
      go_wp2_with fail
      refine dA.mono ?_
      rintro e w1 ⟨rfl, rfl⟩
      go_wp2_with fail
      refine dB.mono ?_
      rintro e w1 ⟨rfl, rfl⟩
      go_wp2_with fail
      go_ret2
      exact ⟨⟨_, rfl⟩, rfl⟩
    · have dA := digit_no a w ha
      by_cases hb : Qu.num b ≤ 15
      · have dB := digit_yes b w hb
        generalize hy : Qu.num b = y at *
        clear ha h hy
        go_enter Tryd.func41, Tryd.ntmps41
        go_wp2_with fail
        refine dA.mono ?_
        rintro e w1 ⟨rfl, rfl⟩
        go_wp2_with fail
        refine dB.mono ?_
        rintro e w1 ⟨rfl, rfl⟩
        go_wp2_with fail
        go_ret2
        exact ⟨⟨_, rfl⟩, rfl⟩
      · have dB := digit_no b w hb
        clear ha hb h
        go_enter Tryd.func41, Tryd.ntmps41
        go_wp2_with fail
        refine dA.mono ?_
        rintro e w1 ⟨rfl, rfl⟩
        go_wp2_with fail
        refine dB.mono ?_
        rintro e w1 ⟨rfl, rfl⟩
        go_wp2_with fail
        go_ret2
        exact ⟨⟨_, rfl⟩, rfl⟩

/-! ### read -/
theorem rd_no : ∀ {r : List UInt8}, (∀ a b t, r = a :: b :: t → ¬ (Qu.num a ≤ 15 ∧ Qu.num b ≤ 15)) → Qu.rd (37 :: r) = none
  | [], _ => rfl
  | [a], _ => rfl
  | a :: b :: t, h => by simp only [Qu.rd, if_true, if_neg (h a b t rfl)]
theorem drop_at (s : ByteArray) (k : Nat) (h : k < s.size) : s.data.toList.drop k = s[k] :: s.data.toList.drop (k + 1) := by
  rw [List.drop_eq_getElem_cons (by simpa using h)]; rfl
theorem map_map_pre {o : Option (List UInt8)} {q x : List UInt8} : (o.map (x ++ ·)).map (q ++ ·) = o.map ((q ++ x) ++ ·) := by
  cases o <;> simp

/-- the rest is read as it was, behind the octets q -/
def RdTo (s : ByteArray) (k : Nat) (q : List UInt8) : Prop := Qu.rd s.data.toList = (Qu.rd (s.data.toList.drop k)).map (q ++ ·)
theorem RdTo.ord {s : ByteArray} {k : Nat} {q : List UInt8} (h : RdTo s k q) (hk : k < s.size) (h37 : s[k] ≠ 37) : RdTo s (k + 1) (q ++ [if s[k] = 43 then 32 else s[k]]) := by
  unfold RdTo at *
  rw [h, drop_at s k hk, Qu.rd_ord h37]
  exact map_map_pre (x := [_])
theorem RdTo.hex {s : ByteArray} {k : Nat} {q : List UInt8} {a b : UInt8} {r : List UInt8} (h : RdTo s k q) (hk : k < s.size) (h37 : s[k] = 37) (hd : s.data.toList.drop (k + 1) = a :: b :: r) (ha : Qu.num a ≤ 15) (hb : Qu.num b ≤ 15) :
    RdTo s (k + 3) (q ++ [Qu.octet a b]) := by
  have hr : s.data.toList.drop (k + 3) = r := by
    have : s.data.toList.drop (k + 3) = (s.data.toList.drop (k + 1)).drop 2 := by rw [List.drop_drop]
    rw [this, hd]; rfl
  unfold RdTo at *
  rw [h, drop_at s k hk, h37, hd, Qu.rd_hex ha hb, hr]
  exact map_map_pre (x := [_])
theorem RdTo.none {s : ByteArray} {k : Nat} {q : List UInt8} (h : RdTo s k q) (hk : k < s.size) (h37 : s[k] = 37) (hd : ∀ a b t, s.data.toList.drop (k + 1) = a :: b :: t → ¬ (Qu.num a ≤ 15 ∧ Qu.num b ≤ 15)) : Qu.rd s.data.toList = none := by
  unfold RdTo at h
  rw [h, drop_at s k hk, h37, rd_no hd]
  rfl
theorem RdTo.done {s : ByteArray} {k : Nat} {q : List UInt8} (h : RdTo s k q) (hk : s.size ≤ k) : Qu.rd s.data.toList = some q := by
  unfold RdTo at h
  rw [h, List.drop_eq_nil_of_le (by simpa using hk)]
  simp [Qu.rd]

theorem two_of_drop {s : ByteArray} {k : Nat} {a b : UInt8} {r : List UInt8} (hd : s.data.toList.drop (k + 1) = a :: b :: r) : k + 3 ≤ s.size := by
  have := congrArg List.length hd
  simp at this
  omega

/-- what read answers -/
def rdRes (o : Option (List UInt8)) : Value := match o with
  | some q => .tuple #[.string ⟨q.toArray⟩, .bool true]
  | none => .tuple #[.string ⟨#[]⟩, .bool false]

set_option maxHeartbeats 1600000 in
theorem qread_any (s : ByteArray) (w : World) (hs : s.size ≤ 100000) :
    Calls Tryd.prog 33 #[.string s] w fun e w' => e = .returned (rdRes (Qu.rd s.data.toList)) ∧ Below w.heap.size w w' := by
  obtain ⟨i0, hi, hz0, hz1, hz2⟩ := info_parts Tryd.info5
  go_enter Tryd.func33, Tryd.ntmps33
  go_wp2_with (at_make; refine wpList_make_own _ rfl _ _ 40 rfl w.heap.size 5 i0 (.int .u8 0) 1 Tryd.underlying40 hi hz0 hz1 .i64 .i64 _ s.size rfl rfl rfl (by rw [hz2]; omega) (by unfold maxLen; omega) (Nat.le_refl _) ?_; intro wm hrm hgm)
  go_loopw [4, 5] (fun o i wr => ∃ (k : Nat) (q : List UInt8), k ≤ s.size ∧ q.length ≤ k ∧ i = .int .i64 k ∧ Hid (RdTo s k q) ∧ wr.ownsRow w.heap.size 5 1 o q.length (oc q) ∧ Below w.heap.size w wr) (fun _ i _ => s.size - (intOf i).toNat)
  case atStart =>
    refine ⟨0, [], Nat.zero_le _, Nat.le_refl _, rfl, ?_, hrm, (Below.refl _ _).grown hgm (Nat.le_refl _) (fun j e => by cases e)⟩
    unfold Hid RdTo
    rw [List.drop_zero]
    cases Qu.rd s.data.toList <;> simp
  case round =>
    obtain ⟨k, q, hk, hq, rfl, hrd, hr, hB⟩ := hrel
    have HR := hide hr
    have hbs := hB.size
    clear hr
    by_cases hlt : k < s.size
    · have hlt' : (k : Int) < (s.size : Int) := by omega
      have HORD := hide (fun h37 => RdTo.ord hrd.out hlt h37)
      have HNO := hide (fun h37 hd => RdTo.none hrd.out hlt h37 hd)
      have HHEX : Hid (∀ (a b : UInt8) (r : List UInt8), s[k] = 37 → s.data.toList.drop (k + 1) = a :: b :: r → Qu.num a ≤ 15 → Qu.num b ≤ 15 → RdTo s (k + 3) (q ++ [Qu.octet a b])) := fun a b r h1 h2 h3 h4 => RdTo.hex hrd.out hlt h1 h2 h3 h4
      generalize hc : s[k] = c at *
      have hc8 := c.toNat_lt
      by_cases h43 : c = 43
      · have HN : Hid (RdTo s (k + 1) (q ++ [32])) := by
          have := HORD.out (by rw [h43]; decide)
          rwa [if_pos h43] at this
        have t1 : ((c.toNat : Int) == 43) = true := by rw [h43]; rfl
        clear h43 HORD HNO HHEX
        go_wp2_with (at_builtin; refine wpList_append_own _ rfl _ _ 40 rfl w.heap.size 5 i0 (.int .u8 0) 1 1 Tryd.underlying40 hi hz0 hz1 hz2 rfl (by decide) _ _ _ rfl (HR.out.alloc _) ⟨wr.heap.size, 0, none⟩ 1 1 [.int .u8 32] rfl rfl (cell_one_new _ _ _) (by simp [Value.oneCell']) (by unfold maxLen; omega) (by omega) (by simp; omega) ?_; intro v' w2 hown' hgrow _)
        refine ⟨⟨k + 1, q ++ [32], by omega, by simp; omega, by go_num, HN.out, ?_, (hB.alloc hbs _).grown hgrow (by simp; omega) (fun j e => ownBlock_ge HR.out e)⟩, by simp [intOf]; omega⟩
        rw [oc_append, List.length_append]
        exact hown'
      · have t1 : ((c.toNat : Int) == 43) = false := beq_eq_false_iff_ne.2 (fun e => h43 (UInt8.toNat_inj.1 (by show c.toNat = 43; omega)))
        by_cases h37 : c = 37
        · have t2 : ((c.toNat : Int) == 37) = true := by rw [h37]; rfl
          have hkk : (k : Int) + 1 ≤ (s.size : Int) := by omega
          have HTO : Hid ((s.extract (k + 1) s.size).data.toList = s.data.toList.drop (k + 1)) := Lib.extract_to_end s (k + 1)
          have hts : (s.extract (k + 1) s.size).size ≤ maxLen := by rw [ByteArray.size_extract]; unfold maxLen; omega
          by_cases hy : ∃ a b r, s.data.toList.drop (k + 1) = a :: b :: r ∧ Qu.num a ≤ 15 ∧ Qu.num b ≤ 15
          · obtain ⟨a, b, r, hd, ha, hb⟩ := hy
            have HN := hide (HHEX.out a b r h37 hd ha hb)
            have h3 := two_of_drop hd
            have dY := fun W => hide (ofDigits_yes (s.extract (k + 1) s.size) a b r W (HTO.out.trans hd) hts ha hb)
            generalize ho : Qu.octet a b = x at *
            clear h37 h43 HORD HNO HHEX hd ha hb ho
            go_wp2_with fail
            refine (dY _).out.mono ?_
            rintro e w1 ⟨rfl, rfl⟩
            go_wp2_with (at_builtin; refine wpList_append_own _ rfl _ _ 40 rfl w.heap.size 5 i0 (.int .u8 0) 1 1 Tryd.underlying40 hi hz0 hz1 hz2 rfl (by decide) _ _ _ rfl (HR.out.alloc _) ⟨w1.heap.size, 0, none⟩ 1 1 [.int .u8 (x.toNat : Int)] rfl rfl (cell_one_new _ _ _) (by simp [Value.oneCell']) (by unfold maxLen; omega) (by omega) (by simp; omega) ?_; intro v' w2 hown' hgrow _)
            refine ⟨⟨k + 3, q ++ [x], by omega, by simp; omega, by go_num, HN.out, ?_, (hB.alloc hbs _).grown hgrow (by simp; omega) (fun j e => ownBlock_ge HR.out e)⟩, by simp [intOf]; omega⟩
            rw [oc_append, List.length_append]
            exact hown'
          · have hn : ∀ a b t, s.data.toList.drop (k + 1) = a :: b :: t → ¬ (Qu.num a ≤ 15 ∧ Qu.num b ≤ 15) := fun a b t h1 h2 => hy ⟨a, b, t, h1, h2⟩
            have HE := hide (HNO.out h37 hn)
            have dN := fun W => hide (ofDigits_no (s.extract (k + 1) s.size) W hts (fun a b r h => hn a b r (HTO.out.symm.trans h)))
            clear h37 h43 HORD HNO HHEX hn hy
            go_wp2_with fail
            refine (dN _).out.mono ?_
            rintro e w1 ⟨⟨x, rfl⟩, rfl⟩
            go_wp2_with fail
            go_ret2
            rw [HE.out]
            exact ⟨rfl, hB⟩
        · have t2 : ((c.toNat : Int) == 37) = false := beq_eq_false_iff_ne.2 (fun e => h37 (UInt8.toNat_inj.1 (by show c.toNat = 37; omega)))
          have HN : Hid (RdTo s (k + 1) (q ++ [c])) := by
            have := HORD.out h37
            rwa [if_neg h43] at this
          clear h37 h43 HORD HNO HHEX
          go_wp2_with (at_builtin; refine wpList_append_own _ rfl _ _ 40 rfl w.heap.size 5 i0 (.int .u8 0) 1 1 Tryd.underlying40 hi hz0 hz1 hz2 rfl (by decide) _ _ _ rfl (HR.out.alloc _) ⟨wr.heap.size, 0, none⟩ 1 1 [.int .u8 (c.toNat : Int)] rfl rfl (cell_one_new _ _ _) (by simp [Value.oneCell']) (by unfold maxLen; omega) (by omega) (by simp; omega) ?_; intro v' w2 hown' hgrow _)
          refine ⟨⟨k + 1, q ++ [c], by omega, by simp; omega, by go_num, HN.out, ?_, (hB.alloc hbs _).grown hgrow (by simp; omega) (fun j e => ownBlock_ge HR.out e)⟩, by simp [intOf]; omega⟩
          rw [oc_append, List.length_append]
          exact hown'
    · have hlt' : ¬ (k : Int) < (s.size : Int) := by omega
      have HE := hide (RdTo.done hrd.out (by omega))
      have hconv := row_text HR.out
      go_wp2_with fail
      go_ret2
      rw [HE.out]
      exact ⟨rfl, hB⟩

end Go.Proofs.YtmjjjlanafiilaaDoor
