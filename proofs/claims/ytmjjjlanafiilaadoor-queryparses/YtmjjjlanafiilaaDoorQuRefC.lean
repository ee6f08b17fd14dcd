/-
  Walks of the document's own answers: number, read.
-/
import Derived.Test.YtmjjjlanafiilaaDoorQuSplit
namespace Go.Proofs.YtmjjjlanafiilaaDoor
open Go Go.RowKit Go.Shelf

/-- is n this digit's number? -/
def isDig (c : UInt8) (n : Nat) : Prop := c.toNat = Qu.hexN n ∨ (9 < n ∧ c.toNat = Qu.hexN n + 32)
theorem isDig_num {c : UInt8} {n : Nat} (hn : n < 16) (h : isDig c n) : Qu.num c = n := by
  unfold isDig Qu.hexN at h
  rcases num_cases c with ⟨h1, h2, h3⟩ | ⟨h1, h2, h3⟩ | ⟨h1, h2, h3⟩ | ⟨h1, h2, h4, h3⟩
  all_goals
    rw [h3]
    split at h
    all_goals omega
theorem noDig_num {c : UInt8} (h : ∀ n, n < 16 → ¬ isDig c n) : Qu.num c = 99 := by
  rcases num_cases c with ⟨h1, h2, h3⟩ | ⟨h1, h2, h3⟩ | ⟨h1, h2, h3⟩ | ⟨h1, h2, h4, h3⟩
  · exact absurd (show isDig c (c.toNat - 48) from .inl (by unfold Qu.hexN; rw [if_pos (by omega)]; omega)) (h _ (by omega))
  · exact absurd (show isDig c (c.toNat - 55) from .inl (by unfold Qu.hexN; rw [if_neg (by omega)]; omega)) (h _ (by omega))
  · exact absurd (show isDig c (c.toNat - 87) from .inr ⟨by omega, by unfold Qu.hexN; rw [if_neg (by omega)]; omega⟩) (h _ (by omega))
  · exact h3
theorem hexd_nat : ∀ n, n < 16 → (Qu.hexd n).toNat = Qu.hexN n ∧ Qu.hexN n ≤ 70 := by decide

set_option maxHeartbeats 1600000 in
theorem rnumber_any (c : UInt8) (w : World) :
    Calls Tryd.prog 35 #[.int .u8 (c.toNat : Int)] w fun e w' => e = .returned (.int .i64 (Qu.num c : Int)) ∧ w' = w := by
  have hc8 := c.toNat_lt
  go_enter Tryd.func35, Tryd.ntmps35
  go_wp2_with fail
  go_loopw [3] (fun i wr => ∃ k : Nat, k ≤ 16 ∧ i = .int .u8 k ∧ Hid (∀ n, n < k → ¬ isDig c n) ∧ wr = w) (fun i _ => 16 - (intOf i).toNat)
  case atStart => exact ⟨0, Nat.zero_le _, rfl, fun _ h => absurd h (by omega), rfl⟩
  case round =>
    obtain ⟨k, hk, rfl, hno, rfl⟩ := hrel
    by_cases hlt : k < 16
    · have hlt' : (k : Int) < 16 := by omega
      obtain ⟨hx1, hx2⟩ := hexd_nat k hlt
      have HX := fun W => hide (rhex_any k W hlt)
      have HNUM := hide (fun h => isDig_num (c := c) hlt h)
      have HNEXT : Hid (¬ isDig c k → ∀ n, n < k + 1 → ¬ isDig c n) := by
        intro h n hn
        by_cases e : n = k
        · subst e; exact h
        · exact hno.out n (by omega)
      have HD : Hid (isDig c k ↔ c.toNat = (Qu.hexd k).toNat ∨ (9 < k ∧ c.toNat = (Qu.hexd k).toNat + 32)) := by
        unfold Hid isDig; rw [hx1]
      rw [← hx1] at hx2
      clear hx1
      generalize (Qu.hexd k).toNat = d at *
      by_cases h1 : c.toNat = d
      · have HE := hide (HNUM.out (HD.out.2 (.inl h1)))
        have t1 : ((c.toNat : Int) == (d : Int)) = true := by rw [beq_iff_eq]; omega
        clear h1
        go_wp2_with fail
        refine (HX wr).out.mono ?_
        rintro e w1 ⟨rfl, rfl⟩
        go_wp2_with fail
        go_ret
        exact ⟨ret_int (by rw [HE.out]), rfl⟩
      · have t1 : ((c.toNat : Int) == (d : Int)) = false := beq_eq_false_iff_ne.2 (by omega)
        by_cases h9 : 9 < k
        · have h9' : (9 : Int) < (k : Int) := by omega
          by_cases h2 : c.toNat = d + 32
          · have HE := hide (HNUM.out (HD.out.2 (.inr ⟨h9, h2⟩)))
            have t2 : ((c.toNat : Int) == (d : Int) + 32) = true := by rw [beq_iff_eq]; omega
            clear h1 h2
            go_wp2_with fail
            refine (HX wr).out.mono ?_
            rintro e w1 ⟨rfl, rfl⟩
            go_wp2_with fail
            refine (HX w1).out.mono ?_
            rintro e w1 ⟨rfl, rfl⟩
            go_wp2_with fail
            go_ret
            exact ⟨ret_int (by rw [HE.out]), rfl⟩
          · have t2 : ((c.toNat : Int) == (d : Int) + 32) = false := beq_eq_false_iff_ne.2 (by omega)
            have HN := hide (HNEXT.out (fun h => by rcases HD.out.1 h with h | h; exact h1 h; exact h2 h.2))
            clear h1 h2
            go_wp2_with fail
            refine (HX wr).out.mono ?_
            rintro e w1 ⟨rfl, rfl⟩
            go_wp2_with fail
            refine (HX w1).out.mono ?_
            rintro e w1 ⟨rfl, rfl⟩
            go_wp2_with fail
            exact ⟨⟨k + 1, by omega, by go_num, HN.out, by simp⟩, by simp [intOf]; omega⟩
        · have h9' : ¬ (9 : Int) < (k : Int) := by omega
          have HN := hide (HNEXT.out (fun h => by rcases HD.out.1 h with h | h; exact h1 h; exact h9 h.1))
          clear h1
          go_wp2_with fail
          refine (HX wr).out.mono ?_
          rintro e w1 ⟨rfl, rfl⟩
          go_wp2_with fail
          exact ⟨⟨k + 1, by omega, by go_num, HN.out, by simp⟩, by simp [intOf]; omega⟩
    · obtain rfl : k = 16 := by omega
      have HE := hide (noDig_num hno.out)
      go_wp2_with fail
      go_ret
      exact ⟨ret_int (by rw [HE.out]; rfl), rfl⟩

/-- how far read has come: the octets t are read, the text r is left -/
def RdLeft (s t r : ByteArray) : Prop := Qu.rd s.data.toList = (Qu.rd r.data.toList).map (t.data.toList ++ ·)
theorem RdLeft.ord {s t r : ByteArray} {y : ByteArray} {c : UInt8} {r' : List UInt8} (h : RdLeft s t r) (hr : r.data.toList = c :: r') (h37 : c ≠ 37) (hy : y.data.toList = [if c = 43 then 32 else c]) : RdLeft s (t ++ y) (r.extract 1 r.size) := by
  unfold RdLeft at *
  have hto : (r.extract 1 r.size).data.toList = r' := by rw [Lib.extract_to_end r 1, hr]; rfl
  rw [h, hr, Qu.rd_ord h37, hto, app_data, hy]
  exact map_map_pre (x := [_])
theorem RdLeft.hex {s t r : ByteArray} {a b : UInt8} {r' : List UInt8} (h : RdLeft s t r) (hr : r.data.toList = 37 :: a :: b :: r') (ha : Qu.num a ≤ 15) (hb : Qu.num b ≤ 15) : RdLeft s (t ++ mkB [Qu.octet a b]) (r.extract 3 r.size) := by
  unfold RdLeft at *
  have hto : (r.extract 3 r.size).data.toList = r' := by rw [Lib.extract_to_end r 3, hr]; rfl
  rw [h, hr, Qu.rd_hex ha hb, hto, app_data, mkB_list]
  exact map_map_pre (x := [_])
theorem RdLeft.none {s t r : ByteArray} {r' : List UInt8} (h : RdLeft s t r) (hr : r.data.toList = 37 :: r') (hd : ∀ a b t, r' = a :: b :: t → ¬ (Qu.num a ≤ 15 ∧ Qu.num b ≤ 15)) : Qu.rd s.data.toList = none := by
  unfold RdLeft at h
  rw [h, hr, rd_no hd]
  rfl
theorem RdLeft.done {s t r : ByteArray} (h : RdLeft s t r) (hr : r.size = 0) : Qu.rd s.data.toList = some t.data.toList := by
  unfold RdLeft at h
  have e : r.data.toList = [] := by
    apply List.eq_nil_of_length_eq_zero
    rw [Array.length_toList]
    exact hr
  rw [h, e]
  simp [Qu.rd]

def strLen : Value → Nat
  | .string s => s.size
  | _ => 0

set_option maxRecDepth 100000 in
set_option maxHeartbeats 3200000 in
theorem rread_any (s : ByteArray) (w : World) (hs : s.size ≤ 100000) :
    Calls Tryd.prog 29 #[.string s] w fun e w' => e = .returned (rdRes (Qu.rd s.data.toList)) ∧ Below w.heap.size w w' := by
  go_enter Tryd.func29, Tryd.ntmps29
  go_wp2_with fail
  go_loopw [0, 4] (fun o i wr => ∃ (r t : ByteArray), o = .string r ∧ i = .string t ∧ t.size + r.size ≤ s.size ∧ Hid (RdLeft s t r) ∧ Below w.heap.size w wr) (fun o _ _ => strLen o)
  case atStart =>
    refine ⟨s, ⟨#[]⟩, rfl, rfl, by show 0 + s.size ≤ _; omega, ?_, Below.refl _ _⟩
    unfold Hid RdLeft
    cases Qu.rd s.data.toList <;> simp
  case round =>
    obtain ⟨r, t, rfl, rfl, hsz, hrd, hB⟩ := hrel
    have hrl : r.data.toList.length = r.size := Array.length_toList
    match hl : r.data.toList, hrl with
    | [], hrl =>
      have h0 : r.size = 0 := by simpa using hrl.symm
      have a0 : ¬ (0 : Int) < (r.size : Int) := by omega
      have HE := hide (RdLeft.done hrd.out h0)
      clear hl h0
      go_wp2_with fail
      go_ret2
      rw [HE.out]
      exact ⟨by simp [rdRes], hB⟩
    | c :: r', hrl =>
      have h1 : 1 ≤ r.size := by simp at hrl; omega
      have a0 : (0 : Int) < (r.size : Int) := by omega
      have a1 : (1 : Int) ≤ (r.size : Int) := by omega
      obtain ⟨_, e0⟩ := at_of_list hl (i := 0) (by simp)
      simp only [List.getElem_cons_zero] at e0
      have hex1 : (r.extract 1 r.size).size = r.size - 1 := by rw [ByteArray.size_extract]; omega
      have hc8 := c.toNat_lt
      by_cases h37 : c = 37
      · have t1 : ((c.toNat : Int) == 37) = true := by rw [h37]; rfl
        by_cases hy : ∃ a b r2, r' = a :: b :: r2 ∧ Qu.num a ≤ 15 ∧ Qu.num b ≤ 15
        · obtain ⟨a, b, r2, rfl, ha, hb⟩ := hy
          have HN := hide (RdLeft.hex hrd.out (by rw [hl, h37]) ha hb)
          have h3 : 3 ≤ r.size := by simp at hrl; omega
          obtain ⟨_, e1⟩ := at_of_list hl (i := 1) (by simp)
          obtain ⟨_, e2⟩ := at_of_list hl (i := 2) (by simp)
          simp only [List.getElem_cons_zero, List.getElem_cons_succ] at e1 e2
          have hex3 : (r.extract 3 r.size).size = r.size - 3 := by rw [ByteArray.size_extract]; omega
          have a3 : ¬ (r.size : Int) < 3 := by omega
          have a4 : (3 : Int) ≤ (r.size : Int) := by omega
          have N1 := fun W => hide (rnumber_any a W)
          have N2 := fun W => hide (rnumber_any b W)
          have HO := hide (octet_nat ha hb)
          generalize hx : Qu.octet a b = x at *
          generalize Qu.num a = na at *
          generalize Qu.num b = nb at *
          have i1 : ¬ (15 : Int) < (na : Int) := by omega
          have i2 : ¬ (15 : Int) < (nb : Int) := by omega
          have hx8 : ((16 : Int) * (na : Int) + (nb : Int)) = (x.toNat : Int) := by rw [HO.out]; omega
          have hx9 : IntKind.u8.wrap (x.toNat : Int) = (x.toNat : Int) := by rw [IntKind.wrap_u8']; have := x.toNat_lt; omega
          have ms : (mkB [x]).size = 1 := rfl
          have hq : ¬ 9223372036854775807 < t.size + 1 := by omega
          clear hrl hl h37 hx ha hb
          go_wp2_with fail
          refine (N1 _).out.mono ?_
          rintro e w1 ⟨rfl, rfl⟩
          go_wp2_with fail
          refine (N2 _).out.mono ?_
          rintro e w1 ⟨rfl, rfl⟩
          go_wp2_with fail
          have g1 : (1 : Int) < (r.size : Int) := by omega
          have g2 : (2 : Int) < (r.size : Int) := by omega
          have j1 : (na : Int) ≤ 15 := by omega
          have j2 : (nb : Int) ≤ 15 := by omega
          have j3 : (0 : Int) ≤ (na : Int) := by omega
          have j4 : (0 : Int) ≤ (nb : Int) := by omega
          have q1 : IntKind.i64.wrap (16 * (na : Int)) = 16 * (na : Int) := by rw [IntKind.wrap_i64]; omega
          have q2 : IntKind.i64.wrap (16 * (na : Int) + (nb : Int)) = (x.toNat : Int) := by rw [hx8, IntKind.wrap_i64]; have := x.toNat_lt; omega
          have q3 : IntKind.i64.wrap (x.toNat : Int) = (x.toNat : Int) := by rw [IntKind.wrap_i64]; have := x.toNat_lt; omega
          have f1 : (convert 40 9 (.slice (some ⟨w1.heap.size, 0, none⟩) 1 1)).run Tryd.prog (w1.alloc (.cells #[.int .u8 (x.toNat : Int)] 5)).drew = .ok (.string (mkB [x])) (w1.alloc (.cells #[.int .u8 (x.toNat : Int)] 5)).drew := bytes_at w1.drew w1.heap.size rfl [x] 1 1 rfl _ rfl
          refine wp_region_noPanic ?_
          refine wp_region_held_drew (S := fun W => Below w1.heap.size w1 W) (by kernel_rfl) ((Below.refl _ _).drew) (fun hHeld => ?_)
          refine wpAnyH_take (i := 0) (v := ?_) (op_at (rest := _) rfl) (by kernel_rfl) (by kernel_rfl) (by kernel_rfl) (fun _ _ _ h => h) (Or.inl ⟨by rfl, ?_⟩) (by assumption) ?_
          rotate_left 1
          · (intro W hSw; (try dsimp only at hSw); go_simp; (try with_reducible rfl))
          try simp only [Act.put, List.setIfInBounds_toArray, List.set_cons_zero, List.set_cons_succ]
          refine wpAnyH_take (i := 1) (v := ?_) (op_at (rest := _) rfl) (by kernel_rfl) (by kernel_rfl) (by kernel_rfl) (fun _ _ _ h => h) (Or.inl ⟨by rfl, ?_⟩) (by assumption) ?_
          rotate_left 1
          · (intro W hSw; (try dsimp only at hSw); go_simp; (try with_reducible rfl))
          try simp only [Act.put, List.setIfInBounds_toArray, List.set_cons_zero, List.set_cons_succ]
          refine wpAnyH_take (i := 2) (v := ?_) (op_at (rest := _) rfl) (by kernel_rfl) (by kernel_rfl) (by kernel_rfl) (fun _ _ _ h => h) (Or.inl ⟨by rfl, ?_⟩) (by assumption) ?_
          rotate_left 1
          · (intro W hSw; (try dsimp only at hSw); go_simp; (try with_reducible rfl))
          try simp only [Act.put, List.setIfInBounds_toArray, List.set_cons_zero, List.set_cons_succ]
          refine wpAnyH_take (i := 5) (v := ?_) (op_at (rest := _) rfl) (by kernel_rfl) (by kernel_rfl) (by kernel_rfl) (fun _ _ _ h => h) (Or.inl ⟨by rfl, ?_⟩) (by assumption) ?_
          rotate_left 1
          · (intro W hSw; (try dsimp only at hSw); go_simp; (try with_reducible rfl))
          try simp only [Act.put, List.setIfInBounds_toArray, List.set_cons_zero, List.set_cons_succ]
          refine wpAnyH_take (i := 6) (v := ?_) (op_at (rest := _) rfl) (by kernel_rfl) (by kernel_rfl) (by kernel_rfl) (fun _ _ _ h => h) (Or.inl ⟨by rfl, ?_⟩) (by assumption) ?_
          rotate_left 1
          · (intro W hSw; (try dsimp only at hSw); go_simp; (try with_reducible rfl))
          try simp only [Act.put, List.setIfInBounds_toArray, List.set_cons_zero, List.set_cons_succ]
          refine wpAnyH_ready (rs := [3]) (by kernel_rfl) (by simp) ?_
          refine AllReadyH.cons (op_at (rest := _) rfl) (fun K hK => ?_) AllReadyH.nil
          go_simp
          refine ((N1 _).out).mono ?_
          rintro e w3 ⟨rfl, rfl⟩
          go_wp2_with fail
          refine hK.out _ _ ?_ (fun hHeld => ?_)
          · exact hHeld
          clear hK K
          try simp only [Act.put, List.setIfInBounds_toArray, List.set_cons_zero, List.set_cons_succ]
          refine wpAnyH_take (i := 4) (v := ?_) (op_at (rest := _) rfl) (by kernel_rfl) (by kernel_rfl) (by kernel_rfl) (fun _ _ _ h => h) (Or.inl ⟨by rfl, ?_⟩) (by assumption) ?_
          rotate_left 1
          · (intro W hSw; (try dsimp only at hSw); go_simp; (try with_reducible rfl))
          try simp only [Act.put, List.setIfInBounds_toArray, List.set_cons_zero, List.set_cons_succ]
          refine wpAnyH_ready (rs := [7]) (by kernel_rfl) (by simp) ?_
          refine AllReadyH.cons (op_at (rest := _) rfl) (fun K hK => ?_) AllReadyH.nil
          go_simp
          refine ((N2 _).out).mono ?_
          rintro e w3 ⟨rfl, rfl⟩
          go_wp2_with fail
          refine hK.out _ _ ?_ (fun hHeld => ?_)
          · exact hHeld
          clear hK K
          try simp only [Act.put, List.setIfInBounds_toArray, List.set_cons_zero, List.set_cons_succ]
          refine wpAnyH_take (i := 8) (v := ?_) (op_at (rest := _) rfl) (by kernel_rfl) (by kernel_rfl) (by kernel_rfl) (fun _ _ _ h => h) (Or.inl ⟨by rfl, ?_⟩) (by assumption) ?_
          rotate_left 1
          · (intro W hSw; (try dsimp only at hSw); go_simp; (try with_reducible rfl))
          try simp only [Act.put, List.setIfInBounds_toArray, List.set_cons_zero, List.set_cons_succ]
          refine wpAnyH_take (i := 9) (v := ?_) (op_at (rest := _) rfl) (by kernel_rfl) (by kernel_rfl) (by kernel_rfl) (fun _ _ _ h => h) (Or.inl ⟨by rfl, ?_⟩) (by assumption) ?_
          rotate_left 1
          · (intro W hSw; (try dsimp only at hSw); go_simp; (try with_reducible rfl))
          try simp only [Act.put, List.setIfInBounds_toArray, List.set_cons_zero, List.set_cons_succ]
          refine wpAnyH_ready (rs := [10]) (by kernel_rfl) (by simp) ?_
          refine AllReadyH.cons (op_at (rest := _) rfl) (fun K hK => ?_) AllReadyH.nil
          go_simp
          refine hK.out _ _ ?_ (fun hHeld => ?_)
          · exact hHeld.alloc hHeld.size _
          clear hK K
          try simp only [Act.put, List.setIfInBounds_toArray, List.set_cons_zero, List.set_cons_succ]
          refine wpAnyH_ready (rs := [11]) (by kernel_rfl) (by simp) ?_
          refine AllReadyH.cons (op_at (rest := _) rfl) (fun K hK => ?_) AllReadyH.nil
          go_simp
          refine hK.out _ _ ?_ (fun hHeld => ?_)
          · exact hHeld
          clear hK K
          try simp only [Act.put, List.setIfInBounds_toArray, List.set_cons_zero, List.set_cons_succ]
          refine wpAnyH_take (i := 12) (v := ?_) (op_at (rest := _) rfl) (by kernel_rfl) (by kernel_rfl) (by kernel_rfl) (fun _ _ _ h => h) (Or.inl ⟨by rfl, ?_⟩) (by assumption) ?_
          rotate_left 1
          · (intro W hSw; (try dsimp only at hSw); go_simp; (try with_reducible rfl))
          try simp only [Act.put, List.setIfInBounds_toArray, List.set_cons_zero, List.set_cons_succ]
          refine wpAnyH_take (i := 13) (v := ?_) (op_at (rest := _) rfl) (by kernel_rfl) (by kernel_rfl) (by kernel_rfl) (fun _ _ _ h => h) (Or.inl ⟨by rfl, ?_⟩) (by assumption) ?_
          rotate_left 1
          · (intro W hSw; (try dsimp only at hSw); go_simp; (try with_reducible rfl))
          try simp only [Act.put, List.setIfInBounds_toArray, List.set_cons_zero, List.set_cons_succ]
          refine wpAnyH_done (by kernel_rfl) ?_ _
          refine NoPanic.normal ?_
          replace hHeld := hB.trans (hHeld.mono hB.size)
          clear f1 N1 N2 q1 q2 q3 hx8 hx9
          generalize (w1.alloc (.cells #[.int .u8 (x.toNat : Int)] 5)).drew = W at *
          go_wp2_with fail
          refine ⟨⟨_, _, rfl, rfl, ?_, HN.out, hHeld⟩, ?_⟩
          · rw [ByteArray.size_append, ms, hex3]; omega
          · show (r.extract 3 r.size).size < r.size; omega
        · have HE := hide (RdLeft.none hrd.out (by rw [hl, h37]) (fun a b t h1 h2 => hy ⟨a, b, t, h1, h2⟩))
          by_cases h3 : r.size < 3
          · have a3 : (r.size : Int) < 3 := by omega
            clear hrl hl h37 hy
            go_wp2_with fail
            go_ret2
            rw [HE.out]
            exact ⟨rfl, hB⟩
          · have a3 : ¬ (r.size : Int) < 3 := by omega
            obtain ⟨a, b, r2, rfl⟩ : ∃ a b r2, r' = a :: b :: r2 := by
              match r', hrl with
              | [], hrl => simp at hrl; omega
              | [_], hrl => simp at hrl; omega
              | a :: b :: r2, _ => exact ⟨a, b, r2, rfl⟩
            have hn : ¬ (Qu.num a ≤ 15 ∧ Qu.num b ≤ 15) := fun h => hy ⟨a, b, r2, rfl, h⟩
            obtain ⟨_, e1⟩ := at_of_list hl (i := 1) (by simp)
            obtain ⟨_, e2⟩ := at_of_list hl (i := 2) (by simp)
            simp only [List.getElem_cons_zero, List.getElem_cons_succ] at e1 e2
            have N1 := fun W => hide (rnumber_any a W)
            have N2 := fun W => hide (rnumber_any b W)
            have hs3 : 3 ≤ r.size := by omega
            clear hrl hl h37 hy
            generalize Qu.num a = na at *
            generalize Qu.num b = nb at *
            by_cases i1 : 15 < na
            · have i1' : (15 : Int) < (na : Int) := by omega
              go_wp2_with fail
              refine (N1 _).out.mono ?_
              rintro e w1 ⟨rfl, rfl⟩
              go_wp2_with fail
              go_ret2
              rw [HE.out]
              exact ⟨rfl, hB⟩
            · have i1' : ¬ (15 : Int) < (na : Int) := by omega
              have i2' : (15 : Int) < (nb : Int) := by omega
              go_wp2_with fail
              refine (N1 _).out.mono ?_
              rintro e w1 ⟨rfl, rfl⟩
              go_wp2_with fail
              refine (N2 _).out.mono ?_
              rintro e w1 ⟨rfl, rfl⟩
              go_wp2_with fail
              go_ret2
              rw [HE.out]
              exact ⟨rfl, hB⟩
      · have t1 : ((c.toNat : Int) == 37) = false := beq_eq_false_iff_ne.2 (fun e => h37 (UInt8.toNat_inj.1 (by show c.toNat = 37; omega)))
        by_cases h43 : c = 43
        · have t2 : ((c.toNat : Int) == 43) = true := by rw [h43]; rfl
          have HN := hide (RdLeft.ord (y := ⟨#[32]⟩) hrd.out hl h37 (by rw [if_pos h43]))
          clear hrl hl h37 h43
          go_wp2_with fail
          refine ⟨⟨_, _, rfl, rfl, ?_, HN.out, hB⟩, ?_⟩
          · rw [ByteArray.size_append, hex1]; show t.size + 1 + _ ≤ _; omega
          · show (r.extract 1 r.size).size < r.size; omega
        · have t2 : ((c.toNat : Int) == 43) = false := beq_eq_false_iff_ne.2 (fun e => h43 (UInt8.toNat_inj.1 (by show c.toNat = 43; omega)))
          have hx1 : (r.extract 0 1).size = 1 := by rw [ByteArray.size_extract]; omega
          have HN := hide (RdLeft.ord (y := r.extract 0 1) hrd.out hl h37 (by rw [if_neg h43, Lib.extract_eq]; simp [hl]))
          clear hrl hl h37 h43
          go_wp2_with fail
          refine ⟨⟨_, _, rfl, rfl, ?_, HN.out, hB⟩, ?_⟩
          · rw [ByteArray.size_append, hex1, hx1]; omega
          · show (r.extract 1 r.size).size < r.size; omega

end Go.Proofs.YtmjjjlanafiilaaDoor
