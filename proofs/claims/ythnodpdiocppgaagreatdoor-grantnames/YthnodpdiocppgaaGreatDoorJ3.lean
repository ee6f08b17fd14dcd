/-
  Walks: pairs.Same, equal, a wanted name's is, place, first; Get.
-/
import Derived.Test.YthnodpdiocppgaaGreatDoorJ2
import Derived.Test.YthnodpdiocppgaaGreatDoorJ1
import Derived.Laws.EntriesVeiled
import Derived.Deep.RegionHeld3
namespace Go.Proofs.YthnodpdiocppgaaGreatDoor
set_option maxRecDepth 20000
open Go Go.RowKit Go.Shelf

/-- are both names the same, folded? -/
abbrev sameF (a b : ByteArray) : Bool := Pb.sm foldB a b
/-- octet by octet -/
abbrev sameE (a b : ByteArray) : Bool := decide (a = b)

set_option maxHeartbeats 400000 in
theorem prSame_any (a b : ByteArray) (w : World) (ha : a.size ≤ maxLen) (hb : b.size ≤ maxLen) :
    Calls Tryz.prog 214 #[.string a, .string b] w fun e w' => e = .returned (.bool (sameF a b)) ∧ Below w.heap.size w w' := by
  by_cases hl : a.size = b.size
  · have H : Hid (((foldB a).toList == (foldB b).toList) = sameF a b) := beq_dec _ _
    go_enter Tryz.func214, Tryz.ntmps214
    go_wp2_with fail
    refine (foldB_any _ _ ha).mono ?_
    rintro e w1 ⟨rfl, hb1⟩
    go_wp2_with fail
    refine (foldB_any _ _ hb).mono ?_
    rintro e w2 ⟨rfl, hb2⟩
    go_wp2_with fail
    go_ret
    exact ⟨ret_bool H.out, bb2 hb1 hb2⟩
  · have H : Hid (false = sameF a b) := by
      refine (decide_eq_false fun e => hl ?_).symm
      rw [← foldB_size a, e, foldB_size]
    have hl' : ((a.size : Int) == (b.size : Int)) = false := by rw [beq_eq_false_iff_ne]; omega
    go_enter Tryz.func214, Tryz.ntmps214
    go_wp2_with fail
    go_ret
    exact ⟨ret_bool H.out, Below.refl _ _⟩

/-- a function of the program that tells whether two texts are the same -/
structure Cmp (f : Nat) (same : ByteArray → ByteArray → Bool) : Prop where
  go : ∀ (a b : ByteArray) (w : World), a.size ≤ maxLen → b.size ≤ maxLen → Calls Tryz.prog f #[.string a, .string b] w fun e w' => e = .returned (.bool (same a b)) ∧ Below w.heap.size w w'
  enters : ∀ (args : Array Value) (w : World), (callFunc f args).run Tryz.prog w = .ok (.enter f args) w
theorem enter_any {P : Program} {f : FuncId} {fn : Func} {c : Code} (hf : P.funcs[f]? = some fn) (hname : (fn.name == "runtime.NumGoroutine") = false) (hb : fn.body = some c) (args : Array Value) (w : World) :
    (callFunc f args).run P w = .ok (.enter f args) w := by
  have h1 : fn.name ≠ "runtime.NumGoroutine" := by simpa using hname
  simp [callFunc, hf, h1, hb]
theorem cmp_same : Cmp 214 sameF := ⟨fun a b w ha hb => prSame_any a b w ha hb, fun args w => enter_any Tryz.func214 (by kernel_rfl) rfl args w⟩

end Go.Proofs.YthnodpdiocppgaaGreatDoor
namespace Go.Proofs.YthnodpdiocppgaaGreatDoor
set_option maxRecDepth 20000
open Go Go.RowKit Go.Shelf

theorem symF (a b : ByteArray) : sameF a b = sameF b a := Pb.sm_comm a b
theorem symE (a b : ByteArray) : sameE a b = sameE b a := decide_eq_decide.2 ⟨Eq.symm, Eq.symm⟩
end Go.Proofs.YthnodpdiocppgaaGreatDoor
namespace Go.Proofs.YthnodpdiocppgaaGreatDoor
set_option maxRecDepth 20000
open Go Go.RowKit Go.Shelf

/-- an octet of a token -/
def tokN (n : Nat) : Bool := decide (97 ≤ n ∧ n ≤ 122) || decide (65 ≤ n ∧ n ≤ 90) || decide (48 ≤ n ∧ n ≤ 57) || [33, 35, 36, 37, 38, 39, 42, 43, 45, 46, 94, 95, 96, 124, 126].contains n
def tokC (c : UInt8) : Bool := tokN c.toNat
/-- the signs, as the program lists them -/
def signsL : List UInt8 := [33, 35, 36, 37, 38, 39, 42, 43, 45, 46, 94, 95, 124, 126, 96]
theorem tok_all : ∀ n, n < 256 → tokN n = (decide (97 ≤ n ∧ n ≤ 122) || decide (65 ≤ n ∧ n ≤ 90) || decide (48 ≤ n ∧ n ≤ 57) || decide (0 ≤ Lib.indexByte signsL (UInt8.ofNat n))) := by decide +kernel
theorem tok_sign {c : UInt8} (h1 : ¬ (97 ≤ c.toNat ∧ c.toNat ≤ 122)) (h2 : ¬ (65 ≤ c.toNat ∧ c.toNat ≤ 90)) (h3 : ¬ (48 ≤ c.toNat ∧ c.toNat ≤ 57)) : decide (0 ≤ Lib.indexByte signsL c) = tokC c := by
  have h := tok_all c.toNat c.toNat_lt
  rw [decide_eq_false h1, decide_eq_false h2, decide_eq_false h3, UInt8.ofNat_toNat] at h
  exact h.symm
theorem tok_yes {c : UInt8} (h : (97 ≤ c.toNat ∧ c.toNat ≤ 122) ∨ (65 ≤ c.toNat ∧ c.toNat ≤ 90) ∨ (48 ≤ c.toNat ∧ c.toNat ≤ 57)) : true = tokC c := by
  unfold tokC tokN
  rcases h with h | h | h
  · rw [decide_eq_true h]; simp
  · rw [decide_eq_true h]; simp
  · rw [decide_eq_true h]; simp

set_option maxHeartbeats 800000 in
theorem inToken_any (c : UInt8) (w : World) :
    Calls Tryz.prog 236 #[.int .u8 (c.toNat : Int)] w fun e w' => e = .returned (.bool (tokC c)) ∧ w' = w := by
  have hc8 := c.toNat_lt
  by_cases h1 : 97 ≤ c.toNat ∧ c.toNat ≤ 122
  · have HP := hide (tok_yes (.inl h1))
    have t0 : (97 : Int) ≤ (c.toNat : Int) := by omega
    have t1 : (c.toNat : Int) ≤ 122 := by omega
    clear h1
    go_enter Tryz.func236, Tryz.ntmps236
    go_wp2_with fail
    go_ret
    exact ⟨ret_bool HP.out, rfl⟩
  · by_cases h2 : 65 ≤ c.toNat ∧ c.toNat ≤ 90
    · have HP := hide (tok_yes (.inr (.inl h2)))
      have t0 : ¬ (97 : Int) ≤ (c.toNat : Int) := by omega
      have t1 : (65 : Int) ≤ (c.toNat : Int) := by omega
      have t2 : (c.toNat : Int) ≤ 90 := by omega
      clear h1 h2
      go_enter Tryz.func236, Tryz.ntmps236
      go_wp2_with fail
      go_ret
      exact ⟨ret_bool HP.out, rfl⟩
    · by_cases h3 : 48 ≤ c.toNat ∧ c.toNat ≤ 57
      · have HP := hide (tok_yes (.inr (.inr h3)))
        have t0 : ¬ (97 : Int) ≤ (c.toNat : Int) := by omega
        have t1 : ¬ (65 : Int) ≤ (c.toNat : Int) := by omega
        have t3 : (48 : Int) ≤ (c.toNat : Int) := by omega
        have t4 : (c.toNat : Int) ≤ 57 := by omega
        clear h1 h2 h3
        go_enter Tryz.func236, Tryz.ntmps236
        go_wp2_with fail
        go_ret
        exact ⟨ret_bool HP.out, rfl⟩
      · have HP := hide (tok_sign h1 h2 h3)
        have C1 := fun W => hide (sIndexByte_any ⟨#[33, 35, 36, 37, 38, 39, 42, 43, 45, 46, 94, 95, 124, 126, 96]⟩ (c.toNat : Int) W)
        have e1 : Lib.indexByte (⟨#[33, 35, 36, 37, 38, 39, 42, 43, 45, 46, 94, 95, 124, 126, 96]⟩ : ByteArray).data.toList ((c.toNat : Int)).toNat.toUInt8 = Lib.indexByte signsL c := by
          rw [show ((c.toNat : Int)).toNat.toUInt8 = c by simp]
          rfl
        rw [e1] at C1
        clear e1
        generalize Lib.indexByte signsL c = i at *
        have hall : (97 ≤ c.toNat ∧ 122 < c.toNat) ∨ (c.toNat < 97 ∧ 65 ≤ c.toNat ∧ 90 < c.toNat) ∨ (c.toNat < 65 ∧ 48 ≤ c.toNat ∧ 57 < c.toNat) ∨ c.toNat < 48 := by omega
        clear h1 h2 h3
        rcases hall with h | h | h | h
        · have t0 : (97 : Int) ≤ (c.toNat : Int) := by omega
          have t1 : ¬ (c.toNat : Int) ≤ 122 := by omega
          have t2 : (65 : Int) ≤ (c.toNat : Int) := by omega
          have t3 : ¬ (c.toNat : Int) ≤ 90 := by omega
          have t4 : (48 : Int) ≤ (c.toNat : Int) := by omega
          have t5 : ¬ (c.toNat : Int) ≤ 57 := by omega
          clear h
          go_enter Tryz.func236, Tryz.ntmps236
          go_wp2_with fail
          refine ((C1 _).out).mono ?_
          rintro e x ⟨rfl, hx⟩
          subst x
          go_wp2_with fail
          go_ret
          exact ⟨ret_bool HP.out, rfl⟩
        · have t0 : ¬ (97 : Int) ≤ (c.toNat : Int) := by omega
          have t2 : (65 : Int) ≤ (c.toNat : Int) := by omega
          have t3 : ¬ (c.toNat : Int) ≤ 90 := by omega
          have t4 : (48 : Int) ≤ (c.toNat : Int) := by omega
          have t5 : ¬ (c.toNat : Int) ≤ 57 := by omega
          clear h
          go_enter Tryz.func236, Tryz.ntmps236
          go_wp2_with fail
          refine ((C1 _).out).mono ?_
          rintro e x ⟨rfl, hx⟩
          subst x
          go_wp2_with fail
          go_ret
          exact ⟨ret_bool HP.out, rfl⟩
        · have t0 : ¬ (97 : Int) ≤ (c.toNat : Int) := by omega
          have t2 : ¬ (65 : Int) ≤ (c.toNat : Int) := by omega
          have t4 : (48 : Int) ≤ (c.toNat : Int) := by omega
          have t5 : ¬ (c.toNat : Int) ≤ 57 := by omega
          clear h
          go_enter Tryz.func236, Tryz.ntmps236
          go_wp2_with fail
          refine ((C1 _).out).mono ?_
          rintro e x ⟨rfl, hx⟩
          subst x
          go_wp2_with fail
          go_ret
          exact ⟨ret_bool HP.out, rfl⟩
        · have t0 : ¬ (97 : Int) ≤ (c.toNat : Int) := by omega
          have t2 : ¬ (65 : Int) ≤ (c.toNat : Int) := by omega
          have t4 : ¬ (48 : Int) ≤ (c.toNat : Int) := by omega
          clear h
          go_enter Tryz.func236, Tryz.ntmps236
          go_wp2_with fail
          refine ((C1 _).out).mono ?_
          rintro e x ⟨rfl, hx⟩
          subst x
          go_wp2_with fail
          go_ret
          exact ⟨ret_bool HP.out, rfl⟩

/-- a token -/
def TokenP (s : ByteArray) : Prop := 1 ≤ s.size ∧ s.size ≤ 40 ∧ ∀ j (h : j < s.size), tokC s[j] = true
/-- what a function that tells a property answers -/
def Tells (p : Prop) (e : Ending) : Prop := ∃ b, e = .returned (.bool b) ∧ (b = true ↔ p)
theorem tells_yes {p : Prop} (h : p) : Tells p (.returned (.bool true)) := ⟨true, rfl, by simp [h]⟩
theorem tells_no {p : Prop} (h : ¬ p) : Tells p (.returned (.bool false)) := ⟨false, rfl, by simp [h]⟩

set_option maxHeartbeats 800000 in
theorem token_any (s : ByteArray) (w : World) (hs : s.size ≤ maxLen) :
    Calls Tryz.prog 211 #[.string s] w fun e w' => Tells (TokenP s) e ∧ w' = w := by
  unfold maxLen at hs
  by_cases h0 : s.size = 0
  · have HN : Hid (¬ TokenP s) := fun h => by have := h.1; omega
    have t0 : ((s.size : Int) == 0) = true := by rw [beq_iff_eq]; omega
    clear h0
    go_enter Tryz.func211, Tryz.ntmps211
    go_wp2_with fail
    go_ret
    exact ⟨tells_no HN.out, rfl⟩
  · have t0 : ((s.size : Int) == 0) = false := by rw [beq_eq_false_iff_ne]; omega
    by_cases h40 : 40 < s.size
    · have HN : Hid (¬ TokenP s) := fun h => by have := h.2.1; omega
      have t1 : (40 : Int) < (s.size : Int) := by omega
      clear h0
      go_enter Tryz.func211, Tryz.ntmps211
      go_wp2_with fail
      go_ret
      exact ⟨tells_no HN.out, rfl⟩
    · have t1 : ¬ (40 : Int) < (s.size : Int) := by omega
      go_enter Tryz.func211, Tryz.ntmps211
      go_wp2_with fail
      go_loopw [14] (fun i wr => ∃ k : Nat, k ≤ s.size ∧ i = .int .i64 k ∧ Hid (∀ j (h : j < s.size), j < k → tokC s[j] = true) ∧ wr = w) (fun i _ => s.size - (intOf i).toNat)
      case atStart => exact ⟨0, Nat.zero_le _, rfl, fun _ _ h => absurd h (by omega), rfl⟩
      case round =>
        obtain ⟨k, hk, rfl, hno, rfl⟩ := hrel
        by_cases hlt : k < s.size
        · have hlt' : (k : Int) < (s.size : Int) := by omega
          have C1 := fun W => hide (inToken_any s[k] W)
          have HX : Hid (tokC s[k] = true → ∀ j (h : j < s.size), j < k + 1 → tokC s[j] = true) := fun h j hj hjk => by
            rcases Nat.lt_or_ge j k with h1 | h1
            · exact hno.out j hj h1
            · obtain rfl : j = k := by omega
              exact h
          cases hc : tokC s[k]
          · have HN : Hid (¬ TokenP s) := fun h => by rw [h.2.2 k hlt] at hc; cases hc
            rw [hc] at C1
            clear hc HX
            go_wp2_with fail
            refine ((C1 _).out).mono ?_
            rintro e x ⟨rfl, hx⟩
            subst x
            go_wp2_with fail
            go_ret
            exact ⟨tells_no HN.out, rfl⟩
          · have HY := hide (HX.out hc)
            rw [hc] at C1
            clear hc HX
            go_wp2_with fail
            refine ((C1 _).out).mono ?_
            rintro e x ⟨rfl, hx⟩
            subst x
            go_wp2_with fail
            exact ⟨⟨k + 1, by omega, by go_num, HY.out, trivial⟩, by simp [intOf]; omega⟩
        · have hlt' : ¬ (k : Int) < (s.size : Int) := by omega
          have HY : Hid (TokenP s) := ⟨by omega, by omega, fun j h => hno.out j h (by omega)⟩
          go_wp2_with fail
          go_ret
          exact ⟨tells_yes HY.out, rfl⟩

/-- a field's value -/
def valAt (s : ByteArray) (j : Nat) (h : j < s.size) : Prop := 32 ≤ s[j].toNat ∧ s[j].toNat ≤ 126 ∧ (s[j].toNat = 32 → j ≠ 0 ∧ j + 1 ≠ s.size)
def ValueP (s : ByteArray) : Prop := s.size ≤ 40 ∧ ∀ j (h : j < s.size), valAt s j h
theorem pre_blank {s : ByteArray} : Lib.hasPrefix s.data.toList [32] = true ↔ ∃ h : 0 < s.size, s[0].toNat = 32 := by
  have hl : s.data.toList.length = s.size := Array.length_toList
  have ha : ∀ h : 0 < s.size, s[0] = s.data.toList[0]'(by rw [hl]; exact h) := fun h => rfl
  unfold Lib.hasPrefix
  generalize hd : s.data.toList = l at *
  cases l with
  | nil =>
    simp at hl
    simp [List.isPrefixOf]
    omega
  | cons x r =>
    have h0 : 0 < s.size := by rw [← hl]; simp
    rw [List.isPrefixOf]
    simp only [List.isPrefixOf, Bool.and_true, beq_iff_eq]
    refine ⟨fun e => ⟨h0, ?_⟩, fun ⟨h, e⟩ => ?_⟩
    · rw [ha h0]
      show x.toNat = 32
      rw [← e]
      rfl
    · rw [ha h] at e
      exact (UInt8.toNat_inj.1 e).symm
theorem suf_blank {s : ByteArray} : Lib.hasSuffix s.data.toList [32] = true ↔ ∃ h : 0 < s.size, (s[s.size - 1]'(by omega)).toNat = 32 := by
  have hl : s.data.toList.length = s.size := Array.length_toList
  rw [← Lib.hasSuffix_of_drop]
  simp only [Bool.and_eq_true, decide_eq_true_eq, beq_iff_eq, List.length_cons, List.length_nil, hl]
  refine ⟨fun ⟨h1, h2⟩ => ⟨by omega, ?_⟩, fun ⟨h, e⟩ => ⟨by omega, ?_⟩⟩
  · have hlt : s.size - 1 < s.data.toList.length := by omega
    rw [List.drop_eq_getElem_cons hlt] at h2
    have := (List.cons.inj h2).1
    show (s.data.toList[s.size - 1]'hlt).toNat = 32
    rw [this]
    rfl
  · have hlt : s.size - 1 < s.data.toList.length := by omega
    rw [List.drop_eq_getElem_cons hlt, List.drop_eq_nil_of_le (by omega)]
    have : s.data.toList[s.size - 1]'hlt = 32 := UInt8.toNat_inj.1 e
    rw [this]

set_option maxHeartbeats 1600000 in
theorem value_any (s : ByteArray) (w : World) (hs : s.size ≤ maxLen) :
    Calls Tryz.prog 212 #[.string s] w fun e w' => Tells (ValueP s) e ∧ w' = w := by
  have C1 := fun W => hide (hasPrefix_any s ⟨#[32]⟩ W hs (by decide))
  have C2 := fun W => hide (hasSuffix_any s ⟨#[32]⟩ W hs (by decide))
  have HP : Hid (Lib.hasPrefix s.data.toList [32] = true ↔ ∃ h : 0 < s.size, s[0].toNat = 32) := pre_blank
  have HS : Hid (Lib.hasSuffix s.data.toList [32] = true ↔ ∃ h : 0 < s.size, (s[s.size - 1]'(by omega)).toNat = 32) := suf_blank
  change ∀ W, Hid (Calls Tryz.prog 233 #[.string s, .string ⟨#[32]⟩] W fun e w' => e = .returned (.bool (Lib.hasPrefix s.data.toList [32])) ∧ w' = W) at C1
  change ∀ W, Hid (Calls Tryz.prog 235 #[.string s, .string ⟨#[32]⟩] W fun e w' => e = .returned (.bool (Lib.hasSuffix s.data.toList [32])) ∧ w' = W) at C2
  generalize Lib.hasPrefix s.data.toList [32] = bp at *
  generalize Lib.hasSuffix s.data.toList [32] = bs at *
  unfold maxLen at hs
  by_cases h40 : 40 < s.size
  · have HN : Hid (¬ ValueP s) := fun h => by have := h.1; omega
    have t1 : (40 : Int) < (s.size : Int) := by omega
    clear h40
    go_enter Tryz.func212, Tryz.ntmps212
    go_wp2_with fail
    go_ret
    exact ⟨tells_no HN.out, rfl⟩
  · have t1 : ¬ (40 : Int) < (s.size : Int) := by omega
    cases bp
    · cases bs
      · have HE : Hid (∀ j (h : j < s.size), s[j].toNat = 32 → j ≠ 0 ∧ j + 1 ≠ s.size) := fun j h e => ⟨fun e0 => by
          subst e0
          exact absurd (HP.out.2 ⟨h, e⟩) (by decide), fun e1 => by
          obtain rfl : j = s.size - 1 := by omega
          exact absurd (HS.out.2 ⟨by omega, e⟩) (by decide)⟩
        clear HP HS
        go_enter Tryz.func212, Tryz.ntmps212
        go_wp2_with fail
        refine ((C1 _).out).mono ?_
        rintro e x ⟨rfl, hx⟩
        subst x
        go_wp2_with fail
        refine ((C2 _).out).mono ?_
        rintro e x ⟨rfl, hx⟩
        subst x
        go_wp2_with fail
        go_loopw [17] (fun i wr => ∃ k : Nat, k ≤ s.size ∧ i = .int .i64 k ∧ Hid (∀ j (h : j < s.size), j < k → valAt s j h) ∧ wr = w) (fun i _ => s.size - (intOf i).toNat)
        case atStart => exact ⟨0, Nat.zero_le _, rfl, fun _ _ h => absurd h (by omega), rfl⟩
        case round =>
          obtain ⟨k, hk, rfl, hno, rfl⟩ := hrel
          by_cases hlt : k < s.size
          · have hlt' : (k : Int) < (s.size : Int) := by omega
            by_cases h32 : s[k].toNat < 32
            · have HN : Hid (¬ ValueP s) := fun h => by have := (h.2 k hlt).1; omega
              have t2 : (s[k].toNat : Int) < 32 := by omega
              clear h32
              go_wp2_with fail
              go_ret
              exact ⟨tells_no HN.out, rfl⟩
            · have t2 : ¬ (s[k].toNat : Int) < 32 := by omega
              by_cases h126 : 126 < s[k].toNat
              · have HN : Hid (¬ ValueP s) := fun h => by have := (h.2 k hlt).2.1; omega
                have t3 : (126 : Int) < (s[k].toNat : Int) := by omega
                clear h126
                go_wp2_with fail
                go_ret
                exact ⟨tells_no HN.out, rfl⟩
              · have t3 : ¬ (126 : Int) < (s[k].toNat : Int) := by omega
                have HY : Hid (∀ j (h : j < s.size), j < k + 1 → valAt s j h) := fun j hj hjk => by
                  rcases Nat.lt_or_ge j k with h1 | h1
                  · exact hno.out j hj h1
                  · obtain rfl : j = k := by omega
                    exact ⟨by omega, by omega, HE.out j hj⟩
                clear h126 h32
                go_wp2_with fail
                exact ⟨⟨k + 1, by omega, by go_num, HY.out, trivial⟩, by simp [intOf]; omega⟩
          · have hlt' : ¬ (k : Int) < (s.size : Int) := by omega
            have HY : Hid (ValueP s) := ⟨by omega, fun j h => hno.out j h (by omega)⟩
            go_wp2_with fail
            go_ret
            exact ⟨tells_yes HY.out, rfl⟩
      · have HN : Hid (¬ ValueP s) := fun h => by
          obtain ⟨h0, e⟩ := HS.out.1 rfl
          exact ((h.2 (s.size - 1) (by omega)).2.2 e).2 (by omega)
        clear HP HS
        go_enter Tryz.func212, Tryz.ntmps212
        go_wp2_with fail
        refine ((C1 _).out).mono ?_
        rintro e x ⟨rfl, hx⟩
        subst x
        go_wp2_with fail
        refine ((C2 _).out).mono ?_
        rintro e x ⟨rfl, hx⟩
        subst x
        go_wp2_with fail
        go_ret
        exact ⟨tells_no HN.out, rfl⟩
    · have HN : Hid (¬ ValueP s) := fun h => by
        obtain ⟨h0, e⟩ := HP.out.1 rfl
        exact ((h.2 0 h0).2.2 e).1 rfl
      clear HP HS
      go_enter Tryz.func212, Tryz.ntmps212
      go_wp2_with fail
      refine ((C1 _).out).mono ?_
      rintro e x ⟨rfl, hx⟩
      subst x
      go_wp2_with fail
      go_ret
      exact ⟨tells_no HN.out, rfl⟩

end Go.Proofs.YthnodpdiocppgaaGreatDoor
namespace Go.Proofs.YthnodpdiocppgaaGreatDoor
set_option maxRecDepth 20000
open Go Go.RowKit Go.Shelf

/-- a list that is a row of one's own -/
def RowP (w : World) (v : Value) (l : List PairB) : Prop := ∃ b, w.ownsRow b 96 2 v l.length (flat l)
theorem RowP.mk {w : World} {b n : Nat} {v : Value} {l : List PairB} (hn : n = l.length) (h : w.ownsRow b 96 2 v n (flat l)) : RowP w v l := ⟨b, by rw [← hn]; exact h⟩
end Go.Proofs.YthnodpdiocppgaaGreatDoor
namespace Go.Proofs.YthnodpdiocppgaaGreatDoor
set_option maxRecDepth 20000
open Go Go.RowKit Go.Shelf Go.Deep

end Go.Proofs.YthnodpdiocppgaaGreatDoor
