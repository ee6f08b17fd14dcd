/-
  What all layers' walks lean on: a few plain facts; the library's HasPrefix, HasSuffix, Compare, cmp.Compare at int; a law for regions that draw their order and call what makes memory of its own.
-/
import Derived.Test.YtblmdcpcekoogaaGreatDoorRows
import Derived.Below
import Derived.WalkKit
import Derived.WalkSpells
import Derived.WalkLawsBesides
import Derived.Lib.Bytealg
import Derived.Lib.Strings
import Derived.Shelf.Abstract
import Derived.Deep.QuietTactic
import Derived.BigQuiet
import Derived.Maps.AppendAt
import Derived.ProofKit
namespace Go.Proofs.YtblmdcpcekoogaaGreatDoor
set_option maxRecDepth 20000
open Go Go.RowKit Go.Shelf

theorem hide {p : Prop} (h : p) : Hid p := h

theorem ret_bool {a b : Bool} (h : a = b) : Ending.returned (.bool a) = .returned (.bool b) := by rw [h]

theorem ret_int {k : IntKind} {a b : Int} (h : a = b) : Ending.returned (.int k a) = .returned (.int k b) := by rw [h]

theorem ret_str {a b : ByteArray} (h : a = b) : Ending.returned (.string a) = .returned (.string b) := by rw [h]

theorem mk_data' (l : List UInt8) : (⟨l.toArray⟩ : ByteArray).data.toList = l := by simp

theorem ba_size (l : List UInt8) : (⟨l.toArray⟩ : ByteArray).size = l.length := rfl

theorem alloc_new (w : World) (o : Obj) : (w.alloc o).heap[w.heap.size]? = some o := by
  show (w.heap.push o)[w.heap.size]? = _
  simp

theorem small_len {s : ByteArray} (h : s.size ≤ 1000) : s.size ≤ maxLen := by unfold maxLen; omega

set_option maxHeartbeats 400000 in
theorem hasSuffix1_any (s p : ByteArray) (w : World) (hs : s.size ≤ maxLen) (hp : p.size ≤ maxLen) :
    Calls Tryz.prog 243 #[.string s, .string p] w fun e w' => e = .returned (.bool (Lib.hasSuffix s.data.toList p.data.toList)) ∧ w' = w := by
  have hx := hide (Lib.hasSuffix_raw s p)
  unfold maxLen at hs hp
  by_cases hle : p.size ≤ s.size
  · go_enter Tryz.func243, Tryz.ntmps243
    go_wp2
    go_ret
    refine ⟨ret_bool ?_, rfl⟩
    rw [← hx.out, decide_eq_true hle, Bool.true_and]
  · go_enter Tryz.func243, Tryz.ntmps243
    go_wp2
    go_ret
    refine ⟨ret_bool ?_, rfl⟩
    rw [← hx.out, decide_eq_false hle, Bool.false_and]

set_option maxHeartbeats 400000 in
theorem hasSuffix_any (s p : ByteArray) (w : World) (hs : s.size ≤ maxLen) (hp : p.size ≤ maxLen) :
    Calls Tryz.prog 200 #[.string s, .string p] w fun e w' => e = .returned (.bool (Lib.hasSuffix s.data.toList p.data.toList)) ∧ w' = w := by
  go_enter Tryz.func200, Tryz.ntmps200
  go_wp2_with (go_at_call 243; refine (hasSuffix1_any _ _ _ hs hp).mono ?_; rintro e w' ⟨rfl, rfl⟩)
  go_ret
  exact ⟨rfl, rfl⟩

set_option maxHeartbeats 400000 in
theorem hasPrefix1_any (s p : ByteArray) (w : World) (_hs : s.size ≤ maxLen) (_hp : p.size ≤ maxLen) :
    Calls Tryz.prog 196 #[.string s, .string p] w fun e w' => e = .returned (.bool (Lib.hasPrefix s.data.toList p.data.toList)) ∧ w' = w := by
  have hx := hide (Lib.hasPrefix_raw s p)
  by_cases hle : p.size ≤ s.size
  · go_enter Tryz.func196, Tryz.ntmps196
    go_wp2
    go_ret
    refine ⟨ret_bool ?_, rfl⟩
    rw [← hx.out, decide_eq_true hle, Bool.true_and]
  · go_enter Tryz.func196, Tryz.ntmps196
    go_wp2
    go_ret
    refine ⟨ret_bool ?_, rfl⟩
    rw [← hx.out, decide_eq_false hle, Bool.false_and]

set_option maxHeartbeats 400000 in
theorem hasPrefix_any (s p : ByteArray) (w : World) (hs : s.size ≤ maxLen) (hp : p.size ≤ maxLen) :
    Calls Tryz.prog 132 #[.string s, .string p] w fun e w' => e = .returned (.bool (Lib.hasPrefix s.data.toList p.data.toList)) ∧ w' = w := by
  go_enter Tryz.func132, Tryz.ntmps132
  go_wp2_with (go_at_call 196; refine (hasPrefix1_any _ _ _ hs hp).mono ?_; rintro e w' ⟨rfl, rfl⟩)
  go_ret
  exact ⟨rfl, rfl⟩

set_option maxHeartbeats 400000 in
theorem compareString_any (a b : ByteArray) (w : World) :
    Calls Tryz.prog 125 #[.string a, .string b] w fun e w' => e = .returned (.int .i64 (Lib.compareBytes a.data.toList b.data.toList)) ∧ w' = w := by
  go_enter Tryz.func125, Tryz.ntmps125
  go_wp2
  rw [run_callFunc_extern Tryz.func188 (by kernel_rfl) (by kernel_rfl) (by kernel_rfl) (e := Extern.BytealgCompare.compare) (by kernel_rfl), Lib.run_compareString]
  simp only [Result.andThen]
  rw [Oper.upon_value]
  go_wp2
  go_ret
  exact ⟨rfl, rfl⟩

set_option maxHeartbeats 400000 in
theorem compare_any (a b : ByteArray) (w : World) :
    Calls Tryz.prog 82 #[.string a, .string b] w fun e w' => e = .returned (.int .i64 (Lib.compareBytes a.data.toList b.data.toList)) ∧ w' = w := by
  go_enter Tryz.func82, Tryz.ntmps82
  go_wp2_with (go_at_call 125; refine (compareString_any _ _ _).mono ?_; rintro e w' ⟨rfl, rfl⟩)
  go_ret
  exact ⟨rfl, rfl⟩

set_option maxHeartbeats 400000 in
theorem isNaN_any (a : Int) (w : World) :
    Calls Tryz.prog 124 #[.int .i64 a] w fun e w' => e = .returned (.bool false) ∧ w' = w := by
  go_enter Tryz.func124, Tryz.ntmps124
  go_wp2
  go_ret
  exact ⟨ret_bool (by simp), rfl⟩

def cmpI (a b : Int) : Int := if a < b then -1 else if b < a then 1 else 0

set_option maxHeartbeats 400000 in
theorem cmpCompare_any (a b : Int) (w : World) :
    Calls Tryz.prog 81 #[.int .i64 a, .int .i64 b] w fun e w' => e = .returned (.int .i64 (cmpI a b)) ∧ w' = w := by
  by_cases h1 : a < b
  · have hx : Hid (cmpI a b = -1) := by simp [Hid, cmpI, h1]
    go_enter Tryz.func81, Tryz.ntmps81
    go_wp2_with (go_at_call 124; refine (isNaN_any _ _).mono ?_; rintro e w' ⟨rfl, rfl⟩)
    go_ret
    exact ⟨ret_int hx.out.symm, rfl⟩
  · by_cases h2 : b < a
    · have hx : Hid (cmpI a b = 1) := by simp [Hid, cmpI, h1, h2]
      go_enter Tryz.func81, Tryz.ntmps81
      go_wp2_with (go_at_call 124; refine (isNaN_any _ _).mono ?_; rintro e w' ⟨rfl, rfl⟩)
      go_ret
      exact ⟨ret_int hx.out.symm, rfl⟩
    · have hx : Hid (cmpI a b = 0) := by simp [Hid, cmpI, h1, h2]
      go_enter Tryz.func81, Tryz.ntmps81
      go_wp2_with (go_at_call 124; refine (isNaN_any _ _).mono ?_; rintro e w' ⟨rfl, rfl⟩)
      go_ret
      exact ⟨ret_int hx.out.symm, rfl⟩

/-- the first of two that is not 0 -/
def orI (x y : Int) : Int := if x = 0 then y else x

/-- a world that has grown behind w, all below as it was -/
structure GB (w : World) where
  W : World
  h : Below w.heap.size w W

/-- there is one such world at least -/
theorem gb_const {w : World} {p : Prop} : (GB w → p) ↔ p := ⟨fun h => h ⟨w, Below.refl _ _⟩, fun h _ => h⟩

/-- A region that draws its order, whose operations only read, and whose callees may make memory of their own: walked once, in the order of the text. -/
theorem wp_region_below {P : Program} {id : Nat} {Q : Exit → Act → World → Prop} {a : Act} {w : World} {l : List Oper} (hm : P.follows .mixedOrders = true) (hB : Region.lexB .any l.toArray = true)
    (h : wpQuiet P l.toArray (fun w' => ∃ p : GB w, w' = p.W) (fun a' => ∀ w', (∃ p : GB w, w' = p.W) → Q .normal a' w') l a) : (Code.region id l.toArray true).wp P Q a w :=
  wp_region_quiet (C := fun w' => ∃ p : GB w, w' = p.W) hm hB ⟨⟨w.drew, (Below.refl _ w).drew⟩, rfl⟩ (by simpa using h)

/-- a callee's contract, met in such a world -/
theorem calls_gb {P : Program} {f : FuncId} {args : Array Value} {w : World} {p : GB w} {v : Value}
    (h : Calls P f args p.W fun e w' => e = .returned v ∧ Below p.W.heap.size p.W w') : Calls P f args p.W fun e w'' => e = .returned v ∧ ∃ q : GB w, w'' = q.W :=
  h.mono fun _ w' ⟨he, hb⟩ => ⟨he, ⟨w', p.h.trans (hb.mono p.h.size)⟩, rfl⟩

theorem calls_gb0 {P : Program} {f : FuncId} {args : Array Value} {w : World} {v : Value}
    (h : Calls P f args w fun e w' => e = .returned v ∧ Below w.heap.size w w') : Calls P f args w fun e w'' => e = .returned v ∧ ∃ q : GB w, w'' = q.W :=
  h.mono fun _ w' ⟨he, hb⟩ => ⟨he, ⟨w', hb⟩, rfl⟩
theorem calls_gb_same {P : Program} {f : FuncId} {args : Array Value} {w : World} {p : GB w} {v : Value}
    (h : Calls P f args p.W fun e w' => e = .returned v ∧ w' = p.W) : Calls P f args p.W fun e w'' => e = .returned v ∧ ∃ q : GB w, w'' = q.W :=
  h.mono fun _ _ ⟨he, hb⟩ => ⟨he, p, hb⟩

/-- the laws' own Few: a text, cut behind its first 100 octets -/
def fewB (s : ByteArray) : ByteArray := if 100 < s.size then s.extract 0 100 else s
theorem fewB_le (s : ByteArray) : (fewB s).size ≤ 100 := by
  unfold fewB
  split
  · rw [ByteArray.size_extract]; omega
  · omega

set_option maxHeartbeats 400000 in
theorem fewB_any (s : ByteArray) (w : World) (hs : s.size ≤ maxLen) :
    Calls Tryz.prog 31 #[.string s] w fun e w' => e = .returned (.string (fewB s)) ∧ w' = w := by
  unfold maxLen at hs
  by_cases h : 100 < s.size
  · have HX : Hid (s.extract 0 100 = fewB s) := by unfold Hid fewB; rw [if_pos h]
    go_enter Tryz.func31, Tryz.ntmps31
    go_wp2_with fail
    go_ret
    exact ⟨ret_str HX.out, rfl⟩
  · have HX : Hid (s = fewB s) := by unfold Hid fewB; rw [if_neg h]
    go_enter Tryz.func31, Tryz.ntmps31
    go_wp2_with fail
    go_ret
    exact ⟨ret_str HX.out, rfl⟩

theorem cmp_range : ∀ a b : List UInt8, Lib.compareBytes a b = -1 ∨ Lib.compareBytes a b = 0 ∨ Lib.compareBytes a b = 1 := by
  intro a
  induction a with
  | nil => intro b; cases b <;> simp [Lib.compareBytes]
  | cons x a ih =>
    intro b
    cases b with
    | nil => simp [Lib.compareBytes]
    | cons y b =>
      unfold Lib.compareBytes
      split
      · simp
      · split
        · simp
        · exact ih b

theorem cmp_anti : ∀ a b : List UInt8, Lib.compareBytes b a = - Lib.compareBytes a b
  | [], [] => rfl
  | [], _ :: _ => rfl
  | _ :: _, [] => rfl
  | x :: a, y :: b => by
    unfold Lib.compareBytes
    by_cases h1 : x < y
    · have h2 : ¬ y < x := by rw [UInt8.lt_iff_toNat_lt] at *; omega
      simp [h1, h2]
    · by_cases h2 : y < x
      · simp [h1, h2]
      · simp only [h1, h2, if_false]
        exact cmp_anti a b

theorem cmp_zero : ∀ a b : List UInt8, Lib.compareBytes a b = 0 ↔ a = b
  | [], [] => by simp [Lib.compareBytes]
  | [], _ :: _ => by simp [Lib.compareBytes]
  | _ :: _, [] => by simp [Lib.compareBytes]
  | x :: a, y :: b => by
    unfold Lib.compareBytes
    by_cases h1 : x < y
    · have : x ≠ y := by rintro rfl; exact UInt8.lt_irrefl _ h1
      simp [h1, this]
    · by_cases h2 : y < x
      · have : x ≠ y := by rintro rfl; exact UInt8.lt_irrefl _ h2
        simp [h1, h2, this]
      · have : x = y := by
          apply UInt8.toNat_inj.1
          rw [UInt8.lt_iff_toNat_lt] at *
          omega
        subst this
        simp only [h1, if_false]
        rw [cmp_zero a b]
        simp

theorem cmp_trans : ∀ a b c : List UInt8, Lib.compareBytes a b ≤ 0 → Lib.compareBytes b c ≤ 0 → Lib.compareBytes a c ≤ 0
  | [], b, c, _, _ => by cases c <;> simp [Lib.compareBytes]
  | _ :: _, [], c, h, _ => by simp [Lib.compareBytes] at h
  | _ :: _, _ :: _, [], _, h => by simp [Lib.compareBytes] at h
  | x :: a, y :: b, z :: c, h, k => by
    unfold Lib.compareBytes at h k ⊢
    simp only [UInt8.lt_iff_toNat_lt] at h k ⊢
    by_cases h1 : x.toNat < z.toNat
    · simp [h1]
    · by_cases h2 : z.toNat < x.toNat
      · exfalso
        by_cases a1 : x.toNat < y.toNat
        · have : ¬ y.toNat < z.toNat := by omega
          have h3 : z.toNat < y.toNat := by omega
          simp [this, h3] at k
        · by_cases a2 : y.toNat < x.toNat
          · simp [a1, a2] at h
          · have : ¬ y.toNat < z.toNat := by omega
            have h3 : z.toNat < y.toNat := by omega
            simp [this, h3] at k
      · simp only [h1, h2, if_false]
        by_cases a1 : x.toNat < y.toNat
        · have : ¬ y.toNat < z.toNat := by omega
          have h3 : z.toNat < y.toNat := by omega
          simp [this, h3] at k
        · by_cases a2 : y.toNat < x.toNat
          · simp [a1, a2] at h
          · have b1 : ¬ y.toNat < z.toNat := by omega
            have b2 : ¬ z.toNat < y.toNat := by omega
            simp only [a1, a2, if_false] at h
            simp only [b1, b2, if_false] at k
            exact cmp_trans a b c h k

theorem less_cmp : ∀ a b : List UInt8, Op.bytesLess a b = decide (Lib.compareBytes a b = -1)
  | [], [] => rfl
  | [], _ :: _ => rfl
  | _ :: _, [] => rfl
  | x :: a, y :: b => by
    unfold Op.bytesLess Lib.compareBytes
    rw [less_cmp a b]
    by_cases h1 : x < y
    · simp [h1]
    · by_cases h2 : y < x
      · have : ¬ x = y := by rintro rfl; exact UInt8.lt_irrefl _ h2
        simp [h1, h2, this]
      · have : x = y := by
          apply UInt8.toNat_inj.1
          rw [UInt8.lt_iff_toNat_lt] at *
          omega
        subst this
        simp [h1]

theorem text_cases (a b : ByteArray) : (Op.bytesLess a.toList b.toList = true ∧ Hid (Lib.compareBytes a.data.toList b.data.toList = -1)) ∨
    (Op.bytesLess a.toList b.toList = false ∧ (a.toList == b.toList) = true ∧ Hid (Lib.compareBytes a.data.toList b.data.toList = 0)) ∨
    (Op.bytesLess a.toList b.toList = false ∧ (a.toList == b.toList) = false ∧ Hid (Lib.compareBytes a.data.toList b.data.toList = 1)) := by
  rw [Lib.toList_data, Lib.toList_data, less_cmp]
  have hz := cmp_zero a.data.toList b.data.toList
  have hr : Lib.compareBytes a.data.toList b.data.toList = -1 ∨ Lib.compareBytes a.data.toList b.data.toList = 0 ∨ Lib.compareBytes a.data.toList b.data.toList = 1 := cmp_range _ _
  rcases hr with h | h | h
  · exact .inl ⟨by rw [h]; rfl, h⟩
  · exact .inr (.inl ⟨by rw [h]; rfl, beq_iff_eq.2 (hz.1 h), h⟩)
  · refine .inr (.inr ⟨by rw [h]; rfl, beq_eq_false_iff_ne.2 (fun e => ?_), h⟩)
    have := hz.2 e
    omega

/-! ### taken out of the layers' texts (round 4) -/
theorem bytes_eq {a b : ByteArray} (h : (a.toList == b.toList) = true) : a = b := by
  rw [beq_iff_eq, Lib.toList_data, Lib.toList_data] at h
  rw [← Lib.mk_data a, h, Lib.mk_data]

theorem bytes_ext {a b : ByteArray} (h : a.data.toList = b.data.toList) : a = b := by rw [← Lib.mk_data a, h, Lib.mk_data]

theorem app_data (a b : ByteArray) : (a ++ b).data.toList = a.data.toList ++ b.data.toList := by simp [ByteArray.data_append]
theorem addr_add (g j : Nat) : (⟨g, 0, none⟩ : Addr).add j = ⟨g, j, none⟩ := by
  cases j with
  | zero => rfl
  | succ j => simp [Addr.add]
theorem below_box {w w1 : World} {o : Obj} (h : Below (w.alloc o).heap.size (w.alloc o) w1) : Below w.heap.size w w1 :=
  ((Below.refl _ _).alloc (Nat.le_refl _) _).trans (h.mono (by simp))

theorem bb2 {a b c : World} (h : Below a.heap.size a b) (k : Below b.heap.size b c) : Below a.heap.size a c := h.trans (k.mono h.size)

/-- a text of these octets -/
def mkB (l : List UInt8) : ByteArray := ⟨l.toArray⟩
theorem mkB_list (l : List UInt8) : (mkB l).data.toList = l := by simp [mkB]
theorem mkB_data (l : List UInt8) : (mkB l).data.toList = l := by simp [mkB]
theorem mkB_toList (l : List UInt8) : (mkB l).toList = l := by rw [Lib.toList_data, mkB_list]
theorem mkB_size (l : List UInt8) : (mkB l).size = l.length := rfl

theorem set_block0 {w : World} {n : Nat} {a b : Value} {t : Nat} (x : Value) (h : w.heap[n]? = some (.cells #[a, b] t)) : (w.setCell ⟨n, 0, none⟩ x).heap[n]? = some (.cells #[x, b] t) := by
  simp [World.setCell, Array.getElem?_modify, h]
theorem set_block1 {w : World} {n : Nat} {a b : Value} {t : Nat} (x : Value) (h : w.heap[n]? = some (.cells #[a, b] t)) : (w.setCell ⟨n, 1, none⟩ x).heap[n]? = some (.cells #[a, x] t) := by
  simp [World.setCell, Array.getElem?_modify, h]

theorem take_snoc' (s : ByteArray) (k : Nat) (h : k < s.size) : s.data.toList.take (k + 1) = s.data.toList.take k ++ [s[k]] := by
  rw [List.take_succ_eq_append_getElem (by simpa using h)]; rfl

theorem drop_data (s : ByteArray) (n : Nat) : (s.extract n s.size).data.toList = s.data.toList.drop n := by
  rw [← Lib.toList_data, Lib.extract_toList]
  exact List.take_of_length_le (by simp)
theorem ownBlock_ge {w : World} {base : Nat} {e : TypeId} {size : Nat} {v : Value} {n : Nat} {xs : List Value} (h : w.ownsRow base e size v n xs) {g : Nat} (hg : v.ownBlock = some g) : base ≤ g := by
  rcases h.2 with ⟨rfl, _⟩ | ⟨g', cap, cur, rfl, hb, _⟩
  · simp [Value.ownBlock] at hg
  · obtain rfl : g' = g := by simpa [Value.ownBlock] using hg
    exact hb

theorem ownsRow_base {w : World} {base base' : Nat} {e : TypeId} {size : Nat} {v : Value} {n : Nat} {xs : List Value} (h : w.ownsRow base e size v n xs) (hb : base' ≤ base) : w.ownsRow base' e size v n xs := by
  obtain ⟨h1, h2⟩ := h
  refine ⟨h1, ?_⟩
  rcases h2 with h2 | ⟨g, cap, cur, hv, hg, r⟩
  · exact .inl h2
  · exact .inr ⟨g, cap, cur, hv, by omega, r⟩
theorem ownsRow_below {w w' : World} {base : Nat} {e : TypeId} {size : Nat} {v : Value} {n : Nat} {xs : List Value} (h : w.ownsRow base e size v n xs) (hb : Below w.heap.size w w') : w'.ownsRow base e size v n xs := by
  obtain ⟨h1, h2⟩ := h
  refine ⟨h1, ?_⟩
  rcases h2 with h2 | ⟨g, cap, cur, hv, hg, hh, r⟩
  · exact .inl h2
  · exact .inr ⟨g, cap, cur, hv, hg, (hb.block g (Array.getElem?_eq_some_iff.1 hh).1).trans hh, r⟩
theorem ownsRow_drew {w : World} {base : Nat} {e : TypeId} {size : Nat} {v : Value} {n : Nat} {xs : List Value} (h : w.ownsRow base e size v n xs) : w.drew.ownsRow base e size v n xs := h

/-- a store into a row of one's own -/
theorem ownsRow_set_at {w : World} {base g n cap j : Nat} {xs : List Value} (h : w.ownsRow base 9 1 (.slice (some ⟨g, 0, none⟩) n cap) n xs) (u : Value) :
    (w.setCell ⟨g, j, none⟩ u).ownsRow base 9 1 (.slice (some ⟨g, 0, none⟩) n cap) n (xs.set j u) := by
  obtain ⟨h1, h2⟩ := h
  refine ⟨by simpa using h1, ?_⟩
  rcases h2 with ⟨h2, _⟩ | ⟨g', cap', cur, hv, hg, hh, hn, hc, hs, hx⟩
  · cases h2
  · obtain ⟨rfl, rfl⟩ : g' = g ∧ cap' = cap := by
      injection hv with a1 a2 a3
      injection a1 with a1
      injection a1 with a1
      exact ⟨a1.symm, a3.symm⟩
    refine Or.inr ⟨g', cap', cur.setIfInBounds j u, rfl, hg, ?_, hn, hc, by simpa using hs, ?_⟩
    · obtain ⟨hlt, hk'⟩ := Array.getElem?_eq_some_iff.1 hh
      show (w.heap.modify g' _)[g']? = _
      rw [Array.getElem?_eq_getElem (by rw [Array.size_modify]; exact hlt), Array.getElem_modify_self, hk']
      rfl
    · rw [← hx]
      simp only [Nat.mul_one]
      rw [Array.toList_setIfInBounds, List.take_set]
theorem ownsRow_cell {w : World} {base g n cap j : Nat} {xs : List Value} (h : w.ownsRow base 9 1 (.slice (some ⟨g, 0, none⟩) n cap) n xs) (hj : j < n) {u : Value} (hu : xs[j]? = some u) :
    w.cell? ⟨g, j, none⟩ = some u ∧ w.frozen? ⟨g, j, none⟩ = false ∧ base ≤ g := by
  obtain ⟨h1, h2⟩ := h
  rcases h2 with ⟨h2, _⟩ | ⟨g', cap', cur, hv, hg, hh, hn, hc, hs, hx⟩
  · cases h2
  · obtain ⟨rfl, rfl⟩ : g' = g ∧ cap' = cap := by
      injection hv with a1 a2 a3
      injection a1 with a1
      injection a1 with a1
      exact ⟨a1.symm, a3.symm⟩
    have hcj : cur[j]? = some u := by
      rw [← hx] at hu
      simp only [Nat.mul_one] at hu
      rw [List.getElem?_take_of_lt hj] at hu
      simpa using hu
    refine ⟨by simp [World.cell?, hh, hcj], by simp [World.frozen?, hh], hg⟩

theorem box_block {w w1 : World} {o : Obj} (h : Below (w.alloc o).heap.size (w.alloc o) w1) : w1.heap[w.heap.size]? = some o := by
  rw [h.block _ (by simp)]
  show (w.heap.push o)[w.heap.size]? = _
  simp
theorem box_fst {w w1 : World} {a b : Value} {t : Nat} (h : Below (w.alloc (.cells #[a, b] t)).heap.size (w.alloc (.cells #[a, b] t)) w1) : w1.cell? ⟨w.heap.size, 0, none⟩ = some a := by
  simp only [World.cell?]; rw [box_block h]; rfl
theorem box_snd {w w1 : World} {a b : Value} {t : Nat} (h : Below (w.alloc (.cells #[a, b] t)).heap.size (w.alloc (.cells #[a, b] t)) w1) : w1.cell? ⟨w.heap.size, 1, none⟩ = some b := by
  simp only [World.cell?]; rw [box_block h]; rfl

theorem set_far {w : World} {n m i : Nat} {x : Value} (h : m ≠ n) : (w.setCell ⟨n, i, none⟩ x).heap[m]? = w.heap[m]? := Below.heap_setCell _ _ _ _ h
/-- two structs that lie apart, each written anew -/
def setTwo (q : World) (n m : Nat) (a b c d : Value) : World := (((q.setCell ⟨n, 0, none⟩ a).setCell ⟨n, 1, none⟩ b).setCell ⟨m, 0, none⟩ c).setCell ⟨m, 1, none⟩ d
theorem setTwo_fst {q : World} {n m : Nat} {a b a' b' c' d' : Value} {t : Nat} (hne : n ≠ m) (h : q.heap[n]? = some (.cells #[a, b] t)) : (setTwo q n m a' b' c' d').heap[n]? = some (.cells #[a', b'] t) := by
  unfold setTwo
  rw [set_far hne, set_far hne]
  exact set_block1 (b := b) _ (set_block0 (a := a) (b := b) _ h)
theorem setTwo_snd {q : World} {n m : Nat} {a' b' c d c' d' : Value} {t : Nat} (hne : n ≠ m) (h : q.heap[m]? = some (.cells #[c, d] t)) : (setTwo q n m a' b' c' d').heap[m]? = some (.cells #[c', d'] t) := by
  unfold setTwo
  exact set_block1 (b := d) _ (set_block0 (a := c) (b := d) _ (by rw [set_far hne.symm, set_far hne.symm]; exact h))
theorem setTwo_below {w q : World} {n m : Nat} {a b c d : Value} (h : Below w.heap.size w q) (hn : w.heap.size ≤ n) (hm : w.heap.size ≤ m) : Below w.heap.size w (setTwo q n m a b c d) :=
  (((h.setCell (p := ⟨n, 0, none⟩) hn _).setCell (p := ⟨n, 1, none⟩) hn _).setCell (p := ⟨m, 0, none⟩) hm _).setCell (p := ⟨m, 1, none⟩) hm _

theorem beq_dec (a b : ByteArray) : (a.toList == b.toList) = decide (a = b) := by
  cases h : (a.toList == b.toList)
  · exact (decide_eq_false (fun e => by rw [e] at h; simp at h)).symm
  · exact (decide_eq_true (bytes_eq h)).symm

theorem Tryz.cells9 : Tryz.prog.cellsOf 9 = 1 := by kernel_rfl
theorem Tryz.laidOut : laidOutB Tryz.prog = true := by kernel_rfl

theorem Tryz.info9 : (Tryz.prog.info? 9).map (fun i => (i.zero, i.size, i.bytes)) = some (some (.string ⟨#[]⟩), 1, 16) := by kernel_rfl

end Go.Proofs.YtblmdcpcekoogaaGreatDoor
