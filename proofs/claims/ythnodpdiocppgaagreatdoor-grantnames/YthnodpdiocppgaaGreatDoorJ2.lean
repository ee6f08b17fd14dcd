/-
  What all layers' walks lean on: a few plain facts; the library's HasPrefix, HasSuffix, Compare, cmp.Compare at int; a law for regions that draw their order and call what makes memory of its own.
-/
import Derived.Test.YthnodpdiocppgaaGreatDoorRows
import Derived.Below
import Derived.WalkKit
import Derived.WalkSpells
import Derived.WalkLawsBesides
import Derived.Lib.Bytealg
import Derived.Lib.Strings
import Derived.Shelf.Abstract
import Derived.Deep.QuietTactic
import Derived.BigQuiet
import Derived.Maps.AppendAt
import Derived.ProofKit
import Derived.Lib.AppendStr
import Derived.Deep.AppendLies
import Derived.Laws.IdiomStrings
import Derived.Laws.BytesArg
import Derived.Deep.SlicePairs
import Derived.Deep.Strs
import Derived.OrdersHeld
import Derived.Deep.Quiet
import Derived.Deep.Slices
namespace Go.Proofs.YthnodpdiocppgaaGreatDoor
set_option maxRecDepth 20000
open Go Go.RowKit Go.Shelf

theorem hide {p : Prop} (h : p) : Hid p := h

theorem ret_bool {a b : Bool} (h : a = b) : Ending.returned (.bool a) = .returned (.bool b) := by rw [h]

theorem ret_int {k : IntKind} {a b : Int} (h : a = b) : Ending.returned (.int k a) = .returned (.int k b) := by rw [h]

theorem ret_str {a b : ByteArray} (h : a = b) : Ending.returned (.string a) = .returned (.string b) := by rw [h]

theorem alloc_new (w : World) (o : Obj) : (w.alloc o).heap[w.heap.size]? = some o := by
  show (w.heap.push o)[w.heap.size]? = _
  simp

theorem small_len {s : ByteArray} (h : s.size ≤ 1000) : s.size ≤ maxLen := by unfold maxLen; omega

set_option maxHeartbeats 400000 in
theorem hasSuffix1_any (s p : ByteArray) (w : World) (hs : s.size ≤ maxLen) (hp : p.size ≤ maxLen) :
    Calls Tryz.prog 247 #[.string s, .string p] w fun e w' => e = .returned (.bool (Lib.hasSuffix s.data.toList p.data.toList)) ∧ w' = w := by
  have hx := hide (Lib.hasSuffix_raw s p)
  unfold maxLen at hs hp
  by_cases hle : p.size ≤ s.size
  · go_enter Tryz.func247, Tryz.ntmps247
    go_wp2
    go_ret
    refine ⟨ret_bool ?_, rfl⟩
    rw [← hx.out, decide_eq_true hle, Bool.true_and]
  · go_enter Tryz.func247, Tryz.ntmps247
    go_wp2
    go_ret
    refine ⟨ret_bool ?_, rfl⟩
    rw [← hx.out, decide_eq_false hle, Bool.false_and]

set_option maxHeartbeats 400000 in
theorem hasSuffix_any (s p : ByteArray) (w : World) (hs : s.size ≤ maxLen) (hp : p.size ≤ maxLen) :
    Calls Tryz.prog 235 #[.string s, .string p] w fun e w' => e = .returned (.bool (Lib.hasSuffix s.data.toList p.data.toList)) ∧ w' = w := by
  go_enter Tryz.func235, Tryz.ntmps235
  go_wp2_with (go_at_call 247; refine (hasSuffix1_any _ _ _ hs hp).mono ?_; rintro e w' ⟨rfl, rfl⟩)
  go_ret
  exact ⟨rfl, rfl⟩

set_option maxHeartbeats 400000 in
theorem hasPrefix1_any (s p : ByteArray) (w : World) (_hs : s.size ≤ maxLen) (_hp : p.size ≤ maxLen) :
    Calls Tryz.prog 230 #[.string s, .string p] w fun e w' => e = .returned (.bool (Lib.hasPrefix s.data.toList p.data.toList)) ∧ w' = w := by
  have hx := hide (Lib.hasPrefix_raw s p)
  by_cases hle : p.size ≤ s.size
  · go_enter Tryz.func230, Tryz.ntmps230
    go_wp2
    go_ret
    refine ⟨ret_bool ?_, rfl⟩
    rw [← hx.out, decide_eq_true hle, Bool.true_and]
  · go_enter Tryz.func230, Tryz.ntmps230
    go_wp2
    go_ret
    refine ⟨ret_bool ?_, rfl⟩
    rw [← hx.out, decide_eq_false hle, Bool.false_and]

set_option maxHeartbeats 400000 in
theorem hasPrefix_any (s p : ByteArray) (w : World) (hs : s.size ≤ maxLen) (hp : p.size ≤ maxLen) :
    Calls Tryz.prog 233 #[.string s, .string p] w fun e w' => e = .returned (.bool (Lib.hasPrefix s.data.toList p.data.toList)) ∧ w' = w := by
  go_enter Tryz.func233, Tryz.ntmps233
  go_wp2_with (go_at_call 230; refine (hasPrefix1_any _ _ _ hs hp).mono ?_; rintro e w' ⟨rfl, rfl⟩)
  go_ret
  exact ⟨rfl, rfl⟩

set_option maxHeartbeats 400000 in
theorem isNaN_any (a : Int) (w : World) :
    Calls Tryz.prog 179 #[.int .i64 a] w fun e w' => e = .returned (.bool false) ∧ w' = w := by
  go_enter Tryz.func179, Tryz.ntmps179
  go_wp2
  go_ret
  exact ⟨ret_bool (by simp), rfl⟩

/-- a world that has grown behind w, all below as it was -/
structure GB (w : World) where
  W : World
  h : Below w.heap.size w W

/-- there is one such world at least -/
theorem gb_const {w : World} {p : Prop} : (GB w → p) ↔ p := ⟨fun h => h ⟨w, Below.refl _ _⟩, fun h _ => h⟩

/-- A region that draws its order, whose operations only read, and whose callees may make memory of their own: walked once, in the order of the text. -/
theorem wp_region_below {P : Program} {id : Nat} {Q : Exit → Act → World → Prop} {a : Act} {w : World} {l : List Oper} (hm : P.follows .mixedOrders = true) (hB : Region.lexB .any l.toArray = true)
    (h : wpQuiet P l.toArray (fun w' => ∃ p : GB w, w' = p.W) (fun a' => ∀ w', (∃ p : GB w, w' = p.W) → Q .normal a' w') l a) : (Code.region id l.toArray true).wp P Q a w :=
  wp_region_quiet (C := fun w' => ∃ p : GB w, w' = p.W) hm hB ⟨⟨w.drew, (Below.refl _ w).drew⟩, rfl⟩ (by simpa using h)

/-- a callee's contract, met in such a world -/
theorem calls_gb {P : Program} {f : FuncId} {args : Array Value} {w : World} {p : GB w} {v : Value}
    (h : Calls P f args p.W fun e w' => e = .returned v ∧ Below p.W.heap.size p.W w') : Calls P f args p.W fun e w'' => e = .returned v ∧ ∃ q : GB w, w'' = q.W :=
  h.mono fun _ w' ⟨he, hb⟩ => ⟨he, ⟨w', p.h.trans (hb.mono p.h.size)⟩, rfl⟩

theorem calls_gb0 {P : Program} {f : FuncId} {args : Array Value} {w : World} {v : Value}
    (h : Calls P f args w fun e w' => e = .returned v ∧ Below w.heap.size w w') : Calls P f args w fun e w'' => e = .returned v ∧ ∃ q : GB w, w'' = q.W :=
  h.mono fun _ w' ⟨he, hb⟩ => ⟨he, ⟨w', hb⟩, rfl⟩
/-- the laws' own Few: a text, cut behind its first 100 octets -/
def fewB (s : ByteArray) : ByteArray := if 100 < s.size then s.extract 0 100 else s
theorem fewB_le (s : ByteArray) : (fewB s).size ≤ 100 := by
  unfold fewB
  split
  · rw [ByteArray.size_extract]; omega
  · omega

set_option maxHeartbeats 400000 in
theorem fewB_any (s : ByteArray) (w : World) (hs : s.size ≤ maxLen) :
    Calls Tryz.prog 26 #[.string s] w fun e w' => e = .returned (.string (fewB s)) ∧ w' = w := by
  unfold maxLen at hs
  by_cases h : 100 < s.size
  · have HX : Hid (s.extract 0 100 = fewB s) := by unfold Hid fewB; rw [if_pos h]
    go_enter Tryz.func26, Tryz.ntmps26
    go_wp2_with fail
    go_ret
    exact ⟨ret_str HX.out, rfl⟩
  · have HX : Hid (s = fewB s) := by unfold Hid fewB; rw [if_neg h]
    go_enter Tryz.func26, Tryz.ntmps26
    go_wp2_with fail
    go_ret
    exact ⟨ret_str HX.out, rfl⟩

/-! ### taken out of the layers' texts (round 4) -/
theorem bytes_eq {a b : ByteArray} (h : (a.toList == b.toList) = true) : a = b := by
  rw [beq_iff_eq, Lib.toList_data, Lib.toList_data] at h
  rw [← Lib.mk_data a, h, Lib.mk_data]

theorem addr_add (g j : Nat) : (⟨g, 0, none⟩ : Addr).add j = ⟨g, j, none⟩ := by
  cases j with
  | zero => rfl
  | succ j => simp [Addr.add]
theorem below_box {w w1 : World} {o : Obj} (h : Below (w.alloc o).heap.size (w.alloc o) w1) : Below w.heap.size w w1 :=
  ((Below.refl _ _).alloc (Nat.le_refl _) _).trans (h.mono (by simp))

theorem bb2 {a b c : World} (h : Below a.heap.size a b) (k : Below b.heap.size b c) : Below a.heap.size a c := h.trans (k.mono h.size)

theorem ownBlock_ge {w : World} {base : Nat} {e : TypeId} {size : Nat} {v : Value} {n : Nat} {xs : List Value} (h : w.ownsRow base e size v n xs) {g : Nat} (hg : v.ownBlock = some g) : base ≤ g := by
  rcases h.2 with ⟨rfl, _⟩ | ⟨g', cap, cur, rfl, hb, _⟩
  · simp [Value.ownBlock] at hg
  · obtain rfl : g' = g := by simpa [Value.ownBlock] using hg
    exact hb

theorem ownsRow_below {w w' : World} {base : Nat} {e : TypeId} {size : Nat} {v : Value} {n : Nat} {xs : List Value} (h : w.ownsRow base e size v n xs) (hb : Below w.heap.size w w') : w'.ownsRow base e size v n xs := by
  obtain ⟨h1, h2⟩ := h
  refine ⟨h1, ?_⟩
  rcases h2 with h2 | ⟨g, cap, cur, hv, hg, hh, r⟩
  · exact .inl h2
  · exact .inr ⟨g, cap, cur, hv, hg, (hb.block g (Array.getElem?_eq_some_iff.1 hh).1).trans hh, r⟩
theorem box_block {w w1 : World} {o : Obj} (h : Below (w.alloc o).heap.size (w.alloc o) w1) : w1.heap[w.heap.size]? = some o := by
  rw [h.block _ (by simp)]
  show (w.heap.push o)[w.heap.size]? = _
  simp
theorem box_fst {w w1 : World} {a b : Value} {t : Nat} (h : Below (w.alloc (.cells #[a, b] t)).heap.size (w.alloc (.cells #[a, b] t)) w1) : w1.cell? ⟨w.heap.size, 0, none⟩ = some a := by
  simp only [World.cell?]; rw [box_block h]; rfl
theorem box_snd {w w1 : World} {a b : Value} {t : Nat} (h : Below (w.alloc (.cells #[a, b] t)).heap.size (w.alloc (.cells #[a, b] t)) w1) : w1.cell? ⟨w.heap.size, 1, none⟩ = some b := by
  simp only [World.cell?]; rw [box_block h]; rfl

theorem set_far {w : World} {n m i : Nat} {x : Value} (h : m ≠ n) : (w.setCell ⟨n, i, none⟩ x).heap[m]? = w.heap[m]? := Below.heap_setCell _ _ _ _ h
theorem beq_dec (a b : ByteArray) : (a.toList == b.toList) = decide (a = b) := by
  cases h : (a.toList == b.toList)
  · exact (decide_eq_false (fun e => by rw [e] at h; simp at h)).symm
  · exact (decide_eq_true (bytes_eq h)).symm

theorem Tryz.cells9 : Tryz.prog.cellsOf 9 = 1 := by kernel_rfl
theorem Tryz.laidOut : laidOutB Tryz.prog = true := by kernel_rfl

end Go.Proofs.YthnodpdiocppgaaGreatDoor
namespace Go.Proofs.YthnodpdiocppgaaGreatDoor
set_option maxRecDepth 20000
open Go Go.RowKit Go.Shelf Go.ChangeShapes Go.WideShapes Go.Deep

/-- a name and a value, as texts -/
abbrev PairB := ByteArray × ByteArray
def okP (p : PairB) : Prop := p.1.size ≤ maxLen ∧ p.2.size ≤ maxLen
/-- a slice of pairs: each pair has two cells -/
def Prs (w : World) (v : Value) (l : List PairB) : Prop :=
  ∃ a cap, v = .slice a l.length cap ∧ l.length ≤ cap ∧ cap ≤ maxLen ∧
    ∀ i (h : i < l.length), ∃ g off, a = some ⟨g, off, none⟩ ∧ g < w.heap.size ∧ w.cell? ⟨g, off + i * 2, none⟩ = some (.string l[i].1) ∧ w.cell? ⟨g, off + i * 2 + 1, none⟩ = some (.string l[i].2)

theorem Prs.below {w w' : World} {v : Value} {l : List PairB} (h : Prs w v l) (hb : Below w.heap.size w w') : Prs w' v l := by
  obtain ⟨a, cap, hv, h1, h2, hc⟩ := h
  refine ⟨a, cap, hv, h1, h2, fun i hi => ?_⟩
  obtain ⟨g, off, hg, hlt, c1, c2⟩ := hc i hi
  exact ⟨g, off, hg, Nat.lt_of_lt_of_le hlt hb.size, (hb.cell (p := ⟨g, off + i * 2, none⟩) hlt).trans c1, (hb.cell (p := ⟨g, off + i * 2 + 1, none⟩) hlt).trans c2⟩
theorem Prs.nil (w : World) : Prs w (.slice none 0 0) [] := ⟨none, 0, rfl, Nat.le_refl _, Nat.zero_le _, fun i hi => absurd hi (by simp)⟩
theorem Prs.len {w : World} {v : Value} {l : List PairB} (h : Prs w v l) : l.length ≤ 9223372036854775807 := by
  obtain ⟨_, _, _, h1, h2, _⟩ := h
  unfold maxLen at h2
  omega

/-- pairs, as cells -/
def flat (l : List PairB) : List Value := l.flatMap fun p => [.string p.1, .string p.2]
theorem flat_append (a b : List PairB) : flat (a ++ b) = flat a ++ flat b := by simp [flat]
theorem flat_len (l : List PairB) : (flat l).length = l.length * 2 := by
  induction l with
  | nil => rfl
  | cons p l ih =>
    show ([Value.string p.1, Value.string p.2] ++ flat l).length = _
    rw [List.length_append, ih]
    simp
    omega
theorem flat_at : ∀ (l : List PairB) (i : Nat) (h : i < l.length), (flat l)[i * 2]? = some (.string l[i].1) ∧ (flat l)[i * 2 + 1]? = some (.string l[i].2)
  | p :: l, 0, _ => ⟨rfl, rfl⟩
  | p :: l, i + 1, h => by
    have := flat_at l i (by simpa using h)
    have e : flat (p :: l) = .string p.1 :: .string p.2 :: flat l := rfl
    rw [e, Nat.add_mul]
    exact this
theorem flat_one (l : List PairB) : ∀ u ∈ flat l, u.oneCell' = true := by
  intro u hu
  obtain ⟨p, _, hp⟩ := List.mem_flatMap.1 hu
  simp at hp
  rcases hp with rfl | rfl <;> rfl
theorem Prs.of_row {w : World} {base : Nat} {v : Value} {l : List PairB} {n : Nat} (hn : n = l.length) (h : w.ownsRow base 96 2 v n (flat l)) : Prs w v l := by
  subst hn
  obtain ⟨_, h2⟩ := h
  rcases h2 with ⟨rfl, h0⟩ | ⟨g, cap, cur, rfl, hg, hgb, hle, hcm, hsz, hcur⟩
  · have : l = [] := List.eq_nil_of_length_eq_zero h0
    subst this
    exact Prs.nil w
  · refine ⟨some ⟨g, 0, none⟩, cap, rfl, hle, hcm, fun i hi => ⟨g, 0, rfl, (Array.getElem?_eq_some_iff.1 hgb).1, ?_, ?_⟩⟩
    · have h1 := (flat_at l i hi).1
      rw [← hcur, List.getElem?_take_of_lt (by omega)] at h1
      simp [World.cell?, hgb]
      simpa using h1
    · have h1 := (flat_at l i hi).2
      rw [← hcur, List.getElem?_take_of_lt (by omega)] at h1
      simp [World.cell?, hgb]
      simpa using h1

theorem Tryz.infoPair : (Tryz.prog.info? 96).map (fun i => (i.zero, i.size, i.bytes)) = some (some (.agg #[.string ⟨#[]⟩, .string ⟨#[]⟩]), 2, 32) := by kernel_rfl

theorem Prs.lit1 (w : World) (a b : ByteArray) : Prs (w.alloc (.cells #[.string a, .string b] 96)) (.slice (some ⟨w.heap.size, 0, none⟩) 1 1) [(a, b)] := by
  refine ⟨_, 1, rfl, Nat.le_refl _, by decide, fun i hi => ⟨w.heap.size, 0, rfl, by simp, ?_, ?_⟩⟩
  all_goals
    have : i = 0 := by simpa using hi
    subst this
    (simp only [World.cell?]; rw [alloc_new]; rfl)
theorem Prs.at1 (w : World) (n : Nat) (h : w.heap.size = n) (a b : ByteArray) : Prs (w.alloc (.cells #[.string a, .string b] 96)) (.slice (some ⟨n, 0, none⟩) 1 1) [(a, b)] := by
  subst h
  exact Prs.lit1 w a b

theorem flat_inv (l : List PairB) (j : Nat) (u : Value) (h : (flat l)[j]? = some u) : ∃ i, ∃ hi : i < l.length, (j = i * 2 ∧ u = .string l[i].1) ∨ (j = i * 2 + 1 ∧ u = .string l[i].2) := by
  have hj : j < l.length * 2 := by rw [← flat_len]; exact (List.getElem?_eq_some_iff.1 h).1
  have hi : j / 2 < l.length := by omega
  obtain ⟨h1, h2⟩ := flat_at l (j / 2) hi
  rcases (by omega : j = j / 2 * 2 ∨ j = j / 2 * 2 + 1) with e | e
  · rw [← e, h] at h1
    exact ⟨j / 2, hi, .inl ⟨e, Option.some.inj h1⟩⟩
  · rw [← e, h] at h2
    exact ⟨j / 2, hi, .inr ⟨e, Option.some.inj h2⟩⟩
theorem Prs.news {w : World} {ad : Addr} {n c : Nat} {l : List PairB} (h : Prs w (.slice (some ad) n c) l) : ∀ j u, (flat l)[j]? = some u → w.cell? (ad.add j) = some u := by
  intro j u hu
  obtain ⟨i, hi, hc⟩ := flat_inv l j u hu
  obtain ⟨a, cap, hv, _, _, hcell⟩ := h
  obtain ⟨g, off, ha, _, c1, c2⟩ := hcell i hi
  subst ha
  injection hv with e1
  injection e1 with e1
  subst e1
  rw [add_plain]
  rcases hc with ⟨rfl, rfl⟩ | ⟨rfl, rfl⟩
  · exact c1
  · exact c2

/-- a part of a slice of pairs -/
theorem Prs.sub {w : World} {g off n c : Nat} {l : List PairB} (h : Prs w (.slice (some ⟨g, off, none⟩) n c) l) (k m c' : Nat) (hm : k + m ≤ l.length) (hc : m ≤ c') (hc' : c' ≤ maxLen) : Prs w (.slice (some ⟨g, off + k * 2, none⟩) m c') ((l.drop k).take m) := by
  obtain ⟨a, cap, hv, _, _, hcell⟩ := h
  injection hv with e1
  subst e1
  have hl : ((l.drop k).take m).length = m := by simp; omega
  refine ⟨_, c', by rw [hl], by rw [hl]; exact hc, hc', fun i hi => ?_⟩
  rw [hl] at hi
  obtain ⟨g', off', ha, hg, c1, c2⟩ := hcell (k + i) (by omega)
  injection ha with ha
  injection ha with ha1 ha2
  subst ha1 ha2
  refine ⟨g, off + k * 2, rfl, hg, ?_, ?_⟩
  · have e : off + (k + i) * 2 = off + k * 2 + i * 2 := by omega
    rw [e] at c1
    simpa using c1
  · have e : off + (k + i) * 2 + 1 = off + k * 2 + i * 2 + 1 := by omega
    rw [e] at c2
    simpa using c2

theorem Tryz.cellsPair : Tryz.prog.cellsOf 96 = 2 := by kernel_rfl
/-- a list of pairs that came in -/
def ArgPrs (W : World) (v : Value) : Prop := ∃ l : List PairB, Prs W v l ∧ ∀ p ∈ l, okP p

theorem argPrs_trod {H : Type} {enc : TypeId × Value → H} {W : World} {v : Value} {fuel : Nat} {y : DataW H × List MemPlace} (hf : DataW.trod enc Tryz.prog W 0 (fun _ => true) true fuel 28 [v] = some y) : ArgPrs W v := by
  rcases open_slice_pairs Tryz.underlying28 Tryz.underlying96 Tryz.cellsPair rfl rfl Tryz.cells9 Tryz.cells9 hf with ⟨hcs, _⟩ | ⟨a, len, cap, m, n, V0, V1, D0, D1, P0, P1, hcs, _, hl, hm, hmm, _, hcell⟩
  · simp only [List.cons.injEq, and_true] at hcs
    subst hcs
    exact ⟨[], Prs.nil W, fun p hp => absurd hp (by simp)⟩
  · simp only [List.cons.injEq, and_true] at hcs
    subst hcs
    simp only [if_true] at hmm
    subst hmm
    have each : ∀ i, i < len → ∃ p : PairB, W.cell? (a.add (i * 2)) = some (.string p.1) ∧ W.cell? (a.add (i * 2 + 1)) = some (.string p.2) ∧ okP p := by
      intro i hi
      obtain ⟨c0, c1, t0, t1⟩ := hcell i (by omega)
      obtain ⟨s0, e0, _, z0⟩ := DataW.trod_string Tryz.underlying9 t0
      obtain ⟨s1, e1, _, z1⟩ := DataW.trod_string Tryz.underlying9 t1
      simp only [List.cons.injEq, and_true] at e0 e1
      rw [e0] at c0
      rw [e1] at c1
      exact ⟨(s0, s1), c0, c1, z0, z1⟩
    let f : Nat → PairB := fun i => if h : i < len then (each i h).choose else (⟨#[]⟩, ⟨#[]⟩)
    have hf : ∀ i, i < len → W.cell? (a.add (i * 2)) = some (.string (f i).1) ∧ W.cell? (a.add (i * 2 + 1)) = some (.string (f i).2) ∧ okP (f i) := by
      intro i hi
      have := (each i hi).choose_spec
      simp only [f, dif_pos hi]
      exact this
    refine ⟨(List.range len).map f, ⟨some a, m, by simp, by simp; omega, hm, fun i hi => ?_⟩, fun p hp => ?_⟩
    · have hi' : i < len := by simpa using hi
      obtain ⟨b, off, spot⟩ := a
      obtain ⟨c0, c1, _⟩ := hf i hi'
      have hspot : spot = none := by simpa [Addr.add] using World.cell?_spot (hf 0 (by omega)).1
      subst hspot
      rw [add_plain] at c0 c1
      refine ⟨b, off, rfl, World.block_lt_of_cell? _ _ c0, ?_, ?_⟩
      · simpa using c0
      · simpa [Nat.add_assoc] using c1
    · obtain ⟨i, hi, rfl⟩ := List.mem_map.1 hp
      exact (hf i (List.mem_range.1 hi)).2.2

end Go.Proofs.YthnodpdiocppgaaGreatDoor
namespace Go.Proofs.YthnodpdiocppgaaGreatDoor
set_option maxRecDepth 20000
open Go Go.RowKit

set_option maxHeartbeats 400000 in
theorem indexByte_any (s : ByteArray) (c : Int) (w : World) :
    Calls Tryz.prog 224 #[.string s, .int .u8 c] w fun e w' => e = .returned (.int .i64 (Lib.indexByte s.data.toList c.toNat.toUInt8)) ∧ w' = w := by
  go_enter Tryz.func224, Tryz.ntmps224
  go_wp2
  rw [run_callFunc_extern Tryz.func244 (by kernel_rfl) (by kernel_rfl) (by kernel_rfl) (e := Extern.BytealgIndexByte.indexByte) (by kernel_rfl), Lib.run_indexByteString]
  simp only [Result.andThen]
  rw [Oper.upon_value]
  go_wp2
  go_ret
  exact ⟨rfl, rfl⟩

set_option maxHeartbeats 400000 in
theorem sIndexByte_any (s : ByteArray) (c : Int) (w : World) :
    Calls Tryz.prog 248 #[.string s, .int .u8 c] w fun e w' => e = .returned (.int .i64 (Lib.indexByte s.data.toList c.toNat.toUInt8)) ∧ w' = w := by
  go_enter Tryz.func248, Tryz.ntmps248
  go_wp2_with fail
  refine (indexByte_any _ _ _).mono ?_
  rintro e x ⟨rfl, hx⟩
  subst x
  go_wp2_with fail
  go_ret
  exact ⟨rfl, rfl⟩

end Go.Proofs.YthnodpdiocppgaaGreatDoor
namespace Go.Proofs.YthnodpdiocppgaaGreatDoor
set_option maxRecDepth 20000
open Go Go.RowKit Go.Shelf

/-- a small letter for a great one -/
def foldc (c : UInt8) : UInt8 := if 65 ≤ c.toNat ∧ c.toNat ≤ 90 then c + 32 else c
def foldL (l : List UInt8) : List UInt8 := l.map foldc

theorem foldc_yes {c : UInt8} (h1 : 65 ≤ c.toNat) (h2 : c.toNat ≤ 90) : ((foldc c).toNat : Int) = (c.toNat : Int) + 32 := by
  unfold foldc
  rw [if_pos ⟨h1, h2⟩, UInt8.toNat_add]
  have : (32 : UInt8).toNat = 32 := rfl
  rw [this]
  omega
theorem foldc_no {c : UInt8} (h : ¬ (65 ≤ c.toNat ∧ c.toNat ≤ 90)) : foldc c = c := by unfold foldc; rw [if_neg h]

/-- the octets l lie in the block g -/
def BytesAt (W : World) (g : Nat) (l : List UInt8) : Prop := ∀ j (hj : j < l.length), W.cell? ⟨g, j, none⟩ = some (.int .u8 (l[j].toNat : Int)) ∧ W.frozen? ⟨g, j, none⟩ = false

theorem BytesAt.set {W : World} {g : Nat} {l : List UInt8} (h : BytesAt W g l) {k : Nat} (c : UInt8) : BytesAt (W.setCell ⟨g, k, none⟩ (.int .u8 (c.toNat : Int))) g (l.set k c) := fun j hj => by
  have hj' : j < l.length := by simpa using hj
  obtain ⟨h1, h2⟩ := h j hj'
  refine ⟨?_, by rw [World.frozen?_setCell]; exact h2⟩
  by_cases e : k = j
  · subst e
    rw [World.cell?_setCell_same' _ _ _ (by rw [h1]; rfl)]
    simp
  · rw [World.cell?_setCell_other (w := W) (a := ⟨g, k, none⟩) (b := ⟨g, j, none⟩) (h := fun e' => e (Addr.mk.inj e').2.1), h1, List.getElem_set_ne e]

/-- how far the fold has come -/
def foldTo (l : List UInt8) (k : Nat) : List UInt8 := foldL (l.take k) ++ l.drop k

theorem foldTo_len (l : List UInt8) (k : Nat) : (foldTo l k).length = l.length := by
  simp [foldTo, foldL]; omega
theorem foldTo_at (l : List UInt8) (k : Nat) (h : k < l.length) : (foldTo l k)[k]'(by rw [foldTo_len]; exact h) = l[k] := by
  have hl : (foldL (l.take k)).length = k := by simp [foldL]; omega
  simp only [foldTo]
  rw [List.getElem_append_right (by omega)]
  simp [hl]
theorem foldTo_succ (l : List UInt8) (k : Nat) (h : k < l.length) : foldTo l (k + 1) = (foldTo l k).set k (foldc l[k]) := by
  have hl : (foldL (l.take k)).length = k := by simp [foldL]; omega
  unfold foldTo
  rw [List.set_append_right _ _ (by omega), hl, Nat.sub_self, List.drop_eq_getElem_cons h, List.set_cons_zero, List.take_succ_eq_append_getElem h]
  simp only [foldL, List.map_append, List.map_cons, List.map_nil, List.append_assoc, List.singleton_append]

/-- the world behind '[]byte(s)' -/
theorem bytes_made (s : ByteArray) (w : World) : ∃ cap W1, (convert 9 184 (.string s)).run Tryz.prog w = .ok (.slice (some ⟨w.heap.size, 0, none⟩) s.size cap) W1 ∧ BytesAt W1 w.heap.size s.data.toList ∧ Below w.heap.size w W1 := by
  refine ⟨_, _, run_bytes_of_string (P := Tryz.prog) w 9 184 5 s Tryz.underlying9 Tryz.underlying184 Tryz.underlying5, ?_, ((Below.refl _ w).drew).alloc (Nat.le_refl _) _⟩
  intro j hj
  have hj' : j < s.data.size := by simpa using hj
  have hb := bytesRow_at s (grownCap w s.size 0 5) j hj'
  have h1 := World.cell?_alloc_mark w.drew (bytesRow s (grownCap w s.size 0 5)) 5 ((bytesRow s (grownCap w s.size 0 5)).size, (bytesRow s (grownCap w s.size 0 5)).size + 1) j
  have h2 := World.frozen?_alloc_mark w.drew (bytesRow s (grownCap w s.size 0 5)) 5 (bytesRow s (grownCap w s.size 0 5)).size ((bytesRow s (grownCap w s.size 0 5)).size + 1) j
  refine ⟨h1.trans (hb.trans (by simp)), h2.trans ?_⟩
  have hlt := (Array.getElem?_eq_some_iff.1 hb).1
  simp; omega

set_option maxHeartbeats 800000 in
theorem fold_any (s : ByteArray) (w : World) (hs : s.size ≤ maxLen) :
    Calls Tryz.prog 239 #[.string s] w fun e w' => e = .returned (.string ⟨(foldL s.data.toList).toArray⟩) ∧ Below w.heap.size w w' := by
  unfold maxLen at hs
  have hsl : s.data.toList.length = s.size := Array.length_toList
  obtain ⟨cap, W1, hconv, hB1, hb1⟩ := bytes_made s w
  have HB1 := hide hB1
  have HSL := hide hsl
  clear hB1 hsl
  go_enter Tryz.func239, Tryz.ntmps239
  go_wp2
  go_loopw [10] (fun i wr => ∃ k : Nat, k ≤ s.size ∧ i = .int .i64 k ∧ Hid (BytesAt wr w.heap.size (foldTo s.data.toList k)) ∧ Below w.heap.size w wr) (fun i _ => s.size - (intOf i).toNat)
  case atStart => exact ⟨0, Nat.zero_le _, rfl, HB1.out, hb1⟩
  case round =>
    clear hconv
    obtain ⟨k, hk, rfl, hBk, hb⟩ := hrel
    by_cases hlt : k < s.size
    · have hlt' : (k : Int) < (s.size : Int) := by omega
      have hkl : k < s.data.toList.length := by rw [HSL.out]; exact hlt
      obtain ⟨c1, c2⟩ := hBk.out k (by rw [foldTo_len]; exact hkl)
      rw [foldTo_at _ _ hkl] at c1
      have hsucc := hide (foldTo_succ s.data.toList k hkl)
      generalize hc : s.data.toList[k] = c at *
      have HC := hide hc
      clear hc
      have hc8 := c.toNat_lt
      by_cases hup : 65 ≤ c.toNat ∧ c.toNat ≤ 90
      · obtain ⟨hu1, hu2⟩ := hup
        have hf := hide (foldc_yes hu1 hu2)
        have i1 : (65 : Int) ≤ (c.toNat : Int) := by omega
        have i2 : (c.toNat : Int) ≤ 90 := by omega
        go_wp2
        have hv : (c.toNat : Int) - 65 + 97 = ((foldc c).toNat : Int) := by rw [hf.out]; omega
        rw [hv]
        refine ⟨⟨k + 1, by omega, by go_num, ?_, hb.setCell (p := ⟨w.heap.size, k, none⟩) (Nat.le_refl _) _⟩, by simp [intOf]; omega⟩
        unfold Hid
        rw [hsucc.out]
        exact hBk.out.set _
      · have hfn : foldTo s.data.toList (k + 1) = foldTo s.data.toList k := by
          rw [hsucc.out, foldc_no hup, ← HC.out]
          conv => lhs; rw [← foldTo_at _ _ hkl]
          exact List.set_getElem_self _
        have HF := hide hfn
        clear hfn
        by_cases h65 : (65 : Int) ≤ (c.toNat : Int)
        · have h90 : ¬ (c.toNat : Int) ≤ 90 := by omega
          go_wp2
          refine ⟨⟨k + 1, by omega, by go_num, by rw [HF.out]; exact hBk, hb⟩, by simp [intOf]; omega⟩
        · go_wp2
          refine ⟨⟨k + 1, by omega, by go_num, by rw [HF.out]; exact hBk, hb⟩, by simp [intOf]; omega⟩
    · have hks : k = s.size := by omega
      subst hks
      have hall : foldTo s.data.toList s.size = foldL s.data.toList := by
        unfold foldTo
        rw [List.take_of_length_le (by rw [HSL.out]; omega), List.drop_eq_nil_of_le (by rw [HSL.out]; omega), List.append_nil]
      have hBk' := hBk.out
      rw [hall] at hBk'
      have hback := run_convert_bytes_back (P := Tryz.prog) wr 184 9 5 ⟨w.heap.size, 0, none⟩ cap (foldL s.data.toList) Tryz.underlying184 Tryz.underlying5 Tryz.underlying9 (fun j hj => by
        have := (hBk' j hj).1
        rw [addr_add]
        exact this)
      have hfl : (foldL s.data.toList).length = s.size := by rw [← HSL.out]; simp [foldL]
      rw [hfl] at hback
      clear hall hBk' hfl
      go_wp2
      go_ret
      exact ⟨rfl, hb⟩

theorem foldL_len (l : List UInt8) : (foldL l).length = l.length := by simp [foldL]
/-- the folded text -/
def foldB (s : ByteArray) : ByteArray := ⟨(foldL s.data.toList).toArray⟩
theorem foldB_data (s : ByteArray) : (foldB s).data.toList = foldL s.data.toList := by simp [foldB]
theorem foldB_size (s : ByteArray) : (foldB s).size = s.size := by
  have h1 : (foldB s).data.toList.length = (foldB s).size := Array.length_toList
  have h2 : s.data.toList.length = s.size := Array.length_toList
  rw [← h1, foldB_data, foldL_len, h2]
theorem foldB_any (s : ByteArray) (w : World) (hs : s.size ≤ maxLen) :
    Calls Tryz.prog 239 #[.string s] w fun e w' => e = .returned (.string (foldB s)) ∧ Below w.heap.size w w' := fold_any s w hs

end Go.Proofs.YthnodpdiocppgaaGreatDoor
namespace Go.Proofs.YthnodpdiocppgaaGreatDoor
set_option maxRecDepth 20000
open Go Go.RowKit Go.Shelf

/-- a slice of texts, in memory of its own or nil -/
def Strs (w : World) (v : Value) (ss : List ByteArray) : Prop :=
  ∃ a cap, v = .slice a ss.length cap ∧ ∀ i (h : i < ss.length), ∃ g, a = some ⟨g, 0, none⟩ ∧ g < w.heap.size ∧ w.cell? ⟨g, i, none⟩ = some (.string ss[i])

theorem Strs.below {w w' : World} {v : Value} {ss : List ByteArray} (h : Strs w v ss) (hb : Below w.heap.size w w') : Strs w' v ss := by
  obtain ⟨a, cap, hv, hc⟩ := h
  refine ⟨a, cap, hv, fun i hi => ?_⟩
  obtain ⟨g, hg, hlt, hcell⟩ := hc i hi
  exact ⟨g, hg, Nat.lt_of_lt_of_le hlt hb.size, (hb.cell (p := ⟨g, i, none⟩) hlt).trans hcell⟩

theorem Strs.of_row {w : World} {base : Nat} {v : Value} {ss : List ByteArray} {n : Nat} (hn : n = ss.length) (h : w.ownsRow base 9 1 v n (ss.map Value.string)) : Strs w v ss := by
  subst hn
  obtain ⟨_, h2⟩ := h
  rcases h2 with ⟨rfl, h0⟩ | ⟨g, cap, cur, rfl, hg, hgb, hle, _, hsz, hcur⟩
  · exact ⟨none, 0, by rw [h0], fun i hi => by omega⟩
  · refine ⟨some ⟨g, 0, none⟩, cap, rfl, fun i hi => ⟨g, rfl, (Array.getElem?_eq_some_iff.1 hgb).1, ?_⟩⟩
    have hi' : i < cur.size := by omega
    have : cur[i]? = some (.string ss[i]) := by
      have e := congrArg (fun l => l[i]?) hcur
      simp only [Nat.mul_one] at e
      rw [List.getElem?_take_of_lt hi] at e
      rw [List.getElem?_map, List.getElem?_eq_getElem hi] at e
      simpa using e
    simp [World.cell?, hgb, this]

theorem Strs.nil (w : World) : Strs w (.slice none 0 0) [] := ⟨none, 0, rfl, fun i hi => absurd hi (by simp)⟩

end Go.Proofs.YthnodpdiocppgaaGreatDoor
namespace Go.Proofs.YthnodpdiocppgaaGreatDoor
set_option maxRecDepth 20000
open Go Go.RowKit Go.Shelf

/-- m elements, their cells news: at an address, or none at all -/
def Lies (w : World) (x : Value) (m : Nat) (news : List Value) : Prop :=
  (∃ ad c, x = .slice (some ad) m c ∧ ∀ j u, news[j]? = some u → w.cell? (ad.add j) = some u) ∨ ∃ c, x = .slice none 0 c ∧ m = 0

theorem Prs.lies {w : World} {x : Value} {l : List PairB} (h : Prs w x l) : Lies w x l.length (flat l) := by
  have h0 := h
  obtain ⟨a, cap, rfl, _, _, hc⟩ := h
  cases a with
  | some ad => exact .inl ⟨ad, cap, rfl, h0.news⟩
  | none =>
    have : l = [] := by
      cases l with
      | nil => rfl
      | cons p r => obtain ⟨g, off, hg, _⟩ := hc 0 (by simp); cases hg
    subst this
    exact .inr ⟨cap, rfl, rfl⟩
theorem Strs.lies {w : World} {x : Value} {l : List ByteArray} (h : Strs w x l) : Lies w x l.length (l.map Value.string) := by
  obtain ⟨a, cap, rfl, hc⟩ := h
  cases a with
  | some ad =>
    refine .inl ⟨ad, cap, rfl, fun j u hu => ?_⟩
    rw [List.getElem?_map] at hu
    obtain ⟨s, hs, rfl⟩ := Option.map_eq_some_iff.1 hu
    obtain ⟨hj, rfl⟩ := List.getElem?_eq_some_iff.1 hs
    obtain ⟨g, hg, _, c⟩ := hc j hj
    injection hg with hg
    subst hg
    rw [addr_add]
    exact c
  | none =>
    have : l = [] := by
      cases l with
      | nil => rfl
      | cons p r => obtain ⟨g, hg, _⟩ := hc 0 (by simp); cases hg
    subst this
    exact .inr ⟨cap, rfl, rfl⟩

theorem run_append_any {P : Program} (w : World) (base : Nat) (t ty e : TypeId) (i : TypeInfo) (z : Value) (size bytes : Nat) (ht : P.underlying t = some (.slice e)) (hi : P.info? e = some i) (hz : i.zero = some z)
    (hsize : i.size = size) (hby : i.bytes = bytes) (hzs : z.cells.size = size) (hsz : 0 < size)
    (v : Value) (n : Nat) (xs : List Value) (hown : w.ownsRow base e size v n xs)
    (x : Value) (m : Nat) (news : List Value) (hx : Lies w x m news) (hl : news.length = m * size) (h1 : ∀ u ∈ news, u.oneCell' = true)
    (h63 : n + m ≤ maxLen) (hbytes : (n + m) * bytes ≤ 140737488355328) (hbase : base ≤ w.heap.size) :
    ∃ v' w', (Builtin.append_ #[t, t] ty #[v, x]).run P w = .ok v' w' ∧ w'.ownsRow base e size v' (n + m) (xs ++ news) ∧ w.grownBy w' v.ownBlock := by
  rcases hx with ⟨ad, c, rfl, hnews⟩ | ⟨c, rfl, rfl⟩
  · obtain ⟨v', w', hr, h2, h3, _⟩ := run_append_own (P := P) w base t ty e i z size bytes ht hi hz hsize hby hzs hsz v n xs hown ad m c news hl hnews h1 h63 hbytes hbase
    exact ⟨v', w', hr, h2, h3⟩
  · have hn : news = [] := List.eq_nil_of_length_eq_zero (by simpa using hl)
    subst hn
    refine ⟨v, w, ?_, by simpa using hown, ⟨rfl, rfl, rfl, Nat.le_refl _, fun _ _ _ => rfl⟩⟩
    rcases hown.2 with ⟨rfl, rfl⟩ | ⟨g, cap, cur, rfl, hbg, hg, hnc, hcm, hcs, htake⟩
    · simp [Builtin.append_, run_underlying ht, sizeOf, typeInfo, hi, Builtin.lenOf, Builtin.firstCells]
    · simp [Builtin.append_, run_underlying ht, sizeOf, typeInfo, hi, Builtin.lenOf, Builtin.firstCells, hnc, storeCells]

theorem wp_append_any {P : Program} {o : Oper} {a : Act} {Q : Exit → Act → World → Prop} (w : World) (s x : Operand) (t : TypeId)
    (ho : o.op = .call { callee := .builtin .append, args := #[s, x], argTypes := #[t, t] })
    (base : Nat) (e : TypeId) (i : TypeInfo) (z : Value) (size bytes : Nat) (ht : P.underlying t = some (.slice e)) (hi : P.info? e = some i) (hz : i.zero = some z)
    (hsize : i.size = size) (hby : i.bytes = bytes) (hzs : z.cells.size = size) (hsz : 0 < size)
    (v : Value) (n : Nat) (xs : List Value) (hs : a.eval s = v) (hown : w.ownsRow base e size v n xs)
    (y : Value) (m : Nat) (news : List Value) (hy : a.eval x = y) (hx : Lies w y m news) (hl : news.length = m * size) (h1 : ∀ u ∈ news, u.oneCell' = true)
    (h63 : n + m ≤ maxLen) (hbytes : (n + m) * bytes ≤ 140737488355328) (hbase : base ≤ w.heap.size) {K : Act → World → Prop}
    (h : ∀ v' w', w'.ownsRow base e size v' (n + m) (xs ++ news) → w.grownBy w' v.ownBlock → K (a.put o.dst v') w') : o.wp P a w K Q := by
  obtain ⟨v', w', hr, h2, h3⟩ := run_append_any (P := P) w base t o.type e i z size bytes ht hi hz hsize hby hzs hsz v n xs hown y m news hx hl h1 h63 hbytes hbase
  unfold Oper.wp execOp
  simp only [ho, resolve, invoke, builtin, Sem.run_bind, Sem.run_pure, Result.andThen_ok, List.map_toArray, List.map_cons, List.map_nil, hs, hy, hr]
  exact h v' w' h2 h3

/-- in a plain region, guarded or not -/
theorem wpList_append_any {P : Program} {o : Oper} {a : Act} {Q : Exit → Act → World → Prop} (w : World) (s x : Operand) (t : TypeId)
    (ho : o.op = .call { callee := .builtin .append, args := #[s, x], argTypes := #[t, t] })
    (base : Nat) (e : TypeId) (i : TypeInfo) (z : Value) (size bytes : Nat) (ht : P.underlying t = some (.slice e)) (hi : P.info? e = some i) (hz : i.zero = some z)
    (hsize : i.size = size) (hby : i.bytes = bytes) (hzs : z.cells.size = size) (hsz : 0 < size)
    (v : Value) (n : Nat) (xs : List Value) (hs : a.eval s = v) (hown : w.ownsRow base e size v n xs)
    (y : Value) (m : Nat) (news : List Value) (hy : a.eval x = y) (hx : Lies w y m news) (hl : news.length = m * size) (h1 : ∀ u ∈ news, u.oneCell' = true)
    (h63 : n + m ≤ maxLen) (hbytes : (n + m) * bytes ≤ 140737488355328) (hbase : base ≤ w.heap.size) {ops : Array Oper} {rest : List Oper} (hw : Region.wanted o (yielded ops a.tmps) = true)
    (h : ∀ v' w', w'.ownsRow base e size v' (n + m) (xs ++ news) → w.grownBy w' v.ownBlock → wpList P ops Q rest (a.put o.dst v') w') : wpList P ops Q (o :: rest) a w :=
  wpList_step fun K hK => by
    rw [if_pos hw]
    exact wp_append_any w s x t ho base e i z size bytes ht hi hz hsize hby hzs hsz v n xs hs hown y m news hy hx hl h1 h63 hbytes hbase fun v' w' h2 h3 => hK _ _ (h v' w' h2 h3)

/-- at a step of a region that draws its order -/
theorem step_append_any {P : Program} {o : Oper} {a : Act} {Q : Exit → Act → World → Prop} (w : World) (s x : Operand) (t : TypeId)
    (ho : o.op = .call { callee := .builtin .append, args := #[s, x], argTypes := #[t, t] })
    (base : Nat) (e : TypeId) (i : TypeInfo) (z : Value) (size bytes : Nat) (ht : P.underlying t = some (.slice e)) (hi : P.info? e = some i) (hz : i.zero = some z)
    (hsize : i.size = size) (hby : i.bytes = bytes) (hzs : z.cells.size = size) (hsz : 0 < size)
    (v : Value) (n : Nat) (xs : List Value) (hs : a.eval s = v) (hown : w.ownsRow base e size v n xs)
    (y : Value) (m : Nat) (news : List Value) (hy : a.eval x = y) (hx : Lies w y m news) (hl : news.length = m * size) (h1 : ∀ u ∈ news, u.oneCell' = true)
    (h63 : n + m ≤ maxLen) (hbytes : (n + m) * bytes ≤ 140737488355328) (hbase : base ≤ w.heap.size) {ops : Array Oper} {K : Act → World → Prop} {E : Prop} (hgd : o.guard = none)
    (h : ∀ v' w', w'.ownsRow base e size v' (n + m) (xs ++ news) → w.grownBy w' v.ownBlock → K (a.put o.dst v') w') :
    if Region.wanted o (yielded ops a.tmps) = true then Oper.wp P o a w K Q else E := by
  have hw : Region.wanted o (yielded ops a.tmps) = true := by simp [Region.wanted, hgd]
  rw [if_pos hw]
  exact wp_append_any w s x t ho base e i z size bytes ht hi hz hsize hby hzs hsz v n xs hs hown y m news hy hx hl h1 h63 hbytes hbase h

/-! ### of pairs, at this program -/
theorem step_append_prs {o : Oper} {a : Act} {Q : Exit → Act → World → Prop} {ops : Array Oper} {K : Act → World → Prop} {E : Prop} (w : World) (s x : Operand)
    (ho : o.op = .call { callee := .builtin .append, args := #[s, x], argTypes := #[28, 28] }) (hgd : o.guard = none)
    (base : Nat) (v : Value) (n : Nat) (xs : List PairB) (hs : a.eval s = v) (hown : w.ownsRow base 96 2 v n (flat xs))
    (y : Value) (l : List PairB) (hy : a.eval x = y) (hl : Prs w y l) (hn : n + l.length ≤ 100000) (hbase : base ≤ w.heap.size)
    (h : ∀ v' w', w'.ownsRow base 96 2 v' (n + l.length) (flat (xs ++ l)) → w.grownBy w' v.ownBlock → K (a.put o.dst v') w') :
    if Region.wanted o (yielded ops a.tmps) = true then Oper.wp Tryz.prog o a w K Q else E := by
  obtain ⟨i0, hi, hz0, hz1, hz2⟩ := info_parts Tryz.infoPair
  exact step_append_any w s x _ ho base _ i0 _ 2 32 Tryz.underlying28 hi hz0 hz1 hz2 rfl (by decide) v n (flat xs) hs hown y l.length (flat l) hy hl.lies (flat_len l) (flat_one l) (by unfold maxLen; omega) (by omega) hbase hgd (fun v' w' h2 h3 => h v' w' (by rw [flat_append]; exact h2) h3)

/-! ### of texts -/
/-- '[]string{s}' -/
theorem Strs.at1 (w : World) (n : Nat) (h : w.heap.size = n) (s : ByteArray) : Strs (w.alloc (.cells #[.string s] 9)) (.slice (some ⟨n, 0, none⟩) 1 1) [s] := by
  subst h
  refine ⟨_, 1, rfl, fun i hi => ⟨w.heap.size, rfl, by simp, ?_⟩⟩
  have : i = 0 := by simpa using hi
  subst this
  simp only [World.cell?]; rw [alloc_new]; rfl

end Go.Proofs.YthnodpdiocppgaaGreatDoor
namespace Go.Proofs.YthnodpdiocppgaaGreatDoor
set_option maxRecDepth 20000
open Go Go.RowKit

/-- nothing that was there has turned -/
def Grow (w w' : World) : Prop := Below w.heap.size w w'
theorem Grow.refl (w : World) : Grow w w := Below.refl _ _
theorem Grow.trans {a b c : World} (h : Grow a b) (k : Grow b c) : Grow a c := Below.trans h (Below.mono k h.size)
theorem Grow.block {w w' : World} {n : Nat} {o : Obj} (h : Grow w w') (hn : w.heap[n]? = some o) : w'.heap[n]? = some o := by
  have hlt : n < w.heap.size := by
    by_cases e : n < w.heap.size
    · exact e
    · rw [Array.getElem?_eq_none (by omega)] at hn; cases hn
  rw [Below.block h n hlt]
  exact hn

section
variable {P : Program} {md : Region.Mode} {ops : Array Oper} {Q : Exit → Act → World → Prop} {S : World → Prop} {n : Nat}

/-- Whatever order is picked from here on, and however the world has grown meanwhile. The first n operations are to keep S; behind the others the plain walk goes on. -/
def wpG (P : Program) (md : Region.Mode) (ops : Array Oper) (Q : Exit → Act → World → Prop) (S : World → Prop) (n : Nat) : Nat → Array Bool → Act → World → Prop
  | 0, listed, a, w => ∀ w', Grow w w' → S w' → Region.ready md ops listed = [] ∧ Q .normal a w'
  | f + 1, listed, a, w => ∀ w', Grow w w' → S w' → (Region.ready md ops listed = [] → Q .normal a w') ∧
      ∀ i ∈ Region.ready md ops listed, wpOp P ops Q i (fun a' w2 => if i < n then S w2 ∧ wpG P md ops Q S n f (listed.setIfInBounds i true) a' w2 else wpAny P md ops Q f (listed.setIfInBounds i true) a' w2) a w'

theorem wpG_grow {f : Nat} {l : Array Bool} {a : Act} {w w2 : World} (h : wpG P md ops Q S n f l a w) (hg : Grow w w2) : wpG P md ops Q S n f l a w2 := by
  cases f with
  | zero => exact fun w' k hs => h w' (hg.trans k) hs
  | succ f => exact fun w' k hs => h w' (hg.trans k) hs

theorem wpAny_of_G : ∀ (f : Nat) (l : Array Bool) (a : Act) (w : World), wpG P md ops Q S n f l a w → S w → wpAny P md ops Q f l a w
  | 0, _, _, w, h, hs => h w (Grow.refl w) hs
  | f + 1, _, _, w, h, hs => by
    have hh := h w (Grow.refl w) hs
    refine ⟨hh.1, fun i hi => wpOp_mono (fun a' w2 k => ?_) (hh.2 i hi)⟩
    by_cases hin : i < n
    · rw [if_pos hin] at k
      exact wpAny_of_G f _ a' w2 k.2 k.1
    · rw [if_neg hin] at k
      exact k

/-- what has come up has come up behind all that it waits for -/
def ClosedL (md : Region.Mode) (ops : Array Oper) (l : Array Bool) : Prop := ∀ (j : Nat) (o : Oper), ops[j]? = some o → l.getD j false = true → ∀ e ∈ o.after, Region.binds md e = true → l.getD e.on false = true
theorem closed_set {l : Array Bool} {i : Nat} (hc : ClosedL md ops l) (hi : i ∈ Region.ready md ops l) : ClosedL md ops (l.setIfInBounds i true) := by
  intro j o ho hj e he hb
  by_cases hji : i = j
  · subst hji
    obtain ⟨_, o', ho', hall⟩ := mem_ready.1 hi
    rw [ho] at ho'
    cases ho'
    exact getD_set_true (hall e he hb)
  · rw [getD_set_ne false hji] at hj
    exact getD_set_true (hc j o ho hj e he hb)
def closedB (md : Region.Mode) (ops : Array Oper) (l : Array Bool) : Bool := (List.range ops.size).all fun j => match ops[j]? with
  | some o => !l.getD j false || o.after.all fun e => !Region.binds md e || l.getD e.on false
  | none => true
theorem closed_of_B {l : Array Bool} (h : closedB md ops l = true) : ClosedL md ops l := by
  intro j o ho hj e he hb
  have hlt : j < ops.size := (Array.getElem?_eq_some_iff.1 ho).1
  have h1 := List.all_eq_true.1 h j (List.mem_range.2 hlt)
  simp only [ho, hj, Bool.not_true, Bool.false_or] at h1
  have h2 := Array.all_eq_true_iff_forall_mem.1 h1 e he
  simpa [hb] using h2

/-- what some operations wait for, with themselves -/
def reachB (md : Region.Mode) (ops : Array Oper) (X : List Nat) : List Nat := (List.range ops.size).filter fun i => X.contains i || X.any fun x => match ops[x]? with
  | some o => o.after.any fun e => Region.binds md e && e.on == i
  | none => false
theorem reach_listed {l : Array Bool} {X : List Nat} (hc : ClosedL md ops l) (hX : ∀ x ∈ X, l.getD x false = true) : ∀ x ∈ reachB md ops X, l.getD x false = true := by
  intro x hx
  have h := (List.mem_filter.1 hx).2
  rcases Bool.or_eq_true _ _ ▸ h with h | h
  · exact hX x (by simpa using h)
  · obtain ⟨y, hy, hy2⟩ := List.any_eq_true.1 h
    split at hy2
    · rename_i o ho
      obtain ⟨e, he, hb⟩ := Array.any_eq_true'.1 hy2
      simp only [Bool.and_eq_true, beq_iff_eq] at hb
      rw [← hb.2]
      exact hc y o ho (hX y hy) e he hb.1
    · cases hy2
def reachN (md : Region.Mode) (ops : Array Oper) : Nat → List Nat → List Nat
  | 0, X => X
  | k + 1, X => reachN md ops k (reachB md ops X)
theorem reachN_listed {l : Array Bool} (hc : ClosedL md ops l) : ∀ (k : Nat) (X : List Nat), (∀ x ∈ X, l.getD x false = true) → ∀ x ∈ reachN md ops k X, l.getD x false = true
  | 0, _, hX => hX
  | k + 1, _, hX => reachN_listed hc k _ (reach_listed hc hX)
/-- each operation from number n on waits, by way of others, for all the first n -/
def gateB (md : Region.Mode) (ops : Array Oper) (n k : Nat) : Bool := (List.range ops.size).all fun j => decide (j < n) || match ops[j]? with
  | some o => (List.range n).all fun i => (reachN md ops k ((o.after.toList.filter (Region.binds md)).map (·.on))).contains i
  | none => true
theorem gate_of_B {k : Nat} {l : Array Bool} {i j : Nat} (hg : gateB md ops n k = true) (hc : ClosedL md ops l) (hj : j ∈ Region.ready md ops l) (hi : i < n) (hun : l.getD i false = false) : j < n := by
  obtain ⟨_, o, ho, hall⟩ := mem_ready.1 hj
  have hlt : j < ops.size := (Array.getElem?_eq_some_iff.1 ho).1
  have h1 := List.all_eq_true.1 hg j (List.mem_range.2 hlt)
  rcases Bool.or_eq_true _ _ ▸ h1 with h1 | h1
  · exact of_decide_eq_true h1
  · simp only [ho] at h1
    have h2 := List.all_eq_true.1 h1 i (List.mem_range.2 hi)
    have h3 := reachN_listed hc k ((o.after.toList.filter (Region.binds md)).map (·.on)) (fun x hx => by
      obtain ⟨e, he, rfl⟩ := List.mem_map.1 hx
      obtain ⟨he1, he2⟩ := List.mem_filter.1 he
      exact hall e (Array.mem_toList_iff.1 he1) he2) i (by simpa using h2)
    rw [hun] at h3
    cases h3

/-- In state a, in every world that meets S: o yields v, and of what was there nothing turns. -/
def YieldsG (P : Program) (ops : Array Oper) (S : World → Prop) (o : Oper) (v : Value) (a : Act) : Prop :=
  (Region.wanted o (yielded ops a.tmps) = true ∧ ∀ w, S w → o.quietAt P a (fun w2 => Grow w w2 ∧ S w2) w v) ∨ (Region.wanted o (yielded ops a.tmps) = false ∧ v = undef)
theorem YieldsG.same {o : Oper} {v : Value} {a a' : Act} (h : YieldsG P ops S o v a) (he : execOp a'.eval o = execOp a.eval o) (hw : Region.wanted o (yielded ops a'.tmps) = Region.wanted o (yielded ops a.tmps)) : YieldsG P ops S o v a' := by
  unfold YieldsG Oper.quietAt at *
  rw [he, hw]
  exact h

/-- it is carried out: what follows holds in each world that it may leave -/
theorem YieldsG.run {i : Nat} {o : Oper} {v : Value} {a : Act} {w : World} {K : Act → World → Prop} (hi : ops[i]? = some o) (h : YieldsG P ops S o v a) (hs : S w) (hk : ∀ w2, Grow w w2 → S w2 → K (a.put o.dst v) w2) : wpOp P ops Q i K a w := by
  unfold wpOp
  simp only [hi]
  rcases h with ⟨hw, h⟩ | ⟨hw, rfl⟩
  · simp only [hw, if_true]
    refine .inl ?_
    have h1 := h w hs
    unfold Oper.quietAt at h1
    unfold Oper.wp
    generalize (execOp a.eval o).run P w = r at *
    cases r with
    | ok x w1 =>
      cases x <;> simp only [Oper.quietUpon] at h1 <;> simp only [Oper.upon]
      case value u => obtain ⟨rfl, rfl⟩ := h1; exact hk _ (Grow.refl _) hs
      case skip => obtain ⟨rfl, rfl⟩ := h1; exact hk _ (Grow.refl _) hs
      case enter g args =>
        obtain ⟨rfl, hc⟩ := h1
        exact hc.mono fun e w2 ⟨he, h2, h3⟩ => by subst he; exact hk _ h2 h3
    | halt x w1 => simp only [Oper.quietUpon] at h1
  · simp only [hw, Bool.false_eq_true, if_false]
    exact hk w (Grow.refl w) hs

/-- an operation that is apart from another one: it makes no odds whether that one's value stands there already; and what the state said that it does not touch it still says -/
theorem wpOp_put_inv {j : Nat} {oi oj : Oper} {v : Value} {Y : Act → Prop} (hj : ops[j]? = some oj) (hap : oi.apart ops oj = true) (hsj : ∀ cs b, oj.op ≠ .select cs b)
    (hQ : ∀ c a w, Q (.panic c) (a.put oi.dst v) w → Q (.panic c) a w) (hY : ∀ a u, Y a → Y (a.put oj.dst u)) (hD : ∀ a d, Y a → Y { a with defers := d :: a.defers })
    {K : Act → World → Prop} {a : Act} {w : World} (hy : Y a) (h : wpOp P ops Q j K (a.put oi.dst v) w) : wpOp P ops Q j (fun a' w' => Y a' ∧ K (a'.put oi.dst v) w') a w := by
  obtain ⟨h1, h2, _⟩ := Oper.apart_spec hap
  unfold wpOp at *
  simp only [hj] at *
  rw [wanted_put oj a oi.dst v h1] at h
  by_cases hw : Region.wanted oj (yielded ops a.tmps) = true
  · simp only [hw, if_true] at h ⊢
    rcases h with h | ⟨ha, hl⟩
    · refine .inl ?_
      unfold Oper.wp at *
      rw [execOp_put oj hsj a oi.dst v h1] at h
      generalize (execOp a.eval oj).run P w = r at *
      cases r with
      | ok x w' =>
        cases x <;> simp only [Oper.upon] at h ⊢
        case value u => exact ⟨hY a u hy, by rw [← Act.put_comm a v u h2]; exact h⟩
        case skip => exact ⟨hY a _ hy, by rw [← Act.put_comm a v undef h2]; exact h⟩
        case defer d =>
          refine ⟨hY _ _ (hD a d hy), ?_⟩
          rw [← Act.put_comm _ v undef h2, ← Act.put_defers]
          exact h
        case enter g args =>
          refine Calls.mono h fun e w2 he => ?_
          cases e with
          | returned u => exact ⟨hY a u hy, by rw [← Act.put_comm a v u h2]; exact he⟩
          | panicked c => exact hQ _ _ _ he
          | outgrown => exact he
        case row row args => exact Rows.mono h fun u w2 he => ⟨hY a u hy, by rw [← Act.put_comm a v u h2]; exact he⟩
      | halt x w' =>
        cases x <;> simp only [Oper.upon] at h ⊢
        case panic u => exact hQ _ _ _ h
    · exact .inr ⟨by unfold Oper.asks at *; rw [execOp_put oj hsj a oi.dst v h1] at ha; exact ha, hl⟩
  · simp only [hw] at h ⊢
    exact ⟨hY a _ hy, by rw [← Act.put_comm a v undef h2]; exact h⟩

theorem wpG_first {i k : Nat} {oi : Oper} {v : Value} (hi : ops[i]? = some oi) (hsel : ∀ (j : Nat) (o : Oper) cs b, ops[j]? = some o → o.op ≠ .select cs b) (hin : i < n) (hg : gateB md ops n k = true)
    (hQ : ∀ c a w, Q (.panic c) (a.put oi.dst v) w → Q (.panic c) a w) :
    ∀ (f : Nat) (l : Array Bool) (a : Act) (w : World),
      (∀ j oj, ops[j]? = some oj → j ≠ i → l.getD j true = false → (∀ e ∈ oj.after, Region.binds md e = true → e.on ≠ i) → oi.apart ops oj = true) →
      ClosedL md ops l → i ∈ Region.ready md ops l → YieldsG P ops S oi v a →
      wpG P md ops Q S n f (l.setIfInBounds i true) (a.put oi.dst v) w → wpG P md ops Q S n (f + 1) l a w := by
  intro f
  induction f with
  | zero =>
    intro l a w _ _ hr hy H w' hg' hs
    refine ⟨fun h => (by rw [h] at hr; cases hr), fun j hj => ?_⟩
    by_cases hji : j = i
    · subst hji
      refine hy.run hi hs fun w2 g2 s2 => ?_
      rw [if_pos hin]
      exact ⟨s2, wpG_grow H (hg'.trans g2)⟩
    · have := ready_mono hj hji
      rw [(H w' hg' hs).1] at this
      cases this
  | succ f ih =>
    intro l a w hfree hc hr hy H w' hg' hs
    refine ⟨fun h => (by rw [h] at hr; cases hr), fun j hj => ?_⟩
    by_cases hji : j = i
    · subst hji
      refine hy.run hi hs fun w2 g2 s2 => ?_
      rw [if_pos hin]
      exact ⟨s2, wpG_grow H (hg'.trans g2)⟩
    · have h1 := (H w' hg' hs).2 j (ready_mono hj hji)
      obtain ⟨hjun, oj, hoj, hall⟩ := mem_ready.1 hj
      have hiun : l.getD i false = false := by
        have h0 := (mem_ready.1 hr).1
        rcases Nat.lt_or_ge i l.size with h' | h'
        · simp [h'] at h0 ⊢; exact h0
        · simp [Array.getElem?_eq_none h']
      have hjn : j < n := gate_of_B hg hc hj hin hiun
      have hnot : ∀ e ∈ oj.after, Region.binds md e = true → e.on ≠ i := fun e he hb heq => by
        have h2 := hall e he hb
        rw [heq, hiun] at h2
        cases h2
      have hap := hfree j oj hoj hji hjun hnot
      obtain ⟨_, _, h3⟩ := Oper.apart_spec hap
      have h2 := wpOp_put_inv (Y := fun a => YieldsG P ops S oi v a) hoj hap (fun cs b => hsel j oj cs b hoj) hQ
        (fun a u hya => hya.same (execOp_put oi (fun cs b => hsel i oi cs b hi) a oj.dst u h3) (wanted_put oi a oj.dst u h3)) (fun a d hya => hya.same rfl rfl) hy h1
      refine wpOp_mono (fun a' w2 h4 => ?_) h2
      rw [if_pos hjn] at h4 ⊢
      refine ⟨h4.2.1, ih (l.setIfInBounds j true) a' w2 ?_ (closed_set hc hj) (ready_mono hr (Ne.symm hji)) h4.1 ?_⟩
      · intro m om hm hmi hun hno
        refine hfree m om hm hmi ?_ hno
        by_cases hjm : j = m
        · subst hjm; exact hjun
        · rw [getD_set_ne true hjm] at hun; exact hun
      · rw [Array.setIfInBounds_comm _ _ hji]
        exact h4.2.2

/-- the i-th operation, written out -/
theorem op_at {i : Nat} {o : Oper} {rest : List Oper} (h : ops.toList.drop i = o :: rest) : ops[i]? = some o := by
  have := congrArg List.head? h
  rw [List.head?_drop, Array.getElem?_toList] at this
  exact this
/-- take number i first -/
theorem wpG_take {i : Nat} (k : Nat) {oi : Oper} {rest : List Oper} {v : Value} {f : Nat} {l : Array Bool} {a : Act} {w : World} (hi : ops.toList.drop i = oi :: rest) (hs : Region.noSelect ops = true) (hf : Region.free md ops l i = true) (hr : (Region.ready md ops l).contains i = true)
    (hin : i < n) (hg : gateB md ops n k = true) (hc : closedB md ops l = true) (hQ : ∀ c a w, Q (.panic c) (a.put oi.dst v) w → Q (.panic c) a w) (hy : YieldsG P ops S oi v a)
    (h : wpG P md ops Q S n f (l.setIfInBounds i true) (a.put oi.dst v) w) : wpG P md ops Q S n (f + 1) l a w :=
  wpG_first (op_at hi) (Region.noSelect_spec hs) hin hg hQ f l a w (Region.free_spec (op_at hi) hf) (closed_of_B hc) (by simpa using hr) hy h

/-- the region -/
theorem wp_region_G {id : Nat} {a : Act} {w : World} (n : Nat) (S : World → Prop) (hm : P.follows .mixedOrders = true) (hs : S w.drew) (h : wpG P .any ops Q S n ops.size (Array.replicate ops.size false) a w.drew) : (Code.region id ops true).wp P Q a w :=
  wp_region_any hm (wpAny_of_G _ _ _ _ h hs)

/-- whichever of the rest comes up -/
theorem wpG_ready {rs : List Nat} {f : Nat} {l : Array Bool} {a : Act} {w : World} (hr : Region.ready md ops l = rs) (hne : rs ≠ [])
    (h : ∀ w', Grow w w' → S w' → ∀ i ∈ rs, wpOp P ops Q i (fun a' w2 => if i < n then S w2 ∧ wpG P md ops Q S n f (l.setIfInBounds i true) a' w2 else wpAny P md ops Q f (l.setIfInBounds i true) a' w2) a w') : wpG P md ops Q S n (f + 1) l a w :=
  fun w' hg hs => ⟨fun h0 => absurd (hr ▸ h0) hne, hr ▸ h w' hg hs⟩
theorem wpAny_one {i : Nat} {f : Nat} {l : Array Bool} {a : Act} {w : World} (hr : Region.ready md ops l = [i]) (h : wpOp P ops Q i (wpAny P md ops Q f (l.setIfInBounds i true)) a w) : wpAny P md ops Q (f + 1) l a w :=
  ⟨fun h0 => (by rw [hr] at h0; cases h0), fun j hj => by rw [hr, List.mem_singleton] at hj; subst hj; exact h⟩
theorem wpAny_end {f : Nat} {l : Array Bool} {a : Act} {w : World} (hr : Region.ready md ops l = []) (h : Q .normal a w) : wpAny P md ops Q f l a w := by
  cases f with
  | zero => exact ⟨hr, h⟩
  | succ f => exact ⟨fun _ => h, fun i hi => by rw [hr] at hi; cases hi⟩
/-- one operation, what follows behind a variable -/
theorem wpOp_step {i : Nat} {o : Oper} {rest : List Oper} {K : Act → World → Prop} {a : Act} {w : World} (ho : ops.toList.drop i = o :: rest) (hw : Region.wanted o (yielded ops a.tmps) = true) (h : ∀ K' : Act → World → Prop, (∀ a w, K a w → K' a w) → o.wp P a w K' Q) : wpOp P ops Q i K a w := by
  unfold wpOp
  simp only [op_at ho, hw, if_true]
  exact .inl (h K fun _ _ h => h)
theorem wpG_kept {i f : Nat} {l : Array Bool} {a : Act} {w : World} (hin : i < n) (hs : S w) (h : wpG P md ops Q S n f l a w) : if i < n then S w ∧ wpG P md ops Q S n f l a w else wpAny P md ops Q f l a w := by
  rw [if_pos hin]
  exact ⟨hs, h⟩
theorem wpG_past {i f : Nat} {l : Array Bool} {a : Act} {w : World} (hin : ¬ i < n) (h : wpAny P md ops Q f l a w) : if i < n then S w ∧ wpG P md ops Q S n f l a w else wpAny P md ops Q f l a w := by
  rw [if_neg hin]
  exact h
end

/-- a callee's contract, for YieldsG -/
theorem calls_grow {P : Program} {f : FuncId} {args : Array Value} {w base : World} {B : Nat} {v : Value} (hS : Below B base w) (hB : B ≤ base.heap.size)
    (h : Calls P f args w fun e w' => e = .returned v ∧ Below w.heap.size w w') : Calls P f args w fun e w' => e = .returned v ∧ Grow w w' ∧ Below B base w' :=
  h.mono fun _ _ ⟨he, hb⟩ => ⟨he, hb, hS.trans (hb.mono (Nat.le_trans hB hS.size))⟩
theorem calls_grow_same {P : Program} {f : FuncId} {args : Array Value} {w base : World} {B : Nat} {v : Value} (hS : Below B base w)
    (h : Calls P f args w fun e w' => e = .returned v ∧ w' = w) : Calls P f args w fun e w' => e = .returned v ∧ Grow w w' ∧ Below B base w' :=
  h.mono fun _ _ ⟨he, hb⟩ => by subst hb; exact ⟨he, Grow.refl _, hS⟩

end Go.Proofs.YthnodpdiocppgaaGreatDoor
namespace Go.Proofs.YthnodpdiocppgaaGreatDoor
set_option maxRecDepth 20000
open Go Go.RowKit Go.Shelf Go.ChangeShapes Go.WideShapes Go.Deep

/-- an element: its cells, and what else is to be said of it in a world (lists that lie elsewhere) -/
structure Elem (α : Type) where
  cells : α → List Value
  n : Nat
  A : α → World → Prop
  len : ∀ x, (cells x).length = n
  pos : 0 < n
  one : ∀ x w, A x w → ∀ u ∈ cells x, u.oneCell' = true
  below : ∀ x w w', A x w → Below w.heap.size w w' → A x w'

section
variable {α : Type} (E : Elem α)
/-- all their cells, one behind the other -/
def Elem.flat (l : List α) : List Value := l.flatMap E.cells
/-- an element's cells lie there -/
def Elem.At (w : World) (g o : Nat) (x : α) : Prop := ∀ j u, (E.cells x)[j]? = some u → w.cell? ⟨g, o + j, none⟩ = some u
/-- a slice of these -/
def Sl (w : World) (v : Value) (l : List α) : Prop :=
  ∃ a cap, v = .slice a l.length cap ∧ l.length ≤ cap ∧ cap ≤ maxLen ∧
    ∀ i (h : i < l.length), E.A l[i] w ∧ ∃ g off, a = some ⟨g, off, none⟩ ∧ g < w.heap.size ∧ E.At w g (off + i * E.n) l[i]
variable {E}
theorem Elem.At.below {w w' : World} {g o : Nat} {x : α} (h : E.At w g o x) (hg : g < w.heap.size) (hb : Below w.heap.size w w') : E.At w' g o x :=
  fun j u hu => (hb.cell (p := ⟨g, o + j, none⟩) hg).trans (h j u hu)
theorem Sl.below {w w' : World} {v : Value} {l : List α} (h : Sl E w v l) (hb : Below w.heap.size w w') : Sl E w' v l := by
  obtain ⟨a, cap, hv, h1, h2, hc⟩ := h
  refine ⟨a, cap, hv, h1, h2, fun i hi => ?_⟩
  obtain ⟨hat, g, off, hg, hlt, c⟩ := hc i hi
  exact ⟨E.below _ _ _ hat hb, g, off, hg, Nat.lt_of_lt_of_le hlt hb.size, c.below hlt hb⟩
theorem Sl.nil (w : World) : Sl E w (.slice none 0 0) [] := ⟨none, 0, rfl, Nat.le_refl _, Nat.zero_le _, fun i hi => absurd hi (by simp)⟩
theorem Sl.len {w : World} {v : Value} {l : List α} (h : Sl E w v l) : l.length ≤ 9223372036854775807 := by
  obtain ⟨_, _, _, h1, h2, _⟩ := h
  unfold maxLen at h2
  omega
theorem Sl.form {w : World} {v : Value} {l : List α} (h : Sl E w v l) : ∃ a cap, v = .slice a l.length cap := by
  obtain ⟨a, cap, hv, _⟩ := h
  exact ⟨a, cap, hv⟩
theorem Sl.all {w : World} {v : Value} {l : List α} (h : Sl E w v l) : ∀ x ∈ l, E.A x w := by
  obtain ⟨_, _, _, _, _, hc⟩ := h
  intro x hx
  obtain ⟨i, hi, rfl⟩ := List.getElem_of_mem hx
  exact (hc i hi).1

theorem Elem.flat_append (a b : List α) : E.flat (a ++ b) = E.flat a ++ E.flat b := by simp [Elem.flat]
theorem Elem.flat_cons (x : α) (l : List α) : E.flat (x :: l) = E.cells x ++ E.flat l := rfl
theorem Elem.flat_one (x : α) : E.flat [x] = E.cells x := by simp [Elem.flat]
theorem Elem.flat_len (l : List α) : (E.flat l).length = l.length * E.n := by
  induction l with
  | nil => simp [Elem.flat]
  | cons x l ih =>
    rw [Elem.flat_cons, List.length_append, ih, E.len, List.length_cons, Nat.add_mul, Nat.one_mul, Nat.add_comm]
theorem Elem.flat_at : ∀ (l : List α) (i : Nat) (h : i < l.length) (j : Nat), j < E.n → (E.flat l)[i * E.n + j]? = (E.cells l[i])[j]?
  | x :: l, 0, _, j, hj => by
    rw [Elem.flat_cons, Nat.zero_mul, Nat.zero_add, List.getElem?_append_left (by rw [E.len]; exact hj)]
    rfl
  | x :: l, i + 1, h, j, hj => by
    have ih := Elem.flat_at l i (by simpa using h) j hj
    rw [Elem.flat_cons, List.getElem?_append_right (by rw [E.len, Nat.add_mul, Nat.one_mul]; omega), E.len]
    rw [show (i + 1) * E.n + j - E.n = i * E.n + j by rw [Nat.add_mul, Nat.one_mul]; omega]
    exact ih
theorem Elem.flat_ones {w : World} {l : List α} (hl : ∀ x ∈ l, E.A x w) : ∀ u ∈ E.flat l, u.oneCell' = true := by
  intro u hu
  obtain ⟨x, hx, hu⟩ := List.mem_flatMap.1 hu
  exact E.one x w (hl x hx) u hu
theorem Elem.flat_inv (l : List α) (j : Nat) (u : Value) (h : (E.flat l)[j]? = some u) : ∃ i, ∃ hi : i < l.length, ∃ m, m < E.n ∧ j = i * E.n + m ∧ (E.cells l[i])[m]? = some u := by
  have hj : j < l.length * E.n := by rw [← E.flat_len]; exact (List.getElem?_eq_some_iff.1 h).1
  have hn := E.pos
  have hi : j / E.n < l.length := (Nat.div_lt_iff_lt_mul hn).2 hj
  have hm : j % E.n < E.n := Nat.mod_lt _ hn
  have e : j = j / E.n * E.n + j % E.n := by rw [Nat.mul_comm]; exact (Nat.div_add_mod j E.n).symm
  refine ⟨j / E.n, hi, j % E.n, hm, e, ?_⟩
  rw [← Elem.flat_at l (j / E.n) hi (j % E.n) hm, ← e]
  exact h

/-- a row of one's own is a slice of these -/
theorem Sl.of_row {w : World} {base t : Nat} {v : Value} {l : List α} {n : Nat} (hn : n = l.length) (h : w.ownsRow base t E.n v n (E.flat l)) (hl : ∀ x ∈ l, E.A x w) : Sl E w v l := by
  subst hn
  obtain ⟨_, h2⟩ := h
  rcases h2 with ⟨rfl, h0⟩ | ⟨g, cap, cur, rfl, hg, hgb, hle, hcm, hsz, hcur⟩
  · have : l = [] := List.eq_nil_of_length_eq_zero h0
    subst this
    exact Sl.nil w
  · refine ⟨some ⟨g, 0, none⟩, cap, rfl, hle, hcm, fun i hi => ⟨hl _ (List.getElem_mem hi), g, 0, rfl, (Array.getElem?_eq_some_iff.1 hgb).1, fun j u hu => ?_⟩⟩
    have hj : j < E.n := by rw [← E.len l[i]]; exact (List.getElem?_eq_some_iff.1 hu).1
    have hlt : i * E.n + j < l.length * E.n := by
      have : (i + 1) * E.n ≤ l.length * E.n := Nat.mul_le_mul_right _ hi
      rw [Nat.add_mul, Nat.one_mul] at this
      omega
    rw [← Elem.flat_at l i hi j hj, ← hcur, List.getElem?_take_of_lt hlt] at hu
    rw [Nat.zero_add]
    simp [World.cell?, hgb]
    simpa using hu
theorem Sl.news {w : World} {ad : Addr} {n c : Nat} {l : List α} (h : Sl E w (.slice (some ad) n c) l) : ∀ j u, (E.flat l)[j]? = some u → w.cell? (ad.add j) = some u := by
  intro j u hu
  obtain ⟨i, hi, m, _, rfl, hm⟩ := Elem.flat_inv l j u hu
  obtain ⟨a, cap, hv, _, _, hcell⟩ := h
  obtain ⟨_, g, off, ha, _, c⟩ := hcell i hi
  subst ha
  injection hv with e1
  injection e1 with e1
  subst e1
  rw [add_plain, ← Nat.add_assoc]
  exact c m u hm
theorem Sl.lies {w : World} {x : Value} {l : List α} (h : Sl E w x l) : Lies w x l.length (E.flat l) := by
  have h0 := h
  obtain ⟨a, cap, rfl, _, _, hc⟩ := h
  cases a with
  | some ad => exact .inl ⟨ad, cap, rfl, h0.news⟩
  | none =>
    have : l = [] := by
      cases l with
      | nil => rfl
      | cons p r => obtain ⟨_, g, off, hg, _⟩ := hc 0 (by simp); cases hg
    subst this
    exact .inr ⟨cap, rfl, rfl⟩
/-- the first ones -/
theorem Sl.pre {w : World} {a : Option Addr} {n cap : Nat} {l : List α} (h : Sl E w (.slice a n cap) l) {k : Nat} (hk : k ≤ l.length) : Sl E w (.slice a k cap) (l.take k) := by
  obtain ⟨a', cap', hv, h1, h2, hc⟩ := h
  injection hv with e1 e2 e3
  subst e1 e2 e3
  have hl : (l.take k).length = k := by simp; omega
  refine ⟨a, cap, by rw [hl], by rw [hl]; omega, h2, fun i hi => ?_⟩
  rw [hl] at hi
  obtain ⟨hat, g, off, ha, hg, c⟩ := hc i (by omega)
  exact ⟨by simpa using hat, g, off, ha, hg, by simpa using c⟩
/-- one alone, in a block of its own -/
theorem Sl.at_block {w : World} {p t : Nat} {x : α} (hb : w.heap[p]? = some (.cells (E.cells x).toArray t)) (hx : E.A x w) : Sl E w (.slice (some ⟨p, 0, none⟩) 1 1) [x] := by
  refine ⟨_, 1, rfl, Nat.le_refl _, by decide, fun i hi => ?_⟩
  have : i = 0 := by simpa using hi
  subst this
  refine ⟨hx, p, 0, rfl, (Array.getElem?_eq_some_iff.1 hb).1, fun j u hu => ?_⟩
  simp only [World.cell?]
  rw [hb]
  simpa using hu
/-- laid down at once -/
theorem Sl.lit (w : World) (t : Nat) (l : List α) (cs : Array Value) (hcs : cs = (E.flat l).toArray) (n p : Nat) (hn : n = l.length) (hp : w.heap.size = p) (h100 : n ≤ 1000) (hl : ∀ x ∈ l, E.A x (w.alloc (.cells cs t))) :
    Sl E (w.alloc (.cells cs t)) (.slice (some ⟨p, 0, none⟩) n n) l := by
  subst hn hcs hp
  refine Sl.of_row (base := w.heap.size) (t := t) rfl ⟨E.flat_len l, .inr ⟨w.heap.size, l.length, (E.flat l).toArray, rfl, Nat.le_refl _, alloc_new w _, Nat.le_refl _, by unfold maxLen; omega, ?_, ?_⟩⟩ hl
  · simp [E.flat_len]
  · rw [List.take_of_length_le]
    simp [E.flat_len]
/-! ### append -/
theorem wpList_append_sl {P : Program} {o : Oper} {a : Act} {Q : Exit → Act → World → Prop} {ops : Array Oper} {rest : List Oper} (t e : TypeId) (z : Value) (bytes : Nat) (ht : P.underlying t = some (.slice e)) (hinfo : (P.info? e).map (fun i => (i.zero, i.size, i.bytes)) = some (some z, E.n, bytes)) (hz : z.cells.size = E.n) (hby : bytes ≤ 1000000) (w : World) (s x : Operand)
    (ho : o.op = .call { callee := .builtin .append, args := #[s, x], argTypes := #[t, t] }) (hw : Region.wanted o (yielded ops a.tmps) = true)
    (base : Nat) (v : Value) (n : Nat) (xs : List α) (hs : a.eval s = v) (hown : w.ownsRow base e E.n v n (E.flat xs))
    (y : Value) (l : List α) (hy : a.eval x = y) (hl : Sl E w y l) (hn : n + l.length ≤ 100000) (hbase : base ≤ w.heap.size)
    (h : ∀ v' w', w'.ownsRow base e E.n v' (n + l.length) (E.flat (xs ++ l)) → w.grownBy w' v.ownBlock → wpList P ops Q rest (a.put o.dst v') w') : wpList P ops Q (o :: rest) a w := by
  obtain ⟨i0, hi, hz0, hz1, hz2⟩ := info_parts hinfo
  exact wpList_append_any w s x _ ho base _ i0 _ E.n bytes ht hi hz0 hz1 hz2 hz E.pos v n (E.flat xs) hs hown y l.length (E.flat l) hy hl.lies (E.flat_len l) (Elem.flat_ones hl.all) (by unfold maxLen; omega) (Nat.le_trans (Nat.mul_le_mul hn hby) (by decide)) hbase hw (fun v' w' h2 h3 => h v' w' (by rw [Elem.flat_append]; exact h2) h3)
/-! ### an argument -/
theorem sl_trod {H : Type} {enc : TypeId × Value → H} {P : Program} {W : World} {t e : TypeId} {R : α → Prop} (ht : P.underlying t = some (.slice e)) (hce : P.cellsOf e = E.n)
    (hel : ∀ (fuel : Nat) (cs : List Value) (y : DataW H × List MemPlace), cs.length = E.n → DataW.trod enc P W 0 (fun _ => true) true fuel e cs = some y → ∃ x, cs = E.cells x ∧ E.A x W ∧ R x) (hne : Nonempty α)
    {fuel : Nat} {v : Value} {y : DataW H × List MemPlace} (hf : DataW.trod enc P W 0 (fun _ => true) true fuel t [v] = some y) : ∃ l : List α, Sl E W v l ∧ ∀ x ∈ l, R x := by
  rcases open_slice ht hf with ⟨hcs, _⟩ | ⟨a, len, cap, m, n, D, Pl, hcs, _, hl, hm, hmm, _, hx⟩
  · simp only [List.cons.injEq, and_true] at hcs
    subst hcs
    exact ⟨[], Sl.nil W, fun p hp => absurd hp (by simp)⟩
  · simp only [List.cons.injEq, and_true] at hcs
    subst hcs
    simp only [if_true] at hmm
    subst hmm
    have each : ∀ i, i < len → ∃ x : α, (∀ j u, (E.cells x)[j]? = some u → W.cell? (a.add (i * E.n + j)) = some u) ∧ E.A x W ∧ R x := by
      intro i hi
      obtain ⟨cs', h1, h2⟩ := hx i (by omega)
      rw [hce] at h1
      obtain ⟨_, hlen, hcell⟩ := World.cells?_some h1
      obtain ⟨x, rfl, h3, h4⟩ := hel _ _ _ hlen h2
      refine ⟨x, fun j u hu => ?_, h3, h4⟩
      have hj : j < E.n := by rw [← E.len x]; exact (List.getElem?_eq_some_iff.1 hu).1
      have := hcell j hj
      rw [add_add] at this
      rw [this]
      exact hu
    have hch : ∃ f : Nat → α, ∀ i, i < len → (∀ j u, (E.cells (f i))[j]? = some u → W.cell? (a.add (i * E.n + j)) = some u) ∧ E.A (f i) W ∧ R (f i) :=
      ⟨fun i => if h : i < len then (each i h).choose else Classical.choice hne, fun i hi => by
        have := (each i hi).choose_spec
        simp only [dif_pos hi]
        exact this⟩
    obtain ⟨f, hf2⟩ := hch
    refine ⟨(List.range len).map f, ⟨some a, m, by simp, by simp; omega, hm, fun i hi => ?_⟩, fun p hp => ?_⟩
    · have hi' : i < len := by simpa using hi
      obtain ⟨b, off, spot⟩ := a
      obtain ⟨hc, hat, _⟩ := hf2 i hi'
      have c0 : ∃ u, (E.cells (f i))[0]? = some u := by
        have h0 : 0 < (E.cells (f i)).length := by rw [E.len]; exact E.pos
        exact ⟨_, List.getElem?_eq_getElem h0⟩
      obtain ⟨u0, hu0⟩ := c0
      have hspot : spot = none := by
        obtain ⟨hz, _, _⟩ := hf2 0 (by omega)
        have h0 : 0 < (E.cells (f 0)).length := by rw [E.len]; exact E.pos
        have := World.cell?_spot (hz 0 _ (List.getElem?_eq_getElem h0))
        simpa [Addr.add] using this
      subst hspot
      have hc0 := hc 0 u0 hu0
      rw [add_plain] at hc0
      refine ⟨by simpa using hat, b, off, rfl, World.block_lt_of_cell? _ _ hc0, ?_⟩
      have key : E.At W b (off + i * E.n) (f i) := fun j u hu => by
        have := hc j u hu
        rw [add_plain, ← Nat.add_assoc] at this
        exact this
      simpa using key
    · obtain ⟨i, hi, rfl⟩ := List.mem_map.1 hp
      exact (hf2 i (List.mem_range.1 hi)).2.2
end

end Go.Proofs.YthnodpdiocppgaaGreatDoor
namespace Go.Proofs.YthnodpdiocppgaaGreatDoor
set_option maxRecDepth 20000
open Go Go.RowKit Go.Shelf

theorem cellN {w : World} {g i : Nat} {cs : Array Value} {t : Nat} {u : Value} (h : w.heap[g]? = some (.cells cs t)) (hu : cs[i]? = some u) : w.cell? ⟨g, i, none⟩ = some u := by
  simp only [World.cell?]
  rw [h]
  exact hu
theorem liveN {w : World} {g : Nat} {cs : Array Value} {t : Nat} (h : w.heap[g]? = some (.cells cs t)) (i : Nat) : w.frozen? ⟨g, i, none⟩ = false := by
  simp only [World.frozen?]
  rw [h]
  rfl
theorem lt_blk {w : World} {n : Nat} {o : Obj} (h : w.heap[n]? = some o) : n < w.heap.size := (Array.getElem?_eq_some_iff.1 h).1
/-- a block in whatever grows -/
theorem blk_below {w W : World} {g : Nat} {o : Obj} (h : w.heap[g]? = some o) (hb : Below w.heap.size w W) : W.heap[g]? = some o := (hb.block g (lt_blk h)).trans h

/-- the cells from number k on are written anew -/
def setL (W : World) (g : Nat) : Nat → List Value → World
  | _, [] => W
  | k, c :: cs => setL (W.setCell ⟨g, k, none⟩ c) g (k + 1) cs
theorem setL_far {g m : Nat} (hne : m ≠ g) : ∀ (cs : List Value) (W : World) (k : Nat), (setL W g k cs).heap[m]? = W.heap[m]?
  | [], _, _ => rfl
  | c :: cs, W, k => by
    show (setL (W.setCell ⟨g, k, none⟩ c) g (k + 1) cs).heap[m]? = _
    rw [setL_far hne cs]
    exact set_far hne
theorem setL_size {g : Nat} : ∀ (cs : List Value) (W : World) (k : Nat), (setL W g k cs).heap.size = W.heap.size
  | [], _, _ => rfl
  | c :: cs, W, k => by
    show (setL (W.setCell ⟨g, k, none⟩ c) g (k + 1) cs).heap.size = _
    rw [setL_size cs]
    simp [World.setCell]
theorem setL_below {w : World} {B g : Nat} (hn : B ≤ g) : ∀ (cs : List Value) (W : World) (k : Nat), Below B w W → Below B w (setL W g k cs)
  | [], _, _, h => h
  | c :: cs, W, k, h => setL_below hn cs (W.setCell ⟨g, k, none⟩ c) (k + 1) (h.setCell (p := ⟨g, k, none⟩) hn c)
theorem setL_at {g t : Nat} : ∀ (cs pre old : List Value) (W : World), W.heap[g]? = some (.cells (pre ++ old).toArray t) → old.length = cs.length → (setL W g pre.length cs).heap[g]? = some (.cells (pre ++ cs).toArray t)
  | [], pre, old, W, h, hl => by
    have : old = [] := List.eq_nil_of_length_eq_zero hl
    subst this
    exact h
  | c :: cs, pre, old, W, h, hl => by
    match old, hl with
    | o :: old, hl =>
      have h1 : (W.setCell ⟨g, pre.length, none⟩ c).heap[g]? = some (.cells ((pre ++ [c]) ++ old).toArray t) := by
        obtain ⟨hlt, hk⟩ := Array.getElem?_eq_some_iff.1 h
        show (W.heap.modify g _)[g]? = _
        rw [Array.getElem?_eq_getElem (by rw [Array.size_modify]; exact hlt), Array.getElem_modify_self, hk]
        simp
      have := setL_at cs (pre ++ [c]) old (W.setCell ⟨g, pre.length, none⟩ c) h1 (by simpa using hl)
      rw [List.length_append, List.length_singleton] at this
      show (setL (W.setCell ⟨g, pre.length, none⟩ c) g (pre.length + 1) cs).heap[g]? = _
      rw [this]
      simp
/-- all of a block's cells -/
theorem setL_all {W : World} {g t : Nat} {old : Array Value} (cs : List Value) (h : W.heap[g]? = some (.cells old t)) (hl : old.size = cs.length) : (setL W g 0 cs).heap[g]? = some (.cells cs.toArray t) := by
  have := setL_at (g := g) (t := t) cs [] old.toList W (by simpa using h) (by simpa using hl)
  simpa using this
/-- a row of another type stays -/
theorem row_setL {W : World} {b0 e0 s n g : Nat} {u : Value} {xs : List Value} {old : Array Value} {t k : Nat} {cs : List Value} (h : W.ownsRow b0 e0 s u n xs) (hz : W.heap[g]? = some (.cells old t)) (hne : e0 ≠ t) : (setL W g k cs).ownsRow b0 e0 s u n xs := by
  obtain ⟨h1, h2⟩ := h
  refine ⟨h1, ?_⟩
  rcases h2 with h2 | ⟨g', cap, cur, hv, hb, hh, r⟩
  · exact .inl h2
  · refine .inr ⟨g', cap, cur, hv, hb, ?_, r⟩
    rw [setL_far (fun e1 => ?_)]
    · exact hh
    · rw [e1, hz] at hh
      injection hh with hh
      injection hh with _ hh _
      exact hne hh.symm
/-- a row that was laid behind it stays -/
theorem row_setLb {W : World} {b0 e0 s n g : Nat} {u : Value} {xs : List Value} {k : Nat} {cs : List Value} (h : W.ownsRow b0 e0 s u n xs) (hg : g < b0) : (setL W g k cs).ownsRow b0 e0 s u n xs := by
  obtain ⟨h1, h2⟩ := h
  refine ⟨h1, ?_⟩
  rcases h2 with h2 | ⟨g', cap, cur, hv, hb, hh, r⟩
  · exact .inl h2
  · refine .inr ⟨g', cap, cur, hv, hb, ?_, r⟩
    rw [setL_far (by omega)]
    exact hh

end Go.Proofs.YthnodpdiocppgaaGreatDoor
namespace Go.Proofs.YthnodpdiocppgaaGreatDoor
set_option maxRecDepth 20000
open Go Go.RowKit

/-- values, laid into their temporaries -/
def putF (f : Nat → Value) : Nat → List (Option Nat) → Act → Act
  | _, [], a => a
  | k, d :: r, a => putF f (k + 1) r (a.put d (f k))
def updF (f : Nat → Value) (i : Nat) (v : Value) : Nat → Value := fun j => if j = i then v else f j

theorem put_put (a : Act) (d : Nat) (u v : Value) : (a.put (some d) u).put (some d) v = a.put (some d) v := by
  simp [Act.put]
theorem putF_far {f : Nat → Value} {y : Option Nat} {u : Value} : ∀ (D : List (Option Nat)) (k : Nat) (a : Act), (∀ d ∈ D, d ≠ y) → (putF f k D a).put y u = putF f k D (a.put y u)
  | [], _, _, _ => rfl
  | d :: r, k, a, h => by
    show (putF f (k + 1) r (a.put d (f k))).put y u = putF f (k + 1) r ((a.put y u).put d (f k))
    rw [putF_far r (k + 1) _ (fun d' hd' => h d' (List.mem_cons_of_mem _ hd')), Act.put_comm a (f k) u (fun x hx hy => h d List.mem_cons_self (by rw [hx, hy]))]
theorem putF_congr {f g : Nat → Value} : ∀ (D : List (Option Nat)) (k : Nat) (a : Act), (∀ j, k ≤ j → f j = g j) → putF f k D a = putF g k D a
  | [], _, _, _ => rfl
  | d :: r, k, a, h => by
    show putF f (k + 1) r (a.put d (f k)) = putF g (k + 1) r (a.put d (g k))
    rw [h k (Nat.le_refl _), putF_congr r (k + 1) _ (fun j hj => h j (by omega))]
theorem putF_upd {f : Nat → Value} {i d : Nat} {v : Value} : ∀ (D : List (Option Nat)) (k : Nat) (a : Act), k ≤ i → D[i - k]? = some (some d) → D.Pairwise (· ≠ ·) → (putF f k D a).put (some d) v = putF (updF f i v) k D a
  | [], _, _, _, h, _ => by simp at h
  | d0 :: r, k, a, hk, h, hp => by
    obtain ⟨hp1, hp2⟩ := List.pairwise_cons.1 hp
    show (putF f (k + 1) r (a.put d0 (f k))).put (some d) v = putF (updF f i v) (k + 1) r (a.put d0 (updF f i v k))
    by_cases hik : i = k
    · subst hik
      rw [Nat.sub_self] at h
      obtain rfl : d0 = some d := by simpa using h
      rw [putF_far r (i + 1) _ (fun d' hd' e => hp1 d' hd' e.symm), put_put]
      have e : updF f i v i = v := by simp [updF]
      rw [e]
      exact putF_congr r (i + 1) _ (fun j hj => by unfold updF; rw [if_neg (by omega)])
    · have e : updF f i v k = f k := by unfold updF; rw [if_neg (by omega)]
      rw [e]
      refine putF_upd r (k + 1) _ (by omega) ?_ hp2
      rw [show i - k = (i - (k + 1)) + 1 by omega] at h
      simpa using h

/-- how many are left -/
def leftN (l : Array Bool) (n : Nat) : Nat := (List.range n).countP fun j => !l.getD j false
theorem left_set_ge {l : Array Bool} {i : Nat} : ∀ n, n ≤ i → leftN (l.setIfInBounds i true) n = leftN l n := by
  intro n hn
  unfold leftN
  apply List.countP_congr
  intro j hj
  rw [getD_set_ne false (by have := List.mem_range.1 hj; omega)]
theorem left_set {l : Array Bool} {i : Nat} (hun : l.getD i false = false) (hlt : i < l.size) : ∀ n, i < n → leftN (l.setIfInBounds i true) n + 1 = leftN l n := by
  intro n
  induction n with
  | zero => intro h; omega
  | succ n ih =>
    intro h
    unfold leftN at *
    rw [List.range_succ, List.countP_append, List.countP_append]
    by_cases hin : i = n
    · subst hin
      have h1 := left_set_ge (l := l) i (Nat.le_refl i)
      unfold leftN at h1
      have h2 : (l.setIfInBounds i true).getD i false = true := by simp [hlt]
      rw [h1, List.countP_cons, List.countP_cons, h2, hun]
      simp
    · have h1 := ih (by omega)
      rw [List.countP_cons, List.countP_cons, getD_set_ne false hin]
      simp only [List.countP_nil]
      omega
theorem left_zero {l : Array Bool} : ∀ n, leftN l n = 0 → ∀ j, j < n → l.getD j false = true := by
  intro n h j hj
  unfold leftN at h
  rw [List.countP_eq_zero] at h
  have := h j (List.mem_range.2 hj)
  simpa using this

section
variable {P : Program} {md : Region.Mode} {ops : Array Oper} {Q : Exit → Act → World → Prop}

/-- operation i waits, by way of others, for operation j -/
def waitsB (md : Region.Mode) (ops : Array Oper) (k i j : Nat) : Bool := match ops[i]? with
  | some o => (reachN md ops k ((o.after.toList.filter (Region.binds md)).map (·.on))).contains j
  | none => false
theorem waits_listed {k i j : Nat} {l : Array Bool} (hc : ClosedL md ops l) (hi : i ∈ Region.ready md ops l) (h : waitsB md ops k i j = true) : l.getD j false = true := by
  obtain ⟨_, o, ho, hall⟩ := mem_ready.1 hi
  unfold waitsB at h
  simp only [ho] at h
  exact reachN_listed hc k _ (fun x hx => by
    obtain ⟨e, he, rfl⟩ := List.mem_map.1 hx
    obtain ⟨he1, he2⟩ := List.mem_filter.1 he
    exact hall e (Array.mem_toList_iff.1 he1) he2) j (by simpa using h)
/-- each waits for earlier ones alone -/
def earlyB (md : Region.Mode) (ops : Array Oper) : Bool := (List.range ops.size).all fun i => match ops[i]? with
  | some o => o.after.all fun e => !Region.binds md e || decide (e.on < i)
  | none => true
theorem early_of_B (h : earlyB md ops = true) {i : Nat} {o : Oper} (ho : ops[i]? = some o) : ∀ e ∈ o.after, Region.binds md e = true → e.on < i := by
  intro e he hb
  have hlt : i < ops.size := (Array.getElem?_eq_some_iff.1 ho).1
  have h1 := List.all_eq_true.1 h i (List.mem_range.2 hlt)
  simp only [ho] at h1
  have h2 := Array.all_eq_true_iff_forall_mem.1 h1 e he
  rw [hb] at h2
  simpa using h2
/-- one that has not come up: then one may come up -/
theorem ready_some (he : earlyB md ops = true) {l : Array Bool} (hl : l.size = ops.size) : ∀ i, i < ops.size → l.getD i false = false → Region.ready md ops l ≠ [] := by
  intro i
  induction i using Nat.strongRecOn with
  | ind i ih =>
    intro hi hun hr
    obtain ⟨o, ho⟩ : ∃ o, ops[i]? = some o := ⟨_, Array.getElem?_eq_getElem hi⟩
    by_cases hall : ∀ e ∈ o.after, Region.binds md e = true → l.getD e.on false = true
    · have hm : i ∈ Region.ready md ops l := mem_ready.2 ⟨by
        have hlt : i < l.size := by omega
        simp [hlt] at hun ⊢
        exact hun, o, ho, hall⟩
      rw [hr] at hm
      cases hm
    · obtain ⟨e, hn⟩ := Classical.not_forall.1 hall
      obtain ⟨he1, hn⟩ := Classical.not_imp.1 hn
      obtain ⟨hb, hn⟩ := Classical.not_imp.1 hn
      have := early_of_B he ho e he1 hb
      exact ih e.on this (by omega) (by simpa using hn) hr

variable {S : World → Prop} {F : Nat → World → Value → Prop} {G : Nat → Nat → Value → Value → Prop} {n k : Nat} {D : List (Option Nat)} {a0 : Act}

/-- each of the first n operations has a temporary of its own, as D lists them -/
def dstB (ops : Array Oper) (D : List (Option Nat)) (n : Nat) : Bool := (List.range n).all fun i => match ops[i]?, D[i]? with
  | some o, some (some d) => decide (o.dst = some d)
  | _, _ => false
theorem dst_of_B (h : dstB ops D n = true) {i : Nat} (hi : i < n) {o : Oper} (ho : ops[i]? = some o) : ∃ d, o.dst = some d ∧ D[i]? = some (some d) := by
  have h1 := List.all_eq_true.1 h i (List.mem_range.2 hi)
  simp only [ho] at h1
  split at h1
  · rename_i o' d h2 h3
    obtain rfl : o = o' := Option.some.inj h2
    exact ⟨d, of_decide_eq_true h1, h3⟩
  · cases h1

/-- what is known while some have come up (L): each one's fact, and of each two -/
structure Known (S : World → Prop) (F : Nat → World → Value → Prop) (G : Nat → Nat → Value → Value → Prop) (L : Nat → Prop) (f : Nat → Value) (w : World) : Prop where
  hs : S w
  hf : ∀ j, L j → F j w (f j)
  hg : ∀ x y, L x → L y → x ≠ y → G x y (f x) (f y)

/-- what is to be shown of each of the first n operations -/
def StepF (P : Program) (md : Region.Mode) (ops : Array Oper) (Q : Exit → Act → World → Prop) (S : World → Prop) (F : Nat → World → Value → Prop) (G : Nat → Nat → Value → Value → Prop) (k : Nat) (D : List (Option Nat)) (a0 : Act) (i : Nat) : Prop :=
  ∀ (L : Nat → Prop) (f : Nat → Value) (w : World), Known S F G L f w → (∀ j, waitsB md ops k i j = true → L j) →
    wpOp P ops Q i (fun a' w' => ∃ v, (∀ o, ops[i]? = some o → a' = (putF f 0 D a0).put o.dst v) ∧ Grow w w' ∧ S w' ∧ F i w' v ∧ ∀ j, L j → j ≠ i → G i j v (f j)) (putF f 0 D a0) w

theorem wpAny_facts (hd : dstB ops D n = true) (hnd : D.Pairwise (· ≠ ·)) (he : earlyB md ops = true)
    (hst : ∀ i w w' v, Grow w w' → F i w v → F i w' v) (hsym : ∀ i j v u, G i j v u → G j i u v) (hstep : ∀ i, i < n → StepF P md ops Q S F G k D a0 i)
    (hlate : ∀ (l : Array Bool) (f : Nat → Value) (w : World) (m i : Nat), l.size = ops.size → ClosedL md ops l → (∀ j, l.getD j false = true → j < n) → Known S F G (fun j => l.getD j false = true) f w → leftN l ops.size = m + 1 → i ∈ Region.ready md ops l → ¬ i < n → wpOp P ops Q i (wpAny P md ops Q m (l.setIfInBounds i true)) (putF f 0 D a0) w)
    (hend : ∀ (f : Nat → Value) (w : World), ops.size ≤ n → Known S F G (fun j => j < ops.size) f w → Q .normal (putF f 0 D a0) w) :
    ∀ (m : Nat) (l : Array Bool) (f : Nat → Value) (w : World), leftN l ops.size = m → l.size = ops.size → ClosedL md ops l → (∀ j, l.getD j false = true → j < n) → Known S F G (fun j => l.getD j false = true) f w →
      wpAny P md ops Q m l (putF f 0 D a0) w := by
  intro m
  induction m with
  | zero =>
    intro l f w hm hl hc hn hk
    have hall := left_zero ops.size hm
    have hready : Region.ready md ops l = [] := by
      apply List.eq_nil_iff_forall_not_mem.2
      intro i hi
      obtain ⟨h0, o, ho, _⟩ := mem_ready.1 hi
      have hlt : i < ops.size := (Array.getElem?_eq_some_iff.1 ho).1
      have h1 := hall i hlt
      simp [show i < l.size by omega] at h0 h1
      rw [h0] at h1
      cases h1
    refine ⟨hready, hend f w ?_ ⟨hk.hs, fun j hj => hk.hf j (hall j hj), fun x y hx hy => hk.hg x y (hall x hx) (hall y hy)⟩⟩
    rcases Nat.lt_or_ge n ops.size with h | h
    · exact absurd (hn n (hall n h)) (Nat.lt_irrefl _)
    · exact h
  | succ m ih =>
    intro l f w hm hl hc hn hk
    have hex : ∃ i0, i0 < ops.size ∧ l.getD i0 false = false := by
      have : leftN l ops.size ≠ 0 := by omega
      unfold leftN at this
      rw [← Nat.pos_iff_ne_zero, List.countP_pos_iff] at this
      obtain ⟨j, hj, hb⟩ := this
      exact ⟨j, List.mem_range.1 hj, by simpa using hb⟩
    obtain ⟨i0, hi0, hun0⟩ := hex
    refine ⟨fun hr => absurd hr (ready_some he hl i0 hi0 hun0), fun i hi => ?_⟩
    by_cases hin : i < n
    · obtain ⟨h0, o, ho, _⟩ := mem_ready.1 hi
      have hlo : i < ops.size := (Array.getElem?_eq_some_iff.1 ho).1
      have hlt : i < l.size := by omega
      have hun : l.getD i false = false := by simp [hlt] at h0 ⊢; exact h0
      obtain ⟨d, hd1, hd2⟩ := dst_of_B hd hin ho
      refine wpOp_mono (fun a' w' ⟨v, ha, hgr, hs', hF, hGv⟩ => ?_) (hstep i hin _ f w hk (fun j hj => waits_listed hc hi hj))
      rw [ha o ho, hd1, putF_upd D 0 a0 (Nat.zero_le _) (by simpa using hd2) hnd]
      have up : ∀ z, z ≠ i → updF f i v z = f z := fun z hz => by unfold updF; rw [if_neg hz]
      have ui : updF f i v i = v := by simp [updF]
      have was : ∀ z, (l.setIfInBounds i true).getD z false = true → z ≠ i → l.getD z false = true := fun z hz hzi => by
        rw [getD_set_ne false (fun e => hzi e.symm)] at hz
        exact hz
      refine ih _ (updF f i v) w' (by have := left_set hun hlt ops.size hlo; omega) (by simpa using hl) (closed_set hc hi) (fun j hj => ?_) ⟨hs', fun j hj => ?_, fun x y hx hy hxy => ?_⟩
      · by_cases hji : j = i
        · subst hji; exact hin
        · exact hn j (was j hj hji)
      · by_cases hji : j = i
        · subst hji
          rw [ui]
          exact hF
        · rw [up j hji]
          exact hst j w w' _ hgr (hk.hf j (was j hj hji))
      · by_cases h1 : x = i
        · subst h1
          have h2 : y ≠ x := fun e => hxy e.symm
          rw [ui, up y h2]
          exact hGv y (was y hy h2) h2
        · by_cases h2 : y = i
          · subst h2
            rw [ui, up x h1]
            exact hsym _ _ _ _ (hGv x (was x hx h1) h1)
          · rw [up x h1, up y h2]
            exact hk.hg x y (was x hx h1) (was y hy h2) hxy
    · exact hlate l f w m i hl hc hn hk hm hi hin

theorem left_all (m : Nat) : leftN (Array.replicate m false) m = m := by
  unfold leftN
  have : (List.range m).countP (fun j => !(Array.replicate m false).getD j false) = (List.range m).length := by
    rw [List.countP_eq_length]
    intro j hj
    have := List.mem_range.1 hj
    simp [this]
  rw [this, List.length_range]

/-- THE LAW. n: the operations that lay facts; k: how many steps 'waits for' is followed; D: their temporaries. Whatever comes behind (hlate: a store, say) is met with all that is known then. -/
theorem wp_region_facts {id : Nat} {w : World} (n k : Nat) (S : World → Prop) (F : Nat → World → Value → Prop) (G : Nat → Nat → Value → Value → Prop) (D : List (Option Nat)) (f0 : Nat → Value) (hm : P.follows .mixedOrders = true) (hd : dstB ops D n = true) (hnd : D.Pairwise (· ≠ ·)) (he : earlyB .any ops = true)
    (h0 : putF f0 0 D a0 = a0) (hs : S w.drew) (hst : ∀ i w w' v, Grow w w' → F i w v → F i w' v) (hsym : ∀ i j v u, G i j v u → G j i u v) (hstep : ∀ i, i < n → StepF P .any ops Q S F G k D a0 i)
    (hlate : ∀ (l : Array Bool) (f : Nat → Value) (w : World) (m i : Nat), l.size = ops.size → ClosedL .any ops l → (∀ j, l.getD j false = true → j < n) → Known S F G (fun j => l.getD j false = true) f w → leftN l ops.size = m + 1 → i ∈ Region.ready .any ops l → ¬ i < n → wpOp P ops Q i (wpAny P .any ops Q m (l.setIfInBounds i true)) (putF f 0 D a0) w)
    (hend : ∀ (f : Nat → Value) (w : World), ops.size ≤ n → Known S F G (fun j => j < ops.size) f w → Q .normal (putF f 0 D a0) w) : (Code.region id ops true).wp P Q a0 w := by
  refine wp_region_any hm ?_
  have no : ∀ j, (Array.replicate ops.size false).getD j false = true → False := fun j hj => by
    by_cases hlt : j < ops.size
    · simp [hlt] at hj
    · simp [hlt] at hj
  have h1 := wpAny_facts hd hnd he hst hsym hstep hlate hend ops.size (Array.replicate ops.size false) f0 w.drew (left_all ops.size) (by simp) (fun j _ _ hj => (no j hj).elim) (fun j hj => (no j hj).elim) ⟨hs, fun j hj => (no j hj).elim, fun x _ hx => (no x hx).elim⟩
  rw [h0] at h1
  exact h1

/-- one operation: it is wanted, and leaves its value -/
theorem stepF_of {i : Nat} {o : Oper} {rest : List Oper} (ho : ops.toList.drop i = o :: rest)
    (h : ∀ (L : Nat → Prop) (f : Nat → Value) (w : World), Known S F G L f w → (∀ j, waitsB md ops k i j = true → L j) → Region.wanted o (yielded ops (putF f 0 D a0).tmps) = true ∧
      ∀ K' : Act → World → Prop, Hid (∀ a' w' v, a' = (putF f 0 D a0).put o.dst v → Grow w w' → S w' → F i w' v → (∀ j, L j → j ≠ i → G i j v (f j)) → K' a' w') → o.wp P (putF f 0 D a0) w K' Q) : StepF P md ops Q S F G k D a0 i := by
  intro L f w hk hw
  obtain ⟨h1, h2⟩ := h L f w hk hw
  refine wpOp_step ho h1 fun K' hK' => h2 K' fun a' w' v ha hg hs' hF hG => hK' _ _ ⟨v, fun o' ho' => ?_, hg, hs', hF, hG⟩
  have := op_at (ops := ops) ho
  rw [ho'] at this
  cases this
  exact ha
/-- the region, and what it leaves, told apart from what follows -/
theorem region_out {id : Nat} {w : World} (D : List (Option Nat)) (R : (Nat → Value) → World → Prop) (h : (Code.region id ops true).wp P (fun e a w' => e = .normal ∧ ∃ f, a = putF f 0 D a0 ∧ R f w') a0 w) (hR : ∀ f w', R f w' → Q .normal (putF f 0 D a0) w') : (Code.region id ops true).wp P Q a0 w :=
  Code.wp_mono (fun e a w' ⟨he, f, ha, hr⟩ => by rw [he, ha]; exact hR f w' hr) h
/-- an array of bits, by its bits -/
theorem bits_eq {l r : Array Bool} (h : l.size = r.size) (hb : ∀ j, j < r.size → l.getD j false = r.getD j false) : l = r := by
  apply Array.ext h
  intro j h1 h2
  have := hb j h2
  simpa [h1, h2] using this
end

end Go.Proofs.YthnodpdiocppgaaGreatDoor
namespace Go.Proofs.YthnodpdiocppgaaGreatDoor
set_option maxRecDepth 20000
open Go Go.RowKit Go.Shelf

/-- this value -/
def kC (c : Value) : World → Value → Prop := fun _ v => v = c
/-- a new box -/
def kN (B : Nat) (o : Obj) : World → Value → Prop := fun w v => ∃ g, v = .pointer (some ⟨g, 0, none⟩) ∧ B ≤ g ∧ w.heap[g]? = some o
def tblF (t : List (World → Value → Prop)) : Nat → World → Value → Prop := fun i => t.getD i (fun _ _ => True)
def Grows (p : World → Value → Prop) : Prop := ∀ w w' v, Grow w w' → p w v → p w' v
theorem grows_C (c : Value) : Grows (kC c) := fun _ _ _ _ h => h
theorem grows_N (B : Nat) (o : Obj) : Grows (kN B o) := fun _ _ _ hg ⟨g, hv, hB, hb⟩ => ⟨g, hv, hB, hg.block hb⟩
theorem tblF_grow {t : List (World → Value → Prop)} (h : ∀ p ∈ t, Grows p) (i : Nat) (w w' : World) (v : Value) (hg : Grow w w') (hF : tblF t i w v) : tblF t i w' v := by
  unfold tblF at *
  rw [List.getD_eq_getElem?_getD] at *
  cases ht : t[i]? with
  | none => exact trivial
  | some p =>
    rw [ht] at hF
    exact h p (List.mem_of_getElem? ht) w w' v hg hF
/-- the block that a value lies in -/
def blkOf : Value → Option Nat
  | .slice (some a) _ _ => some a.block
  | .pointer (some a) => some a.block
  | _ => none
/-- new boxes lie apart -/
def newG (news : List Nat) (i j : Nat) (v u : Value) : Prop := (news.contains i && news.contains j) = true → blkOf v ≠ blkOf u
theorem newG_sym (news : List Nat) (i j : Nat) (v u : Value) (h : newG news i j v u) : newG news j i u v := fun hij e => h (by rw [Bool.and_comm]; exact hij) e.symm
theorem newG_none {news : List Nat} {i : Nat} {L : Nat → Prop} {v : Value} {f : Nat → Value} (h : news.contains i = false) : ∀ j, L j → j ≠ i → newG news i j v (f j) := fun _ _ _ hr => by rw [h] at hr; cases hr
theorem newG_fresh {S : World → Prop} {t : List (World → Value → Prop)} {news : List Nat} (hN : ∀ j ∈ news, ∃ B o, tblF t j = kN B o) {i : Nat} {L : Nat → Prop} {f : Nat → Value} {w : World} (hk : Known S (tblF t) (newG news) L f w) :
    ∀ j, L j → j ≠ i → newG news i j (.pointer (some ⟨w.heap.size, 0, none⟩)) (f j) := by
  intro j hj _ hr e
  rw [Bool.and_eq_true] at hr
  obtain ⟨B, o, ht⟩ := hN j (by simpa using hr.2)
  have h := hk.hf j hj
  rw [ht] at h
  obtain ⟨g, hv, _, hb⟩ := h
  rw [hv] at e
  have h1 : w.heap.size = g := by simpa [blkOf] using e
  have h2 := (Array.getElem?_eq_some_iff.1 hb).1
  omega
section
variable {P : Program} {ops : Array Oper} {Q : Exit → Act → World → Prop} {S : World → Prop} {t : List (World → Value → Prop)} {news : List Nat} {D : List (Option Nat)} {a0 : Act}

theorem late_bits {l L : Array Bool} {n N : Nat} (hl : l.size = N) (hL : L.size = N) (h1 : ∀ j, j < n → l.getD j false = true) (h2 : ∀ j, l.getD j false = true → j < n) (hb : ((List.range N).all fun j => L.getD j false == decide (j < n)) = true) : l = L := by
  refine bits_eq (by omega) fun j hj => ?_
  have h := List.all_eq_true.1 hb j (List.mem_range.2 (by omega))
  rw [beq_iff_eq] at h
  rw [h]
  by_cases hn : j < n
  · rw [h1 j hn, decide_eq_true hn]
  · rw [decide_eq_false hn]
    cases hq : l.getD j false
    · rfl
    · exact absurd (h2 j hq) hn
/-- THE LAW: n operations that lay facts, each walked once; then stores, one behind the other. L: what has come up when the first store does. -/
theorem wp_region_news {id : Nat} {w : World} (n k : Nat) (S : World → Prop) (t : List (World → Value → Prop)) (news : List Nat) (D : List (Option Nat)) (L : Array Bool) (f0 : Nat → Value) (hm : P.follows .mixedOrders = true) (hd : dstB ops D n = true) (hnd : D.Pairwise (· ≠ ·)) (he : earlyB .any ops = true)
    (h0 : putF f0 0 D a0 = a0) (hs : S w.drew) (hst : ∀ p ∈ t, Grows p) (hstep : ∀ i, i < n → StepF P .any ops Q S (tblF t) (newG news) k D a0 i)
    (hnN : n < ops.size) (hgate : ((List.range n).all fun j => waitsB .any ops k n j) = true) (hchain : ((List.range ops.size).all fun i => decide (i ≤ n) || waitsB .any ops 1 i n) = true)
    (hL : L.size = ops.size) (hLb : ((List.range ops.size).all fun j => L.getD j false == decide (j < n)) = true) (m : Nat) (hlm : leftN L ops.size = m + 1)
    (hlate : ∀ (f : Nat → Value) (w : World), Known S (tblF t) (newG news) (fun j => j < n) f w → wpOp P ops Q n (wpAny P .any ops Q m (L.setIfInBounds n true)) (putF f 0 D a0) w) : (Code.region id ops true).wp P Q a0 w := by
  refine wp_region_facts n k S (tblF t) (newG news) D f0 hm hd hnd he h0 hs (fun i w w' v hg hF => tblF_grow hst i w w' v hg hF) (newG_sym news) hstep ?_ (fun f w h _ => absurd h (by omega))
  intro l f w' m' i hl hc hn hk hm' hi hin
  have hlt : i < ops.size := by
    obtain ⟨_, o, ho, _⟩ := mem_ready.1 hi
    exact (Array.getElem?_eq_some_iff.1 ho).1
  have hin2 : i = n := by
    have h := List.all_eq_true.1 hchain i (List.mem_range.2 hlt)
    rcases Bool.or_eq_true _ _ ▸ h with h | h
    · have := of_decide_eq_true h
      omega
    · exact absurd (hn n (waits_listed hc hi h)) (Nat.lt_irrefl _)
  subst hin2
  have h1 : ∀ j, j < i → l.getD j false = true := fun j hj => waits_listed hc hi (List.all_eq_true.1 hgate j (List.mem_range.2 hj))
  obtain rfl := late_bits hl hL h1 hn hLb
  obtain rfl : m = m' := by omega
  exact hlate f w' ⟨hk.hs, fun j hj => hk.hf j (h1 j hj), fun x y hx hy => hk.hg x y (h1 x hx) (h1 y hy)⟩
end

end Go.Proofs.YthnodpdiocppgaaGreatDoor
