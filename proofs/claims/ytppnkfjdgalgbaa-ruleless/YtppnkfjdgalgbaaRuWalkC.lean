/-
  Walks: rule's rankOf, a rank's ahead.
-/
import Derived.Test.YtppnkfjdgalgbaaRuMatch
import Derived.Test.YtppnkfjdgalgbaaGrow
namespace Go.Proofs.Ytppnkfjdgalgbaa
open Go Go.RowKit Go.Shelf

attribute [local go_sem] gb_const

/-- a match, as a value: vh and vq are its lists -/
abbrev mV (m : MB) (vh vq : Value) : Value := .agg #[.int .i64 m.kind, .string m.val, .string m.meth, vh, vq]
/-- five numbers, as a value -/
abbrev fiveV (x : Ru.Five) : Value := .agg #[.int .i64 x.1, .int .i64 x.2.1, .int .i64 x.2.2.1, .int .i64 x.2.2.2.1, .int .i64 x.2.2.2.2]
def fiveAt (x : Ru.Five) : Nat → Int
  | 0 => x.1
  | 1 => x.2.1
  | 2 => x.2.2.1
  | 3 => x.2.2.2.1
  | _ => x.2.2.2.2
theorem lt5_at {x y : Ru.Five} {k : Nat} (hk : k < 5) (h : ∀ j, j < k → fiveAt x j = fiveAt y j) (hn : fiveAt x k ≠ fiveAt y k) : Ru.lt5 x y = decide (fiveAt x k < fiveAt y k) := by
  unfold Ru.lt5
  rw [decide_eq_decide]
  have h0 := h 0
  have h1 := h 1
  have h2 := h 2
  have h3 := h 3
  simp only [fiveAt] at h0 h1 h2 h3
  rcases (by omega : k = 0 ∨ k = 1 ∨ k = 2 ∨ k = 3 ∨ k = 4) with rfl | rfl | rfl | rfl | rfl <;> simp only [fiveAt] at hn ⊢ <;> omega
theorem lt5_same {x y : Ru.Five} (h : ∀ j, j < 5 → fiveAt x j = fiveAt y j) : Ru.lt5 x y = false := by
  unfold Ru.lt5
  rw [decide_eq_false_iff_not]
  have h0 := h 0
  have h1 := h 1
  have h2 := h 2
  have h3 := h 3
  have h4 := h 4
  simp only [fiveAt] at h0 h1 h2 h3 h4
  omega

theorem box5 {w W : World} {a b c d e : Value} {t : Nat} (h : Below (w.alloc (.cells #[a, b, c, d, e] t)).heap.size (w.alloc (.cells #[a, b, c, d, e] t)) W) :
    W.cell? ⟨w.heap.size, 0, none⟩ = some a ∧ W.cell? ⟨w.heap.size, 1, none⟩ = some b ∧ W.cell? ⟨w.heap.size, 2, none⟩ = some c ∧ W.cell? ⟨w.heap.size, 3, none⟩ = some d ∧ W.cell? ⟨w.heap.size, 4, none⟩ = some e := by
  simp only [World.cell?]
  rw [box_block h]
  exact ⟨rfl, rfl, rfl, rfl, rfl⟩
theorem box55 {w W : World} {a b c d e a' b' c' d' e' : Value} {t t' : Nat} (h : Below ((w.alloc (.cells #[a, b, c, d, e] t)).alloc (.cells #[a', b', c', d', e'] t')).heap.size ((w.alloc (.cells #[a, b, c, d, e] t)).alloc (.cells #[a', b', c', d', e'] t')) W) :
    (W.cell? ⟨w.heap.size, 0, none⟩ = some a ∧ W.cell? ⟨w.heap.size, 1, none⟩ = some b ∧ W.cell? ⟨w.heap.size, 2, none⟩ = some c ∧ W.cell? ⟨w.heap.size, 3, none⟩ = some d ∧ W.cell? ⟨w.heap.size, 4, none⟩ = some e) ∧
    (W.cell? ⟨w.heap.size + 1, 0, none⟩ = some a' ∧ W.cell? ⟨w.heap.size + 1, 1, none⟩ = some b' ∧ W.cell? ⟨w.heap.size + 1, 2, none⟩ = some c' ∧ W.cell? ⟨w.heap.size + 1, 3, none⟩ = some d' ∧ W.cell? ⟨w.heap.size + 1, 4, none⟩ = some e') := by
  refine ⟨box5 (below_box h), ?_⟩
  have := box5 h
  simpa only [World.size_alloc] using this
theorem below_2 {w w1 : World} {o o2 : Obj} (h : Below ((w.alloc o).alloc o2).heap.size ((w.alloc o).alloc o2) w1) : Below w.heap.size w w1 :=
  (((Below.refl _ _).alloc (Nat.le_refl _) _).alloc (by simp) _).trans (h.mono (by simp; omega))

theorem neg_in {n : Nat} (h : n ≤ 1000000000) : wrap64 (-(n : Int)) = -(n : Int) := IntWalk.wrap64_in _ (by omega)
theorem empty_size {t : ByteArray} : t.toList.isEmpty = (t.size == 0) := by
  rw [Lib.toList_data]
  have : t.size = t.data.toList.length := rfl
  rw [this]
  cases t.data.toList <;> rfl

set_option maxHeartbeats 800000 in
theorem rankOf_any (m : MB) (vh vq : Value) (w : World) (hh : Prs w vh m.head) (hq : Prs w vq m.query) (h1 : m.val.size ≤ 100) (h2 : m.head.length ≤ 100) (h3 : m.query.length ≤ 100) :
    Calls Try.prog 43 #[mV m vh vq] w fun e w' => e = .returned (fiveV (keyM m)) ∧ Below w.heap.size w w' := by
  obtain ⟨k, v, t, hd, qu⟩ := m
  obtain ⟨a, cap, rfl, _, _, hc⟩ := hh
  obtain ⟨a2, cap2, rfl, _, _, hc2⟩ := hq
  clear hc hc2
  dsimp only at *
  have z1 : wrap64 (-(v.size : Int)) = -(v.size : Int) := neg_in (by omega)
  have z2 : wrap64 (-(hd.length : Int)) = -(hd.length : Int) := neg_in (by omega)
  have z3 : wrap64 (-(qu.length : Int)) = -(qu.length : Int) := neg_in (by omega)
  have HB : Hid (∀ o1 o2 : Obj, Below w.heap.size w ((w.alloc o1).alloc o2)) := fun o1 o2 => ((Below.refl _ _).alloc (Nat.le_refl _) _).alloc (by simp) _
  cases he : t.toList.isEmpty
  · have HK : Hid (keyM ⟨k, v, t, hd, qu⟩ = (k, -(v.size : Int), 0, -(hd.length : Int), -(qu.length : Int))) := by
      unfold Hid keyM
      rw [empty_size] at he
      have : ¬ t.size = 0 := by simpa using he
      simp only [if_neg this]
    rw [HK.out]
    go_enter Try.func43, Try.ntmps43
    go_wp2_with fail
    exact bodyPost_ret (v := fiveV (k, -(v.size : Int), 0, -(hd.length : Int), -(qu.length : Int))) (by simp [results, Try.results43, go_sem]) rfl ⟨rfl, HB.out _ _⟩
  · have HK : Hid (keyM ⟨k, v, t, hd, qu⟩ = (k, -(v.size : Int), 1, -(hd.length : Int), -(qu.length : Int))) := by
      unfold Hid keyM
      rw [empty_size] at he
      have : t.size = 0 := by simpa using he
      simp only [if_pos this]
    rw [HK.out]
    go_enter Try.func43, Try.ntmps43
    go_wp2_with fail
    exact bodyPost_ret (v := fiveV (k, -(v.size : Int), 1, -(hd.length : Int), -(qu.length : Int))) (by simp [results, Try.results43, go_sem]) rfl ⟨rfl, HB.out _ _⟩

set_option maxHeartbeats 1600000 in
theorem rankAhead_any (x y : Ru.Five) (w : World) :
    Calls Try.prog 44 #[fiveV x, fiveV y] w fun e w' => e = .returned (.bool (Ru.lt5 x y)) ∧ Below w.heap.size w w' := by
  go_enter Try.func44, Try.ntmps44
  go_wp2_with fail
  go_loopw [6] (fun i wr => ∃ k : Nat, k ≤ 5 ∧ i = .int .i64 k ∧ Hid (∀ j, j < k → fiveAt x j = fiveAt y j) ∧ Below ((w.alloc (.cells #[.int .i64 x.1, .int .i64 x.2.1, .int .i64 x.2.2.1, .int .i64 x.2.2.2.1, .int .i64 x.2.2.2.2] 59)).alloc (.cells #[.int .i64 y.1, .int .i64 y.2.1, .int .i64 y.2.2.1, .int .i64 y.2.2.2.1, .int .i64 y.2.2.2.2] 59)).heap.size ((w.alloc (.cells #[.int .i64 x.1, .int .i64 x.2.1, .int .i64 x.2.2.1, .int .i64 x.2.2.2.1, .int .i64 x.2.2.2.2] 59)).alloc (.cells #[.int .i64 y.1, .int .i64 y.2.1, .int .i64 y.2.2.1, .int .i64 y.2.2.2.1, .int .i64 y.2.2.2.2] 59)) wr) (fun i _ => 5 - (intOf i).toNat)
  case atStart => exact ⟨0, by omega, rfl, fun _ h => absurd h (by omega), Below.refl _ _⟩
  case round =>
    obtain ⟨k, hk, rfl, hsm, hB⟩ := hrel
    have hW := below_2 hB
    by_cases hlt : k < 5
    · have hlt' : (k : Int) < 5 := by omega
      have hcx : ∀ q : GB wr, q.W.cell? ⟨w.heap.size, k, none⟩ = some (.int .i64 (fiveAt x k)) := fun q => by
        obtain ⟨⟨c0, c1, c2, c3, c4⟩, _⟩ := box55 (hB.trans (q.h.mono hB.size))
        rcases (by omega : k = 0 ∨ k = 1 ∨ k = 2 ∨ k = 3 ∨ k = 4) with rfl | rfl | rfl | rfl | rfl <;> assumption
      have hcy : ∀ q : GB wr, q.W.cell? ⟨w.heap.size + 1, k, none⟩ = some (.int .i64 (fiveAt y k)) := fun q => by
        obtain ⟨_, ⟨c0, c1, c2, c3, c4⟩⟩ := box55 (hB.trans (q.h.mono hB.size))
        rcases (by omega : k = 0 ∨ k = 1 ∨ k = 2 ∨ k = 3 ∨ k = 4) with rfl | rfl | rfl | rfl | rfl <;> assumption
      have HLT := hide (lt5_at hlt hsm.out)
      have HNX : Hid (fiveAt x k = fiveAt y k → ∀ j, j < k + 1 → fiveAt x j = fiveAt y j) := fun h j hj => by
        rcases Nat.lt_or_ge j k with h1 | h1
        · exact hsm.out j h1
        · obtain rfl : j = k := by omega
          exact h
      generalize fiveAt x k = X at *
      generalize fiveAt y k = Y at *
      cases hxy : (X != Y)
      · have HN := hide (HNX.out (by simpa using hxy))
        clear HNX HLT
        go_wp2_with fail
        refine wp_region_below (by kernel_rfl) (by kernel_rfl) ?_
        repeat (first | go_big_quiet_step (fail) | quiet_step (fail))
        refine wpQuiet_nil ?_
        intro _ hw'
        obtain ⟨qq, hw2⟩ := hw'
        subst hw2
        have hq := hB.trans (qq.h.mono hB.size)
        go_wp2_with fail
        exact ⟨⟨k + 1, by omega, by go_num, HN.out, hq⟩, by simp [intOf]; omega⟩
      · have HL : Hid (decide (X < Y) = Ru.lt5 x y) := (HLT.out (by simpa using hxy)).symm
        clear HNX HLT
        go_wp2_with fail
        refine wp_region_below (by kernel_rfl) (by kernel_rfl) ?_
        repeat (first | go_big_quiet_step (fail) | quiet_step (fail))
        refine wpQuiet_nil ?_
        intro _ hw'
        obtain ⟨qq, hw2⟩ := hw'
        subst hw2
        have hq := bb2 hW qq.h
        replace hcx := fun q : GB qq.W => hcx ⟨q.W, bb2 qq.h q.h⟩
        replace hcy := fun q : GB qq.W => hcy ⟨q.W, bb2 qq.h q.h⟩
        dsimp only at hcx hcy
        go_wp2_with fail
        refine wp_region_below (by kernel_rfl) (by kernel_rfl) ?_
        repeat (first | go_big_quiet_step (fail) | quiet_step (fail))
        refine wpQuiet_nil ?_
        intro _ hw'
        obtain ⟨q3, hw3⟩ := hw'
        subst hw3
        have hq3 := bb2 hq q3.h
        go_wp2_with fail
        go_ret
        exact ⟨ret_bool HL.out, hq3⟩
    · have hlt' : ¬ (k : Int) < 5 := by omega
      obtain rfl : k = 5 := by omega
      have HE : Hid (false = Ru.lt5 x y) := (lt5_same hsm.out).symm
      go_wp2_with fail
      go_ret
      exact ⟨ret_bool HE.out, hW⟩

/-! ### a block of five cells -/
theorem cell5 {w : World} {n : Nat} {a b c d e : Value} {t : Nat} (h : w.heap[n]? = some (.cells #[a, b, c, d, e] t)) :
    w.cell? ⟨n, 0, none⟩ = some a ∧ w.cell? ⟨n, 1, none⟩ = some b ∧ w.cell? ⟨n, 2, none⟩ = some c ∧ w.cell? ⟨n, 3, none⟩ = some d ∧ w.cell? ⟨n, 4, none⟩ = some e := by
  simp only [World.cell?]
  rw [h]
  exact ⟨rfl, rfl, rfl, rfl, rfl⟩
theorem live5 {w : World} {n : Nat} {a b c d e : Value} {t : Nat} (h : w.heap[n]? = some (.cells #[a, b, c, d, e] t)) (i : Nat) : w.frozen? ⟨n, i, none⟩ = false := by
  simp only [World.frozen?]
  rw [h]
  rfl
theorem blk_lt5 {w : World} {n : Nat} {o : Obj} (h : w.heap[n]? = some o) : n < w.heap.size := (Array.getElem?_eq_some_iff.1 h).1
/-- it is written anew -/
def set5 (W : World) (n : Nat) (a b c d e : Value) : World := ((((W.setCell ⟨n, 0, none⟩ a).setCell ⟨n, 1, none⟩ b).setCell ⟨n, 2, none⟩ c).setCell ⟨n, 3, none⟩ d).setCell ⟨n, 4, none⟩ e
theorem set5_at {W : World} {n : Nat} {a b c d e a' b' c' d' e' : Value} {t : Nat} (h : W.heap[n]? = some (.cells #[a, b, c, d, e] t)) : (set5 W n a' b' c' d' e').heap[n]? = some (.cells #[a', b', c', d', e'] t) := by
  simp [set5, World.setCell, Array.getElem?_modify, h]
theorem set5_far {W : World} {n m : Nat} {a b c d e : Value} (h : m ≠ n) : (set5 W n a b c d e).heap[m]? = W.heap[m]? := by
  unfold set5
  rw [set_far h, set_far h, set_far h, set_far h, set_far h]
theorem set5_below {w W : World} {B n : Nat} {a b c d e : Value} (h : Below B w W) (hn : B ≤ n) : Below B w (set5 W n a b c d e) :=
  ((((h.setCell (p := ⟨n, 0, none⟩) hn _).setCell (p := ⟨n, 1, none⟩) hn _).setCell (p := ⟨n, 2, none⟩) hn _).setCell (p := ⟨n, 3, none⟩) hn _).setCell (p := ⟨n, 4, none⟩) hn _
theorem two_laid' {W1 W2 W3 : World} {o : Obj} (h2 : Grow (W1.alloc o) W2) (h3 : Grow (W2.alloc o) W3) : W3.heap[W1.heap.size]? = some o ∧ W3.heap[W2.heap.size]? = some o ∧ W1.heap.size < W2.heap.size := by
  have hs := Below.size h2
  simp at hs
  refine ⟨?_, ?_, by omega⟩
  · exact h3.block (((Below.refl _ W2).alloc (Nat.le_refl _) o |> fun h => Grow.block h) (h2.block (alloc_new W1 o)))
  · exact h3.block (alloc_new W2 o)

theorem eqRank (a0 a1 a2 a3 a4 b0 b1 b2 b3 b4 : Int) (w : World) : (Op.equalIn 10000 59 (.agg #[.int .i64 a0, .int .i64 a1, .int .i64 a2, .int .i64 a3, .int .i64 a4]) (.agg #[.int .i64 b0, .int .i64 b1, .int .i64 b2, .int .i64 b3, .int .i64 b4])).run Try.prog w = .ok (decide (a0 = b0 ∧ a1 = b1 ∧ a2 = b2 ∧ a3 = b3 ∧ a4 = b4)) w := by
  have u3 := Try.underlying3
  have i3 := Try.isAgg3
  have z3 := Try.sizeOf3
  rw [show (10000 : Nat) = 9999 + 1 from rfl, Op.equalIn]
  simp only [Sem.run_bind, run_underlying Try.underlying59, Result.andThen_ok]
  simp only [Std.Legacy.Range.forIn_eq_forIn_range', Std.Legacy.Range.size, Nat.sub_zero, Nat.add_sub_cancel, Nat.div_one, List.range'_succ, List.range'_zero, List.forIn_cons, List.forIn_nil]
  go_simp
  by_cases h0 : a0 = b0
  · by_cases h1 : a1 = b1
    · by_cases h2 : a2 = b2
      · by_cases h3 : a3 = b3
        · by_cases h4 : a4 = b4 <;> simp [h0, h1, h2, h3, h4]
        · simp [h0, h1, h2, h3]
      · simp [h0, h1, h2]
    · simp [h0, h1]
  · simp [h0]

theorem ord_same {a b : MB} (h : keyM a = keyM b) : ordM a b = 0 := by
  have h1 : ahM a b = false := by unfold ahM; rw [h]; exact lt5_same (fun _ _ => rfl)
  have h2 : ahM b a = false := by unfold ahM; rw [h]; exact lt5_same (fun _ _ => rfl)
  show Ru.ord ahM a b = 0
  unfold Ru.ord
  rw [h1, h2]
  rfl
theorem ord_less {a b : MB} (h : Ru.lt5 (keyM a) (keyM b) = true) : ordM a b = -1 := by
  show Ru.ord ahM a b = -1
  unfold Ru.ord ahM
  rw [h]
  rfl
theorem ord_more {a b : MB} (h : Ru.lt5 (keyM a) (keyM b) = false) (hn : keyM a ≠ keyM b) : ordM a b = 1 := by
  have h2 : Ru.lt5 (keyM b) (keyM a) = true := by
    generalize keyM a = x at *
    generalize keyM b = y at *
    unfold Ru.lt5 at *
    rw [decide_eq_false_iff_not] at h
    rw [decide_eq_true_eq]
    obtain ⟨x0, x1, x2, x3, x4⟩ := x
    obtain ⟨y0, y1, y2, y3, y4⟩ := y
    simp only [ne_eq, Prod.mk.injEq, not_and] at *
    by_cases e0 : x0 = y0
    · by_cases e1 : x1 = y1
      · by_cases e2 : x2 = y2
        · by_cases e3 : x3 = y3
          · have := hn e0 e1 e2 e3
            omega
          · omega
        · omega
      · omega
    · omega
  show Ru.ord ahM a b = 1
  unfold Ru.ord ahM
  rw [h, h2]
  rfl

set_option maxHeartbeats 1600000 in
theorem rorder_m (a b : MB) (va vb vc vd : Value) (w : World) (ha1 : Prs w va a.head) (ha2 : Prs w vb a.query) (hb1 : Prs w vc b.head) (hb2 : Prs w vd b.query) (sa : a.val.size ≤ 100 ∧ a.head.length ≤ 100 ∧ a.query.length ≤ 100) (sb : b.val.size ≤ 100 ∧ b.head.length ≤ 100 ∧ b.query.length ≤ 100) :
    Calls Try.prog 23 #[mV a va vb, mV b vc vd] w fun e w' => e = .returned (.int .i64 (ordM a b)) ∧ Below w.heap.size w w' := by
  have R1 := fun W (h : Below w.heap.size w W) => hide (rankOf_any a va vb W (ha1.below h) (ha2.below h) sa.1 sa.2.1 sa.2.2)
  have R2 := fun W (h : Below w.heap.size w W) => hide (rankOf_any b vc vd W (hb1.below h) (hb2.below h) sb.1 sb.2.1 sb.2.2)
  have HS : Hid (keyM a = keyM b → ordM a b = 0) := ord_same
  have HL : Hid (Ru.lt5 (keyM a) (keyM b) = true → ordM a b = -1) := ord_less
  have HM : Hid (Ru.lt5 (keyM a) (keyM b) = false → keyM a ≠ keyM b → ordM a b = 1) := ord_more
  clear ha1 ha2 hb1 hb2 sa sb
  generalize ordM a b = o at *
  generalize keyM a = x at *
  generalize keyM b = y at *
  obtain ⟨base, hbase⟩ : ∃ z, z = (w.alloc (.cells #[.int .i64 a.kind, .string a.val, .string a.meth, va, vb] 26)).alloc (.cells #[.int .i64 b.kind, .string b.val, .string b.meth, vc, vd] 26) := ⟨_, rfl⟩
  have HB := fun W (h : Below base.heap.size base W) => (box55 (by rw [← hbase]; exact h) :
    (W.cell? ⟨w.heap.size, 0, none⟩ = some (.int .i64 a.kind) ∧ W.cell? ⟨w.heap.size, 1, none⟩ = some (.string a.val) ∧ W.cell? ⟨w.heap.size, 2, none⟩ = some (.string a.meth) ∧ W.cell? ⟨w.heap.size, 3, none⟩ = some va ∧ W.cell? ⟨w.heap.size, 4, none⟩ = some vb) ∧
    (W.cell? ⟨w.heap.size + 1, 0, none⟩ = some (.int .i64 b.kind) ∧ W.cell? ⟨w.heap.size + 1, 1, none⟩ = some (.string b.val) ∧ W.cell? ⟨w.heap.size + 1, 2, none⟩ = some (.string b.meth) ∧ W.cell? ⟨w.heap.size + 1, 3, none⟩ = some vc ∧ W.cell? ⟨w.heap.size + 1, 4, none⟩ = some vd))
  have m0 := fun W h => (HB W h).1.1
  have m1 := fun W h => (HB W h).1.2.1
  have m2 := fun W h => (HB W h).1.2.2.1
  have m3 := fun W h => (HB W h).1.2.2.2.1
  have m4 := fun W h => (HB W h).1.2.2.2.2
  have n0 := fun W h => (HB W h).2.1
  have n1 := fun W h => (HB W h).2.2.1
  have n2 := fun W h => (HB W h).2.2.2.1
  have n3 := fun W h => (HB W h).2.2.2.2.1
  have n4 := fun W h => (HB W h).2.2.2.2.2
  have B0 : Below w.heap.size w base := by rw [hbase]; exact ((Below.refl _ _).alloc (Nat.le_refl _) _).alloc (by simp) _
  clear HB
  go_enter Try.func23, Try.ntmps23
  go_wp2_with fail
  rw [← hbase]
  clear hbase
  refine wp_region_G 6 (fun w' => Below base.heap.size base w') (by kernel_rfl) ((Below.refl _ _).drew) ?_
  refine wpG_take (i := 0) 4 (v := mV a va vb) rfl (by kernel_rfl) (by kernel_rfl) (by kernel_rfl) (by decide) (by kernel_rfl) (by kernel_rfl) (fun _ _ _ h => h) (Or.inl ⟨by rfl, fun w1 hS => ?_⟩) ?_
  · (try dsimp only at hS)
    go_simp
  simp only [Act.put, List.setIfInBounds_toArray, List.set_cons_zero, List.set_cons_succ]
  refine wpG_take (i := 1) 4 (v := fiveV x) rfl (by kernel_rfl) (by kernel_rfl) (by kernel_rfl) (by decide) (by kernel_rfl) (by kernel_rfl) (fun _ _ _ h => h) (Or.inl ⟨by rfl, fun w1 hS => ?_⟩) ?_
  · (try dsimp only at hS)
    go_simp
    exact calls_grow hS (Nat.le_refl _) (R1 _ (B0.trans (hS.mono B0.size))).out
  simp only [Act.put, List.setIfInBounds_toArray, List.set_cons_zero, List.set_cons_succ]
  refine wpG_take (i := 2) 4 (v := mV b vc vd) rfl (by kernel_rfl) (by kernel_rfl) (by kernel_rfl) (by decide) (by kernel_rfl) (by kernel_rfl) (fun _ _ _ h => h) (Or.inl ⟨by rfl, fun w1 hS => ?_⟩) ?_
  · (try dsimp only at hS)
    go_simp
  simp only [Act.put, List.setIfInBounds_toArray, List.set_cons_zero, List.set_cons_succ]
  refine wpG_take (i := 3) 4 (v := fiveV y) rfl (by kernel_rfl) (by kernel_rfl) (by kernel_rfl) (by decide) (by kernel_rfl) (by kernel_rfl) (fun _ _ _ h => h) (Or.inl ⟨by rfl, fun w1 hS => ?_⟩) ?_
  · (try dsimp only at hS)
    go_simp
    exact calls_grow hS (Nat.le_refl _) (R2 _ (B0.trans (hS.mono B0.size))).out
  simp only [Act.put, List.setIfInBounds_toArray, List.set_cons_zero, List.set_cons_succ]
  clear m0 m1 m2 m3 m4 n0 n1 n2 n3 n4 R1 R2
  refine wpG_ready (rs := [4, 5]) (by kernel_rfl) (by simp) (fun W1 hG1 hS1 i hi => ?_)
  have hi' : i = 4 ∨ i = 5 := by simpa using hi
  clear hi
  rcases hi' with rfl | rfl
  · refine wpOp_step rfl (by rfl) (fun K' hK' => ?_)
    go_simp
    refine hK' _ _ (wpG_kept (by decide) (hS1.alloc hS1.size _) ?_)
    clear hK' K'
    refine wpG_ready (rs := [5]) (by kernel_rfl) (by simp) (fun W2 hG2 hS2 i hi => ?_)
    obtain rfl : i = 5 := by simpa using hi
    clear hi
    refine wpOp_step rfl (by rfl) (fun K' hK' => ?_)
    go_simp
    refine hK' _ _ (wpG_kept (by decide) (hS2.alloc hS2.size _) ?_)
    clear hK' K'
    refine wpG_ready (rs := [6]) (by kernel_rfl) (by simp) (fun W3 hG3 hS3 i hi => ?_)
    obtain rfl : i = 6 := by simpa using hi
    clear hi
    obtain ⟨f1, f2, hlt⟩ := two_laid' hG2 hG3
    have n1 : w.heap.size ≤ W1.heap.size := Nat.le_trans B0.size hS1.size
    have n2 : w.heap.size ≤ W2.heap.size := Nat.le_trans B0.size hS2.size
    have BB := B0.trans (hS3.mono B0.size)
    clear hS1 hS2 hS3 hG1 hG2 hG3
    generalize W1.heap.size = g at *
    generalize W2.heap.size = h at *
    have hne : h ≠ g := by omega
    have hne' : g ≠ h := by omega
    have ng : w.heap.size ≤ g := by omega
    have nh : w.heap.size ≤ h := by omega
    have fg : W3.heap[g]? = some (.cells #[.int .i64 0, .int .i64 0, .int .i64 0, .int .i64 0, .int .i64 0] 59) := f1
    have fh : W3.heap[h]? = some (.cells #[.int .i64 0, .int .i64 0, .int .i64 0, .int .i64 0, .int .i64 0] 59) := f2
    clear f1 f2 hlt n1 n2
    have s1 := set5_at (a' := .int .i64 x.1) (b' := .int .i64 x.2.1) (c' := .int .i64 x.2.2.1) (d' := .int .i64 x.2.2.2.1) (e' := .int .i64 x.2.2.2.2) fg
    have s2 := (set5_far (a := .int .i64 x.1) (b := .int .i64 x.2.1) (c := .int .i64 x.2.2.1) (d := .int .i64 x.2.2.2.1) (e := .int .i64 x.2.2.2.2) hne).trans fh
    have B4 := set5_below (a := .int .i64 x.1) (b := .int .i64 x.2.1) (c := .int .i64 x.2.2.1) (d := .int .i64 x.2.2.2.1) (e := .int .i64 x.2.2.2.2) BB ng
    obtain ⟨e0, e1, e2, e3, e4⟩ := cell5 fg
    have l1 := live5 fg
    refine wpOp_step rfl (by rfl) (fun K' hK' => ?_)
    go_simp
    refine hK' _ _ (wpG_past (by decide) ?_)
    clear hK' K' e0 e1 e2 e3 e4 l1 fg fh
    change wpAny _ _ _ _ _ _ _ (set5 W3 g (.int .i64 x.1) (.int .i64 x.2.1) (.int .i64 x.2.2.1) (.int .i64 x.2.2.2.1) (.int .i64 x.2.2.2.2))
    generalize set5 W3 g (.int .i64 x.1) (.int .i64 x.2.1) (.int .i64 x.2.2.1) (.int .i64 x.2.2.2.1) (.int .i64 x.2.2.2.2) = W4 at *
    clear BB
    have t1 := (set5_far (a := .int .i64 y.1) (b := .int .i64 y.2.1) (c := .int .i64 y.2.2.1) (d := .int .i64 y.2.2.2.1) (e := .int .i64 y.2.2.2.2) hne').trans s1
    have t2 := set5_at (a' := .int .i64 y.1) (b' := .int .i64 y.2.1) (c' := .int .i64 y.2.2.1) (d' := .int .i64 y.2.2.2.1) (e' := .int .i64 y.2.2.2.2) s2
    have B5 := set5_below (a := .int .i64 y.1) (b := .int .i64 y.2.1) (c := .int .i64 y.2.2.1) (d := .int .i64 y.2.2.2.1) (e := .int .i64 y.2.2.2.2) B4 nh
    obtain ⟨e0, e1, e2, e3, e4⟩ := cell5 s2
    have l1 := live5 s2
    refine wpAny_one (i := 7) (by kernel_rfl) ?_
    refine wpOp_step rfl (by rfl) (fun K' hK' => ?_)
    go_simp
    refine hK' _ _ ?_
    refine wpAny_end (by kernel_rfl) ?_
    change Exit.then _ _ _ _ (set5 W4 h (.int .i64 y.1) (.int .i64 y.2.1) (.int .i64 y.2.2.1) (.int .i64 y.2.2.2.1) (.int .i64 y.2.2.2.2))
    clear hK' K' e0 e1 e2 e3 e4 l1 s1 s2 B4
    generalize set5 W4 h (.int .i64 y.1) (.int .i64 y.2.1) (.int .i64 y.2.2.1) (.int .i64 y.2.2.2.1) (.int .i64 y.2.2.2.2) = W5 at *
    obtain ⟨e0, e1, e2, e3, e4⟩ := cell5 t1
    obtain ⟨d0, d1, d2, d3, d4⟩ := cell5 t2
    have CA : Hid (Calls Try.prog 44 #[.agg #[.int .i64 x.1, .int .i64 x.2.1, .int .i64 x.2.2.1, .int .i64 x.2.2.2.1, .int .i64 x.2.2.2.2], .agg #[.int .i64 y.1, .int .i64 y.2.1, .int .i64 y.2.2.1, .int .i64 y.2.2.2.1, .int .i64 y.2.2.2.2]] W5 fun e w' => e = .returned (.bool (Ru.lt5 x y)) ∧ Below W5.heap.size W5 w') := rankAhead_any x y W5
    have HNE : Hid (x ≠ y ↔ ¬ (x.1 = y.1 ∧ x.2.1 = y.2.1 ∧ x.2.2.1 = y.2.2.1 ∧ x.2.2.2.1 = y.2.2.2.1 ∧ x.2.2.2.2 = y.2.2.2.2)) := by
      obtain ⟨x0, x1, x2, x3, x4⟩ := x
      obtain ⟨y0, y1, y2, y3, y4⟩ := y
      simp [Hid]
    generalize x.1 = x0 at *
    generalize x.2.1 = x1 at *
    generalize x.2.2.1 = x2 at *
    generalize x.2.2.2.1 = x3 at *
    generalize x.2.2.2.2 = x4 at *
    generalize y.1 = y0 at *
    generalize y.2.1 = y1 at *
    generalize y.2.2.1 = y2 at *
    generalize y.2.2.2.1 = y3 at *
    generalize y.2.2.2.2 = y4 at *
    have EQ := fun W => eqRank x0 x1 x2 x3 x4 y0 y1 y2 y3 y4 W
    by_cases hxy : x = y
    · have HO : Hid (0 = o) := (HS.out hxy).symm
      have hd : decide (x0 = y0 ∧ x1 = y1 ∧ x2 = y2 ∧ x3 = y3 ∧ x4 = y4) = true := decide_eq_true (Classical.not_not.1 fun h => HNE.out.2 h hxy)
      rw [hd] at EQ
      clear hd HNE hxy HS HL HM CA
      go_wp2_with fail
      go_ret
      exact ⟨ret_int HO.out, B5⟩
    · have HN := hide hxy
      have hd : decide (x0 = y0 ∧ x1 = y1 ∧ x2 = y2 ∧ x3 = y3 ∧ x4 = y4) = false := decide_eq_false (HNE.out.1 hxy)
      rw [hd] at EQ
      clear hd HNE HS hxy
      cases hl : Ru.lt5 x y
      · have HO : Hid (1 = o) := (HM.out hl HN.out).symm
        rw [hl] at CA
        clear hl HM HL HN
        go_wp2_with fail
        refine (CA.out).mono ?_
        rintro e w6 ⟨rfl, hb6⟩
        go_wp2_with fail
        go_ret
        exact ⟨ret_int HO.out, bb2 B5 hb6⟩
      · have HO : Hid (-1 = o) := (HL.out hl).symm
        rw [hl] at CA
        clear hl HM HL HN
        go_wp2_with fail
        refine (CA.out).mono ?_
        rintro e w6 ⟨rfl, hb6⟩
        go_wp2_with fail
        go_ret
        exact ⟨ret_int HO.out, bb2 B5 hb6⟩
  · refine wpOp_step rfl (by rfl) (fun K' hK' => ?_)
    go_simp
    refine hK' _ _ (wpG_kept (by decide) (hS1.alloc hS1.size _) ?_)
    clear hK' K'
    refine wpG_ready (rs := [4]) (by kernel_rfl) (by simp) (fun W2 hG2 hS2 i hi => ?_)
    obtain rfl : i = 4 := by simpa using hi
    clear hi
    refine wpOp_step rfl (by rfl) (fun K' hK' => ?_)
    go_simp
    refine hK' _ _ (wpG_kept (by decide) (hS2.alloc hS2.size _) ?_)
    clear hK' K'
    refine wpG_ready (rs := [6]) (by kernel_rfl) (by simp) (fun W3 hG3 hS3 i hi => ?_)
    obtain rfl : i = 6 := by simpa using hi
    clear hi
    obtain ⟨f1, f2, hlt⟩ := two_laid' hG2 hG3
    have n1 : w.heap.size ≤ W1.heap.size := Nat.le_trans B0.size hS1.size
    have n2 : w.heap.size ≤ W2.heap.size := Nat.le_trans B0.size hS2.size
    have BB := B0.trans (hS3.mono B0.size)
    clear hS1 hS2 hS3 hG1 hG2 hG3
    generalize W1.heap.size = h at *
    generalize W2.heap.size = g at *
    have hne : h ≠ g := by omega
    have hne' : g ≠ h := by omega
    have ng : w.heap.size ≤ g := by omega
    have nh : w.heap.size ≤ h := by omega
    have fg : W3.heap[g]? = some (.cells #[.int .i64 0, .int .i64 0, .int .i64 0, .int .i64 0, .int .i64 0] 59) := f2
    have fh : W3.heap[h]? = some (.cells #[.int .i64 0, .int .i64 0, .int .i64 0, .int .i64 0, .int .i64 0] 59) := f1
    clear f1 f2 hlt n1 n2
    have s1 := set5_at (a' := .int .i64 x.1) (b' := .int .i64 x.2.1) (c' := .int .i64 x.2.2.1) (d' := .int .i64 x.2.2.2.1) (e' := .int .i64 x.2.2.2.2) fg
    have s2 := (set5_far (a := .int .i64 x.1) (b := .int .i64 x.2.1) (c := .int .i64 x.2.2.1) (d := .int .i64 x.2.2.2.1) (e := .int .i64 x.2.2.2.2) hne).trans fh
    have B4 := set5_below (a := .int .i64 x.1) (b := .int .i64 x.2.1) (c := .int .i64 x.2.2.1) (d := .int .i64 x.2.2.2.1) (e := .int .i64 x.2.2.2.2) BB ng
    obtain ⟨e0, e1, e2, e3, e4⟩ := cell5 fg
    have l1 := live5 fg
    refine wpOp_step rfl (by rfl) (fun K' hK' => ?_)
    go_simp
    refine hK' _ _ (wpG_past (by decide) ?_)
    clear hK' K' e0 e1 e2 e3 e4 l1 fg fh
    change wpAny _ _ _ _ _ _ _ (set5 W3 g (.int .i64 x.1) (.int .i64 x.2.1) (.int .i64 x.2.2.1) (.int .i64 x.2.2.2.1) (.int .i64 x.2.2.2.2))
    generalize set5 W3 g (.int .i64 x.1) (.int .i64 x.2.1) (.int .i64 x.2.2.1) (.int .i64 x.2.2.2.1) (.int .i64 x.2.2.2.2) = W4 at *
    clear BB
    have t1 := (set5_far (a := .int .i64 y.1) (b := .int .i64 y.2.1) (c := .int .i64 y.2.2.1) (d := .int .i64 y.2.2.2.1) (e := .int .i64 y.2.2.2.2) hne').trans s1
    have t2 := set5_at (a' := .int .i64 y.1) (b' := .int .i64 y.2.1) (c' := .int .i64 y.2.2.1) (d' := .int .i64 y.2.2.2.1) (e' := .int .i64 y.2.2.2.2) s2
    have B5 := set5_below (a := .int .i64 y.1) (b := .int .i64 y.2.1) (c := .int .i64 y.2.2.1) (d := .int .i64 y.2.2.2.1) (e := .int .i64 y.2.2.2.2) B4 nh
    obtain ⟨e0, e1, e2, e3, e4⟩ := cell5 s2
    have l1 := live5 s2
    refine wpAny_one (i := 7) (by kernel_rfl) ?_
    refine wpOp_step rfl (by rfl) (fun K' hK' => ?_)
    go_simp
    refine hK' _ _ ?_
    refine wpAny_end (by kernel_rfl) ?_
    change Exit.then _ _ _ _ (set5 W4 h (.int .i64 y.1) (.int .i64 y.2.1) (.int .i64 y.2.2.1) (.int .i64 y.2.2.2.1) (.int .i64 y.2.2.2.2))
    clear hK' K' e0 e1 e2 e3 e4 l1 s1 s2 B4
    generalize set5 W4 h (.int .i64 y.1) (.int .i64 y.2.1) (.int .i64 y.2.2.1) (.int .i64 y.2.2.2.1) (.int .i64 y.2.2.2.2) = W5 at *
    obtain ⟨e0, e1, e2, e3, e4⟩ := cell5 t1
    obtain ⟨d0, d1, d2, d3, d4⟩ := cell5 t2
    have CA : Hid (Calls Try.prog 44 #[.agg #[.int .i64 x.1, .int .i64 x.2.1, .int .i64 x.2.2.1, .int .i64 x.2.2.2.1, .int .i64 x.2.2.2.2], .agg #[.int .i64 y.1, .int .i64 y.2.1, .int .i64 y.2.2.1, .int .i64 y.2.2.2.1, .int .i64 y.2.2.2.2]] W5 fun e w' => e = .returned (.bool (Ru.lt5 x y)) ∧ Below W5.heap.size W5 w') := rankAhead_any x y W5
    have HNE : Hid (x ≠ y ↔ ¬ (x.1 = y.1 ∧ x.2.1 = y.2.1 ∧ x.2.2.1 = y.2.2.1 ∧ x.2.2.2.1 = y.2.2.2.1 ∧ x.2.2.2.2 = y.2.2.2.2)) := by
      obtain ⟨x0, x1, x2, x3, x4⟩ := x
      obtain ⟨y0, y1, y2, y3, y4⟩ := y
      simp [Hid]
    generalize x.1 = x0 at *
    generalize x.2.1 = x1 at *
    generalize x.2.2.1 = x2 at *
    generalize x.2.2.2.1 = x3 at *
    generalize x.2.2.2.2 = x4 at *
    generalize y.1 = y0 at *
    generalize y.2.1 = y1 at *
    generalize y.2.2.1 = y2 at *
    generalize y.2.2.2.1 = y3 at *
    generalize y.2.2.2.2 = y4 at *
    have EQ := fun W => eqRank x0 x1 x2 x3 x4 y0 y1 y2 y3 y4 W
    by_cases hxy : x = y
    · have HO : Hid (0 = o) := (HS.out hxy).symm
      have hd : decide (x0 = y0 ∧ x1 = y1 ∧ x2 = y2 ∧ x3 = y3 ∧ x4 = y4) = true := decide_eq_true (Classical.not_not.1 fun h => HNE.out.2 h hxy)
      rw [hd] at EQ
      clear hd HNE hxy HS HL HM CA
      go_wp2_with fail
      go_ret
      exact ⟨ret_int HO.out, B5⟩
    · have HN := hide hxy
      have hd : decide (x0 = y0 ∧ x1 = y1 ∧ x2 = y2 ∧ x3 = y3 ∧ x4 = y4) = false := decide_eq_false (HNE.out.1 hxy)
      rw [hd] at EQ
      clear hd HNE HS hxy
      cases hl : Ru.lt5 x y
      · have HO : Hid (1 = o) := (HM.out hl HN.out).symm
        rw [hl] at CA
        clear hl HM HL HN
        go_wp2_with fail
        refine (CA.out).mono ?_
        rintro e w6 ⟨rfl, hb6⟩
        go_wp2_with fail
        go_ret
        exact ⟨ret_int HO.out, bb2 B5 hb6⟩
      · have HO : Hid (-1 = o) := (HL.out hl).symm
        rw [hl] at CA
        clear hl HM HL HN
        go_wp2_with fail
        refine (CA.out).mono ?_
        rintro e w6 ⟨rfl, hb6⟩
        go_wp2_with fail
        go_ret
        exact ⟨ret_int HO.out, bb2 B5 hb6⟩

theorem box5n {w W : World} {n : Nat} (hn : w.heap.size = n) {a b c d e : Value} {t : Nat} (h : Below (w.alloc (.cells #[a, b, c, d, e] t)).heap.size (w.alloc (.cells #[a, b, c, d, e] t)) W) :
    W.cell? ⟨n, 0, none⟩ = some a ∧ W.cell? ⟨n, 1, none⟩ = some b ∧ W.cell? ⟨n, 2, none⟩ = some c ∧ W.cell? ⟨n, 3, none⟩ = some d ∧ W.cell? ⟨n, 4, none⟩ = some e := by
  subst hn
  exact box5 h
theorem set5_size {W : World} {n : Nat} {a b c d e : Value} : (set5 W n a b c d e).heap.size = W.heap.size := by simp [set5, World.setCell]

end Go.Proofs.Ytppnkfjdgalgbaa
