/-
  The law PathBelow.
-/
import Derived.Test.YtiepbigibdjfoaaPaLawD
namespace Go.Proofs.Ytiepbigibdjfoaa
open Go Go.RowKit Go.Shelf Go.ChangeShapes Go.WideShapes

attribute [local go_sem] gb_const

theorem set_block0 {w : World} {n : Nat} {a b : Value} {t : Nat} (x : Value) (h : w.heap[n]? = some (.cells #[a, b] t)) : (w.setCell ⟨n, 0, none⟩ x).heap[n]? = some (.cells #[x, b] t) := by
  simp [World.setCell, Array.getElem?_modify, h]
theorem set_block1 {w : World} {n : Nat} {a b : Value} {t : Nat} (x : Value) (h : w.heap[n]? = some (.cells #[a, b] t)) : (w.setCell ⟨n, 1, none⟩ x).heap[n]? = some (.cells #[a, x] t) := by
  simp [World.setCell, Array.getElem?_modify, h]
theorem set_far {w : World} {n m i : Nat} {x : Value} (h : m ≠ n) : (w.setCell ⟨n, i, none⟩ x).heap[m]? = w.heap[m]? := Below.heap_setCell _ _ _ _ h
theorem block_fst {w : World} {n : Nat} {a b : Value} {t : Nat} (h : w.heap[n]? = some (.cells #[a, b] t)) : w.cell? ⟨n, 0, none⟩ = some a := by
  simp only [World.cell?]; rw [h]; rfl
theorem block_snd {w : World} {n : Nat} {a b : Value} {t : Nat} (h : w.heap[n]? = some (.cells #[a, b] t)) : w.cell? ⟨n, 1, none⟩ = some b := by
  simp only [World.cell?]; rw [h]; rfl
theorem block_live {w : World} {n i : Nat} {a b : Value} {t : Nat} (h : w.heap[n]? = some (.cells #[a, b] t)) : w.frozen? ⟨n, i, none⟩ = false := by
  simp [World.frozen?, h]

/-- two structs that were laid one behind the other, each written anew -/
def swW (q : World) (n : Nat) (a b c d : Value) : World := (((q.setCell ⟨n, 0, none⟩ a).setCell ⟨n, 1, none⟩ b).setCell ⟨n + 1, 0, none⟩ c).setCell ⟨n + 1, 1, none⟩ d
theorem swW_fst {q : World} {n : Nat} {a b a' b' c' d' : Value} {t : Nat} (h : q.heap[n]? = some (.cells #[a, b] t)) : (swW q n a' b' c' d').heap[n]? = some (.cells #[a', b'] t) := by
  unfold swW
  rw [set_far (by omega), set_far (by omega)]
  exact set_block1 _ (set_block0 _ h)
theorem swW_snd {q : World} {n : Nat} {a' b' c d c' d' : Value} {t : Nat} (h : q.heap[n + 1]? = some (.cells #[c, d] t)) : (swW q n a' b' c' d').heap[n + 1]? = some (.cells #[c', d'] t) := by
  unfold swW
  exact set_block1 _ (set_block0 _ (by rw [set_far (by omega), set_far (by omega)]; exact h))
theorem swW_below {w q : World} {n : Nat} {a b c d : Value} (h : Below w.heap.size w q) (hn : w.heap.size ≤ n) : Below w.heap.size w (swW q n a b c d) :=
  (((h.setCell (p := ⟨n, 0, none⟩) hn _).setCell (p := ⟨n, 1, none⟩) hn _).setCell (p := ⟨n + 1, 0, none⟩) (Nat.le_succ_of_le hn) _).setCell (p := ⟨n + 1, 1, none⟩) (Nat.le_succ_of_le hn) _
theorem swW_size {q : World} {n : Nat} {a b c d : Value} : (swW q n a b c d).heap.size = q.heap.size := by
  simp [swW, World.setCell]

theorem gb2_fst {w : World} {a b c d : Value} {t : Nat} (p : GB ((w.alloc (.cells #[a, b] t)).alloc (.cells #[c, d] t))) : p.W.heap[w.heap.size]? = some (.cells #[a, b] t) := by
  rw [p.h.block _ (by simp; omega), Below.heap_alloc _ _ _ (by simp)]
  exact alloc_new w _
theorem gb2_snd {w : World} {a b c d : Value} {t : Nat} (p : GB ((w.alloc (.cells #[a, b] t)).alloc (.cells #[c, d] t))) : p.W.heap[w.heap.size + 1]? = some (.cells #[c, d] t) := by
  rw [p.h.block _ (by simp)]
  have := alloc_new (w.alloc (.cells #[a, b] t)) (.cells #[c, d] t)
  simpa using this
theorem gb2_live (w : World) (a b c d : Value) (t : Nat) :
    (∀ (p : GB ((w.alloc (.cells #[a, b] t)).alloc (.cells #[c, d] t))) i, p.W.frozen? ⟨w.heap.size, i, none⟩ = false) ∧
    (∀ (p : GB ((w.alloc (.cells #[a, b] t)).alloc (.cells #[c, d] t))) i, p.W.frozen? ⟨w.heap.size + 1, i, none⟩ = false) :=
  ⟨fun p _ => block_live (gb2_fst p), fun p _ => block_live (gb2_snd p)⟩
theorem lt_of_block {w : World} {n : Nat} {o : Obj} (h : w.heap[n]? = some o) : n < w.heap.size := by
  by_cases e : n < w.heap.size
  · exact e
  · rw [Array.getElem?_eq_none (by omega)] at h; cases h
theorem sw_cells {q : World} {n : Nat} {a b c d : Value} {t : Nat} (h1 : q.heap[n]? = some (.cells #[a, b] t)) (h2 : q.heap[n + 1]? = some (.cells #[c, d] t)) (a' b' c' d' : Value) :
    (∀ p : GB (swW q n a' b' c' d'), p.W.cell? ⟨n, 0, none⟩ = some a') ∧ (∀ p : GB (swW q n a' b' c' d'), p.W.cell? ⟨n, 1, none⟩ = some b') ∧
    (∀ p : GB (swW q n a' b' c' d'), p.W.cell? ⟨n + 1, 0, none⟩ = some c') ∧ (∀ p : GB (swW q n a' b' c' d'), p.W.cell? ⟨n + 1, 1, none⟩ = some d') := by
  have l1 := lt_of_block h1
  have l2 := lt_of_block h2
  have e1 : ∀ p : GB (swW q n a' b' c' d'), p.W.heap[n]? = some (.cells #[a', b'] t) := fun p => by rw [p.h.block _ (by rw [swW_size]; exact l1)]; exact swW_fst h1
  have e2 : ∀ p : GB (swW q n a' b' c' d'), p.W.heap[n + 1]? = some (.cells #[c', d'] t) := fun p => by rw [p.h.block _ (by rw [swW_size]; exact l2)]; exact swW_snd h2
  exact ⟨fun p => block_fst (e1 p), fun p => block_snd (e1 p), fun p => block_fst (e2 p), fun p => block_snd (e2 p)⟩

theorem ordP_below {p q : ByteArray} (h : q.size < p.size) : ordP 2 p.data.toList 2 q.data.toList = -1 := below_ord (by rw [size_len, size_len]; exact h)

set_option maxHeartbeats 3200000 in
theorem pathBelow_any (v : Value) (w : World) (hv : ArgFour v) :
    Calls Try.prog 6 #[v] w fun e w' => e = .returned (.bool true) ∧ Below w.heap.size w w' := by
  obtain ⟨a0, b0, s0, t0, rfl, ha0, hb0, hs0, ht0⟩ := hv
  obtain ⟨k0, k1, k2, k3⟩ := gb4_cells w (.string a0) (.string b0) (.string s0) (.string t0) 41
  go_enter Try.func6, Try.ntmps6
  go_wp2_with fail
  refine wp_region_below (by kernel_rfl) (by kernel_rfl) ?_
  repeat (first | go_big_quiet_step ((go_at_call 11; first | exact calls_gb_same (fewB_any _ _ ha0) | exact calls_gb_same (fewB_any _ _ hb0) | exact calls_gb_same (fewB_any _ _ hs0) | exact calls_gb_same (fewB_any _ _ ht0))) | quiet_step ((go_at_call 11; first | exact calls_gb_same (fewB_any _ _ ha0) | exact calls_gb_same (fewB_any _ _ hb0) | exact calls_gb_same (fewB_any _ _ hs0) | exact calls_gb_same (fewB_any _ _ ht0))))
  refine wpQuiet_nil ?_
  intro _ hw'
  obtain ⟨q, hw2⟩ := hw'
  subst hw2
  have B0 := below_box q.h
  generalize q.W = W at *
  have la := fewB_le a0
  have lb := fewB_le b0
  have ls := fewB_le s0
  have lt := fewB_le t0
  generalize fewB a0 = a at *
  generalize fewB b0 = b at *
  generalize fewB s0 = s at *
  generalize fewB t0 = t at *
  clear ha0 hb0 hs0 ht0 k0 k1 k2 k3
  have ha : a.size ≤ maxLen := small_len (by omega)
  have hb : b.size ≤ maxLen := small_len (by omega)
  have hs : s.size ≤ maxLen := small_len (by omega)
  have ht : t.size ≤ maxLen := small_len (by omega)
  obtain ⟨ca, cb, cc, cd⟩ := gb2_cells W (.int .i64 2) (.string a) (.int .i64 2) (.string b) 23
  cases h1 : holdP 2 a.data.toList s.data.toList
  · have H1 := hide h1
    clear h1
    go_wp2_with fail
    refine (calls_gb0 (pholds_any _ _ _ _ ha hs)).mono ?_
    rintro e x ⟨rfl, q, rfl⟩
    rw [H1.out]
    go_wp2_with fail
    refine (calls_gb (pawake_any _)).mono ?_
    rintro e x ⟨rfl, q, rfl⟩
    go_wp2_with fail
    go_ret
    exact ⟨rfl, B0.trans ((below_box2 q.h).mono B0.size)⟩
  · have H1 := hide h1
    cases h2 : holdP 2 b.data.toList s.data.toList
    · have H2 := hide h2
      clear h1 h2
      go_wp2_with fail
      refine (calls_gb0 (pholds_any _ _ _ _ ha hs)).mono ?_
      rintro e x ⟨rfl, q, rfl⟩
      rw [H1.out]
      go_wp2_with fail
      refine (calls_gb (pholds_any _ _ _ _ hb hs)).mono ?_
      rintro e x ⟨rfl, q, rfl⟩
      rw [H2.out]
      go_wp2_with fail
      refine (calls_gb (pawake_any _)).mono ?_
      rintro e x ⟨rfl, q, rfl⟩
      go_wp2_with fail
      go_ret
      exact ⟨rfl, B0.trans ((below_box2 q.h).mono B0.size)⟩
    · have H2 := hide h2
      have i1 := hold2_iff.1 h1
      have i2 := hold2_iff.1 h2
      rcases Nat.lt_trichotomy a.size b.size with hl | hl | hl
      · have hl1 : ((a.size : Int) == (b.size : Int)) = false := beq_eq_false_iff_ne.2 (by omega)
        have hl2 : (a.size : Int) < (b.size : Int) := by omega
        have HO := hide (ordP_below hl)
        have HQ := hide (below_self h2 h1 (by rw [size_len, size_len]; exact hl))
        have HT := hide (fun h => below_holds (t := t.data.toList) h2 h1 (by rw [size_len, size_len]; exact hl) h)
        clear h1 h2 i1 i2
        go_wp2_with fail
        obtain ⟨fa, fb⟩ := gb2_live W (.int .i64 2) (.string a) (.int .i64 2) (.string b) 23
        refine (calls_gb0 (pholds_any _ _ _ _ ha hs)).mono ?_
        rintro e x ⟨rfl, q, rfl⟩
        rw [H1.out]
        go_wp2_with fail
        refine (calls_gb (pholds_any _ _ _ _ hb hs)).mono ?_
        rintro e x ⟨rfl, q, rfl⟩
        rw [H2.out]
        go_wp2_with fail
        change Calls Try.prog _ _ (swW q.W W.heap.size (.int .i64 2) (.string b) (.int .i64 2) (.string a)) _
        have S := sw_cells (gb2_fst q) (gb2_snd q) (.int .i64 2) (.string b) (.int .i64 2) (.string a)
        have BB : Below W.heap.size W (swW q.W W.heap.size (.int .i64 2) (.string b) (.int .i64 2) (.string a)) := swW_below (below_box2 q.h) (Nat.le_refl _)
        generalize swW q.W W.heap.size (.int .i64 2) (.string b) (.int .i64 2) (.string a) = W2 at *
        obtain ⟨da, db, dc, dd⟩ := S
        clear ca cb cc cd fa fb
        cases h3 : holdP 2 b.data.toList t.data.toList
        · have H3 := hide h3
          clear h3 HT
          refine (calls_gb0 (porder_any _ _ _ _ _)).mono ?_
          rintro e x ⟨rfl, q, rfl⟩
          rw [HO.out]
          go_wp2_with fail
          refine (calls_gb (pholds_any _ _ _ _ hb ht)).mono ?_
          rintro e x ⟨rfl, q, rfl⟩
          rw [H3.out]
          go_wp2_with fail
          refine (calls_gb (pholds_any _ _ _ _ ha hb)).mono ?_
          rintro e x ⟨rfl, q, rfl⟩
          rw [HQ.out]
          go_wp2_with fail
          refine (calls_gb (pawake_any _)).mono ?_
          rintro e x ⟨rfl, q, rfl⟩
          go_wp2_with fail
          go_ret
          exact ⟨rfl, (B0.trans (BB.mono B0.size)).trans (q.h.mono (Nat.le_trans B0.size BB.size))⟩
        · have H3 := hide h3
          have H4 := hide (HT.out h3)
          clear h3 HT
          refine (calls_gb0 (porder_any _ _ _ _ _)).mono ?_
          rintro e x ⟨rfl, q, rfl⟩
          rw [HO.out]
          go_wp2_with fail
          refine (calls_gb (pholds_any _ _ _ _ hb ht)).mono ?_
          rintro e x ⟨rfl, q, rfl⟩
          rw [H3.out]
          go_wp2_with fail
          refine (calls_gb (pholds_any _ _ _ _ ha ht)).mono ?_
          rintro e x ⟨rfl, q, rfl⟩
          rw [H4.out]
          go_wp2_with fail
          refine (calls_gb (pholds_any _ _ _ _ ha hb)).mono ?_
          rintro e x ⟨rfl, q, rfl⟩
          rw [HQ.out]
          go_wp2_with fail
          refine (calls_gb (pawake_any _)).mono ?_
          rintro e x ⟨rfl, q, rfl⟩
          go_wp2_with fail
          go_ret
          exact ⟨rfl, (B0.trans (BB.mono B0.size)).trans (q.h.mono (Nat.le_trans B0.size BB.size))⟩
      · have hab : a = b := by
          have := und_same i1.2.1 i1.2.2 i2.2.2 (by rw [size_len, size_len]; exact hl)
          rw [← mkB_back this]
          exact (mkB_back rfl)
        subst hab
        clear h1 h2 i1 i2
        go_wp2_with fail
        refine (calls_gb0 (pholds_any _ _ _ _ ha hs)).mono ?_
        rintro e x ⟨rfl, q, rfl⟩
        rw [H1.out]
        go_wp2_with fail
        refine (calls_gb (pholds_any _ _ _ _ hb hs)).mono ?_
        rintro e x ⟨rfl, q, rfl⟩
        rw [H2.out]
        go_wp2_with fail
        refine (calls_gb (pawake_any _)).mono ?_
        rintro e x ⟨rfl, q, rfl⟩
        go_wp2_with fail
        go_ret
        exact ⟨rfl, B0.trans ((below_box2 q.h).mono B0.size)⟩
      · have hl1 : ((a.size : Int) == (b.size : Int)) = false := beq_eq_false_iff_ne.2 (by omega)
        have hl2 : ¬ (a.size : Int) < (b.size : Int) := by omega
        have HO := hide (ordP_below hl)
        have HQ := hide (below_self h1 h2 (by rw [size_len, size_len]; exact hl))
        have HT := hide (fun h => below_holds (t := t.data.toList) h1 h2 (by rw [size_len, size_len]; exact hl) h)
        clear h1 h2 i1 i2
        cases h3 : holdP 2 a.data.toList t.data.toList
        · have H3 := hide h3
          clear h3 HT
          go_wp2_with fail
          refine (calls_gb0 (pholds_any _ _ _ _ ha hs)).mono ?_
          rintro e x ⟨rfl, q, rfl⟩
          rw [H1.out]
          go_wp2_with fail
          refine (calls_gb (pholds_any _ _ _ _ hb hs)).mono ?_
          rintro e x ⟨rfl, q, rfl⟩
          rw [H2.out]
          go_wp2_with fail
          refine (calls_gb (porder_any _ _ _ _ _)).mono ?_
          rintro e x ⟨rfl, q, rfl⟩
          rw [HO.out]
          go_wp2_with fail
          refine (calls_gb (pholds_any _ _ _ _ ha ht)).mono ?_
          rintro e x ⟨rfl, q, rfl⟩
          rw [H3.out]
          go_wp2_with fail
          refine (calls_gb (pholds_any _ _ _ _ hb ha)).mono ?_
          rintro e x ⟨rfl, q, rfl⟩
          rw [HQ.out]
          go_wp2_with fail
          refine (calls_gb (pawake_any _)).mono ?_
          rintro e x ⟨rfl, q, rfl⟩
          go_wp2_with fail
          go_ret
          exact ⟨rfl, B0.trans ((below_box2 q.h).mono B0.size)⟩
        · have H3 := hide h3
          have H4 := hide (HT.out h3)
          clear h3 HT
          go_wp2_with fail
          refine (calls_gb0 (pholds_any _ _ _ _ ha hs)).mono ?_
          rintro e x ⟨rfl, q, rfl⟩
          rw [H1.out]
          go_wp2_with fail
          refine (calls_gb (pholds_any _ _ _ _ hb hs)).mono ?_
          rintro e x ⟨rfl, q, rfl⟩
          rw [H2.out]
          go_wp2_with fail
          refine (calls_gb (porder_any _ _ _ _ _)).mono ?_
          rintro e x ⟨rfl, q, rfl⟩
          rw [HO.out]
          go_wp2_with fail
          refine (calls_gb (pholds_any _ _ _ _ ha ht)).mono ?_
          rintro e x ⟨rfl, q, rfl⟩
          rw [H3.out]
          go_wp2_with fail
          refine (calls_gb (pholds_any _ _ _ _ hb ht)).mono ?_
          rintro e x ⟨rfl, q, rfl⟩
          rw [H4.out]
          go_wp2_with fail
          refine (calls_gb (pholds_any _ _ _ _ hb ha)).mono ?_
          rintro e x ⟨rfl, q, rfl⟩
          rw [HQ.out]
          go_wp2_with fail
          refine (calls_gb (pawake_any _)).mono ?_
          rintro e x ⟨rfl, q, rfl⟩
          go_wp2_with fail
          go_ret
          exact ⟨rfl, B0.trans ((below_box2 q.h).mono B0.size)⟩

end Go.Proofs.Ytiepbigibdjfoaa
