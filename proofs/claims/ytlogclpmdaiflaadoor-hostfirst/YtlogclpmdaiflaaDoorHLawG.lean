/-
  The law HostFirst: its walk.
-/
import Derived.Test.YtlogclpmdaiflaaDoorHBestB
import Derived.Test.YtlogclpmdaiflaaDoorArgOpen
namespace Go.Proofs.YtlogclpmdaiflaaDoor
open Go Go.RowKit Go.Shelf

attribute [local go_sem] Oper.semAt_some
attribute [local go_sem] gb_const

theorem nth_left {ps : List ByteArray} {m : ByteArray} {j : Nat} (h : j < ps.length) : nth (ps ++ [m]) j = nth ps j := by
  unfold nth; simp [List.getD, List.getElem?_append_left h]
theorem nth_last (ps : List ByteArray) (m : ByteArray) : nth (ps ++ [m]) ps.length = m := by
  unfold nth; simp [List.getD]
theorem bestR_congr {H H' : Nat → Bool} {O O' : Nat → Nat → Int} {n i : Nat} {f : Bool} (h1 : ∀ j, j < n → H j = H' j) (h2 : ∀ j k, j < n → k < n → O j k = O' j k) (h : BestR H O n i f) : BestR H' O' n i f := by
  rcases h with ⟨hf, ha, hb, hc⟩ | ⟨hf, h0, hn⟩
  · refine .inl ⟨hf, ha, by rw [← h1 i ha]; exact hb, fun j hj hH => ?_⟩
    rw [← h2 j i hj ha]
    exact hc j hj (by rw [h1 j hj]; exact hH)
  · exact .inr ⟨hf, h0, fun j hj => by rw [← h1 j hj]; exact hn j hj⟩
/-- one more behind that does not hold changes nothing -/
theorem best_more {ps : List ByteArray} {m h : ByteArray} {i i' : Nat} {f f' : Bool} (hm : holds m.data.toList h.data.toList = false) (h1 : BestR (hB ps h) (oB ps) ps.length i f)
    (h2 : BestR (hB (ps ++ [m]) h) (oB (ps ++ [m])) (ps ++ [m]).length i' f') : i' = i ∧ f' = f := by
  have hl : (ps ++ [m]).length = ps.length + 1 := by simp
  rw [hl] at h2
  have h3 : BestR (hB (ps ++ [m]) h) (oB (ps ++ [m])) ps.length i f :=
    bestR_congr (fun j hj => by unfold hB; rw [nth_left hj]) (fun j k hj hk => by unfold oB; rw [nth_left hj, nth_left hk]) h1
  exact bestR_one (oB_ord _) h2 (bestR_no h3 (by unfold hB; rw [nth_last]; exact hm))

theorem news_strs {wr w2 : World} {g : Nat} {ps : List ByteArray} (HC : ∀ j, j < ps.length → ∃ g', (some ⟨g, 0, none⟩ : Option Addr) = some ⟨g', 0, none⟩ ∧ g' < w2.heap.size ∧ w2.cell? ⟨g', j, none⟩ = some (.string (nth ps j))) (hB : Below w2.heap.size w2 wr) (o : Obj) :
    ∀ j u, (ps.map Value.string)[j]? = some u → (wr.alloc o).cell? ((⟨g, 0, none⟩ : Addr).add j) = some u := by
  intro j u hj
  rw [addr_add]
  have hl : j < ps.length := by
    have := (List.getElem?_eq_some_iff.1 hj).1
    simpa using this
  obtain ⟨g', e, hg, hc⟩ := HC j hl
  simp at e
  subst e
  have hu : u = .string (nth ps j) := by
    rw [List.getElem?_map, List.getElem?_eq_getElem hl] at hj
    simp at hj
    rw [← hj, nth_get hl]
  rw [hu]
  exact (((Below.refl wr.heap.size wr).alloc (Nat.le_refl _) o).cell (p := ⟨g, j, none⟩) (Nat.lt_of_lt_of_le hg hB.size)).trans ((hB.cell (p := ⟨g, j, none⟩) hg).trans hc)
/-- '[]string{}' owns nothing yet -/
theorem owns_empty (w : World) : (w.alloc (.cells #[] 9)).ownsRow w.heap.size 9 1 (.slice (some ⟨w.heap.size, 0, none⟩) 0 0) 0 [] :=
  ⟨rfl, Or.inr ⟨w.heap.size, 0, _, rfl, Nat.le_refl _, World.alloc_heap_new w _, Nat.le_refl _, by decide, rfl, rfl⟩⟩

theorem cell_one_at {w : World} {x : Value} {t : TypeId} {n : Nat} (h : n = w.heap.size) : ∀ j u, [x][j]? = some u → (w.alloc (.cells #[x] t)).cell? ((⟨n, 0, none⟩ : Addr).add j) = some u := by
  subst h; exact cell_one_new w x t

set_option maxHeartbeats 3200000 in
theorem first_law (v : Value) (s s2 : ByteArray) (w : World) (hv : ArgStrs w v) (hs : s.size ≤ maxLen) (hs2 : s2.size ≤ maxLen) :
    Calls Tryd.prog 9 #[v, .string s, .string s2] w fun e w' => e = .returned (.bool true) ∧ Below w.heap.size w w' := by
  obtain ⟨i0, hi, hz0, hz1, hz2⟩ := info_parts Tryd.info9
  go_enter Tryd.func9, Tryd.ntmps9
  go_wp2_with fail
  refine (hfew_any _ _ hv).mono ?_
  rintro e w1 ⟨v', ps, rfl, hS, ha, hl, hnil, hb1⟩
  go_wp2_with fail
  refine (few_any _ _ hs).mono ?_
  rintro e w1 ⟨h, rfl, hh, rfl⟩
  go_wp2_with fail
  refine (few_any _ _ hs2).mono ?_
  rintro e w1 ⟨m, rfl, hm, rfl⟩
  have lh : h.size ≤ maxLen := small_len (by omega)
  have lm : m.size ≤ maxLen := small_len (by omega)
  have HS := hide hS
  have HA := hide ha
  have HNIL := hide hnil
  have HA2 : Hid (∀ p ∈ ps ++ [m], p.size ≤ 100) := fun p hp => by
    rcases List.mem_append.1 hp with hp | hp
    · exact ha p hp
    · rw [List.mem_singleton.1 hp]; exact hm
  clear hS ha hnil
  go_wp2_with fail
  refine (hbest_any v' ps h _ HS.out (by omega) HA.out lh).mono ?_
  rintro e w2 ⟨i, f, rfl, hR, hb2⟩
  have HR := hide hR
  have HS2 := hide (HS.out.below hb2)
  clear hR
  obtain ⟨a, cap, rfl, HC⟩ := strs_cell HS2.out
  have hb12 := hb1.trans (hb2.mono hb1.size)
  go_wp2_with fail
  go_loopw [9] (fun i wr => ∃ k : Nat, k ≤ ps.length ∧ i = .int .i64 k ∧ Below w2.heap.size w2 wr) (fun i _ => ps.length - (intOf i).toNat)
  case atStart => exact ⟨0, Nat.zero_le _, rfl, Below.refl _ _⟩
  case round =>
    obtain ⟨k, hk, rfl, hBr⟩ := hrel
    by_cases hkl : k < ps.length
    · have hkl' : (k : Int) < (ps.length : Int) := by omega
      obtain ⟨g, rfl, hg, hcell⟩ := HC.out k hkl
      have hgr : g < wr.heap.size := Nat.lt_of_lt_of_le hg hBr.size
      have ck : ∀ p : GB wr, p.W.cell? ⟨g, k, none⟩ = some (.string (nth ps k)) := fun p =>
        (p.h.cell (p := ⟨g, k, none⟩) hgr).trans ((hBr.cell (p := ⟨g, k, none⟩) hg).trans hcell)
      have lk : (nth ps k).size ≤ maxLen := small_len (Nat.le_trans (nth_mem hkl HA.out) (by omega))
      have CH := fun w => hide (hholds_any (nth ps k) h w lk lh)
      clear hcell
      cases hH : holds (nth ps k).data.toList h.data.toList
      · rw [hH] at CH
        clear hH
        go_wp2_with fail
        refine wp_region_below (by kernel_rfl) (by kernel_rfl) ?_
        repeat (first | go_big_quiet_step ((go_at_call 14; exact calls_gb (CH _).out)) | quiet_step ((go_at_call 14; exact calls_gb (CH _).out)))
        refine wpQuiet_nil ?_
        intro _ hw'
        obtain ⟨⟨wq, hq⟩, hw2⟩ := hw'
        subst hw2
        go_wp2_with fail
        exact ⟨⟨k + 1, by omega, by go_num, hBr.trans (hq.mono hBr.size)⟩, by simp [intOf]; omega⟩
      · rw [hH] at CH
        have hbf : f = true ∧ BestF (hB ps h) (oB ps) ps.length i := by
          rcases HR.out with h1 | ⟨_, _, h3⟩
          · exact h1
          · have := h3 k hkl
            unfold hB at this
            rw [hH] at this
            cases this
        obtain ⟨rfl, hbf⟩ := hbf
        have hil := hbf.1
        have ho := hbf.2.2 k hkl hH
        have hil' : (i : Int) < (ps.length : Int) := by omega
        have ci : ∀ p : GB wr, p.W.cell? ⟨g, i, none⟩ = some (.string (nth ps i)) := fun p => by
          obtain ⟨g', e, hg', hcell⟩ := HC.out i hil
          simp at e
          subst e
          exact (p.h.cell (p := ⟨g, i, none⟩) hgr).trans ((hBr.cell (p := ⟨g, i, none⟩) hg).trans hcell)
        have li : (nth ps i).size ≤ maxLen := small_len (Nat.le_trans (nth_mem hil HA.out) (by omega))
        have CO := fun w => hide (horder_any (nth ps k) (nth ps i) w lk li)
        unfold oB at ho
        generalize ord (nth ps k).data.toList (nth ps i).data.toList = o at *
        have ho' : decide (o < 0) = false := decide_eq_false (by omega)
        clear hH hbf ho
        go_wp2_with fail
        refine wp_region_below (by kernel_rfl) (by kernel_rfl) ?_
        repeat (first | go_big_quiet_step ((first | (go_at_call 14; exact calls_gb (CH _).out) | (go_at_call 21; exact calls_gb (CO _).out))) | quiet_step ((first | (go_at_call 14; exact calls_gb (CH _).out) | (go_at_call 21; exact calls_gb (CO _).out))))
        refine wpQuiet_nil ?_
        intro _ hw'
        obtain ⟨⟨wq, hq⟩, hw2⟩ := hw'
        subst hw2
        go_wp2_with fail
        exact ⟨⟨k + 1, by omega, by go_num, hBr.trans (hq.mono hBr.size)⟩, by simp [intOf]; omega⟩
    · have hkl' : ¬ (k : Int) < (ps.length : Int) := by omega
      clear hk hkl
      by_cases h0 : ps.length = 0
      · have hnil := HNIL.out h0
        simp at hnil
        obtain ⟨rfl, _, rfl⟩ := hnil
        have hps : ps = [] := List.eq_nil_of_length_eq_zero h0
        subst hps
        have hf : f = false ∧ i = 0 := by
          rcases HR.out with ⟨_, h1⟩ | ⟨h1, h2, _⟩
          · exact absurd h1.1 (by simp)
          · exact ⟨h1, h2⟩
        obtain ⟨rfl, rfl⟩ := hf
        clear h0
        go_wp2_with (at_builtin; refine wpList_append_own _ rfl _ _ 34 rfl wr.heap.size 9 i0 (.string ⟨#[]⟩) 1 16 Tryd.underlying34 hi hz0 hz1 hz2 rfl (by decide) _ 0 [] rfl ((owns_empty wr).alloc _) ⟨wr.heap.size + 1, 0, none⟩ 1 1 [.string m] rfl rfl (cell_one_at (by simp)) (by simp [Value.oneCell']) (by unfold maxLen; omega) (by omega) (by simp; omega) ?_; intro v2 w5 hown2 hgrow2 _)
        have B5 : Below wr.heap.size wr w5 := (((Below.refl _ _).alloc (Nat.le_refl _) _).alloc (by simp) _).grown hgrow2 (by simp; omega) (fun j e => ownBlock_ge (owns_empty wr) e)
        have HSn : Hid (Strs w5 v2 ([] ++ [m])) := Strs.of_row (n := 0 + 1) rfl hown2
        have BR := hb12.trans (hBr.mono hb12.size)
        have BB := BR.trans (B5.mono BR.size)
        refine (hbest_any _ ([] ++ [m]) h _ HSn.out (by simp) HA2.out lh).mono ?_
        rintro e w6 ⟨i', f', rfl, hR', hb6⟩
        have HR' := hide hR'
        clear hR'
        have B6 := BB.trans (hb6.mono BB.size)
        go_wp2_with fail
        cases hM : holds m.data.toList h.data.toList
        · obtain ⟨rfl, rfl⟩ := best_more hM HR.out HR'.out
          have HM := hide hM
          clear hM
          refine (hholds_any _ _ _ lm lh).mono ?_
          rintro e w7 ⟨rfl, hb7⟩
          rw [HM.out]
          go_wp2_with fail
          refine (hawake_any _).mono ?_
          rintro e w8 ⟨rfl, hb8⟩
          go_wp2_with fail
          go_ret
          have B7 := B6.trans (hb7.mono B6.size)
          exact ⟨rfl, B7.trans (hb8.mono B7.size)⟩
        · have HM := hide hM
          clear hM
          refine (hholds_any _ _ _ lm lh).mono ?_
          rintro e w7 ⟨rfl, hb7⟩
          rw [HM.out]
          go_wp2_with fail
          refine (hawake_any _).mono ?_
          rintro e w8 ⟨rfl, hb8⟩
          go_wp2_with fail
          go_ret
          have B7 := B6.trans (hb7.mono B6.size)
          exact ⟨rfl, B7.trans (hb8.mono B7.size)⟩
      · obtain ⟨g, rfl, hg, hcell0⟩ := HC.out 0 (by omega)
        clear hcell0 HNIL
        have BR := hb12.trans (hBr.mono hb12.size)
        cases f
        · go_wp2_with (first | (at_builtin; refine wpList_append_own _ rfl _ _ 34 rfl wr.heap.size 9 i0 (.string ⟨#[]⟩) 1 16 Tryd.underlying34 hi hz0 hz1 hz2 rfl (by decide) _ 0 [] rfl (owns_empty wr) ⟨g, 0, none⟩ ps.length cap (ps.map Value.string) rfl (by simp) (news_strs HC.out hBr _) (by simp [Value.oneCell']) (by unfold maxLen; omega) (by omega) (by simp) ?_; intro v1 w4 hown1 hgrow1 _) | (at_builtin; refine wpList_append_own _ rfl _ _ 34 rfl wr.heap.size 9 i0 (.string ⟨#[]⟩) 1 16 Tryd.underlying34 hi hz0 hz1 hz2 rfl (by decide) _ (0 + ps.length) _ rfl (hown1.alloc _) ⟨w4.heap.size, 0, none⟩ 1 1 [.string m] rfl rfl (cell_one_new _ _ _) (by simp [Value.oneCell']) (by unfold maxLen; omega) (by omega) (by have := hgrow1.size; simp at this; simp; omega) ?_; intro v2 w5 hown2 hgrow2 _))
          have B4 : Below wr.heap.size wr w4 := ((Below.refl _ _).alloc (Nat.le_refl _) _).grown hgrow1 (by simp) (fun j e => ownBlock_ge (owns_empty wr) e)
          have B5 : Below wr.heap.size wr w5 := (B4.alloc B4.size _).grown hgrow2 (by have := B4.size; simp; omega) (fun j e => ownBlock_ge hown1 e)
          have HSn : Hid (Strs w5 v2 (ps ++ [m])) := Strs.of_row (n := 0 + ps.length + 1) (by simp) (by rw [List.map_append]; simpa using hown2)
          have BB := BR.trans (B5.mono BR.size)
          refine (hbest_any _ (ps ++ [m]) h _ HSn.out (by simp; omega) HA2.out lh).mono ?_
          rintro e w6 ⟨i', f', rfl, hR', hb6⟩
          have HR' := hide hR'
          clear hR'
          have B6 := BB.trans (hb6.mono BB.size)
          go_wp2_with fail
          cases hM : holds m.data.toList h.data.toList
          · obtain ⟨rfl, rfl⟩ := best_more hM HR.out HR'.out
            have HM := hide hM
            clear hM
            refine (hholds_any _ _ _ lm lh).mono ?_
            rintro e w7 ⟨rfl, hb7⟩
            rw [HM.out]
            go_wp2_with fail
            refine (hawake_any _).mono ?_
            rintro e w8 ⟨rfl, hb8⟩
            go_wp2_with fail
            go_ret
            have B7 := B6.trans (hb7.mono B6.size)
            exact ⟨rfl, B7.trans (hb8.mono B7.size)⟩
          · have HM := hide hM
            clear hM
            refine (hholds_any _ _ _ lm lh).mono ?_
            rintro e w7 ⟨rfl, hb7⟩
            rw [HM.out]
            go_wp2_with fail
            refine (hawake_any _).mono ?_
            rintro e w8 ⟨rfl, hb8⟩
            go_wp2_with fail
            go_ret
            have B7 := B6.trans (hb7.mono B6.size)
            exact ⟨rfl, B7.trans (hb8.mono B7.size)⟩
        · have hbf := bestR_true HR.out
          have hil := hbf.1
          have hil' : (i : Int) < (ps.length : Int) := by omega
          have li : (nth ps i).size ≤ maxLen := small_len (Nat.le_trans (nth_mem hil HA.out) (by omega))
          have ci : wr.cell? ⟨g, i, none⟩ = some (.string (nth ps i)) := by
            obtain ⟨g', e, hg', hcell⟩ := HC.out i hil
            simp at e
            subst e
            exact (hBr.cell (p := ⟨g, i, none⟩) hg).trans hcell
          have CH := fun w => hide (hholds_any (nth ps i) h w li lh)
          have hHi := hbf.2.1
          unfold hB at hHi
          rw [hHi] at CH
          clear hHi hbf
          go_wp2_with fail
          refine (CH _).out.mono ?_
          rintro e w3 ⟨rfl, hb3⟩
          have hB3 := hBr.trans (hb3.mono hBr.size)
          have BR3 := BR.trans (hb3.mono BR.size)
          go_wp2_with (first | (at_builtin; refine wpList_append_own _ rfl _ _ 34 rfl w3.heap.size 9 i0 (.string ⟨#[]⟩) 1 16 Tryd.underlying34 hi hz0 hz1 hz2 rfl (by decide) _ 0 [] rfl (owns_empty w3) ⟨g, 0, none⟩ ps.length cap (ps.map Value.string) rfl (by simp) (news_strs HC.out hB3 _) (by simp [Value.oneCell']) (by unfold maxLen; omega) (by omega) (by simp) ?_; intro v1 w4 hown1 hgrow1 _) | (at_builtin; refine wpList_append_own _ rfl _ _ 34 rfl w3.heap.size 9 i0 (.string ⟨#[]⟩) 1 16 Tryd.underlying34 hi hz0 hz1 hz2 rfl (by decide) _ (0 + ps.length) _ rfl (hown1.alloc _) ⟨w4.heap.size, 0, none⟩ 1 1 [.string m] rfl rfl (cell_one_new _ _ _) (by simp [Value.oneCell']) (by unfold maxLen; omega) (by omega) (by have := hgrow1.size; simp at this; simp; omega) ?_; intro v2 w5 hown2 hgrow2 _))
          have B4 : Below w3.heap.size w3 w4 := ((Below.refl _ _).alloc (Nat.le_refl _) _).grown hgrow1 (by simp) (fun j e => ownBlock_ge (owns_empty w3) e)
          have B5 : Below w3.heap.size w3 w5 := (B4.alloc B4.size _).grown hgrow2 (by have := B4.size; simp; omega) (fun j e => ownBlock_ge hown1 e)
          have HSn : Hid (Strs w5 v2 (ps ++ [m])) := Strs.of_row (n := 0 + ps.length + 1) (by simp) (by rw [List.map_append]; simpa using hown2)
          have BB := BR3.trans (B5.mono BR3.size)
          refine (hbest_any _ (ps ++ [m]) h _ HSn.out (by simp; omega) HA2.out lh).mono ?_
          rintro e w6 ⟨i', f', rfl, hR', hb6⟩
          have HR' := hide hR'
          clear hR'
          have B6 := BB.trans (hb6.mono BB.size)
          go_wp2_with fail
          cases hM : holds m.data.toList h.data.toList
          · obtain ⟨rfl, rfl⟩ := best_more hM HR.out HR'.out
            have HM := hide hM
            clear hM
            refine (hholds_any _ _ _ lm lh).mono ?_
            rintro e w7 ⟨rfl, hb7⟩
            rw [HM.out]
            go_wp2_with fail
            refine (hawake_any _).mono ?_
            rintro e w8 ⟨rfl, hb8⟩
            go_wp2_with fail
            go_ret
            have B7 := B6.trans (hb7.mono B6.size)
            exact ⟨rfl, B7.trans (hb8.mono B7.size)⟩
          · have HM := hide hM
            clear hM
            refine (hholds_any _ _ _ lm lh).mono ?_
            rintro e w7 ⟨rfl, hb7⟩
            rw [HM.out]
            go_wp2_with fail
            refine (hawake_any _).mono ?_
            rintro e w8 ⟨rfl, hb8⟩
            go_wp2_with fail
            go_ret
            have B7 := B6.trans (hb7.mono B6.size)
            exact ⟨rfl, B7.trans (hb8.mono B7.size)⟩

end Go.Proofs.YtlogclpmdaiflaaDoor
