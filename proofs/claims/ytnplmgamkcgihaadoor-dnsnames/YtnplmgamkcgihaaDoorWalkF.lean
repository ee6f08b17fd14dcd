/-
  Walks: Labels.
-/
import Derived.Test.YtnplmgamkcgihaaDoorWalkE
import Derived.Maps.AppendAt
namespace Go.Proofs.YtnplmgamkcgihaaDoor
open Go Go.RowKit Go.Shelf

attribute [local go_sem] Oper.semAt_some

set_option maxHeartbeats 400000 in
theorem labels_no (s : ByteArray) (w : World) (hs : s.size ≤ maxLen) (h : D.isName s.data.toList = false) :
    Calls Tryd.prog 17 #[.string s] w fun e w' => e = .returned (.slice none 0 0) ∧ Below w.heap.size w w' := by
  have H := hide h
  clear h
  go_enter Tryd.func17, Tryd.ntmps17
  go_wp2_with (go_at_call 15; refine (name_any _ _ hs).mono ?_; rintro e w2 ⟨rfl, hb⟩; rw [H.out])
  go_ret
  exact ⟨rfl, hb⟩

theorem ownsRow_base {w : World} {base base' : Nat} {e : TypeId} {size : Nat} {v : Value} {n : Nat} {xs : List Value} (h : w.ownsRow base e size v n xs) (hb : base' ≤ base) : w.ownsRow base' e size v n xs := by
  obtain ⟨h1, h2⟩ := h
  refine ⟨h1, ?_⟩
  rcases h2 with h2 | ⟨g, cap, cur, hv, hg, r⟩
  · exact .inl h2
  · exact .inr ⟨g, cap, cur, hv, by omega, r⟩

theorem ownBlock_ge {w : World} {base : Nat} {e : TypeId} {size : Nat} {v : Value} {n : Nat} {xs : List Value} (h : w.ownsRow base e size v n xs) {g : Nat} (hg : v.ownBlock = some g) : base ≤ g := by
  rcases h.2 with ⟨rfl, _⟩ | ⟨g', cap, cur, rfl, hb, _⟩
  · simp [Value.ownBlock] at hg
  · obtain rfl : g' = g := by simpa [Value.ownBlock] using hg
    exact hb

/-- behind an append in a round: the iterator's blocks lie as they lay -/
theorem stays_appended {W w1 : World} {lo hi n₁ B : Nat} {size : Nat} {v v' : Value} {k : Nat} {xs : List Value} {tmp : Obj}
    (hrow : W.ownsRow n₁ 9 size v k xs) (hhi : hi ≤ n₁) (hn : n₁ ≤ W.heap.size) (hB : B < lo) (hgrow : (W.alloc tmp).grownBy w1 v.ownBlock) : Stays lo hi W (w1.setCell ⟨B, 0, none⟩ v') := fun b h1 h2 => by
  rw [Below.heap_setCell _ _ _ _ (by show b ≠ B; omega)]
  rw [hgrow.block b (by simp; omega) (fun e => by have := ownBlock_ge hrow e.symm; omega)]
  exact Below.heap_alloc _ _ _ (by omega)

theorem Tryd.info9 : (Tryd.prog.info? 9).map (fun i => (i.zero, i.size, i.bytes)) = some (some (.string ⟨#[]⟩), 1, 16) := by kernel_rfl

theorem map_take_succ (xs : List ByteArray) (k : Nat) (h : k < xs.length) : (xs.take (k + 1)).map Value.string = (xs.take k).map Value.string ++ [.string xs[k]] := by
  rw [List.take_succ_eq_append_getElem h, List.map_append]; rfl

set_option maxRecDepth 100000 in
set_option maxHeartbeats 800000 in
theorem labels_yes (s : ByteArray) (w : World) (hs : s.size ≤ maxLen) (h : D.isName s.data.toList = true) :
    Calls Tryd.prog 17 #[.string s] w fun e w' => ∃ v, e = .returned v ∧ w'.ownsRow w.heap.size 9 1 v (parts 46 s).length ((parts 46 s).map Value.string) ∧ Below w.heap.size w w' := by
  refine (callsIn_wide (n := 8)).1 ?_
  have hs60 := isName_len h
  have hcnt : (parts 46 s).length ≤ 61 := by
    rw [parts_len]
    have := D.spl_count (c := 46) (l := s.data.toList)
    have e : s.data.toList.length = s.size := Array.length_toList
    omega
  have H := hide h
  clear h
  obtain ⟨i0, hi, hz0, hz1, hz2⟩ := info_parts Tryd.info9
  refine callsIn_of_wp_marks Tryd.func17 rfl trivial ?_ rfl
  simp only [Tryd.ntmps17, List.size_toArray, List.length_cons, List.length_nil, Nat.reduceAdd, Nat.reduceSub, Array.replicate_succ, Array.replicate_zero, List.push_toArray, List.append_toArray, List.nil_append, List.cons_append]
  gi_wp2_with fail
  refine ⟨trivial, (callsIn_wide.2 (name_any _ _ hs)).mono ?_⟩
  rintro e w1 ⟨rfl, hb1⟩
  rw [H.out]
  gi_wp2_with fail
  refine ⟨trivial, (callsIn_wide.2 (SplitSeq_any _ _ _)).mono ?_⟩
  rintro e w' ⟨rfl, hw'⟩
  have b0 : Boxed w' w1.heap.size 23 (.slice none 0 0) := by
    rw [hw']; exact (((Boxed.new w1 23 (.slice none 0 0)).alloc _).alloc _).alloc _
  have hB0 : Below w1.heap.size w1 w' := by
    rw [hw']; exact ((Below.refl _ w1).alloc (Nat.le_refl _) _).trans (boxed3_below _ _ _ _ (by simp))
  have hsz : w'.heap.size = w1.heap.size + 4 := by rw [hw', boxed3_size]; simp
  have hst := split_steps 7 46 s _ w' hs hw'
  simp only [World.size_alloc] at hst
  have HST := hide hst
  clear hst
  have HW := hide hw'
  clear hw'
  gi_wp2_with fail
  refine wpIn_rangeFunc_steps rfl (by omega) (gf := 35) (lb := #[.pointer (some ⟨w1.heap.size + 1 + 1, 0, none⟩), .pointer (some ⟨w1.heap.size + 1, 0, none⟩), .pointer (some ⟨w1.heap.size + 1 + 2, 0, none⟩)]) rfl trivial (enters_of Tryd.func35 (by kernel_rfl) rfl)
    HST.out (Below.refl _ _) (by omega) rfl
    (fun k W => (∃ v, Boxed W w1.heap.size 23 v ∧ W.ownsRow (w1.heap.size + 4) 9 1 v k (((parts 46 s).take k).map Value.string) ∧ True) ∧ Below w1.heap.size w1 W ∧ w1.heap.size + 4 ≤ W.heap.size)
    (fun _ _ _ => False)
    (OwnFrom.and (Own.from (holdsRow_own (w1.heap.size + 4) w1.heap.size 23 9 1 (fun k => k) (fun k => ((parts 46 s).take k).map Value.string) (fun _ _ => True)) _) (OwnFrom.and (ownFrom_below (Nat.le_refl _) (by omega)) (fun _ _ _ _ h hg _ => Nat.le_trans h hg.size)))
    (fun _ _ _ _ _ hs _ _ => hs)
    (fun k W v h => by
      obtain ⟨⟨v0, hv0, hr0, _⟩, hB, hz⟩ := h
      exact ⟨⟨v0, boxed_far hv0 (by omega) v, ownsRow_setCell_below hr0 (a := ⟨w1.heap.size + 1, 0, none⟩) (by show w1.heap.size + 1 < _; omega) v, trivial⟩, hB.setCell (p := ⟨w1.heap.size + 1, 0, none⟩) (by show _ ≤ w1.heap.size + 1; omega) v, Nat.le_trans hz (KeepsOthers.setCell W ⟨w1.heap.size + 1, 0, none⟩ v).size⟩)
    (fun _ _ _ _ h => h)
    ⟨⟨_, b0, World.ownsRow_nil _ _ _ _, trivial⟩, hB0, by omega⟩
    (fun x => { tmps := #[.string s, undef, .slice none 0 0, .pointer (some ⟨w1.heap.size, 0, none⟩), .string x, .string s, .bool true, .bool false, .string s, itv (w1.heap.size + 1), .string x, undef, undef, undef, undef, undef], defers := [] }) ?assign ?body ?done ?stop
  case assign =>
    intro l x W K hK
    gi_wp2
    exact hK
  case body =>
    rintro l k W hk ⟨⟨v, hv, hrow, _⟩, hB, hWsz⟩
    have hc := hv.cell
    have hmx : k + 1 ≤ maxLen := by unfold maxLen; omega
    obtain ⟨p, hp⟩ : ∃ p, (parts 46 s)[k] = p := ⟨_, rfl⟩
    have HT := hide (map_take_succ (parts 46 s) k hk)
    rw [hp]
    have HP := hide hp
    clear hp
    gi_wp2_with (gi_at_builtin; refine wpListIn_append_own _ rfl _ _ 23 rfl (w1.heap.size + 4) 9 i0 (.string ⟨#[]⟩) 1 16 Tryd.underlying23 hi hz0 hz1 hz2 rfl (by decide) _ _ _ rfl (hrow.alloc _) ⟨W.heap.size, 0, none⟩ 1 1 [.string p] rfl rfl (cell_one_new _ _ _) (by simp [Value.oneCell']) (by omega) (by omega) (by simp; omega) ?_; intro v' w2 hown' hgrow _; obtain ⟨g', cap', rfl⟩ := ownsRow_succ hown'; obtain ⟨hv1, hv2, hr2, hk2, hb2⟩ := hv.appended (by decide) (ownsRow_base hrow (Nat.le_add_right w1.heap.size 4)) hB.size (Nat.le_refl _) (ownsRow_base hown' (Nat.le_add_right w1.heap.size 4)) hgrow; have hc1 := hv1.cell; have hf1 := hv1.frozen)
    have hr3 : (w2.setCell ⟨w1.heap.size, 0, none⟩ (.slice (some ⟨g', 0, none⟩) (k + 1) cap')).ownsRow (w1.heap.size + 4) 9 1 (.slice (some ⟨g', 0, none⟩) (k + 1) cap') (k + 1) (List.map Value.string (List.take k (parts 46 s)) ++ [Value.string p]) :=
      ownsRow_setCell_below hown' (a := ⟨w1.heap.size, 0, none⟩) (by show w1.heap.size < _; omega) _
    refine ⟨hk2, stays_appended hrow (by omega) hWsz (by omega) hgrow, ⟨_, hv2, ?_, trivial⟩, hB.trans hb2, Nat.le_trans hWsz hb2.size⟩
    rw [HT.out, HP.out]
    exact hr3
  case done =>
    rintro D W hD ⟨⟨v, hv, hrow, _⟩, hB, _⟩ hK
    have hc := hv.cell
    gi_wp2
    refine ⟨by simp, .inl ⟨_, _, rfl, run_takeDeferred hK, ?_⟩⟩
    have hrow' := ownsRow_base (ownsRow_putObj hrow (.deferred none) hK rfl) (show w.heap.size ≤ _ by have := hb1.size; omega)
    rw [List.take_length] at hrow'
    exact ⟨_, results_tmp rfl _ _ _, v, rfl, hrow', (hb1.trans (hB.mono hb1.size)).trans (belowK_b (w := w) (Nat.le_refl _) W D _ _ (by have := hb1.size; omega) hK rfl rfl)⟩
  case stop =>
    rintro D c k W _ _ h _
    exact h.elim

end Go.Proofs.YtnplmgamkcgihaaDoor
