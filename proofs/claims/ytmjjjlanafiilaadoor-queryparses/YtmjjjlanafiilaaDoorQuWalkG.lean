/-
  Walks: Parse (of package query).
-/
import Derived.Test.YtmjjjlanafiilaaDoorQuWalkF
namespace Go.Proofs.YtmjjjlanafiilaaDoor
open Go Go.RowKit Go.Shelf

attribute [local go_sem] Oper.semAt_some

theorem ownsRow_base {w : World} {base base' : Nat} {e : TypeId} {size : Nat} {v : Value} {n : Nat} {xs : List Value} (h : w.ownsRow base e size v n xs) (hb : base' ≤ base) : w.ownsRow base' e size v n xs := by
  obtain ⟨h1, h2⟩ := h
  refine ⟨h1, ?_⟩
  rcases h2 with h2 | ⟨g, cap, cur, hv, hg, r⟩
  · exact .inl h2
  · exact .inr ⟨g, cap, cur, hv, by omega, r⟩
theorem ownsRow_below {w w' : World} {base : Nat} {e : TypeId} {size : Nat} {v : Value} {n : Nat} {xs : List Value} (h : w.ownsRow base e size v n xs) (hb : Below w.heap.size w w') : w'.ownsRow base e size v n xs := by
  obtain ⟨h1, h2⟩ := h
  refine ⟨h1, ?_⟩
  rcases h2 with h2 | ⟨g, cap, cur, hv, hg, hh, r⟩
  · exact .inl h2
  · exact .inr ⟨g, cap, cur, hv, hg, (hb.block g (Array.getElem?_eq_some_iff.1 hh).1).trans hh, r⟩
theorem boxed_below {W W' : World} {B : Nat} {t : TypeId} {v : Value} (h : Boxed W B t v) (hb : Below W.heap.size W W') : Boxed W' B t v := (hb.block B h.lt).trans h
theorem keeps_below {W W' : World} (h : Below W.heap.size W W') : KeepsOthers W W' := ⟨h.size, fun k _ hk _ => (h.block k (Array.getElem?_eq_some_iff.1 hk).1).trans hk⟩

/-- Parse refuses: what is written into its results' boxes -/
theorem exit_ok {w W W4 : World} (h : Below W.heap.size W W4) (h0 : Boxed W w.heap.size 22 (.slice none 0 0)) (h1 : Boxed W (w.heap.size + 1) 24 (.int .i64 0)) (hB : Below w.heap.size w W) :
    KeepsOthers W ((W4.setCell ⟨w.heap.size, 0, none⟩ (.slice none 0 0)).setCell ⟨w.heap.size + 1, 0, none⟩ (.int .i64 2)) ∧ Boxed ((W4.setCell ⟨w.heap.size, 0, none⟩ (.slice none 0 0)).setCell ⟨w.heap.size + 1, 0, none⟩ (.int .i64 2)) w.heap.size 22 (.slice none 0 0) ∧
    Boxed ((W4.setCell ⟨w.heap.size, 0, none⟩ (.slice none 0 0)).setCell ⟨w.heap.size + 1, 0, none⟩ (.int .i64 2)) (w.heap.size + 1) 24 (.int .i64 2) ∧ Below w.heap.size w ((W4.setCell ⟨w.heap.size, 0, none⟩ (.slice none 0 0)).setCell ⟨w.heap.size + 1, 0, none⟩ (.int .i64 2)) := by
  refine ⟨((keeps_below h).trans (KeepsOthers.setCell _ _ _)).trans (KeepsOthers.setCell _ _ _), ?_, ?_, ?_⟩
  · exact Boxed.other ((boxed_below h0 h).set _) (by omega) _
  · exact (Boxed.other (boxed_below h1 h) (by omega) _).set _
  · exact ((hB.trans (h.mono hB.size)).setCell (p := ⟨w.heap.size, 0, none⟩) (Nat.le_refl _) _).setCell (p := ⟨w.heap.size + 1, 0, none⟩) (by show _ ≤ w.heap.size + 1; omega) _

/-- what Parse answers -/
def ParseRes (s : ByteArray) (w : World) (e : Ending) (w' : World) : Prop :=
  ((∃ v l, e = .returned (.tuple #[v, .int .i64 0]) ∧ Prs w' v l ∧ Qu.parse s.data.toList = some (l.map pl)) ∨ (e = .returned (.tuple #[.slice none 0 0, .int .i64 2]) ∧ Qu.parse s.data.toList = none)) ∧ Below w.heap.size w w'

set_option maxHeartbeats 400000 in
theorem qparse_empty (s : ByteArray) (w : World) (h : s.toList.isEmpty = true) :
    Calls Tryd.prog 17 #[.string s] w (ParseRes s w) := by
  have HP : Hid (Qu.parse s.data.toList = some ([].map pl)) := by
    rw [Lib.toList_data, List.isEmpty_iff] at h
    unfold Hid
    rw [h]
    rfl
  go_enter Tryd.func17, Tryd.ntmps17
  go_wp2_with fail
  refine bodyPost_ret (v := .tuple #[.slice none 0 0, .int .i64 0]) (by simp [results, Tryd.f17, go_sem]) rfl ⟨.inl ⟨_, [], rfl, Prs.nil _, HP.out⟩, ?_⟩
  exact ((Below.refl _ _).alloc (Nat.le_refl _) _).alloc (by simp) _

set_option maxRecDepth 100000 in
set_option maxHeartbeats 1600000 in
theorem qparse_some (s : ByteArray) (w : World) (hs : s.size ≤ 100000) (h : s.toList.isEmpty = false) :
    Calls Tryd.prog 17 #[.string s] w (ParseRes s w) := by
  have hne : s.data.toList ≠ [] := by
    intro e
    rw [Lib.toList_data, e] at h
    cases h
  have HNE := hide hne
  clear hne
  refine (callsIn_wide (n := 8)).1 ?_
  obtain ⟨i0, hi, hz0, hz1, hz2⟩ := info_parts Tryd.infoPair
  refine callsIn_of_wp_marks Tryd.func17 rfl trivial ?_ rfl
  simp only [Tryd.ntmps17, List.size_toArray, List.length_cons, List.length_nil, Nat.reduceAdd, Nat.reduceSub, Array.replicate_succ, Array.replicate_zero, List.push_toArray, List.append_toArray, List.nil_append, List.cons_append]
  gi_wp2_with fail
  refine ⟨trivial, (callsIn_wide.2 (SplitSeq_any _ _ _)).mono ?_⟩
  rintro e w' ⟨rfl, hw'⟩
  have b0 : Boxed w' w.heap.size 22 (.slice none 0 0) := by
    rw [hw']; exact (((((Boxed.new w 22 (.slice none 0 0)).alloc _).alloc _).alloc _).alloc _).alloc _
  have b1 : Boxed w' (w.heap.size + 1) 24 (.int .i64 0) := by
    have h := Boxed.new (w.alloc (.cells #[.slice none 0 0] 22)) 24 (.int .i64 0)
    simp only [World.size_alloc] at h
    rw [hw']; exact (((h.alloc _).alloc _).alloc _).alloc _
  have b2 : Boxed w' (w.heap.size + 1 + 1) 22 (.slice none 0 0) := by
    have h := Boxed.new ((w.alloc (.cells #[.slice none 0 0] 22)).alloc (.cells #[.int .i64 0] 24)) 22 (.slice none 0 0)
    simp only [World.size_alloc] at h
    rw [hw']; exact ((h.alloc _).alloc _).alloc _
  have hB0 : Below w.heap.size w w' := by
    rw [hw']; exact ((((Below.refl _ w).alloc (Nat.le_refl _) _).alloc (by simp) _).alloc (by simp; omega) _).trans (boxed3_below _ _ _ _ (by simp; omega))
  have hsz : w'.heap.size = w.heap.size + 6 := by rw [hw', boxed3_size]; simp
  have hst := split_steps 7 38 s _ w' (by unfold maxLen; omega) hw'
  simp only [World.size_alloc] at hst
  have HST := hide hst
  clear hst
  have HW := hide hw'
  clear hw'
  gi_wp2_with fail
  refine wpIn_rangeFunc_steps rfl (by omega) (gf := 37) (lb := #[.pointer (some ⟨w.heap.size + 1 + 1 + 1 + 1, 0, none⟩), .pointer (some ⟨w.heap.size + 1 + 1 + 1, 0, none⟩), .pointer (some ⟨w.heap.size + 1 + 1 + 1 + 2, 0, none⟩)]) rfl trivial (enters_of Tryd.func37 (by kernel_rfl) rfl)
    HST.out (Below.refl _ _) (by omega) rfl
    (fun k W => Boxed W w.heap.size 22 (.slice none 0 0) ∧ Boxed W (w.heap.size + 1) 24 (.int .i64 0) ∧ (∃ v, Boxed W (w.heap.size + 1 + 1) 22 v ∧ W.ownsRow (w.heap.size + 6) 42 2 v k (flat ((prs s).take k)) ∧ True) ∧
      (k ≤ 20 ∧ ∀ j (hj : j < (parts 38 s).length), j < k → (Qu.part (parts 38 s)[j].data.toList).isSome = true ∧ Qu.mayP (pl (pairB (parts 38 s)[j])) = true) ∧ Below w.heap.size w W ∧ w.heap.size + 6 ≤ W.heap.size)
    (fun c _ W => Boxed W w.heap.size 22 (.slice none 0 0) ∧ Boxed W (w.heap.size + 1) 24 (.int .i64 2) ∧ c = .ret ∧ Qu.parse s.data.toList = none ∧ Below w.heap.size w W)
    (OwnFrom.and (Own.from (boxed_own _ _ _) _) (OwnFrom.and (Own.from (boxed_own _ _ _) _) (OwnFrom.and (Own.from (holdsRow_own (w.heap.size + 6) (w.heap.size + 1 + 1) 22 42 2 (fun k => k) (fun k => flat ((prs s).take k)) (fun _ _ => True)) _)
      (OwnFrom.and (fun _ _ _ _ h _ _ => h) (OwnFrom.and (ownFrom_below (Nat.le_refl _) (by omega)) (fun _ _ _ _ h hg _ => Nat.le_trans h hg.size))))))
    (fun c => OwnFrom.and (Own.from (boxed_own _ _ _) _) (OwnFrom.and (Own.from (boxed_own _ _ _) _) (OwnFrom.and (fun _ _ _ _ h _ _ => h) (OwnFrom.and (fun _ _ _ _ h _ _ => h) (ownFrom_below (Nat.le_refl _) (by omega))))))
    (fun k W v h => by
      obtain ⟨h0, h1, ⟨v0, hv0, hr0, _⟩, hp, hB, hz⟩ := h
      exact ⟨boxed_far h0 (by omega) v, boxed_far h1 (by omega) v, ⟨v0, boxed_far hv0 (by omega) v, ownsRow_setCell_below hr0 (a := ⟨w.heap.size + 1 + 1 + 1, 0, none⟩) (by show w.heap.size + 1 + 1 + 1 < _; omega) v, trivial⟩, hp, hB.setCell (p := ⟨w.heap.size + 1 + 1 + 1, 0, none⟩) (by show _ ≤ w.heap.size + 1 + 1 + 1; omega) v, Nat.le_trans hz (KeepsOthers.setCell W ⟨w.heap.size + 1 + 1 + 1, 0, none⟩ v).size⟩)
    (fun c k W v h => ⟨boxed_far h.1 (by omega) v, boxed_far h.2.1 (by omega) v, h.2.2.1, h.2.2.2.1, h.2.2.2.2.setCell (p := ⟨w.heap.size + 1 + 1 + 1, 0, none⟩) (by show _ ≤ w.heap.size + 1 + 1 + 1; omega) v⟩)
    ⟨b0, b1, ⟨_, b2, World.ownsRow_nil _ _ _ _, trivial⟩, ⟨by omega, fun _ _ h => absurd h (by omega)⟩, hB0, by omega⟩
    (fun x => { tmps := #[.string s, undef, .pointer (some ⟨w.heap.size, 0, none⟩), .pointer (some ⟨w.heap.size + 1, 0, none⟩), .pointer (some ⟨w.heap.size + 1 + 1, 0, none⟩), .string x, undef, undef, .string s, .bool false, .string s, itv (w.heap.size + 1 + 1 + 1), .string x, undef, undef, undef, undef, undef, undef, undef, undef, undef, undef, undef, undef, undef, undef, undef, undef, undef, undef, undef, undef, undef, undef], defers := [] }) ?assign ?body ?done ?stop
  case assign =>
    intro l x W K hK
    gi_wp2
    exact hK
  case body =>
    rintro l k W hk ⟨h0, h1, ⟨v, hv, hrow, _⟩, ⟨hk20, hall⟩, hB, hWsz⟩
    have hps := part_size 38 s hk
    have hpl := pairB_len (parts 38 s)[k]
    have HSN := hide (flat_snoc (prs s) k (by rw [prs_len]; exact hk))
    rw [prs_at s k hk] at HSN
    have HBAD := hide (parse_bad s HNE.out k hk)
    have HALL := hide hall
    clear hall
    have hvs : ∃ a c, v = .slice a k c := by
      rcases hrow.2 with ⟨rfl, h⟩ | ⟨g, cap, cur, rfl, _⟩
      · exact ⟨none, 0, by rw [h]⟩
      · exact ⟨_, _, rfl⟩
    obtain ⟨va, vc, rfl⟩ := hvs
    obtain ⟨p, hp⟩ : ∃ p, (parts 38 s)[k] = p := ⟨_, rfl⟩
    have HP := hide hp
    rw [hp] at hps hpl HSN HBAD
    rw [hp]
    clear hp
    have RP := fun X => hide (readPair_any p X (by omega))
    have MP := fun X => hide (mayPair_any (pairB p).1 (pairB p).2 X (by unfold maxLen; omega) (by unfold maxLen; omega))
    have HPP : Hid (pl (pairB p) = pl ((pairB p).1, (pairB p).2)) := rfl
    have hx1 : (pairB p).1.size ≤ 100000 := by omega
    have hx2 : (pairB p).2.size ≤ 100000 := by omega
    clear hpl hps
    rw [HPP.out] at HBAD
    generalize (pairB p).1 = x at *
    generalize (pairB p).2 = y at *
    cases hpart : (Qu.part p.data.toList).isSome
    · have HE := hide (HBAD.out (.inl hpart))
      have HPT := hide hpart
      clear hpart HBAD
      gi_wp2_with fail
      refine ⟨trivial, (CallsIn.inRound l (callsIn_wide.2 (RP _).out)).mono ?_⟩
      rintro e w2 ⟨rfl, hb2⟩
      rw [HPT.out]
      have bA : Below W.heap.size W (w2.alloc (.cells #[.string x, .string y] 42)) := hb2.alloc hb2.size _
      have hc0 := (boxed_below h0 bA).cell
      have hf0 := (boxed_below h0 bA).frozen
      have hc1 := (boxed_below h1 bA).cell
      have hf1 := (boxed_below h1 bA).frozen
      have hc2 := (boxed_below hv bA).cell
      have hf2 := (boxed_below hv bA).frozen
      gi_wp2_with fail
      refine ⟨trivial, ?_⟩
      gi_wp2_with fail
      obtain ⟨z1, z2, z3, z4⟩ := exit_ok bA h0 h1 hB
      exact ⟨z1, z2, z3, rfl, HE.out, z4⟩
    · have HPT := hide hpart
      cases hmp : Qu.mayP (pl (x, y))
      · have HE := hide (HBAD.out (.inr (.inl hmp)))
        have HM := hide hmp
        clear hmp HBAD hpart
        gi_wp2_with fail
        refine ⟨trivial, (CallsIn.inRound l (callsIn_wide.2 (RP _).out)).mono ?_⟩
        rintro e w2 ⟨rfl, hb2⟩
        rw [HPT.out]
        gi_wp2_with fail
        refine ⟨trivial, (CallsIn.inRound l (callsIn_wide.2 (MP _).out)).mono ?_⟩
        rintro e w4 ⟨rfl, hb4⟩
        rw [HM.out]
        have bA : Below W.heap.size W w4 := (hb2.alloc hb2.size _).trans (hb4.mono (by have := hb2.size; simp; omega))
        have hc0 := (boxed_below h0 bA).cell
        have hf0 := (boxed_below h0 bA).frozen
        have hc1 := (boxed_below h1 bA).cell
        have hf1 := (boxed_below h1 bA).frozen
        have hc2 := (boxed_below hv bA).cell
        have hf2 := (boxed_below hv bA).frozen
        gi_wp2_with fail
        obtain ⟨z1, z2, z3, z4⟩ := exit_ok bA h0 h1 hB
        exact ⟨z1, z2, z3, rfl, HE.out, z4⟩
      · have HM := hide hmp
        clear hmp
        by_cases h20 : k = 20
        · have HE := hide (HBAD.out (.inr (.inr (by omega))))
          clear HBAD hpart
          have t20 : ((k : Int) == 20) = true := by rw [h20]; rfl
          gi_wp2_with fail
          refine ⟨trivial, (CallsIn.inRound l (callsIn_wide.2 (RP _).out)).mono ?_⟩
          rintro e w2 ⟨rfl, hb2⟩
          rw [HPT.out]
          gi_wp2_with fail
          refine ⟨trivial, (CallsIn.inRound l (callsIn_wide.2 (MP _).out)).mono ?_⟩
          rintro e w4 ⟨rfl, hb4⟩
          rw [HM.out]
          have bA : Below W.heap.size W w4 := (hb2.alloc hb2.size _).trans (hb4.mono (by have := hb2.size; simp; omega))
          have hc0 := (boxed_below h0 bA).cell
          have hf0 := (boxed_below h0 bA).frozen
          have hc1 := (boxed_below h1 bA).cell
          have hf1 := (boxed_below h1 bA).frozen
          have hc2 := (boxed_below hv bA).cell
          have hf2 := (boxed_below hv bA).frozen
          gi_wp2_with fail
          obtain ⟨z1, z2, z3, z4⟩ := exit_ok bA h0 h1 hB
          exact ⟨z1, z2, z3, rfl, HE.out, z4⟩
        · have t20 : ((k : Int) == 20) = false := beq_eq_false_iff_ne.2 (by omega)
          clear HBAD hpart
          gi_wp2_with fail
          refine ⟨trivial, (CallsIn.inRound l (callsIn_wide.2 (RP _).out)).mono ?_⟩
          rintro e w2 ⟨rfl, hb2⟩
          rw [HPT.out]
          gi_wp2_with fail
          refine ⟨trivial, (CallsIn.inRound l (callsIn_wide.2 (MP _).out)).mono ?_⟩
          rintro e w4 ⟨rfl, hb4⟩
          rw [HM.out]
          have bA : Below W.heap.size W w4 := (hb2.alloc hb2.size _).trans (hb4.mono (by have := hb2.size; simp; omega))
          have bp4 := (hb4.block w2.heap.size (by simp)).trans (alloc_new w2 _)
          have hp1 := box_fst bp4
          have hp2 := box_snd bp4
          have hv4 := boxed_below hv bA
          have hr4 := ownsRow_below hrow bA
          have hw4 := bA.size
          have hc0 := (boxed_below h0 bA).cell
          have hf0 := (boxed_below h0 bA).frozen
          have hc1 := (boxed_below h1 bA).cell
          have hf1 := (boxed_below h1 bA).frozen
          have hc2 := (boxed_below hv bA).cell
          have hf2 := (boxed_below hv bA).frozen
          gi_wp2_with (gi_at_builtin; refine wpListIn_append_own _ rfl _ _ 22 rfl (w.heap.size + 6) 42 i0 (.agg #[.string ⟨#[]⟩, .string ⟨#[]⟩]) 2 32 Tryd.underlying22 hi hz0 hz1 hz2 rfl (by decide) _ _ _ rfl (hr4.alloc _) ⟨w4.heap.size, 0, none⟩ 1 1 [.string x, .string y] rfl rfl (World.news_of_block (heap_alloc_new _ _)) (by simp [Value.oneCell']) (by unfold maxLen; omega) (by omega) (by simp; omega) ?_; intro v' w5 hown' hgrow _; obtain ⟨g', cap', rfl⟩ := ownsRow_succ hown'; obtain ⟨hv1, hv2, hr2, hk2, hb5⟩ := hv4.appended (by decide) (ownsRow_base hr4 (show w.heap.size ≤ w.heap.size + 6 by omega)) (by omega) (show w.heap.size ≤ w.heap.size + 1 + 1 by omega) (ownsRow_base hown' (show w.heap.size ≤ w.heap.size + 6 by omega)) hgrow; have hcA := hv1.cell; have hfA := hv1.frozen)
          have hr6 : (w5.setCell ⟨w.heap.size + 1 + 1, 0, none⟩ (.slice (some ⟨g', 0, none⟩) (k + 1) cap')).ownsRow (w.heap.size + 6) 42 2 (.slice (some ⟨g', 0, none⟩) (k + 1) cap') (k + 1) (flat ((prs s).take (k + 1))) := by
            rw [HSN.out]
            exact ownsRow_setCell_below hown' (a := ⟨w.heap.size + 1 + 1, 0, none⟩) (by show w.heap.size + 1 + 1 < _; omega) _
          have q0 := ((boxed_below h0 bA).alloc (.cells #[.string x, .string y] 42)).kept hgrow (Boxed.not_row (boxed_below h0 bA) (by decide) hr4)
          have q1 := ((boxed_below h1 bA).alloc (.cells #[.string x, .string y] 42)).kept hgrow (Boxed.not_row (boxed_below h1 bA) (by decide) hr4)
          refine ⟨(keeps_below bA).trans hk2, ?_, Boxed.other q0 (by omega) _, Boxed.other q1 (by omega) _, ⟨_, hv2, hr6, trivial⟩, ⟨by omega, ?_⟩, (hB.trans (bA.mono hB.size)).trans hb5, Nat.le_trans (Nat.le_trans hWsz hw4) hb5.size⟩
          · intro b hb1 hb2'
            rw [Below.heap_setCell _ _ _ _ (by show b ≠ w.heap.size + 1 + 1; omega), hgrow.block b (by simp; omega) (fun e => by have := ownBlock_ge hr4 e.symm; omega)]
            exact (Below.heap_alloc _ _ _ (by omega)).trans (bA.block b (by omega))
          · intro j hj hjk
            by_cases e : j = k
            · subst e
              rw [HP.out]
              exact ⟨HPT.out, by rw [HPP.out]; exact HM.out⟩
            · exact HALL.out j hj (by omega)
  case done =>
    rintro D W hD ⟨h0, h1, ⟨v, hv, hrow, _⟩, ⟨hk20, hall⟩, hB, hWsz⟩ hK
    have HPG := hide (parse_good s HNE.out (fun j hj => hall j hj hj) hk20)
    have HPR : Hid (W.ownsRow (w.heap.size + 6) 42 2 v (prs s).length (flat (prs s))) := by
      unfold Hid
      have h2 := hrow
      rw [← prs_len, List.take_length] at h2
      exact h2
    clear hall hrow
    have hvs : ∃ a c, v = .slice a (prs s).length c := by
      rcases HPR.out.2 with ⟨rfl, h⟩ | ⟨g, cap, cur, rfl, _⟩
      · exact ⟨none, 0, by rw [h]⟩
      · exact ⟨_, _, rfl⟩
    obtain ⟨va, vc, rfl⟩ := hvs
    have hc0 := h0.cell
    have hf0 := h0.frozen
    have hc1 := h1.cell
    have hf1 := h1.frozen
    have hc2 := hv.cell
    gi_wp2
    have g0 := Boxed.other (h0.set (.slice va (prs s).length vc)) (show w.heap.size ≠ w.heap.size + 1 by omega) (.int .i64 0)
    have g1 := (Boxed.other h1 (show w.heap.size + 1 ≠ w.heap.size by omega) (.slice va (prs s).length vc)).set (.int .i64 0)
    have gK := ((KeepsOthers.setCell W ⟨w.heap.size, 0, none⟩ (.slice va (prs s).length vc)).trans (KeepsOthers.setCell _ ⟨w.heap.size + 1, 0, none⟩ (.int .i64 0))).same D _ hK rfl
    have gR := ownsRow_setCell_below (ownsRow_setCell_below HPR.out (a := ⟨w.heap.size, 0, none⟩) (by show w.heap.size < _; omega) (.slice va (prs s).length vc)) (a := ⟨w.heap.size + 1, 0, none⟩) (by show w.heap.size + 1 < _; omega) (.int .i64 0)
    have gB := (hB.setCell (p := ⟨w.heap.size, 0, none⟩) (Nat.le_refl _) (.slice va (prs s).length vc)).setCell (p := ⟨w.heap.size + 1, 0, none⟩) (by show w.heap.size ≤ w.heap.size + 1; omega) (.int .i64 0)
    generalize (W.setCell ⟨w.heap.size, 0, none⟩ (.slice va (prs s).length vc)).setCell ⟨w.heap.size + 1, 0, none⟩ (.int .i64 0) = W5 at *
    refine ⟨by simp, .inl ⟨_, _, rfl, run_takeDeferred gK, ?_⟩⟩
    have hd0 := cell_kept g0.cell (grownBy_putObj' _ D (.deferred none)) (fun r e => by cases e; exact ⟨_, gK, rfl⟩)
    have hd1 := cell_kept g1.cell (grownBy_putObj' _ D (.deferred none)) (fun r e => by cases e; exact ⟨_, gK, rfl⟩)
    refine ⟨.tuple #[.slice va (prs s).length vc, .int .i64 0], ?_, .inl ⟨_, prs s, rfl, Prs.of_row rfl (ownsRow_putObj gR (.deferred none) gK rfl), HPG.out⟩, gB.trans (belowK_b (w := w) (Nat.le_refl _) W5 D _ _ (by omega) gK rfl rfl)⟩
    simp [results, Tryd.f17, go_sem, hd0, hd1]
  case stop =>
    rintro D c k W hD hk ⟨h0, h1, rfl, hn, hB⟩ hK
    have HN := hide hn
    clear hn
    have hc0 := h0.cell
    have hc1 := h1.cell
    gi_wp2
    refine ⟨by simp, .inl ⟨_, _, rfl, run_takeDeferred hK, ?_⟩⟩
    have hd0 := cell_kept hc0 (grownBy_putObj' _ D (.deferred none)) (fun r e => by cases e; exact ⟨_, hK, rfl⟩)
    have hd1 := cell_kept hc1 (grownBy_putObj' _ D (.deferred none)) (fun r e => by cases e; exact ⟨_, hK, rfl⟩)
    refine ⟨.tuple #[.slice none 0 0, .int .i64 2], ?_, .inr ⟨rfl, HN.out⟩, hB.trans (belowK_b (w := w) (Nat.le_refl _) W D _ _ (by omega) hK rfl rfl)⟩
    simp [results, Tryd.f17, go_sem, hd0, hd1]

theorem qparse_any (s : ByteArray) (w : World) (hs : s.size ≤ 100000) : Calls Tryd.prog 17 #[.string s] w (ParseRes s w) := by
  cases h : s.toList.isEmpty
  · exact qparse_some s w hs h
  · exact qparse_empty s w h
theorem qparse_yes (s : ByteArray) (l : List PairB) (w : World) (hs : s.size ≤ 100000) (h : Qu.parse s.data.toList = some (l.map pl)) :
    Calls Tryd.prog 17 #[.string s] w fun e w' => ∃ v, e = .returned (.tuple #[v, .int .i64 0]) ∧ Prs w' v l ∧ Below w.heap.size w w' := by
  refine (qparse_any s w hs).mono ?_
  rintro e w' ⟨⟨v, l', rfl, hv, hp⟩ | ⟨_, hp⟩, hb⟩
  · rw [h] at hp
    obtain rfl := map_pl_inj (Option.some.inj hp)
    exact ⟨v, rfl, hv, hb⟩
  · rw [h] at hp; cases hp
theorem qparse_no (s : ByteArray) (w : World) (hs : s.size ≤ 100000) (h : Qu.parse s.data.toList = none) :
    Calls Tryd.prog 17 #[.string s] w fun e w' => e = .returned (.tuple #[.slice none 0 0, .int .i64 2]) ∧ Below w.heap.size w w' := by
  refine (qparse_any s w hs).mono ?_
  rintro e w' ⟨⟨v, l', rfl, hv, hp⟩ | ⟨he, _⟩, hb⟩
  · rw [h] at hp; cases hp
  · exact ⟨he, hb⟩

end Go.Proofs.YtmjjjlanafiilaaDoor
