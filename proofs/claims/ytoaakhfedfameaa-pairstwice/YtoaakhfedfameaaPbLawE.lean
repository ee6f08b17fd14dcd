/-
  The law PairsTwice.
-/
import Derived.Test.YtoaakhfedfameaaPbLawD
import Derived.Test.YtoaakhfedfameaaFacts
namespace Go.Proofs.Ytoaakhfedfameaa
open Go Go.RowKit Go.Shelf Go.ChangeShapes Go.WideShapes Go.Deep

theorem few_one (a b : ByteArray) : fewB2 [(a, b)] = [(fewB a, fewB b)] := rfl
/-- a new pair's box -/
abbrev newP : Obj := .cells #[.string ⟨#[]⟩, .string ⟨#[]⟩] 38

/-- what each operation of 'x, y := Few([]api.Pair{a})[0], Few([]api.Pair{b})[0]' leaves -/
def twF (B : Nat) (a1 a2 b1 b2 x1 x2 y1 y2 : ByteArray) : Nat → World → Value → Prop
  | 0, _, v => v = .agg #[.string a1, .string a2]
  | 1, w, v => Prs w v [(a1, a2)]
  | 2, w, v => Prs w v [(x1, x2)]
  | 3, w, v => ∃ g off, v = .pointer (some ⟨g, off, none⟩) ∧ g < w.heap.size ∧ w.cell? ⟨g, off, none⟩ = some (.string x1) ∧ w.cell? ⟨g, off + 1, none⟩ = some (.string x2)
  | 4, _, v => v = .agg #[.string x1, .string x2]
  | 5, _, v => v = .agg #[.string b1, .string b2]
  | 6, w, v => Prs w v [(b1, b2)]
  | 7, w, v => Prs w v [(y1, y2)]
  | 8, w, v => ∃ g off, v = .pointer (some ⟨g, off, none⟩) ∧ g < w.heap.size ∧ w.cell? ⟨g, off, none⟩ = some (.string y1) ∧ w.cell? ⟨g, off + 1, none⟩ = some (.string y2)
  | 9, _, v => v = .agg #[.string y1, .string y2]
  | 10, w, v => ∃ g, v = .pointer (some ⟨g, 0, none⟩) ∧ B ≤ g ∧ w.heap[g]? = some newP
  | 11, w, v => ∃ g, v = .pointer (some ⟨g, 0, none⟩) ∧ B ≤ g ∧ w.heap[g]? = some newP
  | _, _, _ => True
/-- the block that a value lies in -/
def blk : Value → Option Nat
  | .slice (some a) _ _ => some a.block
  | .pointer (some a) => some a.block
  | _ => none
/-- the operations whose values must lie in different blocks -/
def relB (i j : Nat) : Bool := (i == 10 && (j == 11 || j == 7 || j == 8)) || (j == 10 && (i == 11 || i == 7 || i == 8))
def twG (i j : Nat) (v u : Value) : Prop := relB i j = true → blk v ≠ blk u
theorem twG_sym (i j : Nat) (v u : Value) (h : twG i j v u) : twG j i u v := fun hij e => h (by unfold relB at *; rw [Bool.or_comm]; exact hij) e.symm
theorem ptr_grow {w w' : World} {v : Value} {x y : ByteArray} (hg : Grow w w') (h : ∃ g off, v = .pointer (some ⟨g, off, none⟩) ∧ g < w.heap.size ∧ w.cell? ⟨g, off, none⟩ = some (.string x) ∧ w.cell? ⟨g, off + 1, none⟩ = some (.string y)) :
    ∃ g off, v = .pointer (some ⟨g, off, none⟩) ∧ g < w'.heap.size ∧ w'.cell? ⟨g, off, none⟩ = some (.string x) ∧ w'.cell? ⟨g, off + 1, none⟩ = some (.string y) := by
  obtain ⟨g, off, hv, hlt, c1, c2⟩ := h
  exact ⟨g, off, hv, Nat.lt_of_lt_of_le hlt (Below.size hg), (Below.cell hg (p := ⟨g, off, none⟩) hlt).trans c1, (Below.cell hg (p := ⟨g, off + 1, none⟩) hlt).trans c2⟩
theorem box_grow {w w' : World} {v : Value} {B : Nat} (hg : Grow w w') (h : ∃ g, v = .pointer (some ⟨g, 0, none⟩) ∧ B ≤ g ∧ w.heap[g]? = some newP) : ∃ g, v = .pointer (some ⟨g, 0, none⟩) ∧ B ≤ g ∧ w'.heap[g]? = some newP := by
  obtain ⟨g, hv, hB, hb⟩ := h
  exact ⟨g, hv, hB, hg.block hb⟩
theorem twF_grow {B : Nat} {a1 a2 b1 b2 x1 x2 y1 y2 : ByteArray} (i : Nat) (w w' : World) (v : Value) (hg : Grow w w') (h : twF B a1 a2 b1 b2 x1 x2 y1 y2 i w v) : twF B a1 a2 b1 b2 x1 x2 y1 y2 i w' v := by
  match i, h with
  | 0, h => exact h
  | 1, h => exact Prs.below h hg
  | 2, h => exact Prs.below h hg
  | 3, h => exact ptr_grow hg h
  | 4, h => exact h
  | 5, h => exact h
  | 6, h => exact Prs.below h hg
  | 7, h => exact Prs.below h hg
  | 8, h => exact ptr_grow hg h
  | 9, h => exact h
  | 10, h => exact box_grow hg h
  | 11, h => exact box_grow hg h
  | _ + 12, _ => trivial
theorem blk_lt {B : Nat} {a1 a2 b1 b2 x1 x2 y1 y2 : ByteArray} {j : Nat} {w : World} {u : Value} (hj : j = 7 ∨ j = 8 ∨ j = 10 ∨ j = 11) (h : twF B a1 a2 b1 b2 x1 x2 y1 y2 j w u) : ∃ g, blk u = some g ∧ g < w.heap.size := by
  rcases hj with rfl | rfl | rfl | rfl
  · obtain ⟨a, cap, rfl, _, _, hc⟩ := h
    obtain ⟨g, off, rfl, hg, _⟩ := hc 0 (by simp)
    exact ⟨g, rfl, hg⟩
  · obtain ⟨g, off, rfl, hg, _⟩ := h
    exact ⟨g, rfl, hg⟩
  · obtain ⟨g, rfl, _, hb⟩ := h
    exact ⟨g, rfl, (Array.getElem?_eq_some_iff.1 hb).1⟩
  · obtain ⟨g, rfl, _, hb⟩ := h
    exact ⟨g, rfl, (Array.getElem?_eq_some_iff.1 hb).1⟩
theorem rel_cases {i j : Nat} (h : relB i j = true) : (i = 7 ∨ i = 8 ∨ i = 10 ∨ i = 11) ∧ (j = 7 ∨ j = 8 ∨ j = 10 ∨ j = 11) := by
  unfold relB at h
  simp only [Bool.or_eq_true, Bool.and_eq_true, beq_iff_eq] at h
  omega
theorem tw_none {i : Nat} {L : Nat → Prop} {v : Value} {f : Nat → Value} (h : ¬ (i = 7 ∨ i = 8 ∨ i = 10 ∨ i = 11)) : ∀ j, L j → j ≠ i → twG i j v (f j) := fun _ _ _ hr => absurd (rel_cases hr).1 h
theorem tw_fresh {S : World → Prop} {B : Nat} {a1 a2 b1 b2 x1 x2 y1 y2 : ByteArray} {i : Nat} {L : Nat → Prop} {f : Nat → Value} {w : World} (hk : Known S (twF B a1 a2 b1 b2 x1 x2 y1 y2) twG L f w) {v : Value} {g : Nat} (hv : blk v = some g) (hg : w.heap.size ≤ g) : ∀ j, L j → j ≠ i → twG i j v (f j) := by
  intro j hj _ hr e
  obtain ⟨g', h1, h2⟩ := blk_lt (rel_cases hr).2 (hk.hf j hj)
  rw [hv, h1] at e
  cases e
  omega
theorem below12 {i : Nat} (h : i < 12) : i = 0 ∨ i = 1 ∨ i = 2 ∨ i = 3 ∨ i = 4 ∨ i = 5 ∨ i = 6 ∨ i = 7 ∨ i = 8 ∨ i = 9 ∨ i = 10 ∨ i = 11 := by omega

theorem below14 {i : Nat} (h : i < 14) : i = 0 ∨ i = 1 ∨ i = 2 ∨ i = 3 ∨ i = 4 ∨ i = 5 ∨ i = 6 ∨ i = 7 ∨ i = 8 ∨ i = 9 ∨ i = 10 ∨ i = 11 ∨ i = 12 ∨ i = 13 := by omega

set_option linter.unusedSimpArgs false in
set_option maxHeartbeats 3200000 in
theorem twice_law (v0 : Value) (a1 a2 b1 b2 : ByteArray) (w : World) (l0 : List PairB) (p0 : Prs w v0 l0) (ok0 : ∀ p ∈ l0, okP p) (ha1 : a1.size ≤ maxLen) (ha2 : a2.size ≤ maxLen) (hb1 : b1.size ≤ maxLen) (hb2 : b2.size ≤ maxLen) :
    Calls Try.prog 8 #[v0, .agg #[.string a1, .string a2], .agg #[.string b1, .string b2]] w fun e w' => e = .returned (.bool true) ∧ Below w.heap.size w w' := by
  have CF := fun W (h : Prs W v0 l0) => hide (bfew_any v0 l0 W h ok0)
  have okl := hide (bfew_okP l0)
  have hl := bfew_len l0
  have CX := fun v W (h : Prs W v [(a1, a2)]) => hide (bfew_any v _ W h (fun p hp => by rw [List.mem_singleton] at hp; subst hp; exact ⟨ha1, ha2⟩))
  have CZ := fun v W (h : Prs W v [(b1, b2)]) => hide (bfew_any v _ W h (fun p hp => by rw [List.mem_singleton] at hp; subst hp; exact ⟨hb1, hb2⟩))
  rw [few_one] at CX CZ
  have hx1 := fewB_max a1
  have hx2 := fewB_max a2
  have hy1 := fewB_max b1
  have hy2 := fewB_max b2
  generalize fewB2 l0 = l at *
  generalize fewB a1 = x1 at *
  generalize fewB a2 = x2 at *
  generalize fewB b1 = y1 at *
  generalize fewB b2 = y2 at *
  clear ha1 ha2 hb1 hb2
  go_enter Try.func8, Try.ntmps8
  go_wp2_with fail
  refine (CF _ (p0.below (((Below.refl _ _).alloc (Nat.le_refl _) _).alloc (by simp) _))).out.mono ?_
  rintro e w1 ⟨v1, rfl, r1, hb1⟩
  have ql := Prs.of_row rfl r1
  have S0 := below_box (below_box hb1)
  have k1 : w1.heap[w.heap.size]? = some (.cells #[.string a1, .string a2] 38) := box_block (below_box hb1)
  have k2 : w1.heap[w.heap.size + 1]? = some (.cells #[.string b1, .string b2] 38) := by
    have := box_block hb1
    simpa using this
  clear r1 hb1 CF
  go_wp2_with fail
  refine region_out [some 18, some 19, some 20, some 21, some 22, some 23, some 24, some 25, some 26, some 27, some 7, some 8] (fun f W => ∃ gx gy, f 10 = .pointer (some ⟨gx, 0, none⟩) ∧ f 11 = .pointer (some ⟨gy, 0, none⟩) ∧ W.heap[gx]? = some (.cells #[.string x1, .string x2] 38) ∧ W.heap[gy]? = some (.cells #[.string y1, .string y2] 38) ∧ Below w1.heap.size w1 W) ?_ ?_
  · refine wp_region_facts 12 5 (fun W' => Below w1.heap.size w1 W') (twF w1.heap.size a1 a2 b1 b2 x1 x2 y1 y2) twG [some 18, some 19, some 20, some 21, some 22, some 23, some 24, some 25, some 26, some 27, some 7, some 8] (fun _ => undef) (by kernel_rfl) (by kernel_rfl) (by decide) (by kernel_rfl) (by simp only [putF, Act.put, List.setIfInBounds_toArray, List.set_cons_zero, List.set_cons_succ]) ((Below.refl _ _).drew) twF_grow twG_sym (fun i hi => ?_) ?_ (fun _ _ h => absurd h (by decide))
    · rcases below12 hi with rfl | rfl | rfl | rfl | rfl | rfl | rfl | rfl | rfl | rfl | rfl | rfl
      · refine stepF_of rfl fun L f W hk hw => ⟨by rfl, fun K hK => ?_⟩
        have hS := hk.hs
        have e1 := cells_fst ((hS.block _ (Array.getElem?_eq_some_iff.1 k1).1).trans k1)
        have e2 := cells_snd ((hS.block _ (Array.getElem?_eq_some_iff.1 k1).1).trans k1)
        simp only [putF, Act.put, List.setIfInBounds_toArray, List.set_cons_zero, List.set_cons_succ, Nat.reduceAdd]
        go_simp
        exact hK.out _ W _ (by simp only [putF, Act.put, List.setIfInBounds_toArray, List.set_cons_zero, List.set_cons_succ, Nat.reduceAdd]) (Grow.refl _) hS rfl (tw_none (by decide))
      · refine stepF_of rfl fun L f W hk hw => ⟨by rfl, fun K hK => ?_⟩
        have hS := hk.hs
        have h0 := hk.hf 0 (hw 0 (by kernel_rfl))
        change f 0 = _ at h0
        simp only [putF, Act.put, List.setIfInBounds_toArray, List.set_cons_zero, List.set_cons_succ, Nat.reduceAdd]
        rw [h0]
        go_simp
        exact hK.out _ _ _ (by simp only [putF, Act.put, List.setIfInBounds_toArray, List.set_cons_zero, List.set_cons_succ, Nat.reduceAdd]; rw [h0]) ((Below.refl _ _).alloc (Nat.le_refl _) _) (hS.alloc hS.size _) (Prs.lit1 W a1 a2) (tw_none (by decide))
      · refine stepF_of rfl fun L f W hk hw => ⟨by rfl, fun K hK => ?_⟩
        have hS := hk.hs
        have h1 := hk.hf 1 (hw 1 (by kernel_rfl))
        simp only [putF, Act.put, List.setIfInBounds_toArray, List.set_cons_zero, List.set_cons_succ, Nat.reduceAdd]
        go_simp
        refine (CX _ _ h1).out.mono ?_
        rintro e W2 ⟨v2, rfl, r2, hb2⟩
        go_wp2_with fail
        exact hK.out _ W2 _ (by simp only [putF, Act.put, List.setIfInBounds_toArray, List.set_cons_zero, List.set_cons_succ, Nat.reduceAdd]) hb2 (hS.trans (hb2.mono hS.size)) (Prs.of_row rfl r2) (tw_none (by decide))
      · refine stepF_of rfl fun L f W hk hw => ⟨by rfl, fun K hK => ?_⟩
        have hS := hk.hs
        have h2 : Prs W (f 2) [(x1, x2)] := hk.hf 2 (hw 2 (by kernel_rfl))
        simp only [putF, Act.put, List.setIfInBounds_toArray, List.set_cons_zero, List.set_cons_succ, Nat.reduceAdd]
        obtain ⟨a, cap, hv, _, _, hc⟩ := h2
        obtain ⟨g, off, rfl, hg, c1, c2⟩ := hc 0 (by simp)
        simp only [List.length_cons, List.length_nil, Nat.zero_mul, Nat.add_zero, List.getElem_cons_zero] at hv c1 c2
        rw [hv]
        go_simp
        exact hK.out _ W _ (by simp only [putF, Act.put, List.setIfInBounds_toArray, List.set_cons_zero, List.set_cons_succ, Nat.reduceAdd]; rw [hv]) (Grow.refl _) hS ⟨g, off, rfl, hg, c1, c2⟩ (tw_none (by decide))
      · refine stepF_of rfl fun L f W hk hw => ⟨by rfl, fun K hK => ?_⟩
        have hS := hk.hs
        have h3 : ∃ g off, f 3 = .pointer (some ⟨g, off, none⟩) ∧ g < W.heap.size ∧ W.cell? ⟨g, off, none⟩ = some (.string x1) ∧ W.cell? ⟨g, off + 1, none⟩ = some (.string x2) := hk.hf 3 (hw 3 (by kernel_rfl))
        simp only [putF, Act.put, List.setIfInBounds_toArray, List.set_cons_zero, List.set_cons_succ, Nat.reduceAdd]
        obtain ⟨g, off, hv, hg, c1, c2⟩ := h3
        rw [hv]
        go_simp
        exact hK.out _ W _ (by simp only [putF, Act.put, List.setIfInBounds_toArray, List.set_cons_zero, List.set_cons_succ, Nat.reduceAdd]; rw [hv]) (Grow.refl _) hS rfl (tw_none (by decide))
      · refine stepF_of rfl fun L f W hk hw => ⟨by rfl, fun K hK => ?_⟩
        have hS := hk.hs
        have e1 := cells_fst ((hS.block _ (Array.getElem?_eq_some_iff.1 k2).1).trans k2)
        have e2 := cells_snd ((hS.block _ (Array.getElem?_eq_some_iff.1 k2).1).trans k2)
        simp only [putF, Act.put, List.setIfInBounds_toArray, List.set_cons_zero, List.set_cons_succ, Nat.reduceAdd]
        go_simp
        exact hK.out _ W _ (by simp only [putF, Act.put, List.setIfInBounds_toArray, List.set_cons_zero, List.set_cons_succ, Nat.reduceAdd]) (Grow.refl _) hS rfl (tw_none (by decide))
      · refine stepF_of rfl fun L f W hk hw => ⟨by rfl, fun K hK => ?_⟩
        have hS := hk.hs
        have h0 := hk.hf 5 (hw 5 (by kernel_rfl))
        change f 5 = _ at h0
        simp only [putF, Act.put, List.setIfInBounds_toArray, List.set_cons_zero, List.set_cons_succ, Nat.reduceAdd]
        rw [h0]
        go_simp
        exact hK.out _ _ _ (by simp only [putF, Act.put, List.setIfInBounds_toArray, List.set_cons_zero, List.set_cons_succ, Nat.reduceAdd]; rw [h0]) ((Below.refl _ _).alloc (Nat.le_refl _) _) (hS.alloc hS.size _) (Prs.lit1 W b1 b2) (tw_none (by decide))
      · refine stepF_of rfl fun L f W hk hw => ⟨by rfl, fun K hK => ?_⟩
        have hS := hk.hs
        have h1 := hk.hf 6 (hw 6 (by kernel_rfl))
        simp only [putF, Act.put, List.setIfInBounds_toArray, List.set_cons_zero, List.set_cons_succ, Nat.reduceAdd]
        go_simp
        refine (CZ _ _ h1).out.mono ?_
        rintro e W2 ⟨v2, rfl, r2, hb2⟩
        go_wp2_with fail
        exact hK.out _ W2 _ (by simp only [putF, Act.put, List.setIfInBounds_toArray, List.set_cons_zero, List.set_cons_succ, Nat.reduceAdd]) hb2 (hS.trans (hb2.mono hS.size)) (Prs.of_row rfl r2) (by
        obtain ⟨g, cap, hv2, hg2, _⟩ := r2.form (by simp)
        exact tw_fresh hk (g := g) (by rw [hv2]; rfl) hg2)
      · refine stepF_of rfl fun L f W hk hw => ⟨by rfl, fun K hK => ?_⟩
        have hS := hk.hs
        have h2 : Prs W (f 7) [(y1, y2)] := hk.hf 7 (hw 7 (by kernel_rfl))
        simp only [putF, Act.put, List.setIfInBounds_toArray, List.set_cons_zero, List.set_cons_succ, Nat.reduceAdd]
        obtain ⟨a, cap, hv, _, _, hc⟩ := h2
        obtain ⟨g, off, rfl, hg, c1, c2⟩ := hc 0 (by simp)
        simp only [List.length_cons, List.length_nil, Nat.zero_mul, Nat.add_zero, List.getElem_cons_zero] at hv c1 c2
        rw [hv]
        go_simp
        exact hK.out _ W _ (by simp only [putF, Act.put, List.setIfInBounds_toArray, List.set_cons_zero, List.set_cons_succ, Nat.reduceAdd]; rw [hv]) (Grow.refl _) hS ⟨g, off, rfl, hg, c1, c2⟩ (fun j hj _ hr => by
        obtain rfl : j = 10 := by have := (rel_cases hr).2; revert hr; rcases this with rfl | rfl | rfl | rfl <;> decide
        have := hk.hg 7 10 (hw 7 (by kernel_rfl)) hj (by decide) rfl
        rw [hv] at this
        exact this)
      · refine stepF_of rfl fun L f W hk hw => ⟨by rfl, fun K hK => ?_⟩
        have hS := hk.hs
        have h3 : ∃ g off, f 8 = .pointer (some ⟨g, off, none⟩) ∧ g < W.heap.size ∧ W.cell? ⟨g, off, none⟩ = some (.string y1) ∧ W.cell? ⟨g, off + 1, none⟩ = some (.string y2) := hk.hf 8 (hw 8 (by kernel_rfl))
        simp only [putF, Act.put, List.setIfInBounds_toArray, List.set_cons_zero, List.set_cons_succ, Nat.reduceAdd]
        obtain ⟨g, off, hv, hg, c1, c2⟩ := h3
        rw [hv]
        go_simp
        exact hK.out _ W _ (by simp only [putF, Act.put, List.setIfInBounds_toArray, List.set_cons_zero, List.set_cons_succ, Nat.reduceAdd]; rw [hv]) (Grow.refl _) hS rfl (tw_none (by decide))
      · refine stepF_of rfl fun L f W hk hw => ⟨by rfl, fun K hK => ?_⟩
        have hS := hk.hs
        simp only [putF, Act.put, List.setIfInBounds_toArray, List.set_cons_zero, List.set_cons_succ, Nat.reduceAdd]
        go_simp
        exact hK.out _ _ _ (by simp only [putF, Act.put, List.setIfInBounds_toArray, List.set_cons_zero, List.set_cons_succ, Nat.reduceAdd]) ((Below.refl _ _).alloc (Nat.le_refl _) _) (hS.alloc hS.size _) ⟨W.heap.size, rfl, hS.size, alloc_new W _⟩ (tw_fresh hk rfl (Nat.le_refl _))
      · refine stepF_of rfl fun L f W hk hw => ⟨by rfl, fun K hK => ?_⟩
        have hS := hk.hs
        simp only [putF, Act.put, List.setIfInBounds_toArray, List.set_cons_zero, List.set_cons_succ, Nat.reduceAdd]
        go_simp
        exact hK.out _ _ _ (by simp only [putF, Act.put, List.setIfInBounds_toArray, List.set_cons_zero, List.set_cons_succ, Nat.reduceAdd]) ((Below.refl _ _).alloc (Nat.le_refl _) _) (hS.alloc hS.size _) ⟨W.heap.size, rfl, hS.size, alloc_new W _⟩ (tw_fresh hk rfl (Nat.le_refl _))
    · intro l f W m i hl hc hn hk hm hi hin
      simp only [putF, Act.put, List.setIfInBounds_toArray, List.set_cons_zero, List.set_cons_succ, Nat.reduceAdd]
      obtain rfl : i = 12 := by
        obtain ⟨_, o, ho, _⟩ := mem_ready.1 hi
        have hlt := (Array.getElem?_eq_some_iff.1 ho).1
        simp only [List.size_toArray, List.length_cons, List.length_nil, Nat.reduceAdd] at hlt
        rcases (show i = 12 ∨ i = 13 by omega) with rfl | rfl
        · rfl
        · exact absurd (hn 12 (waits_listed (k := 1) hc hi (by kernel_rfl))) (by decide)
      have ls : ∀ j, waitsB .any _ 5 12 j = true → l.getD j false = true := fun j hj => waits_listed hc hi hj
      have nl : ∀ j, ¬ j < 12 → l.getD j false = false := fun j hj => by
        cases h : l.getD j false
        · rfl
        · exact absurd (hn j h) hj
      have f4 : f 4 = .agg #[.string x1, .string x2] := hk.hf 4 (ls 4 (by kernel_rfl))
      obtain ⟨gx, f10, hgx, hbx⟩ : ∃ g, f 10 = .pointer (some ⟨g, 0, none⟩) ∧ w1.heap.size ≤ g ∧ W.heap[g]? = some newP := hk.hf 10 (ls 10 (by kernel_rfl))
      obtain ⟨gy, f11, hgy, hby⟩ : ∃ g, f 11 = .pointer (some ⟨g, 0, none⟩) ∧ w1.heap.size ≤ g ∧ W.heap[g]? = some newP := hk.hf 11 (ls 11 (by kernel_rfl))
      have hxy : gx ≠ gy := fun e => by
        have := hk.hg 10 11 (ls 10 (by kernel_rfl)) (ls 11 (by kernel_rfl)) (by decide) rfl
        rw [f10, f11, e] at this
        exact this rfl
      have f7' : Prs W (f 7) [(y1, y2)] := hk.hf 7 (ls 7 (by kernel_rfl))
      obtain ⟨a7, cap7, f7, _, _, hc7⟩ := f7'
      obtain ⟨g7, o7, rfl, hg7, c1, c2⟩ := hc7 0 (by simp)
      simp only [List.length_cons, List.length_nil, Nat.zero_mul, Nat.add_zero, List.getElem_cons_zero] at f7 c1 c2
      have h7x : g7 ≠ gx := fun e => by
        have := hk.hg 7 10 (ls 7 (by kernel_rfl)) (ls 10 (by kernel_rfl)) (by decide) rfl
        rw [f7, f10, e] at this
        exact this rfl
      have z1 := cells_fst hbx
      have z2 := cells_snd hbx
      have z3 : ∀ i, W.frozen? ⟨gx, i, none⟩ = false := fun i => by simp [World.frozen?, hbx]
      have hby' : ((W.setCell ⟨gx, 0, none⟩ (.string x1)).setCell ⟨gx, 1, none⟩ (.string x2)).heap[gy]? = some newP := by rw [set_far hxy.symm, set_far hxy.symm]; exact hby
      have y1' := cells_fst hby'
      have y2' := cells_snd hby'
      have y3' : ∀ i, ((W.setCell ⟨gx, 0, none⟩ (.string x1)).setCell ⟨gx, 1, none⟩ (.string x2)).frozen? ⟨gy, i, none⟩ = false := fun i => by simp only [World.frozen?]; rw [hby']; rfl
      have far : ∀ g o, g ≠ gx → ((W.setCell ⟨gx, 0, none⟩ (.string x1)).setCell ⟨gx, 1, none⟩ (.string x2)).cell? ⟨g, o, none⟩ = W.cell? ⟨g, o, none⟩ := fun g o hne => by simp only [World.cell?]; rw [set_far hne, set_far hne]
      have d1 := (far g7 o7 h7x).trans c1
      have d2 := (far g7 (o7 + 1) h7x).trans c2
      clear hc7
      cases h8 : l.getD 8 false
      · cases h9 : l.getD 9 false
        · obtain rfl : l = #[true, true, true, true, true, true, true, true, false, false, true, true, false, false] := bits_eq (by rw [hl]; rfl) (fun j hj => by
            have hj' : j < 14 := hj
            rcases below14 hj' with rfl | rfl | rfl | rfl | rfl | rfl | rfl | rfl | rfl | rfl | rfl | rfl | rfl | rfl
            · exact ls 0 (by kernel_rfl)
            · exact ls 1 (by kernel_rfl)
            · exact ls 2 (by kernel_rfl)
            · exact ls 3 (by kernel_rfl)
            · exact ls 4 (by kernel_rfl)
            · exact ls 5 (by kernel_rfl)
            · exact ls 6 (by kernel_rfl)
            · exact ls 7 (by kernel_rfl)
            · exact h8
            · exact h9
            · exact ls 10 (by kernel_rfl)
            · exact ls 11 (by kernel_rfl)
            · exact nl 12 (by decide)
            · exact nl 13 (by decide))
          obtain rfl : m = 3 := by
            have h1 : leftN #[true, true, true, true, true, true, true, true, false, false, true, true, false, false] 14 = 4 := by decide
            have h2 : leftN #[true, true, true, true, true, true, true, true, false, false, true, true, false, false] 14 = m + 1 := hm
            omega
          refine wpOp_step rfl (by rfl) fun K hK => ?_
          rw [f4, f10]
          go_simp
          refine hK _ _ ?_
          clear hK K
          refine wpAny_one (i := 8) (by kernel_rfl) (wpOp_step rfl (by rfl) fun K hK => ?_)
          try simp only [f7]
          go_simp
          refine hK _ _ ?_
          clear hK K
          refine wpAny_one (i := 9) (by kernel_rfl) (wpOp_step rfl (by rfl) fun K hK => ?_)
          go_simp
          refine hK _ _ ?_
          clear hK K
          refine wpAny_one (i := 13) (by kernel_rfl) (wpOp_step rfl (by rfl) fun K hK => ?_)
          try simp only [f11]
          go_simp
          refine hK _ _ ?_
          clear hK K
          refine wpAny_end (by kernel_rfl) ⟨rfl, updF (updF f 8 (.pointer (some ⟨g7, o7, none⟩))) 9 (.agg #[.string y1, .string y2]), by simp [putF, updF, Act.put, f4, f10, f11, f7], gx, gy, by simp [updF, f10], by simp [updF, f11], setTwo_fst hxy hbx, setTwo_snd hxy hby, setTwo_below hk.hs hgx hgy⟩
        · have := waits_closed (k := 1) hc h9 (j := 8) (by kernel_rfl)
          rw [h8] at this
          cases this
      · have f8' : ∃ g off, f 8 = .pointer (some ⟨g, off, none⟩) ∧ g < W.heap.size ∧ W.cell? ⟨g, off, none⟩ = some (.string y1) ∧ W.cell? ⟨g, off + 1, none⟩ = some (.string y2) := hk.hf 8 h8
        obtain ⟨g8, o8, f8, _, b1, b2⟩ := f8'
        have h8x : g8 ≠ gx := fun e => by
          have := hk.hg 8 10 h8 (ls 10 (by kernel_rfl)) (by decide) rfl
          rw [f8, f10, e] at this
          exact this rfl
        have d3 := (far g8 o8 h8x).trans b1
        have d4 := (far g8 (o8 + 1) h8x).trans b2
        cases h9 : l.getD 9 false
        · obtain rfl : l = #[true, true, true, true, true, true, true, true, true, false, true, true, false, false] := bits_eq (by rw [hl]; rfl) (fun j hj => by
            have hj' : j < 14 := hj
            rcases below14 hj' with rfl | rfl | rfl | rfl | rfl | rfl | rfl | rfl | rfl | rfl | rfl | rfl | rfl | rfl
            · exact ls 0 (by kernel_rfl)
            · exact ls 1 (by kernel_rfl)
            · exact ls 2 (by kernel_rfl)
            · exact ls 3 (by kernel_rfl)
            · exact ls 4 (by kernel_rfl)
            · exact ls 5 (by kernel_rfl)
            · exact ls 6 (by kernel_rfl)
            · exact ls 7 (by kernel_rfl)
            · exact h8
            · exact h9
            · exact ls 10 (by kernel_rfl)
            · exact ls 11 (by kernel_rfl)
            · exact nl 12 (by decide)
            · exact nl 13 (by decide))
          obtain rfl : m = 2 := by
            have h1 : leftN #[true, true, true, true, true, true, true, true, true, false, true, true, false, false] 14 = 3 := by decide
            have h2 : leftN #[true, true, true, true, true, true, true, true, true, false, true, true, false, false] 14 = m + 1 := hm
            omega
          refine wpOp_step rfl (by rfl) fun K hK => ?_
          rw [f4, f10]
          go_simp
          refine hK _ _ ?_
          clear hK K
          refine wpAny_one (i := 9) (by kernel_rfl) (wpOp_step rfl (by rfl) fun K hK => ?_)
          try simp only [f8]
          go_simp
          refine hK _ _ ?_
          clear hK K
          refine wpAny_one (i := 13) (by kernel_rfl) (wpOp_step rfl (by rfl) fun K hK => ?_)
          try simp only [f11]
          go_simp
          refine hK _ _ ?_
          clear hK K
          refine wpAny_end (by kernel_rfl) ⟨rfl, updF (f) 9 (.agg #[.string y1, .string y2]), by simp [putF, updF, Act.put, f4, f10, f11, f7, f8], gx, gy, by simp [updF, f10], by simp [updF, f11], setTwo_fst hxy hbx, setTwo_snd hxy hby, setTwo_below hk.hs hgx hgy⟩
        · have f9 : f 9 = .agg #[.string y1, .string y2] := hk.hf 9 h9
          obtain rfl : l = #[true, true, true, true, true, true, true, true, true, true, true, true, false, false] := bits_eq (by rw [hl]; rfl) (fun j hj => by
            have hj' : j < 14 := hj
            rcases below14 hj' with rfl | rfl | rfl | rfl | rfl | rfl | rfl | rfl | rfl | rfl | rfl | rfl | rfl | rfl
            · exact ls 0 (by kernel_rfl)
            · exact ls 1 (by kernel_rfl)
            · exact ls 2 (by kernel_rfl)
            · exact ls 3 (by kernel_rfl)
            · exact ls 4 (by kernel_rfl)
            · exact ls 5 (by kernel_rfl)
            · exact ls 6 (by kernel_rfl)
            · exact ls 7 (by kernel_rfl)
            · exact h8
            · exact h9
            · exact ls 10 (by kernel_rfl)
            · exact ls 11 (by kernel_rfl)
            · exact nl 12 (by decide)
            · exact nl 13 (by decide))
          obtain rfl : m = 1 := by
            have h1 : leftN #[true, true, true, true, true, true, true, true, true, true, true, true, false, false] 14 = 2 := by decide
            have h2 : leftN #[true, true, true, true, true, true, true, true, true, true, true, true, false, false] 14 = m + 1 := hm
            omega
          refine wpOp_step rfl (by rfl) fun K hK => ?_
          rw [f4, f10]
          go_simp
          refine hK _ _ ?_
          clear hK K
          refine wpAny_one (i := 13) (by kernel_rfl) (wpOp_step rfl (by rfl) fun K hK => ?_)
          try simp only [f11, f9]
          go_simp
          refine hK _ _ ?_
          clear hK K
          refine wpAny_end (by kernel_rfl) ⟨rfl, f, by simp [putF, updF, Act.put, f4, f10, f11, f7, f8, f9], gx, gy, by simp [updF, f10], by simp [updF, f11], setTwo_fst hxy hbx, setTwo_snd hxy hby, setTwo_below hk.hs hgx hgy⟩
  · rintro f W ⟨gx, gy, f10, f11, hbx, hby, hS⟩
    have CX : ∀ W', Below W.heap.size W W' → W'.cell? ⟨gx, 0, none⟩ = some (.string x1) ∧ W'.cell? ⟨gx, 1, none⟩ = some (.string x2) ∧ W'.cell? ⟨gy, 0, none⟩ = some (.string y1) ∧ W'.cell? ⟨gy, 1, none⟩ = some (.string y2) := fun W' h =>
      ⟨cells_fst ((h.block _ (Array.getElem?_eq_some_iff.1 hbx).1).trans hbx), cells_snd ((h.block _ (Array.getElem?_eq_some_iff.1 hbx).1).trans hbx), cells_fst ((h.block _ (Array.getElem?_eq_some_iff.1 hby).1).trans hby), cells_snd ((h.block _ (Array.getElem?_eq_some_iff.1 hby).1).trans hby)⟩
    have QL := hide (ql.below hS)
    have S1 := bb2 S0 hS
    have HSS : Hid (setQ (setQ l x1 x2) x1 y2 = setQ l x1 y2) := Pb.set_set l x1 x2 y2
    have HDD : Hid (dropQ (dropQ l x1) x1 = dropQ l x1) := Pb.drop_drop l x1
    have hlA := set_le l x1 y2
    have hlB := set_le l x1 x2
    have hlC := set_le l y1 y2
    have hlD := drop_len l x1
    have okB := hide (set_ok okl.out hx1 hx2)
    have okC := hide (set_ok okl.out hy1 hy2)
    have okD := hide (drop_ok okl.out x1)
    have okP := hide (set_ok okB.out hy1 hy2)
    have okQ := hide (set_ok okC.out hx1 hx2)
    have HL : Hid (sameF x1 y1 = false → (setQ (setQ l x1 x2) y1 y2).length = (setQ (setQ l y1 y2) x1 x2).length) := fun h => Pb.len_two h l x2 y2
    have HP : Hid (sameF x1 y1 = false → getQ (setQ (setQ l x1 x2) y1 y2) x1 = some x2) := fun h => by
      show Pb.getP foldB _ _ = _
      rw [Pb.get_set_other (by rw [Pb.sm_comm]; exact h)]
      exact Pb.get_set l x1 x2
    have HQ : Hid (getQ (setQ (setQ l y1 y2) x1 x2) x1 = some x2) := Pb.get_set _ x1 x2
    clear hbx hby hS ql S0 k1 k2
    simp only [putF, Act.put, List.setIfInBounds_toArray, List.set_cons_zero, List.set_cons_succ, Nat.reduceAdd]
    rw [f10, f11]
    clear f10 f11
    obtain ⟨e1, e2, e3, e4⟩ := CX W (Below.refl _ _)
    go_wp2_with fail
    refine (set_any x1 y2 v1 l W hx1 QL.out okl.out (by omega)).mono ?_
    rintro e w2 ⟨v2, rfl, q2, hb2⟩
    clear e1 e2 e3 e4
    replace CX := fun W' (h : Below w2.heap.size w2 W') => CX W' (bb2 hb2 h)
    have QL2 := hide (QL.out.below hb2)
    have Q2 := hide q2
    replace S1 := bb2 S1 hb2
    clear QL hb2 q2
    go_wp2_with fail
    refine wp_region_noPanic ?_
    refine wp_region_held_drew (S := fun W => Below (w2).heap.size (w2) W) (by kernel_rfl) ((Below.refl _ _).drew) (fun hHeld => ?_)
    refine wpAnyH_take (i := 0) (v := ?_) (op_at (rest := _) rfl) (by kernel_rfl) (by kernel_rfl) (by kernel_rfl) (fun _ _ _ h => h) (Or.inl ⟨by rfl, ?_⟩) (by assumption) ?_
    rotate_left 1
    · (intro W hSw; (try dsimp only at hSw); go_simp; (try with_reducible rfl))
    try simp only [Act.put, List.setIfInBounds_toArray, List.set_cons_zero, List.set_cons_succ]
    refine wpAnyH_take (i := 1) (v := ?_) (op_at (rest := _) rfl) (by kernel_rfl) (by kernel_rfl) (by kernel_rfl) (fun _ _ _ h => h) (Or.inl ⟨by rfl, ?_⟩) (by assumption) ?_
    rotate_left 1
    · (intro W hSw; (try dsimp only at hSw); go_simp; (try with_reducible rfl))
    try simp only [Act.put, List.setIfInBounds_toArray, List.set_cons_zero, List.set_cons_succ]
    refine wpAnyH_take (i := 3) (v := ?_) (op_at (rest := _) rfl) (by kernel_rfl) (by kernel_rfl) (by kernel_rfl) (fun _ _ _ h => h) (Or.inl ⟨by rfl, ?_⟩) (by assumption) ?_
    rotate_left 1
    · (intro W hSw; (try dsimp only at hSw); go_simp; (try with_reducible rfl))
    try simp only [Act.put, List.setIfInBounds_toArray, List.set_cons_zero, List.set_cons_succ]
    refine wpAnyH_take (i := 6) (v := ?_) (op_at (rest := _) rfl) (by kernel_rfl) (by kernel_rfl) (by kernel_rfl) (fun _ _ _ h => h) (Or.inl ⟨by rfl, ?_⟩) (by assumption) ?_
    rotate_left 1
    · (intro W hSw; (try dsimp only at hSw); go_simp; (try with_reducible rfl))
    try simp only [Act.put, List.setIfInBounds_toArray, List.set_cons_zero, List.set_cons_succ]
    refine wpAnyH_take (i := 8) (v := ?_) (op_at (rest := _) rfl) (by kernel_rfl) (by kernel_rfl) (by kernel_rfl) (fun _ _ _ h => h) (Or.inl ⟨by rfl, ?_⟩) (by assumption) ?_
    rotate_left 1
    · (intro W hSw; (try dsimp only at hSw); go_simp; (try with_reducible rfl))
    try simp only [Act.put, List.setIfInBounds_toArray, List.set_cons_zero, List.set_cons_succ]
    refine wpAnyH_take (i := 11) (v := ?_) (op_at (rest := _) rfl) (by kernel_rfl) (by kernel_rfl) (by kernel_rfl) (fun _ _ _ h => h) (Or.inl ⟨by rfl, ?_⟩) (by assumption) ?_
    rotate_left 1
    · (intro W hSw; (try dsimp only at hSw); go_simp; (try with_reducible rfl))
    try simp only [Act.put, List.setIfInBounds_toArray, List.set_cons_zero, List.set_cons_succ]
    refine wpAnyH_take (i := 2) (v := ?_) (op_at (rest := _) rfl) (by kernel_rfl) (by kernel_rfl) (by kernel_rfl) (fun _ _ _ h => h) (Or.inl ⟨by rfl, ?_⟩) (by assumption) ?_
    rotate_left 1
    · (intro W hSw; (try dsimp only at hSw); obtain ⟨e1, e2, e3, e4⟩ := CX W hSw; go_simp; (try with_reducible rfl))
    try simp only [Act.put, List.setIfInBounds_toArray, List.set_cons_zero, List.set_cons_succ]
    refine wpAnyH_take (i := 4) (v := ?_) (op_at (rest := _) rfl) (by kernel_rfl) (by kernel_rfl) (by kernel_rfl) (fun _ _ _ h => h) (Or.inl ⟨by rfl, ?_⟩) (by assumption) ?_
    rotate_left 1
    · (intro W hSw; (try dsimp only at hSw); obtain ⟨e1, e2, e3, e4⟩ := CX W hSw; go_simp; (try with_reducible rfl))
    try simp only [Act.put, List.setIfInBounds_toArray, List.set_cons_zero, List.set_cons_succ]
    refine wpAnyH_take (i := 7) (v := ?_) (op_at (rest := _) rfl) (by kernel_rfl) (by kernel_rfl) (by kernel_rfl) (fun _ _ _ h => h) (Or.inl ⟨by rfl, ?_⟩) (by assumption) ?_
    rotate_left 1
    · (intro W hSw; (try dsimp only at hSw); obtain ⟨e1, e2, e3, e4⟩ := CX W hSw; go_simp; (try with_reducible rfl))
    try simp only [Act.put, List.setIfInBounds_toArray, List.set_cons_zero, List.set_cons_succ]
    refine wpAnyH_take (i := 9) (v := ?_) (op_at (rest := _) rfl) (by kernel_rfl) (by kernel_rfl) (by kernel_rfl) (fun _ _ _ h => h) (Or.inl ⟨by rfl, ?_⟩) (by assumption) ?_
    rotate_left 1
    · (intro W hSw; (try dsimp only at hSw); obtain ⟨e1, e2, e3, e4⟩ := CX W hSw; go_simp; (try with_reducible rfl))
    try simp only [Act.put, List.setIfInBounds_toArray, List.set_cons_zero, List.set_cons_succ]
    refine wpAnyH_ready (rs := [5]) (by kernel_rfl) (by simp) ?_
    refine AllReadyH.cons (op_at (rest := _) rfl) (fun K hK => ?_) AllReadyH.nil
    go_simp
    refine (set_any x1 x2 v1 l _ hx1 (QL2.out.below hHeld) okl.out (by omega)).mono ?_
    rintro e w3 ⟨v3, rfl, q3, hb3⟩
    go_wp2_with fail
    replace hHeld := hHeld.trans (hb3.mono hHeld.size)
    refine hK.out _ _ hHeld (fun _ => ?_)
    clear hK K
    try simp only [Act.put, List.setIfInBounds_toArray, List.set_cons_zero, List.set_cons_succ]
    refine wpAnyH_ready (rs := [10]) (by kernel_rfl) (by simp) ?_
    refine AllReadyH.cons (op_at (rest := _) rfl) (fun K hK => ?_) AllReadyH.nil
    go_simp
    refine (set_any x1 y2 v3 _ _ hx1 q3 okB.out (by omega)).mono ?_
    rintro e w4 ⟨v4, rfl, q4, hb4⟩
    go_wp2_with fail
    replace hHeld := hHeld.trans (hb4.mono hHeld.size)
    refine hK.out _ _ hHeld (fun _ => ?_)
    clear hK K
    try simp only [Act.put, List.setIfInBounds_toArray, List.set_cons_zero, List.set_cons_succ]
    rw [HSS.out] at q4
    have T1 := hHeld
    refine wpAnyH_ready (rs := [12]) (by kernel_rfl) (by simp) ?_
    refine AllReadyH.cons (op_at (rest := _) rfl) (fun K hK => ?_) AllReadyH.nil
    go_simp
    refine (psame_any _ _ _ _ _ q4 (Q2.out.below hHeld)).mono ?_
    rintro e w5 ⟨rfl, hb5⟩
    go_wp2_with fail
    replace hHeld := hHeld.trans (hb5.mono hHeld.size)
    refine hK.out _ _ hHeld (fun _ => ?_)
    clear hK K
    try simp only [Act.put, List.setIfInBounds_toArray, List.set_cons_zero, List.set_cons_succ]
    try simp only [decide_true, eq_self]
    refine wpAnyH_take (i := 13) (v := ?_) (op_at (rest := _) rfl) (by kernel_rfl) (by kernel_rfl) (by kernel_rfl) (fun _ _ _ h => h) (Or.inl ⟨by rfl, ?_⟩) (by assumption) ?_
    rotate_left 1
    · (intro W hSw; (try dsimp only at hSw); go_simp; (try with_reducible rfl))
    try simp only [Act.put, List.setIfInBounds_toArray, List.set_cons_zero, List.set_cons_succ]
    refine wpAnyH_take (i := 14) (v := ?_) (op_at (rest := _) rfl) (by kernel_rfl) (by kernel_rfl) (by kernel_rfl) (fun _ _ _ h => h) (Or.inl ⟨by rfl, ?_⟩) (by assumption) ?_
    rotate_left 1
    · (intro W hSw; (try dsimp only at hSw); go_simp; (try with_reducible rfl))
    try simp only [Act.put, List.setIfInBounds_toArray, List.set_cons_zero, List.set_cons_succ]
    refine wpAnyH_take (i := 15) (v := ?_) (op_at (rest := _) rfl) (by kernel_rfl) (by kernel_rfl) (by kernel_rfl) (fun _ _ _ h => h) (Or.inl ⟨by rfl, ?_⟩) (by assumption) ?_
    rotate_left 1
    · (intro W hSw; (try dsimp only at hSw); go_simp; (try with_reducible rfl))
    try simp only [Act.put, List.setIfInBounds_toArray, List.set_cons_zero, List.set_cons_succ]
    refine wpAnyH_take (i := 16) (v := ?_) (op_at (rest := _) rfl) (by kernel_rfl) (by kernel_rfl) (by kernel_rfl) (fun _ _ _ h => h) (Or.inl ⟨by rfl, ?_⟩) (by assumption) ?_
    rotate_left 1
    · (intro W hSw; (try dsimp only at hSw); go_simp; (try with_reducible rfl))
    try simp only [Act.put, List.setIfInBounds_toArray, List.set_cons_zero, List.set_cons_succ]
    refine wpAnyH_take (i := 19) (v := ?_) (op_at (rest := _) rfl) (by kernel_rfl) (by kernel_rfl) (by kernel_rfl) (fun _ _ _ h => h) (Or.inl ⟨by rfl, ?_⟩) (by assumption) ?_
    rotate_left 1
    · (intro W hSw; (try dsimp only at hSw); go_simp; (try with_reducible rfl))
    try simp only [Act.put, List.setIfInBounds_toArray, List.set_cons_zero, List.set_cons_succ]
    refine wpAnyH_take (i := 22) (v := ?_) (op_at (rest := _) rfl) (by kernel_rfl) (by kernel_rfl) (by kernel_rfl) (fun _ _ _ h => h) (Or.inl ⟨by rfl, ?_⟩) (by assumption) ?_
    rotate_left 1
    · (intro W hSw; (try dsimp only at hSw); go_simp; (try with_reducible rfl))
    try simp only [Act.put, List.setIfInBounds_toArray, List.set_cons_zero, List.set_cons_succ]
    refine wpAnyH_take (i := 23) (v := ?_) (op_at (rest := _) rfl) (by kernel_rfl) (by kernel_rfl) (by kernel_rfl) (fun _ _ _ h => h) (Or.inl ⟨by rfl, ?_⟩) (by assumption) ?_
    rotate_left 1
    · (intro W hSw; (try dsimp only at hSw); go_simp; (try with_reducible rfl))
    try simp only [Act.put, List.setIfInBounds_toArray, List.set_cons_zero, List.set_cons_succ]
    refine wpAnyH_take (i := 17) (v := ?_) (op_at (rest := _) rfl) (by kernel_rfl) (by kernel_rfl) (by kernel_rfl) (fun _ _ _ h => h) (Or.inl ⟨by rfl, ?_⟩) (by assumption) ?_
    rotate_left 1
    · (intro W hSw; (try dsimp only at hSw); obtain ⟨e1, e2, e3, e4⟩ := CX W hSw; go_simp; (try with_reducible rfl))
    try simp only [Act.put, List.setIfInBounds_toArray, List.set_cons_zero, List.set_cons_succ]
    refine wpAnyH_take (i := 20) (v := ?_) (op_at (rest := _) rfl) (by kernel_rfl) (by kernel_rfl) (by kernel_rfl) (fun _ _ _ h => h) (Or.inl ⟨by rfl, ?_⟩) (by assumption) ?_
    rotate_left 1
    · (intro W hSw; (try dsimp only at hSw); obtain ⟨e1, e2, e3, e4⟩ := CX W hSw; go_simp; (try with_reducible rfl))
    try simp only [Act.put, List.setIfInBounds_toArray, List.set_cons_zero, List.set_cons_succ]
    refine wpAnyH_take (i := 24) (v := ?_) (op_at (rest := _) rfl) (by kernel_rfl) (by kernel_rfl) (by kernel_rfl) (fun _ _ _ h => h) (Or.inl ⟨by rfl, ?_⟩) (by assumption) ?_
    rotate_left 1
    · (intro W hSw; (try dsimp only at hSw); obtain ⟨e1, e2, e3, e4⟩ := CX W hSw; go_simp; (try with_reducible rfl))
    try simp only [Act.put, List.setIfInBounds_toArray, List.set_cons_zero, List.set_cons_succ]
    refine wpAnyH_ready (rs := [18]) (by kernel_rfl) (by simp) ?_
    refine AllReadyH.cons (op_at (rest := _) rfl) (fun K hK => ?_) AllReadyH.nil
    go_simp
    refine (drop_any x1 v1 l _ hx1 (QL2.out.below hHeld) okl.out (by omega)).mono ?_
    rintro e w6 ⟨v6, rfl, q6, hb6⟩
    go_wp2_with fail
    replace hHeld := hHeld.trans (hb6.mono hHeld.size)
    refine hK.out _ _ hHeld (fun _ => ?_)
    clear hK K
    try simp only [Act.put, List.setIfInBounds_toArray, List.set_cons_zero, List.set_cons_succ]
    refine wpAnyH_ready (rs := [21]) (by kernel_rfl) (by simp) ?_
    refine AllReadyH.cons (op_at (rest := _) rfl) (fun K hK => ?_) AllReadyH.nil
    go_simp
    refine (drop_any x1 v6 _ _ hx1 q6 okD.out (by omega)).mono ?_
    rintro e w7 ⟨v7, rfl, q7, hb7⟩
    go_wp2_with fail
    replace hHeld := hHeld.trans (hb7.mono hHeld.size)
    refine hK.out _ _ hHeld (fun _ => ?_)
    clear hK K
    try simp only [Act.put, List.setIfInBounds_toArray, List.set_cons_zero, List.set_cons_succ]
    rw [HDD.out] at q7
    refine wpAnyH_ready (rs := [25]) (by kernel_rfl) (by simp) ?_
    refine AllReadyH.cons (op_at (rest := _) rfl) (fun K hK => ?_) AllReadyH.nil
    go_simp
    refine (drop_any x1 v1 l _ hx1 (QL2.out.below hHeld) okl.out (by omega)).mono ?_
    rintro e w8 ⟨v8, rfl, q8, hb8⟩
    go_wp2_with fail
    replace hHeld := hHeld.trans (hb8.mono hHeld.size)
    refine hK.out _ _ hHeld (fun _ => ?_)
    clear hK K
    try simp only [Act.put, List.setIfInBounds_toArray, List.set_cons_zero, List.set_cons_succ]
    refine wpAnyH_ready (rs := [26]) (by kernel_rfl) (by simp) ?_
    refine AllReadyH.cons (op_at (rest := _) rfl) (fun K hK => ?_) AllReadyH.nil
    go_simp
    refine (psame_any _ _ _ _ _ (q7.below hb8) q8).mono ?_
    rintro e w9 ⟨rfl, hb9⟩
    go_wp2_with fail
    replace hHeld := hHeld.trans (hb9.mono hHeld.size)
    refine hK.out _ _ hHeld (fun _ => ?_)
    clear hK K
    try simp only [Act.put, List.setIfInBounds_toArray, List.set_cons_zero, List.set_cons_succ]
    try simp only [decide_true, eq_self]
    refine wpAnyH_take (i := 27) (v := ?_) (op_at (rest := _) rfl) (by kernel_rfl) (by kernel_rfl) (by kernel_rfl) (fun _ _ _ h => h) (Or.inl ⟨by rfl, ?_⟩) (by assumption) ?_
    rotate_left 1
    · (intro W hSw; (try dsimp only at hSw); go_simp; (try with_reducible rfl))
    try simp only [Act.put, List.setIfInBounds_toArray, List.set_cons_zero, List.set_cons_succ]
    refine wpAnyH_take (i := 28) (v := ?_) (op_at (rest := _) rfl) (by kernel_rfl) (by kernel_rfl) (by kernel_rfl) (fun _ _ _ h => h) (Or.inl ⟨by rfl, ?_⟩) (by assumption) ?_
    rotate_left 1
    · (intro W hSw; (try dsimp only at hSw); go_simp; (try with_reducible rfl))
    try simp only [Act.put, List.setIfInBounds_toArray, List.set_cons_zero, List.set_cons_succ]
    refine wpAnyH_done (by kernel_rfl) ?_ _
    refine NoPanic.normal ?_
    have S9 := bb2 S1 hHeld
    have QL9 := hide (QL2.out.below hHeld)
    replace CX := fun W' (h : Below w9.heap.size w9 W') => CX W' (bb2 hHeld h)
    clear hb3 hb4 hb5 hb6 hb7 hb8 hb9 q3 q4 q6 q7 q8 hHeld T1 S1 QL2 Q2
    go_wp2_with fail
    refine wp_region_noPanic ?_
    refine wp_region_held_drew (S := fun W => Below (w9).heap.size (w9) W) (by kernel_rfl) ((Below.refl _ _).drew) (fun hHeld => ?_)
    refine wpAnyH_take (i := 0) (v := ?_) (op_at (rest := _) rfl) (by kernel_rfl) (by kernel_rfl) (by kernel_rfl) (fun _ _ _ h => h) (Or.inl ⟨by rfl, ?_⟩) (by assumption) ?_
    rotate_left 1
    · (intro W hSw; (try dsimp only at hSw); go_simp; (try with_reducible rfl))
    try simp only [Act.put, List.setIfInBounds_toArray, List.set_cons_zero, List.set_cons_succ]
    refine wpAnyH_take (i := 1) (v := ?_) (op_at (rest := _) rfl) (by kernel_rfl) (by kernel_rfl) (by kernel_rfl) (fun _ _ _ h => h) (Or.inl ⟨by rfl, ?_⟩) (by assumption) ?_
    rotate_left 1
    · (intro W hSw; (try dsimp only at hSw); go_simp; (try with_reducible rfl))
    try simp only [Act.put, List.setIfInBounds_toArray, List.set_cons_zero, List.set_cons_succ]
    refine wpAnyH_take (i := 3) (v := ?_) (op_at (rest := _) rfl) (by kernel_rfl) (by kernel_rfl) (by kernel_rfl) (fun _ _ _ h => h) (Or.inl ⟨by rfl, ?_⟩) (by assumption) ?_
    rotate_left 1
    · (intro W hSw; (try dsimp only at hSw); go_simp; (try with_reducible rfl))
    try simp only [Act.put, List.setIfInBounds_toArray, List.set_cons_zero, List.set_cons_succ]
    refine wpAnyH_take (i := 6) (v := ?_) (op_at (rest := _) rfl) (by kernel_rfl) (by kernel_rfl) (by kernel_rfl) (fun _ _ _ h => h) (Or.inl ⟨by rfl, ?_⟩) (by assumption) ?_
    rotate_left 1
    · (intro W hSw; (try dsimp only at hSw); go_simp; (try with_reducible rfl))
    try simp only [Act.put, List.setIfInBounds_toArray, List.set_cons_zero, List.set_cons_succ]
    refine wpAnyH_take (i := 8) (v := ?_) (op_at (rest := _) rfl) (by kernel_rfl) (by kernel_rfl) (by kernel_rfl) (fun _ _ _ h => h) (Or.inl ⟨by rfl, ?_⟩) (by assumption) ?_
    rotate_left 1
    · (intro W hSw; (try dsimp only at hSw); go_simp; (try with_reducible rfl))
    try simp only [Act.put, List.setIfInBounds_toArray, List.set_cons_zero, List.set_cons_succ]
    refine wpAnyH_take (i := 2) (v := ?_) (op_at (rest := _) rfl) (by kernel_rfl) (by kernel_rfl) (by kernel_rfl) (fun _ _ _ h => h) (Or.inl ⟨by rfl, ?_⟩) (by assumption) ?_
    rotate_left 1
    · (intro W hSw; (try dsimp only at hSw); obtain ⟨e1, e2, e3, e4⟩ := CX W hSw; go_simp; (try with_reducible rfl))
    try simp only [Act.put, List.setIfInBounds_toArray, List.set_cons_zero, List.set_cons_succ]
    refine wpAnyH_take (i := 4) (v := ?_) (op_at (rest := _) rfl) (by kernel_rfl) (by kernel_rfl) (by kernel_rfl) (fun _ _ _ h => h) (Or.inl ⟨by rfl, ?_⟩) (by assumption) ?_
    rotate_left 1
    · (intro W hSw; (try dsimp only at hSw); obtain ⟨e1, e2, e3, e4⟩ := CX W hSw; go_simp; (try with_reducible rfl))
    try simp only [Act.put, List.setIfInBounds_toArray, List.set_cons_zero, List.set_cons_succ]
    refine wpAnyH_take (i := 7) (v := ?_) (op_at (rest := _) rfl) (by kernel_rfl) (by kernel_rfl) (by kernel_rfl) (fun _ _ _ h => h) (Or.inl ⟨by rfl, ?_⟩) (by assumption) ?_
    rotate_left 1
    · (intro W hSw; (try dsimp only at hSw); obtain ⟨e1, e2, e3, e4⟩ := CX W hSw; go_simp; (try with_reducible rfl))
    try simp only [Act.put, List.setIfInBounds_toArray, List.set_cons_zero, List.set_cons_succ]
    refine wpAnyH_take (i := 9) (v := ?_) (op_at (rest := _) rfl) (by kernel_rfl) (by kernel_rfl) (by kernel_rfl) (fun _ _ _ h => h) (Or.inl ⟨by rfl, ?_⟩) (by assumption) ?_
    rotate_left 1
    · (intro W hSw; (try dsimp only at hSw); obtain ⟨e1, e2, e3, e4⟩ := CX W hSw; go_simp; (try with_reducible rfl))
    try simp only [Act.put, List.setIfInBounds_toArray, List.set_cons_zero, List.set_cons_succ]
    refine wpAnyH_ready (rs := [5]) (by kernel_rfl) (by simp) ?_
    refine AllReadyH.cons (op_at (rest := _) rfl) (fun K hK => ?_) AllReadyH.nil
    go_simp
    refine (set_any x1 x2 v1 l _ hx1 (QL9.out.below hHeld) okl.out (by omega)).mono ?_
    rintro e w10 ⟨v10, rfl, q10, hb10⟩
    go_wp2_with fail
    replace hHeld := hHeld.trans (hb10.mono hHeld.size)
    refine hK.out _ _ hHeld (fun _ => ?_)
    clear hK K
    try simp only [Act.put, List.setIfInBounds_toArray, List.set_cons_zero, List.set_cons_succ]
    refine wpAnyH_ready (rs := [10]) (by kernel_rfl) (by simp) ?_
    refine AllReadyH.cons (op_at (rest := _) rfl) (fun K hK => ?_) AllReadyH.nil
    go_simp
    refine (set_any y1 y2 v10 _ _ hy1 q10 okB.out (by omega)).mono ?_
    rintro e w11 ⟨v11, rfl, q11, hb11⟩
    go_wp2_with fail
    replace hHeld := hHeld.trans (hb11.mono hHeld.size)
    refine hK.out _ _ hHeld (fun _ => ?_)
    clear hK K
    try simp only [Act.put, List.setIfInBounds_toArray, List.set_cons_zero, List.set_cons_succ]
    refine wpAnyH_take (i := 11) (v := ?_) (op_at (rest := _) rfl) (by kernel_rfl) (by kernel_rfl) (by kernel_rfl) (fun _ _ _ h => h) (Or.inl ⟨by rfl, ?_⟩) (by assumption) ?_
    rotate_left 1
    · (intro W hSw; (try dsimp only at hSw); go_simp; (try with_reducible rfl))
    try simp only [Act.put, List.setIfInBounds_toArray, List.set_cons_zero, List.set_cons_succ]
    refine wpAnyH_done (by kernel_rfl) ?_ _
    refine NoPanic.normal ?_
    have S11 := bb2 S9 hHeld
    have QL11 := hide (QL9.out.below hHeld)
    have QP := hide q11
    replace CX := fun W' (h : Below w11.heap.size w11 W') => CX W' (bb2 hHeld h)
    clear hb10 hb11 q10 q11 hHeld S9 QL9
    go_wp2_with fail
    refine wp_region_noPanic ?_
    refine wp_region_held_drew (S := fun W => Below (w11).heap.size (w11) W) (by kernel_rfl) ((Below.refl _ _).drew) (fun hHeld => ?_)
    refine wpAnyH_take (i := 0) (v := ?_) (op_at (rest := _) rfl) (by kernel_rfl) (by kernel_rfl) (by kernel_rfl) (fun _ _ _ h => h) (Or.inl ⟨by rfl, ?_⟩) (by assumption) ?_
    rotate_left 1
    · (intro W hSw; (try dsimp only at hSw); go_simp; (try with_reducible rfl))
    try simp only [Act.put, List.setIfInBounds_toArray, List.set_cons_zero, List.set_cons_succ]
    refine wpAnyH_take (i := 1) (v := ?_) (op_at (rest := _) rfl) (by kernel_rfl) (by kernel_rfl) (by kernel_rfl) (fun _ _ _ h => h) (Or.inl ⟨by rfl, ?_⟩) (by assumption) ?_
    rotate_left 1
    · (intro W hSw; (try dsimp only at hSw); go_simp; (try with_reducible rfl))
    try simp only [Act.put, List.setIfInBounds_toArray, List.set_cons_zero, List.set_cons_succ]
    refine wpAnyH_take (i := 3) (v := ?_) (op_at (rest := _) rfl) (by kernel_rfl) (by kernel_rfl) (by kernel_rfl) (fun _ _ _ h => h) (Or.inl ⟨by rfl, ?_⟩) (by assumption) ?_
    rotate_left 1
    · (intro W hSw; (try dsimp only at hSw); go_simp; (try with_reducible rfl))
    try simp only [Act.put, List.setIfInBounds_toArray, List.set_cons_zero, List.set_cons_succ]
    refine wpAnyH_take (i := 6) (v := ?_) (op_at (rest := _) rfl) (by kernel_rfl) (by kernel_rfl) (by kernel_rfl) (fun _ _ _ h => h) (Or.inl ⟨by rfl, ?_⟩) (by assumption) ?_
    rotate_left 1
    · (intro W hSw; (try dsimp only at hSw); go_simp; (try with_reducible rfl))
    try simp only [Act.put, List.setIfInBounds_toArray, List.set_cons_zero, List.set_cons_succ]
    refine wpAnyH_take (i := 8) (v := ?_) (op_at (rest := _) rfl) (by kernel_rfl) (by kernel_rfl) (by kernel_rfl) (fun _ _ _ h => h) (Or.inl ⟨by rfl, ?_⟩) (by assumption) ?_
    rotate_left 1
    · (intro W hSw; (try dsimp only at hSw); go_simp; (try with_reducible rfl))
    try simp only [Act.put, List.setIfInBounds_toArray, List.set_cons_zero, List.set_cons_succ]
    refine wpAnyH_take (i := 2) (v := ?_) (op_at (rest := _) rfl) (by kernel_rfl) (by kernel_rfl) (by kernel_rfl) (fun _ _ _ h => h) (Or.inl ⟨by rfl, ?_⟩) (by assumption) ?_
    rotate_left 1
    · (intro W hSw; (try dsimp only at hSw); obtain ⟨e1, e2, e3, e4⟩ := CX W hSw; go_simp; (try with_reducible rfl))
    try simp only [Act.put, List.setIfInBounds_toArray, List.set_cons_zero, List.set_cons_succ]
    refine wpAnyH_take (i := 4) (v := ?_) (op_at (rest := _) rfl) (by kernel_rfl) (by kernel_rfl) (by kernel_rfl) (fun _ _ _ h => h) (Or.inl ⟨by rfl, ?_⟩) (by assumption) ?_
    rotate_left 1
    · (intro W hSw; (try dsimp only at hSw); obtain ⟨e1, e2, e3, e4⟩ := CX W hSw; go_simp; (try with_reducible rfl))
    try simp only [Act.put, List.setIfInBounds_toArray, List.set_cons_zero, List.set_cons_succ]
    refine wpAnyH_take (i := 7) (v := ?_) (op_at (rest := _) rfl) (by kernel_rfl) (by kernel_rfl) (by kernel_rfl) (fun _ _ _ h => h) (Or.inl ⟨by rfl, ?_⟩) (by assumption) ?_
    rotate_left 1
    · (intro W hSw; (try dsimp only at hSw); obtain ⟨e1, e2, e3, e4⟩ := CX W hSw; go_simp; (try with_reducible rfl))
    try simp only [Act.put, List.setIfInBounds_toArray, List.set_cons_zero, List.set_cons_succ]
    refine wpAnyH_take (i := 9) (v := ?_) (op_at (rest := _) rfl) (by kernel_rfl) (by kernel_rfl) (by kernel_rfl) (fun _ _ _ h => h) (Or.inl ⟨by rfl, ?_⟩) (by assumption) ?_
    rotate_left 1
    · (intro W hSw; (try dsimp only at hSw); obtain ⟨e1, e2, e3, e4⟩ := CX W hSw; go_simp; (try with_reducible rfl))
    try simp only [Act.put, List.setIfInBounds_toArray, List.set_cons_zero, List.set_cons_succ]
    refine wpAnyH_ready (rs := [5]) (by kernel_rfl) (by simp) ?_
    refine AllReadyH.cons (op_at (rest := _) rfl) (fun K hK => ?_) AllReadyH.nil
    go_simp
    refine (set_any y1 y2 v1 l _ hy1 (QL11.out.below hHeld) okl.out (by omega)).mono ?_
    rintro e w12 ⟨v12, rfl, q12, hb12⟩
    go_wp2_with fail
    replace hHeld := hHeld.trans (hb12.mono hHeld.size)
    refine hK.out _ _ hHeld (fun _ => ?_)
    clear hK K
    try simp only [Act.put, List.setIfInBounds_toArray, List.set_cons_zero, List.set_cons_succ]
    refine wpAnyH_ready (rs := [10]) (by kernel_rfl) (by simp) ?_
    refine AllReadyH.cons (op_at (rest := _) rfl) (fun K hK => ?_) AllReadyH.nil
    go_simp
    refine (set_any x1 x2 v12 _ _ hx1 q12 okC.out (by omega)).mono ?_
    rintro e w13 ⟨v13, rfl, q13, hb13⟩
    go_wp2_with fail
    replace hHeld := hHeld.trans (hb13.mono hHeld.size)
    refine hK.out _ _ hHeld (fun _ => ?_)
    clear hK K
    try simp only [Act.put, List.setIfInBounds_toArray, List.set_cons_zero, List.set_cons_succ]
    refine wpAnyH_take (i := 11) (v := ?_) (op_at (rest := _) rfl) (by kernel_rfl) (by kernel_rfl) (by kernel_rfl) (fun _ _ _ h => h) (Or.inl ⟨by rfl, ?_⟩) (by assumption) ?_
    rotate_left 1
    · (intro W hSw; (try dsimp only at hSw); go_simp; (try with_reducible rfl))
    try simp only [Act.put, List.setIfInBounds_toArray, List.set_cons_zero, List.set_cons_succ]
    refine wpAnyH_done (by kernel_rfl) ?_ _
    refine NoPanic.normal ?_
    have S13 := bb2 S11 hHeld
    have QP13 := hide (QP.out.below hHeld)
    have QQ13 := hide q13
    replace CX := fun W' (h : Below w13.heap.size w13 W') => CX W' (bb2 hHeld h)
    clear hb12 hb13 q12 q13 hHeld S11 QL11 QP
    have C1 := fun W => hide (prSame_any x1 y1 W hx1 hy1)
    obtain ⟨e1, e2, e3, e4⟩ := CX w13 (Below.refl _ _)
    cases hs : sameF x1 y1
    · rw [hs] at C1
      have hlen := HL.out hs
      have HP' := hide (HP.out hs)
      clear hs HL HP
      generalize setQ (setQ l x1 x2) y1 y2 = p at *
      generalize setQ (setQ l y1 y2) x1 x2 = q at *
      have CP := fun v W (h : Prs W v p) => hide (get_any x1 v p W hx1 h okP.out)
      have CQ := fun v W (h : Prs W v q) => hide (get_any x1 v q W hx1 h okQ.out)
      rw [HP'.out] at CP
      rw [HQ.out] at CQ
      simp only [valO, Option.getD_some, Option.isSome_some] at CP CQ
      go_wp2_with fail
      refine (C1 _).out.mono ?_
      rintro e w14 ⟨rfl, hb14⟩
      clear e1 e2 e3 e4
      obtain ⟨e1, e2, e3, e4⟩ := CX w14 hb14
      go_wp2_with fail
      refine (CP _ _ (QP13.out.below hb14)).out.mono ?_
      rintro e w15 ⟨rfl, hb15⟩
      clear e1 e2 e3 e4
      obtain ⟨e1, e2, e3, e4⟩ := CX w15 (bb2 hb14 hb15)
      go_wp2_with fail
      refine (CQ _ _ (QQ13.out.below (bb2 hb14 hb15))).out.mono ?_
      rintro e w16 ⟨rfl, hb16⟩
      clear e1 e2 e3 e4
      obtain ⟨e1, e2, e3, e4⟩ := CX w16 (bb2 (bb2 hb14 hb15) hb16)
      obtain ⟨a7, c7, rfl⟩ := QP13.out.form
      obtain ⟨a8, c8, rfl⟩ := QQ13.out.form
      rw [hlen]
      go_wp2_with fail
      refine (bawake_any _).mono ?_
      rintro e w17 ⟨rfl, hb17⟩
      go_wp2_with fail
      go_ret
      exact ⟨rfl, bb2 (bb2 (bb2 (bb2 S13 hb14) hb15) hb16) hb17⟩
    · rw [hs] at C1
      clear hs HL HP
      go_wp2_with fail
      refine (C1 _).out.mono ?_
      rintro e w14 ⟨rfl, hb14⟩
      go_wp2_with fail
      refine (bawake_any _).mono ?_
      rintro e w15 ⟨rfl, hb15⟩
      go_wp2_with fail
      go_ret
      exact ⟨rfl, bb2 (bb2 S13 hb14) hb15⟩

/-- a pair of two texts -/
def ArgPair (v : Value) : Prop := ∃ (a b : ByteArray), v = .agg #[.string a, .string b] ∧ a.size ≤ maxLen ∧ b.size ≤ maxLen
theorem argPair_open {H : Type} {enc : TypeId × Value → H} {W : World} {base : Nat} {v : Value} {d : DataW H} {ps : List MemPlace} (hval : Value.okWide Try.prog W .any base 38 v)
    (h : DataW.Trod enc Try.prog W 0 (fun _ => true) true 38 v d ps) : ArgPair v := by
  obtain ⟨v0, v1, y0, y1, n, rfl, -, -, h0, h1⟩ := Joins.open_agg2 Try.underlying38 (by kernel_rfl) (by kernel_rfl) hval h
  obtain ⟨s0, e0, _, z0⟩ := DataW.trod_string Try.underlying9 h0
  obtain ⟨s1, e1, _, z1⟩ := DataW.trod_string Try.underlying9 h1
  simp only [List.cons.injEq, and_true] at e0 e1
  subst e0 e1
  exact ⟨s0, s1, rfl, z0, z1⟩
theorem twice_arg (v0 v1 v2 : Value) (w : World) (a0 : ArgPrs w v0) (a1 : ArgPair v1) (a2 : ArgPair v2) :
    Calls Try.prog 8 #[v0, v1, v2] w fun e w' => e = .returned (.bool true) ∧ Below w.heap.size w w' := by
  obtain ⟨l, p, ok⟩ := a0
  obtain ⟨a, b, rfl, ha, hb⟩ := a1
  obtain ⟨c, d, rfl, hc, hd⟩ := a2
  exact twice_law v0 a b c d w l p ok ha hb hc hd

end Go.Proofs.Ytoaakhfedfameaa
