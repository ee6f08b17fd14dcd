/-
  LabelMore.
-/
import Derived.Test.YtecnjbaanbakoaaDoorLaLawC
namespace Go.Proofs.YtecnjbaanbakoaaDoor
open Go Go.RowKit Go.Shelf Go.Deep

theorem nbs_app (A B : List NV) : nbs (A ++ B) = nbs A ++ nbs B := List.map_append
theorem all_both {A B : List NV} (l : List PairB) (ha : A.length ≤ 4) (hb : B.length ≤ 4) : La.all (nbs (A ++ B)) l = (La.all (nbs A) l && La.all (nbs B) l) := by
  rw [nbs_app]
  exact La.all_append l (by simpa using ha) (by simpa using hb)

set_option maxHeartbeats 6400000 in
theorem more_law (v0 v1 v2 : Value) (w : World) (a0 : ArgNs w v0) (a1 : ArgNs w v1) (a2 : ArgPrs w v2) :
    Calls Tryd.prog 5 #[v0, v1, v2] w fun e w' => e = .returned (.bool true) ∧ Below w.heap.size w w' := by
  obtain ⟨L0, hs0, raw0⟩ := a0
  obtain ⟨L1, hs1, raw1⟩ := a1
  obtain ⟨l2, hs2, ok2⟩ := a2
  have C0 := hide (lfew_any v0 L0 w hs0 raw0)
  have C1 := hide (fun W (h : Below w.heap.size w W) => lfew_any v1 L1 W (hs1.below h) raw1)
  have C2 := hide (fun W (h : Below w.heap.size w W) => bfew_any v2 l2 W (hs2.below h) ok2)
  clear hs0 hs1 hs2 raw0 raw1 ok2
  go_enter Tryd.func5, Tryd.ntmps5
  go_wp2_with fail
  refine C0.out.mono ?_
  rintro e w1 ⟨u0, rfl, A, hA, rA, oA, hb1⟩
  go_wp2_with fail
  refine (C1.out _ hb1).mono ?_
  rintro e w2 ⟨u1, rfl, B, hB, rB, oB, hb2⟩
  go_wp2_with fail
  refine (C2.out _ (bb2 hb1 hb2)).mono ?_
  rintro e w3 ⟨u2, rfl, rl, hb3⟩
  have SA := (row_sl rA oA).below (bb2 hb2 hb3)
  have SB := (row_sl rB oB).below hb3
  have SP : Prs w3 u2 (fewB2 l2) := Prs.of_row rfl rl
  have okl2 := bfew_okP l2
  have rwA := some_raw hA
  have rwB := some_raw hB
  have lA : A.length ≤ 9 := by have := congrArg List.length hA; have := someN_len (nbs L0); simp at *; omega
  have lB : B.length ≤ 9 := by have := congrArg List.length hB; have := someN_len (nbs L1); simp at *; omega
  have BB := hide (bb2 hb1 (bb2 hb2 hb3))
  clear hA hB rA oA rB oB rl hb1 hb2 hb3 C0 C1 C2
  generalize fewB2 l2 = l at *
  obtain ⟨a, ca, rfl⟩ := SA.form
  obtain ⟨b, cb, rfl⟩ := SB.form
  have SPH := hide SP
  obtain ⟨c, cc, rfl, _⟩ := SP
  have okl2 := hide okl2
  have capA : A.length ≤ ca ∧ ca ≤ maxLen := by
    obtain ⟨_, _, e, h1, h2, _⟩ := SA
    injection e with e1 e2 e3
    subst e3
    exact ⟨h1, h2⟩
  have capB : B.length ≤ cb ∧ cb ≤ maxLen := by
    obtain ⟨_, _, e, h1, h2, _⟩ := SB
    injection e with e1 e2 e3
    subst e3
    exact ⟨h1, h2⟩
  obtain ⟨cA1, cA2⟩ := capA
  obtain ⟨cB1, cB2⟩ := capB
  unfold maxLen at cA2 cB2
  by_cases hA4 : 4 < A.length
  · have hA4' : (4 : Int) < (A.length : Int) := by omega
    have cA4 : (4 : Int) ≤ (ca : Int) := by omega
    have hlA : (A.take 4).length ≤ 4 := by simp; omega
    have leA : (A.take 4).length = 4 := by simp; omega
    by_cases hB4 : 4 < B.length
    · have hB4' : (4 : Int) < (B.length : Int) := by omega
      have cB4 : (4 : Int) ≤ (cb : Int) := by omega
      have hlB : (B.take 4).length ≤ 4 := by simp; omega
      have leB : (B.take 4).length = 4 := by simp; omega
      replace SA := SA.pre (k := 4) (by omega)
      replace rwA : ∀ x ∈ A.take 4, RawN x.n := fun x hx => rwA x (List.mem_of_mem_take hx)
      replace SB := SB.pre (k := 4) (by omega)
      replace rwB : ∀ x ∈ B.take 4, RawN x.n := fun x hx => rwB x (List.mem_of_mem_take hx)
      generalize hAA : A.take 4 = A4 at *
      clear hAA
      have lA4 : A4.length = 4 := leA
      clear leA
      generalize hBB : B.take 4 = B4x at *
      clear hBB
      have lB4 : B4x.length = 4 := leB
      clear leB
      have SAH := hide SA
      have SBH := hide SB
      have RWA := hide rwA
      have RWB := hide rwB
      clear SA SB rwA rwB
      have B0 := (Below.refl w3.heap.size w3).alloc (Nat.le_refl _) (.cells #[] 29)
      go_wp2_with (at_builtin; first
        | (refine wpList_append_sl (E := EN) 22 29 _ 48 Tryd.underlying22 Tryd.infoNeed rfl (by decide) _ _ _ rfl (by rfl) w3.heap.size _ 0 [] rfl (owns_emptyT 29 EN.n w3 _ rfl) _ _ rfl (SAH.out.below B0) (by omega) (by simp) ?_; intro v4 w4 r4 g4; have B4 : Below w3.heap.size w3 w4 := B0.grown g4 (by simp) (fun j e => by have := ownBlock_ge (owns_emptyT 29 EN.n w3 w3.heap.size rfl) e; simpa using this); have hs4 := B4.size; clear g4 B0)
        | (refine wpList_append_sl (E := EN) 22 29 _ 48 Tryd.underlying22 Tryd.infoNeed rfl (by decide) _ _ _ rfl (by rfl) w3.heap.size _ _ _ rfl r4 _ _ rfl (SBH.out.below B4) (by omega) (by omega) ?_; intro v5 w5 r5 g5; have B5 : Below w3.heap.size w3 w5 := B4.grown g5 hs4 (fun j e => ownBlock_ge r4 e); clear g5 B4 r4 hs4; have B0 := (Below.refl w5.heap.size w5).alloc (Nat.le_refl _) (.cells #[] 29))
        | (refine wpList_append_sl (E := EN) 22 29 _ 48 Tryd.underlying22 Tryd.infoNeed rfl (by decide) _ _ _ rfl (by rfl) w5.heap.size _ 0 [] rfl (owns_emptyT 29 EN.n w5 _ rfl) _ _ rfl (SBH.out.below (bb2 B5 B0)) (by omega) (by simp) ?_; intro v6 w6 r6 g6; have B6 : Below w5.heap.size w5 w6 := B0.grown g6 (by simp) (fun j e => by have := ownBlock_ge (owns_emptyT 29 EN.n w5 w5.heap.size rfl) e; simpa using this); have hs6 := B6.size; clear g6 B0)
        | (refine wpList_append_sl (E := EN) 22 29 _ 48 Tryd.underlying22 Tryd.infoNeed rfl (by decide) _ _ _ rfl (by rfl) w5.heap.size _ _ _ rfl r6 _ _ rfl (SAH.out.below (bb2 B5 B6)) (by omega) (by omega) ?_; intro v7 w7 r7 g7; have B7 : Below w5.heap.size w5 w7 := B6.grown g7 hs6 (fun j e => ownBlock_ge r6 e); clear g7 B6 r6 hs6))
      have S5 : Sl EN w5 v5 (A4 ++ B4x) := Sl.of_row (E := EN) (by simp) r5 (fun x hx => by
        rcases List.mem_append.1 hx with h | h
        · exact (SAH.out.below B5).all x h
        · exact (SBH.out.below B5).all x h)
      have B57 := bb2 B5 B7
      have S7 : Sl EN w7 v7 (B4x ++ A4) := Sl.of_row (E := EN) (by simp) r7 (fun x hx => by
        rcases List.mem_append.1 hx with h | h
        · exact (SBH.out.below B57).all x h
        · exact (SAH.out.below B57).all x h)
      clear r5 r7
      have RAB : ∀ x ∈ A4 ++ B4x, RawN x.n := fun x hx => (List.mem_append.1 hx).elim (RWA.out x) (RWB.out x)
      have RBA : ∀ x ∈ B4x ++ A4, RawN x.n := fun x hx => (List.mem_append.1 hx).elim (RWB.out x) (RWA.out x)
      have BBH := hide (bb2 BB.out B57)
      have K1 := hide (fun W (h : Below w7.heap.size w7 W) => lall_any _ (.slice c l.length cc) A4 l W (SAH.out.below (bb2 B57 h)) RWA.out (SPH.out.below (bb2 B57 h)) okl2.out)
      have K2 := hide (fun W (h : Below w7.heap.size w7 W) => lall_any _ (.slice c l.length cc) B4x l W (SBH.out.below (bb2 B57 h)) RWB.out (SPH.out.below (bb2 B57 h)) okl2.out)
      have K3 := hide (fun W (h : Below w7.heap.size w7 W) => lall_any v5 (.slice c l.length cc) (A4 ++ B4x) l W (S5.below (bb2 B7 h)) RAB (SPH.out.below (bb2 B57 h)) okl2.out)
      have K4 := hide (fun W (h : Below w7.heap.size w7 W) => lall_any v7 (.slice c l.length cc) (B4x ++ A4) l W (S7.below h) RBA (SPH.out.below (bb2 B57 h)) okl2.out)
      have K5 := hide (fun W (h : Below w7.heap.size w7 W) => lall_any (.slice none 0 0) (.slice c l.length cc) [] l W (Sl.nil W) (fun x hx => absurd hx (by simp)) (SPH.out.below (bb2 B57 h)) okl2.out)
      have K6 := hide (fun W (h : Below w7.heap.size w7 W) => lmay_any (.slice c l.length cc) l W (SPH.out.below (bb2 B57 h)) okl2.out)
      rw [all_both l hlA hlB] at K3
      rw [all_both l hlB hlA, Bool.and_comm] at K4
      rw [show nbs [] = [] from rfl, La.all_nil] at K5
      clear S5 S7 SAH SBH RAB RBA RWA RWB B5 B7 B57 BB
      generalize La.all (nbs A4) l = rA at *
      generalize La.all (nbs B4x) l = rB at *
      generalize La.mayL l = rM at *
      have EQ : ∀ r : Bool, (r == r) = true := fun r => by cases r <;> rfl
      have E2 := EQ rB
      have E3 := EQ rM
      clear EQ
      cases rA
      · rw [Bool.false_and] at K3 K4
        go_wp2_with fail
        refine (K1.out _ (Below.refl _ _)).mono ?_
        rintro e w1 ⟨rfl, hb1⟩
        go_wp2_with fail
        refine (K3.out _ hb1).mono ?_
        rintro e w3 ⟨rfl, hb3⟩
        go_wp2_with fail
        refine (K4.out _ (bb2 hb1 hb3)).mono ?_
        rintro e w4 ⟨rfl, hb4⟩
        go_wp2_with fail
        refine (K5.out _ (bb2 hb1 (bb2 hb3 hb4))).mono ?_
        rintro e w5 ⟨rfl, hb5⟩
        go_wp2_with fail
        refine (K6.out _ (bb2 hb1 (bb2 hb3 (bb2 hb4 hb5)))).mono ?_
        rintro e w6 ⟨rfl, hb6⟩
        go_wp2_with fail
        refine (lawake_any _).mono ?_
        rintro e w9 ⟨rfl, hb9⟩
        go_wp2_with fail
        go_ret
        exact ⟨rfl, bb2 BBH.out (bb2 hb1 (bb2 hb3 (bb2 hb4 (bb2 hb5 (bb2 hb6 hb9)))))⟩
      · rw [Bool.true_and] at K3 K4
        go_wp2_with fail
        refine (K1.out _ (Below.refl _ _)).mono ?_
        rintro e w1 ⟨rfl, hb1⟩
        go_wp2_with fail
        refine (K2.out _ hb1).mono ?_
        rintro e w2 ⟨rfl, hb2⟩
        go_wp2_with fail
        refine (K3.out _ (bb2 hb1 hb2)).mono ?_
        rintro e w3 ⟨rfl, hb3⟩
        go_wp2_with fail
        refine (K4.out _ (bb2 hb1 (bb2 hb2 hb3))).mono ?_
        rintro e w4 ⟨rfl, hb4⟩
        go_wp2_with fail
        refine (K5.out _ (bb2 hb1 (bb2 hb2 (bb2 hb3 hb4)))).mono ?_
        rintro e w5 ⟨rfl, hb5⟩
        go_wp2_with fail
        refine (K6.out _ (bb2 hb1 (bb2 hb2 (bb2 hb3 (bb2 hb4 hb5))))).mono ?_
        rintro e w6 ⟨rfl, hb6⟩
        go_wp2_with fail
        refine (lawake_any _).mono ?_
        rintro e w9 ⟨rfl, hb9⟩
        go_wp2_with fail
        go_ret
        exact ⟨rfl, bb2 BBH.out (bb2 hb1 (bb2 hb2 (bb2 hb3 (bb2 hb4 (bb2 hb5 (bb2 hb6 hb9))))))⟩
    · have hB4' : ¬ (4 : Int) < (B.length : Int) := by omega
      have hlB : B.length ≤ 4 := by omega
      replace SA := SA.pre (k := 4) (by omega)
      replace rwA : ∀ x ∈ A.take 4, RawN x.n := fun x hx => rwA x (List.mem_of_mem_take hx)
      generalize hAA : A.take 4 = A4 at *
      clear hAA
      have lA4 : A4.length = 4 := leA
      clear leA
      have SAH := hide SA
      have SBH := hide SB
      have RWA := hide rwA
      have RWB := hide rwB
      clear SA SB rwA rwB
      have B0 := (Below.refl w3.heap.size w3).alloc (Nat.le_refl _) (.cells #[] 29)
      go_wp2_with (at_builtin; first
        | (refine wpList_append_sl (E := EN) 22 29 _ 48 Tryd.underlying22 Tryd.infoNeed rfl (by decide) _ _ _ rfl (by rfl) w3.heap.size _ 0 [] rfl (owns_emptyT 29 EN.n w3 _ rfl) _ _ rfl (SAH.out.below B0) (by omega) (by simp) ?_; intro v4 w4 r4 g4; have B4 : Below w3.heap.size w3 w4 := B0.grown g4 (by simp) (fun j e => by have := ownBlock_ge (owns_emptyT 29 EN.n w3 w3.heap.size rfl) e; simpa using this); have hs4 := B4.size; clear g4 B0)
        | (refine wpList_append_sl (E := EN) 22 29 _ 48 Tryd.underlying22 Tryd.infoNeed rfl (by decide) _ _ _ rfl (by rfl) w3.heap.size _ _ _ rfl r4 _ _ rfl (SBH.out.below B4) (by omega) (by omega) ?_; intro v5 w5 r5 g5; have B5 : Below w3.heap.size w3 w5 := B4.grown g5 hs4 (fun j e => ownBlock_ge r4 e); clear g5 B4 r4 hs4; have B0 := (Below.refl w5.heap.size w5).alloc (Nat.le_refl _) (.cells #[] 29))
        | (refine wpList_append_sl (E := EN) 22 29 _ 48 Tryd.underlying22 Tryd.infoNeed rfl (by decide) _ _ _ rfl (by rfl) w5.heap.size _ 0 [] rfl (owns_emptyT 29 EN.n w5 _ rfl) _ _ rfl (SBH.out.below (bb2 B5 B0)) (by omega) (by simp) ?_; intro v6 w6 r6 g6; have B6 : Below w5.heap.size w5 w6 := B0.grown g6 (by simp) (fun j e => by have := ownBlock_ge (owns_emptyT 29 EN.n w5 w5.heap.size rfl) e; simpa using this); have hs6 := B6.size; clear g6 B0)
        | (refine wpList_append_sl (E := EN) 22 29 _ 48 Tryd.underlying22 Tryd.infoNeed rfl (by decide) _ _ _ rfl (by rfl) w5.heap.size _ _ _ rfl r6 _ _ rfl (SAH.out.below (bb2 B5 B6)) (by omega) (by omega) ?_; intro v7 w7 r7 g7; have B7 : Below w5.heap.size w5 w7 := B6.grown g7 hs6 (fun j e => ownBlock_ge r6 e); clear g7 B6 r6 hs6))
      have S5 : Sl EN w5 v5 (A4 ++ B) := Sl.of_row (E := EN) (by simp) r5 (fun x hx => by
        rcases List.mem_append.1 hx with h | h
        · exact (SAH.out.below B5).all x h
        · exact (SBH.out.below B5).all x h)
      have B57 := bb2 B5 B7
      have S7 : Sl EN w7 v7 (B ++ A4) := Sl.of_row (E := EN) (by simp) r7 (fun x hx => by
        rcases List.mem_append.1 hx with h | h
        · exact (SBH.out.below B57).all x h
        · exact (SAH.out.below B57).all x h)
      clear r5 r7
      have RAB : ∀ x ∈ A4 ++ B, RawN x.n := fun x hx => (List.mem_append.1 hx).elim (RWA.out x) (RWB.out x)
      have RBA : ∀ x ∈ B ++ A4, RawN x.n := fun x hx => (List.mem_append.1 hx).elim (RWB.out x) (RWA.out x)
      have BBH := hide (bb2 BB.out B57)
      have K1 := hide (fun W (h : Below w7.heap.size w7 W) => lall_any _ (.slice c l.length cc) A4 l W (SAH.out.below (bb2 B57 h)) RWA.out (SPH.out.below (bb2 B57 h)) okl2.out)
      have K2 := hide (fun W (h : Below w7.heap.size w7 W) => lall_any _ (.slice c l.length cc) B l W (SBH.out.below (bb2 B57 h)) RWB.out (SPH.out.below (bb2 B57 h)) okl2.out)
      have K3 := hide (fun W (h : Below w7.heap.size w7 W) => lall_any v5 (.slice c l.length cc) (A4 ++ B) l W (S5.below (bb2 B7 h)) RAB (SPH.out.below (bb2 B57 h)) okl2.out)
      have K4 := hide (fun W (h : Below w7.heap.size w7 W) => lall_any v7 (.slice c l.length cc) (B ++ A4) l W (S7.below h) RBA (SPH.out.below (bb2 B57 h)) okl2.out)
      have K5 := hide (fun W (h : Below w7.heap.size w7 W) => lall_any (.slice none 0 0) (.slice c l.length cc) [] l W (Sl.nil W) (fun x hx => absurd hx (by simp)) (SPH.out.below (bb2 B57 h)) okl2.out)
      have K6 := hide (fun W (h : Below w7.heap.size w7 W) => lmay_any (.slice c l.length cc) l W (SPH.out.below (bb2 B57 h)) okl2.out)
      rw [all_both l hlA hlB] at K3
      rw [all_both l hlB hlA, Bool.and_comm] at K4
      rw [show nbs [] = [] from rfl, La.all_nil] at K5
      clear S5 S7 SAH SBH RAB RBA RWA RWB B5 B7 B57 BB
      generalize La.all (nbs A4) l = rA at *
      generalize La.all (nbs B) l = rB at *
      generalize La.mayL l = rM at *
      have EQ : ∀ r : Bool, (r == r) = true := fun r => by cases r <;> rfl
      have E2 := EQ rB
      have E3 := EQ rM
      clear EQ
      cases rA
      · rw [Bool.false_and] at K3 K4
        go_wp2_with fail
        refine (K1.out _ (Below.refl _ _)).mono ?_
        rintro e w1 ⟨rfl, hb1⟩
        go_wp2_with fail
        refine (K3.out _ hb1).mono ?_
        rintro e w3 ⟨rfl, hb3⟩
        go_wp2_with fail
        refine (K4.out _ (bb2 hb1 hb3)).mono ?_
        rintro e w4 ⟨rfl, hb4⟩
        go_wp2_with fail
        refine (K5.out _ (bb2 hb1 (bb2 hb3 hb4))).mono ?_
        rintro e w5 ⟨rfl, hb5⟩
        go_wp2_with fail
        refine (K6.out _ (bb2 hb1 (bb2 hb3 (bb2 hb4 hb5)))).mono ?_
        rintro e w6 ⟨rfl, hb6⟩
        go_wp2_with fail
        refine (lawake_any _).mono ?_
        rintro e w9 ⟨rfl, hb9⟩
        go_wp2_with fail
        go_ret
        exact ⟨rfl, bb2 BBH.out (bb2 hb1 (bb2 hb3 (bb2 hb4 (bb2 hb5 (bb2 hb6 hb9)))))⟩
      · rw [Bool.true_and] at K3 K4
        go_wp2_with fail
        refine (K1.out _ (Below.refl _ _)).mono ?_
        rintro e w1 ⟨rfl, hb1⟩
        go_wp2_with fail
        refine (K2.out _ hb1).mono ?_
        rintro e w2 ⟨rfl, hb2⟩
        go_wp2_with fail
        refine (K3.out _ (bb2 hb1 hb2)).mono ?_
        rintro e w3 ⟨rfl, hb3⟩
        go_wp2_with fail
        refine (K4.out _ (bb2 hb1 (bb2 hb2 hb3))).mono ?_
        rintro e w4 ⟨rfl, hb4⟩
        go_wp2_with fail
        refine (K5.out _ (bb2 hb1 (bb2 hb2 (bb2 hb3 hb4)))).mono ?_
        rintro e w5 ⟨rfl, hb5⟩
        go_wp2_with fail
        refine (K6.out _ (bb2 hb1 (bb2 hb2 (bb2 hb3 (bb2 hb4 hb5))))).mono ?_
        rintro e w6 ⟨rfl, hb6⟩
        go_wp2_with fail
        refine (lawake_any _).mono ?_
        rintro e w9 ⟨rfl, hb9⟩
        go_wp2_with fail
        go_ret
        exact ⟨rfl, bb2 BBH.out (bb2 hb1 (bb2 hb2 (bb2 hb3 (bb2 hb4 (bb2 hb5 (bb2 hb6 hb9))))))⟩
  · have hA4' : ¬ (4 : Int) < (A.length : Int) := by omega
    have hlA : A.length ≤ 4 := by omega
    by_cases hB4 : 4 < B.length
    · have hB4' : (4 : Int) < (B.length : Int) := by omega
      have cB4 : (4 : Int) ≤ (cb : Int) := by omega
      have hlB : (B.take 4).length ≤ 4 := by simp; omega
      have leB : (B.take 4).length = 4 := by simp; omega
      replace SB := SB.pre (k := 4) (by omega)
      replace rwB : ∀ x ∈ B.take 4, RawN x.n := fun x hx => rwB x (List.mem_of_mem_take hx)
      generalize hBB : B.take 4 = B4x at *
      clear hBB
      have lB4 : B4x.length = 4 := leB
      clear leB
      have SAH := hide SA
      have SBH := hide SB
      have RWA := hide rwA
      have RWB := hide rwB
      clear SA SB rwA rwB
      have B0 := (Below.refl w3.heap.size w3).alloc (Nat.le_refl _) (.cells #[] 29)
      go_wp2_with (at_builtin; first
        | (refine wpList_append_sl (E := EN) 22 29 _ 48 Tryd.underlying22 Tryd.infoNeed rfl (by decide) _ _ _ rfl (by rfl) w3.heap.size _ 0 [] rfl (owns_emptyT 29 EN.n w3 _ rfl) _ _ rfl (SAH.out.below B0) (by omega) (by simp) ?_; intro v4 w4 r4 g4; have B4 : Below w3.heap.size w3 w4 := B0.grown g4 (by simp) (fun j e => by have := ownBlock_ge (owns_emptyT 29 EN.n w3 w3.heap.size rfl) e; simpa using this); have hs4 := B4.size; clear g4 B0)
        | (refine wpList_append_sl (E := EN) 22 29 _ 48 Tryd.underlying22 Tryd.infoNeed rfl (by decide) _ _ _ rfl (by rfl) w3.heap.size _ _ _ rfl r4 _ _ rfl (SBH.out.below B4) (by omega) (by omega) ?_; intro v5 w5 r5 g5; have B5 : Below w3.heap.size w3 w5 := B4.grown g5 hs4 (fun j e => ownBlock_ge r4 e); clear g5 B4 r4 hs4; have B0 := (Below.refl w5.heap.size w5).alloc (Nat.le_refl _) (.cells #[] 29))
        | (refine wpList_append_sl (E := EN) 22 29 _ 48 Tryd.underlying22 Tryd.infoNeed rfl (by decide) _ _ _ rfl (by rfl) w5.heap.size _ 0 [] rfl (owns_emptyT 29 EN.n w5 _ rfl) _ _ rfl (SBH.out.below (bb2 B5 B0)) (by omega) (by simp) ?_; intro v6 w6 r6 g6; have B6 : Below w5.heap.size w5 w6 := B0.grown g6 (by simp) (fun j e => by have := ownBlock_ge (owns_emptyT 29 EN.n w5 w5.heap.size rfl) e; simpa using this); have hs6 := B6.size; clear g6 B0)
        | (refine wpList_append_sl (E := EN) 22 29 _ 48 Tryd.underlying22 Tryd.infoNeed rfl (by decide) _ _ _ rfl (by rfl) w5.heap.size _ _ _ rfl r6 _ _ rfl (SAH.out.below (bb2 B5 B6)) (by omega) (by omega) ?_; intro v7 w7 r7 g7; have B7 : Below w5.heap.size w5 w7 := B6.grown g7 hs6 (fun j e => ownBlock_ge r6 e); clear g7 B6 r6 hs6))
      have S5 : Sl EN w5 v5 (A ++ B4x) := Sl.of_row (E := EN) (by simp) r5 (fun x hx => by
        rcases List.mem_append.1 hx with h | h
        · exact (SAH.out.below B5).all x h
        · exact (SBH.out.below B5).all x h)
      have B57 := bb2 B5 B7
      have S7 : Sl EN w7 v7 (B4x ++ A) := Sl.of_row (E := EN) (by simp) r7 (fun x hx => by
        rcases List.mem_append.1 hx with h | h
        · exact (SBH.out.below B57).all x h
        · exact (SAH.out.below B57).all x h)
      clear r5 r7
      have RAB : ∀ x ∈ A ++ B4x, RawN x.n := fun x hx => (List.mem_append.1 hx).elim (RWA.out x) (RWB.out x)
      have RBA : ∀ x ∈ B4x ++ A, RawN x.n := fun x hx => (List.mem_append.1 hx).elim (RWB.out x) (RWA.out x)
      have BBH := hide (bb2 BB.out B57)
      have K1 := hide (fun W (h : Below w7.heap.size w7 W) => lall_any _ (.slice c l.length cc) A l W (SAH.out.below (bb2 B57 h)) RWA.out (SPH.out.below (bb2 B57 h)) okl2.out)
      have K2 := hide (fun W (h : Below w7.heap.size w7 W) => lall_any _ (.slice c l.length cc) B4x l W (SBH.out.below (bb2 B57 h)) RWB.out (SPH.out.below (bb2 B57 h)) okl2.out)
      have K3 := hide (fun W (h : Below w7.heap.size w7 W) => lall_any v5 (.slice c l.length cc) (A ++ B4x) l W (S5.below (bb2 B7 h)) RAB (SPH.out.below (bb2 B57 h)) okl2.out)
      have K4 := hide (fun W (h : Below w7.heap.size w7 W) => lall_any v7 (.slice c l.length cc) (B4x ++ A) l W (S7.below h) RBA (SPH.out.below (bb2 B57 h)) okl2.out)
      have K5 := hide (fun W (h : Below w7.heap.size w7 W) => lall_any (.slice none 0 0) (.slice c l.length cc) [] l W (Sl.nil W) (fun x hx => absurd hx (by simp)) (SPH.out.below (bb2 B57 h)) okl2.out)
      have K6 := hide (fun W (h : Below w7.heap.size w7 W) => lmay_any (.slice c l.length cc) l W (SPH.out.below (bb2 B57 h)) okl2.out)
      rw [all_both l hlA hlB] at K3
      rw [all_both l hlB hlA, Bool.and_comm] at K4
      rw [show nbs [] = [] from rfl, La.all_nil] at K5
      clear S5 S7 SAH SBH RAB RBA RWA RWB B5 B7 B57 BB
      generalize La.all (nbs A) l = rA at *
      generalize La.all (nbs B4x) l = rB at *
      generalize La.mayL l = rM at *
      have EQ : ∀ r : Bool, (r == r) = true := fun r => by cases r <;> rfl
      have E2 := EQ rB
      have E3 := EQ rM
      clear EQ
      cases rA
      · rw [Bool.false_and] at K3 K4
        go_wp2_with fail
        refine (K1.out _ (Below.refl _ _)).mono ?_
        rintro e w1 ⟨rfl, hb1⟩
        go_wp2_with fail
        refine (K3.out _ hb1).mono ?_
        rintro e w3 ⟨rfl, hb3⟩
        go_wp2_with fail
        refine (K4.out _ (bb2 hb1 hb3)).mono ?_
        rintro e w4 ⟨rfl, hb4⟩
        go_wp2_with fail
        refine (K5.out _ (bb2 hb1 (bb2 hb3 hb4))).mono ?_
        rintro e w5 ⟨rfl, hb5⟩
        go_wp2_with fail
        refine (K6.out _ (bb2 hb1 (bb2 hb3 (bb2 hb4 hb5)))).mono ?_
        rintro e w6 ⟨rfl, hb6⟩
        go_wp2_with fail
        refine (lawake_any _).mono ?_
        rintro e w9 ⟨rfl, hb9⟩
        go_wp2_with fail
        go_ret
        exact ⟨rfl, bb2 BBH.out (bb2 hb1 (bb2 hb3 (bb2 hb4 (bb2 hb5 (bb2 hb6 hb9)))))⟩
      · rw [Bool.true_and] at K3 K4
        go_wp2_with fail
        refine (K1.out _ (Below.refl _ _)).mono ?_
        rintro e w1 ⟨rfl, hb1⟩
        go_wp2_with fail
        refine (K2.out _ hb1).mono ?_
        rintro e w2 ⟨rfl, hb2⟩
        go_wp2_with fail
        refine (K3.out _ (bb2 hb1 hb2)).mono ?_
        rintro e w3 ⟨rfl, hb3⟩
        go_wp2_with fail
        refine (K4.out _ (bb2 hb1 (bb2 hb2 hb3))).mono ?_
        rintro e w4 ⟨rfl, hb4⟩
        go_wp2_with fail
        refine (K5.out _ (bb2 hb1 (bb2 hb2 (bb2 hb3 hb4)))).mono ?_
        rintro e w5 ⟨rfl, hb5⟩
        go_wp2_with fail
        refine (K6.out _ (bb2 hb1 (bb2 hb2 (bb2 hb3 (bb2 hb4 hb5))))).mono ?_
        rintro e w6 ⟨rfl, hb6⟩
        go_wp2_with fail
        refine (lawake_any _).mono ?_
        rintro e w9 ⟨rfl, hb9⟩
        go_wp2_with fail
        go_ret
        exact ⟨rfl, bb2 BBH.out (bb2 hb1 (bb2 hb2 (bb2 hb3 (bb2 hb4 (bb2 hb5 (bb2 hb6 hb9))))))⟩
    · have hB4' : ¬ (4 : Int) < (B.length : Int) := by omega
      have hlB : B.length ≤ 4 := by omega
      have SAH := hide SA
      have SBH := hide SB
      have RWA := hide rwA
      have RWB := hide rwB
      clear SA SB rwA rwB
      have B0 := (Below.refl w3.heap.size w3).alloc (Nat.le_refl _) (.cells #[] 29)
      go_wp2_with (at_builtin; first
        | (refine wpList_append_sl (E := EN) 22 29 _ 48 Tryd.underlying22 Tryd.infoNeed rfl (by decide) _ _ _ rfl (by rfl) w3.heap.size _ 0 [] rfl (owns_emptyT 29 EN.n w3 _ rfl) _ _ rfl (SAH.out.below B0) (by omega) (by simp) ?_; intro v4 w4 r4 g4; have B4 : Below w3.heap.size w3 w4 := B0.grown g4 (by simp) (fun j e => by have := ownBlock_ge (owns_emptyT 29 EN.n w3 w3.heap.size rfl) e; simpa using this); have hs4 := B4.size; clear g4 B0)
        | (refine wpList_append_sl (E := EN) 22 29 _ 48 Tryd.underlying22 Tryd.infoNeed rfl (by decide) _ _ _ rfl (by rfl) w3.heap.size _ _ _ rfl r4 _ _ rfl (SBH.out.below B4) (by omega) (by omega) ?_; intro v5 w5 r5 g5; have B5 : Below w3.heap.size w3 w5 := B4.grown g5 hs4 (fun j e => ownBlock_ge r4 e); clear g5 B4 r4 hs4; have B0 := (Below.refl w5.heap.size w5).alloc (Nat.le_refl _) (.cells #[] 29))
        | (refine wpList_append_sl (E := EN) 22 29 _ 48 Tryd.underlying22 Tryd.infoNeed rfl (by decide) _ _ _ rfl (by rfl) w5.heap.size _ 0 [] rfl (owns_emptyT 29 EN.n w5 _ rfl) _ _ rfl (SBH.out.below (bb2 B5 B0)) (by omega) (by simp) ?_; intro v6 w6 r6 g6; have B6 : Below w5.heap.size w5 w6 := B0.grown g6 (by simp) (fun j e => by have := ownBlock_ge (owns_emptyT 29 EN.n w5 w5.heap.size rfl) e; simpa using this); have hs6 := B6.size; clear g6 B0)
        | (refine wpList_append_sl (E := EN) 22 29 _ 48 Tryd.underlying22 Tryd.infoNeed rfl (by decide) _ _ _ rfl (by rfl) w5.heap.size _ _ _ rfl r6 _ _ rfl (SAH.out.below (bb2 B5 B6)) (by omega) (by omega) ?_; intro v7 w7 r7 g7; have B7 : Below w5.heap.size w5 w7 := B6.grown g7 hs6 (fun j e => ownBlock_ge r6 e); clear g7 B6 r6 hs6))
      have S5 : Sl EN w5 v5 (A ++ B) := Sl.of_row (E := EN) (by simp) r5 (fun x hx => by
        rcases List.mem_append.1 hx with h | h
        · exact (SAH.out.below B5).all x h
        · exact (SBH.out.below B5).all x h)
      have B57 := bb2 B5 B7
      have S7 : Sl EN w7 v7 (B ++ A) := Sl.of_row (E := EN) (by simp) r7 (fun x hx => by
        rcases List.mem_append.1 hx with h | h
        · exact (SBH.out.below B57).all x h
        · exact (SAH.out.below B57).all x h)
      clear r5 r7
      have RAB : ∀ x ∈ A ++ B, RawN x.n := fun x hx => (List.mem_append.1 hx).elim (RWA.out x) (RWB.out x)
      have RBA : ∀ x ∈ B ++ A, RawN x.n := fun x hx => (List.mem_append.1 hx).elim (RWB.out x) (RWA.out x)
      have BBH := hide (bb2 BB.out B57)
      have K1 := hide (fun W (h : Below w7.heap.size w7 W) => lall_any _ (.slice c l.length cc) A l W (SAH.out.below (bb2 B57 h)) RWA.out (SPH.out.below (bb2 B57 h)) okl2.out)
      have K2 := hide (fun W (h : Below w7.heap.size w7 W) => lall_any _ (.slice c l.length cc) B l W (SBH.out.below (bb2 B57 h)) RWB.out (SPH.out.below (bb2 B57 h)) okl2.out)
      have K3 := hide (fun W (h : Below w7.heap.size w7 W) => lall_any v5 (.slice c l.length cc) (A ++ B) l W (S5.below (bb2 B7 h)) RAB (SPH.out.below (bb2 B57 h)) okl2.out)
      have K4 := hide (fun W (h : Below w7.heap.size w7 W) => lall_any v7 (.slice c l.length cc) (B ++ A) l W (S7.below h) RBA (SPH.out.below (bb2 B57 h)) okl2.out)
      have K5 := hide (fun W (h : Below w7.heap.size w7 W) => lall_any (.slice none 0 0) (.slice c l.length cc) [] l W (Sl.nil W) (fun x hx => absurd hx (by simp)) (SPH.out.below (bb2 B57 h)) okl2.out)
      have K6 := hide (fun W (h : Below w7.heap.size w7 W) => lmay_any (.slice c l.length cc) l W (SPH.out.below (bb2 B57 h)) okl2.out)
      rw [all_both l hlA hlB] at K3
      rw [all_both l hlB hlA, Bool.and_comm] at K4
      rw [show nbs [] = [] from rfl, La.all_nil] at K5
      clear S5 S7 SAH SBH RAB RBA RWA RWB B5 B7 B57 BB
      generalize La.all (nbs A) l = rA at *
      generalize La.all (nbs B) l = rB at *
      generalize La.mayL l = rM at *
      have EQ : ∀ r : Bool, (r == r) = true := fun r => by cases r <;> rfl
      have E2 := EQ rB
      have E3 := EQ rM
      clear EQ
      cases rA
      · rw [Bool.false_and] at K3 K4
        go_wp2_with fail
        refine (K1.out _ (Below.refl _ _)).mono ?_
        rintro e w1 ⟨rfl, hb1⟩
        go_wp2_with fail
        refine (K3.out _ hb1).mono ?_
        rintro e w3 ⟨rfl, hb3⟩
        go_wp2_with fail
        refine (K4.out _ (bb2 hb1 hb3)).mono ?_
        rintro e w4 ⟨rfl, hb4⟩
        go_wp2_with fail
        refine (K5.out _ (bb2 hb1 (bb2 hb3 hb4))).mono ?_
        rintro e w5 ⟨rfl, hb5⟩
        go_wp2_with fail
        refine (K6.out _ (bb2 hb1 (bb2 hb3 (bb2 hb4 hb5)))).mono ?_
        rintro e w6 ⟨rfl, hb6⟩
        go_wp2_with fail
        refine (lawake_any _).mono ?_
        rintro e w9 ⟨rfl, hb9⟩
        go_wp2_with fail
        go_ret
        exact ⟨rfl, bb2 BBH.out (bb2 hb1 (bb2 hb3 (bb2 hb4 (bb2 hb5 (bb2 hb6 hb9)))))⟩
      · rw [Bool.true_and] at K3 K4
        go_wp2_with fail
        refine (K1.out _ (Below.refl _ _)).mono ?_
        rintro e w1 ⟨rfl, hb1⟩
        go_wp2_with fail
        refine (K2.out _ hb1).mono ?_
        rintro e w2 ⟨rfl, hb2⟩
        go_wp2_with fail
        refine (K3.out _ (bb2 hb1 hb2)).mono ?_
        rintro e w3 ⟨rfl, hb3⟩
        go_wp2_with fail
        refine (K4.out _ (bb2 hb1 (bb2 hb2 hb3))).mono ?_
        rintro e w4 ⟨rfl, hb4⟩
        go_wp2_with fail
        refine (K5.out _ (bb2 hb1 (bb2 hb2 (bb2 hb3 hb4)))).mono ?_
        rintro e w5 ⟨rfl, hb5⟩
        go_wp2_with fail
        refine (K6.out _ (bb2 hb1 (bb2 hb2 (bb2 hb3 (bb2 hb4 hb5))))).mono ?_
        rintro e w6 ⟨rfl, hb6⟩
        go_wp2_with fail
        refine (lawake_any _).mono ?_
        rintro e w9 ⟨rfl, hb9⟩
        go_wp2_with fail
        go_ret
        exact ⟨rfl, bb2 BBH.out (bb2 hb1 (bb2 hb2 (bb2 hb3 (bb2 hb4 (bb2 hb5 (bb2 hb6 hb9))))))⟩

end Go.Proofs.YtecnjbaanbakoaaDoor
