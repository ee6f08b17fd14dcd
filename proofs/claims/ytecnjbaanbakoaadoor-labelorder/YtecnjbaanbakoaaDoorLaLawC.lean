/-
  LabelMeets, LabelMore.
-/
import Derived.Test.YtecnjbaanbakoaaDoorLaLawA
import Derived.Test.YtecnjbaanbakoaaDoorLaLawB
import Derived.Test.YtecnjbaanbakoaaDoorLaRefM
import Derived.Test.YtecnjbaanbakoaaDoorLaRefS
import Derived.Test.YtecnjbaanbakoaaDoorLaArg
import Derived.Test.YtecnjbaanbakoaaDoorPbLawA
namespace Go.Proofs.YtecnjbaanbakoaaDoor
open Go Go.RowKit Go.Shelf Go.Deep

theorem some_ok {L' : List NV} {l : List NB} (h : nbs L' = someN l) : ∀ x ∈ L', OkN x.n := fun x hx => someN_ok l x.n (by rw [← h]; exact List.mem_map_of_mem hx)
theorem some_raw {L' : List NV} {l : List NB} (h : nbs L' = someN l) : ∀ x ∈ L', RawN x.n := fun x hx => (some_ok h x hx).raw
theorem row_sl {w : World} {b : Nat} {v : Value} {L : List NV} (h : w.ownsRow b 29 EN.n v L.length (EN.flat L)) (ho : ∀ x ∈ L, x.own w) : Sl EN w v L := Sl.of_row (E := EN) rfl h (fun x hx => (ho x hx).at_)
theorem few_okB (l : List PairB) : ∀ p ∈ fewB2 l, okB p := bfew_ok l

set_option maxHeartbeats 3200000 in
theorem meets_law (v0 v1 v2 : Value) (w : World) (a0 : ArgNs w v0) (a1 : ArgNs w v1) (a2 : ArgPrs w v2) :
    Calls Tryd.prog 3 #[v0, v1, v2] w fun e w' => e = .returned (.bool true) ∧ Below w.heap.size w w' := by
  obtain ⟨L0, hs0, raw0⟩ := a0
  obtain ⟨L1, hs1, raw1⟩ := a1
  obtain ⟨l2, hs2, ok2⟩ := a2
  have C0 := hide (lfew_any v0 L0 w hs0 raw0)
  have C1 := hide (fun W (h : Below w.heap.size w W) => lfew_any v1 L1 W (hs1.below h) raw1)
  have C2 := hide (fun W (h : Below w.heap.size w W) => bfew_any v2 l2 W (hs2.below h) ok2)
  clear hs0 hs1 hs2 raw0 raw1 ok2
  go_enter Tryd.func3, Tryd.ntmps3
  go_wp2_with fail
  refine C0.out.mono ?_
  rintro e w1 ⟨u0, rfl, A, hA, rA, oA, hb1⟩
  go_wp2_with fail
  refine (C1.out _ hb1).mono ?_
  rintro e w2 ⟨u1, rfl, B, hB, rB, oB, hb2⟩
  go_wp2_with fail
  refine (C2.out _ (bb2 hb1 hb2)).mono ?_
  rintro e w3 ⟨u2, rfl, rl, hb3⟩
  have SA := (row_sl rA oA).below (bb2 hb2 hb3)
  have SB := (row_sl rB oB).below hb3
  have SP : Prs w3 u2 (fewB2 l2) := Prs.of_row rfl rl
  have okl := few_okB l2
  have okl2 := bfew_okP l2
  have okA := some_ok hA
  have rwA := some_raw hA
  have BB := hide (bb2 hb1 (bb2 hb2 hb3))
  clear hA hB rA oA rB oB rl hb1 hb2 hb3 C0 C1 C2
  generalize fewB2 l2 = l at *
  have KM := hide (fun x W (h : Below w3.heap.size w3 W) (hx : Sl ES W x.v x.n.vals) h2 => lmet_any x u2 l W hx h2 (SP.below h) okl2)
  have KR := hide (fun x W (h : Below w3.heap.size w3 W) (hx : Sl ES W x.v x.n.vals) h2 => rlmet_any x u2 l W hx h2 (SP.below h) okl)
  have K1 := hide (fun W (h : Below w3.heap.size w3 W) => lmay_any u2 l W (SP.below h) okl2)
  have K2 := hide (fun W (h : Below w3.heap.size w3 W) => rlmay_any u2 l W (SP.below h) okl)
  have K3 := hide (fun W (h : Below w3.heap.size w3 W) => lneeds_any u0 A W (SA.below h) rwA)
  have K4 := hide (fun W (h : Below w3.heap.size w3 W) => rlneeds_any u0 A W (SA.below h) okA)
  have K5 := hide (fun W (h : Below w3.heap.size w3 W) => lall_any u0 u2 A l W (SA.below h) rwA (SP.below h) okl2)
  have K6 := hide (fun W (h : Below w3.heap.size w3 W) => rlall_any u0 u2 A l W (SA.below h) okA (SP.below h) okl)
  have K7 := hide (fun W (h : Below w3.heap.size w3 W) => lsame_any u0 u1 A B W (SA.below h) (SB.below h))
  have K8 := hide (fun W (h : Below w3.heap.size w3 W) => rlsame_any u0 u1 A B W (SA.below h) (SB.below h))
  obtain ⟨a, ca, rfl⟩ := SA.form
  have HC := hide (fun k (hk : k < A.length) => en_all SA hk)
  have hlenA := SA.len
  have OKA := hide okA
  obtain ⟨b, cb, rfl⟩ := SB.form
  obtain ⟨c, cc, rfl, _⟩ := SP
  clear SA SB okl okl2 okA rwA
  generalize La.mayL l = r1 at *
  generalize La.needs (nbs A) = r2 at *
  generalize La.all (nbs A) l = r3 at *
  generalize La.sameL (nbs A) (nbs B) = r4 at *
  go_wp2_with fail
  go_loopw [7] (fun i wr => ∃ k : Nat, k ≤ A.length ∧ i = .int .i64 k ∧ Below w3.heap.size w3 wr) (fun i _ => A.length - (intOf i).toNat)
  case atStart => exact ⟨0, Nat.zero_le _, rfl, Below.refl _ _⟩
  case round =>
    obtain ⟨k, hk, rfl, hB⟩ := hrel
    by_cases hlt : k < A.length
    · have hlt' : (k : Int) < (A.length : Int) := by omega
      obtain ⟨g, off, rfl, hg, hA1, cA⟩ := HC.out k hlt
      have M1 := hide (fun W (h : Below wr.heap.size wr W) => KM.out A[k] W (bb2 hB h) (hA1.below (bb2 hB h)) (OKA.out _ (List.getElem_mem hlt)).raw)
      have M2 := hide (fun W (h : Below wr.heap.size wr W) => KR.out A[k] W (bb2 hB h) (hA1.below (bb2 hB h)) (OKA.out _ (List.getElem_mem hlt)))
      have CA := hide (fun W (h : Below wr.heap.size wr W) => cA W (bb2 hB h))
      clear hA1 cA KM KR K1 K2 K3 K4 K5 K6 K7 K8
      generalize A[k] = x at *
      obtain ⟨⟨kk, nm, vs⟩, xa, xc⟩ := x
      dsimp only at *
      generalize La.met ⟨kk, nm, vs⟩ l = r at *
      cases r
      · go_wp2_with fail
        refine wp_region_noPanic ?_
        refine wp_region_held_drew (S := fun W => Below (wr).heap.size (wr) W) (by kernel_rfl) ((Below.refl _ _).drew) (fun hHeld => ?_)
        refine wpAnyH_take (i := 0) (v := ?_) (op_at (rest := _) rfl) (by kernel_rfl) (by kernel_rfl) (by kernel_rfl) (fun _ _ _ h => h) (Or.inl ⟨by rfl, ?_⟩) (by assumption) ?_
        rotate_left 1
        · (intro W hSw; (try dsimp only at hSw); go_simp; (try with_reducible rfl))
        try simp only [Act.put, List.setIfInBounds_toArray, List.set_cons_zero, List.set_cons_succ]
        refine wpAnyH_take (i := 1) (v := ?_) (op_at (rest := _) rfl) (by kernel_rfl) (by kernel_rfl) (by kernel_rfl) (fun _ _ _ h => h) (Or.inl ⟨by rfl, ?_⟩) (by assumption) ?_
        rotate_left 1
        · (intro W hSw; (try dsimp only at hSw); go_simp; (try with_reducible rfl))
        try simp only [Act.put, List.setIfInBounds_toArray, List.set_cons_zero, List.set_cons_succ]
        refine wpAnyH_take (i := 2) (v := ?_) (op_at (rest := _) rfl) (by kernel_rfl) (by kernel_rfl) (by kernel_rfl) (fun _ _ _ h => h) (Or.inl ⟨by rfl, ?_⟩) (by assumption) ?_
        rotate_left 1
        · (intro W hSw; (try dsimp only at hSw); go_simp; (try with_reducible rfl))
        try simp only [Act.put, List.setIfInBounds_toArray, List.set_cons_zero, List.set_cons_succ]
        refine wpAnyH_take (i := 3) (v := ?_) (op_at (rest := _) rfl) (by kernel_rfl) (by kernel_rfl) (by kernel_rfl) (fun _ _ _ h => h) (Or.inl ⟨by rfl, ?_⟩) (by assumption) ?_
        rotate_left 1
        · (intro W hSw; (try dsimp only at hSw); obtain ⟨q0, q1, q2⟩ := CA.out W hSw; go_simp; (try with_reducible rfl))
        try simp only [Act.put, List.setIfInBounds_toArray, List.set_cons_zero, List.set_cons_succ]
        refine wpAnyH_take (i := 4) (v := ?_) (op_at (rest := _) rfl) (by kernel_rfl) (by kernel_rfl) (by kernel_rfl) (fun _ _ _ h => h) (Or.inl ⟨by rfl, ?_⟩) (by assumption) ?_
        rotate_left 1
        · (intro W hSw; (try dsimp only at hSw); go_simp; (try with_reducible rfl))
        try simp only [Act.put, List.setIfInBounds_toArray, List.set_cons_zero, List.set_cons_succ]
        refine wpAnyH_take (i := 6) (v := ?_) (op_at (rest := _) rfl) (by kernel_rfl) (by kernel_rfl) (by kernel_rfl) (fun _ _ _ h => h) (Or.inl ⟨by rfl, ?_⟩) (by assumption) ?_
        rotate_left 1
        · (intro W hSw; (try dsimp only at hSw); go_simp; (try with_reducible rfl))
        try simp only [Act.put, List.setIfInBounds_toArray, List.set_cons_zero, List.set_cons_succ]
        refine wpAnyH_take (i := 7) (v := ?_) (op_at (rest := _) rfl) (by kernel_rfl) (by kernel_rfl) (by kernel_rfl) (fun _ _ _ h => h) (Or.inl ⟨by rfl, ?_⟩) (by assumption) ?_
        rotate_left 1
        · (intro W hSw; (try dsimp only at hSw); go_simp; (try with_reducible rfl))
        try simp only [Act.put, List.setIfInBounds_toArray, List.set_cons_zero, List.set_cons_succ]
        refine wpAnyH_take (i := 8) (v := ?_) (op_at (rest := _) rfl) (by kernel_rfl) (by kernel_rfl) (by kernel_rfl) (fun _ _ _ h => h) (Or.inl ⟨by rfl, ?_⟩) (by assumption) ?_
        rotate_left 1
        · (intro W hSw; (try dsimp only at hSw); go_simp; (try with_reducible rfl))
        try simp only [Act.put, List.setIfInBounds_toArray, List.set_cons_zero, List.set_cons_succ]
        refine wpAnyH_take (i := 9) (v := ?_) (op_at (rest := _) rfl) (by kernel_rfl) (by kernel_rfl) (by kernel_rfl) (fun _ _ _ h => h) (Or.inl ⟨by rfl, ?_⟩) (by assumption) ?_
        rotate_left 1
        · (intro W hSw; (try dsimp only at hSw); obtain ⟨q0, q1, q2⟩ := CA.out W hSw; go_simp; (try with_reducible rfl))
        try simp only [Act.put, List.setIfInBounds_toArray, List.set_cons_zero, List.set_cons_succ]
        refine wpAnyH_take (i := 10) (v := ?_) (op_at (rest := _) rfl) (by kernel_rfl) (by kernel_rfl) (by kernel_rfl) (fun _ _ _ h => h) (Or.inl ⟨by rfl, ?_⟩) (by assumption) ?_
        rotate_left 1
        · (intro W hSw; (try dsimp only at hSw); go_simp; (try with_reducible rfl))
        try simp only [Act.put, List.setIfInBounds_toArray, List.set_cons_zero, List.set_cons_succ]
        refine wpAnyH_ready (rs := [5]) (by kernel_rfl) (by simp) ?_
        refine AllReadyH.cons (op_at (rest := _) rfl) (fun K hK => ?_) AllReadyH.nil
        go_simp
        refine (M1.out _ hHeld).mono ?_
        rintro e w1 ⟨rfl, hb1⟩
        go_wp2_with fail
        replace hHeld := hHeld.trans (hb1.mono hHeld.size)
        refine hK.out _ _ hHeld (fun _ => ?_)
        clear hK K
        try simp only [Act.put, List.setIfInBounds_toArray, List.set_cons_zero, List.set_cons_succ]
        refine wpAnyH_ready (rs := [11]) (by kernel_rfl) (by simp) ?_
        refine AllReadyH.cons (op_at (rest := _) rfl) (fun K hK => ?_) AllReadyH.nil
        go_simp
        refine (M2.out _ hHeld).mono ?_
        rintro e w2 ⟨rfl, hb2⟩
        go_wp2_with fail
        replace hHeld := hHeld.trans (hb2.mono hHeld.size)
        refine hK.out _ _ hHeld (fun _ => ?_)
        clear hK K
        try simp only [Act.put, List.setIfInBounds_toArray, List.set_cons_zero, List.set_cons_succ]
        refine wpAnyH_take (i := 12) (v := ?_) (op_at (rest := _) rfl) (by kernel_rfl) (by kernel_rfl) (by kernel_rfl) (fun _ _ _ h => h) (Or.inl ⟨by rfl, ?_⟩) (by assumption) ?_
        rotate_left 1
        · (intro W hSw; (try dsimp only at hSw); go_simp; (try with_reducible rfl))
        try simp only [Act.put, List.setIfInBounds_toArray, List.set_cons_zero, List.set_cons_succ]
        refine wpAnyH_done (by kernel_rfl) ?_ _
        refine NoPanic.normal ?_
        go_wp2_with fail
        exact ⟨⟨k + 1, by omega, by go_num, bb2 hB hHeld⟩, by simp [intOf]; omega⟩
      · go_wp2_with fail
        refine wp_region_noPanic ?_
        refine wp_region_held_drew (S := fun W => Below (wr).heap.size (wr) W) (by kernel_rfl) ((Below.refl _ _).drew) (fun hHeld => ?_)
        refine wpAnyH_take (i := 0) (v := ?_) (op_at (rest := _) rfl) (by kernel_rfl) (by kernel_rfl) (by kernel_rfl) (fun _ _ _ h => h) (Or.inl ⟨by rfl, ?_⟩) (by assumption) ?_
        rotate_left 1
        · (intro W hSw; (try dsimp only at hSw); go_simp; (try with_reducible rfl))
        try simp only [Act.put, List.setIfInBounds_toArray, List.set_cons_zero, List.set_cons_succ]
        refine wpAnyH_take (i := 1) (v := ?_) (op_at (rest := _) rfl) (by kernel_rfl) (by kernel_rfl) (by kernel_rfl) (fun _ _ _ h => h) (Or.inl ⟨by rfl, ?_⟩) (by assumption) ?_
        rotate_left 1
        · (intro W hSw; (try dsimp only at hSw); go_simp; (try with_reducible rfl))
        try simp only [Act.put, List.setIfInBounds_toArray, List.set_cons_zero, List.set_cons_succ]
        refine wpAnyH_take (i := 2) (v := ?_) (op_at (rest := _) rfl) (by kernel_rfl) (by kernel_rfl) (by kernel_rfl) (fun _ _ _ h => h) (Or.inl ⟨by rfl, ?_⟩) (by assumption) ?_
        rotate_left 1
        · (intro W hSw; (try dsimp only at hSw); go_simp; (try with_reducible rfl))
        try simp only [Act.put, List.setIfInBounds_toArray, List.set_cons_zero, List.set_cons_succ]
        refine wpAnyH_take (i := 3) (v := ?_) (op_at (rest := _) rfl) (by kernel_rfl) (by kernel_rfl) (by kernel_rfl) (fun _ _ _ h => h) (Or.inl ⟨by rfl, ?_⟩) (by assumption) ?_
        rotate_left 1
        · (intro W hSw; (try dsimp only at hSw); obtain ⟨q0, q1, q2⟩ := CA.out W hSw; go_simp; (try with_reducible rfl))
        try simp only [Act.put, List.setIfInBounds_toArray, List.set_cons_zero, List.set_cons_succ]
        refine wpAnyH_take (i := 4) (v := ?_) (op_at (rest := _) rfl) (by kernel_rfl) (by kernel_rfl) (by kernel_rfl) (fun _ _ _ h => h) (Or.inl ⟨by rfl, ?_⟩) (by assumption) ?_
        rotate_left 1
        · (intro W hSw; (try dsimp only at hSw); go_simp; (try with_reducible rfl))
        try simp only [Act.put, List.setIfInBounds_toArray, List.set_cons_zero, List.set_cons_succ]
        refine wpAnyH_take (i := 6) (v := ?_) (op_at (rest := _) rfl) (by kernel_rfl) (by kernel_rfl) (by kernel_rfl) (fun _ _ _ h => h) (Or.inl ⟨by rfl, ?_⟩) (by assumption) ?_
        rotate_left 1
        · (intro W hSw; (try dsimp only at hSw); go_simp; (try with_reducible rfl))
        try simp only [Act.put, List.setIfInBounds_toArray, List.set_cons_zero, List.set_cons_succ]
        refine wpAnyH_take (i := 7) (v := ?_) (op_at (rest := _) rfl) (by kernel_rfl) (by kernel_rfl) (by kernel_rfl) (fun _ _ _ h => h) (Or.inl ⟨by rfl, ?_⟩) (by assumption) ?_
        rotate_left 1
        · (intro W hSw; (try dsimp only at hSw); go_simp; (try with_reducible rfl))
        try simp only [Act.put, List.setIfInBounds_toArray, List.set_cons_zero, List.set_cons_succ]
        refine wpAnyH_take (i := 8) (v := ?_) (op_at (rest := _) rfl) (by kernel_rfl) (by kernel_rfl) (by kernel_rfl) (fun _ _ _ h => h) (Or.inl ⟨by rfl, ?_⟩) (by assumption) ?_
        rotate_left 1
        · (intro W hSw; (try dsimp only at hSw); go_simp; (try with_reducible rfl))
        try simp only [Act.put, List.setIfInBounds_toArray, List.set_cons_zero, List.set_cons_succ]
        refine wpAnyH_take (i := 9) (v := ?_) (op_at (rest := _) rfl) (by kernel_rfl) (by kernel_rfl) (by kernel_rfl) (fun _ _ _ h => h) (Or.inl ⟨by rfl, ?_⟩) (by assumption) ?_
        rotate_left 1
        · (intro W hSw; (try dsimp only at hSw); obtain ⟨q0, q1, q2⟩ := CA.out W hSw; go_simp; (try with_reducible rfl))
        try simp only [Act.put, List.setIfInBounds_toArray, List.set_cons_zero, List.set_cons_succ]
        refine wpAnyH_take (i := 10) (v := ?_) (op_at (rest := _) rfl) (by kernel_rfl) (by kernel_rfl) (by kernel_rfl) (fun _ _ _ h => h) (Or.inl ⟨by rfl, ?_⟩) (by assumption) ?_
        rotate_left 1
        · (intro W hSw; (try dsimp only at hSw); go_simp; (try with_reducible rfl))
        try simp only [Act.put, List.setIfInBounds_toArray, List.set_cons_zero, List.set_cons_succ]
        refine wpAnyH_ready (rs := [5]) (by kernel_rfl) (by simp) ?_
        refine AllReadyH.cons (op_at (rest := _) rfl) (fun K hK => ?_) AllReadyH.nil
        go_simp
        refine (M1.out _ hHeld).mono ?_
        rintro e w1 ⟨rfl, hb1⟩
        go_wp2_with fail
        replace hHeld := hHeld.trans (hb1.mono hHeld.size)
        refine hK.out _ _ hHeld (fun _ => ?_)
        clear hK K
        try simp only [Act.put, List.setIfInBounds_toArray, List.set_cons_zero, List.set_cons_succ]
        refine wpAnyH_ready (rs := [11]) (by kernel_rfl) (by simp) ?_
        refine AllReadyH.cons (op_at (rest := _) rfl) (fun K hK => ?_) AllReadyH.nil
        go_simp
        refine (M2.out _ hHeld).mono ?_
        rintro e w2 ⟨rfl, hb2⟩
        go_wp2_with fail
        replace hHeld := hHeld.trans (hb2.mono hHeld.size)
        refine hK.out _ _ hHeld (fun _ => ?_)
        clear hK K
        try simp only [Act.put, List.setIfInBounds_toArray, List.set_cons_zero, List.set_cons_succ]
        refine wpAnyH_take (i := 12) (v := ?_) (op_at (rest := _) rfl) (by kernel_rfl) (by kernel_rfl) (by kernel_rfl) (fun _ _ _ h => h) (Or.inl ⟨by rfl, ?_⟩) (by assumption) ?_
        rotate_left 1
        · (intro W hSw; (try dsimp only at hSw); go_simp; (try with_reducible rfl))
        try simp only [Act.put, List.setIfInBounds_toArray, List.set_cons_zero, List.set_cons_succ]
        refine wpAnyH_done (by kernel_rfl) ?_ _
        refine NoPanic.normal ?_
        go_wp2_with fail
        exact ⟨⟨k + 1, by omega, by go_num, bb2 hB hHeld⟩, by simp [intOf]; omega⟩
    · have hlt' : ¬ (k : Int) < (A.length : Int) := by omega
      clear KM KR HC OKA
      have EQ : ∀ r : Bool, (r == r) = true := fun r => by cases r <;> rfl
      have E1 := EQ r1
      have E2 := EQ r2
      have E3 := EQ r3
      have E4 := EQ r4
      go_wp2_with fail
      refine (K1.out _ hB).mono ?_
      rintro e w1 ⟨rfl, hb1⟩
      go_wp2_with fail
      refine (K2.out _ (bb2 hB hb1)).mono ?_
      rintro e w2 ⟨rfl, hb2⟩
      go_wp2_with fail
      have B2 := bb2 hB (bb2 hb1 hb2)
      refine (K3.out _ B2).mono ?_
      rintro e w3 ⟨rfl, hb3⟩
      go_wp2_with fail
      have B3 := bb2 B2 hb3
      refine (K4.out _ B3).mono ?_
      rintro e w4 ⟨rfl, hb4⟩
      go_wp2_with fail
      have B4 := bb2 B3 hb4
      refine (K5.out _ B4).mono ?_
      rintro e w5 ⟨rfl, hb5⟩
      go_wp2_with fail
      have B5 := bb2 B4 hb5
      refine (K6.out _ B5).mono ?_
      rintro e w6 ⟨rfl, hb6⟩
      go_wp2_with fail
      have B6 := bb2 B5 hb6
      refine (K7.out _ B6).mono ?_
      rintro e w7 ⟨rfl, hb7⟩
      go_wp2_with fail
      have B7 := bb2 B6 hb7
      refine (K8.out _ B7).mono ?_
      rintro e w8 ⟨rfl, hb8⟩
      go_wp2_with fail
      have B8 := bb2 B7 hb8
      refine (lawake_any _).mono ?_
      rintro e w9 ⟨rfl, hb9⟩
      go_wp2_with fail
      go_ret
      exact ⟨rfl, bb2 BB.out (bb2 B8 hb9)⟩

end Go.Proofs.YtecnjbaanbakoaaDoor
