/-
  Walks: Not (of a need).
-/
import Derived.Test.YtecnjbaanbakoaaDoorLaWalkF
import Derived.Test.YtecnjbaanbakoaaDoorLaWalkC
import Derived.Test.YtecnjbaanbakoaaDoorGrow
import Derived.Deep.RegionHeld3
namespace Go.Proofs.YtecnjbaanbakoaaDoor
open Go Go.RowKit Go.Shelf

theorem blk2 {w W : World} {o1 o2 : Obj} (h : Below ((w.alloc o1).alloc o2).heap.size ((w.alloc o1).alloc o2) W) : W.heap[w.heap.size]? = some o1 ∧ W.heap[w.heap.size + 1]? = some o2 := by
  refine ⟨box_block (below_box h), ?_⟩
  have := box_block h
  simpa using this

set_option maxHeartbeats 1600000 in
theorem lnot_no (x : NV) (w : World) (hx : Sl ES w x.v x.n.vals) (hr : RawN x.n) (hm : La.mayN x.n = false) :
    Calls Tryd.prog 23 #[nV x] w fun e w' => e = .returned (.tuple #[.agg #[.int .i64 0, .string ⟨#[]⟩, .slice none 0 0], .bool false]) ∧ Below w.heap.size w w' := by
  have HM := hide (fun W (h : Below w.heap.size w W) => mayNeed_any x W (hx.below h) hr)
  rw [hm] at HM
  clear hx hr hm
  obtain ⟨⟨k, nm, vs⟩, a, c⟩ := x
  try dsimp only at *
  go_enter Tryd.func23, Tryd.ntmps23
  go_wp2_with fail
  refine (HM.out _ (((Below.refl _ _).alloc (Nat.le_refl _) _).alloc (by simp) _)).mono ?_
  rintro e w1 ⟨rfl, hb1⟩
  have BB := bb2 (((Below.refl w.heap.size w).alloc (Nat.le_refl _) _).alloc (by simp) _) hb1
  obtain ⟨k1, k2⟩ := blk2 hb1
  have l0 := liveN k2 0
  have l1 := liveN k2 1
  have l2 := liveN k2 2
  obtain ⟨z0, z1, z2⟩ : _ ∧ _ ∧ _ := ⟨cellN k2 (i := 0) rfl, cellN k2 (i := 1) rfl, cellN k2 (i := 2) rfl⟩
  go_wp2_with fail
  have K4 := setL_all [.int .i64 0, .string ⟨#[]⟩, .slice none 0 0] k2 rfl
  have S1 := setL_below (w := w) (B := w.heap.size) (g := w.heap.size + 1) (by omega) [.int .i64 0, .string ⟨#[]⟩, .slice none 0 0] w1 0 BB
  change bodyPost _ _ _ _ _ (setL w1 (w.heap.size + 1) 0 [.int .i64 0, .string ⟨#[]⟩, .slice none 0 0])
  generalize setL w1 (w.heap.size + 1) 0 [.int .i64 0, .string ⟨#[]⟩, .slice none 0 0] = W3 at *
  obtain ⟨e0, e1, e2⟩ : _ ∧ _ ∧ _ := ⟨cellN K4 (i := 0) rfl, cellN K4 (i := 1) rfl, cellN K4 (i := 2) rfl⟩
  exact bodyPost_ret (v := .tuple #[.agg #[.int .i64 0, .string ⟨#[]⟩, .slice none 0 0], .bool false]) (by simp [results, Tryd.f23, go_sem, e0, e1, e2]) rfl ⟨rfl, S1⟩

set_option maxHeartbeats 3200000 in
theorem lnot_yes (x : NV) (w : World) (hx : Sl ES w x.v x.n.vals) (hr : RawN x.n) (hlen : x.n.vals.length ≤ 1000) (hm : La.mayN x.n = true) :
    Calls Tryd.prog 23 #[nV x] w fun e w' => ∃ a c, e = .returned (.tuple #[nV ⟨La.notN x.n, a, c⟩, .bool true]) ∧ Sl ES w' (.slice a x.n.vals.length c) x.n.vals ∧ Below w.heap.size w w' := by
  have HM := hide (fun W (h : Below w.heap.size w W) => mayNeed_any x W (hx.below h) hr)
  rw [hm] at HM
  have HX := hide hx
  clear hx hr hm
  obtain ⟨⟨k, nm, vs⟩, a, c⟩ := x
  try dsimp only at *
  go_enter Tryd.func23, Tryd.ntmps23
  go_wp2_with fail
  refine (HM.out _ (((Below.refl _ _).alloc (Nat.le_refl _) _).alloc (by simp) _)).mono ?_
  rintro e w1 ⟨rfl, hb1⟩
  have BB := bb2 (((Below.refl w.heap.size w).alloc (Nat.le_refl _) _).alloc (by simp) _) hb1
  have hsz : w.heap.size + 1 + 1 ≤ w1.heap.size := by have := hb1.size; simpa using this
  obtain ⟨k1, k2⟩ := blk2 hb1
  have D1 : ∀ W, Below (w.heap.size + 1) w1 W → W.heap[w.heap.size]? = _ := fun W hW => (hW.block _ (by omega)).trans k1
  go_wp2_with fail
  refine wp_region_noPanic ?_
  refine wp_region_held_drew (S := fun W => Below (w.heap.size + 1) w1 W) (by kernel_rfl) ((Below.refl _ _).drew) (fun hHeld => ?_)
  refine wpAnyH_take (i := 0) (v := ?_) (op_at (rest := _) rfl) (by kernel_rfl) (by kernel_rfl) (by kernel_rfl) (fun _ _ _ h => h) (Or.inl ⟨by rfl, ?_⟩) (by assumption) ?_
  rotate_left 1
  · (intro W hSw; (try dsimp only at hSw); have y0 := cellN (D1 W hSw) (i := 0) rfl ; have y1 := cellN (D1 W hSw) (i := 1) rfl ; have y2 := cellN (D1 W hSw) (i := 2) rfl; go_simp; (try with_reducible rfl))
  try simp only [Act.put, List.setIfInBounds_toArray, List.set_cons_zero, List.set_cons_succ]
  refine wpAnyH_take (i := 3) (v := ?_) (op_at (rest := _) rfl) (by kernel_rfl) (by kernel_rfl) (by kernel_rfl) (fun _ _ _ h => h) (Or.inl ⟨by rfl, ?_⟩) (by assumption) ?_
  rotate_left 1
  · (intro W hSw; (try dsimp only at hSw); go_simp; (try with_reducible rfl))
  try simp only [Act.put, List.setIfInBounds_toArray, List.set_cons_zero, List.set_cons_succ]
  refine wpAnyH_take (i := 4) (v := ?_) (op_at (rest := _) rfl) (by kernel_rfl) (by kernel_rfl) (by kernel_rfl) (fun _ _ _ h => h) (Or.inl ⟨by rfl, ?_⟩) (by assumption) ?_
  rotate_left 1
  · (intro W hSw; (try dsimp only at hSw); have y1 := cellN (D1 W hSw) (i := 1) rfl; go_simp; (try with_reducible rfl))
  try simp only [Act.put, List.setIfInBounds_toArray, List.set_cons_zero, List.set_cons_succ]
  refine wpAnyH_take (i := 5) (v := ?_) (op_at (rest := _) rfl) (by kernel_rfl) (by kernel_rfl) (by kernel_rfl) (fun _ _ _ h => h) (Or.inl ⟨by rfl, ?_⟩) (by assumption) ?_
  rotate_left 1
  · (intro W hSw; (try dsimp only at hSw); go_simp; (try with_reducible rfl))
  try simp only [Act.put, List.setIfInBounds_toArray, List.set_cons_zero, List.set_cons_succ]
  refine wpAnyH_take (i := 6) (v := ?_) (op_at (rest := _) rfl) (by kernel_rfl) (by kernel_rfl) (by kernel_rfl) (fun _ _ _ h => h) (Or.inl ⟨by rfl, ?_⟩) (by assumption) ?_
  rotate_left 1
  · (intro W hSw; (try dsimp only at hSw); have y2 := cellN (D1 W hSw) (i := 2) rfl; go_simp; (try with_reducible rfl))
  try simp only [Act.put, List.setIfInBounds_toArray, List.set_cons_zero, List.set_cons_succ]
  refine wpAnyH_ready (rs := [1]) (by kernel_rfl) (by simp) ?_
  refine AllReadyH.cons (op_at (rest := _) rfl) (fun K hK => ?_) AllReadyH.nil
  go_simp
  refine (askOf_any k nm a vs.length c _).mono ?_
  rintro e w2 ⟨rfl, hb2⟩
  go_wp2_with fail
  have hT2 : Below w1.heap.size w1 w2 := bb2 ((Below.refl _ _).drew) hb2
  refine hK.out _ _ (hT2.mono (by omega)) (fun hHeld2 => ?_)
  clear hK K hHeld
  try simp only [Act.put, List.setIfInBounds_toArray, List.set_cons_zero, List.set_cons_succ]
  refine wpAnyH_ready (rs := [2]) (by kernel_rfl) (by simp) ?_
  refine AllReadyH.cons (op_at (rest := _) rfl) (fun K hK => ?_) AllReadyH.nil
  go_simp
  refine (otherKind_any k a vs.length c _).mono ?_
  rintro e w3 ⟨rfl, hw3⟩
  subst w3
  go_wp2_with fail
  refine hK.out _ _ hHeld2 (fun _ => ?_)
  clear hK K
  try simp only [Act.put, List.setIfInBounds_toArray, List.set_cons_zero, List.set_cons_succ]
  refine wpAnyH_ready (rs := [7]) (by kernel_rfl) (by simp) ?_
  refine AllReadyH.cons (op_at (rest := _) rfl) (fun K hK => ?_) AllReadyH.nil
  go_simp
  refine (sclone_any (.slice a vs.length c) vs _ (HX.out.below (bb2 BB hT2)) hlen).mono ?_
  rintro e w4 ⟨v4, rfl, hr4, hb4⟩
  have S4 := Sl.of_row (E := ES) rfl hr4 (fun _ _ => trivial)
  obtain ⟨a4, c4, hv4⟩ := S4.form
  subst hv4
  go_wp2_with fail
  have hT4 : Below w1.heap.size w1 w4 := bb2 hT2 hb4
  have hHeld4 : Below (w.heap.size + 1) w1 w4 := hT4.mono (by omega)
  refine hK.out _ _ hHeld4 (fun _ => ?_)
  clear hK K hHeld2
  try simp only [Act.put, List.setIfInBounds_toArray, List.set_cons_zero, List.set_cons_succ]
  refine wpAnyH_take (i := 8) (v := ?_) (op_at (rest := _) rfl) (by kernel_rfl) (by kernel_rfl) (by kernel_rfl) (fun _ _ _ h => h) (Or.inl ⟨by rfl, ?_⟩) (by assumption) ?_
  rotate_left 1
  · (intro W hSw; (try dsimp only at hSw); go_simp; (try with_reducible rfl))
  try simp only [Act.put, List.setIfInBounds_toArray, List.set_cons_zero, List.set_cons_succ]
  have K2 := blk_below k2 hT4
  have l0 := liveN K2 0
  have l1 := liveN K2 1
  have l2 := liveN K2 2
  obtain ⟨z0, z1, z2⟩ : _ ∧ _ ∧ _ := ⟨cellN K2 (i := 0) rfl, cellN K2 (i := 1) rfl, cellN K2 (i := 2) rfl⟩
  refine wpAnyH_ready (rs := [9]) (by kernel_rfl) (by simp) ?_
  refine AllReadyH.cons (op_at (rest := _) rfl) (fun K hK => ?_) AllReadyH.nil
  go_simp
  have R4 := row_setLb (W := w4) (g := w.heap.size + 1) (k := 0) (cs := [.int .i64 (La.otherK k), .string nm, .slice a4 vs.length c4]) hr4 (by have := hT2.size; omega)
  have K4 := setL_all [.int .i64 (La.otherK k), .string nm, .slice a4 vs.length c4] K2 rfl
  have S1 := setL_below (w := w) (B := w.heap.size) (g := w.heap.size + 1) (by omega) [.int .i64 (La.otherK k), .string nm, .slice a4 vs.length c4] w4 0 (bb2 BB hT4)
  have S2 := setL_below (w := w1) (B := w.heap.size + 1) (g := w.heap.size + 1) (by omega) [.int .i64 (La.otherK k), .string nm, .slice a4 vs.length c4] w4 0 hHeld4
  change K _ (setL w4 (w.heap.size + 1) 0 [.int .i64 (La.otherK k), .string nm, .slice a4 vs.length c4])
  generalize setL w4 (w.heap.size + 1) 0 [.int .i64 (La.otherK k), .string nm, .slice a4 vs.length c4] = W3 at *
  refine hK.out _ _ S2 (fun _ => ?_)
  clear hK K hHeld4
  try simp only [Act.put, List.setIfInBounds_toArray, List.set_cons_zero, List.set_cons_succ]
  refine wpAnyH_take (i := 10) (v := ?_) (op_at (rest := _) rfl) (by kernel_rfl) (by kernel_rfl) (by kernel_rfl) (fun _ _ _ h => h) (Or.inl ⟨by rfl, ?_⟩) (by assumption) ?_
  rotate_left 1
  · (intro W hSw; (try dsimp only at hSw); go_simp; (try with_reducible rfl))
  try simp only [Act.put, List.setIfInBounds_toArray, List.set_cons_zero, List.set_cons_succ]
  refine wpAnyH_done (by kernel_rfl) ?_ _
  refine NoPanic.normal ?_
  clear l0 l1 l2 z0 z1 z2 K2
  obtain ⟨e0, e1, e2⟩ : _ ∧ _ ∧ _ := ⟨cellN K4 (i := 0) rfl, cellN K4 (i := 1) rfl, cellN K4 (i := 2) rfl⟩
  go_wp2_with fail
  exact bodyPost_ret (v := .tuple #[.agg #[.int .i64 (La.otherK k), .string nm, .slice a4 vs.length c4], .bool true]) (by simp [results, Tryd.f23, go_sem, e0, e1, e2]) rfl ⟨a4, c4, rfl, Sl.of_row (E := ES) rfl R4 (fun _ _ => trivial), S1⟩

end Go.Proofs.YtecnjbaanbakoaaDoor
