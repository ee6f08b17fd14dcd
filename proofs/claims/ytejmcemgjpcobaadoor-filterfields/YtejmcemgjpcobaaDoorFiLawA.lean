/-
  The laws' Few of filters.
-/
import Derived.Test.YtejmcemgjpcobaaDoorFiWalkE
namespace Go.Proofs.YtejmcemgjpcobaaDoor
set_option maxRecDepth 20000
open Go Go.RowKit Go.Shelf Fi

theorem Tryd.infoFil : (Tryd.prog.info? 36).map (fun i => (i.zero, i.size, i.bytes)) = some (some (.agg #[.int .i64 0, .string ⟨#[]⟩, .string ⟨#[]⟩, .string ⟨#[]⟩, .int .i64 0, .string ⟨#[]⟩, .bool false, .int .i64 0]), 8, 96) := by kernel_rfl

set_option maxHeartbeats 3200000 in
theorem ffew_any (v : Value) (l : List FB) (w : World) (hv : Sl EF w v l) (raw : ∀ f ∈ l, RawF f) :
    Calls Tryd.prog 10 #[v] w fun e w' => ∃ v', e = .returned v' ∧ w'.ownsRow w.heap.size 36 8 v' (someF l).length (EF.flat (someF l)) ∧ Below w.heap.size w w' := by
  have hlen := hv.len
  obtain ⟨a, cap, rfl, _, _, hc⟩ := hv
  have HC := hide hc
  have HRAW := hide raw
  clear hc raw
  go_enter Tryd.func10, Tryd.ntmps10
  go_wp2_with fail
  go_loopw [3, 4] (fun o i wr => ∃ k : Nat, k ≤ l.length ∧ k ≤ 9 ∧ i = .int .i64 k ∧ wr.ownsRow w.heap.size 36 8 o ((l.take k).map fewF).length (EF.flat ((l.take k).map fewF)) ∧ Below w.heap.size w wr) (fun _ i _ => 9 - (intOf i).toNat)
  case atStart => exact ⟨0, Nat.zero_le _, by omega, rfl, World.ownsRow_nil _ _ _ _, Below.refl _ _⟩
  case round =>
    obtain ⟨k, hk, hk9, rfl, hr, hB⟩ := hrel
    have HR := hide hr
    clear hr
    have hl' : ((l.take k).map fewF).length ≤ 9 := by simp; omega
    by_cases hlt : k < l.length
    · have hlt' : (k : Int) < (l.length : Int) := by omega
      by_cases h9 : k < 9
      · have h9' : (k : Int) < 9 := by omega
        obtain ⟨_, gg, off, rfl, hgg, hat⟩ := HC.out k hlt
        obtain ⟨c0, c1, c2, c3, c4, c5, c6, c7⟩ := EF_at (show EF.At wr gg (off + k * 8) l[k] from fun j u hu => (hB.cell (p := ⟨gg, off + k * 8 + j, none⟩) hgg).trans (hat j u hu))
        have rk := HRAW.out l[k] (List.getElem_mem hlt)
        have HN := hide (someF_next hlt)
        clear hat
        generalize l[k] = fk at *
        obtain ⟨k0, n0, v0, h0, p0, t0, b0, z0⟩ := fk
        have C1 := fun W => hide (fewB_any n0 W rk.name)
        have C2 := fun W => hide (fewB_any v0 W rk.val)
        have C3 := fun W => hide (fewB_any h0 W rk.host)
        have C5 := fun W => hide (fewB_any t0 W rk.path)
        dsimp only at *
        obtain ⟨X, hX⟩ : ∃ z, z = wr.alloc (.cells #[.int .i64 k0, .string n0, .string v0, .string h0, .int .i64 p0, .string t0, .bool b0, .int .i64 z0] 36) := ⟨_, rfl⟩
        have HBK : ∀ W, Below X.heap.size X W → W.heap[wr.heap.size]? = some (.cells #[.int .i64 k0, .string n0, .string v0, .string h0, .int .i64 p0, .string t0, .bool b0, .int .i64 z0] 36) := fun W h => blk_below (by rw [hX]; exact alloc_new wr _) h
        have BX : Below wr.heap.size wr X := by rw [hX]; exact (Below.refl _ wr).alloc (Nat.le_refl _) _
        have m1 := fun W h => cellN (HBK W h) (i := 1) rfl
        have m2 := fun W h => cellN (HBK W h) (i := 2) rfl
        have m3 := fun W h => cellN (HBK W h) (i := 3) rfl
        have m5 := fun W h => cellN (HBK W h) (i := 5) rfl
        have HBH := hide HBK
        clear HBK rk
        go_wp2_with fail
        rw [← hX]
        clear hX c0 c1 c2 c3 c4 c5 c6 c7
        refine wp_region_G 13 (fun w' => Below X.heap.size X w') (by kernel_rfl) ((Below.refl _ _).drew) ?_
        refine wpG_take (i := 0) 5 (v := .pointer (some ⟨wr.heap.size, 1, none⟩)) rfl (by kernel_rfl) (by kernel_rfl) (by kernel_rfl) (by decide) (by kernel_rfl) (by kernel_rfl) (fun _ _ _ h => h) (Or.inl ⟨by rfl, fun w1 hS => ?_⟩) ?_
        · (try dsimp only at hS)
          go_simp
        simp only [Act.put, List.setIfInBounds_toArray, List.set_cons_zero, List.set_cons_succ]
        refine wpG_take (i := 1) 5 (v := .string n0) rfl (by kernel_rfl) (by kernel_rfl) (by kernel_rfl) (by decide) (by kernel_rfl) (by kernel_rfl) (fun _ _ _ h => h) (Or.inl ⟨by rfl, fun w1 hS => ?_⟩) ?_
        · (try dsimp only at hS)
          go_simp
        simp only [Act.put, List.setIfInBounds_toArray, List.set_cons_zero, List.set_cons_succ]
        refine wpG_take (i := 3) 5 (v := .pointer (some ⟨wr.heap.size, 2, none⟩)) rfl (by kernel_rfl) (by kernel_rfl) (by kernel_rfl) (by decide) (by kernel_rfl) (by kernel_rfl) (fun _ _ _ h => h) (Or.inl ⟨by rfl, fun w1 hS => ?_⟩) ?_
        · (try dsimp only at hS)
          go_simp
        simp only [Act.put, List.setIfInBounds_toArray, List.set_cons_zero, List.set_cons_succ]
        refine wpG_take (i := 4) 5 (v := .string v0) rfl (by kernel_rfl) (by kernel_rfl) (by kernel_rfl) (by decide) (by kernel_rfl) (by kernel_rfl) (fun _ _ _ h => h) (Or.inl ⟨by rfl, fun w1 hS => ?_⟩) ?_
        · (try dsimp only at hS)
          go_simp
        simp only [Act.put, List.setIfInBounds_toArray, List.set_cons_zero, List.set_cons_succ]
        refine wpG_take (i := 6) 5 (v := .pointer (some ⟨wr.heap.size, 3, none⟩)) rfl (by kernel_rfl) (by kernel_rfl) (by kernel_rfl) (by decide) (by kernel_rfl) (by kernel_rfl) (fun _ _ _ h => h) (Or.inl ⟨by rfl, fun w1 hS => ?_⟩) ?_
        · (try dsimp only at hS)
          go_simp
        simp only [Act.put, List.setIfInBounds_toArray, List.set_cons_zero, List.set_cons_succ]
        refine wpG_take (i := 7) 5 (v := .string h0) rfl (by kernel_rfl) (by kernel_rfl) (by kernel_rfl) (by decide) (by kernel_rfl) (by kernel_rfl) (fun _ _ _ h => h) (Or.inl ⟨by rfl, fun w1 hS => ?_⟩) ?_
        · (try dsimp only at hS)
          go_simp
        simp only [Act.put, List.setIfInBounds_toArray, List.set_cons_zero, List.set_cons_succ]
        refine wpG_take (i := 9) 5 (v := .pointer (some ⟨wr.heap.size, 5, none⟩)) rfl (by kernel_rfl) (by kernel_rfl) (by kernel_rfl) (by decide) (by kernel_rfl) (by kernel_rfl) (fun _ _ _ h => h) (Or.inl ⟨by rfl, fun w1 hS => ?_⟩) ?_
        · (try dsimp only at hS)
          go_simp
        simp only [Act.put, List.setIfInBounds_toArray, List.set_cons_zero, List.set_cons_succ]
        refine wpG_take (i := 10) 5 (v := .string t0) rfl (by kernel_rfl) (by kernel_rfl) (by kernel_rfl) (by decide) (by kernel_rfl) (by kernel_rfl) (fun _ _ _ h => h) (Or.inl ⟨by rfl, fun w1 hS => ?_⟩) ?_
        · (try dsimp only at hS)
          go_simp
        simp only [Act.put, List.setIfInBounds_toArray, List.set_cons_zero, List.set_cons_succ]
        clear m1 m2 m3 m5
        refine wpG_take (i := 2) 5 (v := .string (fewB n0)) rfl (by kernel_rfl) (by kernel_rfl) (by kernel_rfl) (by decide) (by kernel_rfl) (by kernel_rfl) (fun _ _ _ h => h) (Or.inl ⟨by rfl, fun w1 hS => ?_⟩) ?_
        · (try dsimp only at hS)
          go_simp
          exact calls_grow_same hS (C1 _).out
        simp only [Act.put, List.setIfInBounds_toArray, List.set_cons_zero, List.set_cons_succ]
        refine wpG_take (i := 5) 5 (v := .string (fewB v0)) rfl (by kernel_rfl) (by kernel_rfl) (by kernel_rfl) (by decide) (by kernel_rfl) (by kernel_rfl) (fun _ _ _ h => h) (Or.inl ⟨by rfl, fun w1 hS => ?_⟩) ?_
        · (try dsimp only at hS)
          go_simp
          exact calls_grow_same hS (C2 _).out
        simp only [Act.put, List.setIfInBounds_toArray, List.set_cons_zero, List.set_cons_succ]
        refine wpG_take (i := 8) 5 (v := .string (fewB h0)) rfl (by kernel_rfl) (by kernel_rfl) (by kernel_rfl) (by decide) (by kernel_rfl) (by kernel_rfl) (fun _ _ _ h => h) (Or.inl ⟨by rfl, fun w1 hS => ?_⟩) ?_
        · (try dsimp only at hS)
          go_simp
          exact calls_grow_same hS (C3 _).out
        simp only [Act.put, List.setIfInBounds_toArray, List.set_cons_zero, List.set_cons_succ]
        refine wpG_take (i := 11) 5 (v := .string (fewB t0)) rfl (by kernel_rfl) (by kernel_rfl) (by kernel_rfl) (by decide) (by kernel_rfl) (by kernel_rfl) (fun _ _ _ h => h) (Or.inl ⟨by rfl, fun w1 hS => ?_⟩) ?_
        · (try dsimp only at hS)
          go_simp
          exact calls_grow_same hS (C5 _).out
        simp only [Act.put, List.setIfInBounds_toArray, List.set_cons_zero, List.set_cons_succ]
        refine wpG_take (i := 12) 5 (v := .pointer (some ⟨wr.heap.size, 1, none⟩)) rfl (by kernel_rfl) (by kernel_rfl) (by kernel_rfl) (by decide) (by kernel_rfl) (by kernel_rfl) (fun _ _ _ h => h) (Or.inl ⟨by rfl, fun w1 hS => ?_⟩) ?_
        · (try dsimp only at hS)
          go_simp
        simp only [Act.put, List.setIfInBounds_toArray, List.set_cons_zero, List.set_cons_succ]
        refine wpG_ready (rs := [13]) (by kernel_rfl) (by simp) (fun W hG hS i hi => ?_)
        obtain rfl : i = 13 := by simpa using hi
        clear hi
        have kb := HBH.out W hS
        have BW : Below wr.heap.size wr W := bb2 BX hS
        clear hG hS HBH C1 C2 C3 C5 BX
        have xc := cellN kb (i := 1) rfl
        have lv := liveN kb
        refine wpOp_step rfl (by rfl) (fun K' hK' => ?_)
        go_simp
        refine hK' _ _ (wpG_past (by decide) ?_)
        clear hK' K' xc lv
        replace kb := set_blk (i := 1) (.string (fewB n0)) kb
        replace BW := BW.setCell (p := ⟨wr.heap.size, 1, none⟩) (Nat.le_refl _) (.string (fewB n0))
        refine wpAny_one (i := 14) (by kernel_rfl) ?_
        refine wpOp_step rfl (by rfl) (fun K' hK' => ?_)
        go_simp
        refine hK' _ _ ?_
        clear hK' K'
        refine wpAny_one (i := 15) (by kernel_rfl) ?_
        have xc := cellN kb (i := 2) rfl
        have lv := liveN kb
        refine wpOp_step rfl (by rfl) (fun K' hK' => ?_)
        go_simp
        refine hK' _ _ ?_
        clear hK' K' xc lv
        replace kb := set_blk (i := 2) (.string (fewB v0)) kb
        replace BW := BW.setCell (p := ⟨wr.heap.size, 2, none⟩) (Nat.le_refl _) (.string (fewB v0))
        refine wpAny_one (i := 16) (by kernel_rfl) ?_
        refine wpOp_step rfl (by rfl) (fun K' hK' => ?_)
        go_simp
        refine hK' _ _ ?_
        clear hK' K'
        refine wpAny_one (i := 17) (by kernel_rfl) ?_
        have xc := cellN kb (i := 3) rfl
        have lv := liveN kb
        refine wpOp_step rfl (by rfl) (fun K' hK' => ?_)
        go_simp
        refine hK' _ _ ?_
        clear hK' K' xc lv
        replace kb := set_blk (i := 3) (.string (fewB h0)) kb
        replace BW := BW.setCell (p := ⟨wr.heap.size, 3, none⟩) (Nat.le_refl _) (.string (fewB h0))
        refine wpAny_one (i := 18) (by kernel_rfl) ?_
        refine wpOp_step rfl (by rfl) (fun K' hK' => ?_)
        go_simp
        refine hK' _ _ ?_
        clear hK' K'
        refine wpAny_one (i := 19) (by kernel_rfl) ?_
        have xc := cellN kb (i := 5) rfl
        have lv := liveN kb
        refine wpOp_step rfl (by rfl) (fun K' hK' => ?_)
        go_simp
        refine hK' _ _ ?_
        clear hK' K' xc lv
        replace kb := set_blk (i := 5) (.string (fewB t0)) kb
        replace BW := BW.setCell (p := ⟨wr.heap.size, 5, none⟩) (Nat.le_refl _) (.string (fewB t0))
        refine wpAny_end (by kernel_rfl) ?_
        change ((((W.setCell ⟨wr.heap.size, 1, none⟩ (.string (fewB n0))).setCell ⟨wr.heap.size, 2, none⟩ (.string (fewB v0))).setCell ⟨wr.heap.size, 3, none⟩ (.string (fewB h0))).setCell ⟨wr.heap.size, 5, none⟩ (.string (fewB t0))).heap[_]? = some (Obj.cells #[.int .i64 k0, .string (fewB n0), .string (fewB v0), .string (fewB h0), .int .i64 p0, .string (fewB t0), .bool b0, .int .i64 z0] 36) at kb
        generalize (((W.setCell ⟨wr.heap.size, 1, none⟩ (.string (fewB n0))).setCell ⟨wr.heap.size, 2, none⟩ (.string (fewB v0))).setCell ⟨wr.heap.size, 3, none⟩ (.string (fewB h0))).setCell ⟨wr.heap.size, 5, none⟩ (.string (fewB t0)) = W2 at *
        obtain ⟨d0, d1, d2, d3, d4, d5, d6, d7⟩ : _ ∧ _ ∧ _ ∧ _ ∧ _ ∧ _ ∧ _ ∧ _ := ⟨cellN kb (i := 0) rfl, cellN kb (i := 1) rfl, cellN kb (i := 2) rfl, cellN kb (i := 3) rfl, cellN kb (i := 4) rfl, cellN kb (i := 5) rfl, cellN kb (i := 6) rfl, cellN kb (i := 7) rfl⟩
        have HR2 := hide (ownsRow_below HR.out BW)
        have hB2 := bb2 hB BW
        have hbs := hB2.size
        clear kb BW HR
        have ba := (Below.refl W2.heap.size W2).alloc (Nat.le_refl _) (.cells #[.int .i64 k0, .string (fewB n0), .string (fewB v0), .string (fewB h0), .int .i64 p0, .string (fewB t0), .bool b0, .int .i64 z0] 36)
        have SL : Sl EF (W2.alloc (.cells #[.int .i64 k0, .string (fewB n0), .string (fewB v0), .string (fewB h0), .int .i64 p0, .string (fewB t0), .bool b0, .int .i64 z0] 36)) (.slice (some ⟨W2.heap.size, 0, none⟩) 1 1) [fewF ⟨k0, n0, v0, h0, p0, t0, b0, z0⟩] := Sl.at_block (alloc_new W2 _) trivial
        have HR3 := ownsRow_below HR2.out ba
        go_wp2_with (at_builtin; refine wpList_append_sl (E := EF) 22 36 _ 96 Tryd.underlying22 Tryd.infoFil rfl (by decide) _ _ _ rfl (by rfl) w.heap.size _ _ _ rfl HR3 _ _ rfl SL (by simp; omega) (by simp; omega) ?_; intro v' w3 hown' hgrow)
        refine ⟨⟨k + 1, by omega, by omega, by go_num, by rw [HN.out, List.length_append]; exact hown', ?_⟩, by simp [intOf]; omega⟩
        exact (hB2.alloc hB2.size _).grown hgrow (by simp; omega) (fun j e => ownBlock_ge HR3 e)
      · have h9' : ¬ (k : Int) < 9 := by omega
        have HE := hide (someF_end hk hk9 (by omega))
        go_wp2_with fail
        go_ret
        exact ⟨_, rfl, by rw [← HE.out]; exact HR.out, hB⟩
    · have hlt' : ¬ (k : Int) < (l.length : Int) := by omega
      have HE := hide (someF_end hk hk9 (by omega))
      go_wp2_with fail
      go_ret
      exact ⟨_, rfl, by rw [← HE.out]; exact HR.out, hB⟩

end Go.Proofs.YtejmcemgjpcobaaDoor
