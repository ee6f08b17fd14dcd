/-
  The laws' Few of filters.
-/
import Derived.Test.YtblmdcpcekoogaaGreatDoorJ5
import Derived.Test.YtblmdcpcekoogaaGreatDoorRuArg
import Derived.Test.YtblmdcpcekoogaaGreatDoorPaWalkD
namespace Go.Proofs.YtblmdcpcekoogaaGreatDoor
set_option maxRecDepth 20000
open Go Go.RowKit Go.Shelf Fi

theorem Tryz.infoFil : (Tryz.prog.info? 87).map (fun i => (i.zero, i.size, i.bytes)) = some (some (.agg #[.int .i64 0, .string ⟨#[]⟩, .string ⟨#[]⟩, .string ⟨#[]⟩, .int .i64 0, .string ⟨#[]⟩, .bool false, .int .i64 0]), 8, 96) := by kernel_rfl

set_option maxHeartbeats 3200000 in
theorem ffew_any (v : Value) (l : List FB) (w : World) (hv : Sl EF w v l) (raw : ∀ f ∈ l, RawF f) :
    Calls Tryz.prog 29 #[v] w fun e w' => ∃ v', e = .returned v' ∧ w'.ownsRow w.heap.size 87 8 v' (someF l).length (EF.flat (someF l)) ∧ Below w.heap.size w w' := by
  have hlen := hv.len
  obtain ⟨a, cap, rfl, _, _, hc⟩ := hv
  have HC := hide hc
  have HRAW := hide raw
  clear hc raw
  go_enter Tryz.func29, Tryz.ntmps29
  go_wp2_with fail
  go_loopw [3, 4] (fun o i wr => ∃ k : Nat, k ≤ l.length ∧ k ≤ 9 ∧ i = .int .i64 k ∧ wr.ownsRow w.heap.size 87 8 o ((l.take k).map fewF).length (EF.flat ((l.take k).map fewF)) ∧ Below w.heap.size w wr) (fun _ i _ => 9 - (intOf i).toNat)
  case atStart => exact ⟨0, Nat.zero_le _, by omega, rfl, World.ownsRow_nil _ _ _ _, Below.refl _ _⟩
  case round =>
    obtain ⟨k, hk, hk9, rfl, hr, hB⟩ := hrel
    have HR := hide hr
    clear hr
    have hl' : ((l.take k).map fewF).length ≤ 9 := by simp; omega
    by_cases hlt : k < l.length
    · have hlt' : (k : Int) < (l.length : Int) := by omega
      by_cases h9 : k < 9
      · have h9' : (k : Int) < 9 := by omega
        obtain ⟨_, gg, off, rfl, hgg, hat⟩ := HC.out k hlt
        obtain ⟨c0, c1, c2, c3, c4, c5, c6, c7⟩ := EF_at (show EF.At wr gg (off + k * 8) l[k] from fun j u hu => (hB.cell (p := ⟨gg, off + k * 8 + j, none⟩) hgg).trans (hat j u hu))
        have rk := HRAW.out l[k] (List.getElem_mem hlt)
        have HN := hide (someF_next hlt)
        clear hat
        generalize l[k] = fk at *
        obtain ⟨k0, n0, v0, h0, p0, t0, b0, z0⟩ := fk
        have C1 := fun W => hide (fewB_any n0 W rk.name)
        have C2 := fun W => hide (fewB_any v0 W rk.val)
        have C3 := fun W => hide (fewB_any h0 W rk.host)
        have C5 := fun W => hide (fewB_any t0 W rk.path)
        dsimp only at *
        obtain ⟨X, hX⟩ : ∃ z, z = wr.alloc (.cells #[.int .i64 k0, .string n0, .string v0, .string h0, .int .i64 p0, .string t0, .bool b0, .int .i64 z0] 87) := ⟨_, rfl⟩
        have HBK : ∀ W, Below X.heap.size X W → W.heap[wr.heap.size]? = some (.cells #[.int .i64 k0, .string n0, .string v0, .string h0, .int .i64 p0, .string t0, .bool b0, .int .i64 z0] 87) := fun W h => blk_below (by rw [hX]; exact alloc_new wr _) h
        have BX : Below wr.heap.size wr X := by rw [hX]; exact (Below.refl _ wr).alloc (Nat.le_refl _) _
        have m1 := fun W h => cellN (HBK W h) (i := 1) rfl
        have m2 := fun W h => cellN (HBK W h) (i := 2) rfl
        have m3 := fun W h => cellN (HBK W h) (i := 3) rfl
        have m5 := fun W h => cellN (HBK W h) (i := 5) rfl
        have HBH := hide HBK
        clear HBK rk
        go_wp2_with fail
        rw [← hX]
        clear hX c0 c1 c2 c3 c4 c5 c6 c7
        refine wp_region_G 13 (fun w' => Below X.heap.size X w') (by kernel_rfl) ((Below.refl _ _).drew) ?_
        refine wpG_take (i := 0) 5 (v := .pointer (some ⟨wr.heap.size, 1, none⟩)) rfl (by kernel_rfl) (by kernel_rfl) (by kernel_rfl) (by decide) (by kernel_rfl) (by kernel_rfl) (fun _ _ _ h => h) (Or.inl ⟨by rfl, fun w1 hS => ?_⟩) ?_
        · (try dsimp only at hS)
          go_simp
        simp only [Act.put, List.setIfInBounds_toArray, List.set_cons_zero, List.set_cons_succ]
        refine wpG_take (i := 1) 5 (v := .string n0) rfl (by kernel_rfl) (by kernel_rfl) (by kernel_rfl) (by decide) (by kernel_rfl) (by kernel_rfl) (fun _ _ _ h => h) (Or.inl ⟨by rfl, fun w1 hS => ?_⟩) ?_
        · (try dsimp only at hS)
          go_simp
        simp only [Act.put, List.setIfInBounds_toArray, List.set_cons_zero, List.set_cons_succ]
        refine wpG_take (i := 3) 5 (v := .pointer (some ⟨wr.heap.size, 2, none⟩)) rfl (by kernel_rfl) (by kernel_rfl) (by kernel_rfl) (by decide) (by kernel_rfl) (by kernel_rfl) (fun _ _ _ h => h) (Or.inl ⟨by rfl, fun w1 hS => ?_⟩) ?_
        · (try dsimp only at hS)
          go_simp
        simp only [Act.put, List.setIfInBounds_toArray, List.set_cons_zero, List.set_cons_succ]
        refine wpG_take (i := 4) 5 (v := .string v0) rfl (by kernel_rfl) (by kernel_rfl) (by kernel_rfl) (by decide) (by kernel_rfl) (by kernel_rfl) (fun _ _ _ h => h) (Or.inl ⟨by rfl, fun w1 hS => ?_⟩) ?_
        · (try dsimp only at hS)
          go_simp
        simp only [Act.put, List.setIfInBounds_toArray, List.set_cons_zero, List.set_cons_succ]
        refine wpG_take (i := 6) 5 (v := .pointer (some ⟨wr.heap.size, 3, none⟩)) rfl (by kernel_rfl) (by kernel_rfl) (by kernel_rfl) (by decide) (by kernel_rfl) (by kernel_rfl) (fun _ _ _ h => h) (Or.inl ⟨by rfl, fun w1 hS => ?_⟩) ?_
        · (try dsimp only at hS)
          go_simp
        simp only [Act.put, List.setIfInBounds_toArray, List.set_cons_zero, List.set_cons_succ]
        refine wpG_take (i := 7) 5 (v := .string h0) rfl (by kernel_rfl) (by kernel_rfl) (by kernel_rfl) (by decide) (by kernel_rfl) (by kernel_rfl) (fun _ _ _ h => h) (Or.inl ⟨by rfl, fun w1 hS => ?_⟩) ?_
        · (try dsimp only at hS)
          go_simp
        simp only [Act.put, List.setIfInBounds_toArray, List.set_cons_zero, List.set_cons_succ]
        refine wpG_take (i := 9) 5 (v := .pointer (some ⟨wr.heap.size, 5, none⟩)) rfl (by kernel_rfl) (by kernel_rfl) (by kernel_rfl) (by decide) (by kernel_rfl) (by kernel_rfl) (fun _ _ _ h => h) (Or.inl ⟨by rfl, fun w1 hS => ?_⟩) ?_
        · (try dsimp only at hS)
          go_simp
        simp only [Act.put, List.setIfInBounds_toArray, List.set_cons_zero, List.set_cons_succ]
        refine wpG_take (i := 10) 5 (v := .string t0) rfl (by kernel_rfl) (by kernel_rfl) (by kernel_rfl) (by decide) (by kernel_rfl) (by kernel_rfl) (fun _ _ _ h => h) (Or.inl ⟨by rfl, fun w1 hS => ?_⟩) ?_
        · (try dsimp only at hS)
          go_simp
        simp only [Act.put, List.setIfInBounds_toArray, List.set_cons_zero, List.set_cons_succ]
        clear m1 m2 m3 m5
        refine wpG_take (i := 2) 5 (v := .string (fewB n0)) rfl (by kernel_rfl) (by kernel_rfl) (by kernel_rfl) (by decide) (by kernel_rfl) (by kernel_rfl) (fun _ _ _ h => h) (Or.inl ⟨by rfl, fun w1 hS => ?_⟩) ?_
        · (try dsimp only at hS)
          go_simp
          exact calls_grow_same hS (C1 _).out
        simp only [Act.put, List.setIfInBounds_toArray, List.set_cons_zero, List.set_cons_succ]
        refine wpG_take (i := 5) 5 (v := .string (fewB v0)) rfl (by kernel_rfl) (by kernel_rfl) (by kernel_rfl) (by decide) (by kernel_rfl) (by kernel_rfl) (fun _ _ _ h => h) (Or.inl ⟨by rfl, fun w1 hS => ?_⟩) ?_
        · (try dsimp only at hS)
          go_simp
          exact calls_grow_same hS (C2 _).out
        simp only [Act.put, List.setIfInBounds_toArray, List.set_cons_zero, List.set_cons_succ]
        refine wpG_take (i := 8) 5 (v := .string (fewB h0)) rfl (by kernel_rfl) (by kernel_rfl) (by kernel_rfl) (by decide) (by kernel_rfl) (by kernel_rfl) (fun _ _ _ h => h) (Or.inl ⟨by rfl, fun w1 hS => ?_⟩) ?_
        · (try dsimp only at hS)
          go_simp
          exact calls_grow_same hS (C3 _).out
        simp only [Act.put, List.setIfInBounds_toArray, List.set_cons_zero, List.set_cons_succ]
        refine wpG_take (i := 11) 5 (v := .string (fewB t0)) rfl (by kernel_rfl) (by kernel_rfl) (by kernel_rfl) (by decide) (by kernel_rfl) (by kernel_rfl) (fun _ _ _ h => h) (Or.inl ⟨by rfl, fun w1 hS => ?_⟩) ?_
        · (try dsimp only at hS)
          go_simp
          exact calls_grow_same hS (C5 _).out
        simp only [Act.put, List.setIfInBounds_toArray, List.set_cons_zero, List.set_cons_succ]
        refine wpG_take (i := 12) 5 (v := .pointer (some ⟨wr.heap.size, 1, none⟩)) rfl (by kernel_rfl) (by kernel_rfl) (by kernel_rfl) (by decide) (by kernel_rfl) (by kernel_rfl) (fun _ _ _ h => h) (Or.inl ⟨by rfl, fun w1 hS => ?_⟩) ?_
        · (try dsimp only at hS)
          go_simp
        simp only [Act.put, List.setIfInBounds_toArray, List.set_cons_zero, List.set_cons_succ]
        refine wpG_ready (rs := [13]) (by kernel_rfl) (by simp) (fun W hG hS i hi => ?_)
        obtain rfl : i = 13 := by simpa using hi
        clear hi
        have kb := HBH.out W hS
        have BW : Below wr.heap.size wr W := bb2 BX hS
        clear hG hS HBH C1 C2 C3 C5 BX
        have xc := cellN kb (i := 1) rfl
        have lv := liveN kb
        refine wpOp_step rfl (by rfl) (fun K' hK' => ?_)
        go_simp
        refine hK' _ _ (wpG_past (by decide) ?_)
        clear hK' K' xc lv
        replace kb := set_blk (i := 1) (.string (fewB n0)) kb
        replace BW := BW.setCell (p := ⟨wr.heap.size, 1, none⟩) (Nat.le_refl _) (.string (fewB n0))
        refine wpAny_one (i := 14) (by kernel_rfl) ?_
        refine wpOp_step rfl (by rfl) (fun K' hK' => ?_)
        go_simp
        refine hK' _ _ ?_
        clear hK' K'
        refine wpAny_one (i := 15) (by kernel_rfl) ?_
        have xc := cellN kb (i := 2) rfl
        have lv := liveN kb
        refine wpOp_step rfl (by rfl) (fun K' hK' => ?_)
        go_simp
        refine hK' _ _ ?_
        clear hK' K' xc lv
        replace kb := set_blk (i := 2) (.string (fewB v0)) kb
        replace BW := BW.setCell (p := ⟨wr.heap.size, 2, none⟩) (Nat.le_refl _) (.string (fewB v0))
        refine wpAny_one (i := 16) (by kernel_rfl) ?_
        refine wpOp_step rfl (by rfl) (fun K' hK' => ?_)
        go_simp
        refine hK' _ _ ?_
        clear hK' K'
        refine wpAny_one (i := 17) (by kernel_rfl) ?_
        have xc := cellN kb (i := 3) rfl
        have lv := liveN kb
        refine wpOp_step rfl (by rfl) (fun K' hK' => ?_)
        go_simp
        refine hK' _ _ ?_
        clear hK' K' xc lv
        replace kb := set_blk (i := 3) (.string (fewB h0)) kb
        replace BW := BW.setCell (p := ⟨wr.heap.size, 3, none⟩) (Nat.le_refl _) (.string (fewB h0))
        refine wpAny_one (i := 18) (by kernel_rfl) ?_
        refine wpOp_step rfl (by rfl) (fun K' hK' => ?_)
        go_simp
        refine hK' _ _ ?_
        clear hK' K'
        refine wpAny_one (i := 19) (by kernel_rfl) ?_
        have xc := cellN kb (i := 5) rfl
        have lv := liveN kb
        refine wpOp_step rfl (by rfl) (fun K' hK' => ?_)
        go_simp
        refine hK' _ _ ?_
        clear hK' K' xc lv
        replace kb := set_blk (i := 5) (.string (fewB t0)) kb
        replace BW := BW.setCell (p := ⟨wr.heap.size, 5, none⟩) (Nat.le_refl _) (.string (fewB t0))
        refine wpAny_end (by kernel_rfl) ?_
        change ((((W.setCell ⟨wr.heap.size, 1, none⟩ (.string (fewB n0))).setCell ⟨wr.heap.size, 2, none⟩ (.string (fewB v0))).setCell ⟨wr.heap.size, 3, none⟩ (.string (fewB h0))).setCell ⟨wr.heap.size, 5, none⟩ (.string (fewB t0))).heap[_]? = some (Obj.cells #[.int .i64 k0, .string (fewB n0), .string (fewB v0), .string (fewB h0), .int .i64 p0, .string (fewB t0), .bool b0, .int .i64 z0] 87) at kb
        generalize (((W.setCell ⟨wr.heap.size, 1, none⟩ (.string (fewB n0))).setCell ⟨wr.heap.size, 2, none⟩ (.string (fewB v0))).setCell ⟨wr.heap.size, 3, none⟩ (.string (fewB h0))).setCell ⟨wr.heap.size, 5, none⟩ (.string (fewB t0)) = W2 at *
        obtain ⟨d0, d1, d2, d3, d4, d5, d6, d7⟩ : _ ∧ _ ∧ _ ∧ _ ∧ _ ∧ _ ∧ _ ∧ _ := ⟨cellN kb (i := 0) rfl, cellN kb (i := 1) rfl, cellN kb (i := 2) rfl, cellN kb (i := 3) rfl, cellN kb (i := 4) rfl, cellN kb (i := 5) rfl, cellN kb (i := 6) rfl, cellN kb (i := 7) rfl⟩
        have HR2 := hide (ownsRow_below HR.out BW)
        have hB2 := bb2 hB BW
        have hbs := hB2.size
        clear kb BW HR
        have ba := (Below.refl W2.heap.size W2).alloc (Nat.le_refl _) (.cells #[.int .i64 k0, .string (fewB n0), .string (fewB v0), .string (fewB h0), .int .i64 p0, .string (fewB t0), .bool b0, .int .i64 z0] 87)
        have SL : Sl EF (W2.alloc (.cells #[.int .i64 k0, .string (fewB n0), .string (fewB v0), .string (fewB h0), .int .i64 p0, .string (fewB t0), .bool b0, .int .i64 z0] 87)) (.slice (some ⟨W2.heap.size, 0, none⟩) 1 1) [fewF ⟨k0, n0, v0, h0, p0, t0, b0, z0⟩] := Sl.at_block (alloc_new W2 _) trivial
        have HR3 := ownsRow_below HR2.out ba
        go_wp2_with (at_builtin; refine wpList_append_sl (E := EF) 22 87 _ 96 Tryz.underlying22 Tryz.infoFil rfl (by decide) _ _ _ rfl (by rfl) w.heap.size _ _ _ rfl HR3 _ _ rfl SL (by simp; omega) (by simp; omega) ?_; intro v' w3 hown' hgrow)
        refine ⟨⟨k + 1, by omega, by omega, by go_num, by rw [HN.out, List.length_append]; exact hown', ?_⟩, by simp [intOf]; omega⟩
        exact (hB2.alloc hB2.size _).grown hgrow (by simp; omega) (fun j e => ownBlock_ge HR3 e)
      · have h9' : ¬ (k : Int) < 9 := by omega
        have HE := hide (someF_end hk hk9 (by omega))
        go_wp2_with fail
        go_ret
        exact ⟨_, rfl, by rw [← HE.out]; exact HR.out, hB⟩
    · have hlt' : ¬ (k : Int) < (l.length : Int) := by omega
      have HE := hide (someF_end hk hk9 (by omega))
      go_wp2_with fail
      go_ret
      exact ⟨_, rfl, by rw [← HE.out]; exact HR.out, hB⟩

end Go.Proofs.YtblmdcpcekoogaaGreatDoor
namespace Go.Proofs.YtblmdcpcekoogaaGreatDoor
set_option maxRecDepth 20000
open Go Go.RowKit Go.Shelf Go.ChangeShapes Go.WideShapes Go.Deep

theorem array8 {α : Type} {cs : Array α} (h : cs.size = 8) : ∃ c0 c1 c2 c3 c4 c5 c6 c7, cs = #[c0, c1, c2, c3, c4, c5, c6, c7] := by
  obtain ⟨l⟩ := cs
  match l, h with
  | [c0, c1, c2, c3, c4, c5, c6, c7], _ => exact ⟨c0, c1, c2, c3, c4, c5, c6, c7, rfl⟩
theorem array9 {α : Type} {cs : Array α} (h : cs.size = 9) : ∃ c0 c1 c2 c3 c4 c5 c6 c7 c8, cs = #[c0, c1, c2, c3, c4, c5, c6, c7, c8] := by
  obtain ⟨l⟩ := cs
  match l, h with
  | [c0, c1, c2, c3, c4, c5, c6, c7, c8], _ => exact ⟨c0, c1, c2, c3, c4, c5, c6, c7, c8, rfl⟩
theorem array2' {α : Type} {cs : Array α} (h : cs.size = 2) : ∃ c0 c1, cs = #[c0, c1] := by
  obtain ⟨l⟩ := cs
  match l, h with
  | [c0, c1], _ => exact ⟨c0, c1, rfl⟩

theorem Tryz.cells3' : Tryz.prog.cellsOf 3 = 1 := by kernel_rfl
theorem Tryz.cells4' : Tryz.prog.cellsOf 4 = 1 := by kernel_rfl
theorem Tryz.cellsP' : Tryz.prog.cellsOf 24 = 2 := by kernel_rfl
theorem Tryz.cellsR' : Tryz.prog.cellsOf 27 = 5 := by kernel_rfl
theorem Tryz.cellsS' : Tryz.prog.cellsOf 25 = 1 := by kernel_rfl
theorem Tryz.cellsF' : Tryz.prog.cellsOf 22 = 1 := by kernel_rfl
theorem Tryz.cellsE' : Tryz.prog.cellsOf 87 = 8 := by kernel_rfl

theorem filter_trod {H : Type} {enc : TypeId × Value → H} {W : World} {fuel : Nat} {c0 c1 c2 c3 c4 c5 c6 c7 : Value} {y : DataW H × List MemPlace} (h : DataW.trod enc Tryz.prog W 0 (fun _ => true) true fuel 87 [c0, c1, c2, c3, c4, c5, c6, c7] = some y) :
    ∃ f : FB, [c0, c1, c2, c3, c4, c5, c6, c7] = fcells f ∧ RawF f := by
  obtain ⟨xs, n, hn, _, _, hxl, hp⟩ := DataW.trod_struct Tryz.underlying87 h
  match xs, hxl with
  | [y0, y1, y2, y3, y4, y5, y6, y7], _ =>
    have h0 := hp 0 _ rfl
    have h1 := hp 1 _ rfl
    have h2 := hp 2 _ rfl
    have h3 := hp 3 _ rfl
    have h4 := hp 4 _ rfl
    have h5 := hp 5 _ rfl
    have h6 := hp 6 _ rfl
    have h7 := hp 7 _ rfl
    simp [Tryz.cells3', Tryz.cells4', Tryz.cells9] at h0 h1 h2 h3 h4 h5 h6 h7
    obtain ⟨k, e0, _, _⟩ := DataW.trod_int Tryz.underlying3 h0
    obtain ⟨s1, e1, _, z1⟩ := DataW.trod_string Tryz.underlying9 h1
    obtain ⟨s2, e2, _, z2⟩ := DataW.trod_string Tryz.underlying9 h2
    obtain ⟨s3, e3, _, z3⟩ := DataW.trod_string Tryz.underlying9 h3
    obtain ⟨p, e4, _, _⟩ := DataW.trod_int Tryz.underlying3 h4
    obtain ⟨s5, e5, _, z5⟩ := DataW.trod_string Tryz.underlying9 h5
    obtain ⟨b, e6, _⟩ := DataW.trod_bool Tryz.underlying4 h6
    obtain ⟨c, e7, _, _⟩ := DataW.trod_int Tryz.underlying3 h7
    simp only [List.cons.injEq, and_true] at e0 e1 e2 e3 e4 e5 e6 e7
    subst e0 e1 e2 e3 e4 e5 e6 e7
    exact ⟨⟨k, s1, s2, s3, p, s5, b, c⟩, rfl, ⟨z1, z2, z3, z5⟩⟩

/-- a filter that came in -/
def ArgF (_ : World) (v : Value) : Prop := ∃ f : FB, v = fV f ∧ RawF f
/-- filters that came in -/
def ArgFs (W : World) (v : Value) : Prop := ∃ l : List FB, Sl EF W v l ∧ ∀ f ∈ l, RawF f
/-- a path that came in -/
def ArgPt (_ : World) (v : Value) : Prop := ∃ (k : Int) (s : ByteArray), v = .agg #[.int .i64 k, .string s] ∧ s.size ≤ maxLen
/-- what is asked -/
def ArgAk (W : World) (v : Value) : Prop := ∃ (vl : Value) (l : List FB) (k : Int) (s : ByteArray) (x : RV) (b : Bool), v = .agg #[vl, .int .i64 k, .string s, .string x.r.meth, .string x.r.host, .string x.r.path, x.vq, x.vh, .bool b] ∧ Sl EF W vl l ∧ (∀ f ∈ l, RawF f) ∧ s.size ≤ maxLen ∧ x.at_ W ∧ RawR x.r

theorem argF_open {H : Type} {enc : TypeId × Value → H} {W : World} {base : Nat} {v : Value} {d : DataW H} {ps : List MemPlace} (hval : Value.okWide Tryz.prog W .any base 87 v)
    (h : DataW.Trod enc Tryz.prog W 0 (fun _ => true) true 87 v d ps) : ArgF W v := by
  obtain ⟨cs, rfl, hsz⟩ := okWide_struct Tryz.underlying87 hval
  obtain ⟨c0, c1, c2, c3, c4, c5, c6, c7, rfl⟩ := array8 (hsz.trans (by kernel_rfl))
  obtain ⟨fuel, hf⟩ := h
  obtain ⟨f, hf2, hr⟩ := filter_trod hf
  refine ⟨f, ?_, hr⟩
  simp only [fcells, List.cons.injEq, and_true] at hf2
  obtain ⟨rfl, rfl, rfl, rfl, rfl, rfl, rfl, rfl⟩ := hf2
  rfl

theorem filters_trod {H : Type} {enc : TypeId × Value → H} {W : World} {fuel : Nat} {v : Value} {y : DataW H × List MemPlace} (h : DataW.trod enc Tryz.prog W 0 (fun _ => true) true fuel 22 [v] = some y) :
    ∃ l : List FB, Sl EF W v l ∧ ∀ f ∈ l, RawF f := by
  refine sl_trod Tryz.underlying22 Tryz.cellsE' (fun fuel cs y hl hy => ?_) ⟨⟨0, ⟨#[]⟩, ⟨#[]⟩, ⟨#[]⟩, 0, ⟨#[]⟩, false, 0⟩⟩ h
  match cs, hl with
  | [c0, c1, c2, c3, c4, c5, c6, c7], _ =>
    obtain ⟨f, hf, hr⟩ := filter_trod hy
    exact ⟨f, hf, trivial, hr⟩

theorem argFs_open {H : Type} {enc : TypeId × Value → H} {W : World} {base : Nat} {v : Value} {d : DataW H} {ps : List MemPlace} (hval : Value.okWide Tryz.prog W .any base 22 v)
    (h : DataW.Trod enc Tryz.prog W 0 (fun _ => true) true 22 v d ps) : ArgFs W v := by
  obtain ⟨a0, len0, cap0, rfl⟩ := okWide_slice Tryz.underlying22 hval
  obtain ⟨fuel, hf⟩ := h
  exact filters_trod hf

theorem argPt_open {H : Type} {enc : TypeId × Value → H} {W : World} {base : Nat} {v : Value} {d : DataW H} {ps : List MemPlace} (hval : Value.okWide Tryz.prog W .any base 24 v)
    (h : DataW.Trod enc Tryz.prog W 0 (fun _ => true) true 24 v d ps) : ArgPt W v := by
  obtain ⟨cs, rfl, hsz⟩ := okWide_struct Tryz.underlying24 hval
  obtain ⟨c0, c1, rfl⟩ := array2' (hsz.trans (by kernel_rfl))
  obtain ⟨fuel, hf⟩ := h
  obtain ⟨k, s, rfl, rfl, hs⟩ := pathCells' hf
  exact ⟨k, s, rfl, hs⟩

theorem req_trod {H : Type} {enc : TypeId × Value → H} {W : World} {fuel : Nat} {c0 c1 c2 c3 c4 : Value} {y : DataW H × List MemPlace} (h : DataW.trod enc Tryz.prog W 0 (fun _ => true) true fuel 27 [c0, c1, c2, c3, c4] = some y) :
    ∃ x : RV, c0 = .string x.r.meth ∧ c1 = .string x.r.host ∧ c2 = .string x.r.path ∧ c3 = x.vq ∧ c4 = x.vh ∧ x.at_ W ∧ RawR x.r := by
  obtain ⟨xs, n, hn, _, _, hxl, hp⟩ := DataW.trod_struct Tryz.underlying27 h
  match xs, hxl with
  | [y0, y1, y2, y3, y4], _ =>
    have h0 := hp 0 _ rfl
    have h1 := hp 1 _ rfl
    have h2 := hp 2 _ rfl
    have h3 := hp 3 _ rfl
    have h4 := hp 4 _ rfl
    simp [Tryz.cellsS', Tryz.cells9] at h0 h1 h2 h3 h4
    obtain ⟨s0, e0, _, z0⟩ := DataW.trod_string Tryz.underlying9 h0
    obtain ⟨s1, e1, _, z1⟩ := DataW.trod_string Tryz.underlying9 h1
    obtain ⟨s2, e2, _, z2⟩ := DataW.trod_string Tryz.underlying9 h2
    simp only [List.cons.injEq, and_true] at e0 e1 e2
    subst e0 e1 e2
    obtain ⟨qu, pq, okq⟩ := argPrs_trod h3
    obtain ⟨hd, ph, okh⟩ := argPrs_trod h4
    have ph' := ph
    have pq' := pq
    obtain ⟨a1, cap1, rfl, _⟩ := ph
    obtain ⟨a2, cap2, rfl, _⟩ := pq
    exact ⟨⟨⟨s0, s1, s2, qu, hd⟩, a2, cap2, a1, cap1⟩, rfl, rfl, rfl, rfl, rfl, ⟨pq', ph'⟩, ⟨z0, z1, z2, okq, okh⟩⟩

theorem argAk_open {H : Type} {enc : TypeId × Value → H} {W : World} {base : Nat} {v : Value} {d : DataW H} {ps : List MemPlace} (hval : Value.okWide Tryz.prog W .any base 29 v)
    (h : DataW.Trod enc Tryz.prog W 0 (fun _ => true) true 29 v d ps) : ArgAk W v := by
  obtain ⟨cs, rfl, hsz⟩ := okWide_struct Tryz.underlying29 hval
  obtain ⟨c0, c1, c2, c3, c4, c5, c6, c7, c8, rfl⟩ := array9 (hsz.trans (by kernel_rfl))
  obtain ⟨fuel, hf⟩ := h
  obtain ⟨xs, n, hn, _, _, hxl, hp⟩ := DataW.trod_struct Tryz.underlying29 hf
  match xs, hxl with
  | [y0, y1, y2, y3], _ =>
    have h0 := hp 0 _ rfl
    have h1 := hp 1 _ rfl
    have h2 := hp 2 _ rfl
    have h3 := hp 3 _ rfl
    simp [Value.cells, Tryz.cellsF', Tryz.cellsP', Tryz.cellsR', Tryz.cells4'] at h0 h1 h2 h3
    obtain ⟨l, hl, hr⟩ := filters_trod h0
    obtain ⟨k, s, rfl, rfl, hs⟩ := pathCells' h1
    obtain ⟨x, rfl, rfl, rfl, rfl, rfl, hx, hrx⟩ := req_trod h2
    obtain ⟨b, e3, _⟩ := DataW.trod_bool Tryz.underlying4 h3
    simp only [List.cons.injEq, and_true] at e3
    subst e3
    exact ⟨c0, l, k, s, x, b, rfl, hl, hr, hs, hx, hrx⟩

end Go.Proofs.YtblmdcpcekoogaaGreatDoor
namespace Go.Proofs.YtblmdcpcekoogaaGreatDoor
set_option maxRecDepth 20000
open Go Go.RowKit Go.Shelf Fi

/-- what is asked, as a value -/
abbrev akV (vl : Value) (k : Int) (s : ByteArray) (x : RV) (b : Bool) : Value := .agg #[vl, .int .i64 k, .string s, .string x.r.meth, .string x.r.host, .string x.r.path, x.vq, x.vh, .bool b]

set_option maxHeartbeats 3200000 in
theorem cut_any (vl : Value) (l : List FB) (pk : Int) (pv : ByteArray) (x : RV) (tls : Bool) (w : World) (hv : Sl EF w vl l) (raw : ∀ f ∈ l, RawF f) (hpv : pv.size ≤ maxLen) (hx : x.at_ w) (rawx : RawR x.r) :
    Calls Tryz.prog 10 #[akV vl pk pv x tls] w fun e w' => ∃ (fa : Option Addr) (fc fb : Nat) (y : RV), e = .returned (akV (.slice fa (someF l).length fc) pk (fewB pv) y tls) ∧ w'.ownsRow fb 87 8 (.slice fa (someF l).length fc) (someF l).length (EF.flat (someF l)) ∧ y.r = fewR x.r ∧ y.own w' ∧ Below w.heap.size w w' := by
  have C2 := fun W (h : Below w.heap.size w W) => hide (ffew_any vl l W (hv.below h) raw)
  have C5 := fun W => hide (pfew_any pk pv W hpv)
  have C8 := fun W (h : Below w.heap.size w W) => hide (asked_any x.r x.vq x.vh W rawx (hx.below h).1 (hx.below h).2)
  clear hv raw hpv hx rawx
  obtain ⟨⟨rm, rho, rp, qu, hd⟩, aq, cq, ah, ch⟩ := x
  dsimp only at *
  obtain ⟨base, hbase⟩ : ∃ z, z = (w.alloc (.cells #[vl, .int .i64 pk, .string pv, .string rm, .string rho, .string rp, .slice aq qu.length cq, .slice ah hd.length ch, .bool tls] 29)).alloc (.cells #[.slice none 0 0, .int .i64 0, .string ⟨#[]⟩, .string ⟨#[]⟩, .string ⟨#[]⟩, .string ⟨#[]⟩, .slice none 0 0, .slice none 0 0, .bool false] 29) := ⟨_, rfl⟩
  have HB := fun W (h : Below base.heap.size base W) => (bx2 (w := w) (o1 := (.cells #[vl, .int .i64 pk, .string pv, .string rm, .string rho, .string rp, .slice aq qu.length cq, .slice ah hd.length ch, .bool tls] 29)) (o2 := (.cells #[.slice none 0 0, .int .i64 0, .string ⟨#[]⟩, .string ⟨#[]⟩, .string ⟨#[]⟩, .string ⟨#[]⟩, .slice none 0 0, .slice none 0 0, .bool false] 29)) (by rw [← hbase]; exact h) : _ ∧ _)
  have B0 : Below w.heap.size w base := by rw [hbase]; exact ((Below.refl _ _).alloc (Nat.le_refl _) _).alloc (by simp) _
  have m0 := fun W h => cellN (HB W h).1 (i := 0) rfl
  have m1 := fun W h => cellN (HB W h).1 (i := 1) rfl
  have m2 := fun W h => cellN (HB W h).1 (i := 2) rfl
  have m3 := fun W h => cellN (HB W h).1 (i := 3) rfl
  have m4 := fun W h => cellN (HB W h).1 (i := 4) rfl
  have m5 := fun W h => cellN (HB W h).1 (i := 5) rfl
  have m6 := fun W h => cellN (HB W h).1 (i := 6) rfl
  have m7 := fun W h => cellN (HB W h).1 (i := 7) rfl
  have m8 := fun W h => cellN (HB W h).1 (i := 8) rfl
  have HBH := hide HB
  clear HB
  go_enter Tryz.func10, Tryz.ntmps10
  go_wp2_with fail
  rw [← hbase]
  clear hbase
  refine wp_region_G 12 (fun w' => Below base.heap.size base w') (by kernel_rfl) ((Below.refl _ _).drew) ?_
  refine wpG_take (i := 0) 5 (v := .pointer (some ⟨w.heap.size, 0, none⟩)) rfl (by kernel_rfl) (by kernel_rfl) (by kernel_rfl) (by decide) (by kernel_rfl) (by kernel_rfl) (fun _ _ _ h => h) (Or.inl ⟨by rfl, fun w1 hS => ?_⟩) ?_
  · (try dsimp only at hS)
    go_simp
  simp only [Act.put, List.setIfInBounds_toArray, List.set_cons_zero, List.set_cons_succ]
  refine wpG_take (i := 1) 5 (v := vl) rfl (by kernel_rfl) (by kernel_rfl) (by kernel_rfl) (by decide) (by kernel_rfl) (by kernel_rfl) (fun _ _ _ h => h) (Or.inl ⟨by rfl, fun w1 hS => ?_⟩) ?_
  · (try dsimp only at hS)
    go_simp
  simp only [Act.put, List.setIfInBounds_toArray, List.set_cons_zero, List.set_cons_succ]
  refine wpG_take (i := 3) 5 (v := .pointer (some ⟨w.heap.size, 1, none⟩)) rfl (by kernel_rfl) (by kernel_rfl) (by kernel_rfl) (by decide) (by kernel_rfl) (by kernel_rfl) (fun _ _ _ h => h) (Or.inl ⟨by rfl, fun w1 hS => ?_⟩) ?_
  · (try dsimp only at hS)
    go_simp
  simp only [Act.put, List.setIfInBounds_toArray, List.set_cons_zero, List.set_cons_succ]
  refine wpG_take (i := 4) 5 (v := .agg #[.int .i64 pk, .string pv]) rfl (by kernel_rfl) (by kernel_rfl) (by kernel_rfl) (by decide) (by kernel_rfl) (by kernel_rfl) (fun _ _ _ h => h) (Or.inl ⟨by rfl, fun w1 hS => ?_⟩) ?_
  · (try dsimp only at hS)
    go_simp
  simp only [Act.put, List.setIfInBounds_toArray, List.set_cons_zero, List.set_cons_succ]
  refine wpG_take (i := 6) 5 (v := .pointer (some ⟨w.heap.size, 3, none⟩)) rfl (by kernel_rfl) (by kernel_rfl) (by kernel_rfl) (by decide) (by kernel_rfl) (by kernel_rfl) (fun _ _ _ h => h) (Or.inl ⟨by rfl, fun w1 hS => ?_⟩) ?_
  · (try dsimp only at hS)
    go_simp
  simp only [Act.put, List.setIfInBounds_toArray, List.set_cons_zero, List.set_cons_succ]
  refine wpG_take (i := 7) 5 (v := .agg #[.string rm, .string rho, .string rp, .slice aq qu.length cq, .slice ah hd.length ch]) rfl (by kernel_rfl) (by kernel_rfl) (by kernel_rfl) (by decide) (by kernel_rfl) (by kernel_rfl) (fun _ _ _ h => h) (Or.inl ⟨by rfl, fun w1 hS => ?_⟩) ?_
  · (try dsimp only at hS)
    go_simp
  simp only [Act.put, List.setIfInBounds_toArray, List.set_cons_zero, List.set_cons_succ]
  refine wpG_take (i := 9) 5 (v := .pointer (some ⟨w.heap.size, 8, none⟩)) rfl (by kernel_rfl) (by kernel_rfl) (by kernel_rfl) (by decide) (by kernel_rfl) (by kernel_rfl) (fun _ _ _ h => h) (Or.inl ⟨by rfl, fun w1 hS => ?_⟩) ?_
  · (try dsimp only at hS)
    go_simp
  simp only [Act.put, List.setIfInBounds_toArray, List.set_cons_zero, List.set_cons_succ]
  refine wpG_take (i := 10) 5 (v := .bool tls) rfl (by kernel_rfl) (by kernel_rfl) (by kernel_rfl) (by decide) (by kernel_rfl) (by kernel_rfl) (fun _ _ _ h => h) (Or.inl ⟨by rfl, fun w1 hS => ?_⟩) ?_
  · (try dsimp only at hS)
    go_simp
  simp only [Act.put, List.setIfInBounds_toArray, List.set_cons_zero, List.set_cons_succ]
  clear m0 m1 m2 m3 m4 m5 m6 m7 m8
  refine wpG_ready (rs := [2]) (by kernel_rfl) (by simp) (fun W2 hG2 hS2 i hi => ?_)
  obtain rfl : i = 2 := by simpa using hi
  clear hi
  refine wpOp_step rfl (by rfl) (fun K' hK' => ?_)
  replace hK' := hide hK'
  go_simp
  refine (C2 _ (bb2 B0 hS2)).out.mono ?_
  rintro e z2 ⟨u2, rfl, r2, hb2⟩
  have B2 := hS2.trans (hb2.mono hS2.size)
  obtain ⟨fa, fc, hu2⟩ := row_form r2
  subst hu2
  go_wp2_with fail
  refine hK'.out _ _ (wpG_kept (by decide) B2 ?_)
  clear hK' K' hG2 hS2 hb2 B2
  refine wpG_take (i := 5) 5 (v := .agg #[.int .i64 pk, .string (fewB pv)]) rfl (by kernel_rfl) (by kernel_rfl) (by kernel_rfl) (by decide) (by kernel_rfl) (by kernel_rfl) (fun _ _ _ h => h) (Or.inl ⟨by rfl, fun w1 hS => ?_⟩) ?_
  · (try dsimp only at hS)
    go_simp
    exact calls_grow hS (Nat.le_refl _) (C5 _).out
  simp only [Act.put, List.setIfInBounds_toArray, List.set_cons_zero, List.set_cons_succ]
  refine wpG_ready (rs := [8]) (by kernel_rfl) (by simp) (fun W8 hG8 hS8 i hi => ?_)
  obtain rfl : i = 8 := by simpa using hi
  clear hi
  refine wpOp_step rfl (by rfl) (fun K' hK' => ?_)
  replace hK' := hide hK'
  go_simp
  refine (C8 _ (bb2 B0 hS8)).out.mono ?_
  rintro e z8 ⟨x8, rfl, hx8, own8, hb8⟩
  have HX8 := hide hx8
  clear hx8
  have B8 := hS8.trans (hb8.mono hS8.size)
  go_wp2_with fail
  refine hK'.out _ _ (wpG_kept (by decide) B8 ?_)
  replace r2 := ownsRow_below (ownsRow_below r2 hG8) hb8
  clear hK' K' hG8 hS8 hb8 B8
  refine wpG_take (i := 11) 5 (v := .agg #[.slice fa (someF l).length fc, .int .i64 pk, .string (fewB pv), .string x8.r.meth, .string x8.r.host, .string x8.r.path, .slice x8.aq x8.r.query.length x8.cq, .slice x8.ah x8.r.head.length x8.ch, .bool tls]) rfl (by kernel_rfl) (by kernel_rfl) (by kernel_rfl) (by decide) (by kernel_rfl) (by kernel_rfl) (fun _ _ _ h => h) (Or.inl ⟨by rfl, fun w1 hS => ?_⟩) ?_
  · (try dsimp only at hS)
    go_simp
  simp only [Act.put, List.setIfInBounds_toArray, List.set_cons_zero, List.set_cons_succ]
  refine wpG_ready (rs := [12]) (by kernel_rfl) (by simp) (fun W hG hS i hi => ?_)
  obtain rfl : i = 12 := by simpa using hi
  clear hi
  have hz := (HBH.out W hS).2
  replace r2 := ownsRow_below r2 hG
  replace own8 := own8.below hG
  have BB := bb2 B0 hS
  obtain ⟨z0, z1, z2', z3, z4, z5, z6, z7, z8'⟩ : _ ∧ _ ∧ _ ∧ _ ∧ _ ∧ _ ∧ _ ∧ _ ∧ _ := ⟨cellN hz (i := 0) rfl, cellN hz (i := 1) rfl, cellN hz (i := 2) rfl, cellN hz (i := 3) rfl, cellN hz (i := 4) rfl, cellN hz (i := 5) rfl, cellN hz (i := 6) rfl, cellN hz (i := 7) rfl, cellN hz (i := 8) rfl⟩
  have lz := liveN hz
  refine wpOp_step rfl (by rfl) (fun K' hK' => ?_)
  go_simp
  refine hK' _ _ (wpG_past (by decide) ?_)
  clear hK' K' z0 z1 z2' z3 z4 z5 z6 z7 z8' lz hG hS C2 C5 C8 HBH
  have s1 := setL_all [.slice fa (someF l).length fc, .int .i64 pk, .string (fewB pv), .string x8.r.meth, .string x8.r.host, .string x8.r.path, .slice x8.aq x8.r.query.length x8.cq, .slice x8.ah x8.r.head.length x8.ch, .bool tls] hz rfl
  have S1 := setL_below (w := w) (B := w.heap.size) (g := w.heap.size + 1) (by omega) [.slice fa (someF l).length fc, .int .i64 pk, .string (fewB pv), .string x8.r.meth, .string x8.r.host, .string x8.r.path, .slice x8.aq x8.r.query.length x8.cq, .slice x8.ah x8.r.head.length x8.ch, .bool tls] _ 0 BB
  have R1 := row_setL (k := 0) (cs := [.slice fa (someF l).length fc, .int .i64 pk, .string (fewB pv), .string x8.r.meth, .string x8.r.host, .string x8.r.path, .slice x8.aq x8.r.query.length x8.cq, .slice x8.ah x8.r.head.length x8.ch, .bool tls]) r2 hz (by decide)
  have O1 := own8.setL (k := 0) (cs := [.slice fa (someF l).length fc, .int .i64 pk, .string (fewB pv), .string x8.r.meth, .string x8.r.host, .string x8.r.path, .slice x8.aq x8.r.query.length x8.cq, .slice x8.ah x8.r.head.length x8.ch, .bool tls]) hz (by decide)
  refine wpAny_end (by kernel_rfl) ?_
  change Exit.then _ _ _ _ (setL W (w.heap.size + 1) 0 [.slice fa (someF l).length fc, .int .i64 pk, .string (fewB pv), .string x8.r.meth, .string x8.r.host, .string x8.r.path, .slice x8.aq x8.r.query.length x8.cq, .slice x8.ah x8.r.head.length x8.ch, .bool tls])
  generalize setL W (w.heap.size + 1) 0 [.slice fa (someF l).length fc, .int .i64 pk, .string (fewB pv), .string x8.r.meth, .string x8.r.host, .string x8.r.path, .slice x8.aq x8.r.query.length x8.cq, .slice x8.ah x8.r.head.length x8.ch, .bool tls] = W9 at *
  obtain ⟨e0, e1, e2, e3, e4, e5, e6, e7, e8⟩ : _ ∧ _ ∧ _ ∧ _ ∧ _ ∧ _ ∧ _ ∧ _ ∧ _ := ⟨cellN s1 (i := 0) rfl, cellN s1 (i := 1) rfl, cellN s1 (i := 2) rfl, cellN s1 (i := 3) rfl, cellN s1 (i := 4) rfl, cellN s1 (i := 5) rfl, cellN s1 (i := 6) rfl, cellN s1 (i := 7) rfl, cellN s1 (i := 8) rfl⟩
  clear r2 own8 hz s1 BB
  go_wp2_with fail
  exact bodyPost_ret (v := .agg #[.slice fa (someF l).length fc, .int .i64 pk, .string (fewB pv), .string x8.r.meth, .string x8.r.host, .string x8.r.path, .slice x8.aq x8.r.query.length x8.cq, .slice x8.ah x8.r.head.length x8.ch, .bool tls]) (by simp [results, Tryz.results10, go_sem, e0, e1, e2, e3, e4, e5, e6, e7, e8]) rfl ⟨fa, fc, _, x8, rfl, R1, HX8.out, O1, S1⟩

end Go.Proofs.YtblmdcpcekoogaaGreatDoor
namespace Go.Proofs.YtblmdcpcekoogaaGreatDoor
set_option maxRecDepth 20000
open Go Go.RowKit Go.Shelf Fi

/-- the same requests? -/
def sameR (a b : RB) : Bool := decide (a.meth = b.meth ∧ a.host = b.host ∧ a.path = b.path ∧ a.query = b.query ∧ a.head = b.head)
theorem sameR_iff {a b : RB} : sameR a b = true ↔ a = b := by
  unfold sameR
  rw [decide_eq_true_eq]
  constructor
  · rintro ⟨h1, h2, h3, h4, h5⟩
    obtain ⟨a1, a2, a3, a4, a5⟩ := a
    obtain ⟨b1, b2, b3, b4, b5⟩ := b
    dsimp only at *
    subst h1 h2 h3 h4 h5
    rfl
  · rintro rfl
    exact ⟨rfl, rfl, rfl, rfl, rfl⟩
theorem sameR_self (a : RB) : sameR a a = true := sameR_iff.2 rfl
theorem getElem_same {xs ys : List PairB} (e : xs = ys) {k : Nat} {h1 : k < xs.length} {h2 : k < ys.length} : xs[k] = ys[k] := by subst e; rfl

set_option maxHeartbeats 6400000 in
theorem sameAsk_any (x y : RV) (w : World) (hx : x.at_ w) (hy : y.at_ w) :
    Calls Tryz.prog 16 #[rV x.r x.vq x.vh, rV y.r y.vq y.vh] w fun e w' => e = .returned (.bool (sameR x.r y.r)) ∧ Below w.heap.size w w' := by
  obtain ⟨⟨am, ah_, ap, xq, yh⟩, xa, xc, ya, yc⟩ := x
  obtain ⟨⟨bm, bh_, bp, zq, uh⟩, za, zc, ua, uc⟩ := y
  obtain ⟨hxq, hyh⟩ := hx
  obtain ⟨hzq, huh⟩ := hy
  have hl1 := hxq.len
  have hl2 := hyh.len
  obtain ⟨xa', xc', e1, _, _, cA⟩ := hxq
  obtain ⟨ya', yc', e2, _, _, cC⟩ := hyh
  obtain ⟨za', zc', e3, _, _, cB⟩ := hzq
  obtain ⟨ua', uc', e4, _, _, cD⟩ := huh
  dsimp only at *
  injection e1 with e1 _ e1'
  injection e2 with e2 _ e2'
  injection e3 with e3 _ e3'
  injection e4 with e4 _ e4'
  subst e1 e1' e2 e2' e3 e3' e4 e4'
  have HA := hide cA
  have HB := hide cB
  have HC := hide cC
  have HD := hide cD
  clear cA cB cC cD
  have B2 : Below w.heap.size w ((w.alloc (.cells #[.string am, .string ah_, .string ap, .slice xa xq.length xc, .slice ya yh.length yc] 27)).alloc (.cells #[.string bm, .string bh_, .string bp, .slice za zq.length zc, .slice ua uh.length uc] 27)) := ((Below.refl _ _).alloc (Nat.le_refl _) _).alloc (by simp) _
  have HS : Hid (sameR ⟨am, ah_, ap, xq, yh⟩ ⟨bm, bh_, bp, zq, uh⟩ = decide (am = bm ∧ ah_ = bh_ ∧ ap = bp ∧ xq = zq ∧ yh = uh)) := rfl
  generalize sameR ⟨am, ah_, ap, xq, yh⟩ ⟨bm, bh_, bp, zq, uh⟩ = r at *
  cases h1 : (am.toList == bm.toList)
  · have HR : Hid (false = r) := by
      show _ = _
      rw [HS.out]
      exact (decide_eq_false fun h => by rw [h.1] at h1; simp at h1).symm
    go_enter Tryz.func16, Tryz.ntmps16
    go_wp2_with fail
    go_ret
    exact ⟨ret_bool HR.out, B2⟩
  cases h2 : (ah_.toList == bh_.toList)
  · have HR : Hid (false = r) := by
      show _ = _
      rw [HS.out]
      exact (decide_eq_false fun h => by rw [h.2.1] at h2; simp at h2).symm
    go_enter Tryz.func16, Tryz.ntmps16
    go_wp2_with fail
    go_ret
    exact ⟨ret_bool HR.out, B2⟩
  cases h3 : (ap.toList == bp.toList)
  · have HR : Hid (false = r) := by
      show _ = _
      rw [HS.out]
      exact (decide_eq_false fun h => by rw [h.2.2.1] at h3; simp at h3).symm
    go_enter Tryz.func16, Tryz.ntmps16
    go_wp2_with fail
    go_ret
    exact ⟨ret_bool HR.out, B2⟩
  by_cases hlq : xq.length = zq.length
  · by_cases hlh : yh.length = uh.length
    · have LQ := hide hlq
      have LH := hide hlh
      have n1 : ((xq.length : Int) != (zq.length : Int)) = false := by rw [bne_eq_false_iff_eq]; omega
      have n2 : ((yh.length : Int) != (uh.length : Int)) = false := by rw [bne_eq_false_iff_eq]; omega
      have HY : Hid (xq = zq → yh = uh → r = true) := fun q1 q2 => by
        rw [HS.out]
        exact decide_eq_true ⟨bytes_eq h1, bytes_eq h2, bytes_eq h3, q1, q2⟩
      have HN4 : Hid (¬ xq = zq → r = false) := fun q => by
        rw [HS.out]
        exact decide_eq_false fun h => q h.2.2.2.1
      have HN5 : Hid (¬ yh = uh → r = false) := fun q => by
        rw [HS.out]
        exact decide_eq_false fun h => q h.2.2.2.2
      clear hlq hlh HS
      go_enter Tryz.func16, Tryz.ntmps16
      go_wp2_with fail
      go_loopw [5] (fun i wr => ∃ k : Nat, k ≤ xq.length ∧ i = .int .i64 k ∧ Hid (xq.take k = zq.take k) ∧ Below ((w.alloc (.cells #[.string am, .string ah_, .string ap, .slice xa xq.length xc, .slice ya yh.length yc] 27)).alloc (.cells #[.string bm, .string bh_, .string bp, .slice za zq.length zc, .slice ua uh.length uc] 27)).heap.size ((w.alloc (.cells #[.string am, .string ah_, .string ap, .slice xa xq.length xc, .slice ya yh.length yc] 27)).alloc (.cells #[.string bm, .string bh_, .string bp, .slice za zq.length zc, .slice ua uh.length uc] 27)) wr) (fun i _ => xq.length - (intOf i).toNat)
      case atStart => exact ⟨0, Nat.zero_le _, rfl, rfl, Below.refl _ _⟩
      case round =>
        obtain ⟨k, hk, rfl, htk, hB⟩ := hrel
        have a3 := (hB.cell (p := ⟨w.heap.size, 3, none⟩) (by simp; omega)).trans (cellN (bx2 (Below.refl _ ((w.alloc (.cells #[.string am, .string ah_, .string ap, .slice xa xq.length xc, .slice ya yh.length yc] 27)).alloc (.cells #[.string bm, .string bh_, .string bp, .slice za zq.length zc, .slice ua uh.length uc] 27)))).1 (i := 3) rfl)
        have b3 := (hB.cell (p := ⟨w.heap.size + 1, 3, none⟩) (by simp)).trans (cellN (bx2 (Below.refl _ ((w.alloc (.cells #[.string am, .string ah_, .string ap, .slice xa xq.length xc, .slice ya yh.length yc] 27)).alloc (.cells #[.string bm, .string bh_, .string bp, .slice za zq.length zc, .slice ua uh.length uc] 27)))).2 (i := 3) rfl)
        by_cases hlt : k < xq.length
        · have hlb : k < zq.length := by rw [← LQ.out]; exact hlt
          obtain ⟨ga, oa, rfl, hga, a1, a2⟩ := HA.out k hlt
          obtain ⟨gb, ob, rfl, hgb, b1, b2⟩ := HB.out k hlb
          replace a1 := ((bb2 B2 hB).cell (p := ⟨ga, oa + k * 2, none⟩) hga).trans a1
          replace a2 := ((bb2 B2 hB).cell (p := ⟨ga, oa + k * 2 + 1, none⟩) hga).trans a2
          replace b1 := ((bb2 B2 hB).cell (p := ⟨gb, ob + k * 2, none⟩) hgb).trans b1
          replace b2 := ((bb2 B2 hB).cell (p := ⟨gb, ob + k * 2 + 1, none⟩) hgb).trans b2
          have hlt' : (k : Int) < (xq.length : Int) := by omega
          have hlb' : (k : Int) < (zq.length : Int) := by omega
          have HXk : Hid (xq[k] = (xq[k].1, xq[k].2)) := rfl
          have HYk : Hid (zq[k] = (zq[k].1, zq[k].2)) := rfl
          have HEQ : Hid (xq = zq → xq[k] = zq[k]) := fun e => getElem_same e
          generalize hx1 : xq[k].1 = x1 at *
          generalize hx2 : xq[k].2 = x2 at *
          generalize hy1 : zq[k].1 = y1 at *
          generalize hy2 : zq[k].2 = y2 at *
          cases hq1 : (x1.toList == y1.toList)
          · have hqe : Hid (false = r) := by
              refine (HN4.out fun e => ?_).symm
              have := HEQ.out e
              rw [HXk.out, HYk.out] at this
              rw [(Prod.mk.inj this).1] at hq1
              simp at hq1
            go_wp2_with fail
            go_region
            go_wp2_with fail
            go_ret
            exact ⟨ret_bool hqe.out, bb2 B2 hB.drew⟩
          · cases hq2 : (x2.toList == y2.toList)
            · have hqe : Hid (false = r) := by
                refine (HN4.out fun e => ?_).symm
                have := HEQ.out e
                rw [HXk.out, HYk.out] at this
                rw [(Prod.mk.inj this).2] at hq2
                simp at hq2
              go_wp2_with fail
              go_region
              go_wp2_with fail
              go_ret
              exact ⟨ret_bool hqe.out, bb2 B2 hB.drew⟩
            · have hqe : Hid (xq[k] = zq[k]) := by
                unfold Hid
                rw [HXk.out, HYk.out, bytes_eq hq1, bytes_eq hq2]
              go_wp2_with fail
              go_region
              go_wp2_with fail
              refine ⟨⟨k + 1, by omega, by go_num, ?_, hB.drew⟩, by simp [intOf]; omega⟩
              unfold Hid
              rw [List.take_succ_eq_append_getElem hlt, List.take_succ_eq_append_getElem hlb, htk.out, hqe.out]
        · have hlt' : ¬ (k : Int) < (xq.length : Int) := by omega
          have hqe : Hid (xq = zq) := by
            have := htk.out
            rwa [List.take_of_length_le (by omega), List.take_of_length_le (by rw [← LQ.out]; omega)] at this
          have HQ1 := hide hqe.out
          obtain ⟨w2, hw2e⟩ : ∃ z, z = wr := ⟨_, rfl⟩
          have hw2 := hB
          rw [← hw2e] at hw2
          have c4 := cellN (bx2 hw2).1 (i := 4) rfl
          have d4 := cellN (bx2 hw2).2 (i := 4) rfl
          go_wp2_with fail
          rw [← hw2e]
          clear hw2e hB a3 b3 hqe htk
          go_loopw [6] (fun i wr => ∃ k : Nat, k ≤ yh.length ∧ i = .int .i64 k ∧ Hid (yh.take k = uh.take k) ∧ Below w2.heap.size w2 wr) (fun i _ => yh.length - (intOf i).toNat)
          case atStart => exact ⟨0, Nat.zero_le _, rfl, rfl, Below.refl _ _⟩
          case round =>
            obtain ⟨k, hk, rfl, htk, hB⟩ := hrel
            have a4 := (hB.cell (p := ⟨w.heap.size, 4, none⟩) (Nat.lt_of_lt_of_le (by simp; omega) hw2.size)).trans (c4)
            have b4 := (hB.cell (p := ⟨w.heap.size + 1, 4, none⟩) (Nat.lt_of_lt_of_le (by simp) hw2.size)).trans (d4)
            by_cases hlt : k < yh.length
            · have hlb : k < uh.length := by rw [← LH.out]; exact hlt
              obtain ⟨ga, oa, rfl, hga, a1, a2⟩ := HC.out k hlt
              obtain ⟨gb, ob, rfl, hgb, b1, b2⟩ := HD.out k hlb
              replace a1 := ((bb2 (bb2 B2 hw2) hB).cell (p := ⟨ga, oa + k * 2, none⟩) hga).trans a1
              replace a2 := ((bb2 (bb2 B2 hw2) hB).cell (p := ⟨ga, oa + k * 2 + 1, none⟩) hga).trans a2
              replace b1 := ((bb2 (bb2 B2 hw2) hB).cell (p := ⟨gb, ob + k * 2, none⟩) hgb).trans b1
              replace b2 := ((bb2 (bb2 B2 hw2) hB).cell (p := ⟨gb, ob + k * 2 + 1, none⟩) hgb).trans b2
              have hlt' : (k : Int) < (yh.length : Int) := by omega
              have hlb' : (k : Int) < (uh.length : Int) := by omega
              have HXk : Hid (yh[k] = (yh[k].1, yh[k].2)) := rfl
              have HYk : Hid (uh[k] = (uh[k].1, uh[k].2)) := rfl
              have HEQ : Hid (yh = uh → yh[k] = uh[k]) := fun e => getElem_same e
              generalize hx1 : yh[k].1 = x1 at *
              generalize hx2 : yh[k].2 = x2 at *
              generalize hy1 : uh[k].1 = y1 at *
              generalize hy2 : uh[k].2 = y2 at *
              cases hq1 : (x1.toList == y1.toList)
              · have hqe : Hid (false = r) := by
                  refine (HN5.out fun e => ?_).symm
                  have := HEQ.out e
                  rw [HXk.out, HYk.out] at this
                  rw [(Prod.mk.inj this).1] at hq1
                  simp at hq1
                go_wp2_with fail
                go_region
                go_wp2_with fail
                go_ret
                exact ⟨ret_bool hqe.out, bb2 B2 (bb2 hw2 hB.drew)⟩
              · cases hq2 : (x2.toList == y2.toList)
                · have hqe : Hid (false = r) := by
                    refine (HN5.out fun e => ?_).symm
                    have := HEQ.out e
                    rw [HXk.out, HYk.out] at this
                    rw [(Prod.mk.inj this).2] at hq2
                    simp at hq2
                  go_wp2_with fail
                  go_region
                  go_wp2_with fail
                  go_ret
                  exact ⟨ret_bool hqe.out, bb2 B2 (bb2 hw2 hB.drew)⟩
                · have hqe : Hid (yh[k] = uh[k]) := by
                    unfold Hid
                    rw [HXk.out, HYk.out, bytes_eq hq1, bytes_eq hq2]
                  go_wp2_with fail
                  go_region
                  go_wp2_with fail
                  refine ⟨⟨k + 1, by omega, by go_num, ?_, hB.drew⟩, by simp [intOf]; omega⟩
                  unfold Hid
                  rw [List.take_succ_eq_append_getElem hlt, List.take_succ_eq_append_getElem hlb, htk.out, hqe.out]
            · have hlt' : ¬ (k : Int) < (yh.length : Int) := by omega
              have hqe : Hid (yh = uh) := by
                have := htk.out
                rwa [List.take_of_length_le (by omega), List.take_of_length_le (by rw [← LH.out]; omega)] at this
              have HT : Hid (true = r) := (HY.out HQ1.out hqe.out).symm
              go_wp2_with fail
              go_ret
              exact ⟨ret_bool HT.out, bb2 B2 (bb2 hw2 hB)⟩
    · have n1 : ((xq.length : Int) != (zq.length : Int)) = false := by rw [bne_eq_false_iff_eq]; omega
      have n2 : ((yh.length : Int) != (uh.length : Int)) = true := by rw [bne_iff_ne]; omega
      have HR : Hid (false = r) := by
        show _ = _
        rw [HS.out]
        exact (decide_eq_false fun h => hlh (by rw [h.2.2.2.2])).symm
      go_enter Tryz.func16, Tryz.ntmps16
      go_wp2_with fail
      go_ret
      exact ⟨ret_bool HR.out, B2⟩
  · have n1 : ((xq.length : Int) != (zq.length : Int)) = true := by rw [bne_iff_ne]; omega
    have HR : Hid (false = r) := by
      show _ = _
      rw [HS.out]
      exact (decide_eq_false fun h => hlq (by rw [h.2.2.2.1])).symm
    go_enter Tryz.func16, Tryz.ntmps16
    go_wp2_with fail
    go_ret
    exact ⟨ret_bool HR.out, B2⟩

end Go.Proofs.YtblmdcpcekoogaaGreatDoor
namespace Go.Proofs.YtblmdcpcekoogaaGreatDoor
set_option maxRecDepth 20000
open Go Go.RowKit Go.Shelf Fi

theorem ex1 : doF [⟨1, ⟨#[120]⟩, ⟨#[49]⟩, ⟨#[]⟩, 0, ⟨#[]⟩, false, 0⟩] 2 ⟨#[47, 97]⟩ ⟨⟨#[]⟩, ⟨#[]⟩, ⟨#[47, 97]⟩, [], []⟩ = (⟨⟨#[]⟩, ⟨#[]⟩, ⟨#[47, 97]⟩, [], [(⟨#[120]⟩, ⟨#[49]⟩)]⟩, 0) := by kernel_rfl
theorem ex2 : doF [⟨5, ⟨#[]⟩, ⟨#[]⟩, ⟨#[]⟩, 0, ⟨#[47, 120]⟩, false, 0⟩] 2 ⟨#[47, 97]⟩ ⟨⟨#[]⟩, ⟨#[]⟩, ⟨#[47, 97, 47, 98]⟩, [], []⟩ = (⟨⟨#[]⟩, ⟨#[]⟩, ⟨#[47, 120, 47, 98]⟩, [], []⟩, 0) := by kernel_rfl
theorem ex3 : awayF [⟨4, ⟨#[]⟩, ⟨#[]⟩, ⟨#[98, 46, 116, 101, 115, 116]⟩, 0, ⟨#[]⟩, false, 301⟩] 2 ⟨#[47, 97]⟩ ⟨#[]⟩ ⟨#[47, 97]⟩ true = ((301, ⟨#[104, 116, 116, 112, 115, 58, 47, 47, 98, 46, 116, 101, 115, 116, 47, 97]⟩), 0) := by kernel_rfl
theorem ok1 {f : FB} (h1 : f.name.size ≤ 100) (h2 : f.val.size ≤ 100) (h3 : f.host.size ≤ 100) (h4 : f.path.size ≤ 100) : ∀ g ∈ [f], OkFi g := fun g hg => by
  obtain rfl : g = f := by simpa using hg
  exact ⟨h1, h2, h3, h4⟩
theorem Sl.one {w : World} {g : Nat} {f : FB} (h : w.heap[g]? = some (.cells (fcells f).toArray 87)) : Sl EF w (.slice (some ⟨g, 0, none⟩) 1 1) [f] := Sl.at_block h trivial
theorem at0 (w : World) (t : ByteArray) : RV.at_ ⟨⟨⟨#[]⟩, ⟨#[]⟩, t, [], []⟩, none, 0, none, 0⟩ w := ⟨Prs.nil w, Prs.nil w⟩
theorem okR0 {t : ByteArray} (h : t.size ≤ 100) : OkR ⟨⟨#[]⟩, ⟨#[]⟩, t, [], []⟩ := ⟨(show 0 ≤ 100 by decide), (show 0 ≤ 100 by decide), h, (show 0 ≤ 31 by decide), (show 0 ≤ 31 by decide), fun p hp => (by cases hp), fun p hp => (by cases hp)⟩

set_option maxHeartbeats 3200000 in
theorem fawake_any (w : World) :
    Calls Tryz.prog 17 #[] w fun e w' => e = .returned (.bool true) ∧ Below w.heap.size w w' := by
  have C1 := fun W (h : W.heap[w.heap.size + 1]? = some (.cells #[.int .i64 1, .string ⟨#[120]⟩, .string ⟨#[49]⟩, .string ⟨#[]⟩, .int .i64 0, .string ⟨#[]⟩, .bool false, .int .i64 0] 87)) => hide (do_any (.slice (some ⟨w.heap.size + 1, 0, none⟩) 1 1) [⟨1, ⟨#[120]⟩, ⟨#[49]⟩, ⟨#[]⟩, 0, ⟨#[]⟩, false, 0⟩] 2 ⟨#[47, 97]⟩ ⟨⟨⟨#[]⟩, ⟨#[]⟩, ⟨#[47, 97]⟩, [], []⟩, none, 0, none, 0⟩ W (Sl.one h) (ok1 (by decide) (by decide) (by decide) (by decide)) (by decide) (at0 _ _) (okR0 (by decide)))
  have C2 := fun W (g : Nat) (h : W.heap[g]? = some (.cells #[.int .i64 5, .string ⟨#[]⟩, .string ⟨#[]⟩, .string ⟨#[]⟩, .int .i64 0, .string ⟨#[47, 120]⟩, .bool false, .int .i64 0] 87)) => hide (do_any (.slice (some ⟨g, 0, none⟩) 1 1) [⟨5, ⟨#[]⟩, ⟨#[]⟩, ⟨#[]⟩, 0, ⟨#[47, 120]⟩, false, 0⟩] 2 ⟨#[47, 97]⟩ ⟨⟨⟨#[]⟩, ⟨#[]⟩, ⟨#[47, 97, 47, 98]⟩, [], []⟩, none, 0, none, 0⟩ W (Sl.one h) (ok1 (by decide) (by decide) (by decide) (by decide)) (by decide) (at0 _ _) (okR0 (by decide)))
  have C3 := fun W (g : Nat) (h : W.heap[g]? = some (.cells #[.int .i64 4, .string ⟨#[]⟩, .string ⟨#[]⟩, .string ⟨#[98, 46, 116, 101, 115, 116]⟩, .int .i64 0, .string ⟨#[]⟩, .bool false, .int .i64 301] 87)) => hide (away_any (.slice (some ⟨g, 0, none⟩) 1 1) [⟨4, ⟨#[]⟩, ⟨#[]⟩, ⟨#[98, 46, 116, 101, 115, 116]⟩, 0, ⟨#[]⟩, false, 301⟩] 2 ⟨#[47, 97]⟩ ⟨⟨⟨#[]⟩, ⟨#[]⟩, ⟨#[47, 97]⟩, [], []⟩, none, 0, none, 0⟩ true W (Sl.one h) (ok1 (by decide) (by decide) (by decide) (by decide)) (by decide) (by decide) (by decide) (fun f hf _ _ hn => by
    obtain rfl : f = ⟨4, ⟨#[]⟩, ⟨#[]⟩, ⟨#[98, 46, 116, 101, 115, 116]⟩, 0, ⟨#[]⟩, false, 301⟩ := by simpa using hf
    exact absurd rfl hn.1))
  dsimp only at C1 C2 C3
  rw [ex1] at C1
  rw [ex2] at C2
  rw [ex3] at C3
  dsimp only at C1 C2 C3
  have B2 : Below w.heap.size w ((w.alloc (.cells #[.int .i64 2, .string ⟨#[47, 97]⟩] 24)).alloc (.cells #[.int .i64 1, .string ⟨#[120]⟩, .string ⟨#[49]⟩, .string ⟨#[]⟩, .int .i64 0, .string ⟨#[]⟩, .bool false, .int .i64 0] 87)) := ((Below.refl _ _).alloc (Nat.le_refl _) _).alloc (by simp) _
  go_enter Tryz.func17, Tryz.ntmps17
  go_wp2_with fail
  refine (C1 _ (by have := alloc_new (w.alloc (.cells #[.int .i64 2, .string ⟨#[47, 97]⟩] 24)) (.cells #[.int .i64 1, .string ⟨#[120]⟩, .string ⟨#[49]⟩, .string ⟨#[]⟩, .int .i64 0, .string ⟨#[]⟩, .bool false, .int .i64 0] 87); simpa only [World.size_alloc] using this)).out.mono ?_
  rintro e w1 ⟨⟨r1, aq1, cq1, ah1, ch1⟩, rfl, hy1, own1, hb1⟩
  dsimp only at hy1
  subst hy1
  have kp := (bx2 hb1).1
  have B3 := ((Below.refl _ w1).alloc (Nat.le_refl _) (.cells #[.string ⟨#[]⟩, .string ⟨#[]⟩, .string ⟨#[47, 97]⟩, .slice aq1 0 cq1, .slice ah1 1 ch1] 27)).alloc (by simp) (.cells #[.int .i64 5, .string ⟨#[]⟩, .string ⟨#[]⟩, .string ⟨#[]⟩, .int .i64 0, .string ⟨#[47, 120]⟩, .bool false, .int .i64 0] 87)
  have p0 := cellN (blk_below kp B3) (i := 0) rfl
  have p1 := cellN (blk_below kp B3) (i := 1) rfl
  clear C1
  go_wp2_with fail
  refine (C2 _ _ (by have := alloc_new (w1.alloc (.cells #[.string ⟨#[]⟩, .string ⟨#[]⟩, .string ⟨#[47, 97]⟩, .slice aq1 0 cq1, .slice ah1 1 ch1] 27)) (.cells #[.int .i64 5, .string ⟨#[]⟩, .string ⟨#[]⟩, .string ⟨#[]⟩, .int .i64 0, .string ⟨#[47, 120]⟩, .bool false, .int .i64 0] 87); simpa only [World.size_alloc] using this)).out.mono ?_
  rintro e w2 ⟨⟨r2, aq2, cq2, ah2, ch2⟩, rfl, hy2, own2, hb2⟩
  dsimp only at hy2
  subst hy2
  have kp2 := blk_below kp (bb2 B3 hb2)
  have ky1 := (bx2 hb2).1
  have B4 := ((Below.refl _ w2).alloc (Nat.le_refl _) (.cells #[.string ⟨#[]⟩, .string ⟨#[]⟩, .string ⟨#[47, 120, 47, 98]⟩, .slice aq2 0 cq2, .slice ah2 0 ch2] 27)).alloc (by simp) (.cells #[.int .i64 4, .string ⟨#[]⟩, .string ⟨#[]⟩, .string ⟨#[98, 46, 116, 101, 115, 116]⟩, .int .i64 0, .string ⟨#[]⟩, .bool false, .int .i64 301] 87)
  have P0 := cellN (blk_below kp2 B4) (i := 0) rfl
  have P1 := cellN (blk_below kp2 B4) (i := 1) rfl
  clear C2 p0 p1
  go_wp2_with fail
  refine (C3 _ _ (by have := alloc_new (w2.alloc (.cells #[.string ⟨#[]⟩, .string ⟨#[]⟩, .string ⟨#[47, 120, 47, 98]⟩, .slice aq2 0 cq2, .slice ah2 0 ch2] 27)) (.cells #[.int .i64 4, .string ⟨#[]⟩, .string ⟨#[]⟩, .string ⟨#[98, 46, 116, 101, 115, 116]⟩, .int .i64 0, .string ⟨#[]⟩, .bool false, .int .i64 301] 87); simpa only [World.size_alloc] using this)).out.mono ?_
  rintro e w3 ⟨rfl, hb3⟩
  clear C3 P0 P1
  have ky2 := (bx2 hb3).1
  have ky3 := blk_below ky1 (bb2 B4 hb3)
  have own1' := (own1.below (bb2 B3 hb2)).below (bb2 B4 hb3)
  have hh : Prs w3 (.slice ah1 1 ch1) [(⟨#[120]⟩, ⟨#[49]⟩)] := own1'.at_.2
  have BB := hide (bb2 B2 (bb2 hb1 (bb2 B3 (bb2 hb2 (bb2 B4 hb3)))))
  clear own1 own1' own2
  have V1 := (Below.refl _ w3).alloc (Nat.le_refl _) (.cells #[.int .i64 301, .string ⟨#[104, 116, 116, 112, 115, 58, 47, 47, 98, 46, 116, 101, 115, 116, 47, 97]⟩] 38)
  have V2 := V1.alloc (by simp) (.cells #[.string ⟨#[120]⟩, .string ⟨#[49]⟩] 83)
  have a4 := cellN (blk_below ky3 V1) (i := 4) rfl
  have HX : Prs ((w3.alloc (.cells #[.int .i64 301, .string ⟨#[104, 116, 116, 112, 115, 58, 47, 47, 98, 46, 116, 101, 115, 116, 47, 97]⟩] 38)).alloc (.cells #[.string ⟨#[120]⟩, .string ⟨#[49]⟩] 83)) (.slice (some ⟨w3.heap.size + 1, 0, none⟩) 1 1) [(⟨#[120]⟩, ⟨#[49]⟩)] := by
    have := Prs.at1 (w3.alloc (.cells #[.int .i64 301, .string ⟨#[104, 116, 116, 112, 115, 58, 47, 47, 98, 46, 116, 101, 115, 116, 47, 97]⟩] 38)) (w3.heap.size + 1) (by simp) ⟨#[120]⟩ ⟨#[49]⟩
    exact this
  have CP := hide (psame_any ((w3.alloc (.cells #[.int .i64 301, .string ⟨#[104, 116, 116, 112, 115, 58, 47, 47, 98, 46, 116, 101, 115, 116, 47, 97]⟩] 38)).alloc (.cells #[.string ⟨#[120]⟩, .string ⟨#[49]⟩] 83)) (.slice ah1 1 ch1) _ _ _ (hh.below V2) HX)
  rw [decide_eq_true rfl] at CP
  go_wp2_with fail
  refine CP.out.mono ?_
  rintro e w4 ⟨rfl, hb4⟩
  have kc := (bx2 hb4).1
  have kb2 := blk_below ky2 (bb2 V2 hb4)
  have e2 := cellN kb2 (i := 2) rfl
  have g0 := cellN kc (i := 0) rfl
  have g1 := cellN kc (i := 1) rfl
  have B9 := bb2 BB.out (bb2 V2 hb4)
  go_wp2_with fail
  go_ret
  exact ⟨rfl, B9⟩

end Go.Proofs.YtblmdcpcekoogaaGreatDoor
