/-
  Walks: the laws' Few (of needs).
-/
import Derived.Test.YthnodpdiocppgaaGreatDoorJ10
import Derived.Test.YthnodpdiocppgaaGreatDoorRowA
import Derived.Test.YthnodpdiocppgaaGreatDoorJ9
import Derived.Test.YthnodpdiocppgaaGreatDoorJ7
namespace Go.Proofs.YthnodpdiocppgaaGreatDoor
set_option maxRecDepth 20000
open Go Go.RowKit Go.Shelf Go.Deep

/-- its values are a row of their own -/
def NV.own (x : NV) (w : World) : Prop := ∃ b, w.ownsRow b 9 ES.n x.v x.n.vals.length (ES.flat x.n.vals)
theorem NV.own.at_ {x : NV} {w : World} (h : x.own w) : Sl ES w x.v x.n.vals := by
  obtain ⟨b, h⟩ := h
  exact Sl.of_row (E := ES) rfl h (fun _ _ => trivial)
theorem NV.own.below {x : NV} {w w' : World} (h : x.own w) (hb : Below w.heap.size w w') : x.own w' := by
  obtain ⟨b, h⟩ := h
  exact ⟨b, ownsRow_below h hb⟩
theorem NV.own.grown {x : NV} {w w' : World} (h : x.own w) {b' n' s' : Nat} {v' : Value} {ys : List Value} (h' : w.ownsRow b' 105 s' v' n' ys) (hg : w.grownBy w' v'.ownBlock) : x.own w' := by
  obtain ⟨b, h⟩ := h
  exact ⟨b, row_apart h h' (by decide) hg⟩

theorem Tryz.infoNeed : (Tryz.prog.info? 105).map (fun i => (i.zero, i.size, i.bytes)) = some (some (.agg #[.int .i64 0, .string ⟨#[]⟩, .slice none 0 0]), 3, 48) := by kernel_rfl
theorem Tryz.infoStr : (Tryz.prog.info? 9).map (fun i => (i.zero, i.size, i.bytes)) = some (some (.string ⟨#[]⟩), 1, 16) := by kernel_rfl

theorem wp_append_sl {α : Type} {E : Elem α} {P : Program} {o : Oper} {a : Act} {Q : Exit → Act → World → Prop} {K : Act → World → Prop} (t e : TypeId) (z : Value) (bytes : Nat) (ht : P.underlying t = some (.slice e)) (hinfo : (P.info? e).map (fun i => (i.zero, i.size, i.bytes)) = some (some z, E.n, bytes)) (hz : z.cells.size = E.n) (hby : bytes ≤ 1000000) (w : World) (s x : Operand)
    (ho : o.op = .call { callee := .builtin .append, args := #[s, x], argTypes := #[t, t] })
    (base : Nat) (v : Value) (n : Nat) (xs : List α) (hs : a.eval s = v) (hown : w.ownsRow base e E.n v n (E.flat xs))
    (y : Value) (l : List α) (hy : a.eval x = y) (hl : Sl E w y l) (hn : n + l.length ≤ 100000) (hbase : base ≤ w.heap.size)
    (h : ∀ v' w', w'.ownsRow base e E.n v' (n + l.length) (E.flat (xs ++ l)) → w.grownBy w' v.ownBlock → K (a.put o.dst v') w') : o.wp P a w K Q := by
  obtain ⟨i0, hi, hz0, hz1, hz2⟩ := info_parts hinfo
  exact wp_append_any w s x _ ho base _ i0 _ E.n bytes ht hi hz0 hz1 hz2 hz E.pos v n (E.flat xs) hs hown y l.length (E.flat l) hy hl.lies (E.flat_len l) (Elem.flat_ones hl.all) (by unfold maxLen; omega) (Nat.le_trans (Nat.mul_le_mul hn hby) (by decide)) hbase (fun v' w' h2 h3 => h v' w' (by rw [Elem.flat_append]; exact h2) h3)

/-- a need of a slice of them, in whatever grows -/
theorem en_all {w : World} {a : Option Addr} {n cap : Nat} {L : List NV} (h : Sl EN w (.slice a n cap) L) {k : Nat} (hk : k < L.length) :
    ∃ g off, a = some ⟨g, off, none⟩ ∧ g < w.heap.size ∧ Sl ES w L[k].v L[k].n.vals ∧ ∀ W, Below w.heap.size w W → W.cell? ⟨g, off + k * 3, none⟩ = some (.int .i64 L[k].n.kind) ∧ W.cell? ⟨g, off + k * 3 + 1, none⟩ = some (.string L[k].n.name) ∧ W.cell? ⟨g, off + k * 3 + 2, none⟩ = some L[k].v := by
  obtain ⟨a', cap', hv, _, _, hc⟩ := h
  injection hv with e1 e2 e3
  subst e1
  obtain ⟨hA, g, off, ha, hg, c⟩ := hc k hk
  exact ⟨g, off, ha, hg, hA, fun W hB => EN_at (c.below hg hB)⟩
theorem es_all {w : World} {a : Option Addr} {n cap : Nat} {l : List ByteArray} (h : Sl ES w (.slice a n cap) l) {k : Nat} (hk : k < l.length) :
    ∃ g off, a = some ⟨g, off, none⟩ ∧ g < w.heap.size ∧ ∀ W, Below w.heap.size w W → W.cell? ⟨g, off + k, none⟩ = some (.string l[k]) := by
  obtain ⟨a', cap', hv, _, _, hc⟩ := h
  injection hv with e1 e2 e3
  subst e1
  obtain ⟨_, g, off, ha, hg, c⟩ := hc k hk
  refine ⟨g, off, ha, hg, fun W hB => ?_⟩
  have := ES_at (c.below hg hB)
  rwa [show off + k * ES.n = off + k from by show off + k * 1 = _; rw [Nat.mul_one]] at this

set_option maxHeartbeats 6400000 in
theorem lfew_any (v : Value) (L : List NV) (w : World) (hv : Sl EN w v L) (raw : ∀ x ∈ L, RawN x.n) :
    Calls Tryz.prog 42 #[v] w fun e w' => ∃ v', e = .returned v' ∧ ∃ L' : List NV, nbs L' = someN (nbs L) ∧ w'.ownsRow w.heap.size 105 EN.n v' L'.length (EN.flat L') ∧ (∀ x ∈ L', x.own w') ∧ Below w.heap.size w w' := by
  have hlen := hv.len
  obtain ⟨a, cap, rfl⟩ := hv.form
  have HC := hide (fun k (hk : k < L.length) => en_all hv hk)
  have HRAW := hide raw
  clear hv raw
  go_enter Tryz.func42, Tryz.ntmps42
  go_wp2_with fail
  go_loopw [3, 4] (fun o i wr => ∃ (k : Nat) (L' : List NV), k ≤ L.length ∧ k ≤ 9 ∧ i = .int .i64 k ∧ Hid (nbs L' = ((nbs L).take k).map fewN) ∧ Hid (∀ x ∈ L', x.own wr) ∧ wr.ownsRow w.heap.size 105 EN.n o L'.length (EN.flat L') ∧ Below w.heap.size w wr) (fun _ i _ => 9 - (intOf i).toNat)
  case atStart => exact ⟨0, [], Nat.zero_le _, by omega, rfl, rfl, fun x hx => absurd hx (by simp), World.ownsRow_nil _ _ _ _, Below.refl _ _⟩
  case round =>
    obtain ⟨k, L', hk, hk9, rfl, hmap, hown, hr, hB⟩ := hrel
    have HR := hide hr
    clear hr
    have hl' : L'.length ≤ 9 := by
      have := congrArg List.length hmap.out
      simp at this
      omega
    have HEND : Hid (¬ (k < L.length ∧ k < 9) → nbs L' = someN (nbs L)) := fun h => by
      rw [hmap.out]
      unfold someN
      rcases (show k = 9 ∨ L.length ≤ k by omega) with h1 | h1
      · rw [h1]
      · rw [List.take_of_length_le (by rw [List.length_map]; exact h1), List.take_of_length_le (by rw [List.length_map]; omega)]
    by_cases hlt : k < L.length
    · have hlt' : (k : Int) < (L.length : Int) := by omega
      by_cases h9 : k < 9
      · have h9' : (k : Int) < 9 := by omega
        clear HEND
        obtain ⟨wo, hwo⟩ : ∃ W, W = wr := ⟨_, rfl⟩
        subst hwo
        obtain ⟨g, off, rfl, hg, hA, hcells⟩ := HC.out k hlt
        obtain ⟨rnm, rvs⟩ := HRAW.out _ (List.getElem_mem hlt)
        have HSN : Hid (∀ y : NV, y.n = fewN L[k].n → nbs (L' ++ [y]) = ((nbs L).take (k + 1)).map fewN) := fun y hy => by
          unfold nbs at *
          rw [List.map_append, hmap.out, List.take_succ_eq_append_getElem (by rw [List.length_map]; exact hlt), List.map_append, List.getElem_map]
          simp [hy]
        clear HC HRAW hmap
        generalize L[k] = x at *
        obtain ⟨⟨kd, nm, vs⟩, xa, xc⟩ := x
        dsimp only at *
        have m0 := fun W (h : Below wo.heap.size wo W) => (hcells W (bb2 hB h)).1
        have m1 := fun W (h : Below wo.heap.size wo W) => (hcells W (bb2 hB h)).2.1
        have CN := fun W => hide (fewB_any nm W rnm)
        have HVS := hide (fun j (hj : j < vs.length) => es_all hA hj)
        have HRV := hide rvs
        have HCE := hide hcells
        clear hcells hA rvs
        go_wp2_with fail
        refine wp_region_G 13 (fun W => Below wo.heap.size wo W) (by kernel_rfl) ((Below.refl _ _).drew) ?_
        refine wpG_take (i := 0) 5 (v := .slice (some ⟨g, off, none⟩) L.length cap) rfl (by kernel_rfl) (by kernel_rfl) (by kernel_rfl) (by decide) (by kernel_rfl) (by kernel_rfl) (fun _ _ _ h => h) (Or.inl ⟨by rfl, fun w1 hS => ?_⟩) ?_
        · (try dsimp only at hS)
          go_simp
        simp only [Act.put, List.setIfInBounds_toArray, List.set_cons_zero, List.set_cons_succ]
        refine wpG_take (i := 1) 5 (v := .int .i64 k) rfl (by kernel_rfl) (by kernel_rfl) (by kernel_rfl) (by decide) (by kernel_rfl) (by kernel_rfl) (fun _ _ _ h => h) (Or.inl ⟨by rfl, fun w1 hS => ?_⟩) ?_
        · (try dsimp only at hS)
          go_simp
        simp only [Act.put, List.setIfInBounds_toArray, List.set_cons_zero, List.set_cons_succ]
        refine wpG_take (i := 2) 5 (v := .pointer (some ⟨g, off + k * 3, none⟩)) rfl (by kernel_rfl) (by kernel_rfl) (by kernel_rfl) (by decide) (by kernel_rfl) (by kernel_rfl) (fun _ _ _ h => h) (Or.inl ⟨by rfl, fun w1 hS => ?_⟩) ?_
        · (try dsimp only at hS)
          go_simp
        simp only [Act.put, List.setIfInBounds_toArray, List.set_cons_zero, List.set_cons_succ]
        refine wpG_take (i := 3) 5 (v := .pointer (some ⟨g, off + k * 3, none⟩)) rfl (by kernel_rfl) (by kernel_rfl) (by kernel_rfl) (by decide) (by kernel_rfl) (by kernel_rfl) (fun _ _ _ h => h) (Or.inl ⟨by rfl, fun w1 hS => ?_⟩) ?_
        · (try dsimp only at hS)
          go_simp
        simp only [Act.put, List.setIfInBounds_toArray, List.set_cons_zero, List.set_cons_succ]
        refine wpG_take (i := 4) 5 (v := .int .i64 kd) rfl (by kernel_rfl) (by kernel_rfl) (by kernel_rfl) (by decide) (by kernel_rfl) (by kernel_rfl) (fun _ _ _ h => h) (Or.inl ⟨by rfl, fun w1 hS => ?_⟩) ?_
        · (try dsimp only at hS)
          go_simp
        simp only [Act.put, List.setIfInBounds_toArray, List.set_cons_zero, List.set_cons_succ]
        refine wpG_take (i := 5) 5 (v := .slice (some ⟨g, off, none⟩) L.length cap) rfl (by kernel_rfl) (by kernel_rfl) (by kernel_rfl) (by decide) (by kernel_rfl) (by kernel_rfl) (fun _ _ _ h => h) (Or.inl ⟨by rfl, fun w1 hS => ?_⟩) ?_
        · (try dsimp only at hS)
          go_simp
        simp only [Act.put, List.setIfInBounds_toArray, List.set_cons_zero, List.set_cons_succ]
        refine wpG_take (i := 6) 5 (v := .int .i64 k) rfl (by kernel_rfl) (by kernel_rfl) (by kernel_rfl) (by decide) (by kernel_rfl) (by kernel_rfl) (fun _ _ _ h => h) (Or.inl ⟨by rfl, fun w1 hS => ?_⟩) ?_
        · (try dsimp only at hS)
          go_simp
        simp only [Act.put, List.setIfInBounds_toArray, List.set_cons_zero, List.set_cons_succ]
        refine wpG_take (i := 7) 5 (v := .pointer (some ⟨g, off + k * 3, none⟩)) rfl (by kernel_rfl) (by kernel_rfl) (by kernel_rfl) (by decide) (by kernel_rfl) (by kernel_rfl) (fun _ _ _ h => h) (Or.inl ⟨by rfl, fun w1 hS => ?_⟩) ?_
        · (try dsimp only at hS)
          go_simp
        simp only [Act.put, List.setIfInBounds_toArray, List.set_cons_zero, List.set_cons_succ]
        refine wpG_take (i := 8) 5 (v := .pointer (some ⟨g, off + k * 3 + 1, none⟩)) rfl (by kernel_rfl) (by kernel_rfl) (by kernel_rfl) (by decide) (by kernel_rfl) (by kernel_rfl) (fun _ _ _ h => h) (Or.inl ⟨by rfl, fun w1 hS => ?_⟩) ?_
        · (try dsimp only at hS)
          go_simp
        simp only [Act.put, List.setIfInBounds_toArray, List.set_cons_zero, List.set_cons_succ]
        refine wpG_take (i := 9) 5 (v := .string nm) rfl (by kernel_rfl) (by kernel_rfl) (by kernel_rfl) (by decide) (by kernel_rfl) (by kernel_rfl) (fun _ _ _ h => h) (Or.inl ⟨by rfl, fun w1 hS => ?_⟩) ?_
        · (try dsimp only at hS)
          go_simp
        simp only [Act.put, List.setIfInBounds_toArray, List.set_cons_zero, List.set_cons_succ]
        refine wpG_take (i := 10) 5 (v := .string (fewB nm)) rfl (by kernel_rfl) (by kernel_rfl) (by kernel_rfl) (by decide) (by kernel_rfl) (by kernel_rfl) (fun _ _ _ h => h) (Or.inl ⟨by rfl, fun w1 hS => ?_⟩) ?_
        · (try dsimp only at hS)
          go_simp
          exact calls_grow_same hS (CN _).out
        simp only [Act.put, List.setIfInBounds_toArray, List.set_cons_zero, List.set_cons_succ]
        refine wpG_take (i := 11) 5 (v := .agg #[.int .i64 kd, .string (fewB nm), .slice none 0 0]) rfl (by kernel_rfl) (by kernel_rfl) (by kernel_rfl) (by decide) (by kernel_rfl) (by kernel_rfl) (fun _ _ _ h => h) (Or.inl ⟨by rfl, fun w1 hS => ?_⟩) ?_
        · (try dsimp only at hS)
          go_simp
        simp only [Act.put, List.setIfInBounds_toArray, List.set_cons_zero, List.set_cons_succ]
        clear m0 m1 CN
        refine wpG_ready (rs := [12]) (by kernel_rfl) (by simp) (fun wb hGb hSb i hi => ?_)
        obtain rfl : i = 12 := by simpa using hi
        clear hi
        refine wpOp_step rfl (by rfl) (fun K' hK' => ?_)
        replace hK' := hide hK'
        go_simp
        refine hK'.out _ _ (wpG_kept (by decide) (hSb.alloc hSb.size _) ?_)
        clear hK' K' hGb
        refine wpG_ready (rs := [13]) (by kernel_rfl) (by simp) (fun wc hGc hSc i hi => ?_)
        obtain rfl : i = 13 := by simpa using hi
        clear hi
        have hz := box_block hGc
        have hbc := below_box hGc
        obtain ⟨z0, z1, z2⟩ : _ ∧ _ ∧ _ := ⟨cellN hz (i := 0) rfl, cellN hz (i := 1) rfl, cellN hz (i := 2) rfl⟩
        have lz := liveN hz
        refine wpOp_step rfl (by rfl) (fun K' hK' => ?_)
        go_simp
        refine hK' _ _ (wpG_past (by decide) ?_)
        clear hK' K' z0 z1 z2 lz hGc hSc
        have KB := setL_all [.int .i64 kd, .string (fewB nm), .slice none 0 0] hz rfl
        have KS := setL_below (w := wb) (B := wb.heap.size) (g := wb.heap.size) (Nat.le_refl _) [.int .i64 kd, .string (fewB nm), .slice none 0 0] wc 0 hbc
        refine wpAny_end (by kernel_rfl) ?_
        change Exit.then _ _ _ _ (setL wc wb.heap.size 0 [.int .i64 kd, .string (fewB nm), .slice none 0 0])
        generalize setL wc wb.heap.size 0 [.int .i64 kd, .string (fewB nm), .slice none 0 0] = w2 at *
        clear hz hbc wc
        have HBB := hide (bb2 hB hSb)
        have KBH := hide KB
        have KSH := hide KS
        clear KB KS
        generalize hBn : wb.heap.size = B at *
        go_wp2_with fail
        go_loopw [6] (fun i wr => ∃ (j : Nat) (ts : List ByteArray) (xa : Option Addr) (xc : Nat), j ≤ vs.length ∧ j ≤ 9 ∧ i = .int .i64 j ∧ Hid (ts = (vs.take j).map fewB) ∧ wr.heap[B]? = some (.cells #[.int .i64 kd, .string (fewB nm), .slice xa ts.length xc] 105) ∧ wr.ownsRow (B + 1) 9 ES.n (.slice xa ts.length xc) ts.length (ES.flat ts) ∧ Below B wb wr) (fun i _ => 9 - (intOf i).toNat)
        case atStart => exact ⟨0, [], none, 0, Nat.zero_le _, by omega, rfl, rfl, KBH.out, World.ownsRow_nil _ _ _ _, KSH.out⟩
        case round =>
          obtain ⟨j, ts, a1, c1, hj, hj9, rfl, hts, hblk, hrow, hI⟩ := hrel
          have hch : Below w.heap.size w wr := (HBB.out).trans (hI.mono (by rw [← hBn]; exact HBB.out.size))
          have hwB : w.heap.size ≤ B := by rw [← hBn]; exact HBB.out.size
          have htl : ts.length = j := by
            rw [hts.out]
            simp
            omega
          have HTL := hide htl
          clear htl
          obtain ⟨q0, q1, q2⟩ := HCE.out wr hch
          clear q0 q1
          by_cases hjl : j < vs.length
          · have hjl' : (j : Int) < (vs.length : Int) := by omega
            by_cases hj9' : j < 9
            · have hj9'' : (j : Int) < 9 := by omega
              obtain ⟨gx, ox, rfl, hgx, scell⟩ := HVS.out j hjl
              have rs := HRV.out _ (List.getElem_mem hjl)
              have HTS : Hid (ts ++ [fewB vs[j]] = (vs.take (j + 1)).map fewB) := by
                unfold Hid
                rw [List.take_succ_eq_append_getElem hjl, List.map_append, ← hts.out]
                rfl
              generalize vs[j] = s at *
              have hch2 : ∀ W, Below (B + 1) wr W → Below w.heap.size w W := fun W hW => hch.trans (hW.mono (by omega))
              have n1 : ∀ W, Below (B + 1) wr W → W.cell? ⟨B, 2, none⟩ = some (.slice a1 ts.length c1) := fun W hW => cellN ((hW.block B (by omega)).trans hblk) rfl
              have n2 := fun W (hW : Below (B + 1) wr W) => (HCE.out W (hch2 W hW)).2.2
              have n3 := fun W (hW : Below (B + 1) wr W) => scell W (hch2 W hW)
              have NB := hide (fun W (hW : Below (B + 1) wr W) => (hW.block B (by omega)).trans hblk)
              have CS := fun W => hide (fewB_any s W rs)
              have hBsz : B + 1 ≤ wr.heap.size := lt_blk hblk
              have HROW := hide hrow
              clear scell rs hch2 hrow hblk
              go_wp2_with fail
              refine wp_region_G 14 (fun W => Below (B + 1) wr W) (by kernel_rfl) ((Below.refl _ _).drew) ?_
              refine wpG_take (i := 0) 5 (v := .pointer (some ⟨B, 2, none⟩)) rfl (by kernel_rfl) (by kernel_rfl) (by kernel_rfl) (by decide) (by kernel_rfl) (by kernel_rfl) (fun _ _ _ h => h) (Or.inl ⟨by rfl, fun w1 hS => ?_⟩) ?_
              · (try dsimp only at hS)
                go_simp
              simp only [Act.put, List.setIfInBounds_toArray, List.set_cons_zero, List.set_cons_succ]
              refine wpG_take (i := 1) 5 (v := .slice a1 ts.length c1) rfl (by kernel_rfl) (by kernel_rfl) (by kernel_rfl) (by decide) (by kernel_rfl) (by kernel_rfl) (fun _ _ _ h => h) (Or.inl ⟨by rfl, fun w1 hS => ?_⟩) ?_
              · (try dsimp only at hS)
                go_simp
              simp only [Act.put, List.setIfInBounds_toArray, List.set_cons_zero, List.set_cons_succ]
              refine wpG_take (i := 2) 5 (v := .slice (some ⟨g, off, none⟩) L.length cap) rfl (by kernel_rfl) (by kernel_rfl) (by kernel_rfl) (by decide) (by kernel_rfl) (by kernel_rfl) (fun _ _ _ h => h) (Or.inl ⟨by rfl, fun w1 hS => ?_⟩) ?_
              · (try dsimp only at hS)
                go_simp
              simp only [Act.put, List.setIfInBounds_toArray, List.set_cons_zero, List.set_cons_succ]
              refine wpG_take (i := 3) 5 (v := .int .i64 k) rfl (by kernel_rfl) (by kernel_rfl) (by kernel_rfl) (by decide) (by kernel_rfl) (by kernel_rfl) (fun _ _ _ h => h) (Or.inl ⟨by rfl, fun w1 hS => ?_⟩) ?_
              · (try dsimp only at hS)
                go_simp
              simp only [Act.put, List.setIfInBounds_toArray, List.set_cons_zero, List.set_cons_succ]
              refine wpG_take (i := 4) 5 (v := .pointer (some ⟨g, off + k * 3, none⟩)) rfl (by kernel_rfl) (by kernel_rfl) (by kernel_rfl) (by decide) (by kernel_rfl) (by kernel_rfl) (fun _ _ _ h => h) (Or.inl ⟨by rfl, fun w1 hS => ?_⟩) ?_
              · (try dsimp only at hS)
                go_simp
              simp only [Act.put, List.setIfInBounds_toArray, List.set_cons_zero, List.set_cons_succ]
              refine wpG_take (i := 5) 5 (v := .pointer (some ⟨g, off + k * 3 + 2, none⟩)) rfl (by kernel_rfl) (by kernel_rfl) (by kernel_rfl) (by decide) (by kernel_rfl) (by kernel_rfl) (fun _ _ _ h => h) (Or.inl ⟨by rfl, fun w1 hS => ?_⟩) ?_
              · (try dsimp only at hS)
                go_simp
              simp only [Act.put, List.setIfInBounds_toArray, List.set_cons_zero, List.set_cons_succ]
              refine wpG_take (i := 6) 5 (v := .slice (some ⟨gx, ox, none⟩) vs.length xc) rfl (by kernel_rfl) (by kernel_rfl) (by kernel_rfl) (by decide) (by kernel_rfl) (by kernel_rfl) (fun _ _ _ h => h) (Or.inl ⟨by rfl, fun w1 hS => ?_⟩) ?_
              · (try dsimp only at hS)
                go_simp
              simp only [Act.put, List.setIfInBounds_toArray, List.set_cons_zero, List.set_cons_succ]
              refine wpG_take (i := 7) 5 (v := .int .i64 j) rfl (by kernel_rfl) (by kernel_rfl) (by kernel_rfl) (by decide) (by kernel_rfl) (by kernel_rfl) (fun _ _ _ h => h) (Or.inl ⟨by rfl, fun w1 hS => ?_⟩) ?_
              · (try dsimp only at hS)
                go_simp
              simp only [Act.put, List.setIfInBounds_toArray, List.set_cons_zero, List.set_cons_succ]
              refine wpG_take (i := 8) 5 (v := .pointer (some ⟨gx, ox + j, none⟩)) rfl (by kernel_rfl) (by kernel_rfl) (by kernel_rfl) (by decide) (by kernel_rfl) (by kernel_rfl) (fun _ _ _ h => h) (Or.inl ⟨by rfl, fun w1 hS => ?_⟩) ?_
              · (try dsimp only at hS)
                go_simp
              simp only [Act.put, List.setIfInBounds_toArray, List.set_cons_zero, List.set_cons_succ]
              refine wpG_take (i := 9) 5 (v := .string s) rfl (by kernel_rfl) (by kernel_rfl) (by kernel_rfl) (by decide) (by kernel_rfl) (by kernel_rfl) (fun _ _ _ h => h) (Or.inl ⟨by rfl, fun w1 hS => ?_⟩) ?_
              · (try dsimp only at hS)
                go_simp
              simp only [Act.put, List.setIfInBounds_toArray, List.set_cons_zero, List.set_cons_succ]
              refine wpG_take (i := 10) 5 (v := .string (fewB s)) rfl (by kernel_rfl) (by kernel_rfl) (by kernel_rfl) (by decide) (by kernel_rfl) (by kernel_rfl) (fun _ _ _ h => h) (Or.inl ⟨by rfl, fun w1 hS => ?_⟩) ?_
              · (try dsimp only at hS)
                go_simp
                exact calls_grow_same hS (CS _).out
              simp only [Act.put, List.setIfInBounds_toArray, List.set_cons_zero, List.set_cons_succ]
              clear n1 n2 n3 CS
              refine wpG_ready (rs := [11]) (by kernel_rfl) (by simp) (fun wd hGd hSd i hi => ?_)
              obtain rfl : i = 11 := by simpa using hi
              clear hi
              refine wpOp_step rfl (by rfl) (fun K' hK' => ?_)
              replace hK' := hide hK'
              go_simp
              refine hK'.out _ _ (wpG_kept (by decide) (hSd.alloc (by have := hSd.size; omega) _) ?_)
              clear hK' K'
              refine wpG_ready (rs := [12]) (by kernel_rfl) (by simp) (fun we hGe hSe i hi => ?_)
              obtain rfl : i = 12 := by simpa using hi
              clear hi
              have RW : we.ownsRow (B + 1) 9 ES.n (.slice a1 ts.length c1) ts.length (ES.flat ts) := ownsRow_below (ownsRow_below (ownsRow_below HROW.out ((Below.refl _ _).drew)) hGd) (below_box hGe)
              have SLW : Sl ES we (.slice (some ⟨wd.heap.size, 0, none⟩) 1 1) [fewB s] := Sl.at_block (E := ES) (x := fewB s) (box_block hGe) trivial
              refine wpOp_step rfl (by rfl) (fun K' hK' => ?_)
              refine wp_append_sl (E := ES) 32 9 _ 16 Tryz.underlying32 Tryz.infoStr rfl (by decide) _ _ _ rfl (B + 1) _ _ _ rfl RW _ _ rfl SLW (by have := HTL.out; simp; omega) (by have := hSe.size; omega) ?_
              intro v5 w5 hr5 hg5
              have hS5 : Below (B + 1) wr w5 := hSe.grown hg5 (by have := hSe.size; omega) (fun j e => ownBlock_ge RW e)
              obtain ⟨a5, c5, hv5⟩ := row_form hr5
              subst hv5
              refine hK' _ _ (wpG_kept (by decide) hS5 ?_)
              clear hK' K' hGd hSd hGe hSe RW SLW hg5
              try simp only [Act.put, List.setIfInBounds_toArray, List.set_cons_zero, List.set_cons_succ]
              refine wpG_take (i := 13) 5 (v := .pointer (some ⟨B, 2, none⟩)) rfl (by kernel_rfl) (by kernel_rfl) (by kernel_rfl) (by decide) (by kernel_rfl) (by kernel_rfl) (fun _ _ _ h => h) (Or.inl ⟨by rfl, fun w1 hS => ?_⟩) ?_
              · (try dsimp only at hS)
                go_simp
              simp only [Act.put, List.setIfInBounds_toArray, List.set_cons_zero, List.set_cons_succ]
              refine wpG_ready (rs := [14]) (by kernel_rfl) (by simp) (fun wf hGf hSf i hi => ?_)
              obtain rfl : i = 14 := by simpa using hi
              clear hi
              have hz := NB.out wf hSf
              have z2 := cellN hz (i := 2) rfl
              have lz := liveN hz
              refine wpOp_step rfl (by rfl) (fun K' hK' => ?_)
              go_simp
              refine hK' _ _ (wpG_past (by decide) ?_)
              clear hK' K' z2 lz
              have KB := setL_at (g := B) (t := 105) [.slice a5 (ts.length + 1) c5] [.int .i64 kd, .string (fewB nm)] [.slice a1 ts.length c1] wf hz rfl
              have KS := setL_below (w := wb) (B := B) (g := B) (Nat.le_refl _) [.slice a5 (ts.length + 1) c5] wf 2 (hI.trans (hSf.mono (by omega)))
              have KR := row_setLb (W := wf) (g := B) (k := 2) (cs := [.slice a5 (ts.length + 1) c5]) (ownsRow_below hr5 hGf) (by omega)
              refine wpAny_end (by kernel_rfl) ?_
              change Exit.inBlock _ _ _ _ (setL wf B 2 [.slice a5 (ts.length + 1) c5])
              change (setL wf B 2 [.slice a5 (ts.length + 1) c5]).heap[B]? = _ at KB
              generalize setL wf B 2 [.slice a5 (ts.length + 1) c5] = w6 at *
              clear hz hGf hSf hr5 hS5 NB HROW
              go_wp2_with fail
              exact ⟨⟨j + 1, ts ++ [fewB s], a5, c5, by omega, by omega, by go_num, HTS, by rw [List.length_append]; exact KB, by rw [List.length_append]; exact KR, KS⟩, by simp [intOf]; omega⟩
            · have hj9'' : ¬ (j : Int) < 9 := by omega
              have hts2 : Hid (ts = (vs.take 9).map fewB) := by
                unfold Hid
                rw [hts.out, show j = 9 by omega]
              have hSB : Below wo.heap.size wo wr := hSb.trans (hI.mono (by rw [← hBn]; exact hSb.size))
              have HR2 := hide (ownsRow_below HR.out hSB)
              have HO2 : Hid (∀ x ∈ L', x.own wr) := fun x hx => (hown.out x hx).below hSB
              have hB2 := bb2 hB hSB
              have HY := hide (HSN.out ⟨⟨kd, fewB nm, ts⟩, a1, c1⟩ (by rw [hts2.out]; rfl))
              have OWY : NV.own ⟨⟨kd, fewB nm, ts⟩, a1, c1⟩ wr := ⟨_, hrow⟩
              have OWYH := hide OWY
              obtain ⟨y0, y1, y2⟩ : _ ∧ _ ∧ _ := ⟨cellN hblk (i := 0) rfl, cellN hblk (i := 1) rfl, cellN hblk (i := 2) rfl⟩
              have hbs := hB2.size
              have ba := (Below.refl wr.heap.size wr).alloc (Nat.le_refl _) (.cells #[.int .i64 kd, .string (fewB nm), .slice a1 ts.length c1] 105)
              clear hblk hrow OWY
              go_wp2_with (at_builtin; refine wpList_append_sl (E := EN) 65 105 _ 48 Tryz.underlying65 Tryz.infoNeed rfl (by decide) _ _ _ rfl (by rfl) w.heap.size _ _ _ rfl (ownsRow_below HR2.out ba) _ _ rfl (Sl.at_block (E := EN) (x := ⟨⟨kd, fewB nm, ts⟩, a1, c1⟩) (alloc_new wr _) (OWYH.out.at_.below ba)) (by simp; omega) (by simp; omega) ?_; intro v' w3 hown' hgrow)
              have HR3 := ownsRow_below HR2.out ba
              refine ⟨⟨k + 1, L' ++ [⟨⟨kd, fewB nm, ts⟩, a1, c1⟩], by omega, by omega, by go_num, HY, fun x hx => ?_, by rw [List.length_append]; exact hown', ?_⟩, by simp [intOf]; omega⟩
              · rcases List.mem_append.1 hx with h1 | h1
                · exact ((HO2.out x h1).below ba).grown HR3 hgrow
                · rw [List.mem_singleton] at h1
                  subst h1
                  exact (OWYH.out.below ba).grown HR3 hgrow
              · exact (hB2.alloc hB2.size _).grown hgrow (by simp; omega) (fun j e => ownBlock_ge HR3 e)
          · have hjl' : ¬ (j : Int) < (vs.length : Int) := by omega
            have hts2 : Hid (ts = (vs.take 9).map fewB) := by
              unfold Hid
              rw [hts.out, List.take_of_length_le (by omega), List.take_of_length_le (by omega)]
            have hSB : Below wo.heap.size wo wr := hSb.trans (hI.mono (by rw [← hBn]; exact hSb.size))
            have HR2 := hide (ownsRow_below HR.out hSB)
            have HO2 : Hid (∀ x ∈ L', x.own wr) := fun x hx => (hown.out x hx).below hSB
            have hB2 := bb2 hB hSB
            have HY := hide (HSN.out ⟨⟨kd, fewB nm, ts⟩, a1, c1⟩ (by rw [hts2.out]; rfl))
            have OWY : NV.own ⟨⟨kd, fewB nm, ts⟩, a1, c1⟩ wr := ⟨_, hrow⟩
            have OWYH := hide OWY
            obtain ⟨y0, y1, y2⟩ : _ ∧ _ ∧ _ := ⟨cellN hblk (i := 0) rfl, cellN hblk (i := 1) rfl, cellN hblk (i := 2) rfl⟩
            have hbs := hB2.size
            have ba := (Below.refl wr.heap.size wr).alloc (Nat.le_refl _) (.cells #[.int .i64 kd, .string (fewB nm), .slice a1 ts.length c1] 105)
            clear hblk hrow OWY
            go_wp2_with (at_builtin; refine wpList_append_sl (E := EN) 65 105 _ 48 Tryz.underlying65 Tryz.infoNeed rfl (by decide) _ _ _ rfl (by rfl) w.heap.size _ _ _ rfl (ownsRow_below HR2.out ba) _ _ rfl (Sl.at_block (E := EN) (x := ⟨⟨kd, fewB nm, ts⟩, a1, c1⟩) (alloc_new wr _) (OWYH.out.at_.below ba)) (by simp; omega) (by simp; omega) ?_; intro v' w3 hown' hgrow)
            have HR3 := ownsRow_below HR2.out ba
            refine ⟨⟨k + 1, L' ++ [⟨⟨kd, fewB nm, ts⟩, a1, c1⟩], by omega, by omega, by go_num, HY, fun x hx => ?_, by rw [List.length_append]; exact hown', ?_⟩, by simp [intOf]; omega⟩
            · rcases List.mem_append.1 hx with h1 | h1
              · exact ((HO2.out x h1).below ba).grown HR3 hgrow
              · rw [List.mem_singleton] at h1
                subst h1
                exact (OWYH.out.below ba).grown HR3 hgrow
            · exact (hB2.alloc hB2.size _).grown hgrow (by simp; omega) (fun j e => ownBlock_ge HR3 e)
      · have h9' : ¬ (k : Int) < 9 := by omega
        have HE := hide (HEND.out (by omega))
        go_wp2_with fail
        go_ret
        exact ⟨_, rfl, L', HE.out, HR.out, hown.out, hB⟩
    · have hlt' : ¬ (k : Int) < (L.length : Int) := by omega
      have HE := hide (HEND.out (by omega))
      go_wp2_with fail
      go_ret
      exact ⟨_, rfl, L', HE.out, HR.out, hown.out, hB⟩

end Go.Proofs.YthnodpdiocppgaaGreatDoor
namespace Go.Proofs.YthnodpdiocppgaaGreatDoor
set_option maxRecDepth 20000
open Go Go.RowKit Go.Shelf Go.ChangeShapes Go.WideShapes Go.Deep

theorem row_set5 {W : World} {b0 e0 s n g : Nat} {u : Value} {xs : List Value} {t : Nat} {x1 x2 x3 x4 x5 a b c d e : Value} (h : W.ownsRow b0 e0 s u n xs) (hz : W.heap[g]? = some (.cells #[x1, x2, x3, x4, x5] t)) (hne : e0 ≠ t) : (set5 W g a b c d e).ownsRow b0 e0 s u n xs := by
  obtain ⟨h1, h2⟩ := h
  refine ⟨h1, ?_⟩
  rcases h2 with h2 | ⟨g', cap, cur, hv, hb, hh, r⟩
  · exact .inl h2
  · refine .inr ⟨g', cap, cur, hv, hb, ?_, r⟩
    rw [set5_far (fun e1 => ?_)]
    · exact hh
    · rw [e1, hz] at hh
      injection hh with hh
      injection hh with _ hh _
      exact hne hh.symm

/-- its lists are rows of their own -/
def MV.own (x : MV) (w : World) : Prop := (∃ b, w.ownsRow b 96 2 x.vh x.m.head.length (flat x.m.head)) ∧ ∃ b, w.ownsRow b 96 2 x.vq x.m.query.length (flat x.m.query)
theorem MV.own.at_ {x : MV} {w : World} (h : x.own w) : x.at_ w := by
  obtain ⟨⟨b, h1⟩, c, h2⟩ := h
  exact ⟨Prs.of_row rfl h1, Prs.of_row rfl h2⟩
theorem MV.own.below {x : MV} {w w' : World} (h : x.own w) (hb : Below w.heap.size w w') : x.own w' := by
  obtain ⟨⟨b, h1⟩, c, h2⟩ := h
  exact ⟨⟨b, ownsRow_below h1 hb⟩, c, ownsRow_below h2 hb⟩
theorem MV.own.grown {x : MV} {w w' : World} (h : x.own w) {b' n' : Nat} {v' : Value} {ys : List Value} (h' : w.ownsRow b' 88 5 v' n' ys) (hg : w.grownBy w' v'.ownBlock) : x.own w' := by
  obtain ⟨⟨b, h1⟩, c, h2⟩ := h
  exact ⟨⟨b, row_apart h1 h' (by decide) hg⟩, c, row_apart h2 h' (by decide) hg⟩

/-- a match as it came in -/
structure RawM (m : MB) : Prop where
  val : m.val.size ≤ maxLen
  meth : m.meth.size ≤ maxLen
  head : ∀ p ∈ m.head, okP p
  query : ∀ p ∈ m.query, okP p
def fewM (m : MB) : MB := ⟨m.kind, fewB m.val, fewB m.meth, fewB2 m.head, fewB2 m.query⟩
theorem fewM_ok (m : MB) : OkM (fewM m) := ⟨fewB_le _, fewB_le _, bfew_len _, bfew_len _, bfew_ok _, bfew_ok _⟩
/-- a request, with where its lists lie -/
structure RV where
  r : RB
  aq : Option Addr
  cq : Nat
  ah : Option Addr
  ch : Nat
abbrev RV.vq (x : RV) : Value := .slice x.aq x.r.query.length x.cq
abbrev RV.vh (x : RV) : Value := .slice x.ah x.r.head.length x.ch
def RV.at_ (x : RV) (w : World) : Prop := Prs w x.vq x.r.query ∧ Prs w x.vh x.r.head
def RV.own (x : RV) (w : World) : Prop := (∃ b, w.ownsRow b 96 2 x.vq x.r.query.length (flat x.r.query)) ∧ ∃ b, w.ownsRow b 96 2 x.vh x.r.head.length (flat x.r.head)
theorem RV.own.at_ {x : RV} {w : World} (h : x.own w) : x.at_ w := by
  obtain ⟨⟨b, h1⟩, c, h2⟩ := h
  exact ⟨Prs.of_row rfl h1, Prs.of_row rfl h2⟩
theorem RV.own.below {x : RV} {w w' : World} (h : x.own w) (hb : Below w.heap.size w w') : x.own w' := by
  obtain ⟨⟨b, h1⟩, c, h2⟩ := h
  exact ⟨⟨b, ownsRow_below h1 hb⟩, c, ownsRow_below h2 hb⟩
theorem RV.at_.below {x : RV} {w w' : World} (h : x.at_ w) (hb : Below w.heap.size w w') : x.at_ w' := ⟨h.1.below hb, h.2.below hb⟩

theorem RV.own.set5 {x : RV} {W : World} {g t : Nat} {x1 x2 x3 x4 x5 a b c d e : Value} (h : x.own W) (hz : W.heap[g]? = some (.cells #[x1, x2, x3, x4, x5] t)) (hne : 96 ≠ t) : x.own (Go.Proofs.YthnodpdiocppgaaGreatDoor.set5 W g a b c d e) := by
  obtain ⟨⟨b, h1⟩, c, h2⟩ := h
  exact ⟨⟨b, row_set5 h1 hz hne⟩, c, row_set5 h2 hz hne⟩
theorem box5z {w W : World} {o : Obj} {a b c d e : Value} {t : Nat} (h : Below ((w.alloc o).alloc (.cells #[a, b, c, d, e] t)).heap.size ((w.alloc o).alloc (.cells #[a, b, c, d, e] t)) W) : W.heap[w.heap.size + 1]? = some (.cells #[a, b, c, d, e] t) := by
  have := box_block h
  simpa using this

theorem MV.own.set5 {x : MV} {W : World} {g t : Nat} {x1 x2 x3 x4 x5 a b c d e : Value} (h : x.own W) (hz : W.heap[g]? = some (.cells #[x1, x2, x3, x4, x5] t)) (hne : 96 ≠ t) : x.own (Go.Proofs.YthnodpdiocppgaaGreatDoor.set5 W g a b c d e) := by
  obtain ⟨⟨b, h1⟩, c, h2⟩ := h
  exact ⟨⟨b, row_set5 h1 hz hne⟩, c, row_set5 h2 hz hne⟩

set_option maxHeartbeats 1600000 in
theorem mfew_any (m : MB) (vh vq : Value) (w : World) (raw : RawM m) (hh : Prs w vh m.head) (hq : Prs w vq m.query) :
    Calls Tryz.prog 44 #[mV m vh vq] w fun e w' => ∃ x : MV, e = .returned (mV x.m x.vh x.vq) ∧ x.m = fewM m ∧ x.own w' ∧ Below w.heap.size w w' := by
  obtain ⟨rv, rm, rh, rq⟩ := raw
  obtain ⟨k, v, t, hd, qu⟩ := m
  dsimp only at *
  have C2 := fun W => hide (pfew_any k v W rv)
  have C5 := fun W => hide (fewB_any t W rm)
  have C8 := fun W (h : Below w.heap.size w W) => hide (bfew_any vh hd W (hh.below h) rh)
  have C11 := fun W (h : Below w.heap.size w W) => hide (bfew_any vq qu W (hq.below h) rq)
  clear rv rm rh rq hh hq
  obtain ⟨base, hbase⟩ : ∃ z, z = ((w.alloc (.cells #[.int .i64 k, .string v, .string t, vh, vq] 88)).alloc (.cells #[.int .i64 0, .string ⟨#[]⟩, .string ⟨#[]⟩, .slice none 0 0, .slice none 0 0] 88)) := ⟨_, rfl⟩
  have HB := fun W (h : Below base.heap.size base W) => (box5 (below_box (by rw [← hbase]; exact h)) : W.cell? ⟨w.heap.size, 0, none⟩ = some (.int .i64 k) ∧ W.cell? ⟨w.heap.size, 1, none⟩ = some (.string v) ∧ W.cell? ⟨w.heap.size, 2, none⟩ = some (.string t) ∧ W.cell? ⟨w.heap.size, 3, none⟩ = some vh ∧ W.cell? ⟨w.heap.size, 4, none⟩ = some vq)
  have HZ := fun W (h : Below base.heap.size base W) => (box5z (by rw [← hbase]; exact h) : W.heap[w.heap.size + 1]? = some (.cells #[.int .i64 0, .string ⟨#[]⟩, .string ⟨#[]⟩, .slice none 0 0, .slice none 0 0] 88))
  have B0 : Below w.heap.size w base := by rw [hbase]; exact ((Below.refl _ _).alloc (Nat.le_refl _) _).alloc (by simp) _
  have m0 := fun W h => (HB W h).1
  have m1 := fun W h => (HB W h).2.1
  have m2 := fun W h => (HB W h).2.2.1
  have m3 := fun W h => (HB W h).2.2.2.1
  have m4 := fun W h => (HB W h).2.2.2.2
  have HZH := hide HZ
  clear HB HZ
  go_enter Tryz.func44, Tryz.ntmps44
  go_wp2_with fail
  rw [← hbase]
  clear hbase
  refine wp_region_G 13 (fun w' => Below base.heap.size base w') (by kernel_rfl) ((Below.refl _ _).drew) ?_
  refine wpG_take (i := 0) 5 (v := .pointer (some ⟨w.heap.size, 0, none⟩)) rfl (by kernel_rfl) (by kernel_rfl) (by kernel_rfl) (by decide) (by kernel_rfl) (by kernel_rfl) (fun _ _ _ h => h) (Or.inl ⟨by rfl, fun w1 hS => ?_⟩) ?_
  · (try dsimp only at hS)
    go_simp
  simp only [Act.put, List.setIfInBounds_toArray, List.set_cons_zero, List.set_cons_succ]
  refine wpG_take (i := 1) 5 (v := .agg #[.int .i64 k, .string v]) rfl (by kernel_rfl) (by kernel_rfl) (by kernel_rfl) (by decide) (by kernel_rfl) (by kernel_rfl) (fun _ _ _ h => h) (Or.inl ⟨by rfl, fun w1 hS => ?_⟩) ?_
  · (try dsimp only at hS)
    go_simp
  simp only [Act.put, List.setIfInBounds_toArray, List.set_cons_zero, List.set_cons_succ]
  refine wpG_take (i := 3) 5 (v := .pointer (some ⟨w.heap.size, 2, none⟩)) rfl (by kernel_rfl) (by kernel_rfl) (by kernel_rfl) (by decide) (by kernel_rfl) (by kernel_rfl) (fun _ _ _ h => h) (Or.inl ⟨by rfl, fun w1 hS => ?_⟩) ?_
  · (try dsimp only at hS)
    go_simp
  simp only [Act.put, List.setIfInBounds_toArray, List.set_cons_zero, List.set_cons_succ]
  refine wpG_take (i := 4) 5 (v := .string t) rfl (by kernel_rfl) (by kernel_rfl) (by kernel_rfl) (by decide) (by kernel_rfl) (by kernel_rfl) (fun _ _ _ h => h) (Or.inl ⟨by rfl, fun w1 hS => ?_⟩) ?_
  · (try dsimp only at hS)
    go_simp
  simp only [Act.put, List.setIfInBounds_toArray, List.set_cons_zero, List.set_cons_succ]
  refine wpG_take (i := 6) 5 (v := .pointer (some ⟨w.heap.size, 3, none⟩)) rfl (by kernel_rfl) (by kernel_rfl) (by kernel_rfl) (by decide) (by kernel_rfl) (by kernel_rfl) (fun _ _ _ h => h) (Or.inl ⟨by rfl, fun w1 hS => ?_⟩) ?_
  · (try dsimp only at hS)
    go_simp
  simp only [Act.put, List.setIfInBounds_toArray, List.set_cons_zero, List.set_cons_succ]
  refine wpG_take (i := 7) 5 (v := vh) rfl (by kernel_rfl) (by kernel_rfl) (by kernel_rfl) (by decide) (by kernel_rfl) (by kernel_rfl) (fun _ _ _ h => h) (Or.inl ⟨by rfl, fun w1 hS => ?_⟩) ?_
  · (try dsimp only at hS)
    go_simp
  simp only [Act.put, List.setIfInBounds_toArray, List.set_cons_zero, List.set_cons_succ]
  refine wpG_take (i := 9) 5 (v := .pointer (some ⟨w.heap.size, 4, none⟩)) rfl (by kernel_rfl) (by kernel_rfl) (by kernel_rfl) (by decide) (by kernel_rfl) (by kernel_rfl) (fun _ _ _ h => h) (Or.inl ⟨by rfl, fun w1 hS => ?_⟩) ?_
  · (try dsimp only at hS)
    go_simp
  simp only [Act.put, List.setIfInBounds_toArray, List.set_cons_zero, List.set_cons_succ]
  refine wpG_take (i := 10) 5 (v := vq) rfl (by kernel_rfl) (by kernel_rfl) (by kernel_rfl) (by decide) (by kernel_rfl) (by kernel_rfl) (fun _ _ _ h => h) (Or.inl ⟨by rfl, fun w1 hS => ?_⟩) ?_
  · (try dsimp only at hS)
    go_simp
  simp only [Act.put, List.setIfInBounds_toArray, List.set_cons_zero, List.set_cons_succ]
  refine wpG_take (i := 2) 5 (v := .agg #[.int .i64 k, .string (fewB v)]) rfl (by kernel_rfl) (by kernel_rfl) (by kernel_rfl) (by decide) (by kernel_rfl) (by kernel_rfl) (fun _ _ _ h => h) (Or.inl ⟨by rfl, fun w1 hS => ?_⟩) ?_
  · (try dsimp only at hS)
    go_simp
    exact calls_grow hS (Nat.le_refl _) (C2 _).out
  simp only [Act.put, List.setIfInBounds_toArray, List.set_cons_zero, List.set_cons_succ]
  refine wpG_take (i := 5) 5 (v := .string (fewB t)) rfl (by kernel_rfl) (by kernel_rfl) (by kernel_rfl) (by decide) (by kernel_rfl) (by kernel_rfl) (fun _ _ _ h => h) (Or.inl ⟨by rfl, fun w1 hS => ?_⟩) ?_
  · (try dsimp only at hS)
    go_simp
    exact calls_grow_same hS (C5 _).out
  simp only [Act.put, List.setIfInBounds_toArray, List.set_cons_zero, List.set_cons_succ]
  clear m0 m1 m2 m3 m4 C2 C5
  refine wpG_ready (rs := [8]) (by kernel_rfl) (by simp) (fun W8 hG8 hS8 i hi => ?_)
  obtain rfl : i = 8 := by simpa using hi
  clear hi
  refine wpOp_step rfl (by rfl) (fun K' hK' => ?_)
  replace hK' := hide hK'
  go_simp
  refine ((C8 _ (B0.trans (hS8.mono B0.size))).out).mono ?_
  rintro e x8 ⟨u8, rfl, r8, hb8⟩
  have B8 := hS8.trans (hb8.mono hS8.size)
  obtain ⟨aa, ac, hu8⟩ := row_form r8
  subst hu8
  go_wp2_with fail
  refine hK'.out _ _ (wpG_kept (by decide) B8 ?_)
  clear hK' K' hG8 hS8 hb8
  refine wpG_ready (rs := [11]) (by kernel_rfl) (by simp) (fun W11 hG11 hS11 i hi => ?_)
  obtain rfl : i = 11 := by simpa using hi
  clear hi
  refine wpOp_step rfl (by rfl) (fun K' hK' => ?_)
  replace hK' := hide hK'
  go_simp
  refine ((C11 _ (B0.trans (hS11.mono B0.size))).out).mono ?_
  rintro e x11 ⟨u11, rfl, r11, hb11⟩
  have B11 := hS11.trans (hb11.mono hS11.size)
  obtain ⟨ba, bc, hu11⟩ := row_form r11
  subst hu11
  go_wp2_with fail
  refine hK'.out _ _ (wpG_kept (by decide) B11 ?_)
  replace r8 := ownsRow_below (ownsRow_below r8 hG11) hb11
  clear hK' K' hG11 hS11 hb11
  refine wpG_take (i := 12) 5 (v := .agg #[.int .i64 k, .string (fewB v), .string (fewB t), .slice aa (fewB2 hd).length ac, .slice ba (fewB2 qu).length bc]) rfl (by kernel_rfl) (by kernel_rfl) (by kernel_rfl) (by decide) (by kernel_rfl) (by kernel_rfl) (fun _ _ _ h => h) (Or.inl ⟨by rfl, fun w1 hS => ?_⟩) ?_
  · (try dsimp only at hS)
    go_simp
  simp only [Act.put, List.setIfInBounds_toArray, List.set_cons_zero, List.set_cons_succ]
  refine wpG_ready (rs := [13]) (by kernel_rfl) (by simp) (fun W hG hS i hi => ?_)
  obtain rfl : i = 13 := by simpa using hi
  clear hi
  have hz := HZH.out W hS
  have R8 := ownsRow_below r8 hG
  have R11 := ownsRow_below r11 hG
  have BB := B0.trans (hS.mono B0.size)
  obtain ⟨z0, z1, z2, z3, z4⟩ := cell5 hz
  have lz := live5 hz
  refine wpOp_step rfl (by rfl) (fun K' hK' => ?_)
  go_simp
  refine hK' _ _ (wpG_past (by decide) ?_)
  clear hK' K' z0 z1 z2 z3 z4 lz r8 r11 hG hS B8 B11 C8 C11
  have s1 := set5_at (a' := .int .i64 k) (b' := .string (fewB v)) (c' := .string (fewB t)) (d' := .slice aa (fewB2 hd).length ac) (e' := .slice ba (fewB2 qu).length bc) hz
  have S1 := set5_below (a := .int .i64 k) (b := .string (fewB v)) (c := .string (fewB t)) (d := .slice aa (fewB2 hd).length ac) (e := .slice ba (fewB2 qu).length bc) BB (Nat.le_succ _)
  have R8' := row_set5 (a := .int .i64 k) (b := .string (fewB v)) (c := .string (fewB t)) (d := .slice aa (fewB2 hd).length ac) (e := .slice ba (fewB2 qu).length bc) R8 hz (by decide)
  have R11' := row_set5 (a := .int .i64 k) (b := .string (fewB v)) (c := .string (fewB t)) (d := .slice aa (fewB2 hd).length ac) (e := .slice ba (fewB2 qu).length bc) R11 hz (by decide)
  refine wpAny_end (by kernel_rfl) ?_
  change Exit.then _ _ _ _ (set5 W (w.heap.size + 1) (.int .i64 k) (.string (fewB v)) (.string (fewB t)) (.slice aa (fewB2 hd).length ac) (.slice ba (fewB2 qu).length bc))
  generalize set5 W (w.heap.size + 1) (.int .i64 k) (.string (fewB v)) (.string (fewB t)) (.slice aa (fewB2 hd).length ac) (.slice ba (fewB2 qu).length bc) = W2 at *
  obtain ⟨c0, c1, c2, c3, c4⟩ := cell5 s1
  have OWN : MV.own ⟨fewM ⟨k, v, t, hd, qu⟩, aa, ac, ba, bc⟩ W2 := ⟨⟨_, R8'⟩, _, R11'⟩
  clear R8 R11 R8' R11' hz HZH s1 BB
  go_wp2_with fail
  exact bodyPost_ret (v := .agg #[.int .i64 k, .string (fewB v), .string (fewB t), .slice aa (fewB2 hd).length ac, .slice ba (fewB2 qu).length bc]) (by simp [results, Tryz.results44, go_sem, c0, c1, c2, c3, c4]) rfl ⟨⟨fewM ⟨k, v, t, hd, qu⟩, aa, ac, ba, bc⟩, rfl, rfl, OWN, S1⟩

end Go.Proofs.YthnodpdiocppgaaGreatDoor
