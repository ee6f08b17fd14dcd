/-
  Arguments: a match, a request, a list of matches.
-/
import Derived.Test.YtblmdcpcekoogaaGreatDoorRuLawA
import Derived.Lib.SmallJoins
import Derived.Deep.Slices
namespace Go.Proofs.YtblmdcpcekoogaaGreatDoor
set_option maxRecDepth 20000
open Go Go.RowKit Go.Shelf Go.ChangeShapes Go.WideShapes Go.Deep

theorem array5 {α : Type} {cs : Array α} (h : cs.size = 5) : ∃ c0 c1 c2 c3 c4, cs = #[c0, c1, c2, c3, c4] := by
  obtain ⟨l⟩ := cs
  match l, h with
  | [c0, c1, c2, c3, c4], _ => exact ⟨c0, c1, c2, c3, c4, rfl⟩
theorem list5 {α : Type} {cs : List α} (h : cs.length = 5) : ∃ c0 c1 c2 c3 c4, cs = [c0, c1, c2, c3, c4] := by
  match cs, h with
  | [c0, c1, c2, c3, c4], _ => exact ⟨c0, c1, c2, c3, c4, rfl⟩
theorem pathCells' {H : Type} {enc : TypeId × Value → H} {W : World} {fuel : Nat} {c0 c1 : Value} {y : DataW H × List MemPlace} (h : DataW.trod enc Tryz.prog W 0 (fun _ => true) true fuel 24 [c0, c1] = some y) :
    ∃ (k : Int) (s : ByteArray), c0 = .int .i64 k ∧ c1 = .string s ∧ s.size ≤ maxLen := by
  obtain ⟨y0, y1, n, _, _, h0, h1⟩ := trod_struct2 Tryz.underlying24 h
  obtain ⟨k0, e0, _, _⟩ := DataW.trod_int Tryz.underlying3 h0
  obtain ⟨s1, e1, _, z1⟩ := DataW.trod_string Tryz.underlying9 h1
  have hc3 : Tryz.prog.cellsOf 3 = 1 := by kernel_rfl
  simp [hc3, Tryz.cells9] at e0 e1
  exact ⟨k0, s1, e0, e1, z1⟩

/-- a match that came in -/
def ArgM (W : World) (v : Value) : Prop := ∃ x : MV, v = mV x.m x.vh x.vq ∧ x.at_ W ∧ RawM x.m
/-- a request that came in -/
def ArgR (W : World) (v : Value) : Prop := ∃ x : RV, v = rV x.r x.vq x.vh ∧ x.at_ W ∧ RawR x.r
/-- matches that came in -/
def ArgL (W : World) (v : Value) : Prop := ∃ L : List MV, Mts W v L ∧ ∀ x ∈ L, RawM x.m

theorem match_trod {H : Type} {enc : TypeId × Value → H} {W : World} {fuel : Nat} {c0 c1 c2 c3 c4 : Value} {y : DataW H × List MemPlace} (h : DataW.trod enc Tryz.prog W 0 (fun _ => true) true fuel 109 [c0, c1, c2, c3, c4] = some y) :
    ∃ x : MV, c0 = .int .i64 x.m.kind ∧ c1 = .string x.m.val ∧ c2 = .string x.m.meth ∧ c3 = x.vh ∧ c4 = x.vq ∧ x.at_ W ∧ RawM x.m := by
  obtain ⟨y0, y1, y2, y3, n, _, _, h0, h1, h2, h3⟩ := Joins.trod_struct4 Tryz.underlying109 h
  have hcP : Tryz.prog.cellsOf 24 = 2 := by kernel_rfl
  have hcS : Tryz.prog.cellsOf 25 = 1 := by kernel_rfl
  simp [hcP, hcS, Tryz.cells9] at h0 h1 h2 h3
  obtain ⟨k, s, rfl, rfl, hs⟩ := pathCells' h0
  obtain ⟨t, e2, _, ht⟩ := DataW.trod_string Tryz.underlying9 h1
  simp only [List.cons.injEq, and_true] at e2
  subst e2
  obtain ⟨hd, ph, okh⟩ := argPrs_trod h2
  obtain ⟨qu, pq, okq⟩ := argPrs_trod h3
  have ph' := ph
  have pq' := pq
  obtain ⟨a1, cap1, rfl, _⟩ := ph
  obtain ⟨a2, cap2, rfl, _⟩ := pq
  exact ⟨⟨⟨k, s, t, hd, qu⟩, a1, cap1, a2, cap2⟩, rfl, rfl, rfl, rfl, rfl, ⟨ph', pq'⟩, ⟨hs, ht, okh, okq⟩⟩

theorem argM_open {H : Type} {enc : TypeId × Value → H} {W : World} {base : Nat} {v : Value} {d : DataW H} {ps : List MemPlace} (hval : Value.okWide Tryz.prog W .any base 109 v)
    (h : DataW.Trod enc Tryz.prog W 0 (fun _ => true) true 109 v d ps) : ArgM W v := by
  obtain ⟨cs, rfl, hsz⟩ := okWide_struct Tryz.underlying109 hval
  obtain ⟨c0, c1, c2, c3, c4, rfl⟩ := array5 (hsz.trans (by kernel_rfl))
  obtain ⟨fuel, hf⟩ := h
  obtain ⟨x, rfl, rfl, rfl, rfl, rfl, h1, h2⟩ := match_trod hf
  exact ⟨x, rfl, h1, h2⟩

theorem argR_open {H : Type} {enc : TypeId × Value → H} {W : World} {base : Nat} {v : Value} {d : DataW H} {ps : List MemPlace} (hval : Value.okWide Tryz.prog W .any base 27 v)
    (h : DataW.Trod enc Tryz.prog W 0 (fun _ => true) true 27 v d ps) : ArgR W v := by
  obtain ⟨cs, rfl, hsz⟩ := okWide_struct Tryz.underlying27 hval
  obtain ⟨c0, c1, c2, c3, c4, rfl⟩ := array5 (hsz.trans (by kernel_rfl))
  obtain ⟨fuel, hf⟩ := h
  obtain ⟨xs, n, hn, _, _, hxl, hp⟩ := DataW.trod_struct Tryz.underlying27 hf
  have hcS : Tryz.prog.cellsOf 25 = 1 := by kernel_rfl
  match xs, hxl with
  | [y0, y1, y2, y3, y4], _ =>
    have h0 := hp 0 _ rfl
    have h1 := hp 1 _ rfl
    have h2 := hp 2 _ rfl
    have h3 := hp 3 _ rfl
    have h4 := hp 4 _ rfl
    simp [Value.cells, hcS, Tryz.cells9] at h0 h1 h2 h3 h4
    obtain ⟨s0, e0, _, z0⟩ := DataW.trod_string Tryz.underlying9 h0
    obtain ⟨s1, e1, _, z1⟩ := DataW.trod_string Tryz.underlying9 h1
    obtain ⟨s2, e2, _, z2⟩ := DataW.trod_string Tryz.underlying9 h2
    simp only [List.cons.injEq, and_true] at e0 e1 e2
    subst e0 e1 e2
    obtain ⟨qu, pq, okq⟩ := argPrs_trod h3
    obtain ⟨hd, ph, okh⟩ := argPrs_trod h4
    have ph' := ph
    have pq' := pq
    obtain ⟨a1, cap1, rfl, _⟩ := ph
    obtain ⟨a2, cap2, rfl, _⟩ := pq
    exact ⟨⟨⟨s0, s1, s2, qu, hd⟩, a2, cap2, a1, cap1⟩, rfl, ⟨pq', ph'⟩, ⟨z0, z1, z2, okq, okh⟩⟩

theorem argL_open {H : Type} {enc : TypeId × Value → H} {W : World} {base : Nat} {v : Value} {d : DataW H} {ps : List MemPlace} (hval : Value.okWide Tryz.prog W .any base 71 v)
    (h : DataW.Trod enc Tryz.prog W 0 (fun _ => true) true 71 v d ps) : ArgL W v := by
  obtain ⟨a0, len0, cap0, rfl⟩ := okWide_slice Tryz.underlying71 hval
  obtain ⟨fuel, hf⟩ := h
  rcases open_slice Tryz.underlying71 hf with ⟨hcs, _⟩ | ⟨a, len, cap, m, n, D, Pl, hcs, _, hl, hm, hmm, _, hx⟩
  · simp only [Value.cells, List.cons.injEq, and_true] at hcs
    injection hcs with e1 e2 e3
    subst e1 e2 e3
    exact ⟨[], Mts.nil W, fun p hp => absurd hp (by simp)⟩
  · simp only [Value.cells, List.cons.injEq, and_true] at hcs
    injection hcs with e1 e2 e3
    subst e1 e2 e3
    simp only [if_true] at hmm
    subst hmm
    have hce : Tryz.prog.cellsOf 109 = 5 := by kernel_rfl
    have each : ∀ i, i < len0 → ∃ x : MV, (W.cell? (a.add (i * 5)) = some (.int .i64 x.m.kind) ∧ W.cell? (a.add (i * 5 + 1)) = some (.string x.m.val) ∧ W.cell? (a.add (i * 5 + 2)) = some (.string x.m.meth) ∧ W.cell? (a.add (i * 5 + 3)) = some x.vh ∧ W.cell? (a.add (i * 5 + 4)) = some x.vq) ∧ x.at_ W ∧ RawM x.m := by
      intro i hi
      obtain ⟨cs', h1, h2⟩ := hx i (by omega)
      rw [hce] at h1
      obtain ⟨_, hlen, hcell⟩ := World.cells?_some h1
      obtain ⟨c0, c1, c2, c3, c4, rfl⟩ := list5 hlen
      obtain ⟨x, rfl, rfl, rfl, rfl, rfl, h3, h4⟩ := match_trod h2
      have e0 := hcell 0 (by omega)
      have e1 := hcell 1 (by omega)
      have e2 := hcell 2 (by omega)
      have e3 := hcell 3 (by omega)
      have e4 := hcell 4 (by omega)
      rw [add_add] at e0 e1 e2 e3 e4
      exact ⟨x, ⟨by simpa using e0, by simpa using e1, by simpa using e2, by simpa using e3, by simpa using e4⟩, h3, h4⟩
    let f : Nat → MV := fun i => if h : i < len0 then (each i h).choose else ⟨⟨0, ⟨#[]⟩, ⟨#[]⟩, [], []⟩, none, 0, none, 0⟩
    have hf : ∀ i, i < len0 → (W.cell? (a.add (i * 5)) = some (.int .i64 (f i).m.kind) ∧ W.cell? (a.add (i * 5 + 1)) = some (.string (f i).m.val) ∧ W.cell? (a.add (i * 5 + 2)) = some (.string (f i).m.meth) ∧ W.cell? (a.add (i * 5 + 3)) = some (f i).vh ∧ W.cell? (a.add (i * 5 + 4)) = some (f i).vq) ∧ (f i).at_ W ∧ RawM (f i).m := by
      intro i hi
      have := (each i hi).choose_spec
      simp only [f, dif_pos hi]
      exact this
    refine ⟨(List.range len0).map f, ⟨some a, m, by simp, by simp; omega, hm, fun i hi => ?_⟩, fun p hp => ?_⟩
    · have hi' : i < len0 := by simpa using hi
      obtain ⟨b, off, spot⟩ := a
      obtain ⟨⟨c0, c1, c2, c3, c4⟩, hat, _⟩ := hf i hi'
      have hspot : spot = none := by simpa [Addr.add] using World.cell?_spot (hf 0 (by omega)).1.1
      subst hspot
      rw [add_plain] at c0 c1 c2 c3 c4
      refine ⟨by simpa using hat, b, off, rfl, World.block_lt_of_cell? _ _ c0, ?_⟩
      have key : Five5 W b (off + i * 5) (f i) := ⟨c0, by simpa [Nat.add_assoc] using c1, by simpa [Nat.add_assoc] using c2, by simpa [Nat.add_assoc] using c3, by simpa [Nat.add_assoc] using c4⟩
      simpa using key
    · obtain ⟨i, hi, rfl⟩ := List.mem_map.1 hp
      exact (hf i (List.mem_range.1 hi)).2.2

/-- boxes, laid one behind the other -/
theorem blocks1 {w W : World} {o : Obj} (h : Below (w.alloc o).heap.size (w.alloc o) W) : W.heap[w.heap.size]? = some o := box_block h
theorem blocks2 {w W : World} {o1 o2 : Obj} (h : Below ((w.alloc o1).alloc o2).heap.size ((w.alloc o1).alloc o2) W) : W.heap[w.heap.size]? = some o1 ∧ W.heap[w.heap.size + 1]? = some o2 := by
  refine ⟨box_block (below_box h), ?_⟩
  have := box_block h
  simpa using this
theorem blocks3 {w W : World} {o1 o2 o3 : Obj} (h : Below (((w.alloc o1).alloc o2).alloc o3).heap.size (((w.alloc o1).alloc o2).alloc o3) W) : W.heap[w.heap.size]? = some o1 ∧ W.heap[w.heap.size + 1]? = some o2 ∧ W.heap[w.heap.size + 1 + 1]? = some o3 := by
  obtain ⟨a, b⟩ := blocks2 (below_box h)
  refine ⟨a, b, ?_⟩
  have := box_block h
  simpa using this
theorem below1 (w : World) {o : Obj} : Below w.heap.size w (w.alloc o) := (Below.refl _ _).alloc (Nat.le_refl _) _
theorem below2 (w : World) {o1 o2 : Obj} : Below w.heap.size w ((w.alloc o1).alloc o2) := (below1 w).alloc (by simp) _
theorem below3 (w : World) {o1 o2 o3 : Obj} : Below w.heap.size w (((w.alloc o1).alloc o2).alloc o3) := (below2 w).alloc (by simp; omega) _

end Go.Proofs.YtblmdcpcekoogaaGreatDoor
