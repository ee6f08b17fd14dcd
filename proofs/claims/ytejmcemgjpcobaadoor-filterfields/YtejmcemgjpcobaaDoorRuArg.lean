/-
  Arguments: a match, a request, a list of matches.
-/
import Derived.Test.YtejmcemgjpcobaaDoorRuLawA
import Derived.Lib.SmallJoins
import Derived.Deep.Slices
namespace Go.Proofs.YtejmcemgjpcobaaDoor
set_option maxRecDepth 20000
open Go Go.RowKit Go.Shelf Go.ChangeShapes Go.WideShapes Go.Deep

theorem array5 {α : Type} {cs : Array α} (h : cs.size = 5) : ∃ c0 c1 c2 c3 c4, cs = #[c0, c1, c2, c3, c4] := by
  obtain ⟨l⟩ := cs
  match l, h with
  | [c0, c1, c2, c3, c4], _ => exact ⟨c0, c1, c2, c3, c4, rfl⟩
theorem list5 {α : Type} {cs : List α} (h : cs.length = 5) : ∃ c0 c1 c2 c3 c4, cs = [c0, c1, c2, c3, c4] := by
  match cs, h with
  | [c0, c1, c2, c3, c4], _ => exact ⟨c0, c1, c2, c3, c4, rfl⟩
theorem pathCells' {H : Type} {enc : TypeId × Value → H} {W : World} {fuel : Nat} {c0 c1 : Value} {y : DataW H × List MemPlace} (h : DataW.trod enc Tryd.prog W 0 (fun _ => true) true fuel 24 [c0, c1] = some y) :
    ∃ (k : Int) (s : ByteArray), c0 = .int .i64 k ∧ c1 = .string s ∧ s.size ≤ maxLen := by
  obtain ⟨y0, y1, n, _, _, h0, h1⟩ := trod_struct2 Tryd.underlying24 h
  obtain ⟨k0, e0, _, _⟩ := DataW.trod_int Tryd.underlying3 h0
  obtain ⟨s1, e1, _, z1⟩ := DataW.trod_string Tryd.underlying9 h1
  have hc3 : Tryd.prog.cellsOf 3 = 1 := by kernel_rfl
  simp [hc3, Tryd.cells9] at e0 e1
  exact ⟨k0, s1, e0, e1, z1⟩

/-- a match that came in -/
def ArgM (W : World) (v : Value) : Prop := ∃ x : MV, v = mV x.m x.vh x.vq ∧ x.at_ W ∧ RawM x.m
/-- a request that came in -/
def ArgR (W : World) (v : Value) : Prop := ∃ x : RV, v = rV x.r x.vq x.vh ∧ x.at_ W ∧ RawR x.r
/-- matches that came in -/
def ArgL (W : World) (v : Value) : Prop := ∃ L : List MV, Mts W v L ∧ ∀ x ∈ L, RawM x.m

theorem argR_open {H : Type} {enc : TypeId × Value → H} {W : World} {base : Nat} {v : Value} {d : DataW H} {ps : List MemPlace} (hval : Value.okWide Tryd.prog W .any base 27 v)
    (h : DataW.Trod enc Tryd.prog W 0 (fun _ => true) true 27 v d ps) : ArgR W v := by
  obtain ⟨cs, rfl, hsz⟩ := okWide_struct Tryd.underlying27 hval
  obtain ⟨c0, c1, c2, c3, c4, rfl⟩ := array5 (hsz.trans (by kernel_rfl))
  obtain ⟨fuel, hf⟩ := h
  obtain ⟨xs, n, hn, _, _, hxl, hp⟩ := DataW.trod_struct Tryd.underlying27 hf
  have hcS : Tryd.prog.cellsOf 25 = 1 := by kernel_rfl
  match xs, hxl with
  | [y0, y1, y2, y3, y4], _ =>
    have h0 := hp 0 _ rfl
    have h1 := hp 1 _ rfl
    have h2 := hp 2 _ rfl
    have h3 := hp 3 _ rfl
    have h4 := hp 4 _ rfl
    simp [Value.cells, hcS, Tryd.cells9] at h0 h1 h2 h3 h4
    obtain ⟨s0, e0, _, z0⟩ := DataW.trod_string Tryd.underlying9 h0
    obtain ⟨s1, e1, _, z1⟩ := DataW.trod_string Tryd.underlying9 h1
    obtain ⟨s2, e2, _, z2⟩ := DataW.trod_string Tryd.underlying9 h2
    simp only [List.cons.injEq, and_true] at e0 e1 e2
    subst e0 e1 e2
    obtain ⟨qu, pq, okq⟩ := argPrs_trod h3
    obtain ⟨hd, ph, okh⟩ := argPrs_trod h4
    have ph' := ph
    have pq' := pq
    obtain ⟨a1, cap1, rfl, _⟩ := ph
    obtain ⟨a2, cap2, rfl, _⟩ := pq
    exact ⟨⟨⟨s0, s1, s2, qu, hd⟩, a2, cap2, a1, cap1⟩, rfl, ⟨pq', ph'⟩, ⟨z0, z1, z2, okq, okh⟩⟩

/-- boxes, laid one behind the other -/
theorem blocks1 {w W : World} {o : Obj} (h : Below (w.alloc o).heap.size (w.alloc o) W) : W.heap[w.heap.size]? = some o := box_block h
theorem blocks2 {w W : World} {o1 o2 : Obj} (h : Below ((w.alloc o1).alloc o2).heap.size ((w.alloc o1).alloc o2) W) : W.heap[w.heap.size]? = some o1 ∧ W.heap[w.heap.size + 1]? = some o2 := by
  refine ⟨box_block (below_box h), ?_⟩
  have := box_block h
  simpa using this
theorem blocks3 {w W : World} {o1 o2 o3 : Obj} (h : Below (((w.alloc o1).alloc o2).alloc o3).heap.size (((w.alloc o1).alloc o2).alloc o3) W) : W.heap[w.heap.size]? = some o1 ∧ W.heap[w.heap.size + 1]? = some o2 ∧ W.heap[w.heap.size + 1 + 1]? = some o3 := by
  obtain ⟨a, b⟩ := blocks2 (below_box h)
  refine ⟨a, b, ?_⟩
  have := box_block h
  simpa using this
theorem below1 (w : World) {o : Obj} : Below w.heap.size w (w.alloc o) := (Below.refl _ _).alloc (Nat.le_refl _) _
theorem below2 (w : World) {o1 o2 : Obj} : Below w.heap.size w ((w.alloc o1).alloc o2) := (below1 w).alloc (by simp) _
theorem below3 (w : World) {o1 o2 o3 : Obj} : Below w.heap.size w (((w.alloc o1).alloc o2).alloc o3) := (below2 w).alloc (by simp; omega) _

end Go.Proofs.YtejmcemgjpcobaaDoor
