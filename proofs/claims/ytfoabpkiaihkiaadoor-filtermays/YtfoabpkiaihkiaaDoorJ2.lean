/-
  Arguments: a match, a request, a list of matches.
-/
import Derived.Test.YtfoabpkiaihkiaaDoorRuLawA
import Derived.Lib.SmallJoins
import Derived.Deep.Slices
import Derived.Test.YtfoabpkiaihkiaaDoorFiLawA
import Derived.Test.YtfoabpkiaihkiaaDoorFiWalkE
import Derived.Test.YtfoabpkiaihkiaaDoorFiRefB4
import Derived.Test.YtfoabpkiaihkiaaDoorPbRefA
namespace Go.Proofs.YtfoabpkiaihkiaaDoor
set_option maxRecDepth 20000
open Go Go.RowKit Go.Shelf Go.ChangeShapes Go.WideShapes Go.Deep

theorem array5 {α : Type} {cs : Array α} (h : cs.size = 5) : ∃ c0 c1 c2 c3 c4, cs = #[c0, c1, c2, c3, c4] := by
  obtain ⟨l⟩ := cs
  match l, h with
  | [c0, c1, c2, c3, c4], _ => exact ⟨c0, c1, c2, c3, c4, rfl⟩
theorem list5 {α : Type} {cs : List α} (h : cs.length = 5) : ∃ c0 c1 c2 c3 c4, cs = [c0, c1, c2, c3, c4] := by
  match cs, h with
  | [c0, c1, c2, c3, c4], _ => exact ⟨c0, c1, c2, c3, c4, rfl⟩
theorem pathCells' {H : Type} {enc : TypeId × Value → H} {W : World} {fuel : Nat} {c0 c1 : Value} {y : DataW H × List MemPlace} (h : DataW.trod enc Tryd.prog W 0 (fun _ => true) true fuel 30 [c0, c1] = some y) :
    ∃ (k : Int) (s : ByteArray), c0 = .int .i64 k ∧ c1 = .string s ∧ s.size ≤ maxLen := by
  obtain ⟨y0, y1, n, _, _, h0, h1⟩ := trod_struct2 Tryd.underlying30 h
  obtain ⟨k0, e0, _, _⟩ := DataW.trod_int Tryd.underlying3 h0
  obtain ⟨s1, e1, _, z1⟩ := DataW.trod_string Tryd.underlying9 h1
  have hc3 : Tryd.prog.cellsOf 3 = 1 := by kernel_rfl
  simp [hc3, Tryd.cells9] at e0 e1
  exact ⟨k0, s1, e0, e1, z1⟩

/-- a match that came in -/
def ArgM (W : World) (v : Value) : Prop := ∃ x : MV, v = mV x.m x.vh x.vq ∧ x.at_ W ∧ RawM x.m
/-- a request that came in -/
def ArgR (W : World) (v : Value) : Prop := ∃ x : RV, v = rV x.r x.vq x.vh ∧ x.at_ W ∧ RawR x.r
/-- matches that came in -/
def ArgL (W : World) (v : Value) : Prop := ∃ L : List MV, Mts W v L ∧ ∀ x ∈ L, RawM x.m

theorem argR_open {H : Type} {enc : TypeId × Value → H} {W : World} {base : Nat} {v : Value} {d : DataW H} {ps : List MemPlace} (hval : Value.okWide Tryd.prog W .any base 33 v)
    (h : DataW.Trod enc Tryd.prog W 0 (fun _ => true) true 33 v d ps) : ArgR W v := by
  obtain ⟨cs, rfl, hsz⟩ := okWide_struct Tryd.underlying33 hval
  obtain ⟨c0, c1, c2, c3, c4, rfl⟩ := array5 (hsz.trans (by kernel_rfl))
  obtain ⟨fuel, hf⟩ := h
  obtain ⟨xs, n, hn, _, _, hxl, hp⟩ := DataW.trod_struct Tryd.underlying33 hf
  have hcS : Tryd.prog.cellsOf 31 = 1 := by kernel_rfl
  match xs, hxl with
  | [y0, y1, y2, y3, y4], _ =>
    have h0 := hp 0 _ rfl
    have h1 := hp 1 _ rfl
    have h2 := hp 2 _ rfl
    have h3 := hp 3 _ rfl
    have h4 := hp 4 _ rfl
    simp [Value.cells, hcS, Tryd.cells9] at h0 h1 h2 h3 h4
    obtain ⟨s0, e0, _, z0⟩ := DataW.trod_string Tryd.underlying9 h0
    obtain ⟨s1, e1, _, z1⟩ := DataW.trod_string Tryd.underlying9 h1
    obtain ⟨s2, e2, _, z2⟩ := DataW.trod_string Tryd.underlying9 h2
    simp only [List.cons.injEq, and_true] at e0 e1 e2
    subst e0 e1 e2
    obtain ⟨qu, pq, okq⟩ := argPrs_trod h3
    obtain ⟨hd, ph, okh⟩ := argPrs_trod h4
    have ph' := ph
    have pq' := pq
    obtain ⟨a1, cap1, rfl, _⟩ := ph
    obtain ⟨a2, cap2, rfl, _⟩ := pq
    exact ⟨⟨⟨s0, s1, s2, qu, hd⟩, a2, cap2, a1, cap1⟩, rfl, ⟨pq', ph'⟩, ⟨z0, z1, z2, okq, okh⟩⟩

/-- boxes, laid one behind the other -/
theorem blocks1 {w W : World} {o : Obj} (h : Below (w.alloc o).heap.size (w.alloc o) W) : W.heap[w.heap.size]? = some o := box_block h
theorem blocks2 {w W : World} {o1 o2 : Obj} (h : Below ((w.alloc o1).alloc o2).heap.size ((w.alloc o1).alloc o2) W) : W.heap[w.heap.size]? = some o1 ∧ W.heap[w.heap.size + 1]? = some o2 := by
  refine ⟨box_block (below_box h), ?_⟩
  have := box_block h
  simpa using this
theorem blocks3 {w W : World} {o1 o2 o3 : Obj} (h : Below (((w.alloc o1).alloc o2).alloc o3).heap.size (((w.alloc o1).alloc o2).alloc o3) W) : W.heap[w.heap.size]? = some o1 ∧ W.heap[w.heap.size + 1]? = some o2 ∧ W.heap[w.heap.size + 1 + 1]? = some o3 := by
  obtain ⟨a, b⟩ := blocks2 (below_box h)
  refine ⟨a, b, ?_⟩
  have := box_block h
  simpa using this
theorem below1 (w : World) {o : Obj} : Below w.heap.size w (w.alloc o) := (Below.refl _ _).alloc (Nat.le_refl _) _
theorem below2 (w : World) {o1 o2 : Obj} : Below w.heap.size w ((w.alloc o1).alloc o2) := (below1 w).alloc (by simp) _
theorem below3 (w : World) {o1 o2 o3 : Obj} : Below w.heap.size w (((w.alloc o1).alloc o2).alloc o3) := (below2 w).alloc (by simp; omega) _

end Go.Proofs.YtfoabpkiaihkiaaDoor
namespace Go.Proofs.YtfoabpkiaihkiaaDoor
set_option maxRecDepth 20000
open Go Go.RowKit Go.Shelf Go.ChangeShapes Go.WideShapes Go.Deep

theorem array8 {α : Type} {cs : Array α} (h : cs.size = 8) : ∃ c0 c1 c2 c3 c4 c5 c6 c7, cs = #[c0, c1, c2, c3, c4, c5, c6, c7] := by
  obtain ⟨l⟩ := cs
  match l, h with
  | [c0, c1, c2, c3, c4, c5, c6, c7], _ => exact ⟨c0, c1, c2, c3, c4, c5, c6, c7, rfl⟩
theorem array9 {α : Type} {cs : Array α} (h : cs.size = 9) : ∃ c0 c1 c2 c3 c4 c5 c6 c7 c8, cs = #[c0, c1, c2, c3, c4, c5, c6, c7, c8] := by
  obtain ⟨l⟩ := cs
  match l, h with
  | [c0, c1, c2, c3, c4, c5, c6, c7, c8], _ => exact ⟨c0, c1, c2, c3, c4, c5, c6, c7, c8, rfl⟩
theorem array2' {α : Type} {cs : Array α} (h : cs.size = 2) : ∃ c0 c1, cs = #[c0, c1] := by
  obtain ⟨l⟩ := cs
  match l, h with
  | [c0, c1], _ => exact ⟨c0, c1, rfl⟩

theorem Tryd.cells3' : Tryd.prog.cellsOf 3 = 1 := by kernel_rfl
theorem Tryd.cells4' : Tryd.prog.cellsOf 4 = 1 := by kernel_rfl
theorem Tryd.cellsP' : Tryd.prog.cellsOf 30 = 2 := by kernel_rfl
theorem Tryd.cellsR' : Tryd.prog.cellsOf 33 = 5 := by kernel_rfl
theorem Tryd.cellsS' : Tryd.prog.cellsOf 31 = 1 := by kernel_rfl
theorem Tryd.cellsF' : Tryd.prog.cellsOf 22 = 1 := by kernel_rfl
theorem Tryd.cellsE' : Tryd.prog.cellsOf 26 = 8 := by kernel_rfl

theorem filter_trod {H : Type} {enc : TypeId × Value → H} {W : World} {fuel : Nat} {c0 c1 c2 c3 c4 c5 c6 c7 : Value} {y : DataW H × List MemPlace} (h : DataW.trod enc Tryd.prog W 0 (fun _ => true) true fuel 26 [c0, c1, c2, c3, c4, c5, c6, c7] = some y) :
    ∃ f : FB, [c0, c1, c2, c3, c4, c5, c6, c7] = fcells f ∧ RawF f := by
  obtain ⟨xs, n, hn, _, _, hxl, hp⟩ := DataW.trod_struct Tryd.underlying26 h
  match xs, hxl with
  | [y0, y1, y2, y3, y4, y5, y6, y7], _ =>
    have h0 := hp 0 _ rfl
    have h1 := hp 1 _ rfl
    have h2 := hp 2 _ rfl
    have h3 := hp 3 _ rfl
    have h4 := hp 4 _ rfl
    have h5 := hp 5 _ rfl
    have h6 := hp 6 _ rfl
    have h7 := hp 7 _ rfl
    simp [Tryd.cells3', Tryd.cells4', Tryd.cells9] at h0 h1 h2 h3 h4 h5 h6 h7
    obtain ⟨k, e0, _, _⟩ := DataW.trod_int Tryd.underlying3 h0
    obtain ⟨s1, e1, _, z1⟩ := DataW.trod_string Tryd.underlying9 h1
    obtain ⟨s2, e2, _, z2⟩ := DataW.trod_string Tryd.underlying9 h2
    obtain ⟨s3, e3, _, z3⟩ := DataW.trod_string Tryd.underlying9 h3
    obtain ⟨p, e4, _, _⟩ := DataW.trod_int Tryd.underlying3 h4
    obtain ⟨s5, e5, _, z5⟩ := DataW.trod_string Tryd.underlying9 h5
    obtain ⟨b, e6, _⟩ := DataW.trod_bool Tryd.underlying4 h6
    obtain ⟨c, e7, _, _⟩ := DataW.trod_int Tryd.underlying3 h7
    simp only [List.cons.injEq, and_true] at e0 e1 e2 e3 e4 e5 e6 e7
    subst e0 e1 e2 e3 e4 e5 e6 e7
    exact ⟨⟨k, s1, s2, s3, p, s5, b, c⟩, rfl, ⟨z1, z2, z3, z5⟩⟩

/-- a filter that came in -/
def ArgF (_ : World) (v : Value) : Prop := ∃ f : FB, v = fV f ∧ RawF f
/-- filters that came in -/
def ArgFs (W : World) (v : Value) : Prop := ∃ l : List FB, Sl EF W v l ∧ ∀ f ∈ l, RawF f
/-- a path that came in -/
def ArgPt (_ : World) (v : Value) : Prop := ∃ (k : Int) (s : ByteArray), v = .agg #[.int .i64 k, .string s] ∧ s.size ≤ maxLen
/-- what is asked -/
def ArgAk (W : World) (v : Value) : Prop := ∃ (vl : Value) (l : List FB) (k : Int) (s : ByteArray) (x : RV) (b : Bool), v = .agg #[vl, .int .i64 k, .string s, .string x.r.meth, .string x.r.host, .string x.r.path, x.vq, x.vh, .bool b] ∧ Sl EF W vl l ∧ (∀ f ∈ l, RawF f) ∧ s.size ≤ maxLen ∧ x.at_ W ∧ RawR x.r

theorem argF_open {H : Type} {enc : TypeId × Value → H} {W : World} {base : Nat} {v : Value} {d : DataW H} {ps : List MemPlace} (hval : Value.okWide Tryd.prog W .any base 26 v)
    (h : DataW.Trod enc Tryd.prog W 0 (fun _ => true) true 26 v d ps) : ArgF W v := by
  obtain ⟨cs, rfl, hsz⟩ := okWide_struct Tryd.underlying26 hval
  obtain ⟨c0, c1, c2, c3, c4, c5, c6, c7, rfl⟩ := array8 (hsz.trans (by kernel_rfl))
  obtain ⟨fuel, hf⟩ := h
  obtain ⟨f, hf2, hr⟩ := filter_trod hf
  refine ⟨f, ?_, hr⟩
  simp only [fcells, List.cons.injEq, and_true] at hf2
  obtain ⟨rfl, rfl, rfl, rfl, rfl, rfl, rfl, rfl⟩ := hf2
  rfl

theorem filters_trod {H : Type} {enc : TypeId × Value → H} {W : World} {fuel : Nat} {v : Value} {y : DataW H × List MemPlace} (h : DataW.trod enc Tryd.prog W 0 (fun _ => true) true fuel 22 [v] = some y) :
    ∃ l : List FB, Sl EF W v l ∧ ∀ f ∈ l, RawF f := by
  refine sl_trod Tryd.underlying22 Tryd.cellsE' (fun fuel cs y hl hy => ?_) ⟨⟨0, ⟨#[]⟩, ⟨#[]⟩, ⟨#[]⟩, 0, ⟨#[]⟩, false, 0⟩⟩ h
  match cs, hl with
  | [c0, c1, c2, c3, c4, c5, c6, c7], _ =>
    obtain ⟨f, hf, hr⟩ := filter_trod hy
    exact ⟨f, hf, trivial, hr⟩

theorem argFs_open {H : Type} {enc : TypeId × Value → H} {W : World} {base : Nat} {v : Value} {d : DataW H} {ps : List MemPlace} (hval : Value.okWide Tryd.prog W .any base 22 v)
    (h : DataW.Trod enc Tryd.prog W 0 (fun _ => true) true 22 v d ps) : ArgFs W v := by
  obtain ⟨a0, len0, cap0, rfl⟩ := okWide_slice Tryd.underlying22 hval
  obtain ⟨fuel, hf⟩ := h
  exact filters_trod hf

theorem argPt_open {H : Type} {enc : TypeId × Value → H} {W : World} {base : Nat} {v : Value} {d : DataW H} {ps : List MemPlace} (hval : Value.okWide Tryd.prog W .any base 30 v)
    (h : DataW.Trod enc Tryd.prog W 0 (fun _ => true) true 30 v d ps) : ArgPt W v := by
  obtain ⟨cs, rfl, hsz⟩ := okWide_struct Tryd.underlying30 hval
  obtain ⟨c0, c1, rfl⟩ := array2' (hsz.trans (by kernel_rfl))
  obtain ⟨fuel, hf⟩ := h
  obtain ⟨k, s, rfl, rfl, hs⟩ := pathCells' hf
  exact ⟨k, s, rfl, hs⟩

theorem req_trod {H : Type} {enc : TypeId × Value → H} {W : World} {fuel : Nat} {c0 c1 c2 c3 c4 : Value} {y : DataW H × List MemPlace} (h : DataW.trod enc Tryd.prog W 0 (fun _ => true) true fuel 33 [c0, c1, c2, c3, c4] = some y) :
    ∃ x : RV, c0 = .string x.r.meth ∧ c1 = .string x.r.host ∧ c2 = .string x.r.path ∧ c3 = x.vq ∧ c4 = x.vh ∧ x.at_ W ∧ RawR x.r := by
  obtain ⟨xs, n, hn, _, _, hxl, hp⟩ := DataW.trod_struct Tryd.underlying33 h
  match xs, hxl with
  | [y0, y1, y2, y3, y4], _ =>
    have h0 := hp 0 _ rfl
    have h1 := hp 1 _ rfl
    have h2 := hp 2 _ rfl
    have h3 := hp 3 _ rfl
    have h4 := hp 4 _ rfl
    simp [Tryd.cellsS', Tryd.cells9] at h0 h1 h2 h3 h4
    obtain ⟨s0, e0, _, z0⟩ := DataW.trod_string Tryd.underlying9 h0
    obtain ⟨s1, e1, _, z1⟩ := DataW.trod_string Tryd.underlying9 h1
    obtain ⟨s2, e2, _, z2⟩ := DataW.trod_string Tryd.underlying9 h2
    simp only [List.cons.injEq, and_true] at e0 e1 e2
    subst e0 e1 e2
    obtain ⟨qu, pq, okq⟩ := argPrs_trod h3
    obtain ⟨hd, ph, okh⟩ := argPrs_trod h4
    have ph' := ph
    have pq' := pq
    obtain ⟨a1, cap1, rfl, _⟩ := ph
    obtain ⟨a2, cap2, rfl, _⟩ := pq
    exact ⟨⟨⟨s0, s1, s2, qu, hd⟩, a2, cap2, a1, cap1⟩, rfl, rfl, rfl, rfl, rfl, ⟨pq', ph'⟩, ⟨z0, z1, z2, okq, okh⟩⟩

theorem argAk_open {H : Type} {enc : TypeId × Value → H} {W : World} {base : Nat} {v : Value} {d : DataW H} {ps : List MemPlace} (hval : Value.okWide Tryd.prog W .any base 35 v)
    (h : DataW.Trod enc Tryd.prog W 0 (fun _ => true) true 35 v d ps) : ArgAk W v := by
  obtain ⟨cs, rfl, hsz⟩ := okWide_struct Tryd.underlying35 hval
  obtain ⟨c0, c1, c2, c3, c4, c5, c6, c7, c8, rfl⟩ := array9 (hsz.trans (by kernel_rfl))
  obtain ⟨fuel, hf⟩ := h
  obtain ⟨xs, n, hn, _, _, hxl, hp⟩ := DataW.trod_struct Tryd.underlying35 hf
  match xs, hxl with
  | [y0, y1, y2, y3], _ =>
    have h0 := hp 0 _ rfl
    have h1 := hp 1 _ rfl
    have h2 := hp 2 _ rfl
    have h3 := hp 3 _ rfl
    simp [Value.cells, Tryd.cellsF', Tryd.cellsP', Tryd.cellsR', Tryd.cells4'] at h0 h1 h2 h3
    obtain ⟨l, hl, hr⟩ := filters_trod h0
    obtain ⟨k, s, rfl, rfl, hs⟩ := pathCells' h1
    obtain ⟨x, rfl, rfl, rfl, rfl, rfl, hx, hrx⟩ := req_trod h2
    obtain ⟨b, e3, _⟩ := DataW.trod_bool Tryd.underlying4 h3
    simp only [List.cons.injEq, and_true] at e3
    subst e3
    exact ⟨c0, l, k, s, x, b, rfl, hl, hr, hs, hx, hrx⟩

end Go.Proofs.YtfoabpkiaihkiaaDoor
namespace Go.Proofs.YtfoabpkiaihkiaaDoor
set_option maxRecDepth 20000
open Go Go.RowKit Go.Shelf Fi

theorem ex1 : doF [⟨1, ⟨#[120]⟩, ⟨#[49]⟩, ⟨#[]⟩, 0, ⟨#[]⟩, false, 0⟩] 2 ⟨#[47, 97]⟩ ⟨⟨#[]⟩, ⟨#[]⟩, ⟨#[47, 97]⟩, [], []⟩ = (⟨⟨#[]⟩, ⟨#[]⟩, ⟨#[47, 97]⟩, [], [(⟨#[120]⟩, ⟨#[49]⟩)]⟩, 0) := by kernel_rfl
theorem ex2 : doF [⟨5, ⟨#[]⟩, ⟨#[]⟩, ⟨#[]⟩, 0, ⟨#[47, 120]⟩, false, 0⟩] 2 ⟨#[47, 97]⟩ ⟨⟨#[]⟩, ⟨#[]⟩, ⟨#[47, 97, 47, 98]⟩, [], []⟩ = (⟨⟨#[]⟩, ⟨#[]⟩, ⟨#[47, 120, 47, 98]⟩, [], []⟩, 0) := by kernel_rfl
theorem ex3 : awayF [⟨4, ⟨#[]⟩, ⟨#[]⟩, ⟨#[98, 46, 116, 101, 115, 116]⟩, 0, ⟨#[]⟩, false, 301⟩] 2 ⟨#[47, 97]⟩ ⟨#[]⟩ ⟨#[47, 97]⟩ true = ((301, ⟨#[104, 116, 116, 112, 115, 58, 47, 47, 98, 46, 116, 101, 115, 116, 47, 97]⟩), 0) := by kernel_rfl
theorem ok1 {f : FB} (h1 : f.name.size ≤ 100) (h2 : f.val.size ≤ 100) (h3 : f.host.size ≤ 100) (h4 : f.path.size ≤ 100) : ∀ g ∈ [f], OkFi g := fun g hg => by
  obtain rfl : g = f := by simpa using hg
  exact ⟨h1, h2, h3, h4⟩
theorem Sl.one {w : World} {g : Nat} {f : FB} (h : w.heap[g]? = some (.cells (fcells f).toArray 26)) : Sl EF w (.slice (some ⟨g, 0, none⟩) 1 1) [f] := Sl.at_block h trivial
theorem at0 (w : World) (t : ByteArray) : RV.at_ ⟨⟨⟨#[]⟩, ⟨#[]⟩, t, [], []⟩, none, 0, none, 0⟩ w := ⟨Prs.nil w, Prs.nil w⟩
theorem okR0 {t : ByteArray} (h : t.size ≤ 100) : OkR ⟨⟨#[]⟩, ⟨#[]⟩, t, [], []⟩ := ⟨(show 0 ≤ 100 by decide), (show 0 ≤ 100 by decide), h, (show 0 ≤ 31 by decide), (show 0 ≤ 31 by decide), fun p hp => (by cases hp), fun p hp => (by cases hp)⟩

set_option maxHeartbeats 3200000 in
theorem fawake_any (w : World) :
    Calls Tryd.prog 14 #[] w fun e w' => e = .returned (.bool true) ∧ Below w.heap.size w w' := by
  have C1 := fun W (h : W.heap[w.heap.size + 1]? = some (.cells #[.int .i64 1, .string ⟨#[120]⟩, .string ⟨#[49]⟩, .string ⟨#[]⟩, .int .i64 0, .string ⟨#[]⟩, .bool false, .int .i64 0] 26)) => hide (do_any (.slice (some ⟨w.heap.size + 1, 0, none⟩) 1 1) [⟨1, ⟨#[120]⟩, ⟨#[49]⟩, ⟨#[]⟩, 0, ⟨#[]⟩, false, 0⟩] 2 ⟨#[47, 97]⟩ ⟨⟨⟨#[]⟩, ⟨#[]⟩, ⟨#[47, 97]⟩, [], []⟩, none, 0, none, 0⟩ W (Sl.one h) (ok1 (by decide) (by decide) (by decide) (by decide)) (by decide) (at0 _ _) (okR0 (by decide)))
  have C2 := fun W (g : Nat) (h : W.heap[g]? = some (.cells #[.int .i64 5, .string ⟨#[]⟩, .string ⟨#[]⟩, .string ⟨#[]⟩, .int .i64 0, .string ⟨#[47, 120]⟩, .bool false, .int .i64 0] 26)) => hide (do_any (.slice (some ⟨g, 0, none⟩) 1 1) [⟨5, ⟨#[]⟩, ⟨#[]⟩, ⟨#[]⟩, 0, ⟨#[47, 120]⟩, false, 0⟩] 2 ⟨#[47, 97]⟩ ⟨⟨⟨#[]⟩, ⟨#[]⟩, ⟨#[47, 97, 47, 98]⟩, [], []⟩, none, 0, none, 0⟩ W (Sl.one h) (ok1 (by decide) (by decide) (by decide) (by decide)) (by decide) (at0 _ _) (okR0 (by decide)))
  have C3 := fun W (g : Nat) (h : W.heap[g]? = some (.cells #[.int .i64 4, .string ⟨#[]⟩, .string ⟨#[]⟩, .string ⟨#[98, 46, 116, 101, 115, 116]⟩, .int .i64 0, .string ⟨#[]⟩, .bool false, .int .i64 301] 26)) => hide (away_any (.slice (some ⟨g, 0, none⟩) 1 1) [⟨4, ⟨#[]⟩, ⟨#[]⟩, ⟨#[98, 46, 116, 101, 115, 116]⟩, 0, ⟨#[]⟩, false, 301⟩] 2 ⟨#[47, 97]⟩ ⟨⟨⟨#[]⟩, ⟨#[]⟩, ⟨#[47, 97]⟩, [], []⟩, none, 0, none, 0⟩ true W (Sl.one h) (ok1 (by decide) (by decide) (by decide) (by decide)) (by decide) (by decide) (by decide) (fun f hf _ _ hn => by
    obtain rfl : f = ⟨4, ⟨#[]⟩, ⟨#[]⟩, ⟨#[98, 46, 116, 101, 115, 116]⟩, 0, ⟨#[]⟩, false, 301⟩ := by simpa using hf
    exact absurd rfl hn.1))
  dsimp only at C1 C2 C3
  rw [ex1] at C1
  rw [ex2] at C2
  rw [ex3] at C3
  dsimp only at C1 C2 C3
  have B2 : Below w.heap.size w ((w.alloc (.cells #[.int .i64 2, .string ⟨#[47, 97]⟩] 30)).alloc (.cells #[.int .i64 1, .string ⟨#[120]⟩, .string ⟨#[49]⟩, .string ⟨#[]⟩, .int .i64 0, .string ⟨#[]⟩, .bool false, .int .i64 0] 26)) := ((Below.refl _ _).alloc (Nat.le_refl _) _).alloc (by simp) _
  go_enter Tryd.func14, Tryd.ntmps14
  go_wp2_with fail
  refine (C1 _ (by have := alloc_new (w.alloc (.cells #[.int .i64 2, .string ⟨#[47, 97]⟩] 30)) (.cells #[.int .i64 1, .string ⟨#[120]⟩, .string ⟨#[49]⟩, .string ⟨#[]⟩, .int .i64 0, .string ⟨#[]⟩, .bool false, .int .i64 0] 26); simpa only [World.size_alloc] using this)).out.mono ?_
  rintro e w1 ⟨⟨r1, aq1, cq1, ah1, ch1⟩, rfl, hy1, own1, hb1⟩
  dsimp only at hy1
  subst hy1
  have kp := (bx2 hb1).1
  have B3 := ((Below.refl _ w1).alloc (Nat.le_refl _) (.cells #[.string ⟨#[]⟩, .string ⟨#[]⟩, .string ⟨#[47, 97]⟩, .slice aq1 0 cq1, .slice ah1 1 ch1] 33)).alloc (by simp) (.cells #[.int .i64 5, .string ⟨#[]⟩, .string ⟨#[]⟩, .string ⟨#[]⟩, .int .i64 0, .string ⟨#[47, 120]⟩, .bool false, .int .i64 0] 26)
  have p0 := cellN (blk_below kp B3) (i := 0) rfl
  have p1 := cellN (blk_below kp B3) (i := 1) rfl
  clear C1
  go_wp2_with fail
  refine (C2 _ _ (by have := alloc_new (w1.alloc (.cells #[.string ⟨#[]⟩, .string ⟨#[]⟩, .string ⟨#[47, 97]⟩, .slice aq1 0 cq1, .slice ah1 1 ch1] 33)) (.cells #[.int .i64 5, .string ⟨#[]⟩, .string ⟨#[]⟩, .string ⟨#[]⟩, .int .i64 0, .string ⟨#[47, 120]⟩, .bool false, .int .i64 0] 26); simpa only [World.size_alloc] using this)).out.mono ?_
  rintro e w2 ⟨⟨r2, aq2, cq2, ah2, ch2⟩, rfl, hy2, own2, hb2⟩
  dsimp only at hy2
  subst hy2
  have kp2 := blk_below kp (bb2 B3 hb2)
  have ky1 := (bx2 hb2).1
  have B4 := ((Below.refl _ w2).alloc (Nat.le_refl _) (.cells #[.string ⟨#[]⟩, .string ⟨#[]⟩, .string ⟨#[47, 120, 47, 98]⟩, .slice aq2 0 cq2, .slice ah2 0 ch2] 33)).alloc (by simp) (.cells #[.int .i64 4, .string ⟨#[]⟩, .string ⟨#[]⟩, .string ⟨#[98, 46, 116, 101, 115, 116]⟩, .int .i64 0, .string ⟨#[]⟩, .bool false, .int .i64 301] 26)
  have P0 := cellN (blk_below kp2 B4) (i := 0) rfl
  have P1 := cellN (blk_below kp2 B4) (i := 1) rfl
  clear C2 p0 p1
  go_wp2_with fail
  refine (C3 _ _ (by have := alloc_new (w2.alloc (.cells #[.string ⟨#[]⟩, .string ⟨#[]⟩, .string ⟨#[47, 120, 47, 98]⟩, .slice aq2 0 cq2, .slice ah2 0 ch2] 33)) (.cells #[.int .i64 4, .string ⟨#[]⟩, .string ⟨#[]⟩, .string ⟨#[98, 46, 116, 101, 115, 116]⟩, .int .i64 0, .string ⟨#[]⟩, .bool false, .int .i64 301] 26); simpa only [World.size_alloc] using this)).out.mono ?_
  rintro e w3 ⟨rfl, hb3⟩
  clear C3 P0 P1
  have ky2 := (bx2 hb3).1
  have ky3 := blk_below ky1 (bb2 B4 hb3)
  have own1' := (own1.below (bb2 B3 hb2)).below (bb2 B4 hb3)
  have hh : Prs w3 (.slice ah1 1 ch1) [(⟨#[120]⟩, ⟨#[49]⟩)] := own1'.at_.2
  have BB := hide (bb2 B2 (bb2 hb1 (bb2 B3 (bb2 hb2 (bb2 B4 hb3)))))
  clear own1 own1' own2
  have V1 := (Below.refl _ w3).alloc (Nat.le_refl _) (.cells #[.int .i64 301, .string ⟨#[104, 116, 116, 112, 115, 58, 47, 47, 98, 46, 116, 101, 115, 116, 47, 97]⟩] 50)
  have V2 := V1.alloc (by simp) (.cells #[.string ⟨#[120]⟩, .string ⟨#[49]⟩] 54)
  have a4 := cellN (blk_below ky3 V1) (i := 4) rfl
  have HX : Prs ((w3.alloc (.cells #[.int .i64 301, .string ⟨#[104, 116, 116, 112, 115, 58, 47, 47, 98, 46, 116, 101, 115, 116, 47, 97]⟩] 50)).alloc (.cells #[.string ⟨#[120]⟩, .string ⟨#[49]⟩] 54)) (.slice (some ⟨w3.heap.size + 1, 0, none⟩) 1 1) [(⟨#[120]⟩, ⟨#[49]⟩)] := by
    have := Prs.at1 (w3.alloc (.cells #[.int .i64 301, .string ⟨#[104, 116, 116, 112, 115, 58, 47, 47, 98, 46, 116, 101, 115, 116, 47, 97]⟩] 50)) (w3.heap.size + 1) (by simp) ⟨#[120]⟩ ⟨#[49]⟩
    exact this
  have CP := hide (psame_any ((w3.alloc (.cells #[.int .i64 301, .string ⟨#[104, 116, 116, 112, 115, 58, 47, 47, 98, 46, 116, 101, 115, 116, 47, 97]⟩] 50)).alloc (.cells #[.string ⟨#[120]⟩, .string ⟨#[49]⟩] 54)) (.slice ah1 1 ch1) _ _ _ (hh.below V2) HX)
  rw [decide_eq_true rfl] at CP
  go_wp2_with fail
  refine CP.out.mono ?_
  rintro e w4 ⟨rfl, hb4⟩
  have kc := (bx2 hb4).1
  have kb2 := blk_below ky2 (bb2 V2 hb4)
  have e2 := cellN kb2 (i := 2) rfl
  have g0 := cellN kc (i := 0) rfl
  have g1 := cellN kc (i := 1) rfl
  have B9 := bb2 BB.out (bb2 V2 hb4)
  go_wp2_with fail
  go_ret
  exact ⟨rfl, B9⟩

end Go.Proofs.YtfoabpkiaihkiaaDoor
namespace Go.Proofs.YtfoabpkiaihkiaaDoor
set_option maxRecDepth 20000
open Go Go.RowKit Go.Shelf Fi

set_option maxHeartbeats 6400000 in
theorem rmay5 (n v h : ByteArray) (p : Int) (t : ByteArray) (b : Bool) (c : Int) (w : World) (ok : OkFi ⟨5, n, v, h, p, t, b, c⟩) :
    Calls Tryd.prog 11 #[fV ⟨5, n, v, h, p, t, b, c⟩] w fun e w' => e = .returned (.bool (mayF ⟨5, n, v, h, p, t, b, c⟩)) ∧ Below w.heap.size w w' := by
  have HR : Hid (mayF ⟨5, n, v, h, p, t, b, c⟩ = (n.toList.isEmpty && (v.toList.isEmpty && (p == 0 && (c == 0 && (turnF ⟨5, n, v, h, p, t, b, c⟩ && !(h.toList.isEmpty && t.toList.isEmpty))))))) := by
    unfold Hid mayF noneF
    simp only [← tl_emp]
    rfl
  have C3 := fun W => hide (turns_any ⟨5, n, v, h, p, t, b, c⟩ W ok)
  generalize turnF ⟨5, n, v, h, p, t, b, c⟩ = x3 at *
  have hsz : h.size ≤ 100 := ok.host
  have tsz : t.size ≤ 100 := ok.path
  have HA : Hid ((!(h.toList.isEmpty && t.toList.isEmpty)) = (!((h ++ t).toList.isEmpty))) := by
    unfold Hid
    rw [Lib.toList_data, Lib.toList_data, Lib.toList_data, app_data]
    cases h.data.toList <;> cases t.data.toList <;> rfl
  clear ok
  generalize mayF ⟨5, n, v, h, p, t, b, c⟩ = r at *
  have m3 : ∀ q : GB (w.alloc (.cells #[.int .i64 5, .string n, .string v, .string h, .int .i64 p, .string t, .bool b, .int .i64 c] 26)), q.W.cell? ⟨w.heap.size, 3, none⟩ = some (.string h) := fun q => (EF_at (boxF (f := ⟨5, n, v, h, p, t, b, c⟩) q.h)).2.2.2.1
  have m5 : ∀ q : GB (w.alloc (.cells #[.int .i64 5, .string n, .string v, .string h, .int .i64 p, .string t, .bool b, .int .i64 c] 26)), q.W.cell? ⟨w.heap.size, 5, none⟩ = some (.string t) := fun q => (EF_at (boxF (f := ⟨5, n, v, h, p, t, b, c⟩) q.h)).2.2.2.2.2.1
  cases hn : n.toList.isEmpty
  · rw [hn] at HR
    rcases none_cases h p t b c with h1 | ⟨h1, h2⟩ | ⟨h1, rfl, h3⟩ | ⟨h1, rfl, h3, rfl⟩ | ⟨h1, rfl, h3, rfl, h5⟩ | ⟨h1, rfl, h3, rfl, rfl⟩
    all_goals (try exact absurd rfl hpe)
    all_goals (try exact absurd rfl hce)
    all_goals (try exact absurd h2 (by decide))
    all_goals (try exact absurd h5 (by decide))
    all_goals
      go_enter Tryd.func11, Tryd.ntmps11
      go_wp2_with fail
      go_ret
      exact ⟨ret_bool HR.out.symm, (Below.refl _ _).alloc (Nat.le_refl _) _⟩
  cases hv : v.toList.isEmpty
  · rw [hn, hv] at HR
    rcases none_cases h p t b c with h1 | ⟨h1, h2⟩ | ⟨h1, rfl, h3⟩ | ⟨h1, rfl, h3, rfl⟩ | ⟨h1, rfl, h3, rfl, h5⟩ | ⟨h1, rfl, h3, rfl, rfl⟩
    all_goals (try exact absurd rfl hpe)
    all_goals (try exact absurd rfl hce)
    all_goals (try exact absurd h2 (by decide))
    all_goals (try exact absurd h5 (by decide))
    all_goals
      go_enter Tryd.func11, Tryd.ntmps11
      go_wp2_with fail
      go_ret
      exact ⟨ret_bool HR.out.symm, (Below.refl _ _).alloc (Nat.le_refl _) _⟩
  by_cases hpe : p = 0
  case neg =>
    have hp : (p == 0) = false := by simpa using hpe
    rw [hn, hv, hp] at HR
    rcases none_cases h p t b c with h1 | ⟨h1, h2⟩ | ⟨h1, rfl, h3⟩ | ⟨h1, rfl, h3, rfl⟩ | ⟨h1, rfl, h3, rfl, h5⟩ | ⟨h1, rfl, h3, rfl, rfl⟩
    all_goals (try exact absurd rfl hpe)
    all_goals (try exact absurd rfl hce)
    all_goals (try exact absurd h2 (by decide))
    all_goals (try exact absurd h5 (by decide))
    all_goals
      go_enter Tryd.func11, Tryd.ntmps11
      go_wp2_with fail
      go_ret
      exact ⟨ret_bool HR.out.symm, (Below.refl _ _).alloc (Nat.le_refl _) _⟩
  subst hpe
  by_cases hce : c = 0
  case neg =>
    have hc : (c == 0) = false := by simpa using hce
    rw [hn, hv, hc] at HR
    rcases none_cases h 0 t b c with h1 | ⟨h1, h2⟩ | ⟨h1, _, h3⟩ | ⟨h1, _, h3, rfl⟩ | ⟨h1, _, h3, rfl, h5⟩ | ⟨h1, _, h3, rfl, rfl⟩
    all_goals (try exact absurd rfl hpe)
    all_goals (try exact absurd rfl hce)
    all_goals (try exact absurd h2 (by decide))
    all_goals (try exact absurd h5 (by decide))
    all_goals
      go_enter Tryd.func11, Tryd.ntmps11
      go_wp2_with fail
      go_ret
      exact ⟨ret_bool HR.out.symm, (Below.refl _ _).alloc (Nat.le_refl _) _⟩
  subst hce
  rw [hn, hv] at HR
  cases x3
  · rcases none_cases h 0 t b 0 with h1 | ⟨h1, h2⟩ | ⟨h1, _, h3⟩ | ⟨h1, _, h3, rfl⟩ | ⟨h1, _, h3, rfl, h5⟩ | ⟨h1, _, h3, rfl, _⟩
    all_goals (try exact absurd rfl hpe)
    all_goals (try exact absurd rfl hce)
    all_goals (try exact absurd h2 (by decide))
    all_goals (try exact absurd h5 (by decide))
    all_goals
      go_enter Tryd.func11, Tryd.ntmps11
      go_wp2_with fail
      refine (calls_gb0 ((C3 _).out)).mono ?_
      rintro e x ⟨rfl, q, rfl⟩
      go_wp2_with fail
      go_ret
      exact ⟨ret_bool HR.out.symm, below_box q.h⟩
  rw [HA.out] at HR
  rcases none_cases h 0 t b 0 with h1 | ⟨h1, h2⟩ | ⟨h1, _, h3⟩ | ⟨h1, _, h3, rfl⟩ | ⟨h1, _, h3, rfl, h5⟩ | ⟨h1, _, h3, rfl, _⟩
  all_goals (try exact absurd rfl hpe)
  all_goals (try exact absurd rfl hce)
  all_goals (try exact absurd h2 (by decide))
  all_goals (try exact absurd h5 (by decide))
  all_goals
    go_enter Tryd.func11, Tryd.ntmps11
    go_wp2_with fail
    refine (calls_gb0 ((C3 _).out)).mono ?_
    rintro e x ⟨rfl, q, rfl⟩
    go_wp2_with fail
    go_ret
    exact ⟨ret_bool HR.out.symm, below_box q.h⟩

theorem rmay_any (f : FB) (w : World) (ok : OkFi f) :
    Calls Tryd.prog 11 #[fV f] w fun e w' => e = .returned (.bool (mayF f)) ∧ Below w.heap.size w w' := by
  obtain ⟨k, n, v, h, p, t, b, c⟩ := f
  cases h1 : (k == 1)
  · cases h2 : (k == 2)
    · cases h3 : (k == 3)
      · cases h4 : (k == 4)
        · cases h5 : (k == 5)
          · exact rmay0 k n v h p t b c w h1 h2 h3 h4 h5
          · obtain rfl : k = 5 := eq_of_beq h5
            exact rmay5 n v h p t b c w ok
        · obtain rfl : k = 4 := eq_of_beq h4
          exact rmay4 n v h p t b c w ok
      · obtain rfl : k = 3 := eq_of_beq h3
        exact rmay3 n v h p t b c w ok
    · obtain rfl : k = 2 := eq_of_beq h2
      exact rmay2 n v h p t b c w ok
  · obtain rfl : k = 1 := eq_of_beq h1
    exact rmay1 n v h p t b c w ok

end Go.Proofs.YtfoabpkiaihkiaaDoor
namespace Go.Proofs.YtfoabpkiaihkiaaDoor
set_option maxRecDepth 20000
open Go Go.RowKit Go.Shelf Fi

attribute [local go_sem] gb_const

/-- the first k may be, and no two of them are of one kind and one name -/
def FarF (l : List FB) (k : Nat) : Prop := ∀ j (hj : j < l.length), j < k → mayF l[j] = true ∧ ∀ i (hi : i < j), clash (l[i]'(by omega)) l[j] = false
theorem far_endF {l : List FB} (h : FarF l l.length) : allF l = (decide (turned l ≤ 1) && decide (l.length ≤ 8)) := by
  have hp : l.Pairwise fun f g => clash f g = false := by
    rw [List.pairwise_iff_getElem]
    intro i j hi hj hij
    exact (h j hj hj).2 i hij
  have hm : l.all mayF = true := by
    rw [List.all_eq_true]
    intro f hf
    obtain ⟨j, hj, rfl⟩ := List.getElem_of_mem hf
    exact (h j hj hj).1
  unfold allF
  rw [hm, decide_eq_true hp]
  cases decide (l.length ≤ 8) <;> cases decide (turned l ≤ 1) <;> rfl
theorem clash_noF {l : List FB} {i j : Nat} (hj : j < l.length) (hi : i < j) (h : clash (l[i]'(by omega)) l[j] = true) : allF l = false := by
  refine fall_no hj (.inr (List.any_eq_true.2 ⟨l[i]'(by omega), List.mem_take_iff_getElem.2 ⟨i, by omega, rfl⟩, ?_⟩))
  unfold clashG
  rw [clash_comm, h, Bool.or_true]
theorem turned_take {l : List FB} {k : Nat} (hk : k < l.length) : turned (l.take (k + 1)) = turned (l.take k) + if 3 < l[k].kind then 1 else 0 := by
  rw [take_snocF hk, turned_snoc]
theorem turned_le (l : List FB) : turned l ≤ l.length := List.length_filter_le _ _

set_option maxHeartbeats 6400000 in
theorem frall_any (v : Value) (l : List FB) (w : World) (hv : Sl EF w v l) (ok : ∀ f ∈ l, OkFi f) (hl9 : l.length ≤ 1000) :
    Calls Tryd.prog 13 #[v] w fun e w' => e = .returned (.bool (allF l)) ∧ Below w.heap.size w w' := by
  have hlen := hv.len
  obtain ⟨a, cap, rfl, hcap, hmax, hc⟩ := hv
  have HC := hide hc
  have HOK := hide ok
  clear hc ok
  go_enter Tryd.func13, Tryd.ntmps13
  go_wp2_with fail
  go_loopw [3, 4] (fun t i wr => ∃ k : Nat, k ≤ l.length ∧ i = .int .i64 k ∧ t = .int .i64 (turned (l.take k) : Nat) ∧ Hid (FarF l k) ∧ Below w.heap.size w wr) (fun _ i _ => l.length - (intOf i).toNat)
  case atStart => exact ⟨0, Nat.zero_le _, rfl, rfl, fun _ _ h => absurd h (by omega), Below.refl _ _⟩
  case round =>
    obtain ⟨k, hk, rfl, rfl, hno, hB⟩ := hrel
    have htl : turned (l.take k) ≤ 1000 := by
      have := turned_le (l.take k)
      simp at this
      omega
    by_cases hlt : k < l.length
    · have hlt' : (k : Int) < (l.length : Int) := by omega
      obtain ⟨_, gg, off, rfl, hgg, hat⟩ := HC.out k hlt
      have ELk := fun W (h : Below w.heap.size w W) => EF_at (show EF.At W gg (off + k * 8) l[k] from fun j u hu => (h.cell (p := ⟨gg, off + k * 8 + j, none⟩) hgg).trans (hat j u hu))
      obtain ⟨c0, c1, c2, c3, c4, c5, c6, c7⟩ := ELk wr hB
      have okk := HOK.out l[k] (List.getElem_mem hlt)
      have C1 := hide (rmay_any l[k] wr okk)
      have HT := hide (turned_take hlt)
      have HEL := hide ELk
      clear hat ELk
      cases hm : mayF l[k]
      · have HR : Hid (false = allF l) := (fall_no hlt (.inl hm)).symm
        rw [hm] at C1
        clear hm HT HEL
        generalize l[k] = fk at *
        obtain ⟨k0, n0, v0, h0, p0, t0, b0, z0⟩ := fk
        dsimp only at *
        go_wp2_with fail
        refine (C1.out).mono ?_
        rintro e w1 ⟨rfl, hb1⟩
        go_wp2_with fail
        go_ret
        exact ⟨ret_bool HR.out, bb2 hB hb1⟩
      have HM := hide hm
      rw [hm] at C1
      clear hm
      have INNER : ∀ (w1 : World), Below w.heap.size w w1 → Hid (∀ W, Below w1.heap.size w1 W → W.cell? ⟨gg, off + k * 8, none⟩ = some (.int .i64 l[k].kind) ∧ W.cell? ⟨gg, off + k * 8 + 1, none⟩ = some (.string l[k].name)) := fun w1 h1 W h => ⟨(HEL.out W (bb2 h1 h)).1, (HEL.out W (bb2 h1 h)).2.1⟩
      have HNX : Hid ((∀ i (hi : i < k), clash (l[i]'(by omega)) l[k] = false) → FarF l (k + 1)) := fun h j hj hjk => by
        rcases Nat.lt_or_ge j k with h1 | h1
        · exact hno.out j hj h1
        · obtain rfl : j = k := by omega
          exact ⟨HM.out, h⟩
      have HNO : Hid (∀ i (hi : i < k), clash (l[i]'(by omega)) l[k] = true → false = allF l) := fun i hi h => (clash_noF hlt hi h).symm
      have HCL : Hid (∀ i (hi : i < l.length), clash l[i] l[k] = (l[i].kind == l[k].kind && sameF l[i].name l[k].name)) := fun i hi => rfl
      have okn := okk.name
      clear HEL okk
      by_cases hk3 : 3 < l[k].kind
      · have hk3' : (3 : Int) < l[k].kind := hk3
        have HT2 : Hid (((turned (l.take k) : Nat) : Int) + 1 = ((turned (l.take (k + 1)) : Nat) : Int)) := by
          show _ = _
          rw [HT.out, if_pos hk3]
          omega
        have hwt : IntKind.i64.wrap (((turned (l.take k) : Nat) : Int) + 1) = ((turned (l.take (k + 1)) : Nat) : Int) := by rw [IntKind.wrap_i64, ← HT2.out]; omega
        clear HT HT2 hk3
        generalize ht1 : turned (l.take (k + 1)) = t1 at *
        have HT1 := hide ht1
        clear ht1
        generalize turned (l.take k) = t0' at *
        generalize hfk : l[k] = fk at *
        obtain ⟨k0, n0, v0, h0, p0, t0, b0, z0⟩ := fk
        dsimp only at *
        clear hfk
        go_wp2_with fail
        refine C1.out.mono ?_
        rintro e w1 ⟨rfl, hb1⟩
        have CK := INNER w1 (bb2 hB hb1)
        obtain ⟨c0', c1'⟩ := CK.out w1 (Below.refl _ _)
        clear C1 c0 c1 c2 c3 c4 c5 c6 c7
        go_wp2_with fail
        go_loopw [5] (fun i wr => ∃ m : Nat, m ≤ k ∧ i = .int .i64 m ∧ Hid (∀ i (hi : i < m) (hik : i < k), clash (l[i]'(by omega)) ⟨k0, n0, v0, h0, p0, t0, b0, z0⟩ = false) ∧ Below w1.heap.size w1 wr) (fun i _ => k - (intOf i).toNat)
        case atStart => exact ⟨0, Nat.zero_le _, rfl, fun _ h => absurd h (by omega), Below.refl _ _⟩
        case round =>
          obtain ⟨m, hm, rfl, hnm, hB2⟩ := hrel
          by_cases hml : m < k
          · have hml' : (m : Int) < (k : Int) := by omega
            have hmL : (m : Int) < (l.length : Int) := by omega
            obtain ⟨_, g2, off2, he2, hg2, hat2⟩ := HC.out m (by omega)
            injection he2 with he2
            injection he2 with e1 e2
            subst e1 e2
            have D0 := fun q : GB wr => (EF_at (show EF.At q.W gg (off + m * 8) (l[m]'(by omega)) from fun j u hu => ((bb2 (bb2 hB hb1) (bb2 hB2 q.h)).cell (p := ⟨gg, off + m * 8 + j, none⟩) hg2).trans (hat2 j u hu)))
            have d0 := fun q : GB wr => (D0 q).1
            have d1 := fun q : GB wr => (D0 q).2.1
            have g0 := fun q : GB wr => (CK.out q.W (bb2 hB2 q.h)).1
            have g1 := fun q : GB wr => (CK.out q.W (bb2 hB2 q.h)).2
            have CS := fun W => hide (rprSame_any (l[m]'(by omega)).name n0 W (HOK.out _ (List.getElem_mem _)).name okn)
            have HCm := hide (HCL.out m (by omega))
            have HNm := hide (HNO.out m hml)
            have HXm : Hid (clash (l[m]'(by omega)) ⟨k0, n0, v0, h0, p0, t0, b0, z0⟩ = false → ∀ i (hi : i < m + 1) (hik : i < k), clash (l[i]'(by omega)) ⟨k0, n0, v0, h0, p0, t0, b0, z0⟩ = false) := fun h i hi hik => by
              rcases Nat.lt_or_ge i m with h1 | h1
              · exact hnm.out i h1 hik
              · obtain rfl : i = m := by omega
                exact h
            clear D0 hat2
            generalize hcl : clash (l[m]'(by omega)) ⟨k0, n0, v0, h0, p0, t0, b0, z0⟩ = cl at *
            clear hcl
            generalize (l[m]'(by omega)).kind = mk at *
            generalize (l[m]'(by omega)).name = mn at *
            cases hkk : (mk == k0)
            · have HZ : Hid (cl = false) := by rw [HCm.out, hkk]; rfl
              have HX2 := hide (HXm.out HZ.out)
              go_wp2_with fail
              refine wp_region_below (by kernel_rfl) (by kernel_rfl) ?_
              repeat (first | go_big_quiet_step (fail) | quiet_step (fail))
              refine wpQuiet_nil ?_
              intro _ hw'
              obtain ⟨qq, hw2⟩ := hw'
              subst hw2
              have hq := qq.h
              go_wp2_with fail
              exact ⟨⟨m + 1, by omega, by go_num, HX2.out, bb2 hB2 hq⟩, by simp [intOf]; omega⟩
            · cases hs : sameF mn n0
              · have HZ : Hid (cl = false) := by rw [HCm.out, hkk, hs]; rfl
                have HX2 := hide (HXm.out HZ.out)
                rw [hs] at CS
                clear hs
                go_wp2_with fail
                refine wp_region_below (by kernel_rfl) (by kernel_rfl) ?_
                repeat (first | go_big_quiet_step ((go_at_call 19; exact calls_gb (CS _).out)) | quiet_step ((go_at_call 19; exact calls_gb (CS _).out)))
                refine wpQuiet_nil ?_
                intro _ hw'
                obtain ⟨qq, hw2⟩ := hw'
                subst hw2
                have hq := qq.h
                go_wp2_with fail
                exact ⟨⟨m + 1, by omega, by go_num, HX2.out, bb2 hB2 hq⟩, by simp [intOf]; omega⟩
              · have HZ : Hid (cl = true) := by rw [HCm.out, hkk, hs]; rfl
                have HR := hide (HNm.out HZ.out)
                rw [hs] at CS
                clear hs
                go_wp2_with fail
                refine wp_region_below (by kernel_rfl) (by kernel_rfl) ?_
                repeat (first | go_big_quiet_step ((go_at_call 19; exact calls_gb (CS _).out)) | quiet_step ((go_at_call 19; exact calls_gb (CS _).out)))
                refine wpQuiet_nil ?_
                intro _ hw'
                obtain ⟨qq, hw2⟩ := hw'
                subst hw2
                have hq := qq.h
                go_wp2_with fail
                go_ret
                exact ⟨ret_bool HR.out, bb2 (bb2 hB hb1) (bb2 hB2 hq)⟩
          · have hml' : ¬ (m : Int) < (k : Int) := by omega
            have HF := hide (HNX.out (fun i hi => hnm.out i (by omega) hi))
            go_wp2_with fail
            exact ⟨⟨k + 1, by omega, by go_num, by rw [HT1.out], HF.out, bb2 (bb2 hB hb1) hB2⟩, by simp [intOf]; omega⟩
      · have hk3' : ¬ (3 : Int) < l[k].kind := hk3
        have HT2 : Hid (turned (l.take k) = turned (l.take (k + 1))) := by
          show _ = _
          rw [HT.out, if_neg hk3]
          rfl
        rw [HT2.out]
        clear HT hk3 htl
        generalize ht1 : turned (l.take (k + 1)) = t1 at *
        have HT1 := hide ht1
        clear ht1
        generalize hfk : l[k] = fk at *
        obtain ⟨k0, n0, v0, h0, p0, t0, b0, z0⟩ := fk
        dsimp only at *
        clear hfk HT2
        go_wp2_with fail
        refine C1.out.mono ?_
        rintro e w1 ⟨rfl, hb1⟩
        have CK := INNER w1 (bb2 hB hb1)
        obtain ⟨c0', c1'⟩ := CK.out w1 (Below.refl _ _)
        clear C1 c0 c1 c2 c3 c4 c5 c6 c7
        go_wp2_with fail
        go_loopw [5] (fun i wr => ∃ m : Nat, m ≤ k ∧ i = .int .i64 m ∧ Hid (∀ i (hi : i < m) (hik : i < k), clash (l[i]'(by omega)) ⟨k0, n0, v0, h0, p0, t0, b0, z0⟩ = false) ∧ Below w1.heap.size w1 wr) (fun i _ => k - (intOf i).toNat)
        case atStart => exact ⟨0, Nat.zero_le _, rfl, fun _ h => absurd h (by omega), Below.refl _ _⟩
        case round =>
          obtain ⟨m, hm, rfl, hnm, hB2⟩ := hrel
          by_cases hml : m < k
          · have hml' : (m : Int) < (k : Int) := by omega
            have hmL : (m : Int) < (l.length : Int) := by omega
            obtain ⟨_, g2, off2, he2, hg2, hat2⟩ := HC.out m (by omega)
            injection he2 with he2
            injection he2 with e1 e2
            subst e1 e2
            have D0 := fun q : GB wr => (EF_at (show EF.At q.W gg (off + m * 8) (l[m]'(by omega)) from fun j u hu => ((bb2 (bb2 hB hb1) (bb2 hB2 q.h)).cell (p := ⟨gg, off + m * 8 + j, none⟩) hg2).trans (hat2 j u hu)))
            have d0 := fun q : GB wr => (D0 q).1
            have d1 := fun q : GB wr => (D0 q).2.1
            have g0 := fun q : GB wr => (CK.out q.W (bb2 hB2 q.h)).1
            have g1 := fun q : GB wr => (CK.out q.W (bb2 hB2 q.h)).2
            have CS := fun W => hide (rprSame_any (l[m]'(by omega)).name n0 W (HOK.out _ (List.getElem_mem _)).name okn)
            have HCm := hide (HCL.out m (by omega))
            have HNm := hide (HNO.out m hml)
            have HXm : Hid (clash (l[m]'(by omega)) ⟨k0, n0, v0, h0, p0, t0, b0, z0⟩ = false → ∀ i (hi : i < m + 1) (hik : i < k), clash (l[i]'(by omega)) ⟨k0, n0, v0, h0, p0, t0, b0, z0⟩ = false) := fun h i hi hik => by
              rcases Nat.lt_or_ge i m with h1 | h1
              · exact hnm.out i h1 hik
              · obtain rfl : i = m := by omega
                exact h
            clear D0 hat2
            generalize hcl : clash (l[m]'(by omega)) ⟨k0, n0, v0, h0, p0, t0, b0, z0⟩ = cl at *
            clear hcl
            generalize (l[m]'(by omega)).kind = mk at *
            generalize (l[m]'(by omega)).name = mn at *
            cases hkk : (mk == k0)
            · have HZ : Hid (cl = false) := by rw [HCm.out, hkk]; rfl
              have HX2 := hide (HXm.out HZ.out)
              go_wp2_with fail
              refine wp_region_below (by kernel_rfl) (by kernel_rfl) ?_
              repeat (first | go_big_quiet_step (fail) | quiet_step (fail))
              refine wpQuiet_nil ?_
              intro _ hw'
              obtain ⟨qq, hw2⟩ := hw'
              subst hw2
              have hq := qq.h
              go_wp2_with fail
              exact ⟨⟨m + 1, by omega, by go_num, HX2.out, bb2 hB2 hq⟩, by simp [intOf]; omega⟩
            · cases hs : sameF mn n0
              · have HZ : Hid (cl = false) := by rw [HCm.out, hkk, hs]; rfl
                have HX2 := hide (HXm.out HZ.out)
                rw [hs] at CS
                clear hs
                go_wp2_with fail
                refine wp_region_below (by kernel_rfl) (by kernel_rfl) ?_
                repeat (first | go_big_quiet_step ((go_at_call 19; exact calls_gb (CS _).out)) | quiet_step ((go_at_call 19; exact calls_gb (CS _).out)))
                refine wpQuiet_nil ?_
                intro _ hw'
                obtain ⟨qq, hw2⟩ := hw'
                subst hw2
                have hq := qq.h
                go_wp2_with fail
                exact ⟨⟨m + 1, by omega, by go_num, HX2.out, bb2 hB2 hq⟩, by simp [intOf]; omega⟩
              · have HZ : Hid (cl = true) := by rw [HCm.out, hkk, hs]; rfl
                have HR := hide (HNm.out HZ.out)
                rw [hs] at CS
                clear hs
                go_wp2_with fail
                refine wp_region_below (by kernel_rfl) (by kernel_rfl) ?_
                repeat (first | go_big_quiet_step ((go_at_call 19; exact calls_gb (CS _).out)) | quiet_step ((go_at_call 19; exact calls_gb (CS _).out)))
                refine wpQuiet_nil ?_
                intro _ hw'
                obtain ⟨qq, hw2⟩ := hw'
                subst hw2
                have hq := qq.h
                go_wp2_with fail
                go_ret
                exact ⟨ret_bool HR.out, bb2 (bb2 hB hb1) (bb2 hB2 hq)⟩
          · have hml' : ¬ (m : Int) < (k : Int) := by omega
            have HF := hide (HNX.out (fun i hi => hnm.out i (by omega) hi))
            go_wp2_with fail
            exact ⟨⟨k + 1, by omega, by go_num, by rw [HT1.out], HF.out, bb2 (bb2 hB hb1) hB2⟩, by simp [intOf]; omega⟩
    · have hlt' : ¬ (k : Int) < (l.length : Int) := by omega
      have hkl : k = l.length := by omega
      subst hkl
      rw [List.take_length] at *
      have HE := hide (far_endF hno.out)
      by_cases ht1 : turned l ≤ 1
      · have ht1' : ((turned l : Nat) : Int) ≤ 1 := by omega
        have HR : Hid (decide ((l.length : Int) ≤ 8) = allF l) := by
          show _ = _
          rw [HE.out, decide_eq_true ht1, Bool.true_and]
          exact decide_eq_decide.2 (by omega)
        go_wp2_with fail
        go_ret
        exact ⟨ret_bool HR.out, hB⟩
      · have ht1' : ¬ ((turned l : Nat) : Int) ≤ 1 := by omega
        have HR : Hid (false = allF l) := by
          show _ = _
          rw [HE.out, decide_eq_false ht1]
          rfl
        go_wp2_with fail
        go_ret
        exact ⟨ret_bool HR.out, hB⟩

end Go.Proofs.YtfoabpkiaihkiaaDoor
namespace Go.Proofs.YtfoabpkiaihkiaaDoor
set_option maxRecDepth 20000
open Go Go.RowKit Go.Shelf Fi

attribute [local go_sem] gb_const

set_option maxHeartbeats 6400000 in
theorem mays_law (v0 : Value) (w : World) (h0 : ArgFs w v0) :
    Calls Tryd.prog 3 #[v0] w fun e w' => e = .returned (.bool true) ∧ Below w.heap.size w w' := by
  obtain ⟨l0, hat0, raw0⟩ := h0
  go_enter Tryd.func3, Tryd.ntmps3
  go_wp2_with fail
  refine (ffew_any v0 l0 w hat0 raw0).mono ?_
  rintro e w1 ⟨u1, rfl, row1, hb1⟩
  have ok1 := someF_ok l0
  have len1 := someF_len l0
  generalize someF l0 = L at *
  have mt := Sl.of_row (E := EF) rfl row1 (fun _ _ => trivial)
  clear row1 hat0 raw0
  have HM := hide mt
  have hlen := mt.len
  obtain ⟨ad, cap, rfl, hle1, hle2, hc⟩ := mt
  have HC := hide hc
  have HOK := hide ok1
  clear hc ok1
  go_wp2_with fail
  go_loopw [3] (fun i wr => ∃ k : Nat, k ≤ L.length ∧ i = .int .i64 k ∧ Below w1.heap.size w1 wr) (fun i _ => L.length - (intOf i).toNat)
  case atStart => exact ⟨0, Nat.zero_le _, rfl, Below.refl _ _⟩
  case round =>
    obtain ⟨k, hk, rfl, hB⟩ := hrel
    by_cases hlt : k < L.length
    · have hlt' : (k : Int) < (L.length : Int) := by omega
      obtain ⟨_, gg, off, rfl, hgg, hat⟩ := HC.out k hlt
      have D0 := fun q : GB wr => (EF_at (show EF.At q.W gg (off + k * 8) L[k] from fun j u hu => ((bb2 hB q.h).cell (p := ⟨gg, off + k * 8 + j, none⟩) hgg).trans (hat j u hu)))
      have okk := HOK.out L[k] (List.getElem_mem hlt)
      have C1 := fun W => hide (fmay_any L[k] W okk)
      have C2 := fun W => hide (rmay_any L[k] W okk)
      clear hat okk
      generalize mayF L[k] = bm at *
      generalize L[k] = fk at *
      obtain ⟨k0, n0, v0, h0, p0, t0, b0, z0⟩ := fk
      dsimp only at *
      have c0 := fun q : GB wr => (D0 q).1
      have c1 := fun q : GB wr => (D0 q).2.1
      have c2 := fun q : GB wr => (D0 q).2.2.1
      have c3 := fun q : GB wr => (D0 q).2.2.2.1
      have c4 := fun q : GB wr => (D0 q).2.2.2.2.1
      have c5 := fun q : GB wr => (D0 q).2.2.2.2.2.1
      have c6 := fun q : GB wr => (D0 q).2.2.2.2.2.2.1
      have c7 := fun q : GB wr => (D0 q).2.2.2.2.2.2.2
      clear D0
      cases bm
      all_goals
        go_wp2_with fail
        refine wp_region_below (by kernel_rfl) (by kernel_rfl) ?_
        repeat (first | go_big_quiet_step (first | (go_at_call 10; exact calls_gb (C1 _).out) | (go_at_call 11; exact calls_gb (C2 _).out)) | quiet_step (first | (go_at_call 10; exact calls_gb (C1 _).out) | (go_at_call 11; exact calls_gb (C2 _).out)))
        refine wpQuiet_nil ?_
        intro _ hw'
        obtain ⟨qq, hw2⟩ := hw'
        subst hw2
        have hq := qq.h
        go_wp2_with fail
        exact ⟨⟨k + 1, by omega, by go_num, bb2 hB hq⟩, by simp [intOf]; omega⟩
    · have hlt' : ¬ (k : Int) < (L.length : Int) := by omega
      have E1 := hide (fall_any (.slice ad L.length cap) L wr (HM.out.below hB) HOK.out)
      have E2 := fun W (h : Below wr.heap.size wr W) => hide (frall_any (.slice ad L.length cap) L W (HM.out.below (bb2 hB h)) HOK.out (by omega))
      generalize allF L = ba at *
      cases ba
      all_goals
        go_wp2_with fail
        refine (E1.out).mono ?_
        rintro e w2 ⟨rfl, hb2⟩
        go_wp2_with fail
        refine ((E2 _ hb2).out).mono ?_
        rintro e w3 ⟨rfl, hb3⟩
        go_wp2_with fail
        refine (fawake_any _).mono ?_
        rintro e w4 ⟨rfl, hb4⟩
        go_wp2_with fail
        go_ret
        exact ⟨rfl, bb2 hb1 (bb2 hB (bb2 (bb2 hb2 hb3) hb4))⟩

end Go.Proofs.YtfoabpkiaihkiaaDoor
