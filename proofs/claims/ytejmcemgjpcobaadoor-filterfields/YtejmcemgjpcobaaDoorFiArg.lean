/-
  Arguments: filters, a filter, a path, a request, what is asked.
-/
import Derived.Test.YtejmcemgjpcobaaDoorFiLawA
import Derived.Test.YtejmcemgjpcobaaDoorRuArg
namespace Go.Proofs.YtejmcemgjpcobaaDoor
set_option maxRecDepth 20000
open Go Go.RowKit Go.Shelf Go.ChangeShapes Go.WideShapes Go.Deep

theorem array8 {α : Type} {cs : Array α} (h : cs.size = 8) : ∃ c0 c1 c2 c3 c4 c5 c6 c7, cs = #[c0, c1, c2, c3, c4, c5, c6, c7] := by
  obtain ⟨l⟩ := cs
  match l, h with
  | [c0, c1, c2, c3, c4, c5, c6, c7], _ => exact ⟨c0, c1, c2, c3, c4, c5, c6, c7, rfl⟩
theorem array9 {α : Type} {cs : Array α} (h : cs.size = 9) : ∃ c0 c1 c2 c3 c4 c5 c6 c7 c8, cs = #[c0, c1, c2, c3, c4, c5, c6, c7, c8] := by
  obtain ⟨l⟩ := cs
  match l, h with
  | [c0, c1, c2, c3, c4, c5, c6, c7, c8], _ => exact ⟨c0, c1, c2, c3, c4, c5, c6, c7, c8, rfl⟩
theorem array2' {α : Type} {cs : Array α} (h : cs.size = 2) : ∃ c0 c1, cs = #[c0, c1] := by
  obtain ⟨l⟩ := cs
  match l, h with
  | [c0, c1], _ => exact ⟨c0, c1, rfl⟩

theorem Tryd.cells3' : Tryd.prog.cellsOf 3 = 1 := by kernel_rfl
theorem Tryd.cells4' : Tryd.prog.cellsOf 4 = 1 := by kernel_rfl
theorem Tryd.cellsP' : Tryd.prog.cellsOf 24 = 2 := by kernel_rfl
theorem Tryd.cellsR' : Tryd.prog.cellsOf 27 = 5 := by kernel_rfl
theorem Tryd.cellsS' : Tryd.prog.cellsOf 25 = 1 := by kernel_rfl
theorem Tryd.cellsF' : Tryd.prog.cellsOf 22 = 1 := by kernel_rfl
theorem Tryd.cellsE' : Tryd.prog.cellsOf 36 = 8 := by kernel_rfl

theorem filter_trod {H : Type} {enc : TypeId × Value → H} {W : World} {fuel : Nat} {c0 c1 c2 c3 c4 c5 c6 c7 : Value} {y : DataW H × List MemPlace} (h : DataW.trod enc Tryd.prog W 0 (fun _ => true) true fuel 36 [c0, c1, c2, c3, c4, c5, c6, c7] = some y) :
    ∃ f : FB, [c0, c1, c2, c3, c4, c5, c6, c7] = fcells f ∧ RawF f := by
  obtain ⟨xs, n, hn, _, _, hxl, hp⟩ := DataW.trod_struct Tryd.underlying36 h
  match xs, hxl with
  | [y0, y1, y2, y3, y4, y5, y6, y7], _ =>
    have h0 := hp 0 _ rfl
    have h1 := hp 1 _ rfl
    have h2 := hp 2 _ rfl
    have h3 := hp 3 _ rfl
    have h4 := hp 4 _ rfl
    have h5 := hp 5 _ rfl
    have h6 := hp 6 _ rfl
    have h7 := hp 7 _ rfl
    simp [Tryd.cells3', Tryd.cells4', Tryd.cells9] at h0 h1 h2 h3 h4 h5 h6 h7
    obtain ⟨k, e0, _, _⟩ := DataW.trod_int Tryd.underlying3 h0
    obtain ⟨s1, e1, _, z1⟩ := DataW.trod_string Tryd.underlying9 h1
    obtain ⟨s2, e2, _, z2⟩ := DataW.trod_string Tryd.underlying9 h2
    obtain ⟨s3, e3, _, z3⟩ := DataW.trod_string Tryd.underlying9 h3
    obtain ⟨p, e4, _, _⟩ := DataW.trod_int Tryd.underlying3 h4
    obtain ⟨s5, e5, _, z5⟩ := DataW.trod_string Tryd.underlying9 h5
    obtain ⟨b, e6, _⟩ := DataW.trod_bool Tryd.underlying4 h6
    obtain ⟨c, e7, _, _⟩ := DataW.trod_int Tryd.underlying3 h7
    simp only [List.cons.injEq, and_true] at e0 e1 e2 e3 e4 e5 e6 e7
    subst e0 e1 e2 e3 e4 e5 e6 e7
    exact ⟨⟨k, s1, s2, s3, p, s5, b, c⟩, rfl, ⟨z1, z2, z3, z5⟩⟩

/-- a filter that came in -/
def ArgF (_ : World) (v : Value) : Prop := ∃ f : FB, v = fV f ∧ RawF f
/-- filters that came in -/
def ArgFs (W : World) (v : Value) : Prop := ∃ l : List FB, Sl EF W v l ∧ ∀ f ∈ l, RawF f
/-- a path that came in -/
def ArgPt (_ : World) (v : Value) : Prop := ∃ (k : Int) (s : ByteArray), v = .agg #[.int .i64 k, .string s] ∧ s.size ≤ maxLen
/-- what is asked -/
def ArgAk (W : World) (v : Value) : Prop := ∃ (vl : Value) (l : List FB) (k : Int) (s : ByteArray) (x : RV) (b : Bool), v = .agg #[vl, .int .i64 k, .string s, .string x.r.meth, .string x.r.host, .string x.r.path, x.vq, x.vh, .bool b] ∧ Sl EF W vl l ∧ (∀ f ∈ l, RawF f) ∧ s.size ≤ maxLen ∧ x.at_ W ∧ RawR x.r

theorem argF_open {H : Type} {enc : TypeId × Value → H} {W : World} {base : Nat} {v : Value} {d : DataW H} {ps : List MemPlace} (hval : Value.okWide Tryd.prog W .any base 36 v)
    (h : DataW.Trod enc Tryd.prog W 0 (fun _ => true) true 36 v d ps) : ArgF W v := by
  obtain ⟨cs, rfl, hsz⟩ := okWide_struct Tryd.underlying36 hval
  obtain ⟨c0, c1, c2, c3, c4, c5, c6, c7, rfl⟩ := array8 (hsz.trans (by kernel_rfl))
  obtain ⟨fuel, hf⟩ := h
  obtain ⟨f, hf2, hr⟩ := filter_trod hf
  refine ⟨f, ?_, hr⟩
  simp only [fcells, List.cons.injEq, and_true] at hf2
  obtain ⟨rfl, rfl, rfl, rfl, rfl, rfl, rfl, rfl⟩ := hf2
  rfl

theorem filters_trod {H : Type} {enc : TypeId × Value → H} {W : World} {fuel : Nat} {v : Value} {y : DataW H × List MemPlace} (h : DataW.trod enc Tryd.prog W 0 (fun _ => true) true fuel 22 [v] = some y) :
    ∃ l : List FB, Sl EF W v l ∧ ∀ f ∈ l, RawF f := by
  refine sl_trod Tryd.underlying22 Tryd.cellsE' (fun fuel cs y hl hy => ?_) ⟨⟨0, ⟨#[]⟩, ⟨#[]⟩, ⟨#[]⟩, 0, ⟨#[]⟩, false, 0⟩⟩ h
  match cs, hl with
  | [c0, c1, c2, c3, c4, c5, c6, c7], _ =>
    obtain ⟨f, hf, hr⟩ := filter_trod hy
    exact ⟨f, hf, trivial, hr⟩

theorem argFs_open {H : Type} {enc : TypeId × Value → H} {W : World} {base : Nat} {v : Value} {d : DataW H} {ps : List MemPlace} (hval : Value.okWide Tryd.prog W .any base 22 v)
    (h : DataW.Trod enc Tryd.prog W 0 (fun _ => true) true 22 v d ps) : ArgFs W v := by
  obtain ⟨a0, len0, cap0, rfl⟩ := okWide_slice Tryd.underlying22 hval
  obtain ⟨fuel, hf⟩ := h
  exact filters_trod hf

theorem argPt_open {H : Type} {enc : TypeId × Value → H} {W : World} {base : Nat} {v : Value} {d : DataW H} {ps : List MemPlace} (hval : Value.okWide Tryd.prog W .any base 24 v)
    (h : DataW.Trod enc Tryd.prog W 0 (fun _ => true) true 24 v d ps) : ArgPt W v := by
  obtain ⟨cs, rfl, hsz⟩ := okWide_struct Tryd.underlying24 hval
  obtain ⟨c0, c1, rfl⟩ := array2' (hsz.trans (by kernel_rfl))
  obtain ⟨fuel, hf⟩ := h
  obtain ⟨k, s, rfl, rfl, hs⟩ := pathCells' hf
  exact ⟨k, s, rfl, hs⟩

theorem req_trod {H : Type} {enc : TypeId × Value → H} {W : World} {fuel : Nat} {c0 c1 c2 c3 c4 : Value} {y : DataW H × List MemPlace} (h : DataW.trod enc Tryd.prog W 0 (fun _ => true) true fuel 27 [c0, c1, c2, c3, c4] = some y) :
    ∃ x : RV, c0 = .string x.r.meth ∧ c1 = .string x.r.host ∧ c2 = .string x.r.path ∧ c3 = x.vq ∧ c4 = x.vh ∧ x.at_ W ∧ RawR x.r := by
  obtain ⟨xs, n, hn, _, _, hxl, hp⟩ := DataW.trod_struct Tryd.underlying27 h
  match xs, hxl with
  | [y0, y1, y2, y3, y4], _ =>
    have h0 := hp 0 _ rfl
    have h1 := hp 1 _ rfl
    have h2 := hp 2 _ rfl
    have h3 := hp 3 _ rfl
    have h4 := hp 4 _ rfl
    simp [Tryd.cellsS', Tryd.cells9] at h0 h1 h2 h3 h4
    obtain ⟨s0, e0, _, z0⟩ := DataW.trod_string Tryd.underlying9 h0
    obtain ⟨s1, e1, _, z1⟩ := DataW.trod_string Tryd.underlying9 h1
    obtain ⟨s2, e2, _, z2⟩ := DataW.trod_string Tryd.underlying9 h2
    simp only [List.cons.injEq, and_true] at e0 e1 e2
    subst e0 e1 e2
    obtain ⟨qu, pq, okq⟩ := argPrs_trod h3
    obtain ⟨hd, ph, okh⟩ := argPrs_trod h4
    have ph' := ph
    have pq' := pq
    obtain ⟨a1, cap1, rfl, _⟩ := ph
    obtain ⟨a2, cap2, rfl, _⟩ := pq
    exact ⟨⟨⟨s0, s1, s2, qu, hd⟩, a2, cap2, a1, cap1⟩, rfl, rfl, rfl, rfl, rfl, ⟨pq', ph'⟩, ⟨z0, z1, z2, okq, okh⟩⟩

theorem argAk_open {H : Type} {enc : TypeId × Value → H} {W : World} {base : Nat} {v : Value} {d : DataW H} {ps : List MemPlace} (hval : Value.okWide Tryd.prog W .any base 29 v)
    (h : DataW.Trod enc Tryd.prog W 0 (fun _ => true) true 29 v d ps) : ArgAk W v := by
  obtain ⟨cs, rfl, hsz⟩ := okWide_struct Tryd.underlying29 hval
  obtain ⟨c0, c1, c2, c3, c4, c5, c6, c7, c8, rfl⟩ := array9 (hsz.trans (by kernel_rfl))
  obtain ⟨fuel, hf⟩ := h
  obtain ⟨xs, n, hn, _, _, hxl, hp⟩ := DataW.trod_struct Tryd.underlying29 hf
  match xs, hxl with
  | [y0, y1, y2, y3], _ =>
    have h0 := hp 0 _ rfl
    have h1 := hp 1 _ rfl
    have h2 := hp 2 _ rfl
    have h3 := hp 3 _ rfl
    simp [Value.cells, Tryd.cellsF', Tryd.cellsP', Tryd.cellsR', Tryd.cells4'] at h0 h1 h2 h3
    obtain ⟨l, hl, hr⟩ := filters_trod h0
    obtain ⟨k, s, rfl, rfl, hs⟩ := pathCells' h1
    obtain ⟨x, rfl, rfl, rfl, rfl, rfl, hx, hrx⟩ := req_trod h2
    obtain ⟨b, e3, _⟩ := DataW.trod_bool Tryd.underlying4 h3
    simp only [List.cons.injEq, and_true] at e3
    subst e3
    exact ⟨c0, l, k, s, x, b, rfl, hl, hr, hs, hx, hrx⟩

end Go.Proofs.YtejmcemgjpcobaaDoor
