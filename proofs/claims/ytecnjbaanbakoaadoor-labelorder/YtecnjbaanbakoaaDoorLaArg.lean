/-
  Arguments: a need, needs.
-/
import Derived.Test.YtecnjbaanbakoaaDoorLaMem
import Derived.Lib.SmallJoins
import Derived.Deep.Slices
namespace Go.Proofs.YtecnjbaanbakoaaDoor
open Go Go.RowKit Go.Shelf Go.ChangeShapes Go.WideShapes Go.Deep

theorem array3 {α : Type} {cs : Array α} (h : cs.size = 3) : ∃ c0 c1 c2, cs = #[c0, c1, c2] := by
  obtain ⟨l⟩ := cs
  match l, h with
  | [c0, c1, c2], _ => exact ⟨c0, c1, c2, rfl⟩
theorem Tryd.cells3n : Tryd.prog.cellsOf 3 = 1 := by kernel_rfl
theorem Tryd.cellsVs : Tryd.prog.cellsOf 27 = 1 := by kernel_rfl
theorem Tryd.cellsNd : Tryd.prog.cellsOf 29 = 3 := by kernel_rfl

theorem texts_trod {H : Type} {enc : TypeId × Value → H} {W : World} {fuel : Nat} {v : Value} {y : DataW H × List MemPlace} (h : DataW.trod enc Tryd.prog W 0 (fun _ => true) true fuel 27 [v] = some y) :
    ∃ l : List ByteArray, Sl ES W v l ∧ ∀ s ∈ l, s.size ≤ maxLen := by
  refine sl_trod Tryd.underlying27 Tryd.cells9 (fun fuel cs y hl hy => ?_) ⟨⟨#[]⟩⟩ h
  match cs, hl with
  | [c0], _ =>
    obtain ⟨s, e, _, hs⟩ := DataW.trod_string Tryd.underlying9 hy
    exact ⟨s, e, trivial, hs⟩

theorem need_trod {H : Type} {enc : TypeId × Value → H} {W : World} {fuel : Nat} {c0 c1 c2 : Value} {y : DataW H × List MemPlace} (h : DataW.trod enc Tryd.prog W 0 (fun _ => true) true fuel 29 [c0, c1, c2] = some y) :
    ∃ x : NV, [c0, c1, c2] = ncells x ∧ Sl ES W x.v x.n.vals ∧ RawN x.n := by
  obtain ⟨xs, n, hn, _, _, hxl, hp⟩ := DataW.trod_struct Tryd.underlying29 h
  match xs, hxl with
  | [y0, y1, y2], _ =>
    have h0 := hp 0 _ rfl
    have h1 := hp 1 _ rfl
    have h2 := hp 2 _ rfl
    simp [Tryd.cells3n, Tryd.cells9, Tryd.cellsVs] at h0 h1 h2
    obtain ⟨k, e0, _, _⟩ := DataW.trod_int Tryd.underlying3 h0
    obtain ⟨s1, e1, _, z1⟩ := DataW.trod_string Tryd.underlying9 h1
    simp only [List.cons.injEq, and_true] at e0 e1
    subst e0 e1
    obtain ⟨vs, hs, hz⟩ := texts_trod h2
    have hs' := hs
    obtain ⟨a, c, rfl⟩ := hs.form
    exact ⟨⟨⟨k, s1, vs⟩, a, c⟩, rfl, hs', ⟨z1, hz⟩⟩

/-- a need that came in -/
def ArgN (W : World) (v : Value) : Prop := ∃ x : NV, v = nV x ∧ Sl ES W x.v x.n.vals ∧ RawN x.n
/-- needs that came in -/
def ArgNs (W : World) (v : Value) : Prop := ∃ L : List NV, Sl EN W v L ∧ ∀ x ∈ L, RawN x.n

theorem argN_open {H : Type} {enc : TypeId × Value → H} {W : World} {base : Nat} {v : Value} {d : DataW H} {ps : List MemPlace} (hval : Value.okWide Tryd.prog W .any base 29 v)
    (h : DataW.Trod enc Tryd.prog W 0 (fun _ => true) true 29 v d ps) : ArgN W v := by
  obtain ⟨cs, rfl, hsz⟩ := okWide_struct Tryd.underlying29 hval
  obtain ⟨c0, c1, c2, rfl⟩ := array3 (hsz.trans (by kernel_rfl))
  obtain ⟨fuel, hf⟩ := h
  obtain ⟨x, hx, h1, h2⟩ := need_trod hf
  refine ⟨x, ?_, h1, h2⟩
  simp only [ncells, List.cons.injEq, and_true] at hx
  obtain ⟨rfl, rfl, rfl⟩ := hx
  rfl

theorem argNs_open {H : Type} {enc : TypeId × Value → H} {W : World} {base : Nat} {v : Value} {d : DataW H} {ps : List MemPlace} (hval : Value.okWide Tryd.prog W .any base 22 v)
    (h : DataW.Trod enc Tryd.prog W 0 (fun _ => true) true 22 v d ps) : ArgNs W v := by
  obtain ⟨a0, len0, cap0, rfl⟩ := okWide_slice Tryd.underlying22 hval
  obtain ⟨fuel, hf⟩ := h
  refine sl_trod Tryd.underlying22 Tryd.cellsNd (fun fuel cs y hl hy => ?_) ⟨⟨⟨0, ⟨#[]⟩, []⟩, none, 0⟩⟩ hf
  match cs, hl with
  | [c0, c1, c2], _ =>
    obtain ⟨x, hx, h1, h2⟩ := need_trod hy
    exact ⟨x, hx, h1, h2⟩

end Go.Proofs.YtecnjbaanbakoaaDoor
