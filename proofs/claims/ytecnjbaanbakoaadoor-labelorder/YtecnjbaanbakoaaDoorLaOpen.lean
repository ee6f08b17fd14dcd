/-
  The opening of the laws that take a need: one need, cut; what a drawn region leaves.
-/
import Derived.Test.YtecnjbaanbakoaaDoorLaLawC
import Derived.Test.YtecnjbaanbakoaaDoorFacts
namespace Go.Proofs.YtecnjbaanbakoaaDoor
open Go Go.RowKit Go.Shelf Go.Deep

/-- these values, by their numbers -/
def opF (l : List Value) : Nat → Value := fun i => l.getD i undef

theorem lfew_one (v : Value) (x : NV) (w : World) (hv : Sl EN w v [x]) (raw : RawN x.n) :
    Calls Tryd.prog 10 #[v] w fun e w' => ∃ (g off cap : Nat) (y : NV), e = .returned (.slice (some ⟨g, off, none⟩) 1 cap) ∧ y.n = fewN x.n ∧ y.own w' ∧
      (∀ W, Below w'.heap.size w' W → W.cell? ⟨g, off, none⟩ = some (.int .i64 y.n.kind) ∧ W.cell? ⟨g, off + 1, none⟩ = some (.string y.n.name) ∧ W.cell? ⟨g, off + 2, none⟩ = some y.v) ∧ Below w.heap.size w w' := by
  refine (lfew_any v [x] w hv (fun z hz => by rw [List.mem_singleton] at hz; subst hz; exact raw)).mono ?_
  rintro e w' ⟨v', rfl, L', hL, hr, ho, hb⟩
  have hlen : L'.length = 1 := by
    have := congrArg List.length hL
    simpa [someN] using this
  match L', hlen with
  | [y], _ =>
    have hy : y.n = fewN x.n := by simpa [someN] using hL
    have hs := row_sl hr ho
    obtain ⟨a, c, rfl⟩ := hs.form
    obtain ⟨g, off, rfl, hg, _, hc⟩ := en_all hs (k := 0) (by simp)
    refine ⟨g, off, c, y, rfl, hy, ho y (by simp), fun W hW => ?_, hb⟩
    have := hc W hW
    simpa using this

theorem Sl.need (w : World) (x : NV) (t p : Nat) (hp : w.heap.size = p) (hx : Sl ES w x.v x.n.vals) : Sl EN (w.alloc (.cells #[.int .i64 x.n.kind, .string x.n.name, x.v] t)) (.slice (some ⟨p, 0, none⟩) 1 1) [x] := by
  subst hp
  exact Sl.at_block (E := EN) (x := x) (alloc_new w _) (hx.below ((Below.refl _ _).alloc (Nat.le_refl _) _))
theorem Sl.need2 (w : World) (x z : NV) (t p : Nat) (hp : w.heap.size = p) (hx : Sl ES w x.v x.n.vals) (hz : Sl ES w z.v z.n.vals) :
    Sl EN (w.alloc (.cells #[.int .i64 x.n.kind, .string x.n.name, x.v, .int .i64 z.n.kind, .string z.n.name, z.v] t)) (.slice (some ⟨p, 0, none⟩) 2 2) [x, z] :=
  Sl.lit (E := EN) w t [x, z] _ rfl 2 p rfl hp (by omega) (fun q hq => by
    have ba := (Below.refl w.heap.size w).alloc (Nat.le_refl _) (.cells #[.int .i64 x.n.kind, .string x.n.name, x.v, .int .i64 z.n.kind, .string z.n.name, z.v] t)
    simp at hq
    rcases hq with rfl | rfl
    · exact hx.below ba
    · exact hz.below ba)

end Go.Proofs.YtecnjbaanbakoaaDoor
