/-
  Walks: Set.
-/
import Derived.Test.YtppnkfjdgalgbaaPbWalkB
import Derived.Test.YtppnkfjdgalgbaaGrow
import Derived.Deep.RegionHeld3
namespace Go.Proofs.Ytppnkfjdgalgbaa
open Go Go.RowKit Go.Shelf Go.Deep

abbrev setQ (l : List PairB) (n x : ByteArray) : List PairB := Pb.setP foldB l n x
theorem set_idx (n x : ByteArray) : ∀ l : List PairB, placeP sameF n l < l.length → setQ l n x = l.take (placeP sameF n l) ++ (n, x) :: dropQ (l.drop (placeP sameF n l + 1)) n
  | [], h => absurd h (by simp)
  | p :: r, h => by
    unfold placeP at *
    rw [List.findIdx_cons] at *
    cases hs : sameF n p.1
    · have hs' : Pb.sm foldB p.1 n = false := by rw [Pb.sm_comm]; exact hs
      rw [hs] at h
      simp only [cond_false, List.length_cons, Nat.add_lt_add_iff_right] at h ⊢
      have ih := set_idx n x r h
      show (if Pb.sm foldB p.1 n then _ else _) = _
      rw [hs', if_neg (by decide)]
      show p :: setQ r n x = _
      rw [ih]
      rfl
    · have hs' : Pb.sm foldB p.1 n = true := by rw [Pb.sm_comm]; exact hs
      show (if Pb.sm foldB p.1 n then _ else _) = _
      rw [hs', if_pos rfl]
      rfl
theorem set_yes {n x : ByteArray} {l : List PairB} (h : hasI sameF n l = true) : setQ l n x = l.take (placeI sameF n l) ++ [(n, x)] ++ dropQ (l.drop (placeI sameF n l + 1)) n := by
  have hp : placeP sameF n l < l.length := by simpa [hasI] using h
  have e : placeI sameF n l = placeP sameF n l := by unfold placeI; rw [if_pos hp]
  rw [e, set_idx n x l hp]
  simp
theorem set_not {n x : ByteArray} {l : List PairB} (h : hasI sameF n l = false) : setQ l n x = l ++ [(n, x)] := by
  refine Pb.set_none x ?_
  have hp : ¬ placeP sameF n l < l.length := by simpa [hasI] using h
  unfold Pb.hasP
  rw [List.any_eq_false]
  intro p hp2 hs
  exact hp (List.findIdx_lt_length_of_exists ⟨p, hp2, by show Pb.sm foldB n p.1 = true; rw [Pb.sm_comm]; exact hs⟩)

end Go.Proofs.Ytppnkfjdgalgbaa
