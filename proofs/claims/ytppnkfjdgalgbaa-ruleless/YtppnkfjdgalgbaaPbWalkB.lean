/-
  Walks: Drop, All, Add.
-/
import Derived.Test.YtppnkfjdgalgbaaPbWalkA
import Derived.Test.YtppnkfjdgalgbaaApp
namespace Go.Proofs.Ytppnkfjdgalgbaa
open Go Go.RowKit Go.Shelf

abbrev dropQ (l : List PairB) (n : ByteArray) : List PairB := Pb.dropP foldB l n
abbrev allQ (l : List PairB) (n : ByteArray) : List ByteArray := Pb.allP foldB l n
theorem drop_yes (l : List PairB) (n : ByteArray) (k : Nat) (h : k < l.length) (hs : sameF n l[k].1 = true) : dropQ (l.take (k + 1)) n = dropQ (l.take k) n := by
  rw [List.take_succ_eq_append_getElem h, dropQ, Pb.drop_snoc, Pb.sm_comm, if_pos hs, List.append_nil]
theorem drop_not (l : List PairB) (n : ByteArray) (k : Nat) (h : k < l.length) (hs : sameF n l[k].1 = false) : dropQ (l.take (k + 1)) n = dropQ (l.take k) n ++ [(l[k].1, l[k].2)] := by
  rw [List.take_succ_eq_append_getElem h, dropQ, Pb.drop_snoc, Pb.sm_comm, if_neg (by show ¬ sameF n l[k].1 = true; rw [hs]; decide)]
theorem drop_le (l : List PairB) (n : ByteArray) (k : Nat) : (dropQ (l.take k) n).length ≤ k := by
  have h1 : (dropQ (l.take k) n).length ≤ (l.take k).length := List.length_filter_le _ _
  have h2 : (l.take k).length ≤ k := by simp; omega
  omega

theorem all_not (l : List PairB) (n : ByteArray) (k : Nat) (h : k < l.length) (hs : sameF n l[k].1 = false) : allQ (l.take (k + 1)) n = allQ (l.take k) n := by
  rw [List.take_succ_eq_append_getElem h, allQ, Pb.all_snoc, Pb.sm_comm, if_neg (by show ¬ sameF n l[k].1 = true; rw [hs]; decide), List.append_nil]
theorem all_yes (l : List PairB) (n : ByteArray) (k : Nat) (h : k < l.length) (hs : sameF n l[k].1 = true) : allQ (l.take (k + 1)) n = allQ (l.take k) n ++ [l[k].2] := by
  rw [List.take_succ_eq_append_getElem h, allQ, Pb.all_snoc, Pb.sm_comm, if_pos hs]
theorem all_le (l : List PairB) (n : ByteArray) (k : Nat) : (allQ (l.take k) n).length ≤ k := by
  have h1 : (allQ (l.take k) n).length ≤ (l.take k).length := by
    unfold allQ Pb.allP
    rw [List.length_map]
    exact List.length_filter_le _ _
  have h2 : (l.take k).length ≤ k := by simp; omega
  omega

end Go.Proofs.Ytppnkfjdgalgbaa
