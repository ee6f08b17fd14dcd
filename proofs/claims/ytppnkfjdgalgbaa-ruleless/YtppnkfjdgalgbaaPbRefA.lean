/-
  Walks: the document's Same (of names), All, Drop, Set.
-/
import Derived.Test.YtppnkfjdgalgbaaPbWalkC
namespace Go.Proofs.Ytppnkfjdgalgbaa
open Go Go.RowKit Go.Shelf Go.Deep

/-- texts that are not too long to be looked at -/
def okF (p : PairB) : Prop := p.1.size ≤ 100 ∧ p.2.size ≤ 100

set_option maxHeartbeats 400000 in
theorem rprSame_any (a b : ByteArray) (w : World) (ha : a.size ≤ 100) (hb : b.size ≤ 100) :
    Calls Try.prog 36 #[.string a, .string b] w fun e w' => e = .returned (.bool (sameF a b)) ∧ Below w.heap.size w w' := by
  have H : Hid (((foldB a).toList == (foldB b).toList) = sameF a b) := beq_dec _ _
  go_enter Try.func36, Try.ntmps36
  go_wp2_with fail
  refine (rfold_any _ _ (by omega)).mono ?_
  rintro e w1 ⟨rfl, hb1⟩
  go_wp2_with fail
  refine (rfold_any _ _ (by omega)).mono ?_
  rintro e w2 ⟨rfl, hb2⟩
  go_wp2_with fail
  go_ret
  exact ⟨ret_bool H.out, bb2 hb1 hb2⟩

theorem same_turn {l : List PairB} {n : ByteArray} {k : Nat} {h : k < l.length} {b : Bool} (hs : sameF l[k].1 n = b) : sameF n l[k].1 = b := by rw [show sameF n l[k].1 = sameF l[k].1 n from Pb.sm_comm _ _]; exact hs

abbrev setT (l : List PairB) (n x : ByteArray) (k : Nat) : List PairB := Pb.setTo foldB (l.take k) n x
abbrev hasQ (l : List PairB) (n : ByteArray) (k : Nat) : Bool := Pb.hasP foldB (l.take k) n
theorem setT_other (l : List PairB) (n x : ByteArray) (k : Nat) (h : k < l.length) (hs : sameF l[k].1 n = false) : setT l n x (k + 1) = setT l n x k ++ [(l[k].1, l[k].2)] := by
  rw [setT, List.take_succ_eq_append_getElem h, Pb.setTo_snoc, if_neg (by show ¬ sameF l[k].1 n = true; rw [hs]; decide)]
theorem hasQ_other (l : List PairB) (n : ByteArray) (k : Nat) (h : k < l.length) (hs : sameF l[k].1 n = false) : hasQ l n (k + 1) = hasQ l n k := by
  rw [hasQ, List.take_succ_eq_append_getElem h, Pb.has_snoc, show Pb.sm foldB l[k].1 n = false from hs, Bool.or_false]
theorem setT_first (l : List PairB) (n x : ByteArray) (k : Nat) (h : k < l.length) (hs : sameF l[k].1 n = true) (hd : hasQ l n k = false) : setT l n x (k + 1) = setT l n x k ++ [(n, x)] := by
  rw [setT, List.take_succ_eq_append_getElem h, Pb.setTo_snoc, if_pos hs, if_neg (by show ¬ hasQ l n k = true; rw [hd]; decide)]
theorem setT_again (l : List PairB) (n x : ByteArray) (k : Nat) (h : k < l.length) (hs : sameF l[k].1 n = true) (hd : hasQ l n k = true) : setT l n x (k + 1) = setT l n x k := by
  rw [setT, List.take_succ_eq_append_getElem h, Pb.setTo_snoc, if_pos hs, if_pos hd]
theorem hasQ_same (l : List PairB) (n : ByteArray) (k : Nat) (h : k < l.length) (hs : sameF l[k].1 n = true) : hasQ l n (k + 1) = true := by
  rw [hasQ, List.take_succ_eq_append_getElem h, Pb.has_snoc, show Pb.sm foldB l[k].1 n = true from hs, Bool.or_true]
theorem setT_le (l : List PairB) (n x : ByteArray) : ∀ k, k ≤ l.length → (setT l n x k).length ≤ k
  | 0, _ => by simp [setT, Pb.setTo, Pb.hasP]
  | k + 1, h => by
    have ih := setT_le l n x k (by omega)
    cases hs : sameF l[k].1 n
    · rw [setT_other l n x k (by omega) hs, List.length_append]
      simp
      omega
    · cases hd : hasQ l n k
      · rw [setT_first l n x k (by omega) hs hd, List.length_append]
        simp
        omega
      · rw [setT_again l n x k (by omega) hs hd]
        omega
theorem setT_done (l : List PairB) (n x : ByteArray) (hd : hasQ l n l.length = true) : setQ l n x = setT l n x l.length := by
  have e := Pb.setTo_end (key := foldB) l n x
  have h1 : l.take l.length = l := List.take_of_length_le (Nat.le_refl _)
  rw [hasQ, h1] at hd
  rw [if_pos hd] at e
  rw [setT, h1]
  exact e
theorem setT_undone (l : List PairB) (n x : ByteArray) (hd : hasQ l n l.length = false) : setQ l n x = setT l n x l.length ++ [(n, x)] := by
  have e := Pb.setTo_end (key := foldB) l n x
  have h1 : l.take l.length = l := List.take_of_length_le (Nat.le_refl _)
  rw [hasQ, h1] at hd
  rw [if_neg (by rw [hd]; decide)] at e
  rw [setT, h1]
  exact e

end Go.Proofs.Ytppnkfjdgalgbaa
