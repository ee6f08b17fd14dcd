/-
  Walks: the document's Same (of names), All, Drop, Set.
-/
import Derived.Test.YtejmcemgjpcobaaDoorPbWalkC
namespace Go.Proofs.YtejmcemgjpcobaaDoor
set_option maxRecDepth 20000
open Go Go.RowKit Go.Shelf Go.Deep

/-- texts that are not too long to be looked at -/
def okF (p : PairB) : Prop := p.1.size ≤ 100 ∧ p.2.size ≤ 100

set_option maxHeartbeats 400000 in
theorem rprSame_any (a b : ByteArray) (w : World) (ha : a.size ≤ 100) (hb : b.size ≤ 100) :
    Calls Tryd.prog 7 #[.string a, .string b] w fun e w' => e = .returned (.bool (sameF a b)) ∧ Below w.heap.size w w' := by
  have H : Hid (((foldB a).toList == (foldB b).toList) = sameF a b) := beq_dec _ _
  go_enter Tryd.func7, Tryd.ntmps7
  go_wp2_with fail
  refine (rfold_any _ _ (by omega)).mono ?_
  rintro e w1 ⟨rfl, hb1⟩
  go_wp2_with fail
  refine (rfold_any _ _ (by omega)).mono ?_
  rintro e w2 ⟨rfl, hb2⟩
  go_wp2_with fail
  go_ret
  exact ⟨ret_bool H.out, bb2 hb1 hb2⟩

theorem same_turn {l : List PairB} {n : ByteArray} {k : Nat} {h : k < l.length} {b : Bool} (hs : sameF l[k].1 n = b) : sameF n l[k].1 = b := by rw [show sameF n l[k].1 = sameF l[k].1 n from Pb.sm_comm _ _]; exact hs

set_option maxHeartbeats 800000 in
theorem rall_any (n : ByteArray) (v : Value) (l : List PairB) (w : World) (hn : n.size ≤ 100) (hv : Prs w v l) (hok : ∀ p ∈ l, okF p) (hl : l.length ≤ 1000) :
    Calls Tryd.prog 8 #[v, .string n] w fun e w' => ∃ v', e = .returned v' ∧ Strs w' v' (allQ l n) ∧ Below w.heap.size w w' := by
  obtain ⟨a, cap, rfl, _, _, hc⟩ := hv
  have HC := hide hc
  have HOK := hide hok
  clear hc hok
  go_enter Tryd.func8, Tryd.ntmps8
  go_wp2_with fail
  go_loopw [5, 6] (fun o i wr => ∃ k : Nat, k ≤ l.length ∧ i = .int .i64 k ∧ wr.ownsRow w.heap.size 9 1 o (allQ (l.take k) n).length ((allQ (l.take k) n).map Value.string) ∧ Below w.heap.size w wr) (fun _ i _ => l.length - (intOf i).toNat)
  case atStart => exact ⟨0, Nat.zero_le _, rfl, World.ownsRow_nil _ _ _ _, Below.refl _ _⟩
  case round =>
    obtain ⟨k, hk, rfl, hr, hB⟩ := hrel
    have HR := hide hr
    clear hr
    by_cases hlt : k < l.length
    · have hlt' : (k : Int) < (l.length : Int) := by omega
      obtain ⟨g, off, rfl, hg, c1, c2⟩ := HC.out k hlt
      replace c1 := fun W (h : Below w.heap.size w W) => (h.cell (p := ⟨g, off + k * 2, none⟩) hg).trans c1
      replace c2 := fun W (h : Below w.heap.size w W) => (h.cell (p := ⟨g, off + k * 2 + 1, none⟩) hg).trans c2
      obtain ⟨o1, o2⟩ := HOK.out _ (List.getElem_mem hlt)
      have CS := fun W => hide (rprSame_any l[k].1 n W o1 hn)
      cases hs : sameF l[k].1 n
      · have HN := hide (all_not l n k hlt (same_turn hs))
        rw [hs] at CS
        clear hs
        generalize l[k].1 = p1 at *
        generalize l[k].2 = p2 at *
        have d1 := c1 _ hB
        go_wp2_with fail
        refine ((CS _).out).mono ?_
        rintro e w2 ⟨rfl, hb2⟩
        go_wp2_with fail
        exact ⟨⟨k + 1, by omega, by go_num, by rw [HN.out]; exact ownsRow_below HR.out hb2, bb2 hB hb2⟩, by simp [intOf]; omega⟩
      · have HN := hide (all_yes l n k hlt (same_turn hs))
        have hle := all_le l n k
        rw [hs] at CS
        clear hs
        generalize l[k].1 = p1 at *
        generalize l[k].2 = p2 at *
        have d1 := c1 _ hB
        go_wp2_with fail
        refine (CS _).out.mono ?_
        rintro e w2 ⟨rfl, hb2⟩
        have hB2 := bb2 hB hb2
        have d2 := c2 _ hB2
        have hbs := hB2.size
        clear d1
        go_wp2_with (at_builtin; refine wpList_append_strs _ _ _ rfl (by rfl) w.heap.size _ _ _ rfl (ownsRow_below (ownsRow_below HR.out hb2) ((Below.refl _ _).alloc (Nat.le_refl _) _)) _ _ rfl (Strs.at1 w2 _ rfl p2) (by simp; omega) (by simp; omega) ?_; intro v' w3 hown' hgrow)
        refine ⟨⟨k + 1, by omega, by go_num, by rw [HN.out, List.length_append]; exact hown', ?_⟩, by simp [intOf]; omega⟩
        exact (hB2.alloc hB2.size _).grown hgrow (by simp; omega) (fun j e => ownBlock_ge HR.out e)
    · have hlt' : ¬ (k : Int) < (l.length : Int) := by omega
      have hp : Strs wr u5 (allQ l n) := by
        have := Strs.of_row rfl HR.out
        rwa [List.take_of_length_le (by omega)] at this
      go_wp2_with fail
      go_ret
      exact ⟨_, rfl, hp, hB⟩

abbrev setT (l : List PairB) (n x : ByteArray) (k : Nat) : List PairB := Pb.setTo foldB (l.take k) n x
abbrev hasQ (l : List PairB) (n : ByteArray) (k : Nat) : Bool := Pb.hasP foldB (l.take k) n
theorem setT_other (l : List PairB) (n x : ByteArray) (k : Nat) (h : k < l.length) (hs : sameF l[k].1 n = false) : setT l n x (k + 1) = setT l n x k ++ [(l[k].1, l[k].2)] := by
  rw [setT, List.take_succ_eq_append_getElem h, Pb.setTo_snoc, if_neg (by show ¬ sameF l[k].1 n = true; rw [hs]; decide)]
theorem hasQ_other (l : List PairB) (n : ByteArray) (k : Nat) (h : k < l.length) (hs : sameF l[k].1 n = false) : hasQ l n (k + 1) = hasQ l n k := by
  rw [hasQ, List.take_succ_eq_append_getElem h, Pb.has_snoc, show Pb.sm foldB l[k].1 n = false from hs, Bool.or_false]
theorem setT_first (l : List PairB) (n x : ByteArray) (k : Nat) (h : k < l.length) (hs : sameF l[k].1 n = true) (hd : hasQ l n k = false) : setT l n x (k + 1) = setT l n x k ++ [(n, x)] := by
  rw [setT, List.take_succ_eq_append_getElem h, Pb.setTo_snoc, if_pos hs, if_neg (by show ¬ hasQ l n k = true; rw [hd]; decide)]
theorem setT_again (l : List PairB) (n x : ByteArray) (k : Nat) (h : k < l.length) (hs : sameF l[k].1 n = true) (hd : hasQ l n k = true) : setT l n x (k + 1) = setT l n x k := by
  rw [setT, List.take_succ_eq_append_getElem h, Pb.setTo_snoc, if_pos hs, if_pos hd]
theorem hasQ_same (l : List PairB) (n : ByteArray) (k : Nat) (h : k < l.length) (hs : sameF l[k].1 n = true) : hasQ l n (k + 1) = true := by
  rw [hasQ, List.take_succ_eq_append_getElem h, Pb.has_snoc, show Pb.sm foldB l[k].1 n = true from hs, Bool.or_true]
theorem setT_le (l : List PairB) (n x : ByteArray) : ∀ k, k ≤ l.length → (setT l n x k).length ≤ k
  | 0, _ => by simp [setT, Pb.setTo, Pb.hasP]
  | k + 1, h => by
    have ih := setT_le l n x k (by omega)
    cases hs : sameF l[k].1 n
    · rw [setT_other l n x k (by omega) hs, List.length_append]
      simp
      omega
    · cases hd : hasQ l n k
      · rw [setT_first l n x k (by omega) hs hd, List.length_append]
        simp
        omega
      · rw [setT_again l n x k (by omega) hs hd]
        omega
theorem setT_done (l : List PairB) (n x : ByteArray) (hd : hasQ l n l.length = true) : setQ l n x = setT l n x l.length := by
  have e := Pb.setTo_end (key := foldB) l n x
  have h1 : l.take l.length = l := List.take_of_length_le (Nat.le_refl _)
  rw [hasQ, h1] at hd
  rw [if_pos hd] at e
  rw [setT, h1]
  exact e
theorem setT_undone (l : List PairB) (n x : ByteArray) (hd : hasQ l n l.length = false) : setQ l n x = setT l n x l.length ++ [(n, x)] := by
  have e := Pb.setTo_end (key := foldB) l n x
  have h1 : l.take l.length = l := List.take_of_length_le (Nat.le_refl _)
  rw [hasQ, h1] at hd
  rw [if_neg (by rw [hd]; decide)] at e
  rw [setT, h1]
  exact e

end Go.Proofs.YtejmcemgjpcobaaDoor
