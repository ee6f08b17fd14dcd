/-
  Walks: the document's Same (of names), All, Drop, Set.
-/
import Derived.Test.YtphinklnbjpohaaGreatDoorPbWalkC
namespace Go.Proofs.YtphinklnbjpohaaGreatDoor
set_option maxRecDepth 20000
open Go Go.RowKit Go.Shelf Go.Deep

/-- texts that are not too long to be looked at -/
def okF (p : PairB) : Prop := p.1.size ≤ 100 ∧ p.2.size ≤ 100

set_option maxHeartbeats 400000 in
theorem rprSame_any (a b : ByteArray) (w : World) (ha : a.size ≤ 100) (hb : b.size ≤ 100) :
    Calls Tryz.prog 104 #[.string a, .string b] w fun e w' => e = .returned (.bool (sameF a b)) ∧ Below w.heap.size w w' := by
  have H : Hid (((foldB a).toList == (foldB b).toList) = sameF a b) := beq_dec _ _
  go_enter Tryz.func104, Tryz.ntmps104
  go_wp2_with fail
  refine (rfold_any _ _ (by omega)).mono ?_
  rintro e w1 ⟨rfl, hb1⟩
  go_wp2_with fail
  refine (rfold_any _ _ (by omega)).mono ?_
  rintro e w2 ⟨rfl, hb2⟩
  go_wp2_with fail
  go_ret
  exact ⟨ret_bool H.out, bb2 hb1 hb2⟩

theorem same_turn {l : List PairB} {n : ByteArray} {k : Nat} {h : k < l.length} {b : Bool} (hs : sameF l[k].1 n = b) : sameF n l[k].1 = b := by rw [show sameF n l[k].1 = sameF l[k].1 n from Pb.sm_comm _ _]; exact hs

set_option maxHeartbeats 800000 in
theorem rdrop_any (n : ByteArray) (v : Value) (l : List PairB) (w : World) (hn : n.size ≤ 100) (hv : Prs w v l) (hok : ∀ p ∈ l, okF p) (hl : l.length ≤ 1000) :
    Calls Tryz.prog 45 #[v, .string n] w fun e w' => ∃ v', e = .returned v' ∧ Prs w' v' (dropQ l n) ∧ Below w.heap.size w w' := by
  obtain ⟨a, cap, rfl, _, _, hc⟩ := hv
  have HC := hide hc
  have HOK := hide hok
  clear hc hok
  go_enter Tryz.func45, Tryz.ntmps45
  go_wp2_with fail
  go_loopw [5, 6] (fun o i wr => ∃ k : Nat, k ≤ l.length ∧ i = .int .i64 k ∧ wr.ownsRow w.heap.size 83 2 o (dropQ (l.take k) n).length (flat (dropQ (l.take k) n)) ∧ Below w.heap.size w wr) (fun _ i _ => l.length - (intOf i).toNat)
  case atStart => exact ⟨0, Nat.zero_le _, rfl, World.ownsRow_nil _ _ _ _, Below.refl _ _⟩
  case round =>
    obtain ⟨k, hk, rfl, hr, hB⟩ := hrel
    have HR := hide hr
    clear hr
    by_cases hlt : k < l.length
    · have hlt' : (k : Int) < (l.length : Int) := by omega
      obtain ⟨g, off, rfl, hg, c1, c2⟩ := HC.out k hlt
      replace c1 := fun W (h : Below w.heap.size w W) => (h.cell (p := ⟨g, off + k * 2, none⟩) hg).trans c1
      replace c2 := fun W (h : Below w.heap.size w W) => (h.cell (p := ⟨g, off + k * 2 + 1, none⟩) hg).trans c2
      obtain ⟨o1, o2⟩ := HOK.out _ (List.getElem_mem hlt)
      have CS := fun W => hide (rprSame_any l[k].1 n W o1 hn)
      cases hs : sameF l[k].1 n
      · have HN := hide (drop_not l n k hlt (same_turn hs))
        have hle := drop_le l n k
        rw [hs] at CS
        clear hs
        generalize l[k].1 = p1 at *
        generalize l[k].2 = p2 at *
        have d1 := c1 _ hB
        go_wp2_with fail
        refine (CS _).out.mono ?_
        rintro e w2 ⟨rfl, hb2⟩
        have hB2 := bb2 hB hb2
        clear d1
        have d1 := c1 _ hB2
        have d2 := c2 _ hB2
        have hbs := hB2.size
        go_wp2_with (at_builtin; refine wpList_append_prs _ _ _ rfl (by rfl) w.heap.size _ _ _ rfl (ownsRow_below (ownsRow_below HR.out hb2) ((Below.refl _ _).alloc (Nat.le_refl _) _)) _ _ rfl (Prs.at1 w2 _ rfl p1 p2) (by simp; omega) (by simp; omega) ?_; intro v' w3 hown' hgrow)
        refine ⟨⟨k + 1, by omega, by go_num, by rw [HN.out, List.length_append]; exact hown', ?_⟩, by simp [intOf]; omega⟩
        exact (hB2.alloc hB2.size _).grown hgrow (by simp; omega) (fun j e => ownBlock_ge HR.out e)
      · have HN := hide (drop_yes l n k hlt (same_turn hs))
        rw [hs] at CS
        clear hs
        generalize l[k].1 = p1 at *
        generalize l[k].2 = p2 at *
        have d1 := c1 _ hB
        go_wp2_with fail
        refine ((CS _).out).mono ?_
        rintro e w2 ⟨rfl, hb2⟩
        go_wp2_with fail
        exact ⟨⟨k + 1, by omega, by go_num, by rw [HN.out]; exact ownsRow_below HR.out hb2, bb2 hB hb2⟩, by simp [intOf]; omega⟩
    · have hlt' : ¬ (k : Int) < (l.length : Int) := by omega
      have hp : Prs wr u5 (dropQ l n) := by
        have := Prs.of_row rfl HR.out
        rwa [List.take_of_length_le (by omega)] at this
      go_wp2_with fail
      go_ret
      exact ⟨_, rfl, hp, hB⟩

abbrev setT (l : List PairB) (n x : ByteArray) (k : Nat) : List PairB := Pb.setTo foldB (l.take k) n x
abbrev hasQ (l : List PairB) (n : ByteArray) (k : Nat) : Bool := Pb.hasP foldB (l.take k) n
theorem setT_other (l : List PairB) (n x : ByteArray) (k : Nat) (h : k < l.length) (hs : sameF l[k].1 n = false) : setT l n x (k + 1) = setT l n x k ++ [(l[k].1, l[k].2)] := by
  rw [setT, List.take_succ_eq_append_getElem h, Pb.setTo_snoc, if_neg (by show ¬ sameF l[k].1 n = true; rw [hs]; decide)]
theorem hasQ_other (l : List PairB) (n : ByteArray) (k : Nat) (h : k < l.length) (hs : sameF l[k].1 n = false) : hasQ l n (k + 1) = hasQ l n k := by
  rw [hasQ, List.take_succ_eq_append_getElem h, Pb.has_snoc, show Pb.sm foldB l[k].1 n = false from hs, Bool.or_false]
theorem setT_first (l : List PairB) (n x : ByteArray) (k : Nat) (h : k < l.length) (hs : sameF l[k].1 n = true) (hd : hasQ l n k = false) : setT l n x (k + 1) = setT l n x k ++ [(n, x)] := by
  rw [setT, List.take_succ_eq_append_getElem h, Pb.setTo_snoc, if_pos hs, if_neg (by show ¬ hasQ l n k = true; rw [hd]; decide)]
theorem setT_again (l : List PairB) (n x : ByteArray) (k : Nat) (h : k < l.length) (hs : sameF l[k].1 n = true) (hd : hasQ l n k = true) : setT l n x (k + 1) = setT l n x k := by
  rw [setT, List.take_succ_eq_append_getElem h, Pb.setTo_snoc, if_pos hs, if_pos hd]
theorem hasQ_same (l : List PairB) (n : ByteArray) (k : Nat) (h : k < l.length) (hs : sameF l[k].1 n = true) : hasQ l n (k + 1) = true := by
  rw [hasQ, List.take_succ_eq_append_getElem h, Pb.has_snoc, show Pb.sm foldB l[k].1 n = true from hs, Bool.or_true]
theorem setT_le (l : List PairB) (n x : ByteArray) : ∀ k, k ≤ l.length → (setT l n x k).length ≤ k
  | 0, _ => by simp [setT, Pb.setTo, Pb.hasP]
  | k + 1, h => by
    have ih := setT_le l n x k (by omega)
    cases hs : sameF l[k].1 n
    · rw [setT_other l n x k (by omega) hs, List.length_append]
      simp
      omega
    · cases hd : hasQ l n k
      · rw [setT_first l n x k (by omega) hs hd, List.length_append]
        simp
        omega
      · rw [setT_again l n x k (by omega) hs hd]
        omega
theorem setT_done (l : List PairB) (n x : ByteArray) (hd : hasQ l n l.length = true) : setQ l n x = setT l n x l.length := by
  have e := Pb.setTo_end (key := foldB) l n x
  have h1 : l.take l.length = l := List.take_of_length_le (Nat.le_refl _)
  rw [hasQ, h1] at hd
  rw [if_pos hd] at e
  rw [setT, h1]
  exact e
theorem setT_undone (l : List PairB) (n x : ByteArray) (hd : hasQ l n l.length = false) : setQ l n x = setT l n x l.length ++ [(n, x)] := by
  have e := Pb.setTo_end (key := foldB) l n x
  have h1 : l.take l.length = l := List.take_of_length_le (Nat.le_refl _)
  rw [hasQ, h1] at hd
  rw [if_neg (by rw [hd]; decide)] at e
  rw [setT, h1]
  exact e

set_option maxHeartbeats 1600000 in
theorem rset_any (n x : ByteArray) (v : Value) (l : List PairB) (w : World) (hn : n.size ≤ 100) (hv : Prs w v l) (hok : ∀ p ∈ l, okF p) (hl : l.length ≤ 1000) :
    Calls Tryz.prog 44 #[v, .string n, .string x] w fun e w' => ∃ v', e = .returned v' ∧ Prs w' v' (setQ l n x) ∧ Below w.heap.size w w' := by
  obtain ⟨a, cap, rfl, _, _, hc⟩ := hv
  have HC := hide hc
  have HOK := hide hok
  clear hc hok
  go_enter Tryz.func44, Tryz.ntmps44
  go_wp2_with fail
  go_loopw [7, 8, 9] (fun o d i wr => ∃ k : Nat, k ≤ l.length ∧ i = .int .i64 k ∧ d = .bool (hasQ l n k) ∧ wr.ownsRow w.heap.size 83 2 o (setT l n x k).length (flat (setT l n x k)) ∧ Below w.heap.size w wr) (fun _ _ i _ => l.length - (intOf i).toNat)
  case atStart => exact ⟨0, Nat.zero_le _, rfl, rfl, World.ownsRow_nil _ _ _ _, Below.refl _ _⟩
  case round =>
    obtain ⟨k, hk, rfl, rfl, hr, hB⟩ := hrel
    have HR := hide hr
    clear hr
    have hle := setT_le l n x k hk
    by_cases hlt : k < l.length
    · have hlt' : (k : Int) < (l.length : Int) := by omega
      obtain ⟨g, off, rfl, hg, c1, c2⟩ := HC.out k hlt
      replace c1 := fun W (h : Below w.heap.size w W) => (h.cell (p := ⟨g, off + k * 2, none⟩) hg).trans c1
      replace c2 := fun W (h : Below w.heap.size w W) => (h.cell (p := ⟨g, off + k * 2 + 1, none⟩) hg).trans c2
      obtain ⟨o1, o2⟩ := HOK.out _ (List.getElem_mem hlt)
      have CS := fun W => hide (rprSame_any l[k].1 n W o1 hn)
      cases hs : sameF l[k].1 n
      · have HN := hide (setT_other l n x k hlt hs)
        have HD := hide (hasQ_other l n k hlt hs)
        rw [hs] at CS
        clear hs
        generalize l[k].1 = p1 at *
        generalize l[k].2 = p2 at *
        generalize hasQ l n k = dn at *
        have d1 := c1 _ hB
        go_wp2_with fail
        refine (CS _).out.mono ?_
        rintro e w2 ⟨rfl, hb2⟩
        have hB2 := bb2 hB hb2
        clear d1
        have d1 := c1 _ hB2
        have d2 := c2 _ hB2
        have hbs := hB2.size
        go_wp2_with (at_builtin; refine wpList_append_prs _ _ _ rfl (by rfl) w.heap.size _ _ _ rfl (ownsRow_below (ownsRow_below HR.out hb2) ((Below.refl _ _).alloc (Nat.le_refl _) _)) _ _ rfl (Prs.at1 w2 _ rfl p1 p2) (by simp; omega) (by simp; omega) ?_; intro v' w3 hown' hgrow)
        refine ⟨⟨k + 1, by omega, by go_num, by rw [HD.out], by rw [HN.out, List.length_append]; exact hown', ?_⟩, by simp [intOf]; omega⟩
        exact (hB2.alloc hB2.size _).grown hgrow (by simp; omega) (fun j e => ownBlock_ge HR.out e)
      · have HD := hide (hasQ_same l n k hlt hs)
        cases hd : hasQ l n k
        · have HN := hide (setT_first l n x k hlt hs hd)
          rw [hs] at CS
          clear hs hd
          generalize l[k].1 = p1 at *
          generalize l[k].2 = p2 at *
          have d1 := c1 _ hB
          go_wp2_with fail
          refine (CS _).out.mono ?_
          rintro e w2 ⟨rfl, hb2⟩
          have hB2 := bb2 hB hb2
          clear d1
          have hbs := hB2.size
          go_wp2_with (at_builtin; refine wpList_append_prs _ _ _ rfl (by rfl) w.heap.size _ _ _ rfl (ownsRow_below (ownsRow_below HR.out hb2) ((Below.refl _ _).alloc (Nat.le_refl _) _)) _ _ rfl (Prs.at1 w2 _ rfl n x) (by simp; omega) (by simp; omega) ?_; intro v' w3 hown' hgrow)
          refine ⟨⟨k + 1, by omega, by go_num, by rw [HD.out], by rw [HN.out, List.length_append]; exact hown', ?_⟩, by simp [intOf]; omega⟩
          exact (hB2.alloc hB2.size _).grown hgrow (by simp; omega) (fun j e => ownBlock_ge HR.out e)
        · have HN := hide (setT_again l n x k hlt hs hd)
          rw [hs] at CS
          clear hs hd
          generalize l[k].1 = p1 at *
          generalize l[k].2 = p2 at *
          have d1 := c1 _ hB
          go_wp2_with fail
          refine ((CS _).out).mono ?_
          rintro e w2 ⟨rfl, hb2⟩
          go_wp2_with fail
          exact ⟨⟨k + 1, by omega, by go_num, by rw [HD.out], by rw [HN.out]; exact ownsRow_below HR.out hb2, bb2 hB hb2⟩, by simp [intOf]; omega⟩
    · have hlt' : ¬ (k : Int) < (l.length : Int) := by omega
      obtain rfl : k = l.length := by omega
      cases hd : hasQ l n l.length
      · have HS := hide (setT_undone l n x hd)
        clear hd
        have hbs := hB.size
        go_wp2_with (at_builtin; refine wpList_append_prs _ _ _ rfl (by rfl) w.heap.size _ _ _ rfl (ownsRow_below HR.out ((Below.refl _ _).alloc (Nat.le_refl _) _)) _ _ rfl (Prs.at1 wr _ rfl n x) (by simp; omega) (by simp; omega) ?_; intro v' w3 hown' hgrow)
        go_ret
        exact ⟨_, rfl, by rw [HS.out]; exact Prs.of_row (by simp) hown', (hB.alloc hB.size _).grown hgrow (by simp; omega) (fun j e => ownBlock_ge HR.out e)⟩
      · have HS := hide (setT_done l n x hd)
        clear hd
        go_wp2_with fail
        go_ret
        exact ⟨_, rfl, by rw [HS.out]; exact Prs.of_row rfl HR.out, hB⟩

end Go.Proofs.YtphinklnbjpohaaGreatDoor
