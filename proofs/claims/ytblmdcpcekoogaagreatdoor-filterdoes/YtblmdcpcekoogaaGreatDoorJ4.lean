/-
  Walks: the document's Same (of names), All, Drop, Set.
-/
import Derived.Test.YtblmdcpcekoogaaGreatDoorPbWalkC
import Derived.Test.YtblmdcpcekoogaaGreatDoorPaWalkB
import Derived.Test.YtblmdcpcekoogaaGreatDoorPaWalkC
import Derived.Test.YtblmdcpcekoogaaGreatDoorWalkA
import Derived.Test.YtblmdcpcekoogaaGreatDoorWalkC
import Derived.BigRegion
import Derived.Test.YtblmdcpcekoogaaGreatDoorWalkD
import Derived.Test.YtblmdcpcekoogaaGreatDoorStrs
import Derived.Test.YtblmdcpcekoogaaGreatDoorPbWalkE
namespace Go.Proofs.YtblmdcpcekoogaaGreatDoor
set_option maxRecDepth 20000
open Go Go.RowKit Go.Shelf Go.Deep

/-- texts that are not too long to be looked at -/
def okF (p : PairB) : Prop := p.1.size ≤ 100 ∧ p.2.size ≤ 100

set_option maxHeartbeats 400000 in
theorem rprSame_any (a b : ByteArray) (w : World) (ha : a.size ≤ 100) (hb : b.size ≤ 100) :
    Calls Tryz.prog 91 #[.string a, .string b] w fun e w' => e = .returned (.bool (sameF a b)) ∧ Below w.heap.size w w' := by
  have H : Hid (((foldB a).toList == (foldB b).toList) = sameF a b) := beq_dec _ _
  go_enter Tryz.func91, Tryz.ntmps91
  go_wp2_with fail
  refine (rfold_any _ _ (by omega)).mono ?_
  rintro e w1 ⟨rfl, hb1⟩
  go_wp2_with fail
  refine (rfold_any _ _ (by omega)).mono ?_
  rintro e w2 ⟨rfl, hb2⟩
  go_wp2_with fail
  go_ret
  exact ⟨ret_bool H.out, bb2 hb1 hb2⟩

theorem same_turn {l : List PairB} {n : ByteArray} {k : Nat} {h : k < l.length} {b : Bool} (hs : sameF l[k].1 n = b) : sameF n l[k].1 = b := by rw [show sameF n l[k].1 = sameF l[k].1 n from Pb.sm_comm _ _]; exact hs

set_option maxHeartbeats 800000 in
theorem rdrop_any (n : ByteArray) (v : Value) (l : List PairB) (w : World) (hn : n.size ≤ 100) (hv : Prs w v l) (hok : ∀ p ∈ l, okF p) (hl : l.length ≤ 1000) :
    Calls Tryz.prog 39 #[v, .string n] w fun e w' => ∃ v', e = .returned v' ∧ Prs w' v' (dropQ l n) ∧ Below w.heap.size w w' := by
  obtain ⟨a, cap, rfl, _, _, hc⟩ := hv
  have HC := hide hc
  have HOK := hide hok
  clear hc hok
  go_enter Tryz.func39, Tryz.ntmps39
  go_wp2_with fail
  go_loopw [5, 6] (fun o i wr => ∃ k : Nat, k ≤ l.length ∧ i = .int .i64 k ∧ wr.ownsRow w.heap.size 83 2 o (dropQ (l.take k) n).length (flat (dropQ (l.take k) n)) ∧ Below w.heap.size w wr) (fun _ i _ => l.length - (intOf i).toNat)
  case atStart => exact ⟨0, Nat.zero_le _, rfl, World.ownsRow_nil _ _ _ _, Below.refl _ _⟩
  case round =>
    obtain ⟨k, hk, rfl, hr, hB⟩ := hrel
    have HR := hide hr
    clear hr
    by_cases hlt : k < l.length
    · have hlt' : (k : Int) < (l.length : Int) := by omega
      obtain ⟨g, off, rfl, hg, c1, c2⟩ := HC.out k hlt
      replace c1 := fun W (h : Below w.heap.size w W) => (h.cell (p := ⟨g, off + k * 2, none⟩) hg).trans c1
      replace c2 := fun W (h : Below w.heap.size w W) => (h.cell (p := ⟨g, off + k * 2 + 1, none⟩) hg).trans c2
      obtain ⟨o1, o2⟩ := HOK.out _ (List.getElem_mem hlt)
      have CS := fun W => hide (rprSame_any l[k].1 n W o1 hn)
      cases hs : sameF l[k].1 n
      · have HN := hide (drop_not l n k hlt (same_turn hs))
        have hle := drop_le l n k
        rw [hs] at CS
        clear hs
        generalize l[k].1 = p1 at *
        generalize l[k].2 = p2 at *
        have d1 := c1 _ hB
        go_wp2_with fail
        refine (CS _).out.mono ?_
        rintro e w2 ⟨rfl, hb2⟩
        have hB2 := bb2 hB hb2
        clear d1
        have d1 := c1 _ hB2
        have d2 := c2 _ hB2
        have hbs := hB2.size
        go_wp2_with (at_builtin; refine wpList_append_prs _ _ _ rfl (by rfl) w.heap.size _ _ _ rfl (ownsRow_below (ownsRow_below HR.out hb2) ((Below.refl _ _).alloc (Nat.le_refl _) _)) _ _ rfl (Prs.at1 w2 _ rfl p1 p2) (by simp; omega) (by simp; omega) ?_; intro v' w3 hown' hgrow)
        refine ⟨⟨k + 1, by omega, by go_num, by rw [HN.out, List.length_append]; exact hown', ?_⟩, by simp [intOf]; omega⟩
        exact (hB2.alloc hB2.size _).grown hgrow (by simp; omega) (fun j e => ownBlock_ge HR.out e)
      · have HN := hide (drop_yes l n k hlt (same_turn hs))
        rw [hs] at CS
        clear hs
        generalize l[k].1 = p1 at *
        generalize l[k].2 = p2 at *
        have d1 := c1 _ hB
        go_wp2_with fail
        refine ((CS _).out).mono ?_
        rintro e w2 ⟨rfl, hb2⟩
        go_wp2_with fail
        exact ⟨⟨k + 1, by omega, by go_num, by rw [HN.out]; exact ownsRow_below HR.out hb2, bb2 hB hb2⟩, by simp [intOf]; omega⟩
    · have hlt' : ¬ (k : Int) < (l.length : Int) := by omega
      have hp : Prs wr u5 (dropQ l n) := by
        have := Prs.of_row rfl HR.out
        rwa [List.take_of_length_le (by omega)] at this
      go_wp2_with fail
      go_ret
      exact ⟨_, rfl, hp, hB⟩

abbrev setT (l : List PairB) (n x : ByteArray) (k : Nat) : List PairB := Pb.setTo foldB (l.take k) n x
abbrev hasQ (l : List PairB) (n : ByteArray) (k : Nat) : Bool := Pb.hasP foldB (l.take k) n
theorem setT_other (l : List PairB) (n x : ByteArray) (k : Nat) (h : k < l.length) (hs : sameF l[k].1 n = false) : setT l n x (k + 1) = setT l n x k ++ [(l[k].1, l[k].2)] := by
  rw [setT, List.take_succ_eq_append_getElem h, Pb.setTo_snoc, if_neg (by show ¬ sameF l[k].1 n = true; rw [hs]; decide)]
theorem hasQ_other (l : List PairB) (n : ByteArray) (k : Nat) (h : k < l.length) (hs : sameF l[k].1 n = false) : hasQ l n (k + 1) = hasQ l n k := by
  rw [hasQ, List.take_succ_eq_append_getElem h, Pb.has_snoc, show Pb.sm foldB l[k].1 n = false from hs, Bool.or_false]
theorem setT_first (l : List PairB) (n x : ByteArray) (k : Nat) (h : k < l.length) (hs : sameF l[k].1 n = true) (hd : hasQ l n k = false) : setT l n x (k + 1) = setT l n x k ++ [(n, x)] := by
  rw [setT, List.take_succ_eq_append_getElem h, Pb.setTo_snoc, if_pos hs, if_neg (by show ¬ hasQ l n k = true; rw [hd]; decide)]
theorem setT_again (l : List PairB) (n x : ByteArray) (k : Nat) (h : k < l.length) (hs : sameF l[k].1 n = true) (hd : hasQ l n k = true) : setT l n x (k + 1) = setT l n x k := by
  rw [setT, List.take_succ_eq_append_getElem h, Pb.setTo_snoc, if_pos hs, if_pos hd]
theorem hasQ_same (l : List PairB) (n : ByteArray) (k : Nat) (h : k < l.length) (hs : sameF l[k].1 n = true) : hasQ l n (k + 1) = true := by
  rw [hasQ, List.take_succ_eq_append_getElem h, Pb.has_snoc, show Pb.sm foldB l[k].1 n = true from hs, Bool.or_true]
theorem setT_le (l : List PairB) (n x : ByteArray) : ∀ k, k ≤ l.length → (setT l n x k).length ≤ k
  | 0, _ => by simp [setT, Pb.setTo, Pb.hasP]
  | k + 1, h => by
    have ih := setT_le l n x k (by omega)
    cases hs : sameF l[k].1 n
    · rw [setT_other l n x k (by omega) hs, List.length_append]
      simp
      omega
    · cases hd : hasQ l n k
      · rw [setT_first l n x k (by omega) hs hd, List.length_append]
        simp
        omega
      · rw [setT_again l n x k (by omega) hs hd]
        omega
theorem setT_done (l : List PairB) (n x : ByteArray) (hd : hasQ l n l.length = true) : setQ l n x = setT l n x l.length := by
  have e := Pb.setTo_end (key := foldB) l n x
  have h1 : l.take l.length = l := List.take_of_length_le (Nat.le_refl _)
  rw [hasQ, h1] at hd
  rw [if_pos hd] at e
  rw [setT, h1]
  exact e
theorem setT_undone (l : List PairB) (n x : ByteArray) (hd : hasQ l n l.length = false) : setQ l n x = setT l n x l.length ++ [(n, x)] := by
  have e := Pb.setTo_end (key := foldB) l n x
  have h1 : l.take l.length = l := List.take_of_length_le (Nat.le_refl _)
  rw [hasQ, h1] at hd
  rw [if_neg (by rw [hd]; decide)] at e
  rw [setT, h1]
  exact e

set_option maxHeartbeats 1600000 in
theorem rset_any (n x : ByteArray) (v : Value) (l : List PairB) (w : World) (hn : n.size ≤ 100) (hv : Prs w v l) (hok : ∀ p ∈ l, okF p) (hl : l.length ≤ 1000) :
    Calls Tryz.prog 38 #[v, .string n, .string x] w fun e w' => ∃ v', e = .returned v' ∧ Prs w' v' (setQ l n x) ∧ Below w.heap.size w w' := by
  obtain ⟨a, cap, rfl, _, _, hc⟩ := hv
  have HC := hide hc
  have HOK := hide hok
  clear hc hok
  go_enter Tryz.func38, Tryz.ntmps38
  go_wp2_with fail
  go_loopw [7, 8, 9] (fun o d i wr => ∃ k : Nat, k ≤ l.length ∧ i = .int .i64 k ∧ d = .bool (hasQ l n k) ∧ wr.ownsRow w.heap.size 83 2 o (setT l n x k).length (flat (setT l n x k)) ∧ Below w.heap.size w wr) (fun _ _ i _ => l.length - (intOf i).toNat)
  case atStart => exact ⟨0, Nat.zero_le _, rfl, rfl, World.ownsRow_nil _ _ _ _, Below.refl _ _⟩
  case round =>
    obtain ⟨k, hk, rfl, rfl, hr, hB⟩ := hrel
    have HR := hide hr
    clear hr
    have hle := setT_le l n x k hk
    by_cases hlt : k < l.length
    · have hlt' : (k : Int) < (l.length : Int) := by omega
      obtain ⟨g, off, rfl, hg, c1, c2⟩ := HC.out k hlt
      replace c1 := fun W (h : Below w.heap.size w W) => (h.cell (p := ⟨g, off + k * 2, none⟩) hg).trans c1
      replace c2 := fun W (h : Below w.heap.size w W) => (h.cell (p := ⟨g, off + k * 2 + 1, none⟩) hg).trans c2
      obtain ⟨o1, o2⟩ := HOK.out _ (List.getElem_mem hlt)
      have CS := fun W => hide (rprSame_any l[k].1 n W o1 hn)
      cases hs : sameF l[k].1 n
      · have HN := hide (setT_other l n x k hlt hs)
        have HD := hide (hasQ_other l n k hlt hs)
        rw [hs] at CS
        clear hs
        generalize l[k].1 = p1 at *
        generalize l[k].2 = p2 at *
        generalize hasQ l n k = dn at *
        have d1 := c1 _ hB
        go_wp2_with fail
        refine (CS _).out.mono ?_
        rintro e w2 ⟨rfl, hb2⟩
        have hB2 := bb2 hB hb2
        clear d1
        have d1 := c1 _ hB2
        have d2 := c2 _ hB2
        have hbs := hB2.size
        go_wp2_with (at_builtin; refine wpList_append_prs _ _ _ rfl (by rfl) w.heap.size _ _ _ rfl (ownsRow_below (ownsRow_below HR.out hb2) ((Below.refl _ _).alloc (Nat.le_refl _) _)) _ _ rfl (Prs.at1 w2 _ rfl p1 p2) (by simp; omega) (by simp; omega) ?_; intro v' w3 hown' hgrow)
        refine ⟨⟨k + 1, by omega, by go_num, by rw [HD.out], by rw [HN.out, List.length_append]; exact hown', ?_⟩, by simp [intOf]; omega⟩
        exact (hB2.alloc hB2.size _).grown hgrow (by simp; omega) (fun j e => ownBlock_ge HR.out e)
      · have HD := hide (hasQ_same l n k hlt hs)
        cases hd : hasQ l n k
        · have HN := hide (setT_first l n x k hlt hs hd)
          rw [hs] at CS
          clear hs hd
          generalize l[k].1 = p1 at *
          generalize l[k].2 = p2 at *
          have d1 := c1 _ hB
          go_wp2_with fail
          refine (CS _).out.mono ?_
          rintro e w2 ⟨rfl, hb2⟩
          have hB2 := bb2 hB hb2
          clear d1
          have hbs := hB2.size
          go_wp2_with (at_builtin; refine wpList_append_prs _ _ _ rfl (by rfl) w.heap.size _ _ _ rfl (ownsRow_below (ownsRow_below HR.out hb2) ((Below.refl _ _).alloc (Nat.le_refl _) _)) _ _ rfl (Prs.at1 w2 _ rfl n x) (by simp; omega) (by simp; omega) ?_; intro v' w3 hown' hgrow)
          refine ⟨⟨k + 1, by omega, by go_num, by rw [HD.out], by rw [HN.out, List.length_append]; exact hown', ?_⟩, by simp [intOf]; omega⟩
          exact (hB2.alloc hB2.size _).grown hgrow (by simp; omega) (fun j e => ownBlock_ge HR.out e)
        · have HN := hide (setT_again l n x k hlt hs hd)
          rw [hs] at CS
          clear hs hd
          generalize l[k].1 = p1 at *
          generalize l[k].2 = p2 at *
          have d1 := c1 _ hB
          go_wp2_with fail
          refine ((CS _).out).mono ?_
          rintro e w2 ⟨rfl, hb2⟩
          go_wp2_with fail
          exact ⟨⟨k + 1, by omega, by go_num, by rw [HD.out], by rw [HN.out]; exact ownsRow_below HR.out hb2, bb2 hB hb2⟩, by simp [intOf]; omega⟩
    · have hlt' : ¬ (k : Int) < (l.length : Int) := by omega
      obtain rfl : k = l.length := by omega
      cases hd : hasQ l n l.length
      · have HS := hide (setT_undone l n x hd)
        clear hd
        have hbs := hB.size
        go_wp2_with (at_builtin; refine wpList_append_prs _ _ _ rfl (by rfl) w.heap.size _ _ _ rfl (ownsRow_below HR.out ((Below.refl _ _).alloc (Nat.le_refl _) _)) _ _ rfl (Prs.at1 wr _ rfl n x) (by simp; omega) (by simp; omega) ?_; intro v' w3 hown' hgrow)
        go_ret
        exact ⟨_, rfl, by rw [HS.out]; exact Prs.of_row (by simp) hown', (hB.alloc hB.size _).grown hgrow (by simp; omega) (fun j e => ownBlock_ge HR.out e)⟩
      · have HS := hide (setT_done l n x hd)
        clear hd
        go_wp2_with fail
        go_ret
        exact ⟨_, rfl, by rw [HS.out]; exact Prs.of_row rfl HR.out, hB⟩

end Go.Proofs.YtblmdcpcekoogaaGreatDoor
namespace Go.Proofs.YtblmdcpcekoogaaGreatDoor
set_option maxRecDepth 20000
open Go Go.RowKit Go.Shelf

attribute [local go_sem] gb_const

theorem pfirst_not {s : ByteArray} (h0 : 0 < s.size) (h : ((s[0].toNat : Int) != 47) = true) : isP s.data.toList = false := by
  refine isP_root ?_
  rw [Bool.eq_false_iff]
  intro hp
  obtain ⟨r, hr⟩ := hasP_iff.1 hp
  have e : s.data.toList[0]? = some 47 := by rw [← hr]; rfl
  rw [List.getElem?_eq_getElem (by rw [size_len]; exact h0)] at e
  have e' : s[0] = 47 := Option.some.inj e
  rw [e'] at h
  exact absurd h (by decide)
theorem pfirst_yes {s : ByteArray} (h0 : 0 < s.size) (h : ((s[0].toNat : Int) != 47) = false) : Lib.hasPrefix s.data.toList [47] = true := by
  have h' : (s[0].toNat : Int) = 47 := by simpa using h
  have e : s[0] = 47 := UInt8.toNat_inj.1 (by show s[0].toNat = 47; omega)
  rw [hasP_iff]
  refine ⟨s.data.toList.drop 1, ?_⟩
  have : s.data.toList = s[0] :: s.data.toList.drop 1 := by
    have hl : 0 < s.data.toList.length := by rw [size_len]; exact h0
    exact (List.drop_zero (l := s.data.toList)).symm.trans (List.drop_eq_getElem_cons hl)
  rw [this, e]
  rfl

theorem inP_out {c : Int} (h : inP c = true) : ¬ c < 33 ∧ ¬ 126 < c ∧ (c == 63) = false ∧ (c == 35) = false := by
  simp only [inP, Bool.and_eq_true, decide_eq_true_eq, Bool.not_eq_true'] at h
  exact ⟨by omega, by omega, h.1.2, h.2⟩

set_option maxHeartbeats 800000 in
theorem ris_any (s : ByteArray) (w : World) (hs : s.size ≤ maxLen) :
    Calls Tryz.prog 93 #[.string s] w fun e w' => e = .returned (.bool (isP s.data.toList)) ∧ w' = w := by
  unfold maxLen at hs
  by_cases h60 : 60 < s.size
  · have HX := hide (isP_long h60)
    go_enter Tryz.func93, Tryz.ntmps93
    go_wp2_with fail
    go_ret
    exact ⟨ret_bool HX.out.symm, rfl⟩
  by_cases h0 : 0 < s.size
  · have h1 : ¬ (s.size : Int) < 1 := by omega
    have h2 : ¬ (60 : Int) < s.size := by omega
    cases hf : ((s[0].toNat : Int) != 47)
    · have HX := hide (fun h => isP_all h60 (pfirst_yes h0 hf) h)
      go_enter Tryz.func93, Tryz.ntmps93
      go_wp2_with fail
      go_loop [3] (fun i => ∃ k : Nat, k ≤ s.size ∧ i = .int .i64 k ∧ Hid (∀ j (h : j < s.size), j < k → inP (s[j].toNat : Int) = true)) (fun i => s.size - (intOf i).toNat)
      case atStart => exact ⟨0, Nat.zero_le _, rfl, fun j h hj => by omega⟩
      case round =>
        obtain ⟨k, hk, rfl, hall⟩ := hrel
        by_cases hlt : k < s.size
        · have hk8 := s[k].toNat_lt
          cases hin : inP (s[k].toNat : Int)
          · have HN := hide (isP_not hlt hin)
            have HI := hide hin
            clear hin
            go_wp2_with fail
            all_goals first
              | (go_ret; exact ⟨ret_bool HN.out.symm, rfl⟩)
              | (exfalso
                 have hi := HI.out
                 simp only [inP, Bool.and_eq_false_iff, decide_eq_false_iff_not, Bool.not_eq_false'] at hi
                 simp_all <;> omega)
          · have HI := hide hin
            obtain ⟨a1, a2, a3, a4⟩ := inP_out hin
            clear hin
            go_wp2_with fail
            refine ⟨⟨k + 1, by omega, by go_num, fun j h hj => ?_⟩, ?_⟩
            · by_cases e : j = k
              · subst e; exact HI.out
              · exact hall.out j h (by omega)
            · simp [intOf]; omega
        · have HY := hide (HX.out (fun j h => hall.out j h (by omega)))
          go_wp2_with fail
          go_ret
          exact ⟨ret_bool HY.out.symm, rfl⟩
    · have HX := hide (pfirst_not h0 hf)
      go_enter Tryz.func93, Tryz.ntmps93
      go_wp2_with fail
      go_ret
      exact ⟨ret_bool HX.out.symm, rfl⟩
  · have h1 : s.size = 0 := by omega
    have HX : Hid (isP s.data.toList = false) := by
      refine isP_root ?_
      rw [Bool.eq_false_iff]
      intro hp
      have := (hasP_iff.1 hp).length_le
      rw [size_len, h1] at this
      simp at this
    have h2 : (s.size : Int) < 1 := by omega
    clear h0 h60
    go_enter Tryz.func93, Tryz.ntmps93
    go_wp2_with fail
    go_ret
    exact ⟨ret_bool HX.out.symm, rfl⟩

theorem one_root {s : ByteArray} (hp : isP s.data.toList = true) : ((s.size : Int) == 1) = (s.data.toList == [47]) := by
  rw [Bool.eq_iff_iff, beq_iff_eq, beq_iff_eq]
  have h := (isP_iff.1 hp).2.1
  constructor
  · intro e
    exact (h.eq_of_length (by rw [size_len]; show 1 = s.size; omega)).symm
  · intro e
    rw [← size_len, e]
    rfl
theorem last_suffix {s : ByteArray} (h0 : 0 < s.size) : ((s[s.size - 1].toNat : Int) == 47) = Lib.hasSuffix s.data.toList [47] := by
  rw [Bool.eq_iff_iff, beq_iff_eq]
  unfold Lib.hasSuffix
  rw [List.isSuffixOf_iff_suffix]
  have hl : s.data.toList ≠ [] := by intro e; have := size_len s; rw [e] at this; simp at this; omega
  have he : s.data.toList.getLast hl = s[s.size - 1] := by
    rw [List.getLast_eq_getElem]
    simp only [size_len]
    rfl
  constructor
  · intro h
    refine ⟨s.data.toList.dropLast, ?_⟩
    have e : s[s.size - 1] = 47 := UInt8.toNat_inj.1 (by show s[s.size - 1].toNat = 47; omega)
    have := List.dropLast_concat_getLast hl
    rw [he, e] at this
    exact this
  · rintro ⟨r, hr⟩
    have : s.data.toList.getLast hl = 47 := by
      simp only [← hr]
      simp
    rw [he] at this
    rw [this]
    rfl

set_option maxHeartbeats 800000 in
theorem rabove_any (s : ByteArray) (w : World) (hs : s.size ≤ maxLen) :
    Calls Tryz.prog 140 #[.string s] w fun e w' => e = .returned (.bool (abv s.data.toList)) ∧ w' = w := by
  cases hp : isP s.data.toList
  · have HA : Hid (abv s.data.toList = false) := by unfold Hid abv; rw [hp]; rfl
    have HP := hide hp
    clear hp
    go_enter Tryz.func140, Tryz.ntmps140
    go_wp2_with fail
    refine (ris_any _ _ hs).mono ?_
    rintro e x ⟨rfl, hx⟩
    subst x
    rw [HP.out]
    go_wp2_with fail
    go_ret
    exact ⟨ret_bool HA.out.symm, rfl⟩
  · have HP := hide hp
    have h0 : 0 < s.size := by
      have := (isP_iff.1 hp).2.1.length_le
      rw [size_len] at this
      exact this
    have hl := isP_len hp
    cases hr : ((s.size : Int) == 1)
    · have HA : Hid (abv s.data.toList = !((s[s.size - 1].toNat : Int) == 47)) := by
        unfold Hid abv
        rw [hp, ← one_root hp, hr, last_suffix h0]; rfl
      cases hc : ((s[s.size - 1].toNat : Int) == 47)
      all_goals
        have hc' := hc
        rw [hc] at HA
        clear hp
        go_enter Tryz.func140, Tryz.ntmps140
        go_wp2_with fail
        refine (ris_any _ _ hs).mono ?_
        rintro e x ⟨rfl, hx⟩
        subst x
        rw [HP.out]
        go_wp2_with fail
        go_ret
        exact ⟨ret_bool (by rw [HA.out]; simp [bne, hc']), rfl⟩
    · have HA : Hid (abv s.data.toList = true) := by
        unfold Hid abv
        rw [hp, ← one_root hp, hr]; rfl
      clear hp
      go_enter Tryz.func140, Tryz.ntmps140
      go_wp2_with fail
      refine (ris_any _ _ hs).mono ?_
      rintro e x ⟨rfl, hx⟩
      subst x
      rw [HP.out]
      go_wp2_with fail
      go_ret
      exact ⟨ret_bool HA.out.symm, rfl⟩

set_option maxHeartbeats 800000 in
theorem prmay_any (k : Int) (s : ByteArray) (w : World) (hs : s.size ≤ maxLen) :
    Calls Tryz.prog 92 #[.agg #[.int .i64 k, .string s]] w fun e w' => e = .returned (.bool (mayP k s.data.toList)) ∧ Below w.heap.size w w' := by
  cases h1 : (k == 1)
  · cases h2 : (k == 2)
    · have HM : Hid (mayP k s.data.toList = false) := by
        unfold Hid mayP
        rw [if_neg (beq_eq_false_iff_ne.1 h1), if_neg (beq_eq_false_iff_ne.1 h2)]
      go_enter Tryz.func92, Tryz.ntmps92
      go_wp2_with fail
      go_ret
      exact ⟨ret_bool HM.out.symm, (Below.refl _ _).alloc (Nat.le_refl _) _⟩
    · have HM : Hid (mayP k s.data.toList = abv s.data.toList) := by
        unfold Hid mayP
        rw [if_neg (beq_eq_false_iff_ne.1 h1), if_pos (eq_of_beq h2)]
      go_enter Tryz.func92, Tryz.ntmps92
      go_wp2_with fail
      refine (rabove_any _ _ hs).mono ?_
      rintro e x ⟨rfl, hx⟩
      subst x
      go_wp2_with fail
      go_ret
      exact ⟨ret_bool HM.out.symm, (Below.refl _ _).alloc (Nat.le_refl _) _⟩
  · have HM : Hid (mayP k s.data.toList = isP s.data.toList) := by
      unfold Hid mayP
      rw [if_pos (eq_of_beq h1)]
    go_enter Tryz.func92, Tryz.ntmps92
    go_wp2_with fail
    refine (ris_any _ _ hs).mono ?_
    rintro e x ⟨rfl, hx⟩
    subst x
    go_wp2_with fail
    go_ret
    exact ⟨ret_bool HM.out.symm, (Below.refl _ _).alloc (Nat.le_refl _) _⟩

theorem pre_split {v s : List UInt8} : (v ++ [47] <+: s) ↔ v.length < s.length ∧ s.take v.length = v ∧ s[v.length]? = some 47 := by
  constructor
  · rintro ⟨r, rfl⟩
    simp
  · rintro ⟨h1, h2, h3⟩
    refine ⟨s.drop (v.length + 1), ?_⟩
    have e : s.drop v.length = 47 :: s.drop (v.length + 1) := by
      rw [List.drop_eq_getElem_cons h1]
      congr 1
      rw [List.getElem?_eq_getElem h1] at h3
      exact Option.some.inj h3
    rw [List.append_assoc]
    show v ++ (47 :: s.drop (v.length + 1)) = s
    have h4 := List.take_append_drop v.length s
    rw [h2, e] at h4
    exact h4
theorem pre_no_len {v s : ByteArray} (h : ¬ v.size < s.size) : Lib.hasPrefix s.data.toList (v.data.toList ++ [47]) = false := by
  rw [Bool.eq_false_iff, ne_eq, hasP_iff, pre_split, size_len, size_len]
  exact fun x => h x.1
theorem take_toList (s : ByteArray) (n : Nat) : (s.extract 0 n).toList = s.data.toList.take n := by
  rw [Lib.extract_toList]
  simp
theorem pre_no_text {v s : ByteArray} (h : ((s.extract 0 v.size).toList == v.toList) = false) : Lib.hasPrefix s.data.toList (v.data.toList ++ [47]) = false := by
  rw [Bool.eq_false_iff, ne_eq, hasP_iff, pre_split, size_len, size_len]
  rw [take_toList, Lib.toList_data] at h
  exact fun x => beq_eq_false_iff_ne.1 h x.2.1
theorem pre_at {v s : ByteArray} (hl : v.size < s.size) (h : ((s.extract 0 v.size).toList == v.toList) = true) : Lib.hasPrefix s.data.toList (v.data.toList ++ [47]) = ((s[v.size].toNat : Int) == 47) := by
  rw [take_toList, Lib.toList_data] at h
  have h' := eq_of_beq h
  rw [Bool.eq_iff_iff, hasP_iff, pre_split, size_len, size_len, beq_iff_eq]
  have hg : s.data.toList[v.size]? = some s[v.size] := by
    rw [List.getElem?_eq_getElem (by rw [size_len]; exact hl)]
    rfl
  rw [hg]
  constructor
  · intro x
    rw [Option.some.inj x.2.2]
    rfl
  · intro x
    refine ⟨hl, h', ?_⟩
    congr 1
    exact UInt8.toNat_inj.1 (by show s[v.size].toNat = 47; omega)

set_option maxHeartbeats 1600000 in
theorem prholds_any (k : Int) (v s : ByteArray) (w : World) (hv : v.size ≤ maxLen) (hs : s.size ≤ maxLen) :
    Calls Tryz.prog 37 #[.agg #[.int .i64 k, .string v], .string s] w fun e w' => e = .returned (.bool (holdP k v.data.toList s.data.toList)) ∧ Below w.heap.size w w' := by
  cases hm : mayP k v.data.toList
  · have HH : Hid (holdP k v.data.toList s.data.toList = false) := by unfold Hid holdP; rw [hm]; rfl
    have HM := hide hm
    clear hm
    go_enter Tryz.func37, Tryz.ntmps37
    go_wp2_with fail
    refine (prmay_any _ _ _ hv).mono ?_
    rintro e w1 ⟨rfl, hb1⟩
    rw [HM.out]
    go_wp2_with fail
    go_ret
    exact ⟨ret_bool HH.out.symm, below_box hb1⟩
  · have HM := hide hm
    have hvl := isP_len (may_isP hm)
    cases hp : isP s.data.toList
    · have HH : Hid (holdP k v.data.toList s.data.toList = false) := by unfold Hid holdP; rw [hm, hp]; rfl
      have HP := hide hp
      clear hm hp
      go_enter Tryz.func37, Tryz.ntmps37
      go_wp2_with fail
      refine (prmay_any _ _ _ hv).mono ?_
      rintro e w1 ⟨rfl, hb1⟩
      rw [HM.out]
      go_wp2_with fail
      refine (ris_any _ _ hs).mono ?_
      rintro e x ⟨rfl, hx⟩
      subst x
      rw [HP.out]
      go_wp2_with fail
      go_ret
      exact ⟨ret_bool HH.out.symm, below_box hb1⟩
    · have HP := hide hp
      have hsl := isP_len hp
      cases h1 : (k == 1)
      · cases he : (v.toList == s.toList)
        · have he' : (s.toList == v.toList) = false := by rw [← he]; exact Bool.beq_comm
          cases hr : ((v.size : Int) == 1)
          · have HH : Hid (holdP k v.data.toList s.data.toList = Lib.hasPrefix s.data.toList (v.data.toList ++ [47])) := by
              unfold Hid holdP und
              rw [hm, hp, if_neg (beq_eq_false_iff_ne.1 h1), ← list_beq, he', ← one_root (may_isP hm), hr]; rfl
            clear hm hp he'
            by_cases hlt : v.size < s.size
            · have hd : decide ((v.size : Int) < s.size) = true := decide_eq_true (by omega)
              have hd2 : (v.size : Int) < s.size := by omega
              cases hx : ((s.extract 0 v.size).toList == v.toList)
              · have HN := hide (HH.out.trans (pre_no_text hx))
                go_enter Tryz.func37, Tryz.ntmps37
                go_wp2_with fail
                refine (prmay_any _ _ _ hv).mono ?_
                rintro e w1 ⟨rfl, hb1⟩
                rw [HM.out]
                go_wp2_with fail
                refine (ris_any _ _ hs).mono ?_
                rintro e x ⟨rfl, hx⟩
                subst x
                rw [HP.out]
                have c0 := box_fst hb1
                have c1 := box_snd hb1
                have g1 : ∀ p : GB w1, p.W.cell? ⟨w.heap.size, 1, none⟩ = some (.string v) := fun p => box_snd (hb1.trans (p.h.mono hb1.size))
                go_wp2_with fail
                refine wp_region_below (by kernel_rfl) (by kernel_rfl) ?_
                repeat (first | go_big_quiet_step (fail) | quiet_step (fail))
                refine wpQuiet_nil ?_
                intro _ hw'
                obtain ⟨q, hw2⟩ := hw'
                subst hw2
                go_wp2_with fail
                go_ret
                exact ⟨ret_bool HN.out.symm, below_box (hb1.trans (q.h.mono hb1.size))⟩
              · have HN := hide (HH.out.trans (pre_at hlt hx))
                go_enter Tryz.func37, Tryz.ntmps37
                go_wp2_with fail
                refine (prmay_any _ _ _ hv).mono ?_
                rintro e w1 ⟨rfl, hb1⟩
                rw [HM.out]
                go_wp2_with fail
                refine (ris_any _ _ hs).mono ?_
                rintro e x ⟨rfl, hx⟩
                subst x
                rw [HP.out]
                have c0 := box_fst hb1
                have c1 := box_snd hb1
                have g1 : ∀ p : GB w1, p.W.cell? ⟨w.heap.size, 1, none⟩ = some (.string v) := fun p => box_snd (hb1.trans (p.h.mono hb1.size))
                go_wp2_with fail
                refine wp_region_below (by kernel_rfl) (by kernel_rfl) ?_
                repeat (first | go_big_quiet_step (fail) | quiet_step (fail))
                refine wpQuiet_nil ?_
                intro _ hw'
                obtain ⟨q, hw2⟩ := hw'
                subst hw2
                go_wp2_with fail
                go_ret
                exact ⟨ret_bool HN.out.symm, below_box (hb1.trans (q.h.mono hb1.size))⟩
            · have HN := hide (HH.out.trans (pre_no_len hlt))
              have hd : decide ((v.size : Int) < s.size) = false := decide_eq_false (by omega)
              go_enter Tryz.func37, Tryz.ntmps37
              go_wp2_with fail
              refine (prmay_any _ _ _ hv).mono ?_
              rintro e w1 ⟨rfl, hb1⟩
              rw [HM.out]
              go_wp2_with fail
              refine (ris_any _ _ hs).mono ?_
              rintro e x ⟨rfl, hx⟩
              subst x
              rw [HP.out]
              have c0 := box_fst hb1
              have c1 := box_snd hb1
              have g1 : ∀ p : GB w1, p.W.cell? ⟨w.heap.size, 1, none⟩ = some (.string v) := fun p => box_snd (hb1.trans (p.h.mono hb1.size))
              go_wp2_with fail
              refine wp_region_below (by kernel_rfl) (by kernel_rfl) ?_
              repeat (first | go_big_quiet_step (fail) | quiet_step (fail))
              refine wpQuiet_nil ?_
              intro _ hw'
              obtain ⟨q, hw2⟩ := hw'
              subst hw2
              go_wp2_with fail
              go_ret
              exact ⟨ret_bool HN.out.symm, below_box (hb1.trans (q.h.mono hb1.size))⟩
          · have HH : Hid (holdP k v.data.toList s.data.toList = true) := by
              unfold Hid holdP und
              rw [hm, hp, if_neg (beq_eq_false_iff_ne.1 h1), ← list_beq, he', ← one_root (may_isP hm), hr]; rfl
            clear hm hp he'
            go_enter Tryz.func37, Tryz.ntmps37
            go_wp2_with fail
            refine (prmay_any _ _ _ hv).mono ?_
            rintro e w1 ⟨rfl, hb1⟩
            rw [HM.out]
            go_wp2_with fail
            refine (ris_any _ _ hs).mono ?_
            rintro e x ⟨rfl, hx⟩
            subst x
            rw [HP.out]
            have c0 := box_fst hb1
            have c1 := box_snd hb1
            have g1 : ∀ p : GB w1, p.W.cell? ⟨w.heap.size, 1, none⟩ = some (.string v) := fun p => box_snd (hb1.trans (p.h.mono hb1.size))
            go_wp2_with fail
            refine wp_region_below (by kernel_rfl) (by kernel_rfl) ?_
            repeat (first | go_big_quiet_step (fail) | quiet_step (fail))
            refine wpQuiet_nil ?_
            intro _ hw'
            obtain ⟨q, hw2⟩ := hw'
            subst hw2
            go_wp2_with fail
            go_ret
            exact ⟨ret_bool HH.out.symm, below_box (hb1.trans (q.h.mono hb1.size))⟩
        · have hes : v.data.toList = s.data.toList := by rw [list_beq] at he; exact eq_of_beq he
          have HH : Hid (holdP k v.data.toList s.data.toList = true) := by
            unfold Hid holdP und
            rw [hm, hp, if_neg (beq_eq_false_iff_ne.1 h1), hes]; simp
          clear hm hp hes
          go_enter Tryz.func37, Tryz.ntmps37
          go_wp2_with fail
          refine (prmay_any _ _ _ hv).mono ?_
          rintro e w1 ⟨rfl, hb1⟩
          rw [HM.out]
          go_wp2_with fail
          refine (ris_any _ _ hs).mono ?_
          rintro e x ⟨rfl, hx⟩
          subst x
          rw [HP.out]
          have c0 := box_fst hb1
          have c1 := box_snd hb1
          go_wp2_with fail
          go_ret
          exact ⟨ret_bool HH.out.symm, below_box hb1⟩
      · have HH : Hid (holdP k v.data.toList s.data.toList = (v.toList == s.toList)) := by
          unfold Hid holdP
          rw [hm, hp, if_pos (eq_of_beq h1), list_beq, Bool.beq_comm]; rfl
        clear hm hp
        go_enter Tryz.func37, Tryz.ntmps37
        go_wp2_with fail
        refine (prmay_any _ _ _ hv).mono ?_
        rintro e w1 ⟨rfl, hb1⟩
        rw [HM.out]
        go_wp2_with fail
        refine (ris_any _ _ hs).mono ?_
        rintro e x ⟨rfl, hx⟩
        subst x
        rw [HP.out]
        have c0 := box_fst hb1
        have c1 := box_snd hb1
        go_wp2_with fail
        go_ret
        exact ⟨ret_bool HH.out.symm, below_box hb1⟩

end Go.Proofs.YtblmdcpcekoogaaGreatDoor
namespace Go.Proofs.YtblmdcpcekoogaaGreatDoor
set_option maxRecDepth 20000
open Go Go.RowKit Go.Shelf

theorem ordP_kind {ka kb : Int} {a b : List UInt8} (h : (ka == kb) = false) : ordP ka a kb b = if ka < kb then -1 else 1 := by
  have hne := beq_eq_false_iff_ne.1 h
  unfold ordP cmpI orI
  by_cases h1 : ka < kb
  · simp [h1]
  · have h2 : kb < ka := by omega
    simp [h1, h2]
theorem ordP_len {k : Int} {a b : List UInt8} (h : a.length ≠ b.length) : ordP k a k b = if b.length < a.length then -1 else 1 := by
  unfold ordP cmpI orI
  by_cases h1 : b.length < a.length
  · have h2 : (b.length : Int) < a.length := by omega
    simp [h1, h2]
  · have h2 : (a.length : Int) < b.length := by omega
    have h3 : ¬ (b.length : Int) < a.length := by omega
    simp [h1, h2, h3]
theorem ordP_text {k : Int} {a b : List UInt8} (h : a.length = b.length) : ordP k a k b = Lib.compareBytes a b := by
  unfold ordP cmpI orI
  simp [h]

theorem no_size : (⟨#[]⟩ : ByteArray).size = 0 := rfl
theorem long_root {s : ByteArray} (h : 1 < s.size) : s.data.toList ≠ [47] := by
  intro e
  have := size_len s
  rw [e] at this
  simp at this
  omega
theorem short_root {s : ByteArray} (hp : isP s.data.toList = true) (h : ¬ 1 < s.size) : s.data.toList = [47] := by
  have h1 := (isP_iff.1 hp).2.1
  exact (h1.eq_of_length (by
    have := h1.length_le
    rw [size_len] at this ⊢
    simp at this ⊢
    omega)).symm

set_option maxHeartbeats 3200000 in
theorem rswap_any (k : Int) (v b s : ByteArray) (w : World) (hv : v.size ≤ maxLen) (hb : b.size ≤ maxLen) (hs : s.size ≤ maxLen) :
    Calls Tryz.prog 94 #[.agg #[.int .i64 k, .string v], .string b, .string s] w fun e w' => e = .returned (.tuple #[.string (mkB (swapT k v.data.toList b.data.toList s.data.toList)), .int .i64 (swapE k v.data.toList b.data.toList s.data.toList)]) ∧ Below w.heap.size w w' := by
  cases h2 : (k == 2)
  · have ⟨HT, HE⟩ := swap_arg (k := k) (v := v.data.toList) (b := b.data.toList) (s := s.data.toList) (by unfold okSw; rw [decide_eq_false (beq_eq_false_iff_ne.1 h2)]; rfl)
    have h2' : (k != 2) = true := by simp [bne, h2]
    go_enter Tryz.func94, Tryz.ntmps94
    go_wp2_with fail
    go_ret2
    exact ⟨ret_two HT.out HE.out, (Below.refl _ _).alloc (Nat.le_refl _) _⟩
  · have hk : k = 2 := eq_of_beq h2
    subst hk
    clear h2
    cases hh : holdP 2 v.data.toList s.data.toList
    · have ⟨HT, HE⟩ := swap_arg (k := 2) (v := v.data.toList) (b := b.data.toList) (s := s.data.toList) (by unfold okSw; rw [hh]; rfl)
      have HH := hide hh
      clear hh
      go_enter Tryz.func94, Tryz.ntmps94
      go_wp2_with fail
      refine (prholds_any _ _ _ _ hv hs).mono ?_
      rintro e w1 ⟨rfl, hb1⟩
      rw [HH.out]
      go_wp2_with fail
      go_ret2
      exact ⟨ret_two HT.out HE.out, below_box hb1⟩
    · cases ha : abv b.data.toList
      · have ⟨HT, HE⟩ := swap_arg (k := 2) (v := v.data.toList) (b := b.data.toList) (s := s.data.toList) (by unfold okSw; rw [hh, ha]; rfl)
        have HH := hide hh
        have HA := hide ha
        clear hh ha
        go_enter Tryz.func94, Tryz.ntmps94
        go_wp2_with fail
        refine (prholds_any _ _ _ _ hv hs).mono ?_
        rintro e w1 ⟨rfl, hb1⟩
        rw [HH.out]
        go_wp2_with fail
        refine (rabove_any _ _ hb).mono ?_
        rintro e x ⟨rfl, hx⟩
        subst x
        rw [HA.out]
        go_wp2_with fail
        go_ret2
        exact ⟨ret_two HT.out HE.out, below_box hb1⟩
      · have hok : okSw 2 v.data.toList b.data.toList s.data.toList = true := okSw_iff.2 ⟨hh, ha⟩
        have h2i := hold2_iff.1 hh
        have hvp := abv_isP h2i.1
        have hsp := h2i.2.1
        have hbp := abv_isP ha
        have hsl := isP_len hsp
        have hbl := isP_len hbp
        have hb0 : b.toList.isEmpty = false := by
          rw [list_none]
          cases e : b.data.toList
          · exact absurd e (isP_ne hbp)
          · rfl
        have hpre : v.size ≤ s.size := by
          have := (und_pre h2i.2.1 h2i.2.2).length_le
          rwa [size_len, size_len] at this
        have HH := hide hh
        have HA := hide ha
        have LARGE := hide (fun hl => swap_large hok hl)
        have FINE := hide (fun hl => swap_fine hok hl)
        clear hh ha hok h2i
        by_cases hv1 : 1 < v.size
        · have hv2 : (1 : Int) < v.size := by omega
          have hvr := long_root hv1
          by_cases hb1' : 1 < b.size
          · have hb2 : (1 : Int) < b.size := by omega
            have hbr := long_root hb1'
            have hne : (b ++ (s.extract v.size s.size)).toList.isEmpty = false := by rw [list_none, app_data]; rw [list_none] at hb0; cases e : b.data.toList <;> simp_all
            have HX : Hid (b ++ (s.extract v.size s.size) = mkB (joinP b.data.toList (tailP v.data.toList s.data.toList))) := by
              refine mkB_eq ?_
              rw [app_data, drop_data]
              unfold tailP joinP
              rw [if_neg hbr, if_neg hvr, size_len]
            have hsz : ((b ++ (s.extract v.size s.size) : ByteArray).size) = (joinP b.data.toList (tailP v.data.toList s.data.toList)).length := (congrArg ByteArray.size HX.out).trans (mkB_size _)
            simp only [ByteArray.size_append, ByteArray.size_extract] at hsz
            by_cases hl : 60 < (joinP b.data.toList (tailP v.data.toList s.data.toList)).length
            · have ⟨HT, HE⟩ := LARGE.out hl
              have hX : (60 : Int) < (b.size : Int) + ((s.size - v.size : Nat) : Int) := by omega
              clear hl hvp hsp hbp LARGE FINE hsz
              go_enter Tryz.func94, Tryz.ntmps94
              go_wp2_with fail
              refine (prholds_any _ _ _ _ hv hs).mono ?_
              rintro e w1 ⟨rfl, hb1⟩
              rw [HH.out]
              go_wp2_with fail
              refine (rabove_any _ _ hb).mono ?_
              rintro e x ⟨rfl, hx⟩
              subst x
              rw [HA.out]
              have c0 := box_fst hb1
              have c1 := box_snd hb1
              go_wp2_with fail
              go_ret2
              exact ⟨ret_two HT.out HE.out, below_box hb1⟩
            · have ⟨HT, HE⟩ := FINE.out hl
              have hX : (b.size : Int) + ((s.size - v.size : Nat) : Int) ≤ 60 := by omega
              clear hl hvp hsp hbp LARGE FINE hsz
              go_enter Tryz.func94, Tryz.ntmps94
              go_wp2_with fail
              refine (prholds_any _ _ _ _ hv hs).mono ?_
              rintro e w1 ⟨rfl, hb1⟩
              rw [HH.out]
              go_wp2_with fail
              refine (rabove_any _ _ hb).mono ?_
              rintro e x ⟨rfl, hx⟩
              subst x
              rw [HA.out]
              have c0 := box_fst hb1
              have c1 := box_snd hb1
              go_wp2_with fail
              go_ret2
              exact ⟨ret_two (HX.out.trans HT.out) HE.out, below_box hb1⟩
          · have hb2 : ¬ (1 : Int) < b.size := by omega
            have hbr := short_root hbp hb1'
            cases hne : (s.extract v.size s.size).toList.isEmpty
            · have HX : Hid ((s.extract v.size s.size) = mkB (joinP b.data.toList (tailP v.data.toList s.data.toList))) := by
                refine mkB_eq ?_
                rw [drop_data]
                unfold tailP joinP
                rw [list_none, drop_data] at hne
                rw [if_pos hbr, if_neg hvr, size_len, if_neg (fun e => by rw [e] at hne; cases hne)]
              have hsz : (((s.extract v.size s.size) : ByteArray).size) = (joinP b.data.toList (tailP v.data.toList s.data.toList)).length := (congrArg ByteArray.size HX.out).trans (mkB_size _)
              simp only [ByteArray.size_extract] at hsz
              by_cases hl : 60 < (joinP b.data.toList (tailP v.data.toList s.data.toList)).length
              · exfalso
                omega
              · have ⟨HT, HE⟩ := FINE.out hl
                have hX : ((s.size - v.size : Nat) : Int) ≤ 60 := by omega
                clear hl hvp hsp hbp LARGE FINE hsz
                go_enter Tryz.func94, Tryz.ntmps94
                go_wp2_with fail
                refine (prholds_any _ _ _ _ hv hs).mono ?_
                rintro e w1 ⟨rfl, hb1⟩
                rw [HH.out]
                go_wp2_with fail
                refine (rabove_any _ _ hb).mono ?_
                rintro e x ⟨rfl, hx⟩
                subst x
                rw [HA.out]
                have c0 := box_fst hb1
                have c1 := box_snd hb1
                go_wp2_with fail
                go_ret2
                exact ⟨ret_two (HX.out.trans HT.out) HE.out, below_box hb1⟩
            · have HX : Hid (b = mkB (joinP b.data.toList (tailP v.data.toList s.data.toList))) := by
                refine mkB_eq ?_
                unfold tailP joinP
                rw [list_none, drop_data] at hne
                rw [if_pos hbr, if_neg hvr, size_len, if_pos (List.isEmpty_iff.1 hne), hbr]
              have hsz : ((b : ByteArray).size) = (joinP b.data.toList (tailP v.data.toList s.data.toList)).length := (congrArg ByteArray.size HX.out).trans (mkB_size _)
              by_cases hl : 60 < (joinP b.data.toList (tailP v.data.toList s.data.toList)).length
              · exfalso
                omega
              · have ⟨HT, HE⟩ := FINE.out hl
                clear hl hvp hsp hbp LARGE FINE hsz
                go_enter Tryz.func94, Tryz.ntmps94
                go_wp2_with fail
                refine (prholds_any _ _ _ _ hv hs).mono ?_
                rintro e w1 ⟨rfl, hb1⟩
                rw [HH.out]
                go_wp2_with fail
                refine (rabove_any _ _ hb).mono ?_
                rintro e x ⟨rfl, hx⟩
                subst x
                rw [HA.out]
                have c0 := box_fst hb1
                have c1 := box_snd hb1
                go_wp2_with fail
                go_ret2
                exact ⟨ret_two (HX.out.trans HT.out) HE.out, below_box hb1⟩
        · have hv2 : ¬ (1 : Int) < v.size := by omega
          have hvr := short_root hvp hv1
          by_cases hs1 : 1 < s.size
          · have hs2 : (1 : Int) < s.size := by omega
            have hsr := long_root hs1
            have hs0 : s.toList.isEmpty = false := by
              rw [list_none]
              cases e : s.data.toList
              · exact absurd e (isP_ne hsp)
              · rfl
            by_cases hb1' : 1 < b.size
            · have hb2 : (1 : Int) < b.size := by omega
              have hbr := long_root hb1'
              have hne : (b ++ s).toList.isEmpty = false := by rw [list_none, app_data]; rw [list_none] at hb0; cases e : b.data.toList <;> simp_all
              have HX : Hid (b ++ s = mkB (joinP b.data.toList (tailP v.data.toList s.data.toList))) := by
                refine mkB_eq ?_
                rw [app_data]
                unfold tailP joinP
                rw [if_neg hbr, if_pos hvr, if_neg hsr]
              have hsz : ((b ++ s : ByteArray).size) = (joinP b.data.toList (tailP v.data.toList s.data.toList)).length := (congrArg ByteArray.size HX.out).trans (mkB_size _)
              simp only [ByteArray.size_append] at hsz
              by_cases hl : 60 < (joinP b.data.toList (tailP v.data.toList s.data.toList)).length
              · have ⟨HT, HE⟩ := LARGE.out hl
                have hX : (60 : Int) < (b.size : Int) + (s.size : Int) := by omega
                clear hl hvp hsp hbp LARGE FINE hsz
                go_enter Tryz.func94, Tryz.ntmps94
                go_wp2_with fail
                refine (prholds_any _ _ _ _ hv hs).mono ?_
                rintro e w1 ⟨rfl, hb1⟩
                rw [HH.out]
                go_wp2_with fail
                refine (rabove_any _ _ hb).mono ?_
                rintro e x ⟨rfl, hx⟩
                subst x
                rw [HA.out]
                have c0 := box_fst hb1
                have c1 := box_snd hb1
                go_wp2_with fail
                go_ret2
                exact ⟨ret_two HT.out HE.out, below_box hb1⟩
              · have ⟨HT, HE⟩ := FINE.out hl
                have hX : (b.size : Int) + (s.size : Int) ≤ 60 := by omega
                clear hl hvp hsp hbp LARGE FINE hsz
                go_enter Tryz.func94, Tryz.ntmps94
                go_wp2_with fail
                refine (prholds_any _ _ _ _ hv hs).mono ?_
                rintro e w1 ⟨rfl, hb1⟩
                rw [HH.out]
                go_wp2_with fail
                refine (rabove_any _ _ hb).mono ?_
                rintro e x ⟨rfl, hx⟩
                subst x
                rw [HA.out]
                have c0 := box_fst hb1
                have c1 := box_snd hb1
                go_wp2_with fail
                go_ret2
                exact ⟨ret_two (HX.out.trans HT.out) HE.out, below_box hb1⟩
            · have hb2 : ¬ (1 : Int) < b.size := by omega
              have hbr := short_root hbp hb1'
              have HX : Hid (s = mkB (joinP b.data.toList (tailP v.data.toList s.data.toList))) := by
                refine mkB_eq ?_
                unfold tailP joinP
                rw [if_pos hbr, if_pos hvr, if_neg hsr, if_neg (isP_ne hsp)]
              have hsz : ((s : ByteArray).size) = (joinP b.data.toList (tailP v.data.toList s.data.toList)).length := (congrArg ByteArray.size HX.out).trans (mkB_size _)
              by_cases hl : 60 < (joinP b.data.toList (tailP v.data.toList s.data.toList)).length
              · exfalso
                omega
              · have ⟨HT, HE⟩ := FINE.out hl
                clear hl hvp hsp hbp LARGE FINE hsz
                go_enter Tryz.func94, Tryz.ntmps94
                go_wp2_with fail
                refine (prholds_any _ _ _ _ hv hs).mono ?_
                rintro e w1 ⟨rfl, hb1⟩
                rw [HH.out]
                go_wp2_with fail
                refine (rabove_any _ _ hb).mono ?_
                rintro e x ⟨rfl, hx⟩
                subst x
                rw [HA.out]
                have c0 := box_fst hb1
                have c1 := box_snd hb1
                go_wp2_with fail
                go_ret2
                exact ⟨ret_two (HX.out.trans HT.out) HE.out, below_box hb1⟩
          · have hs2 : ¬ (1 : Int) < s.size := by omega
            have hsr := short_root hsp hs1
            by_cases hb1' : 1 < b.size
            · have hb2 : (1 : Int) < b.size := by omega
              have hbr := long_root hb1'
              have hne : (b ++ ⟨#[]⟩ : ByteArray).toList.isEmpty = false := by rw [list_none, app_data]; rw [list_none] at hb0; cases e : b.data.toList <;> simp_all
              have HX : Hid (b ++ ⟨#[]⟩ = mkB (joinP b.data.toList (tailP v.data.toList s.data.toList))) := by
                refine mkB_eq ?_
                rw [app_data]
                unfold tailP joinP
                rw [if_neg hbr, if_pos hvr, if_pos hsr]
              have hsz : ((b ++ ⟨#[]⟩ : ByteArray).size) = (joinP b.data.toList (tailP v.data.toList s.data.toList)).length := (congrArg ByteArray.size HX.out).trans (mkB_size _)
              simp only [ByteArray.size_append, no_size] at hsz
              by_cases hl : 60 < (joinP b.data.toList (tailP v.data.toList s.data.toList)).length
              · exfalso
                omega
              · have ⟨HT, HE⟩ := FINE.out hl
                have hX : (b.size : Int) ≤ 60 := by omega
                clear hl hvp hsp hbp LARGE FINE hsz
                go_enter Tryz.func94, Tryz.ntmps94
                go_wp2_with fail
                refine (prholds_any _ _ _ _ hv hs).mono ?_
                rintro e w1 ⟨rfl, hb1⟩
                rw [HH.out]
                go_wp2_with fail
                refine (rabove_any _ _ hb).mono ?_
                rintro e x ⟨rfl, hx⟩
                subst x
                rw [HA.out]
                have c0 := box_fst hb1
                have c1 := box_snd hb1
                go_wp2_with fail
                go_ret2
                exact ⟨ret_two (HX.out.trans HT.out) HE.out, below_box hb1⟩
            · have hb2 : ¬ (1 : Int) < b.size := by omega
              have hbr := short_root hbp hb1'
              have HX : Hid (b = mkB (joinP b.data.toList (tailP v.data.toList s.data.toList))) := by
                refine mkB_eq ?_
                unfold tailP joinP
                rw [if_pos hbr, if_pos hvr, if_pos hsr, if_pos rfl, hbr]
              have hsz : ((b : ByteArray).size) = (joinP b.data.toList (tailP v.data.toList s.data.toList)).length := (congrArg ByteArray.size HX.out).trans (mkB_size _)
              by_cases hl : 60 < (joinP b.data.toList (tailP v.data.toList s.data.toList)).length
              · exfalso
                omega
              · have ⟨HT, HE⟩ := FINE.out hl
                clear hl hvp hsp hbp LARGE FINE hsz
                go_enter Tryz.func94, Tryz.ntmps94
                go_wp2_with fail
                refine (prholds_any _ _ _ _ hv hs).mono ?_
                rintro e w1 ⟨rfl, hb1⟩
                rw [HH.out]
                go_wp2_with fail
                refine (rabove_any _ _ hb).mono ?_
                rintro e x ⟨rfl, hx⟩
                subst x
                rw [HA.out]
                have c0 := box_fst hb1
                have c1 := box_snd hb1
                go_wp2_with fail
                go_ret2
                exact ⟨ret_two (HX.out.trans HT.out) HE.out, below_box hb1⟩

end Go.Proofs.YtblmdcpcekoogaaGreatDoor
namespace Go.Proofs.YtblmdcpcekoogaaGreatDoor
set_option maxRecDepth 20000
open Go Go.RowKit Go.Shelf

/-- an octet that may stand at a place of a label -/
def OkAt (l : List UInt8) (j : Nat) : Prop :=
  97 ≤ D.at' l j ∧ D.at' l j ≤ 122 ∨ 48 ≤ D.at' l j ∧ D.at' l j ≤ 57 ∨ D.at' l j = 45 ∧ j ≠ 0 ∧ j ≠ l.length - 1

theorem isLabel_iff (l : List UInt8) : D.isLabel l = true ↔ 1 ≤ l.length ∧ l.length ≤ 20 ∧ ∀ j, j < l.length → OkAt l j := by
  have hat : ∀ j (h : j < l.length), D.at' l j = (l[j].toNat : Int) := fun j h => by
    unfold D.at'; rw [List.getElem?_eq_getElem h]; rfl
  simp only [D.isLabel, Bool.and_eq_true, decide_eq_true_eq, List.all_eq_true]
  constructor
  · rintro ⟨⟨⟨⟨h1, h2⟩, h3⟩, h4⟩, h5⟩
    refine ⟨h1, h2, fun j hj => ?_⟩
    have h := h3 l[j] (List.getElem_mem hj)
    rw [← hat j hj] at h
    simp only [D.inLab, decide_eq_true_eq] at h
    unfold OkAt
    by_cases e0 : j = 0
    · subst e0; omega
    · by_cases e1 : j = l.length - 1
      · subst e1; omega
      · omega
  · rintro ⟨h1, h2, h3⟩
    refine ⟨⟨⟨⟨h1, h2⟩, fun x hx => ?_⟩, ?_⟩, ?_⟩
    · obtain ⟨j, hj, rfl⟩ := List.getElem_of_mem hx
      have h := h3 j hj
      unfold OkAt at h
      rw [hat j hj] at h
      simp only [D.inLab, decide_eq_true_eq]
      omega
    · have h := h3 0 (by omega)
      unfold OkAt at h
      omega
    · have h := h3 (l.length - 1) (by omega)
      unfold OkAt at h
      omega

theorem isLabel_not {l : List UInt8} (h : ¬ (1 ≤ l.length ∧ l.length ≤ 20 ∧ ∀ j, j < l.length → OkAt l j)) : D.isLabel l = false := by
  cases h' : D.isLabel l
  · rfl
  · exact absurd ((isLabel_iff l).1 h') h

theorem rl_round {s : ByteArray} {k : Nat} (hok : OkAt s.data.toList k) (hall : Hid (∀ j, j < k → OkAt s.data.toList j)) (hlt : k < s.size) :
    (∃ k_1 : Nat, k_1 ≤ s.size ∧ Value.int .i64 ((k : Int) + 1) = Value.int .i64 (k_1 : Int) ∧ Hid (∀ j, j < k_1 → OkAt s.data.toList j)) ∧
      s.size - (intOf (Value.int .i64 ((k : Int) + 1))).toNat < s.size - (intOf (Value.int .i64 (k : Int))).toNat := by
  refine ⟨⟨k + 1, by omega, by go_num, fun j hj => ?_⟩, by simp [intOf]; omega⟩
  by_cases e : j = k
  · subst e; exact hok
  · exact hall.out j (by omega)

theorem rl_no {s : ByteArray} {k : Nat} (hok : ¬ OkAt s.data.toList k) (hlt : k < s.data.toList.length) : D.isLabel s.data.toList = false :=
  isLabel_not (fun h => hok (h.2.2 k hlt))

theorem ends (k n : Nat) (h : k < n) : (((k : Int) == 0) = true ∧ Hid (k = 0)) ∨ (((k : Int) == 0) = false ∧ ((k : Int) == (n : Int) - 1) = true ∧ Hid (k = n - 1)) ∨
    (((k : Int) == 0) = false ∧ ((k : Int) == (n : Int) - 1) = false ∧ Hid (k ≠ 0 ∧ k ≠ n - 1)) := by
  by_cases h0 : k = 0
  · exact .inl ⟨beq_iff_eq.2 (by omega), h0⟩
  · by_cases h1 : k = n - 1
    · exact .inr (.inl ⟨beq_eq_false_iff_ne.2 (by omega), beq_iff_eq.2 (by omega), h1⟩)
    · exact .inr (.inr ⟨beq_eq_false_iff_ne.2 (by omega), beq_eq_false_iff_ne.2 (by omega), h0, h1⟩)

set_option maxHeartbeats 1600000 in
theorem rlabel_any (s : ByteArray) (w : World) (hs : s.size ≤ maxLen) :
    Calls Tryz.prog 107 #[.string s] w fun e w' => e = .returned (.bool (D.isLabel s.data.toList)) ∧ w' = w := by
  unfold maxLen at hs
  have hsl : s.data.toList.length = s.size := Array.length_toList
  have HSL := hide hsl
  clear hsl
  go_enter Tryz.func107, Tryz.ntmps107
  go_wp2
  go_loop [3] (fun i => ∃ k : Nat, k ≤ s.size ∧ i = .int .i64 k ∧ Hid (∀ j, j < k → OkAt s.data.toList j)) (fun i => s.size - (intOf i).toNat)
  case atStart => exact ⟨0, Nat.zero_le _, rfl, fun j hj => by omega⟩
  case round =>
    obtain ⟨k, hk, rfl, hall⟩ := hrel
    by_cases hlt : k < s.size
    · have hk8 := s[k].toNat_lt
      have HE := hide (at_eq s k hlt)
      have hlt' : (k : Int) < (s.size : Int) := by omega
      rcases ends k s.size hlt with ⟨e0, HQ⟩ | ⟨e0, e1, HQ⟩ | ⟨e0, e1, HQ⟩
      · by_cases r1 : (97 : Int) ≤ (s[k].toNat : Int) ∧ (s[k].toNat : Int) ≤ 122
        · have HOK : Hid (OkAt s.data.toList k) := by
            have hq := HQ.out
            unfold Hid OkAt; rw [HE.out, HSL.out]; omega
          have t1 : (97 : Int) ≤ (s[k].toNat : Int) := by omega
          have t2 : (s[k].toNat : Int) ≤ 122 := by omega
          clear r1
          go_wp2_with fail
          exact rl_round HOK.out hall hlt
        · by_cases r2 : (48 : Int) ≤ (s[k].toNat : Int) ∧ (s[k].toNat : Int) ≤ 57
          · have HOK : Hid (OkAt s.data.toList k) := by
              have hq := HQ.out
              unfold Hid OkAt; rw [HE.out, HSL.out]; omega
            have t1 : decide ((97 : Int) ≤ (s[k].toNat : Int)) = false := decide_eq_false (by omega)
            have t3 : (48 : Int) ≤ (s[k].toNat : Int) := by omega
            have t4 : (s[k].toNat : Int) ≤ 57 := by omega
            clear r1 r2
            go_wp2_with fail
            exact rl_round HOK.out hall hlt
          · by_cases r3 : (s[k].toNat : Int) = 45
            · have HOK : Hid (¬ OkAt s.data.toList k) := by
                have hq := HQ.out
                unfold Hid OkAt; rw [HE.out, HSL.out]; omega
              have t1 : decide ((97 : Int) ≤ (s[k].toNat : Int)) = false := decide_eq_false (by omega)
              have t3 : decide ((48 : Int) ≤ (s[k].toNat : Int)) = false := decide_eq_false (by omega)
              have t5 : ((s[k].toNat : Int) == 45) = true := beq_iff_eq.2 (by omega)
              clear r1 r2 r3
              go_wp2_with fail
              go_ret
              exact ⟨ret_bool (rl_no HOK.out (by rw [HSL.out]; exact hlt)).symm, rfl⟩
            · by_cases r4 : (s[k].toNat : Int) < 48
              · have HOK : Hid (¬ OkAt s.data.toList k) := by
                  have hq := HQ.out
                  unfold Hid OkAt; rw [HE.out, HSL.out]; omega
                have t1 : decide ((97 : Int) ≤ (s[k].toNat : Int)) = false := decide_eq_false (by omega)
                have t3 : decide ((48 : Int) ≤ (s[k].toNat : Int)) = false := decide_eq_false (by omega)
                have t5 : ((s[k].toNat : Int) == 45) = false := beq_eq_false_iff_ne.2 (by omega)
                clear r1 r2 r3 r4
                go_wp2_with fail
                go_ret
                exact ⟨ret_bool (rl_no HOK.out (by rw [HSL.out]; exact hlt)).symm, rfl⟩
              · by_cases r5 : (s[k].toNat : Int) < 97
                · have HOK : Hid (¬ OkAt s.data.toList k) := by
                    have hq := HQ.out
                    unfold Hid OkAt; rw [HE.out, HSL.out]; omega
                  have t1 : decide ((97 : Int) ≤ (s[k].toNat : Int)) = false := decide_eq_false (by omega)
                  have t3 : (48 : Int) ≤ (s[k].toNat : Int) := by omega
                  have t4 : decide ((s[k].toNat : Int) ≤ 57) = false := decide_eq_false (by omega)
                  have t5 : ((s[k].toNat : Int) == 45) = false := beq_eq_false_iff_ne.2 (by omega)
                  clear r1 r2 r3 r4 r5
                  go_wp2_with fail
                  go_ret
                  exact ⟨ret_bool (rl_no HOK.out (by rw [HSL.out]; exact hlt)).symm, rfl⟩
                · have HOK : Hid (¬ OkAt s.data.toList k) := by
                    have hq := HQ.out
                    unfold Hid OkAt; rw [HE.out, HSL.out]; omega
                  have t1 : (97 : Int) ≤ (s[k].toNat : Int) := by omega
                  have t2 : decide ((s[k].toNat : Int) ≤ 122) = false := decide_eq_false (by omega)
                  have t3 : (48 : Int) ≤ (s[k].toNat : Int) := by omega
                  have t4 : decide ((s[k].toNat : Int) ≤ 57) = false := decide_eq_false (by omega)
                  have t5 : ((s[k].toNat : Int) == 45) = false := beq_eq_false_iff_ne.2 (by omega)
                  clear r1 r2 r3 r4 r5
                  go_wp2_with fail
                  go_ret
                  exact ⟨ret_bool (rl_no HOK.out (by rw [HSL.out]; exact hlt)).symm, rfl⟩
      · by_cases r1 : (97 : Int) ≤ (s[k].toNat : Int) ∧ (s[k].toNat : Int) ≤ 122
        · have HOK : Hid (OkAt s.data.toList k) := by
            have hq := HQ.out
            unfold Hid OkAt; rw [HE.out, HSL.out]; omega
          have t1 : (97 : Int) ≤ (s[k].toNat : Int) := by omega
          have t2 : (s[k].toNat : Int) ≤ 122 := by omega
          clear r1
          go_wp2_with fail
          exact rl_round HOK.out hall hlt
        · by_cases r2 : (48 : Int) ≤ (s[k].toNat : Int) ∧ (s[k].toNat : Int) ≤ 57
          · have HOK : Hid (OkAt s.data.toList k) := by
              have hq := HQ.out
              unfold Hid OkAt; rw [HE.out, HSL.out]; omega
            have t1 : decide ((97 : Int) ≤ (s[k].toNat : Int)) = false := decide_eq_false (by omega)
            have t3 : (48 : Int) ≤ (s[k].toNat : Int) := by omega
            have t4 : (s[k].toNat : Int) ≤ 57 := by omega
            clear r1 r2
            go_wp2_with fail
            exact rl_round HOK.out hall hlt
          · by_cases r3 : (s[k].toNat : Int) = 45
            · have HOK : Hid (¬ OkAt s.data.toList k) := by
                have hq := HQ.out
                unfold Hid OkAt; rw [HE.out, HSL.out]; omega
              have t1 : decide ((97 : Int) ≤ (s[k].toNat : Int)) = false := decide_eq_false (by omega)
              have t3 : decide ((48 : Int) ≤ (s[k].toNat : Int)) = false := decide_eq_false (by omega)
              have t5 : ((s[k].toNat : Int) == 45) = true := beq_iff_eq.2 (by omega)
              clear r1 r2 r3
              go_wp2_with fail
              go_ret
              exact ⟨ret_bool (rl_no HOK.out (by rw [HSL.out]; exact hlt)).symm, rfl⟩
            · by_cases r4 : (s[k].toNat : Int) < 48
              · have HOK : Hid (¬ OkAt s.data.toList k) := by
                  have hq := HQ.out
                  unfold Hid OkAt; rw [HE.out, HSL.out]; omega
                have t1 : decide ((97 : Int) ≤ (s[k].toNat : Int)) = false := decide_eq_false (by omega)
                have t3 : decide ((48 : Int) ≤ (s[k].toNat : Int)) = false := decide_eq_false (by omega)
                have t5 : ((s[k].toNat : Int) == 45) = false := beq_eq_false_iff_ne.2 (by omega)
                clear r1 r2 r3 r4
                go_wp2_with fail
                go_ret
                exact ⟨ret_bool (rl_no HOK.out (by rw [HSL.out]; exact hlt)).symm, rfl⟩
              · by_cases r5 : (s[k].toNat : Int) < 97
                · have HOK : Hid (¬ OkAt s.data.toList k) := by
                    have hq := HQ.out
                    unfold Hid OkAt; rw [HE.out, HSL.out]; omega
                  have t1 : decide ((97 : Int) ≤ (s[k].toNat : Int)) = false := decide_eq_false (by omega)
                  have t3 : (48 : Int) ≤ (s[k].toNat : Int) := by omega
                  have t4 : decide ((s[k].toNat : Int) ≤ 57) = false := decide_eq_false (by omega)
                  have t5 : ((s[k].toNat : Int) == 45) = false := beq_eq_false_iff_ne.2 (by omega)
                  clear r1 r2 r3 r4 r5
                  go_wp2_with fail
                  go_ret
                  exact ⟨ret_bool (rl_no HOK.out (by rw [HSL.out]; exact hlt)).symm, rfl⟩
                · have HOK : Hid (¬ OkAt s.data.toList k) := by
                    have hq := HQ.out
                    unfold Hid OkAt; rw [HE.out, HSL.out]; omega
                  have t1 : (97 : Int) ≤ (s[k].toNat : Int) := by omega
                  have t2 : decide ((s[k].toNat : Int) ≤ 122) = false := decide_eq_false (by omega)
                  have t3 : (48 : Int) ≤ (s[k].toNat : Int) := by omega
                  have t4 : decide ((s[k].toNat : Int) ≤ 57) = false := decide_eq_false (by omega)
                  have t5 : ((s[k].toNat : Int) == 45) = false := beq_eq_false_iff_ne.2 (by omega)
                  clear r1 r2 r3 r4 r5
                  go_wp2_with fail
                  go_ret
                  exact ⟨ret_bool (rl_no HOK.out (by rw [HSL.out]; exact hlt)).symm, rfl⟩
      · by_cases r1 : (97 : Int) ≤ (s[k].toNat : Int) ∧ (s[k].toNat : Int) ≤ 122
        · have HOK : Hid (OkAt s.data.toList k) := by
            have hq := HQ.out
            unfold Hid OkAt; rw [HE.out, HSL.out]; omega
          have t1 : (97 : Int) ≤ (s[k].toNat : Int) := by omega
          have t2 : (s[k].toNat : Int) ≤ 122 := by omega
          clear r1
          go_wp2_with fail
          exact rl_round HOK.out hall hlt
        · by_cases r2 : (48 : Int) ≤ (s[k].toNat : Int) ∧ (s[k].toNat : Int) ≤ 57
          · have HOK : Hid (OkAt s.data.toList k) := by
              have hq := HQ.out
              unfold Hid OkAt; rw [HE.out, HSL.out]; omega
            have t1 : decide ((97 : Int) ≤ (s[k].toNat : Int)) = false := decide_eq_false (by omega)
            have t3 : (48 : Int) ≤ (s[k].toNat : Int) := by omega
            have t4 : (s[k].toNat : Int) ≤ 57 := by omega
            clear r1 r2
            go_wp2_with fail
            exact rl_round HOK.out hall hlt
          · by_cases r3 : (s[k].toNat : Int) = 45
            · have HOK : Hid (OkAt s.data.toList k) := by
                have hq := HQ.out
                unfold Hid OkAt; rw [HE.out, HSL.out]; omega
              have t1 : decide ((97 : Int) ≤ (s[k].toNat : Int)) = false := decide_eq_false (by omega)
              have t3 : decide ((48 : Int) ≤ (s[k].toNat : Int)) = false := decide_eq_false (by omega)
              have t5 : ((s[k].toNat : Int) == 45) = true := beq_iff_eq.2 (by omega)
              clear r1 r2 r3
              go_wp2_with fail
              exact rl_round HOK.out hall hlt
            · by_cases r4 : (s[k].toNat : Int) < 48
              · have HOK : Hid (¬ OkAt s.data.toList k) := by
                  have hq := HQ.out
                  unfold Hid OkAt; rw [HE.out, HSL.out]; omega
                have t1 : decide ((97 : Int) ≤ (s[k].toNat : Int)) = false := decide_eq_false (by omega)
                have t3 : decide ((48 : Int) ≤ (s[k].toNat : Int)) = false := decide_eq_false (by omega)
                have t5 : ((s[k].toNat : Int) == 45) = false := beq_eq_false_iff_ne.2 (by omega)
                clear r1 r2 r3 r4
                go_wp2_with fail
                go_ret
                exact ⟨ret_bool (rl_no HOK.out (by rw [HSL.out]; exact hlt)).symm, rfl⟩
              · by_cases r5 : (s[k].toNat : Int) < 97
                · have HOK : Hid (¬ OkAt s.data.toList k) := by
                    have hq := HQ.out
                    unfold Hid OkAt; rw [HE.out, HSL.out]; omega
                  have t1 : decide ((97 : Int) ≤ (s[k].toNat : Int)) = false := decide_eq_false (by omega)
                  have t3 : (48 : Int) ≤ (s[k].toNat : Int) := by omega
                  have t4 : decide ((s[k].toNat : Int) ≤ 57) = false := decide_eq_false (by omega)
                  have t5 : ((s[k].toNat : Int) == 45) = false := beq_eq_false_iff_ne.2 (by omega)
                  clear r1 r2 r3 r4 r5
                  go_wp2_with fail
                  go_ret
                  exact ⟨ret_bool (rl_no HOK.out (by rw [HSL.out]; exact hlt)).symm, rfl⟩
                · have HOK : Hid (¬ OkAt s.data.toList k) := by
                    have hq := HQ.out
                    unfold Hid OkAt; rw [HE.out, HSL.out]; omega
                  have t1 : (97 : Int) ≤ (s[k].toNat : Int) := by omega
                  have t2 : decide ((s[k].toNat : Int) ≤ 122) = false := decide_eq_false (by omega)
                  have t3 : (48 : Int) ≤ (s[k].toNat : Int) := by omega
                  have t4 : decide ((s[k].toNat : Int) ≤ 57) = false := decide_eq_false (by omega)
                  have t5 : ((s[k].toNat : Int) == 45) = false := beq_eq_false_iff_ne.2 (by omega)
                  clear r1 r2 r3 r4 r5
                  go_wp2_with fail
                  go_ret
                  exact ⟨ret_bool (rl_no HOK.out (by rw [HSL.out]; exact hlt)).symm, rfl⟩
    · have hlt' : ¬ (k : Int) < (s.size : Int) := by omega
      have hks : k = s.size := by omega
      subst hks
      by_cases h1 : 1 ≤ s.size
      · by_cases h20 : s.size ≤ 20
        · have hx : Hid (D.isLabel s.data.toList = true) := (isLabel_iff _).2 ⟨by rw [HSL.out]; exact h1, by rw [HSL.out]; exact h20, by rw [HSL.out]; exact hall.out⟩
          have a1 : (1 : Int) ≤ (s.size : Int) := by omega
          have a2 : decide ((s.size : Int) ≤ 20) = true := decide_eq_true (by omega)
          go_wp2
          go_ret
          exact ⟨ret_bool hx.out.symm, rfl⟩
        · have hx : Hid (D.isLabel s.data.toList = false) := isLabel_not (fun h => h20 (by rw [← HSL.out]; exact h.2.1))
          have a1 : (1 : Int) ≤ (s.size : Int) := by omega
          have a2 : decide ((s.size : Int) ≤ 20) = false := decide_eq_false (by omega)
          go_wp2
          go_ret
          exact ⟨ret_bool hx.out.symm, rfl⟩
      · have hx : Hid (D.isLabel s.data.toList = false) := isLabel_not (fun h => h1 (by rw [← HSL.out]; exact h.1))
        have a1 : decide ((1 : Int) ≤ (s.size : Int)) = false := decide_eq_false (by omega)
        go_wp2
        go_ret
        exact ⟨ret_bool hx.out.symm, rfl⟩

end Go.Proofs.YtblmdcpcekoogaaGreatDoor
namespace Go.Proofs.YtblmdcpcekoogaaGreatDoor
set_option maxRecDepth 20000
open Go Go.RowKit Go.Shelf

/-- the parts, when one octet more has come -/
theorem spl_snoc_at (c : UInt8) (l : List UInt8) : D.spl c (l ++ [c]) = D.spl c l ++ [[]] := by
  induction l with
  | nil => simp [D.spl]
  | cons a r ih =>
    have hne := D.spl_ne c r
    rw [List.cons_append]
    conv => lhs; unfold D.spl
    conv => rhs; lhs; unfold D.spl
    rw [ih]
    split
    · simp
    · cases hs : D.spl c r with
      | nil => exact absurd hs hne
      | cons q t => simp
theorem spl_snoc_ne {c x : UInt8} (hx : x ≠ c) {l : List UInt8} {qs : List (List UInt8)} {q : List UInt8} (h : D.spl c l = qs ++ [q]) : D.spl c (l ++ [x]) = qs ++ [q ++ [x]] := by
  induction l generalizing qs q with
  | nil =>
    simp [D.spl] at h
    obtain ⟨rfl, rfl⟩ : qs = [] ∧ q = [] := by
      cases qs with
      | nil => simp at h; exact ⟨rfl, h⟩
      | cons a b => simp at h
    simp [D.spl, hx]
  | cons a r ih =>
    have hne := D.spl_ne c r
    obtain ⟨qs', q', hr⟩ : ∃ qs' q', D.spl c r = qs' ++ [q'] := ⟨(D.spl c r).dropLast, (D.spl c r).getLast hne, (List.dropLast_concat_getLast hne).symm⟩
    have ih' := ih hr
    rw [List.cons_append]
    unfold D.spl at h ⊢
    rw [ih']
    rw [hr] at h
    split
    · rename_i e
      rw [if_pos e] at h
      have h' : ([] :: qs') ++ [q'] = qs ++ [q] := by rw [← h]; simp
      obtain ⟨e1, e2⟩ := List.append_inj' h' rfl
      rw [← e1]
      simp at e2
      subst e2
      simp
    · rename_i e
      rw [if_neg e] at h
      cases qs' with
      | nil =>
        simp at h
        obtain ⟨rfl, rfl⟩ : qs = [] ∧ q = a :: q' := by
          cases qs with
          | nil => simp at h; exact ⟨rfl, h.symm⟩
          | cons y z => simp at h
        simp
      | cons y z =>
        simp at h
        have h' : ((a :: y) :: z) ++ [q'] = qs ++ [q] := by rw [← h]; simp
        obtain ⟨e1, e2⟩ := List.append_inj' h' rfl
        rw [← e1]
        simp at e2
        subst e2
        simp

theorem spl_last (c : UInt8) (l : List UInt8) : ∃ qs q, D.spl c l = qs ++ [q] :=
  ⟨(D.spl c l).dropLast, (D.spl c l).getLast (D.spl_ne c l), (List.dropLast_concat_getLast (D.spl_ne c l)).symm⟩

abbrev txtV (l : List UInt8) : Value := .string ⟨l.toArray⟩

set_option maxHeartbeats 1600000 in
theorem rsplit_any (s : ByteArray) (c : UInt8) (w : World) (hs : s.size ≤ 1000) :
    Calls Tryz.prog 171 #[.string s, .int .u8 (c.toNat : Int)] w fun e w' => ∃ v, e = .returned v ∧ w'.ownsRow w.heap.size 9 1 v (parts c s).length ((parts c s).map Value.string) ∧ Below w.heap.size w w' := by
  obtain ⟨i0, hi, hz0, hz1, hz2⟩ := info_parts Tryz.info9
  have hsl : s.data.toList.length = s.size := Array.length_toList
  have HSL := hide hsl
  clear hsl
  go_enter Tryz.func171, Tryz.ntmps171
  go_wp2_with fail
  go_loopw [5, 6] (fun o i wr => ∃ (k : Nat) (qs : List (List UInt8)) (q : List UInt8) (g cap : Nat), k ≤ s.size ∧ i = .int .i64 k ∧ o = .slice (some ⟨g, 0, none⟩) (qs.length + 1) cap ∧
      Hid (D.spl c (s.data.toList.take k) = qs ++ [q]) ∧ wr.ownsRow w.heap.size 9 1 (.slice (some ⟨g, 0, none⟩) (qs.length + 1) cap) (qs.length + 1) ((qs ++ [q]).map txtV) ∧ Below w.heap.size w wr) (fun _ i _ => s.size - (intOf i).toNat)
  case atStart =>
    refine ⟨0, [], [], w.heap.size, 1, Nat.zero_le _, rfl, rfl, rfl, ?_, (Below.refl _ _).alloc (Nat.le_refl _) _⟩
    refine ⟨rfl, Or.inr ⟨w.heap.size, 1, _, rfl, Nat.le_refl _, World.alloc_heap_new w _, Nat.le_refl _, by decide, rfl, rfl⟩⟩
  case round =>
    obtain ⟨k, qs, q, g, cap, hk, rfl, rfl, hspl, hrow, hB⟩ := hrel
    by_cases hlt : k < s.size
    · have hlt' : (k : Int) < (s.size : Int) := by omega
      have hcnt : qs.length + 1 ≤ 1001 := by
        have := D.spl_count (c := c) (l := s.data.toList.take k)
        rw [hspl.out] at this
        simp at this
        have h2 := HSL.out
        omega
      have hqs : q.length ≤ 1000 := by
        have := D.spl_len (c := c) (l := s.data.toList.take k) q (by rw [hspl.out]; simp)
        have h2 := HSL.out
        simp at this
        omega
      by_cases hc : s[k] = c
      · have t1 : ((s[k].toNat : Int) == (c.toNat : Int)) = true := by rw [hc]; simp
        have hnew := hide (spl_snoc_at c (s.data.toList.take k))
        have HC := hide hc
        have hts := hide (take_snoc' s k hlt)
        clear hc
        go_wp2_with (at_builtin; refine wpList_append_own _ rfl _ _ 51 rfl w.heap.size 9 i0 (.string ⟨#[]⟩) 1 16 Tryz.underlying51 hi hz0 hz1 hz2 rfl (by decide) _ _ _ rfl (hrow.alloc _) ⟨wr.heap.size, 0, none⟩ 1 1 [.string ⟨#[]⟩] rfl rfl (cell_one_new _ _ _) (by simp [Value.oneCell']) (by unfold maxLen; omega) (by omega) (by have := hB.size; simp; omega) ?_; intro v' w2 hown' hgrow _; obtain ⟨g', cap', rfl⟩ := ownsRow_succ hown')
        have hB2 : Below w.heap.size w w2 := (hB.alloc hB.size _).grown hgrow (by have := hB.size; simp; omega) (fun j e => ownBlock_ge hrow e)
        have hlen : (qs ++ [q]).length = qs.length + 1 := by simp
        refine ⟨⟨k + 1, qs ++ [q], [], g', cap', by omega, by go_num, by rw [hlen], ?_, ?_, hB2⟩, by simp [intOf]; omega⟩
        · unfold Hid
          rw [hts.out, HC.out, hnew.out, hspl.out]
        · rw [hlen, List.map_append]
          exact hown'
      · have t1 : ((s[k].toNat : Int) == (c.toNat : Int)) = false := beq_eq_false_iff_ne.2 (fun e => hc (UInt8.toNat_inj.1 (by omega)))
        have hnew := hide (spl_snoc_ne hc hspl.out)
        have hts := hide (take_snoc' s k hlt)
        obtain ⟨c1, cf, hgb⟩ := ownsRow_cell hrow (j := qs.length) (by omega) (u := txtV q) (by simp)
        have hqz : (⟨q.toArray⟩ : ByteArray).size = q.length := by show q.toArray.size = _; simp
        have hex : (s.extract k (k + 1)).size = 1 := by rw [ByteArray.size_extract]; omega
        have hset := fun u => ownsRow_set_at (j := qs.length) hrow u
        have HSET := hide hset
        have HROW := hide hrow
        have hm : qs.length ≤ 1000 := by omega
        clear hset hrow hc
        generalize hqq : (⟨q.toArray⟩ : ByteArray) = qb at *
        go_wp2_with fail
        go_region
        go_wp2_with fail
        have hcat : qb ++ s.extract k (k + 1) = ⟨(q ++ [s[k]]).toArray⟩ := by
          apply bytes_ext
          rw [app_data, ← hqq, Lib.extract_data]
          have hd : (s.data.toList.drop k).take (k + 1 - k) = [s[k]] := by
            rw [List.drop_eq_getElem_cons (by rw [HSL.out]; exact hlt), Nat.add_sub_cancel_left]
            rfl
          rw [hd]
        have hrow2 := HSET.out (.string (qb ++ s.extract k (k + 1)))
        rw [hcat] at hrow2
        have hl2 : (List.map txtV (qs ++ [q])).set qs.length (txtV (q ++ [s[k]])) = List.map txtV (qs ++ [q ++ [s[k]]]) := by
          rw [List.map_append, List.map_append, List.set_append_right _ _ (by simp)]
          simp
        rw [hl2] at hrow2
        rw [hcat]
        refine ⟨⟨k + 1, qs, q ++ [s[k]], g, cap, by omega, by go_num, rfl, ?_, ?_, (hB.setCell (p := ⟨g, qs.length, none⟩) hgb _).drew⟩, by simp [intOf]; omega⟩
        · unfold Hid
          rw [hts.out, hnew.out]
        · exact ownsRow_drew hrow2
    · have hlt' : ¬ (k : Int) < (s.size : Int) := by omega
      have hfin : (parts c s).map Value.string = List.map txtV (qs ++ [q]) := by
        have := hspl.out
        rw [List.take_of_length_le (by rw [HSL.out]; omega)] at this
        unfold parts
        rw [this, List.map_map]
        rfl
      have hfl : (parts c s).length = qs.length + 1 := by
        have := congrArg List.length hfin
        simp at this
        exact this
      have hend : Hid (wr.ownsRow w.heap.size 9 1 (.slice (some ⟨g, 0, none⟩) (qs.length + 1) cap) (parts c s).length ((parts c s).map Value.string)) := by
        unfold Hid; rw [hfin, hfl]; exact hrow
      clear hfin hfl hrow
      go_wp2_with fail
      go_ret
      exact ⟨_, rfl, hend.out, hB⟩

end Go.Proofs.YtblmdcpcekoogaaGreatDoor
namespace Go.Proofs.YtblmdcpcekoogaaGreatDoor
set_option maxRecDepth 20000

end Go.Proofs.YtblmdcpcekoogaaGreatDoor
namespace Go.Proofs.YtblmdcpcekoogaaGreatDoor
set_option maxRecDepth 20000
open Go Go.RowKit Go.Shelf

theorem rsplit46 (s : ByteArray) (w : World) (hs : s.size ≤ 1000) :
    Calls Tryz.prog 171 #[.string s, .int .u8 46] w fun e w' => ∃ v, e = .returned v ∧ Strs w' v (parts 46 s) ∧ Below w.heap.size w w' := by
  have h := rsplit_any s 46 w hs
  have e : ((46 : UInt8).toNat : Int) = 46 := rfl
  rw [e] at h
  exact h.mono (fun e w' ⟨v, h1, h2, h3⟩ => ⟨v, h1, Strs.of_row rfl h2, h3⟩)
theorem rsplit47 (s : ByteArray) (w : World) (hs : s.size ≤ 1000) :
    Calls Tryz.prog 171 #[.string s, .int .u8 47] w fun e w' => ∃ v, e = .returned v ∧ Strs w' v (parts 47 s) ∧ Below w.heap.size w w' := by
  have h := rsplit_any s 47 w hs
  have e : ((47 : UInt8).toNat : Int) = 47 := rfl
  rw [e] at h
  exact h.mono (fun e w' ⟨v, h1, h2, h3⟩ => ⟨v, h1, Strs.of_row rfl h2, h3⟩)

set_option maxHeartbeats 800000 in
theorem rname_any (s : ByteArray) (w : World) (hs : s.size ≤ 1000) :
    Calls Tryz.prog 106 #[.string s] w fun e w' => e = .returned (.bool (D.isName s.data.toList)) ∧ Below w.heap.size w w' := by
  by_cases h60 : 60 < s.size
  · have hx : Hid (D.isName s.data.toList = false) := by
      unfold Hid D.isName
      rw [Bool.and_eq_false_iff]; left; apply decide_eq_false; simp; exact h60
    go_enter Tryz.func106, Tryz.ntmps106
    go_wp2_with fail
    go_ret
    exact ⟨ret_bool hx.out.symm, Below.refl _ _⟩
  · have hcnt : (parts 46 s).length ≤ 1001 := by
      rw [parts_len]
      have := D.spl_count (c := 46) (l := s.data.toList)
      have e : s.data.toList.length = s.size := Array.length_toList
      omega
    go_enter Tryz.func106, Tryz.ntmps106
    go_wp2_with fail
    refine (rsplit46 _ _ hs).mono ?_
    rintro e w1 ⟨v, rfl, hS, hb1⟩
    obtain ⟨a, ca, rfl, hca⟩ := hS
    have HA := hide hca
    clear hca
    go_wp2_with fail
    go_loopw [4] (fun i wr => ∃ k : Nat, k ≤ (parts 46 s).length ∧ i = .int .i64 k ∧ Hid (∀ j (hj : j < (parts 46 s).length), j < k → D.isLabel (parts 46 s)[j].data.toList = true) ∧ wr = w1) (fun i _ => (parts 46 s).length - (intOf i).toNat)
    case atStart => exact ⟨0, Nat.zero_le _, rfl, fun j _ hj => absurd hj (by omega), rfl⟩
    case round =>
      obtain ⟨k, hk, rfl, hall, rfl⟩ := hrel
      by_cases hlt : k < (parts 46 s).length
      · obtain ⟨g, rfl, hg, c1⟩ := HA.out k hlt
        have hps := part_size 46 s hlt
        have hlt' : (k : Int) < ((parts 46 s).length : Int) := by omega
        have hno := fun h => not_name_of_part s hlt h
        generalize hp : (parts 46 s)[k] = p at *
        have HP := hide hp
        have HNO := hide hno
        clear hp hno
        have lp : p.size ≤ maxLen := small_len (by omega)
        cases hl : D.isLabel p.data.toList
        · have HL := hide hl
          clear hl
          go_wp2_with fail
          refine (rlabel_any _ _ lp).mono ?_
          rintro e x ⟨rfl, rfl⟩
          rw [HL.out]
          go_wp2_with fail
          go_ret
          exact ⟨ret_bool (HNO.out HL.out).symm, hb1⟩
        · have HL := hide hl
          clear hl
          go_wp2_with fail
          refine (rlabel_any _ _ lp).mono ?_
          rintro e x ⟨rfl, rfl⟩
          rw [HL.out]
          go_wp2_with fail
          refine ⟨⟨k + 1, by omega, by go_num, fun j hj hjk => ?_, trivial⟩, by simp [intOf]; omega⟩
          by_cases e : j = k
          · subst e; rw [HP.out]; exact HL.out
          · exact hall.out j hj (by omega)
      · have hlt' : ¬ (k : Int) < ((parts 46 s).length : Int) := by omega
        have hx : Hid (D.isName s.data.toList = true) := name_of_parts s (by omega) (fun j hj => hall.out j hj (by omega))
        go_wp2_with fail
        go_ret
        exact ⟨ret_bool hx.out.symm, hb1⟩

end Go.Proofs.YtblmdcpcekoogaaGreatDoor
namespace Go.Proofs.YtblmdcpcekoogaaGreatDoor
set_option maxRecDepth 20000
open Go Go.RowKit Go.Shelf

theorem tok_iff {c : UInt8} : tokC c = true ↔ (97 ≤ c.toNat ∧ c.toNat ≤ 122 ∨ 65 ≤ c.toNat ∧ c.toNat ≤ 90 ∨ 48 ≤ c.toNat ∧ c.toNat ≤ 57 ∨ c.toNat = 33 ∨ c.toNat = 35 ∨ c.toNat = 36 ∨ c.toNat = 37 ∨ c.toNat = 38 ∨ c.toNat = 39 ∨ c.toNat = 42 ∨ c.toNat = 43 ∨ c.toNat = 45 ∨ c.toNat = 46 ∨ c.toNat = 94 ∨ c.toNat = 95 ∨ c.toNat = 96 ∨ c.toNat = 124 ∨ c.toNat = 126) := by
  unfold tokC tokN
  simp only [Bool.or_eq_true, decide_eq_true_eq, List.contains_cons, List.contains_nil, beq_iff_eq, Bool.or_false, or_assoc]
theorem tok_iff_not {c : UInt8} : tokC c = false ↔ ¬ (97 ≤ c.toNat ∧ c.toNat ≤ 122 ∨ 65 ≤ c.toNat ∧ c.toNat ≤ 90 ∨ 48 ≤ c.toNat ∧ c.toNat ≤ 57 ∨ c.toNat = 33 ∨ c.toNat = 35 ∨ c.toNat = 36 ∨ c.toNat = 37 ∨ c.toNat = 38 ∨ c.toNat = 39 ∨ c.toNat = 42 ∨ c.toNat = 43 ∨ c.toNat = 45 ∨ c.toNat = 46 ∨ c.toNat = 94 ∨ c.toNat = 95 ∨ c.toNat = 96 ∨ c.toNat = 124 ∨ c.toNat = 126) := by
  rw [← tok_iff, Bool.not_eq_true]

set_option maxHeartbeats 6400000 in
theorem rtoken_any (s : ByteArray) (w : World) (hs : s.size ≤ 100) :
    Calls Tryz.prog 136 #[.string s] w fun e w' => Tells (TokenP s) e ∧ w' = w := by
  go_enter Tryz.func136, Tryz.ntmps136
  go_wp2_with fail
  go_loopw [3] (fun i wr => ∃ k : Nat, k ≤ s.size ∧ i = .int .i64 k ∧ Hid (∀ j (h : j < s.size), j < k → tokC s[j] = true) ∧ wr = w) (fun i _ => s.size - (intOf i).toNat)
  case atStart => exact ⟨0, Nat.zero_le _, rfl, fun _ _ h => absurd h (by omega), rfl⟩
  case round =>
    obtain ⟨k, hk, rfl, hno, rfl⟩ := hrel
    by_cases hlt : k < s.size
    · have hlt' : (k : Int) < (s.size : Int) := by omega
      have HX : Hid (tokC s[k] = true → ∀ j (h : j < s.size), j < k + 1 → tokC s[j] = true) := fun h j hj hjk => by
        rcases Nat.lt_or_ge j k with h1 | h1
        · exact hno.out j hj h1
        · obtain rfl : j = k := by omega
          exact h
      have hall : (s[k].toNat = 33) ∨ (s[k].toNat = 35) ∨ (s[k].toNat = 36) ∨ (s[k].toNat = 37) ∨ (s[k].toNat = 38) ∨ (s[k].toNat = 39) ∨ (s[k].toNat = 42) ∨ (s[k].toNat = 43) ∨ (s[k].toNat = 45) ∨ (s[k].toNat = 46) ∨ (s[k].toNat = 94) ∨ (s[k].toNat = 95) ∨ (s[k].toNat = 96) ∨ (s[k].toNat = 124) ∨ (s[k].toNat = 126) ∨ (48 ≤ s[k].toNat ∧ s[k].toNat ≤ 57) ∨ (65 ≤ s[k].toNat ∧ s[k].toNat ≤ 90) ∨ (97 ≤ s[k].toNat ∧ s[k].toNat ≤ 122) ∨ (s[k].toNat < 48 ∧ s[k].toNat ≠ 33 ∧ s[k].toNat ≠ 35 ∧ s[k].toNat ≠ 36 ∧ s[k].toNat ≠ 37 ∧ s[k].toNat ≠ 38 ∧ s[k].toNat ≠ 39 ∧ s[k].toNat ≠ 42 ∧ s[k].toNat ≠ 43 ∧ s[k].toNat ≠ 45 ∧ s[k].toNat ≠ 46) ∨ (58 ≤ s[k].toNat ∧ s[k].toNat ≤ 64) ∨ (91 ≤ s[k].toNat ∧ s[k].toNat ≤ 93) ∨ (123 ≤ s[k].toNat ∧ s[k].toNat ≠ 124 ∧ s[k].toNat ≠ 126) := by omega
      rcases hall with h | h | h | h | h | h | h | h | h | h | h | h | h | h | h | h | h | h | h | h | h | h
      · have HG : Hid (tokC s[k] = true) := by unfold Hid; rw [tok_iff]; omega
        have t0 : ¬ (48 : Int) ≤ (s[k].toNat : Int) := by omega
        have t2 : ¬ (65 : Int) ≤ (s[k].toNat : Int) := by omega
        have t4 : ¬ (97 : Int) ≤ (s[k].toNat : Int) := by omega
        have e33 : ((s[k].toNat : Int) == 33) = true := by rw [beq_iff_eq]; omega
        clear h
        have HY := hide (HX.out HG.out)
        clear HG HX
        go_wp2_with fail
        exact ⟨⟨k + 1, by omega, by go_num, HY.out, trivial⟩, by simp [intOf]; omega⟩
      · have HG : Hid (tokC s[k] = true) := by unfold Hid; rw [tok_iff]; omega
        have t0 : ¬ (48 : Int) ≤ (s[k].toNat : Int) := by omega
        have t2 : ¬ (65 : Int) ≤ (s[k].toNat : Int) := by omega
        have t4 : ¬ (97 : Int) ≤ (s[k].toNat : Int) := by omega
        have e33 : ((s[k].toNat : Int) == 33) = false := beq_eq_false_iff_ne.2 (by omega)
        have e35 : ((s[k].toNat : Int) == 35) = true := by rw [beq_iff_eq]; omega
        clear h
        have HY := hide (HX.out HG.out)
        clear HG HX
        go_wp2_with fail
        exact ⟨⟨k + 1, by omega, by go_num, HY.out, trivial⟩, by simp [intOf]; omega⟩
      · have HG : Hid (tokC s[k] = true) := by unfold Hid; rw [tok_iff]; omega
        have t0 : ¬ (48 : Int) ≤ (s[k].toNat : Int) := by omega
        have t2 : ¬ (65 : Int) ≤ (s[k].toNat : Int) := by omega
        have t4 : ¬ (97 : Int) ≤ (s[k].toNat : Int) := by omega
        have e33 : ((s[k].toNat : Int) == 33) = false := beq_eq_false_iff_ne.2 (by omega)
        have e35 : ((s[k].toNat : Int) == 35) = false := beq_eq_false_iff_ne.2 (by omega)
        have e36 : ((s[k].toNat : Int) == 36) = true := by rw [beq_iff_eq]; omega
        clear h
        have HY := hide (HX.out HG.out)
        clear HG HX
        go_wp2_with fail
        exact ⟨⟨k + 1, by omega, by go_num, HY.out, trivial⟩, by simp [intOf]; omega⟩
      · have HG : Hid (tokC s[k] = true) := by unfold Hid; rw [tok_iff]; omega
        have t0 : ¬ (48 : Int) ≤ (s[k].toNat : Int) := by omega
        have t2 : ¬ (65 : Int) ≤ (s[k].toNat : Int) := by omega
        have t4 : ¬ (97 : Int) ≤ (s[k].toNat : Int) := by omega
        have e33 : ((s[k].toNat : Int) == 33) = false := beq_eq_false_iff_ne.2 (by omega)
        have e35 : ((s[k].toNat : Int) == 35) = false := beq_eq_false_iff_ne.2 (by omega)
        have e36 : ((s[k].toNat : Int) == 36) = false := beq_eq_false_iff_ne.2 (by omega)
        have e37 : ((s[k].toNat : Int) == 37) = true := by rw [beq_iff_eq]; omega
        clear h
        have HY := hide (HX.out HG.out)
        clear HG HX
        go_wp2_with fail
        exact ⟨⟨k + 1, by omega, by go_num, HY.out, trivial⟩, by simp [intOf]; omega⟩
      · have HG : Hid (tokC s[k] = true) := by unfold Hid; rw [tok_iff]; omega
        have t0 : ¬ (48 : Int) ≤ (s[k].toNat : Int) := by omega
        have t2 : ¬ (65 : Int) ≤ (s[k].toNat : Int) := by omega
        have t4 : ¬ (97 : Int) ≤ (s[k].toNat : Int) := by omega
        have e33 : ((s[k].toNat : Int) == 33) = false := beq_eq_false_iff_ne.2 (by omega)
        have e35 : ((s[k].toNat : Int) == 35) = false := beq_eq_false_iff_ne.2 (by omega)
        have e36 : ((s[k].toNat : Int) == 36) = false := beq_eq_false_iff_ne.2 (by omega)
        have e37 : ((s[k].toNat : Int) == 37) = false := beq_eq_false_iff_ne.2 (by omega)
        have e38 : ((s[k].toNat : Int) == 38) = true := by rw [beq_iff_eq]; omega
        clear h
        have HY := hide (HX.out HG.out)
        clear HG HX
        go_wp2_with fail
        exact ⟨⟨k + 1, by omega, by go_num, HY.out, trivial⟩, by simp [intOf]; omega⟩
      · have HG : Hid (tokC s[k] = true) := by unfold Hid; rw [tok_iff]; omega
        have t0 : ¬ (48 : Int) ≤ (s[k].toNat : Int) := by omega
        have t2 : ¬ (65 : Int) ≤ (s[k].toNat : Int) := by omega
        have t4 : ¬ (97 : Int) ≤ (s[k].toNat : Int) := by omega
        have e33 : ((s[k].toNat : Int) == 33) = false := beq_eq_false_iff_ne.2 (by omega)
        have e35 : ((s[k].toNat : Int) == 35) = false := beq_eq_false_iff_ne.2 (by omega)
        have e36 : ((s[k].toNat : Int) == 36) = false := beq_eq_false_iff_ne.2 (by omega)
        have e37 : ((s[k].toNat : Int) == 37) = false := beq_eq_false_iff_ne.2 (by omega)
        have e38 : ((s[k].toNat : Int) == 38) = false := beq_eq_false_iff_ne.2 (by omega)
        have e39 : ((s[k].toNat : Int) == 39) = true := by rw [beq_iff_eq]; omega
        clear h
        have HY := hide (HX.out HG.out)
        clear HG HX
        go_wp2_with fail
        exact ⟨⟨k + 1, by omega, by go_num, HY.out, trivial⟩, by simp [intOf]; omega⟩
      · have HG : Hid (tokC s[k] = true) := by unfold Hid; rw [tok_iff]; omega
        have t0 : ¬ (48 : Int) ≤ (s[k].toNat : Int) := by omega
        have t2 : ¬ (65 : Int) ≤ (s[k].toNat : Int) := by omega
        have t4 : ¬ (97 : Int) ≤ (s[k].toNat : Int) := by omega
        have e33 : ((s[k].toNat : Int) == 33) = false := beq_eq_false_iff_ne.2 (by omega)
        have e35 : ((s[k].toNat : Int) == 35) = false := beq_eq_false_iff_ne.2 (by omega)
        have e36 : ((s[k].toNat : Int) == 36) = false := beq_eq_false_iff_ne.2 (by omega)
        have e37 : ((s[k].toNat : Int) == 37) = false := beq_eq_false_iff_ne.2 (by omega)
        have e38 : ((s[k].toNat : Int) == 38) = false := beq_eq_false_iff_ne.2 (by omega)
        have e39 : ((s[k].toNat : Int) == 39) = false := beq_eq_false_iff_ne.2 (by omega)
        have e42 : ((s[k].toNat : Int) == 42) = true := by rw [beq_iff_eq]; omega
        clear h
        have HY := hide (HX.out HG.out)
        clear HG HX
        go_wp2_with fail
        exact ⟨⟨k + 1, by omega, by go_num, HY.out, trivial⟩, by simp [intOf]; omega⟩
      · have HG : Hid (tokC s[k] = true) := by unfold Hid; rw [tok_iff]; omega
        have t0 : ¬ (48 : Int) ≤ (s[k].toNat : Int) := by omega
        have t2 : ¬ (65 : Int) ≤ (s[k].toNat : Int) := by omega
        have t4 : ¬ (97 : Int) ≤ (s[k].toNat : Int) := by omega
        have e33 : ((s[k].toNat : Int) == 33) = false := beq_eq_false_iff_ne.2 (by omega)
        have e35 : ((s[k].toNat : Int) == 35) = false := beq_eq_false_iff_ne.2 (by omega)
        have e36 : ((s[k].toNat : Int) == 36) = false := beq_eq_false_iff_ne.2 (by omega)
        have e37 : ((s[k].toNat : Int) == 37) = false := beq_eq_false_iff_ne.2 (by omega)
        have e38 : ((s[k].toNat : Int) == 38) = false := beq_eq_false_iff_ne.2 (by omega)
        have e39 : ((s[k].toNat : Int) == 39) = false := beq_eq_false_iff_ne.2 (by omega)
        have e42 : ((s[k].toNat : Int) == 42) = false := beq_eq_false_iff_ne.2 (by omega)
        have e43 : ((s[k].toNat : Int) == 43) = true := by rw [beq_iff_eq]; omega
        clear h
        have HY := hide (HX.out HG.out)
        clear HG HX
        go_wp2_with fail
        exact ⟨⟨k + 1, by omega, by go_num, HY.out, trivial⟩, by simp [intOf]; omega⟩
      · have HG : Hid (tokC s[k] = true) := by unfold Hid; rw [tok_iff]; omega
        have t0 : ¬ (48 : Int) ≤ (s[k].toNat : Int) := by omega
        have t2 : ¬ (65 : Int) ≤ (s[k].toNat : Int) := by omega
        have t4 : ¬ (97 : Int) ≤ (s[k].toNat : Int) := by omega
        have e33 : ((s[k].toNat : Int) == 33) = false := beq_eq_false_iff_ne.2 (by omega)
        have e35 : ((s[k].toNat : Int) == 35) = false := beq_eq_false_iff_ne.2 (by omega)
        have e36 : ((s[k].toNat : Int) == 36) = false := beq_eq_false_iff_ne.2 (by omega)
        have e37 : ((s[k].toNat : Int) == 37) = false := beq_eq_false_iff_ne.2 (by omega)
        have e38 : ((s[k].toNat : Int) == 38) = false := beq_eq_false_iff_ne.2 (by omega)
        have e39 : ((s[k].toNat : Int) == 39) = false := beq_eq_false_iff_ne.2 (by omega)
        have e42 : ((s[k].toNat : Int) == 42) = false := beq_eq_false_iff_ne.2 (by omega)
        have e43 : ((s[k].toNat : Int) == 43) = false := beq_eq_false_iff_ne.2 (by omega)
        have e45 : ((s[k].toNat : Int) == 45) = true := by rw [beq_iff_eq]; omega
        clear h
        have HY := hide (HX.out HG.out)
        clear HG HX
        go_wp2_with fail
        exact ⟨⟨k + 1, by omega, by go_num, HY.out, trivial⟩, by simp [intOf]; omega⟩
      · have HG : Hid (tokC s[k] = true) := by unfold Hid; rw [tok_iff]; omega
        have t0 : ¬ (48 : Int) ≤ (s[k].toNat : Int) := by omega
        have t2 : ¬ (65 : Int) ≤ (s[k].toNat : Int) := by omega
        have t4 : ¬ (97 : Int) ≤ (s[k].toNat : Int) := by omega
        have e33 : ((s[k].toNat : Int) == 33) = false := beq_eq_false_iff_ne.2 (by omega)
        have e35 : ((s[k].toNat : Int) == 35) = false := beq_eq_false_iff_ne.2 (by omega)
        have e36 : ((s[k].toNat : Int) == 36) = false := beq_eq_false_iff_ne.2 (by omega)
        have e37 : ((s[k].toNat : Int) == 37) = false := beq_eq_false_iff_ne.2 (by omega)
        have e38 : ((s[k].toNat : Int) == 38) = false := beq_eq_false_iff_ne.2 (by omega)
        have e39 : ((s[k].toNat : Int) == 39) = false := beq_eq_false_iff_ne.2 (by omega)
        have e42 : ((s[k].toNat : Int) == 42) = false := beq_eq_false_iff_ne.2 (by omega)
        have e43 : ((s[k].toNat : Int) == 43) = false := beq_eq_false_iff_ne.2 (by omega)
        have e45 : ((s[k].toNat : Int) == 45) = false := beq_eq_false_iff_ne.2 (by omega)
        have e46 : ((s[k].toNat : Int) == 46) = true := by rw [beq_iff_eq]; omega
        clear h
        have HY := hide (HX.out HG.out)
        clear HG HX
        go_wp2_with fail
        exact ⟨⟨k + 1, by omega, by go_num, HY.out, trivial⟩, by simp [intOf]; omega⟩
      · have HG : Hid (tokC s[k] = true) := by unfold Hid; rw [tok_iff]; omega
        have t0 : (48 : Int) ≤ (s[k].toNat : Int) := by omega
        have t1 : ¬ (s[k].toNat : Int) ≤ 57 := by omega
        have t2 : (65 : Int) ≤ (s[k].toNat : Int) := by omega
        have t3 : ¬ (s[k].toNat : Int) ≤ 90 := by omega
        have t4 : ¬ (97 : Int) ≤ (s[k].toNat : Int) := by omega
        have e33 : ((s[k].toNat : Int) == 33) = false := beq_eq_false_iff_ne.2 (by omega)
        have e35 : ((s[k].toNat : Int) == 35) = false := beq_eq_false_iff_ne.2 (by omega)
        have e36 : ((s[k].toNat : Int) == 36) = false := beq_eq_false_iff_ne.2 (by omega)
        have e37 : ((s[k].toNat : Int) == 37) = false := beq_eq_false_iff_ne.2 (by omega)
        have e38 : ((s[k].toNat : Int) == 38) = false := beq_eq_false_iff_ne.2 (by omega)
        have e39 : ((s[k].toNat : Int) == 39) = false := beq_eq_false_iff_ne.2 (by omega)
        have e42 : ((s[k].toNat : Int) == 42) = false := beq_eq_false_iff_ne.2 (by omega)
        have e43 : ((s[k].toNat : Int) == 43) = false := beq_eq_false_iff_ne.2 (by omega)
        have e45 : ((s[k].toNat : Int) == 45) = false := beq_eq_false_iff_ne.2 (by omega)
        have e46 : ((s[k].toNat : Int) == 46) = false := beq_eq_false_iff_ne.2 (by omega)
        have e94 : ((s[k].toNat : Int) == 94) = true := by rw [beq_iff_eq]; omega
        clear h
        have HY := hide (HX.out HG.out)
        clear HG HX
        go_wp2_with fail
        exact ⟨⟨k + 1, by omega, by go_num, HY.out, trivial⟩, by simp [intOf]; omega⟩
      · have HG : Hid (tokC s[k] = true) := by unfold Hid; rw [tok_iff]; omega
        have t0 : (48 : Int) ≤ (s[k].toNat : Int) := by omega
        have t1 : ¬ (s[k].toNat : Int) ≤ 57 := by omega
        have t2 : (65 : Int) ≤ (s[k].toNat : Int) := by omega
        have t3 : ¬ (s[k].toNat : Int) ≤ 90 := by omega
        have t4 : ¬ (97 : Int) ≤ (s[k].toNat : Int) := by omega
        have e33 : ((s[k].toNat : Int) == 33) = false := beq_eq_false_iff_ne.2 (by omega)
        have e35 : ((s[k].toNat : Int) == 35) = false := beq_eq_false_iff_ne.2 (by omega)
        have e36 : ((s[k].toNat : Int) == 36) = false := beq_eq_false_iff_ne.2 (by omega)
        have e37 : ((s[k].toNat : Int) == 37) = false := beq_eq_false_iff_ne.2 (by omega)
        have e38 : ((s[k].toNat : Int) == 38) = false := beq_eq_false_iff_ne.2 (by omega)
        have e39 : ((s[k].toNat : Int) == 39) = false := beq_eq_false_iff_ne.2 (by omega)
        have e42 : ((s[k].toNat : Int) == 42) = false := beq_eq_false_iff_ne.2 (by omega)
        have e43 : ((s[k].toNat : Int) == 43) = false := beq_eq_false_iff_ne.2 (by omega)
        have e45 : ((s[k].toNat : Int) == 45) = false := beq_eq_false_iff_ne.2 (by omega)
        have e46 : ((s[k].toNat : Int) == 46) = false := beq_eq_false_iff_ne.2 (by omega)
        have e94 : ((s[k].toNat : Int) == 94) = false := beq_eq_false_iff_ne.2 (by omega)
        have e95 : ((s[k].toNat : Int) == 95) = true := by rw [beq_iff_eq]; omega
        clear h
        have HY := hide (HX.out HG.out)
        clear HG HX
        go_wp2_with fail
        exact ⟨⟨k + 1, by omega, by go_num, HY.out, trivial⟩, by simp [intOf]; omega⟩
      · have HG : Hid (tokC s[k] = true) := by unfold Hid; rw [tok_iff]; omega
        have t0 : (48 : Int) ≤ (s[k].toNat : Int) := by omega
        have t1 : ¬ (s[k].toNat : Int) ≤ 57 := by omega
        have t2 : (65 : Int) ≤ (s[k].toNat : Int) := by omega
        have t3 : ¬ (s[k].toNat : Int) ≤ 90 := by omega
        have t4 : ¬ (97 : Int) ≤ (s[k].toNat : Int) := by omega
        have e33 : ((s[k].toNat : Int) == 33) = false := beq_eq_false_iff_ne.2 (by omega)
        have e35 : ((s[k].toNat : Int) == 35) = false := beq_eq_false_iff_ne.2 (by omega)
        have e36 : ((s[k].toNat : Int) == 36) = false := beq_eq_false_iff_ne.2 (by omega)
        have e37 : ((s[k].toNat : Int) == 37) = false := beq_eq_false_iff_ne.2 (by omega)
        have e38 : ((s[k].toNat : Int) == 38) = false := beq_eq_false_iff_ne.2 (by omega)
        have e39 : ((s[k].toNat : Int) == 39) = false := beq_eq_false_iff_ne.2 (by omega)
        have e42 : ((s[k].toNat : Int) == 42) = false := beq_eq_false_iff_ne.2 (by omega)
        have e43 : ((s[k].toNat : Int) == 43) = false := beq_eq_false_iff_ne.2 (by omega)
        have e45 : ((s[k].toNat : Int) == 45) = false := beq_eq_false_iff_ne.2 (by omega)
        have e46 : ((s[k].toNat : Int) == 46) = false := beq_eq_false_iff_ne.2 (by omega)
        have e94 : ((s[k].toNat : Int) == 94) = false := beq_eq_false_iff_ne.2 (by omega)
        have e95 : ((s[k].toNat : Int) == 95) = false := beq_eq_false_iff_ne.2 (by omega)
        have e96 : ((s[k].toNat : Int) == 96) = true := by rw [beq_iff_eq]; omega
        clear h
        have HY := hide (HX.out HG.out)
        clear HG HX
        go_wp2_with fail
        exact ⟨⟨k + 1, by omega, by go_num, HY.out, trivial⟩, by simp [intOf]; omega⟩
      · have HG : Hid (tokC s[k] = true) := by unfold Hid; rw [tok_iff]; omega
        have t0 : (48 : Int) ≤ (s[k].toNat : Int) := by omega
        have t1 : ¬ (s[k].toNat : Int) ≤ 57 := by omega
        have t2 : (65 : Int) ≤ (s[k].toNat : Int) := by omega
        have t3 : ¬ (s[k].toNat : Int) ≤ 90 := by omega
        have t4 : (97 : Int) ≤ (s[k].toNat : Int) := by omega
        have t5 : ¬ (s[k].toNat : Int) ≤ 122 := by omega
        have e33 : ((s[k].toNat : Int) == 33) = false := beq_eq_false_iff_ne.2 (by omega)
        have e35 : ((s[k].toNat : Int) == 35) = false := beq_eq_false_iff_ne.2 (by omega)
        have e36 : ((s[k].toNat : Int) == 36) = false := beq_eq_false_iff_ne.2 (by omega)
        have e37 : ((s[k].toNat : Int) == 37) = false := beq_eq_false_iff_ne.2 (by omega)
        have e38 : ((s[k].toNat : Int) == 38) = false := beq_eq_false_iff_ne.2 (by omega)
        have e39 : ((s[k].toNat : Int) == 39) = false := beq_eq_false_iff_ne.2 (by omega)
        have e42 : ((s[k].toNat : Int) == 42) = false := beq_eq_false_iff_ne.2 (by omega)
        have e43 : ((s[k].toNat : Int) == 43) = false := beq_eq_false_iff_ne.2 (by omega)
        have e45 : ((s[k].toNat : Int) == 45) = false := beq_eq_false_iff_ne.2 (by omega)
        have e46 : ((s[k].toNat : Int) == 46) = false := beq_eq_false_iff_ne.2 (by omega)
        have e94 : ((s[k].toNat : Int) == 94) = false := beq_eq_false_iff_ne.2 (by omega)
        have e95 : ((s[k].toNat : Int) == 95) = false := beq_eq_false_iff_ne.2 (by omega)
        have e96 : ((s[k].toNat : Int) == 96) = false := beq_eq_false_iff_ne.2 (by omega)
        have e124 : ((s[k].toNat : Int) == 124) = true := by rw [beq_iff_eq]; omega
        clear h
        have HY := hide (HX.out HG.out)
        clear HG HX
        go_wp2_with fail
        exact ⟨⟨k + 1, by omega, by go_num, HY.out, trivial⟩, by simp [intOf]; omega⟩
      · have HG : Hid (tokC s[k] = true) := by unfold Hid; rw [tok_iff]; omega
        have t0 : (48 : Int) ≤ (s[k].toNat : Int) := by omega
        have t1 : ¬ (s[k].toNat : Int) ≤ 57 := by omega
        have t2 : (65 : Int) ≤ (s[k].toNat : Int) := by omega
        have t3 : ¬ (s[k].toNat : Int) ≤ 90 := by omega
        have t4 : (97 : Int) ≤ (s[k].toNat : Int) := by omega
        have t5 : ¬ (s[k].toNat : Int) ≤ 122 := by omega
        have e33 : ((s[k].toNat : Int) == 33) = false := beq_eq_false_iff_ne.2 (by omega)
        have e35 : ((s[k].toNat : Int) == 35) = false := beq_eq_false_iff_ne.2 (by omega)
        have e36 : ((s[k].toNat : Int) == 36) = false := beq_eq_false_iff_ne.2 (by omega)
        have e37 : ((s[k].toNat : Int) == 37) = false := beq_eq_false_iff_ne.2 (by omega)
        have e38 : ((s[k].toNat : Int) == 38) = false := beq_eq_false_iff_ne.2 (by omega)
        have e39 : ((s[k].toNat : Int) == 39) = false := beq_eq_false_iff_ne.2 (by omega)
        have e42 : ((s[k].toNat : Int) == 42) = false := beq_eq_false_iff_ne.2 (by omega)
        have e43 : ((s[k].toNat : Int) == 43) = false := beq_eq_false_iff_ne.2 (by omega)
        have e45 : ((s[k].toNat : Int) == 45) = false := beq_eq_false_iff_ne.2 (by omega)
        have e46 : ((s[k].toNat : Int) == 46) = false := beq_eq_false_iff_ne.2 (by omega)
        have e94 : ((s[k].toNat : Int) == 94) = false := beq_eq_false_iff_ne.2 (by omega)
        have e95 : ((s[k].toNat : Int) == 95) = false := beq_eq_false_iff_ne.2 (by omega)
        have e96 : ((s[k].toNat : Int) == 96) = false := beq_eq_false_iff_ne.2 (by omega)
        have e124 : ((s[k].toNat : Int) == 124) = false := beq_eq_false_iff_ne.2 (by omega)
        have e126 : ((s[k].toNat : Int) == 126) = true := by rw [beq_iff_eq]; omega
        clear h
        have HY := hide (HX.out HG.out)
        clear HG HX
        go_wp2_with fail
        exact ⟨⟨k + 1, by omega, by go_num, HY.out, trivial⟩, by simp [intOf]; omega⟩
      · have HG : Hid (tokC s[k] = true) := by unfold Hid; rw [tok_iff]; omega
        have t0 : (48 : Int) ≤ (s[k].toNat : Int) := by omega
        have t1 : (s[k].toNat : Int) ≤ 57 := by omega
        have e33 : ((s[k].toNat : Int) == 33) = false := beq_eq_false_iff_ne.2 (by omega)
        have e35 : ((s[k].toNat : Int) == 35) = false := beq_eq_false_iff_ne.2 (by omega)
        have e36 : ((s[k].toNat : Int) == 36) = false := beq_eq_false_iff_ne.2 (by omega)
        have e37 : ((s[k].toNat : Int) == 37) = false := beq_eq_false_iff_ne.2 (by omega)
        have e38 : ((s[k].toNat : Int) == 38) = false := beq_eq_false_iff_ne.2 (by omega)
        have e39 : ((s[k].toNat : Int) == 39) = false := beq_eq_false_iff_ne.2 (by omega)
        have e42 : ((s[k].toNat : Int) == 42) = false := beq_eq_false_iff_ne.2 (by omega)
        have e43 : ((s[k].toNat : Int) == 43) = false := beq_eq_false_iff_ne.2 (by omega)
        have e45 : ((s[k].toNat : Int) == 45) = false := beq_eq_false_iff_ne.2 (by omega)
        have e46 : ((s[k].toNat : Int) == 46) = false := beq_eq_false_iff_ne.2 (by omega)
        have e94 : ((s[k].toNat : Int) == 94) = false := beq_eq_false_iff_ne.2 (by omega)
        have e95 : ((s[k].toNat : Int) == 95) = false := beq_eq_false_iff_ne.2 (by omega)
        have e96 : ((s[k].toNat : Int) == 96) = false := beq_eq_false_iff_ne.2 (by omega)
        have e124 : ((s[k].toNat : Int) == 124) = false := beq_eq_false_iff_ne.2 (by omega)
        have e126 : ((s[k].toNat : Int) == 126) = false := beq_eq_false_iff_ne.2 (by omega)
        clear h
        have HY := hide (HX.out HG.out)
        clear HG HX
        go_wp2_with fail
        exact ⟨⟨k + 1, by omega, by go_num, HY.out, trivial⟩, by simp [intOf]; omega⟩
      · have HG : Hid (tokC s[k] = true) := by unfold Hid; rw [tok_iff]; omega
        have t0 : (48 : Int) ≤ (s[k].toNat : Int) := by omega
        have t1 : ¬ (s[k].toNat : Int) ≤ 57 := by omega
        have t2 : (65 : Int) ≤ (s[k].toNat : Int) := by omega
        have t3 : (s[k].toNat : Int) ≤ 90 := by omega
        have e33 : ((s[k].toNat : Int) == 33) = false := beq_eq_false_iff_ne.2 (by omega)
        have e35 : ((s[k].toNat : Int) == 35) = false := beq_eq_false_iff_ne.2 (by omega)
        have e36 : ((s[k].toNat : Int) == 36) = false := beq_eq_false_iff_ne.2 (by omega)
        have e37 : ((s[k].toNat : Int) == 37) = false := beq_eq_false_iff_ne.2 (by omega)
        have e38 : ((s[k].toNat : Int) == 38) = false := beq_eq_false_iff_ne.2 (by omega)
        have e39 : ((s[k].toNat : Int) == 39) = false := beq_eq_false_iff_ne.2 (by omega)
        have e42 : ((s[k].toNat : Int) == 42) = false := beq_eq_false_iff_ne.2 (by omega)
        have e43 : ((s[k].toNat : Int) == 43) = false := beq_eq_false_iff_ne.2 (by omega)
        have e45 : ((s[k].toNat : Int) == 45) = false := beq_eq_false_iff_ne.2 (by omega)
        have e46 : ((s[k].toNat : Int) == 46) = false := beq_eq_false_iff_ne.2 (by omega)
        have e94 : ((s[k].toNat : Int) == 94) = false := beq_eq_false_iff_ne.2 (by omega)
        have e95 : ((s[k].toNat : Int) == 95) = false := beq_eq_false_iff_ne.2 (by omega)
        have e96 : ((s[k].toNat : Int) == 96) = false := beq_eq_false_iff_ne.2 (by omega)
        have e124 : ((s[k].toNat : Int) == 124) = false := beq_eq_false_iff_ne.2 (by omega)
        have e126 : ((s[k].toNat : Int) == 126) = false := beq_eq_false_iff_ne.2 (by omega)
        clear h
        have HY := hide (HX.out HG.out)
        clear HG HX
        go_wp2_with fail
        exact ⟨⟨k + 1, by omega, by go_num, HY.out, trivial⟩, by simp [intOf]; omega⟩
      · have HG : Hid (tokC s[k] = true) := by unfold Hid; rw [tok_iff]; omega
        have t0 : (48 : Int) ≤ (s[k].toNat : Int) := by omega
        have t1 : ¬ (s[k].toNat : Int) ≤ 57 := by omega
        have t2 : (65 : Int) ≤ (s[k].toNat : Int) := by omega
        have t3 : ¬ (s[k].toNat : Int) ≤ 90 := by omega
        have t4 : (97 : Int) ≤ (s[k].toNat : Int) := by omega
        have t5 : (s[k].toNat : Int) ≤ 122 := by omega
        have e33 : ((s[k].toNat : Int) == 33) = false := beq_eq_false_iff_ne.2 (by omega)
        have e35 : ((s[k].toNat : Int) == 35) = false := beq_eq_false_iff_ne.2 (by omega)
        have e36 : ((s[k].toNat : Int) == 36) = false := beq_eq_false_iff_ne.2 (by omega)
        have e37 : ((s[k].toNat : Int) == 37) = false := beq_eq_false_iff_ne.2 (by omega)
        have e38 : ((s[k].toNat : Int) == 38) = false := beq_eq_false_iff_ne.2 (by omega)
        have e39 : ((s[k].toNat : Int) == 39) = false := beq_eq_false_iff_ne.2 (by omega)
        have e42 : ((s[k].toNat : Int) == 42) = false := beq_eq_false_iff_ne.2 (by omega)
        have e43 : ((s[k].toNat : Int) == 43) = false := beq_eq_false_iff_ne.2 (by omega)
        have e45 : ((s[k].toNat : Int) == 45) = false := beq_eq_false_iff_ne.2 (by omega)
        have e46 : ((s[k].toNat : Int) == 46) = false := beq_eq_false_iff_ne.2 (by omega)
        have e94 : ((s[k].toNat : Int) == 94) = false := beq_eq_false_iff_ne.2 (by omega)
        have e95 : ((s[k].toNat : Int) == 95) = false := beq_eq_false_iff_ne.2 (by omega)
        have e96 : ((s[k].toNat : Int) == 96) = false := beq_eq_false_iff_ne.2 (by omega)
        have e124 : ((s[k].toNat : Int) == 124) = false := beq_eq_false_iff_ne.2 (by omega)
        have e126 : ((s[k].toNat : Int) == 126) = false := beq_eq_false_iff_ne.2 (by omega)
        clear h
        have HY := hide (HX.out HG.out)
        clear HG HX
        go_wp2_with fail
        exact ⟨⟨k + 1, by omega, by go_num, HY.out, trivial⟩, by simp [intOf]; omega⟩
      · have HG : Hid (tokC s[k] = false) := by unfold Hid; rw [tok_iff_not]; omega
        have t0 : ¬ (48 : Int) ≤ (s[k].toNat : Int) := by omega
        have t2 : ¬ (65 : Int) ≤ (s[k].toNat : Int) := by omega
        have t4 : ¬ (97 : Int) ≤ (s[k].toNat : Int) := by omega
        have e33 : ((s[k].toNat : Int) == 33) = false := beq_eq_false_iff_ne.2 (by omega)
        have e35 : ((s[k].toNat : Int) == 35) = false := beq_eq_false_iff_ne.2 (by omega)
        have e36 : ((s[k].toNat : Int) == 36) = false := beq_eq_false_iff_ne.2 (by omega)
        have e37 : ((s[k].toNat : Int) == 37) = false := beq_eq_false_iff_ne.2 (by omega)
        have e38 : ((s[k].toNat : Int) == 38) = false := beq_eq_false_iff_ne.2 (by omega)
        have e39 : ((s[k].toNat : Int) == 39) = false := beq_eq_false_iff_ne.2 (by omega)
        have e42 : ((s[k].toNat : Int) == 42) = false := beq_eq_false_iff_ne.2 (by omega)
        have e43 : ((s[k].toNat : Int) == 43) = false := beq_eq_false_iff_ne.2 (by omega)
        have e45 : ((s[k].toNat : Int) == 45) = false := beq_eq_false_iff_ne.2 (by omega)
        have e46 : ((s[k].toNat : Int) == 46) = false := beq_eq_false_iff_ne.2 (by omega)
        have e94 : ((s[k].toNat : Int) == 94) = false := beq_eq_false_iff_ne.2 (by omega)
        have e95 : ((s[k].toNat : Int) == 95) = false := beq_eq_false_iff_ne.2 (by omega)
        have e96 : ((s[k].toNat : Int) == 96) = false := beq_eq_false_iff_ne.2 (by omega)
        have e124 : ((s[k].toNat : Int) == 124) = false := beq_eq_false_iff_ne.2 (by omega)
        have e126 : ((s[k].toNat : Int) == 126) = false := beq_eq_false_iff_ne.2 (by omega)
        clear h
        have HN : Hid (¬ TokenP s) := fun h => by have := h.2.2 k hlt; rw [HG.out] at this; cases this
        clear HG HX
        go_wp2_with fail
        go_ret
        exact ⟨tells_no HN.out, rfl⟩
      · have HG : Hid (tokC s[k] = false) := by unfold Hid; rw [tok_iff_not]; omega
        have t0 : (48 : Int) ≤ (s[k].toNat : Int) := by omega
        have t1 : ¬ (s[k].toNat : Int) ≤ 57 := by omega
        have t2 : ¬ (65 : Int) ≤ (s[k].toNat : Int) := by omega
        have t4 : ¬ (97 : Int) ≤ (s[k].toNat : Int) := by omega
        have e33 : ((s[k].toNat : Int) == 33) = false := beq_eq_false_iff_ne.2 (by omega)
        have e35 : ((s[k].toNat : Int) == 35) = false := beq_eq_false_iff_ne.2 (by omega)
        have e36 : ((s[k].toNat : Int) == 36) = false := beq_eq_false_iff_ne.2 (by omega)
        have e37 : ((s[k].toNat : Int) == 37) = false := beq_eq_false_iff_ne.2 (by omega)
        have e38 : ((s[k].toNat : Int) == 38) = false := beq_eq_false_iff_ne.2 (by omega)
        have e39 : ((s[k].toNat : Int) == 39) = false := beq_eq_false_iff_ne.2 (by omega)
        have e42 : ((s[k].toNat : Int) == 42) = false := beq_eq_false_iff_ne.2 (by omega)
        have e43 : ((s[k].toNat : Int) == 43) = false := beq_eq_false_iff_ne.2 (by omega)
        have e45 : ((s[k].toNat : Int) == 45) = false := beq_eq_false_iff_ne.2 (by omega)
        have e46 : ((s[k].toNat : Int) == 46) = false := beq_eq_false_iff_ne.2 (by omega)
        have e94 : ((s[k].toNat : Int) == 94) = false := beq_eq_false_iff_ne.2 (by omega)
        have e95 : ((s[k].toNat : Int) == 95) = false := beq_eq_false_iff_ne.2 (by omega)
        have e96 : ((s[k].toNat : Int) == 96) = false := beq_eq_false_iff_ne.2 (by omega)
        have e124 : ((s[k].toNat : Int) == 124) = false := beq_eq_false_iff_ne.2 (by omega)
        have e126 : ((s[k].toNat : Int) == 126) = false := beq_eq_false_iff_ne.2 (by omega)
        clear h
        have HN : Hid (¬ TokenP s) := fun h => by have := h.2.2 k hlt; rw [HG.out] at this; cases this
        clear HG HX
        go_wp2_with fail
        go_ret
        exact ⟨tells_no HN.out, rfl⟩
      · have HG : Hid (tokC s[k] = false) := by unfold Hid; rw [tok_iff_not]; omega
        have t0 : (48 : Int) ≤ (s[k].toNat : Int) := by omega
        have t1 : ¬ (s[k].toNat : Int) ≤ 57 := by omega
        have t2 : (65 : Int) ≤ (s[k].toNat : Int) := by omega
        have t3 : ¬ (s[k].toNat : Int) ≤ 90 := by omega
        have t4 : ¬ (97 : Int) ≤ (s[k].toNat : Int) := by omega
        have e33 : ((s[k].toNat : Int) == 33) = false := beq_eq_false_iff_ne.2 (by omega)
        have e35 : ((s[k].toNat : Int) == 35) = false := beq_eq_false_iff_ne.2 (by omega)
        have e36 : ((s[k].toNat : Int) == 36) = false := beq_eq_false_iff_ne.2 (by omega)
        have e37 : ((s[k].toNat : Int) == 37) = false := beq_eq_false_iff_ne.2 (by omega)
        have e38 : ((s[k].toNat : Int) == 38) = false := beq_eq_false_iff_ne.2 (by omega)
        have e39 : ((s[k].toNat : Int) == 39) = false := beq_eq_false_iff_ne.2 (by omega)
        have e42 : ((s[k].toNat : Int) == 42) = false := beq_eq_false_iff_ne.2 (by omega)
        have e43 : ((s[k].toNat : Int) == 43) = false := beq_eq_false_iff_ne.2 (by omega)
        have e45 : ((s[k].toNat : Int) == 45) = false := beq_eq_false_iff_ne.2 (by omega)
        have e46 : ((s[k].toNat : Int) == 46) = false := beq_eq_false_iff_ne.2 (by omega)
        have e94 : ((s[k].toNat : Int) == 94) = false := beq_eq_false_iff_ne.2 (by omega)
        have e95 : ((s[k].toNat : Int) == 95) = false := beq_eq_false_iff_ne.2 (by omega)
        have e96 : ((s[k].toNat : Int) == 96) = false := beq_eq_false_iff_ne.2 (by omega)
        have e124 : ((s[k].toNat : Int) == 124) = false := beq_eq_false_iff_ne.2 (by omega)
        have e126 : ((s[k].toNat : Int) == 126) = false := beq_eq_false_iff_ne.2 (by omega)
        clear h
        have HN : Hid (¬ TokenP s) := fun h => by have := h.2.2 k hlt; rw [HG.out] at this; cases this
        clear HG HX
        go_wp2_with fail
        go_ret
        exact ⟨tells_no HN.out, rfl⟩
      · have HG : Hid (tokC s[k] = false) := by unfold Hid; rw [tok_iff_not]; omega
        have t0 : (48 : Int) ≤ (s[k].toNat : Int) := by omega
        have t1 : ¬ (s[k].toNat : Int) ≤ 57 := by omega
        have t2 : (65 : Int) ≤ (s[k].toNat : Int) := by omega
        have t3 : ¬ (s[k].toNat : Int) ≤ 90 := by omega
        have t4 : (97 : Int) ≤ (s[k].toNat : Int) := by omega
        have t5 : ¬ (s[k].toNat : Int) ≤ 122 := by omega
        have e33 : ((s[k].toNat : Int) == 33) = false := beq_eq_false_iff_ne.2 (by omega)
        have e35 : ((s[k].toNat : Int) == 35) = false := beq_eq_false_iff_ne.2 (by omega)
        have e36 : ((s[k].toNat : Int) == 36) = false := beq_eq_false_iff_ne.2 (by omega)
        have e37 : ((s[k].toNat : Int) == 37) = false := beq_eq_false_iff_ne.2 (by omega)
        have e38 : ((s[k].toNat : Int) == 38) = false := beq_eq_false_iff_ne.2 (by omega)
        have e39 : ((s[k].toNat : Int) == 39) = false := beq_eq_false_iff_ne.2 (by omega)
        have e42 : ((s[k].toNat : Int) == 42) = false := beq_eq_false_iff_ne.2 (by omega)
        have e43 : ((s[k].toNat : Int) == 43) = false := beq_eq_false_iff_ne.2 (by omega)
        have e45 : ((s[k].toNat : Int) == 45) = false := beq_eq_false_iff_ne.2 (by omega)
        have e46 : ((s[k].toNat : Int) == 46) = false := beq_eq_false_iff_ne.2 (by omega)
        have e94 : ((s[k].toNat : Int) == 94) = false := beq_eq_false_iff_ne.2 (by omega)
        have e95 : ((s[k].toNat : Int) == 95) = false := beq_eq_false_iff_ne.2 (by omega)
        have e96 : ((s[k].toNat : Int) == 96) = false := beq_eq_false_iff_ne.2 (by omega)
        have e124 : ((s[k].toNat : Int) == 124) = false := beq_eq_false_iff_ne.2 (by omega)
        have e126 : ((s[k].toNat : Int) == 126) = false := beq_eq_false_iff_ne.2 (by omega)
        clear h
        have HN : Hid (¬ TokenP s) := fun h => by have := h.2.2 k hlt; rw [HG.out] at this; cases this
        clear HG HX
        go_wp2_with fail
        go_ret
        exact ⟨tells_no HN.out, rfl⟩
    · have hlt' : ¬ (k : Int) < (s.size : Int) := by omega
      have HT : Hid (TokenP s ↔ 1 ≤ s.size ∧ s.size ≤ 40) := ⟨fun h => ⟨h.1, h.2.1⟩, fun h => ⟨h.1, h.2, fun j hj => hno.out j hj (by omega)⟩⟩
      by_cases h1 : 1 ≤ s.size
      · have t1 : (1 : Int) ≤ (s.size : Int) := by omega
        by_cases h40 : s.size ≤ 40
        · have t2 : (s.size : Int) ≤ 40 := by omega
          go_wp2_with fail
          go_ret
          exact ⟨tells_yes (HT.out.2 ⟨h1, h40⟩), rfl⟩
        · have t2 : decide ((s.size : Int) ≤ 40) = false := decide_eq_false (by omega)
          have HN : Hid (¬ TokenP s) := fun h => h40 (HT.out.1 h).2
          clear h40
          go_wp2_with fail
          go_ret
          exact ⟨tells_no HN.out, rfl⟩
      · have t1 : decide ((1 : Int) ≤ (s.size : Int)) = false := decide_eq_false (by omega)
        have HN : Hid (¬ TokenP s) := fun h => h1 (HT.out.1 h).1
        clear h1
        go_wp2_with fail
        go_ret
        exact ⟨tells_no HN.out, rfl⟩

set_option maxHeartbeats 3200000 in
theorem rvalue_any (s : ByteArray) (w : World) (hs : s.size ≤ 100) :
    Calls Tryz.prog 137 #[.string s] w fun e w' => Tells (ValueP s) e ∧ w' = w := by
  go_enter Tryz.func137, Tryz.ntmps137
  go_wp2_with fail
  go_loopw [3] (fun i wr => ∃ k : Nat, k ≤ s.size ∧ i = .int .i64 k ∧ Hid (∀ j (h : j < s.size), j < k → valAt s j h) ∧ wr = w) (fun i _ => s.size - (intOf i).toNat)
  case atStart => exact ⟨0, Nat.zero_le _, rfl, fun _ _ h => absurd h (by omega), rfl⟩
  case round =>
    obtain ⟨k, hk, rfl, hno, rfl⟩ := hrel
    by_cases hlt : k < s.size
    · have hlt' : (k : Int) < (s.size : Int) := by omega
      have HX : Hid (valAt s k hlt → ∀ j (h : j < s.size), j < k + 1 → valAt s j h) := fun h j hj hjk => by
        rcases Nat.lt_or_ge j k with h1 | h1
        · exact hno.out j hj h1
        · obtain rfl : j = k := by omega
          exact h
      rcases (show k = 0 ∨ (k ≠ 0 ∧ k + 1 = s.size) ∨ (k ≠ 0 ∧ k + 1 ≠ s.size) by omega) with he | he | he
      · rcases (show s[k].toNat < 32 ∨ 126 < s[k].toNat ∨ s[k].toNat = 32 ∨ (33 ≤ s[k].toNat ∧ s[k].toNat ≤ 126) by omega) with h | h | h | h
        · have HE := hide he
          have HH := hide h
          have e0 : ((k : Int) == 0) = true := by rw [beq_iff_eq]; omega
          have t0 : (s[k].toNat : Int) < 32 := by omega
          have HN : Hid (¬ ValueP s) := fun hv => by have := hv.2 k hlt; unfold valAt at this; omega
          clear he h HE HH HX
          go_wp2_with fail
          go_ret
          exact ⟨tells_no HN.out, rfl⟩
        · have HE := hide he
          have HH := hide h
          have e0 : ((k : Int) == 0) = true := by rw [beq_iff_eq]; omega
          have t0 : ¬ (s[k].toNat : Int) < 32 := by omega
          have t1 : (126 : Int) < (s[k].toNat : Int) := by omega
          have HN : Hid (¬ ValueP s) := fun hv => by have := hv.2 k hlt; unfold valAt at this; omega
          clear he h HE HH HX
          go_wp2_with fail
          go_ret
          exact ⟨tells_no HN.out, rfl⟩
        · have HE := hide he
          have HH := hide h
          have e0 : ((k : Int) == 0) = true := by rw [beq_iff_eq]; omega
          have t0 : ¬ (s[k].toNat : Int) < 32 := by omega
          have t1 : ¬ (126 : Int) < (s[k].toNat : Int) := by omega
          have t2 : ((s[k].toNat : Int) == 32) = true := by rw [beq_iff_eq]; omega
          have HN : Hid (¬ ValueP s) := fun hv => by have := hv.2 k hlt; unfold valAt at this; omega
          clear he h HE HH HX
          go_wp2_with fail
          go_ret
          exact ⟨tells_no HN.out, rfl⟩
        · have HE := hide he
          have HH := hide h
          have e0 : ((k : Int) == 0) = true := by rw [beq_iff_eq]; omega
          have t0 : ¬ (s[k].toNat : Int) < 32 := by omega
          have t1 : ¬ (126 : Int) < (s[k].toNat : Int) := by omega
          have t2 : ((s[k].toNat : Int) == 32) = false := beq_eq_false_iff_ne.2 (by omega)
          have HY := hide (HX.out (by unfold valAt; omega))
          clear he h HE HH HX
          go_wp2_with fail
          exact ⟨⟨k + 1, by omega, by go_num, HY.out, trivial⟩, by simp [intOf]; omega⟩
      · rcases (show s[k].toNat < 32 ∨ 126 < s[k].toNat ∨ s[k].toNat = 32 ∨ (33 ≤ s[k].toNat ∧ s[k].toNat ≤ 126) by omega) with h | h | h | h
        · have HE := hide he
          have HH := hide h
          have e0 : ((k : Int) == 0) = false := beq_eq_false_iff_ne.2 (by omega)
          have e1 : ((k : Int) == (s.size : Int) - 1) = true := by rw [beq_iff_eq]; omega
          have t0 : (s[k].toNat : Int) < 32 := by omega
          have HN : Hid (¬ ValueP s) := fun hv => by have := hv.2 k hlt; unfold valAt at this; omega
          clear he h HE HH HX
          go_wp2_with fail
          go_ret
          exact ⟨tells_no HN.out, rfl⟩
        · have HE := hide he
          have HH := hide h
          have e0 : ((k : Int) == 0) = false := beq_eq_false_iff_ne.2 (by omega)
          have e1 : ((k : Int) == (s.size : Int) - 1) = true := by rw [beq_iff_eq]; omega
          have t0 : ¬ (s[k].toNat : Int) < 32 := by omega
          have t1 : (126 : Int) < (s[k].toNat : Int) := by omega
          have HN : Hid (¬ ValueP s) := fun hv => by have := hv.2 k hlt; unfold valAt at this; omega
          clear he h HE HH HX
          go_wp2_with fail
          go_ret
          exact ⟨tells_no HN.out, rfl⟩
        · have HE := hide he
          have HH := hide h
          have e0 : ((k : Int) == 0) = false := beq_eq_false_iff_ne.2 (by omega)
          have e1 : ((k : Int) == (s.size : Int) - 1) = true := by rw [beq_iff_eq]; omega
          have t0 : ¬ (s[k].toNat : Int) < 32 := by omega
          have t1 : ¬ (126 : Int) < (s[k].toNat : Int) := by omega
          have t2 : ((s[k].toNat : Int) == 32) = true := by rw [beq_iff_eq]; omega
          have HN : Hid (¬ ValueP s) := fun hv => by have := hv.2 k hlt; unfold valAt at this; omega
          clear he h HE HH HX
          go_wp2_with fail
          go_ret
          exact ⟨tells_no HN.out, rfl⟩
        · have HE := hide he
          have HH := hide h
          have e0 : ((k : Int) == 0) = false := beq_eq_false_iff_ne.2 (by omega)
          have e1 : ((k : Int) == (s.size : Int) - 1) = true := by rw [beq_iff_eq]; omega
          have t0 : ¬ (s[k].toNat : Int) < 32 := by omega
          have t1 : ¬ (126 : Int) < (s[k].toNat : Int) := by omega
          have t2 : ((s[k].toNat : Int) == 32) = false := beq_eq_false_iff_ne.2 (by omega)
          have HY := hide (HX.out (by unfold valAt; omega))
          clear he h HE HH HX
          go_wp2_with fail
          exact ⟨⟨k + 1, by omega, by go_num, HY.out, trivial⟩, by simp [intOf]; omega⟩
      · rcases (show s[k].toNat < 32 ∨ 126 < s[k].toNat ∨ s[k].toNat = 32 ∨ (33 ≤ s[k].toNat ∧ s[k].toNat ≤ 126) by omega) with h | h | h | h
        · have HE := hide he
          have HH := hide h
          have e0 : ((k : Int) == 0) = false := beq_eq_false_iff_ne.2 (by omega)
          have e1 : ((k : Int) == (s.size : Int) - 1) = false := beq_eq_false_iff_ne.2 (by omega)
          have t0 : (s[k].toNat : Int) < 32 := by omega
          have HN : Hid (¬ ValueP s) := fun hv => by have := hv.2 k hlt; unfold valAt at this; omega
          clear he h HE HH HX
          go_wp2_with fail
          go_ret
          exact ⟨tells_no HN.out, rfl⟩
        · have HE := hide he
          have HH := hide h
          have e0 : ((k : Int) == 0) = false := beq_eq_false_iff_ne.2 (by omega)
          have e1 : ((k : Int) == (s.size : Int) - 1) = false := beq_eq_false_iff_ne.2 (by omega)
          have t0 : ¬ (s[k].toNat : Int) < 32 := by omega
          have t1 : (126 : Int) < (s[k].toNat : Int) := by omega
          have HN : Hid (¬ ValueP s) := fun hv => by have := hv.2 k hlt; unfold valAt at this; omega
          clear he h HE HH HX
          go_wp2_with fail
          go_ret
          exact ⟨tells_no HN.out, rfl⟩
        · have HE := hide he
          have HH := hide h
          have e0 : ((k : Int) == 0) = false := beq_eq_false_iff_ne.2 (by omega)
          have e1 : ((k : Int) == (s.size : Int) - 1) = false := beq_eq_false_iff_ne.2 (by omega)
          have t0 : ¬ (s[k].toNat : Int) < 32 := by omega
          have t1 : ¬ (126 : Int) < (s[k].toNat : Int) := by omega
          have t2 : ((s[k].toNat : Int) == 32) = true := by rw [beq_iff_eq]; omega
          have HY := hide (HX.out (by unfold valAt; omega))
          clear he h HE HH HX
          go_wp2_with fail
          exact ⟨⟨k + 1, by omega, by go_num, HY.out, trivial⟩, by simp [intOf]; omega⟩
        · have HE := hide he
          have HH := hide h
          have e0 : ((k : Int) == 0) = false := beq_eq_false_iff_ne.2 (by omega)
          have e1 : ((k : Int) == (s.size : Int) - 1) = false := beq_eq_false_iff_ne.2 (by omega)
          have t0 : ¬ (s[k].toNat : Int) < 32 := by omega
          have t1 : ¬ (126 : Int) < (s[k].toNat : Int) := by omega
          have t2 : ((s[k].toNat : Int) == 32) = false := beq_eq_false_iff_ne.2 (by omega)
          have HY := hide (HX.out (by unfold valAt; omega))
          clear he h HE HH HX
          go_wp2_with fail
          exact ⟨⟨k + 1, by omega, by go_num, HY.out, trivial⟩, by simp [intOf]; omega⟩
    · have hlt' : ¬ (k : Int) < (s.size : Int) := by omega
      have HT : Hid (ValueP s ↔ s.size ≤ 40) := ⟨fun h => h.1, fun h => ⟨h, fun j hj => hno.out j hj (by omega)⟩⟩
      by_cases h40 : s.size ≤ 40
      · have t2 : (s.size : Int) ≤ 40 := by omega
        go_wp2_with fail
        go_ret
        exact ⟨tells_yes (HT.out.2 h40), rfl⟩
      · have t2 : decide ((s.size : Int) ≤ 40) = false := decide_eq_false (by omega)
        have HN : Hid (¬ ValueP s) := fun h => h40 (HT.out.1 h)
        clear h40
        go_wp2_with fail
        go_ret
        exact ⟨tells_no HN.out, rfl⟩

end Go.Proofs.YtblmdcpcekoogaaGreatDoor
