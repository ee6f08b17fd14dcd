/-
  Walks: Drop, All, Add.
-/
import Derived.Test.YtblmdcpcekoogaaGreatDoorPbWalkA
import Derived.Test.YtblmdcpcekoogaaGreatDoorApp
namespace Go.Proofs.YtblmdcpcekoogaaGreatDoor
set_option maxRecDepth 20000
open Go Go.RowKit Go.Shelf

abbrev dropQ (l : List PairB) (n : ByteArray) : List PairB := Pb.dropP foldB l n
abbrev allQ (l : List PairB) (n : ByteArray) : List ByteArray := Pb.allP foldB l n
theorem drop_yes (l : List PairB) (n : ByteArray) (k : Nat) (h : k < l.length) (hs : sameF n l[k].1 = true) : dropQ (l.take (k + 1)) n = dropQ (l.take k) n := by
  rw [List.take_succ_eq_append_getElem h, dropQ, Pb.drop_snoc, Pb.sm_comm, if_pos hs, List.append_nil]
theorem drop_not (l : List PairB) (n : ByteArray) (k : Nat) (h : k < l.length) (hs : sameF n l[k].1 = false) : dropQ (l.take (k + 1)) n = dropQ (l.take k) n ++ [(l[k].1, l[k].2)] := by
  rw [List.take_succ_eq_append_getElem h, dropQ, Pb.drop_snoc, Pb.sm_comm, if_neg (by show ¬ sameF n l[k].1 = true; rw [hs]; decide)]
theorem drop_le (l : List PairB) (n : ByteArray) (k : Nat) : (dropQ (l.take k) n).length ≤ k := by
  have h1 : (dropQ (l.take k) n).length ≤ (l.take k).length := List.length_filter_le _ _
  have h2 : (l.take k).length ≤ k := by simp; omega
  omega

/-- a list that is a row of one's own -/
def RowP (w : World) (v : Value) (l : List PairB) : Prop := ∃ b, w.ownsRow b 83 2 v l.length (flat l)
theorem RowP.mk {w : World} {b n : Nat} {v : Value} {l : List PairB} (hn : n = l.length) (h : w.ownsRow b 83 2 v n (flat l)) : RowP w v l := ⟨b, by rw [← hn]; exact h⟩
theorem RowP.prs {w : World} {v : Value} {l : List PairB} (h : RowP w v l) : Prs w v l := by
  obtain ⟨b, h⟩ := h
  exact Prs.of_row rfl h
set_option maxHeartbeats 800000 in
theorem drop_own (n : ByteArray) (v : Value) (l : List PairB) (w : World) (hn : n.size ≤ maxLen) (hv : Prs w v l) (hok : ∀ p ∈ l, okP p) (hl : l.length ≤ 1000) :
    Calls Tryz.prog 135 #[v, .string n] w fun e w' => ∃ v', e = .returned v' ∧ RowP w' v' (dropQ l n) ∧ Below w.heap.size w w' := by
  obtain ⟨a, cap, rfl, _, _, hc⟩ := hv
  have HC := hide hc
  have HOK := hide hok
  clear hc hok
  go_enter Tryz.func135, Tryz.ntmps135
  go_wp2_with fail
  refine (field_any _ _).mono ?_
  rintro e w1 ⟨rfl, hb1⟩
  go_wp2_with fail
  go_loopw [6, 13] (fun o i wr => ∃ k : Nat, k ≤ l.length ∧ i = .int .i64 k ∧ wr.ownsRow (w1.heap.size + 1) 83 2 o (dropQ (l.take k) n).length (flat (dropQ (l.take k) n)) ∧ Below (w1.alloc (.cells #[.string n, .func (.func 190) #[] #[]] 201)).heap.size (w1.alloc (.cells #[.string n, .func (.func 190) #[] #[]] 201)) wr) (fun _ i _ => l.length - (intOf i).toNat)
  case atStart => exact ⟨0, Nat.zero_le _, rfl, World.ownsRow_nil _ _ _ _, Below.refl _ _⟩
  case round =>
    obtain ⟨k, hk, rfl, hr, hB⟩ := hrel
    have hW := bb2 hb1 (below_box hB)
    have hbs := hB.size
    simp at hbs
    have HR := hide hr
    clear hr
    by_cases hlt : k < l.length
    · have hlt' : (k : Int) < (l.length : Int) := by omega
      obtain ⟨g, off, rfl, hg, c1, c2⟩ := HC.out k hlt
      replace c1 := (hW.cell (p := ⟨g, off + k * 2, none⟩) hg).trans c1
      replace c2 := (hW.cell (p := ⟨g, off + k * 2 + 1, none⟩) hg).trans c2
      obtain ⟨o1, o2⟩ := HOK.out _ (List.getElem_mem hlt)
      cases hs : sameF n l[k].1
      · have HS := hide hs
        have HN := hide (drop_not l n k hlt hs)
        have hle := drop_le l n k
        clear hs
        generalize l[k].1 = p1 at *
        generalize l[k].2 = p2 at *
        have b1 := box_fst (hB.alloc hB.size (.cells #[.string p1, .string p2] 83))
        have b2 := box_snd (hB.alloc hB.size (.cells #[.string p1, .string p2] 83))
        go_wp2_with fail
        refine (is_any cmp_same _ _ _ _ hn o1).mono ?_
        rintro e w2 ⟨rfl, hb2⟩
        have d1 := box_fst hb2
        have d2 := box_snd hb2
        have hb3 := below_box hb2
        have hbs2 := hb3.size
        clear hb2
        rw [HS.out]
        go_wp2_with (at_builtin; refine wpList_append_prs _ _ _ rfl (by rfl) (w1.heap.size + 1) _ _ _ rfl (ownsRow_below (ownsRow_below HR.out hb3) ((Below.refl _ _).alloc (Nat.le_refl _) _)) _ _ rfl (Prs.at1 w2 _ rfl p1 p2) (by simp; omega) (by simp; omega) ?_; intro v' w3 hown' hgrow)
        refine ⟨⟨k + 1, by omega, by go_num, by rw [HN.out, List.length_append]; exact hown', ?_⟩, by simp [intOf]; omega⟩
        refine ((hB.trans (hb3.mono hB.size)).alloc (by simp; omega) _).grown hgrow (by simp; omega) (fun j e => ?_)
        have := ownBlock_ge HR.out e
        simpa using this
      · have HS := hide hs
        have HN := hide (drop_yes l n k hlt hs)
        clear hs
        generalize l[k].1 = p1 at *
        generalize l[k].2 = p2 at *
        have b1 := box_fst (hB.alloc hB.size (.cells #[.string p1, .string p2] 83))
        have b2 := box_snd (hB.alloc hB.size (.cells #[.string p1, .string p2] 83))
        go_wp2_with fail
        refine (is_any cmp_same _ _ _ _ hn o1).mono ?_
        rintro e w2 ⟨rfl, hb2⟩
        have hb3 := below_box hb2
        rw [HS.out]
        go_wp2_with fail
        exact ⟨⟨k + 1, by omega, by go_num, by rw [HN.out]; exact ownsRow_below HR.out hb3, hB.trans (hb3.mono hB.size)⟩, by simp [intOf]; omega⟩
    · have hlt' : ¬ (k : Int) < (l.length : Int) := by omega
      have hp : RowP wr u6 (dropQ l n) := by
        have := RowP.mk rfl HR.out
        rwa [List.take_of_length_le (by omega)] at this
      go_wp2_with fail
      go_ret
      exact ⟨_, rfl, hp, hW⟩

theorem drop_any (n : ByteArray) (v : Value) (l : List PairB) (w : World) (hn : n.size ≤ maxLen) (hv : Prs w v l) (hok : ∀ p ∈ l, okP p) (hl : l.length ≤ 1000) :
    Calls Tryz.prog 135 #[v, .string n] w fun e w' => ∃ v', e = .returned v' ∧ Prs w' v' (dropQ l n) ∧ Below w.heap.size w w' :=
  (drop_own n v l w hn hv hok hl).mono fun _ _ ⟨v', he, hr, hb⟩ => ⟨v', he, hr.prs, hb⟩

theorem all_not (l : List PairB) (n : ByteArray) (k : Nat) (h : k < l.length) (hs : sameF n l[k].1 = false) : allQ (l.take (k + 1)) n = allQ (l.take k) n := by
  rw [List.take_succ_eq_append_getElem h, allQ, Pb.all_snoc, Pb.sm_comm, if_neg (by show ¬ sameF n l[k].1 = true; rw [hs]; decide), List.append_nil]
theorem all_yes (l : List PairB) (n : ByteArray) (k : Nat) (h : k < l.length) (hs : sameF n l[k].1 = true) : allQ (l.take (k + 1)) n = allQ (l.take k) n ++ [l[k].2] := by
  rw [List.take_succ_eq_append_getElem h, allQ, Pb.all_snoc, Pb.sm_comm, if_pos hs]
theorem all_le (l : List PairB) (n : ByteArray) (k : Nat) : (allQ (l.take k) n).length ≤ k := by
  have h1 : (allQ (l.take k) n).length ≤ (l.take k).length := by
    unfold allQ Pb.allP
    rw [List.length_map]
    exact List.length_filter_le _ _
  have h2 : (l.take k).length ≤ k := by simp; omega
  omega

set_option maxHeartbeats 800000 in
theorem add_any (n x : ByteArray) (v : Value) (l : List PairB) (w : World) (hv : Prs w v l) (hl : l.length ≤ 1000) :
    Calls Tryz.prog 134 #[v, .string n, .string x] w fun e w' => ∃ v', e = .returned v' ∧ w'.ownsRow w.heap.size 83 2 v' (l.length + 1) (flat (l ++ [(n, x)])) ∧ Below w.heap.size w w' := by
  obtain ⟨i0, hi, hz0, hz1, hz2⟩ := info_parts Tryz.infoPair
  have HV := hide hv
  obtain ⟨a, cap, rfl, _, _, hc⟩ := hv
  clear hc
  go_enter Tryz.func134, Tryz.ntmps134
  go_wp2_with (first | (at_make; refine wpList_make_own _ rfl _ _ 25 rfl w.heap.size 83 i0 (.agg #[.string ⟨#[]⟩, .string ⟨#[]⟩]) 2 Tryz.underlying25 hi hz0 hz1 .i64 .i64 _ (l.length + 1) rfl rfl (by push_cast; rfl) (by rw [hz2]; omega) (by unfold maxLen; omega) (Nat.le_refl _) ?_; intro wm hrm hgm; have hBm : Below w.heap.size w wm := (Below.refl _ _).grown hgm (Nat.le_refl _) (fun j e => by cases e); have HRM := hide hrm; clear hrm) | (at_builtin; refine wpList_append_prs _ _ _ rfl (by rfl) w.heap.size _ 0 [] rfl HRM.out _ l rfl (HV.out.below hBm) (by omega) hBm.size ?_; intro v1 w1 hown1 hgrow1; have hB1 := hBm.grown hgrow1 hBm.size (fun j e => ownBlock_ge HRM.out e); have HR1 := hide hown1; clear hown1) | (at_builtin; refine wpList_append_prs _ _ _ rfl (by rfl) w.heap.size _ (0 + l.length) _ rfl (ownsRow_below HR1.out ((Below.refl _ _).alloc (Nat.le_refl _) _)) _ _ rfl (Prs.at1 w1 _ rfl n x) (by simp; omega) (by have := hB1.size; simp; omega) ?_; intro v2 w2 hown2 hgrow2))
  go_ret
  refine ⟨_, rfl, ?_, (hB1.alloc hB1.size _).grown hgrow2 (by have := hB1.size; simp; omega) (fun j e => ownBlock_ge HR1.out e)⟩
  simpa using hown2

end Go.Proofs.YtblmdcpcekoogaaGreatDoor
