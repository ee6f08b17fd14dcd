/-
  Walks of the document's own answers: Split (of layer 1), at a text of at most 1000 octets.
-/
import Derived.Test.YtphinklnbjpohaaGreatDoorWalkC
import Derived.BigRegion
namespace Go.Proofs.YtphinklnbjpohaaGreatDoor
set_option maxRecDepth 20000
open Go Go.RowKit Go.Shelf

/-- the parts, when one octet more has come -/
theorem spl_snoc_at (c : UInt8) (l : List UInt8) : D.spl c (l ++ [c]) = D.spl c l ++ [[]] := by
  induction l with
  | nil => simp [D.spl]
  | cons a r ih =>
    have hne := D.spl_ne c r
    rw [List.cons_append]
    conv => lhs; unfold D.spl
    conv => rhs; lhs; unfold D.spl
    rw [ih]
    split
    · simp
    · cases hs : D.spl c r with
      | nil => exact absurd hs hne
      | cons q t => simp
theorem spl_snoc_ne {c x : UInt8} (hx : x ≠ c) {l : List UInt8} {qs : List (List UInt8)} {q : List UInt8} (h : D.spl c l = qs ++ [q]) : D.spl c (l ++ [x]) = qs ++ [q ++ [x]] := by
  induction l generalizing qs q with
  | nil =>
    simp [D.spl] at h
    obtain ⟨rfl, rfl⟩ : qs = [] ∧ q = [] := by
      cases qs with
      | nil => simp at h; exact ⟨rfl, h⟩
      | cons a b => simp at h
    simp [D.spl, hx]
  | cons a r ih =>
    have hne := D.spl_ne c r
    obtain ⟨qs', q', hr⟩ : ∃ qs' q', D.spl c r = qs' ++ [q'] := ⟨(D.spl c r).dropLast, (D.spl c r).getLast hne, (List.dropLast_concat_getLast hne).symm⟩
    have ih' := ih hr
    rw [List.cons_append]
    unfold D.spl at h ⊢
    rw [ih']
    rw [hr] at h
    split
    · rename_i e
      rw [if_pos e] at h
      have h' : ([] :: qs') ++ [q'] = qs ++ [q] := by rw [← h]; simp
      obtain ⟨e1, e2⟩ := List.append_inj' h' rfl
      rw [← e1]
      simp at e2
      subst e2
      simp
    · rename_i e
      rw [if_neg e] at h
      cases qs' with
      | nil =>
        simp at h
        obtain ⟨rfl, rfl⟩ : qs = [] ∧ q = a :: q' := by
          cases qs with
          | nil => simp at h; exact ⟨rfl, h.symm⟩
          | cons y z => simp at h
        simp
      | cons y z =>
        simp at h
        have h' : ((a :: y) :: z) ++ [q'] = qs ++ [q] := by rw [← h]; simp
        obtain ⟨e1, e2⟩ := List.append_inj' h' rfl
        rw [← e1]
        simp at e2
        subst e2
        simp

theorem spl_last (c : UInt8) (l : List UInt8) : ∃ qs q, D.spl c l = qs ++ [q] :=
  ⟨(D.spl c l).dropLast, (D.spl c l).getLast (D.spl_ne c l), (List.dropLast_concat_getLast (D.spl_ne c l)).symm⟩

abbrev txtV (l : List UInt8) : Value := .string ⟨l.toArray⟩

set_option maxHeartbeats 1600000 in
theorem rsplit_any (s : ByteArray) (c : UInt8) (w : World) (hs : s.size ≤ 1000) :
    Calls Tryz.prog 132 #[.string s, .int .u8 (c.toNat : Int)] w fun e w' => ∃ v, e = .returned v ∧ w'.ownsRow w.heap.size 9 1 v (parts c s).length ((parts c s).map Value.string) ∧ Below w.heap.size w w' := by
  obtain ⟨i0, hi, hz0, hz1, hz2⟩ := info_parts Tryz.info9
  have hsl : s.data.toList.length = s.size := Array.length_toList
  have HSL := hide hsl
  clear hsl
  go_enter Tryz.func132, Tryz.ntmps132
  go_wp2_with fail
  go_loopw [5, 6] (fun o i wr => ∃ (k : Nat) (qs : List (List UInt8)) (q : List UInt8) (g cap : Nat), k ≤ s.size ∧ i = .int .i64 k ∧ o = .slice (some ⟨g, 0, none⟩) (qs.length + 1) cap ∧
      Hid (D.spl c (s.data.toList.take k) = qs ++ [q]) ∧ wr.ownsRow w.heap.size 9 1 (.slice (some ⟨g, 0, none⟩) (qs.length + 1) cap) (qs.length + 1) ((qs ++ [q]).map txtV) ∧ Below w.heap.size w wr) (fun _ i _ => s.size - (intOf i).toNat)
  case atStart =>
    refine ⟨0, [], [], w.heap.size, 1, Nat.zero_le _, rfl, rfl, rfl, ?_, (Below.refl _ _).alloc (Nat.le_refl _) _⟩
    refine ⟨rfl, Or.inr ⟨w.heap.size, 1, _, rfl, Nat.le_refl _, World.alloc_heap_new w _, Nat.le_refl _, by decide, rfl, rfl⟩⟩
  case round =>
    obtain ⟨k, qs, q, g, cap, hk, rfl, rfl, hspl, hrow, hB⟩ := hrel
    by_cases hlt : k < s.size
    · have hlt' : (k : Int) < (s.size : Int) := by omega
      have hcnt : qs.length + 1 ≤ 1001 := by
        have := D.spl_count (c := c) (l := s.data.toList.take k)
        rw [hspl.out] at this
        simp at this
        have h2 := HSL.out
        omega
      have hqs : q.length ≤ 1000 := by
        have := D.spl_len (c := c) (l := s.data.toList.take k) q (by rw [hspl.out]; simp)
        have h2 := HSL.out
        simp at this
        omega
      by_cases hc : s[k] = c
      · have t1 : ((s[k].toNat : Int) == (c.toNat : Int)) = true := by rw [hc]; simp
        have hnew := hide (spl_snoc_at c (s.data.toList.take k))
        have HC := hide hc
        have hts := hide (take_snoc' s k hlt)
        clear hc
        go_wp2_with (at_builtin; refine wpList_append_own _ rfl _ _ 51 rfl w.heap.size 9 i0 (.string ⟨#[]⟩) 1 16 Tryz.underlying51 hi hz0 hz1 hz2 rfl (by decide) _ _ _ rfl (hrow.alloc _) ⟨wr.heap.size, 0, none⟩ 1 1 [.string ⟨#[]⟩] rfl rfl (cell_one_new _ _ _) (by simp [Value.oneCell']) (by unfold maxLen; omega) (by omega) (by have := hB.size; simp; omega) ?_; intro v' w2 hown' hgrow _; obtain ⟨g', cap', rfl⟩ := ownsRow_succ hown')
        have hB2 : Below w.heap.size w w2 := (hB.alloc hB.size _).grown hgrow (by have := hB.size; simp; omega) (fun j e => ownBlock_ge hrow e)
        have hlen : (qs ++ [q]).length = qs.length + 1 := by simp
        refine ⟨⟨k + 1, qs ++ [q], [], g', cap', by omega, by go_num, by rw [hlen], ?_, ?_, hB2⟩, by simp [intOf]; omega⟩
        · unfold Hid
          rw [hts.out, HC.out, hnew.out, hspl.out]
        · rw [hlen, List.map_append]
          exact hown'
      · have t1 : ((s[k].toNat : Int) == (c.toNat : Int)) = false := beq_eq_false_iff_ne.2 (fun e => hc (UInt8.toNat_inj.1 (by omega)))
        have hnew := hide (spl_snoc_ne hc hspl.out)
        have hts := hide (take_snoc' s k hlt)
        obtain ⟨c1, cf, hgb⟩ := ownsRow_cell hrow (j := qs.length) (by omega) (u := txtV q) (by simp)
        have hqz : (⟨q.toArray⟩ : ByteArray).size = q.length := by show q.toArray.size = _; simp
        have hex : (s.extract k (k + 1)).size = 1 := by rw [ByteArray.size_extract]; omega
        have hset := fun u => ownsRow_set_at (j := qs.length) hrow u
        have HSET := hide hset
        have HROW := hide hrow
        have hm : qs.length ≤ 1000 := by omega
        clear hset hrow hc
        generalize hqq : (⟨q.toArray⟩ : ByteArray) = qb at *
        go_wp2_with fail
        go_region
        go_wp2_with fail
        have hcat : qb ++ s.extract k (k + 1) = ⟨(q ++ [s[k]]).toArray⟩ := by
          apply bytes_ext
          rw [app_data, ← hqq, Lib.extract_data]
          have hd : (s.data.toList.drop k).take (k + 1 - k) = [s[k]] := by
            rw [List.drop_eq_getElem_cons (by rw [HSL.out]; exact hlt), Nat.add_sub_cancel_left]
            rfl
          rw [hd]
        have hrow2 := HSET.out (.string (qb ++ s.extract k (k + 1)))
        rw [hcat] at hrow2
        have hl2 : (List.map txtV (qs ++ [q])).set qs.length (txtV (q ++ [s[k]])) = List.map txtV (qs ++ [q ++ [s[k]]]) := by
          rw [List.map_append, List.map_append, List.set_append_right _ _ (by simp)]
          simp
        rw [hl2] at hrow2
        rw [hcat]
        refine ⟨⟨k + 1, qs, q ++ [s[k]], g, cap, by omega, by go_num, rfl, ?_, ?_, (hB.setCell (p := ⟨g, qs.length, none⟩) hgb _).drew⟩, by simp [intOf]; omega⟩
        · unfold Hid
          rw [hts.out, hnew.out]
        · exact ownsRow_drew hrow2
    · have hlt' : ¬ (k : Int) < (s.size : Int) := by omega
      have hfin : (parts c s).map Value.string = List.map txtV (qs ++ [q]) := by
        have := hspl.out
        rw [List.take_of_length_le (by rw [HSL.out]; omega)] at this
        unfold parts
        rw [this, List.map_map]
        rfl
      have hfl : (parts c s).length = qs.length + 1 := by
        have := congrArg List.length hfin
        simp at this
        exact this
      have hend : Hid (wr.ownsRow w.heap.size 9 1 (.slice (some ⟨g, 0, none⟩) (qs.length + 1) cap) (parts c s).length ((parts c s).map Value.string)) := by
        unfold Hid; rw [hfin, hfl]; exact hrow
      clear hfin hfl hrow
      go_wp2_with fail
      go_ret
      exact ⟨_, rfl, hend.out, hB⟩

end Go.Proofs.YtphinklnbjpohaaGreatDoor
