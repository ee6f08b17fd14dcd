/-
  Walks of the document's own answers: Parse.
-/
import Derived.Test.YtmjjjlanafiilaaDoorQuRefC
namespace Go.Proofs.YtmjjjlanafiilaaDoor
open Go Go.RowKit Go.Shelf

theorem name_cut {p : ByteArray} {j : Nat} (hj : j < p.size) (hno : ∀ x ∈ p.data.toList.take j, x ≠ 61) (h61 : p[j] = 61) : (p.extract 0 j).data.toList = Qu.nameOf p.data.toList ∧ (p.extract (j + 1) p.size).data.toList = Qu.valOf p.data.toList := by
  have e : p.data.toList = p.data.toList.take j ++ 61 :: p.data.toList.drop (j + 1) := by
    have h2 := drop_at p j hj
    rw [h61] at h2
    rw [← h2, List.take_append_drop]
  have ht := Qu.take_eq (b := p.data.toList.drop (j + 1)) hno
  rw [← e] at ht
  refine ⟨?_, ?_⟩
  · rw [ht.1, Lib.extract_eq]; simp
  · rw [ht.2]; exact Lib.extract_to_end p (j + 1)
theorem name_all {p : ByteArray} (hno : ∀ x ∈ p.data.toList.take p.size, x ≠ 61) : p.data.toList = Qu.nameOf p.data.toList ∧ (⟨#[]⟩ : ByteArray).data.toList = Qu.valOf p.data.toList := by
  have hl : p.data.toList.length = p.size := Array.length_toList
  rw [List.take_of_length_le (by omega)] at hno
  obtain ⟨h1, h2⟩ := name_none hno
  exact ⟨h1.symm, h2.symm⟩

/-- what the document's Parse answers -/
def RParseRes (s : ByteArray) (w : World) (e : Ending) (w' : World) : Prop :=
  ((∃ v l, e = .returned (.tuple #[v, .bool true]) ∧ Prs w' v l ∧ Qu.parse s.data.toList = some (l.map pl)) ∨ (e = .returned (.tuple #[.slice none 0 0, .bool false]) ∧ Qu.parse s.data.toList = none)) ∧ Below w.heap.size w w'

set_option maxHeartbeats 400000 in
theorem rparse_empty (s : ByteArray) (w : World) (h : s.toList.isEmpty = true) :
    Calls Tryd.prog 21 #[.string s] w (RParseRes s w) := by
  have HP : Hid (Qu.parse s.data.toList = some ([].map pl)) := by
    rw [Lib.toList_data, List.isEmpty_iff] at h
    unfold Hid
    rw [h]
    rfl
  go_enter Tryd.func21, Tryd.ntmps21
  go_wp2_with fail
  go_ret2
  exact ⟨.inl ⟨_, [], rfl, Prs.nil _, HP.out⟩, Below.refl _ _⟩

theorem parse_held (s : ByteArray) (hne : s.data.toList ≠ []) (hall : ∀ j (hj : j < (parts 38 s).length), (Qu.part (parts 38 s)[j].data.toList).isSome = true) :
    Qu.parse s.data.toList = if Qu.may ((prs s).map pl) then some ((prs s).map pl) else none := by
  have h1 : Qu.parts (D.spl 38 s.data.toList) = some ((prs s).map pl) := by
    rw [parts_iff]
    apply List.ext_getElem
    · simp [prs_len, parts_len]
    · intro j h1 h2
      have hj : j < (parts 38 s).length := by rw [parts_len]; simpa using h1
      have h := hall j hj
      rw [List.getElem_map, List.getElem_map, List.getElem_map, prs_at s j hj, ← parts_data s j hj]
      obtain ⟨p, hp⟩ := Option.isSome_iff_exists.1 h
      rw [hp, ← part_eq hp]
      rfl
  unfold Qu.parse
  rw [if_neg hne, h1]

set_option maxRecDepth 100000 in
set_option maxHeartbeats 3200000 in
theorem rparse_some (s : ByteArray) (w : World) (hs : s.size ≤ 1000) (h : s.toList.isEmpty = false) :
    Calls Tryd.prog 21 #[.string s] w (RParseRes s w) := by
  have hne : s.data.toList ≠ [] := by
    intro e
    rw [Lib.toList_data, e] at h
    cases h
  have HNE := hide hne
  clear hne
  obtain ⟨i0, hi, hz0, hz1, hz2⟩ := info_parts Tryd.infoPair
  have hcnt : (parts 38 s).length ≤ 1001 := by
    rw [parts_len]
    have := D.spl_count (c := 38) (l := s.data.toList)
    have e : s.data.toList.length = s.size := Array.length_toList
    omega
  have hpos : 0 < (parts 38 s).length := by rw [parts_len]; exact D.spl_pos _ _
  go_enter Tryd.func21, Tryd.ntmps21
  go_wp2_with fail
  refine (rsplit_any s 38 w hs).mono ?_
  rintro e w1 ⟨vp, rfl, hprow, hb1⟩
  obtain ⟨gp, cp, rfl, hgp, hcell⟩ : ∃ gp cp, vp = .slice (some ⟨gp, 0, none⟩) (parts 38 s).length cp ∧ gp < w1.heap.size ∧ ∀ k (hk : k < (parts 38 s).length), w1.cell? ⟨gp, k, none⟩ = some (.string (parts 38 s)[k]) := by
    have h0 := hprow
    rcases hprow.2 with ⟨_, h0⟩ | ⟨g, cap, cur, rfl, _, hh, _⟩
    · omega
    · refine ⟨g, cap, rfl, (Array.getElem?_eq_some_iff.1 hh).1, fun k hk => ?_⟩
      exact (ownsRow_cell h0 hk (by simp [hk])).1
  have HCELL := hide hcell
  clear hprow hcell
  go_wp2_with fail
  go_loopw [5, 6] (fun o i wr => ∃ k : Nat, k ≤ (parts 38 s).length ∧ i = .int .i64 k ∧ Hid (∀ j (hj : j < (parts 38 s).length), j < k → (Qu.part (parts 38 s)[j].data.toList).isSome = true) ∧ wr.ownsRow w1.heap.size 42 2 o k (flat ((prs s).take k)) ∧ Below w1.heap.size w1 wr) (fun _ i _ => (parts 38 s).length - (intOf i).toNat)
  case atStart => exact ⟨0, Nat.zero_le _, rfl, fun _ _ h => absurd h (by omega), World.ownsRow_nil _ _ _ _, Below.refl _ _⟩
  case round =>
    obtain ⟨k, hk, rfl, hall, hr, hB⟩ := hrel
    have HR := hide hr
    have hbs := hB.size
    clear hr
    by_cases hlt : k < (parts 38 s).length
    · have hlt' : (k : Int) < ((parts 38 s).length : Int) := by omega
      have c1 := (hB.cell (p := ⟨gp, k, none⟩) hgp).trans (HCELL.out k hlt)
      have hps := part_size 38 s hlt
      have HSN := hide (flat_snoc (prs s) k (by rw [prs_len]; exact hlt))
      rw [prs_at s k hlt] at HSN
      have HBAD := hide (parse_bad s HNE.out k hlt)
      have HALL2 : Hid ((Qu.part (parts 38 s)[k].data.toList).isSome = true → ∀ j (hj : j < (parts 38 s).length), j < k + 1 → (Qu.part (parts 38 s)[j].data.toList).isSome = true) := by
        intro h j hj hjk
        by_cases e : j = k
        · subst e; exact h
        · exact hall.out j hj (by omega)
      generalize (parts 38 s)[k] = p at *
      have CR : ∀ (y : ByteArray) (W : World), y.data.toList = Qu.nameOf p.data.toList → Calls Tryd.prog 29 #[.string y] W fun e w' => e = .returned (.tuple #[.string (pairB p).1, .bool (Qu.rd (Qu.nameOf p.data.toList)).isSome]) ∧ Below W.heap.size W w' := by
        intro y W hy
        have hz : y.size ≤ 100000 := by
          have h1 := nameOf_len p.data.toList
          rw [← hy, Array.length_toList, Array.length_toList] at h1
          exact Nat.le_trans h1 (Nat.le_trans hps (by omega))
        have := rread_any y W hz
        rw [hy, rdRes_eq] at this
        exact this
      have CV : ∀ (y : ByteArray) (W : World), y.data.toList = Qu.valOf p.data.toList → Calls Tryd.prog 29 #[.string y] W fun e w' => e = .returned (.tuple #[.string (pairB p).2, .bool (Qu.rd (Qu.valOf p.data.toList)).isSome]) ∧ Below W.heap.size W w' := by
        intro y W hy
        have hz : y.size ≤ 100000 := by
          have h1 := valOf_len p.data.toList
          rw [← hy, Array.length_toList, Array.length_toList] at h1
          exact Nat.le_trans h1 (Nat.le_trans hps (by omega))
        have := rread_any y W hz
        rw [hy, rdRes_eq] at this
        exact this
      have HPS := part_some p.data.toList
      generalize (pairB p).1 = xb at *
      generalize (pairB p).2 = yb at *
      generalize (Qu.rd (Qu.nameOf p.data.toList)).isSome = f1 at *
      generalize (Qu.rd (Qu.valOf p.data.toList)).isSome = f2 at *
      have hp9 : p.size ≤ 1000 := by omega
      cases f1
      · have HE := hide (HBAD.out (.inl (by rw [HPS]; rfl)))
        clear HBAD HALL2 HSN HPS
        go_wp2_with fail
        go_loopw [7] (fun i W => ∃ j : Nat, j ≤ p.size ∧ i = .int .i64 j ∧ Hid (∀ x ∈ p.data.toList.take j, x ≠ 61) ∧ W = wr) (fun i _ => p.size - (intOf i).toNat)
        case atStart => exact ⟨0, Nat.zero_le _, rfl, by simp [Hid], rfl⟩
        case round =>
          obtain ⟨j, hj, rfl, hno, rfl⟩ := hrel
          by_cases hjp : j < p.size
          · have hjp' : (j : Int) < (p.size : Int) := by omega
            by_cases h61 : p[j] = 61
            · obtain ⟨z1, z2⟩ := name_cut hjp hno.out h61
              have hj1 : (j : Int) + 1 ≤ (p.size : Int) := by omega
              have C1 := fun W => hide (CR (p.extract 0 j) W z1)
              have C2 := fun W => hide (CV (p.extract (j + 1) p.size) W z2)
              clear z1 z2
              go_wp2_with fail
              refine (C1 _).out.mono ?_
              rintro e w2 ⟨rfl, hb2⟩
              go_wp2_with fail
              refine (C2 _).out.mono ?_
              rintro e w3 ⟨rfl, hb3⟩
              have S3 : Below w1.heap.size w1 w3 := hB.trans ((bb2 hb2 hb3).mono hB.size)
              go_wp2_with fail
              go_ret2
              exact ⟨.inr ⟨rfl, HE.out⟩, bb2 hb1 S3⟩
            · have HN : Hid (∀ x ∈ p.data.toList.take (j + 1), x ≠ 61) := by
                intro x hx
                rw [take_snoc' p j hjp] at hx
                rcases List.mem_append.1 hx with h | h
                · exact hno.out x h
                · rw [List.mem_singleton] at h; subst h; exact h61
              generalize hpx : p[j] = px at *
              have t1 : ((px.toNat : Int) == 61) = false := beq_eq_false_iff_ne.2 (fun e => h61 (UInt8.toNat_inj.1 (by show px.toNat = 61; omega)))
              have t2 : ((px.toNat : Int) != 61) = true := by rw [bne, t1]; rfl
              clear h61
              go_wp2_with fail
              exact ⟨⟨j + 1, by omega, by go_num, HN.out, by simp⟩, by simp [intOf]; omega⟩
          · have hjp' : ¬ (j : Int) < (p.size : Int) := by omega
            obtain rfl : j = p.size := by omega
            obtain ⟨z1, z2⟩ := name_all hno.out
            have C1 := fun W => hide (CR p W z1)
            have C2 := fun W => hide (CV ⟨#[]⟩ W z2)
            clear z1 z2
            go_wp2_with fail
            refine (C1 _).out.mono ?_
            rintro e w2 ⟨rfl, hb2⟩
            go_wp2_with fail
            refine (C2 _).out.mono ?_
            rintro e w3 ⟨rfl, hb3⟩
            have S3 : Below w1.heap.size w1 w3 := hB.trans ((bb2 hb2 hb3).mono hB.size)
            go_wp2_with fail
            go_ret2
            exact ⟨.inr ⟨rfl, HE.out⟩, bb2 hb1 S3⟩
      · cases f2
        · have HE := hide (HBAD.out (.inl (by rw [HPS]; rfl)))
          clear HBAD HALL2 HSN HPS
          go_wp2_with fail
          go_loopw [7] (fun i W => ∃ j : Nat, j ≤ p.size ∧ i = .int .i64 j ∧ Hid (∀ x ∈ p.data.toList.take j, x ≠ 61) ∧ W = wr) (fun i _ => p.size - (intOf i).toNat)
          case atStart => exact ⟨0, Nat.zero_le _, rfl, by simp [Hid], rfl⟩
          case round =>
            obtain ⟨j, hj, rfl, hno, rfl⟩ := hrel
            by_cases hjp : j < p.size
            · have hjp' : (j : Int) < (p.size : Int) := by omega
              by_cases h61 : p[j] = 61
              · obtain ⟨z1, z2⟩ := name_cut hjp hno.out h61
                have hj1 : (j : Int) + 1 ≤ (p.size : Int) := by omega
                have C1 := fun W => hide (CR (p.extract 0 j) W z1)
                have C2 := fun W => hide (CV (p.extract (j + 1) p.size) W z2)
                clear z1 z2
                go_wp2_with fail
                refine (C1 _).out.mono ?_
                rintro e w2 ⟨rfl, hb2⟩
                go_wp2_with fail
                refine (C2 _).out.mono ?_
                rintro e w3 ⟨rfl, hb3⟩
                have S3 : Below w1.heap.size w1 w3 := hB.trans ((bb2 hb2 hb3).mono hB.size)
                go_wp2_with fail
                go_ret2
                exact ⟨.inr ⟨rfl, HE.out⟩, bb2 hb1 S3⟩
              · have HN : Hid (∀ x ∈ p.data.toList.take (j + 1), x ≠ 61) := by
                  intro x hx
                  rw [take_snoc' p j hjp] at hx
                  rcases List.mem_append.1 hx with h | h
                  · exact hno.out x h
                  · rw [List.mem_singleton] at h; subst h; exact h61
                generalize hpx : p[j] = px at *
                have t1 : ((px.toNat : Int) == 61) = false := beq_eq_false_iff_ne.2 (fun e => h61 (UInt8.toNat_inj.1 (by show px.toNat = 61; omega)))
                have t2 : ((px.toNat : Int) != 61) = true := by rw [bne, t1]; rfl
                clear h61
                go_wp2_with fail
                exact ⟨⟨j + 1, by omega, by go_num, HN.out, by simp⟩, by simp [intOf]; omega⟩
            · have hjp' : ¬ (j : Int) < (p.size : Int) := by omega
              obtain rfl : j = p.size := by omega
              obtain ⟨z1, z2⟩ := name_all hno.out
              have C1 := fun W => hide (CR p W z1)
              have C2 := fun W => hide (CV ⟨#[]⟩ W z2)
              clear z1 z2
              go_wp2_with fail
              refine (C1 _).out.mono ?_
              rintro e w2 ⟨rfl, hb2⟩
              go_wp2_with fail
              refine (C2 _).out.mono ?_
              rintro e w3 ⟨rfl, hb3⟩
              have S3 : Below w1.heap.size w1 w3 := hB.trans ((bb2 hb2 hb3).mono hB.size)
              go_wp2_with fail
              go_ret2
              exact ⟨.inr ⟨rfl, HE.out⟩, bb2 hb1 S3⟩
        · replace HALL2 := hide (HALL2.out (by rw [HPS]; rfl))
          clear HBAD HPS
          go_wp2_with fail
          go_loopw [7] (fun i W => ∃ j : Nat, j ≤ p.size ∧ i = .int .i64 j ∧ Hid (∀ x ∈ p.data.toList.take j, x ≠ 61) ∧ W = wr) (fun i _ => p.size - (intOf i).toNat)
          case atStart => exact ⟨0, Nat.zero_le _, rfl, by simp [Hid], rfl⟩
          case round =>
            obtain ⟨j, hj, rfl, hno, rfl⟩ := hrel
            by_cases hjp : j < p.size
            · have hjp' : (j : Int) < (p.size : Int) := by omega
              by_cases h61 : p[j] = 61
              · obtain ⟨z1, z2⟩ := name_cut hjp hno.out h61
                have hj1 : (j : Int) + 1 ≤ (p.size : Int) := by omega
                have C1 := fun W => hide (CR (p.extract 0 j) W z1)
                have C2 := fun W => hide (CV (p.extract (j + 1) p.size) W z2)
                clear z1 z2
                go_wp2_with fail
                refine (C1 _).out.mono ?_
                rintro e w2 ⟨rfl, hb2⟩
                go_wp2_with fail
                refine (C2 _).out.mono ?_
                rintro e w3 ⟨rfl, hb3⟩
                have S3 : Below w1.heap.size w1 w3 := hB.trans ((bb2 hb2 hb3).mono hB.size)
                have hr3 := ownsRow_below HR.out (bb2 hb2 hb3)
                have hs3 := S3.size
                clear hb2 hb3
                go_wp2_with (at_builtin; refine wpList_append_own _ rfl _ _ 22 rfl w1.heap.size 42 i0 (.agg #[.string ⟨#[]⟩, .string ⟨#[]⟩]) 2 32 Tryd.underlying22 hi hz0 hz1 hz2 rfl (by decide) _ _ _ rfl (hr3.alloc _) ⟨w3.heap.size, 0, none⟩ 1 1 [.string xb, .string yb] rfl rfl (World.news_of_block (heap_alloc_new _ _)) (by simp [Value.oneCell']) (by unfold maxLen; omega) (by omega) (by simp; omega) ?_; intro v' w4 hown' hgrow _)
                have S4 := (S3.alloc hs3 (.cells #[.string xb, .string yb] 42)).grown hgrow (by simp; omega) (fun j e => ownBlock_ge hr3 e)
                exact ⟨⟨k + 1, by omega, by go_num, HALL2.out, by rw [HSN.out]; exact hown', S4⟩, by simp [intOf]; omega⟩
              · have HN : Hid (∀ x ∈ p.data.toList.take (j + 1), x ≠ 61) := by
                  intro x hx
                  rw [take_snoc' p j hjp] at hx
                  rcases List.mem_append.1 hx with h | h
                  · exact hno.out x h
                  · rw [List.mem_singleton] at h; subst h; exact h61
                generalize hpx : p[j] = px at *
                have t1 : ((px.toNat : Int) == 61) = false := beq_eq_false_iff_ne.2 (fun e => h61 (UInt8.toNat_inj.1 (by show px.toNat = 61; omega)))
                have t2 : ((px.toNat : Int) != 61) = true := by rw [bne, t1]; rfl
                clear h61
                go_wp2_with fail
                exact ⟨⟨j + 1, by omega, by go_num, HN.out, by simp⟩, by simp [intOf]; omega⟩
            · have hjp' : ¬ (j : Int) < (p.size : Int) := by omega
              obtain rfl : j = p.size := by omega
              obtain ⟨z1, z2⟩ := name_all hno.out
              have C1 := fun W => hide (CR p W z1)
              have C2 := fun W => hide (CV ⟨#[]⟩ W z2)
              clear z1 z2
              go_wp2_with fail
              refine (C1 _).out.mono ?_
              rintro e w2 ⟨rfl, hb2⟩
              go_wp2_with fail
              refine (C2 _).out.mono ?_
              rintro e w3 ⟨rfl, hb3⟩
              have S3 : Below w1.heap.size w1 w3 := hB.trans ((bb2 hb2 hb3).mono hB.size)
              have hr3 := ownsRow_below HR.out (bb2 hb2 hb3)
              have hs3 := S3.size
              clear hb2 hb3
              go_wp2_with (at_builtin; refine wpList_append_own _ rfl _ _ 22 rfl w1.heap.size 42 i0 (.agg #[.string ⟨#[]⟩, .string ⟨#[]⟩]) 2 32 Tryd.underlying22 hi hz0 hz1 hz2 rfl (by decide) _ _ _ rfl (hr3.alloc _) ⟨w3.heap.size, 0, none⟩ 1 1 [.string xb, .string yb] rfl rfl (World.news_of_block (heap_alloc_new _ _)) (by simp [Value.oneCell']) (by unfold maxLen; omega) (by omega) (by simp; omega) ?_; intro v' w4 hown' hgrow _)
              have S4 := (S3.alloc hs3 (.cells #[.string xb, .string yb] 42)).grown hgrow (by simp; omega) (fun j e => ownBlock_ge hr3 e)
              exact ⟨⟨k + 1, by omega, by go_num, HALL2.out, by rw [HSN.out]; exact hown', S4⟩, by simp [intOf]; omega⟩
    · have hlt' : ¬ (k : Int) < ((parts 38 s).length : Int) := by omega
      obtain rfl : k = (parts 38 s).length := by omega
      have HPH := hide (parse_held s HNE.out (fun j hj => hall.out j hj hj))
      have hq : Prs wr u5 (prs s) := Prs.of_row (prs_len s).symm (by
        have h2 := HR.out
        rw [← prs_len, List.take_length] at h2
        rw [← prs_len]
        exact h2)
      have hok : ∀ p ∈ prs s, okP p := by
        intro p hp
        obtain ⟨q, hq, rfl⟩ := List.mem_map.1 hp
        obtain ⟨i, hi, rfl⟩ := List.getElem_of_mem hq
        have h1 := part_size 38 s hi
        have h2 := pairB_len (parts 38 s)[i]
        unfold okP maxLen
        omega
      have RM := hide (rmay_any u5 (prs s) wr hq hok)
      cases hm : Qu.may ((prs s).map pl)
      · rw [hm] at HPH RM
        go_wp2_with fail
        refine RM.out.mono ?_
        rintro e w2 ⟨rfl, rfl⟩
        go_wp2_with fail
        go_ret2
        exact ⟨.inr ⟨rfl, HPH.out⟩, bb2 hb1 hB⟩
      · rw [hm] at HPH RM
        go_wp2_with fail
        refine RM.out.mono ?_
        rintro e w2 ⟨rfl, rfl⟩
        go_wp2_with fail
        go_ret2
        exact ⟨.inl ⟨_, prs s, rfl, hq, HPH.out⟩, bb2 hb1 hB⟩

theorem rparse_yes (s : ByteArray) (l : List PairB) (w : World) (hs : s.size ≤ 1000) (h : Qu.parse s.data.toList = some (l.map pl)) :
    Calls Tryd.prog 21 #[.string s] w fun e w' => ∃ v, e = .returned (.tuple #[v, .bool true]) ∧ Prs w' v l ∧ Below w.heap.size w w' := by
  have hany : Calls Tryd.prog 21 #[.string s] w (RParseRes s w) := by
    cases h : s.toList.isEmpty
    · exact rparse_some s w hs h
    · exact rparse_empty s w h
  refine hany.mono ?_
  rintro e w' ⟨⟨v, l', rfl, hv, hp⟩ | ⟨_, hp⟩, hb⟩
  · rw [h] at hp
    obtain rfl := map_pl_inj (Option.some.inj hp)
    exact ⟨v, rfl, hv, hb⟩
  · rw [h] at hp; cases hp
theorem rparse_no (s : ByteArray) (w : World) (hs : s.size ≤ 1000) (h : Qu.parse s.data.toList = none) :
    Calls Tryd.prog 21 #[.string s] w fun e w' => e = .returned (.tuple #[.slice none 0 0, .bool false]) ∧ Below w.heap.size w w' := by
  have hany : Calls Tryd.prog 21 #[.string s] w (RParseRes s w) := by
    cases h : s.toList.isEmpty
    · exact rparse_some s w hs h
    · exact rparse_empty s w h
  refine hany.mono ?_
  rintro e w' ⟨⟨v, l', rfl, hv, hp⟩ | ⟨he, _⟩, hb⟩
  · rw [h] at hp; cases hp
  · exact ⟨he, hb⟩

end Go.Proofs.YtmjjjlanafiilaaDoor
