/-
  Walks: Plain, mayPair, May (of package query), and the document's Plain, May, Same; a slice of pairs.
-/
import Derived.Test.YtmjjjlanafiilaaDoorCore
import Derived.Test.YtmjjjlanafiilaaDoorWalkE
import Derived.Test.YtmjjjlanafiilaaDoorQuPlain
namespace Go.Proofs.YtmjjjlanafiilaaDoor
open Go Go.RowKit Go.Shelf

/-- a name and a value, as texts -/
abbrev PairB := ByteArray × ByteArray
def okP (p : PairB) : Prop := p.1.size ≤ maxLen ∧ p.2.size ≤ maxLen
def pl (p : PairB) : Qu.PairL := (p.1.data.toList, p.2.data.toList)

/-- a slice of pairs: each pair has two cells -/
def Prs (w : World) (v : Value) (l : List PairB) : Prop :=
  ∃ a cap, v = .slice a l.length cap ∧ l.length ≤ cap ∧ cap ≤ maxLen ∧
    ∀ i (h : i < l.length), ∃ g off, a = some ⟨g, off, none⟩ ∧ g < w.heap.size ∧ w.cell? ⟨g, off + i * 2, none⟩ = some (.string l[i].1) ∧ w.cell? ⟨g, off + i * 2 + 1, none⟩ = some (.string l[i].2)

theorem Prs.below {w w' : World} {v : Value} {l : List PairB} (h : Prs w v l) (hb : Below w.heap.size w w') : Prs w' v l := by
  obtain ⟨a, cap, hv, h1, h2, hc⟩ := h
  refine ⟨a, cap, hv, h1, h2, fun i hi => ?_⟩
  obtain ⟨g, off, hg, hlt, c1, c2⟩ := hc i hi
  exact ⟨g, off, hg, Nat.lt_of_lt_of_le hlt hb.size, (hb.cell (p := ⟨g, off + i * 2, none⟩) hlt).trans c1, (hb.cell (p := ⟨g, off + i * 2 + 1, none⟩) hlt).trans c2⟩
theorem Prs.nil (w : World) : Prs w (.slice none 0 0) [] := ⟨none, 0, rfl, Nat.le_refl _, Nat.zero_le _, fun i hi => absurd hi (by simp)⟩
theorem Prs.len {w : World} {v : Value} {l : List PairB} (h : Prs w v l) : l.length ≤ 9223372036854775807 := by
  obtain ⟨_, _, _, h1, h2, _⟩ := h
  unfold maxLen at h2
  omega

theorem below_box {w w1 : World} {o : Obj} (h : Below (w.alloc o).heap.size (w.alloc o) w1) : Below w.heap.size w w1 :=
  ((Below.refl _ _).alloc (Nat.le_refl _) _).trans (h.mono (by simp))

/-! ### which octets are plain -/
theorem strings_indexByte (s : ByteArray) (c : UInt8) (w : World) :
    Calls Tryd.prog 24 #[.string s, .int .u8 (c.toNat : Int)] w fun e w' => e = .returned (.int .i64 (Lib.indexByte s.data.toList c)) ∧ w' = w := by
  have hx := indexByte_any s (c.toNat : Int) w
  have hc : ((c.toNat : Int).toNat).toUInt8 = c := by simp
  rw [hc] at hx
  go_enter Tryd.func24, Tryd.ntmps24
  go_wp2_with fail
  refine hx.mono ?_
  rintro e w' ⟨rfl, rfl⟩
  go_wp2_with fail
  go_ret
  exact ⟨rfl, rfl⟩

theorem sign_idx (c : UInt8) : decide (0 ≤ Lib.indexByte [45, 46, 95, 126] c) = (c == 45 || c == 46 || c == 95 || c == 126) := by
  by_cases h1 : c = 45
  · subst h1; decide
  by_cases h2 : c = 46
  · subst h2; decide
  by_cases h3 : c = 95
  · subst h3; decide
  by_cases h4 : c = 126
  · subst h4; decide
  have e1 : ¬ (45 : UInt8) = c := fun e => h1 e.symm
  have e2 : ¬ (46 : UInt8) = c := fun e => h2 e.symm
  have e3 : ¬ (95 : UInt8) = c := fun e => h3 e.symm
  have e4 : ¬ (126 : UInt8) = c := fun e => h4 e.symm
  simp [Lib.indexByte, e1, e2, e3, e4, h1, h2, h3, h4]

theorem u8_eq (c d : UInt8) : (c == d) = (c.toNat == d.toNat) := by
  rw [Bool.eq_iff_iff, beq_iff_eq, beq_iff_eq]
  exact ⟨fun h => by rw [h], fun h => UInt8.toNat_inj.1 h⟩

set_option maxHeartbeats 400000 in
theorem qplain_any (c : UInt8) (w : World) :
    Calls Tryd.prog 14 #[.int .u8 (c.toNat : Int)] w fun e w' => e = .returned (.bool (Qu.plainO c)) ∧ w' = w := by
  have hc8 := c.toNat_lt
  by_cases hy : (97 ≤ c.toNat ∧ c.toNat ≤ 122) ∨ (65 ≤ c.toNat ∧ c.toNat ≤ 90) ∨ (48 ≤ c.toNat ∧ c.toNat ≤ 57)
  · have HP : Hid (Qu.plainO c = true) := by
      unfold Hid Qu.plainO Qu.plainN
      simp only [Bool.or_eq_true, Bool.and_eq_true, decide_eq_true_eq]
      rcases hy with h | h | h
      · exact .inl (.inl (.inl (.inl (.inl (.inl h)))))
      · exact .inl (.inl (.inl (.inl (.inl (.inr h)))))
      · exact .inl (.inl (.inl (.inl (.inr h))))
    rcases hy with ⟨h1, h2⟩ | ⟨h1, h2⟩ | ⟨h1, h2⟩
    · have a1 : (97 : Int) ≤ (c.toNat : Int) := by omega
      have a2 : (c.toNat : Int) ≤ 122 := by omega
      go_enter Tryd.func14, Tryd.ntmps14
      go_wp2_with fail
      go_ret
      exact ⟨ret_bool HP.out.symm, rfl⟩
    · have a1 : ¬ (97 : Int) ≤ (c.toNat : Int) := by omega
      have a2 : (65 : Int) ≤ (c.toNat : Int) := by omega
      have a3 : (c.toNat : Int) ≤ 90 := by omega
      go_enter Tryd.func14, Tryd.ntmps14
      go_wp2_with fail
      go_ret
      exact ⟨ret_bool HP.out.symm, rfl⟩
    · have a1 : ¬ (97 : Int) ≤ (c.toNat : Int) := by omega
      have a2 : ¬ (65 : Int) ≤ (c.toNat : Int) := by omega
      have a3 : (48 : Int) ≤ (c.toNat : Int) := by omega
      have a4 : (c.toNat : Int) ≤ 57 := by omega
      go_enter Tryd.func14, Tryd.ntmps14
      go_wp2_with fail
      go_ret
      exact ⟨ret_bool HP.out.symm, rfl⟩
  · have HP : Hid (decide (0 ≤ Lib.indexByte (⟨#[45, 46, 95, 126]⟩ : ByteArray).data.toList c) = Qu.plainO c) := by
      unfold Hid
      refine (sign_idx c).trans ?_
      unfold Qu.plainO Qu.plainN
      rw [u8_eq, u8_eq, u8_eq, u8_eq]
      have e1 : (decide (97 ≤ c.toNat) && decide (c.toNat ≤ 122)) = false := by rw [← Bool.decide_and, decide_eq_false_iff_not]; exact fun h => hy (.inl h)
      have e2 : (decide (65 ≤ c.toNat) && decide (c.toNat ≤ 90)) = false := by rw [← Bool.decide_and, decide_eq_false_iff_not]; exact fun h => hy (.inr (.inl h))
      have e3 : (decide (48 ≤ c.toNat) && decide (c.toNat ≤ 57)) = false := by rw [← Bool.decide_and, decide_eq_false_iff_not]; exact fun h => hy (.inr (.inr h))
      rw [e1, e2, e3]
      simp
    by_cases h97 : 97 ≤ c.toNat
    · have a1 : (97 : Int) ≤ (c.toNat : Int) := by omega
      have a2 : ¬ (c.toNat : Int) ≤ 122 := by omega
      have a3 : (65 : Int) ≤ (c.toNat : Int) := by omega
      have a4 : ¬ (c.toNat : Int) ≤ 90 := by omega
      have a5 : (48 : Int) ≤ (c.toNat : Int) := by omega
      have a6 : ¬ (c.toNat : Int) ≤ 57 := by omega
      go_enter Tryd.func14, Tryd.ntmps14
      go_wp2_with fail
      refine (strings_indexByte _ _ _).mono ?_
      rintro e x ⟨rfl, hx⟩
      subst x
      go_wp2_with fail
      go_ret
      exact ⟨ret_bool HP.out, rfl⟩
    · have a1 : ¬ (97 : Int) ≤ (c.toNat : Int) := by omega
      by_cases h65 : 65 ≤ c.toNat
      · have a3 : (65 : Int) ≤ (c.toNat : Int) := by omega
        have a4 : ¬ (c.toNat : Int) ≤ 90 := by omega
        have a5 : (48 : Int) ≤ (c.toNat : Int) := by omega
        have a6 : ¬ (c.toNat : Int) ≤ 57 := by omega
        go_enter Tryd.func14, Tryd.ntmps14
        go_wp2_with fail
        refine (strings_indexByte _ _ _).mono ?_
        rintro e x ⟨rfl, hx⟩
        subst x
        go_wp2_with fail
        go_ret
        exact ⟨ret_bool HP.out, rfl⟩
      · have a3 : ¬ (65 : Int) ≤ (c.toNat : Int) := by omega
        by_cases h48 : 48 ≤ c.toNat
        · have a5 : (48 : Int) ≤ (c.toNat : Int) := by omega
          have a6 : ¬ (c.toNat : Int) ≤ 57 := by omega
          go_enter Tryd.func14, Tryd.ntmps14
          go_wp2_with fail
          refine (strings_indexByte _ _ _).mono ?_
          rintro e x ⟨rfl, hx⟩
          subst x
          go_wp2_with fail
          go_ret
          exact ⟨ret_bool HP.out, rfl⟩
        · have a5 : ¬ (48 : Int) ≤ (c.toNat : Int) := by omega
          go_enter Tryd.func14, Tryd.ntmps14
          go_wp2_with fail
          refine (strings_indexByte _ _ _).mono ?_
          rintro e x ⟨rfl, hx⟩
          subst x
          go_wp2_with fail
          go_ret
          exact ⟨ret_bool HP.out, rfl⟩

/-! ### which pairs may be -/
set_option maxHeartbeats 400000 in
theorem mayPair_any (a b : ByteArray) (w : World) (ha : a.size ≤ maxLen) (hb : b.size ≤ maxLen) :
    Calls Tryd.prog 23 #[.agg #[.string a, .string b]] w fun e w' => e = .returned (.bool (Qu.mayP (pl (a, b)))) ∧ Below w.heap.size w w' := by
  have HM : Hid (Qu.mayP (pl (a, b)) = (decide (1 ≤ a.size) && decide (a.size ≤ 40) && decide (b.size ≤ 40))) := by
    unfold Hid Qu.mayP pl
    simp only [Array.length_toList]
    rfl
  unfold maxLen at ha hb
  by_cases h1 : 1 ≤ a.size
  · have a1 : (0 : Int) < (a.size : Int) := by omega
    by_cases h2 : a.size ≤ 40
    · have a2 : (a.size : Int) ≤ 40 := by omega
      have HE : Hid (Qu.mayP (pl (a, b)) = decide ((b.size : Int) ≤ 40)) := by
        unfold Hid
        rw [HM.out, decide_eq_true h1, decide_eq_true h2, Bool.true_and, Bool.true_and]
        exact decide_eq_decide.2 (by omega)
      go_enter Tryd.func23, Tryd.ntmps23
      go_wp2_with fail
      go_ret
      exact ⟨ret_bool HE.out.symm, (Below.refl _ _).alloc (Nat.le_refl _) _⟩
    · have a2 : ¬ (a.size : Int) ≤ 40 := by omega
      have HE : Hid (Qu.mayP (pl (a, b)) = false) := by
        unfold Hid
        rw [HM.out, decide_eq_false h2, Bool.and_false, Bool.false_and]
      go_enter Tryd.func23, Tryd.ntmps23
      go_wp2_with fail
      go_ret
      exact ⟨ret_bool HE.out.symm, (Below.refl _ _).alloc (Nat.le_refl _) _⟩
  · have a1 : ¬ (0 : Int) < (a.size : Int) := by omega
    have HE : Hid (Qu.mayP (pl (a, b)) = false) := by
      unfold Hid
      rw [HM.out, decide_eq_false h1, Bool.false_and, Bool.false_and]
    go_enter Tryd.func23, Tryd.ntmps23
    go_wp2_with fail
    go_ret
    exact ⟨ret_bool HE.out.symm, (Below.refl _ _).alloc (Nat.le_refl _) _⟩

theorem may_no {l : List PairB} {k : Nat} (hk : k < l.length) (h : Qu.mayP (pl l[k]) = false) : Qu.may (l.map pl) = false := by
  unfold Qu.may
  rw [Bool.and_eq_false_iff]
  left
  rw [List.all_eq_false]
  exact ⟨pl l[k], List.mem_map.2 ⟨_, List.getElem_mem hk, rfl⟩, by rw [h]; decide⟩
theorem may_yes {l : List PairB} (h : ∀ k (hk : k < l.length), Qu.mayP (pl l[k]) = true) : Qu.may (l.map pl) = decide (l.length ≤ 20) := by
  unfold Qu.may
  have : (l.map pl).all Qu.mayP = true := by
    rw [List.all_eq_true]
    intro x hx
    obtain ⟨p, hp, rfl⟩ := List.mem_map.1 hx
    obtain ⟨k, hk, rfl⟩ := List.getElem_of_mem hp
    exact h k hk
  rw [this, Bool.true_and, List.length_map]

set_option maxHeartbeats 400000 in
theorem qmay_any (v : Value) (l : List PairB) (w : World) (hv : Prs w v l) (hok : ∀ p ∈ l, okP p) :
    Calls Tryd.prog 12 #[v] w fun e w' => e = .returned (.bool (Qu.may (l.map pl))) ∧ Below w.heap.size w w' := by
  have hlen := hv.len
  obtain ⟨a, cap, rfl, _, _, hc⟩ := hv
  have HC := hide hc
  have HOK := hide hok
  clear hc hok
  by_cases h20 : l.length ≤ 20
  · have a20 : ¬ (20 : Int) < (l.length : Int) := by omega
    go_enter Tryd.func12, Tryd.ntmps12
    go_wp2_with fail
    go_loopw [10] (fun i wr => ∃ k : Nat, k ≤ l.length ∧ i = .int .i64 k ∧ Hid (∀ j (hj : j < l.length), j < k → Qu.mayP (pl l[j]) = true) ∧ Below w.heap.size w wr) (fun i _ => l.length - (intOf i).toNat)
    case atStart => exact ⟨0, Nat.zero_le _, rfl, fun _ _ h => absurd h (by omega), Below.refl _ _⟩
    case round =>
      obtain ⟨k, hk, rfl, hall, hB⟩ := hrel
      by_cases hlt : k < l.length
      · have hlt' : (k : Int) < (l.length : Int) := by omega
        obtain ⟨g, off, rfl, hg, c1, c2⟩ := HC.out k hlt
        replace c1 := (hB.cell (p := ⟨g, off + k * 2, none⟩) hg).trans c1
        replace c2 := (hB.cell (p := ⟨g, off + k * 2 + 1, none⟩) hg).trans c2
        have o12 := HOK.out _ (List.getElem_mem hlt)
        have HL : Hid (pl l[k] = pl (l[k].1, l[k].2)) := rfl
        obtain ⟨o1, o2⟩ := o12
        generalize hp1 : l[k].1 = p1 at *
        generalize hp2 : l[k].2 = p2 at *
        cases hm : Qu.mayP (pl (p1, p2))
        · have HM := hide hm
          have HE := hide (may_no hlt (by rw [HL.out]; exact hm))
          clear hm
          go_wp2_with fail
          refine (mayPair_any _ _ _ o1 o2).mono ?_
          rintro e w1 ⟨rfl, hb1⟩
          rw [HM.out]
          go_wp2_with fail
          go_ret
          exact ⟨ret_bool HE.out.symm, hB.trans ((below_box hb1).mono hB.size)⟩
        · have HM := hide hm
          clear hm
          go_wp2_with fail
          refine (mayPair_any _ _ _ o1 o2).mono ?_
          rintro e w1 ⟨rfl, hb1⟩
          rw [HM.out]
          go_wp2_with fail
          refine ⟨⟨k + 1, by omega, by go_num, ?_, hB.trans ((below_box hb1).mono hB.size)⟩, by simp [intOf]; omega⟩
          intro j hj hjk
          by_cases e : j = k
          · subst e; rw [HL.out]; exact HM.out
          · exact hall.out j hj (by omega)
      · have hlt' : ¬ (k : Int) < (l.length : Int) := by omega
        have HE : Hid (Qu.may (l.map pl) = true) := by
          unfold Hid
          rw [may_yes (fun j hj => hall.out j hj (by omega)), decide_eq_true h20]
        go_wp2_with fail
        go_ret
        exact ⟨ret_bool HE.out.symm, hB⟩
  · have a20 : (20 : Int) < (l.length : Int) := by omega
    have HE : Hid (Qu.may (l.map pl) = false) := by
      unfold Hid Qu.may
      rw [List.length_map, decide_eq_false h20, Bool.and_false]
    go_enter Tryd.func12, Tryd.ntmps12
    go_wp2_with fail
    go_ret
    exact ⟨ret_bool HE.out.symm, Below.refl _ _⟩

/-! ### are they the same? -/
theorem bytes_eq {a b : ByteArray} (h : (a.toList == b.toList) = true) : a = b := by
  rw [beq_iff_eq, Lib.toList_data, Lib.toList_data] at h
  rw [← Lib.mk_data a, h, Lib.mk_data]

set_option maxHeartbeats 400000 in
theorem psame_len (w : World) (va vb : Value) (xs ys : List PairB) (ha : Prs w va xs) (hb : Prs w vb ys) (hne : xs.length ≠ ys.length) :
    Calls Tryd.prog 19 #[va, vb] w fun e w' => e = .returned (.bool (decide (xs = ys))) ∧ Below w.heap.size w w' := by
  obtain ⟨a, ca, rfl, _, _, hca⟩ := ha
  obtain ⟨b, cb, rfl, _, _, hcb⟩ := hb
  have hd : Hid (decide (xs = ys) = false) := decide_eq_false (fun e => hne (by rw [e]))
  have hx : ((xs.length : Int) != (ys.length : Int)) = true := by rw [bne_iff_ne]; omega
  clear hca hcb
  go_enter Tryd.func19, Tryd.ntmps19
  go_wp2_with fail
  go_ret
  exact ⟨ret_bool hd.out.symm, Below.refl _ _⟩

set_option maxHeartbeats 800000 in
theorem psame_any (w : World) (va vb : Value) (xs ys : List PairB) (ha : Prs w va xs) (hb : Prs w vb ys) :
    Calls Tryd.prog 19 #[va, vb] w fun e w' => e = .returned (.bool (decide (xs = ys))) ∧ Below w.heap.size w w' := by
  by_cases hnn : ¬ xs.length = ys.length
  · exact psame_len w va vb xs ys ha hb hnn
  have hne : xs.length = ys.length := Classical.not_not.1 hnn
  clear hnn
  have hl := ha.len
  obtain ⟨a, ca, rfl, _, _, hca⟩ := ha
  obtain ⟨b, cb, rfl, _, _, hcb⟩ := hb
  have hx : ((xs.length : Int) != (ys.length : Int)) = false := by rw [bne_eq_false_iff_eq]; omega
  have HN := hide hne
  have HA := hide hca
  have HB := hide hcb
  clear hne hca hcb
  go_enter Tryd.func19, Tryd.ntmps19
  go_wp2_with fail
  go_loopw [5] (fun i wr => ∃ k : Nat, k ≤ xs.length ∧ i = .int .i64 k ∧ Hid (xs.take k = ys.take k) ∧ Below w.heap.size w wr) (fun i _ => xs.length - (intOf i).toNat)
  case atStart => exact ⟨0, Nat.zero_le _, rfl, rfl, Below.refl _ _⟩
  case round =>
    obtain ⟨k, hk, rfl, htk, hB⟩ := hrel
    by_cases hlt : k < xs.length
    · have hlb : k < ys.length := by rw [← HN.out]; exact hlt
      obtain ⟨ga, oa, rfl, hga, a1, a2⟩ := HA.out k hlt
      obtain ⟨gb, ob, rfl, hgb, b1, b2⟩ := HB.out k hlb
      replace a1 := (hB.cell (p := ⟨ga, oa + k * 2, none⟩) hga).trans a1
      replace a2 := (hB.cell (p := ⟨ga, oa + k * 2 + 1, none⟩) hga).trans a2
      replace b1 := (hB.cell (p := ⟨gb, ob + k * 2, none⟩) hgb).trans b1
      replace b2 := (hB.cell (p := ⟨gb, ob + k * 2 + 1, none⟩) hgb).trans b2
      have hlt' : (k : Int) < (xs.length : Int) := by omega
      have hlb' : (k : Int) < (ys.length : Int) := by omega
      have HX : Hid (xs[k] = (xs[k].1, xs[k].2)) := rfl
      have HY : Hid (ys[k] = (ys[k].1, ys[k].2)) := rfl
      have HEQ : Hid (∀ j (h1 : j < xs.length) (h2 : j < ys.length), xs = ys → xs[j] = ys[j]) := by
        intro j h1 h2 e; subst e; rfl
      generalize hx1 : xs[k].1 = x1 at *
      generalize hx2 : xs[k].2 = x2 at *
      generalize hy1 : ys[k].1 = y1 at *
      generalize hy2 : ys[k].2 = y2 at *
      cases hq1 : (x1.toList == y1.toList)
      · have hqe : Hid (decide (xs = ys) = false) := by
          apply decide_eq_false
          intro e
          have := HEQ.out k hlt hlb e
          rw [HX.out, HY.out] at this
          rw [(Prod.mk.inj this).1] at hq1
          simp at hq1
        go_wp2_with fail
        go_region
        go_wp2_with fail
        go_ret
        exact ⟨ret_bool hqe.out.symm, hB.drew⟩
      · cases hq2 : (x2.toList == y2.toList)
        · have hqe : Hid (decide (xs = ys) = false) := by
            apply decide_eq_false
            intro e
            have := HEQ.out k hlt hlb e
            rw [HX.out, HY.out] at this
            rw [(Prod.mk.inj this).2] at hq2
            simp at hq2
          go_wp2_with fail
          go_region
          go_wp2_with fail
          go_ret
          exact ⟨ret_bool hqe.out.symm, hB.drew⟩
        · have hqe : Hid (xs[k] = ys[k]) := by
            unfold Hid
            rw [HX.out, HY.out, bytes_eq hq1, bytes_eq hq2]
          go_wp2_with fail
          go_region
          go_wp2_with fail
          refine ⟨⟨k + 1, by omega, by go_num, ?_, hB.drew⟩, by simp [intOf]; omega⟩
          unfold Hid
          rw [List.take_succ_eq_append_getElem hlt, List.take_succ_eq_append_getElem hlb, htk.out, hqe.out]
    · have hqe : Hid (decide (xs = ys) = true) := by
        apply decide_eq_true
        have := htk.out
        rwa [List.take_of_length_le (by omega), List.take_of_length_le (by rw [← HN.out]; omega)] at this
      have hlt' : ¬ (k : Int) < (xs.length : Int) := by omega
      go_wp2_with fail
      go_ret
      exact ⟨ret_bool hqe.out.symm, hB⟩

end Go.Proofs.YtmjjjlanafiilaaDoor
