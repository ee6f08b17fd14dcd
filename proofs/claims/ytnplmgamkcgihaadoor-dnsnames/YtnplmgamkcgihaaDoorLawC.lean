/-
  The law DnsLabels: plain facts of parts, and its walk.
-/
import Derived.Test.YtnplmgamkcgihaaDoorLawB
namespace Go.Proofs.YtnplmgamkcgihaaDoor
open Go Go.RowKit Go.Shelf

/-- the parts with a dot between each two -/
def jn : List (List UInt8) → List UInt8
  | [] => []
  | p :: ps => p ++ ps.flatMap (fun q => 46 :: q)

theorem jn_cons (p : List UInt8) {ps : List (List UInt8)} (h : ps ≠ []) : jn (p :: ps) = p ++ 46 :: jn ps := by
  cases ps with
  | nil => exact absurd rfl h
  | cons q qs => simp [jn]

theorem jn_spl (l : List UInt8) : jn (D.spl 46 l) = l := by
  induction l with
  | nil => simp [D.spl, jn]
  | cons a r ih =>
    have hne := D.spl_ne 46 r
    unfold D.spl
    split
    · rename_i h; rw [jn_cons _ hne, ih, h]; rfl
    · cases hs : D.spl 46 r with
      | nil => exact absurd hs hne
      | cons q t => rw [hs] at ih; simp [jn] at ih ⊢; exact ih

theorem jn_snoc {ps : List (List UInt8)} (p : List UInt8) (h : ps ≠ []) : jn (ps ++ [p]) = jn ps ++ 46 :: p := by
  cases ps with
  | nil => exact absurd rfl h
  | cons q qs => simp [jn]

theorem jn_take_succ {ps : List (List UInt8)} {k : Nat} (hk : k < ps.length) (h0 : 0 < k) : jn (ps.take (k + 1)) = jn (ps.take k) ++ 46 :: ps[k] := by
  rw [List.take_succ_eq_append_getElem hk, jn_snoc]
  intro h
  have := congrArg List.length h
  rw [List.length_take, List.length_nil] at this
  omega
theorem jn_take_one {ps : List (List UInt8)} (hk : 0 < ps.length) : jn (ps.take 1) = ps[0] := by
  rw [List.take_succ_eq_append_getElem hk]; simp [jn]

theorem jn_take_len (ps : List (List UInt8)) (k : Nat) : (jn (ps.take k)).length ≤ (jn ps).length := by
  cases ps with
  | nil => simp
  | cons p ps =>
    cases k with
    | zero => simp [jn]
    | succ k =>
      have h : ps.flatMap (fun q => 46 :: q) = (ps.take k).flatMap (fun q => 46 :: q) ++ (ps.drop k).flatMap (fun q => (46 : UInt8) :: q) := by
        rw [← List.flatMap_append, List.take_append_drop]
      simp only [List.take_succ_cons, jn, List.length_append, h]
      omega

theorem spl_append (a b : List UInt8) : D.spl 46 (a ++ 46 :: b) = D.spl 46 a ++ D.spl 46 b := by
  induction a with
  | nil => simp [D.spl]
  | cons x r ih =>
    have hne := D.spl_ne 46 r
    rw [List.cons_append]
    conv => lhs; unfold D.spl
    conv => rhs; lhs; unfold D.spl
    rw [ih]
    split
    · simp
    · cases hs : D.spl 46 r with
      | nil => exact absurd hs hne
      | cons q t => simp

theorem name_more {s m : List UInt8} (hs : D.isName s = true) : D.isName (s ++ 46 :: m) = (D.isName m && decide ((s ++ 46 :: m).length ≤ 60)) := by
  rw [Bool.eq_iff_iff, Bool.and_eq_true, decide_eq_true_eq, isName_iff, isName_iff, spl_append]
  have h := (isName_iff.1 hs).2
  constructor
  · rintro ⟨h1, h2⟩
    exact ⟨⟨by simp at h1; omega, fun p hp => h2 p (List.mem_append_right _ hp)⟩, h1⟩
  · rintro ⟨⟨_, h2⟩, h1⟩
    exact ⟨h1, fun p hp => (List.mem_append.1 hp).elim (h p) (h2 p)⟩

theorem part_data (c : UInt8) (s : ByteArray) {k : Nat} (hk : k < (parts c s).length) : (parts c s)[k].data.toList = (D.spl c s.data.toList)[k]'(by rw [← parts_len]; exact hk) := by
  simp [parts]

theorem part_label (s : ByteArray) (h : D.isName s.data.toList = true) {k : Nat} (hk : k < (parts 46 s).length) : D.isLabel (parts 46 s)[k].data.toList = true := by
  rw [part_data]
  exact (isName_iff.1 h).2 _ (List.getElem_mem _)

set_option maxHeartbeats 1600000 in
theorem labels_law (s1 s2 : ByteArray) (w : World) (hs1 : s1.size ≤ maxLen) (hs2 : s2.size ≤ maxLen) :
    Calls Tryd.prog 9 #[.string s1, .string s2] w fun e w' => e = .returned (.bool true) ∧ Below w.heap.size w w' := by
  go_enter Tryd.func9, Tryd.ntmps9
  go_wp2_with fail
  refine (few_any _ _ hs1).mono ?_
  rintro e w1 ⟨s, rfl, hs, rfl⟩
  go_wp2_with fail
  refine (few_any _ _ hs2).mono ?_
  rintro e w ⟨m, rfl, hm, rfl⟩
  go_wp2_with fail
  have ls : s.size ≤ maxLen := small_len (by omega)
  have lm : m.size ≤ maxLen := small_len (by omega)
  cases h : D.isName s.data.toList
  · have H := hide h
    clear h
    refine (labels_no _ _ ls H.out).mono ?_
    rintro e w3 ⟨rfl, hb3⟩
    go_wp2_with fail
    refine (name_any _ _ ls).mono ?_
    rintro e w4 ⟨rfl, hb4⟩
    rw [H.out]
    go_wp2_with fail
    refine (awake_any _).mono ?_
    rintro e w5 ⟨rfl, hb5⟩
    go_wp2_with fail
    go_ret
    have b4 := hb3.trans (hb4.mono hb3.size)
    exact ⟨rfl, b4.trans (hb5.mono b4.size)⟩
  · have H := hide h
    have hjl : ∀ k, (jn ((D.spl 46 s.data.toList).take k)).length ≤ 60 := fun k => by
      have := jn_take_len (D.spl 46 s.data.toList) k
      rw [jn_spl] at this
      have h60 := (isName_iff.1 h).1
      omega
    have HJL := hide hjl
    have hcnt : (parts 46 s).length ≤ 101 := by
      rw [parts_len]
      have := D.spl_count (c := 46) (l := s.data.toList)
      have e : s.data.toList.length = s.size := Array.length_toList
      omega
    clear h hjl
    refine (labels_yes _ _ ls H.out).mono ?_
    rintro e w3 ⟨v, rfl, hrow, hb3⟩
    have hS := Strs.of_row rfl hrow
    clear hrow
    obtain ⟨a, ca, rfl, hca⟩ := hS
    have HA := hide hca
    clear hca
    go_wp2_with fail
    refine (name_any _ _ ls).mono ?_
    rintro e w4 ⟨rfl, hb4⟩
    rw [H.out]
    go_wp2_with fail
    go_loopw [6, 7] (fun t i wr => ∃ (k : Nat) (tb : ByteArray), k ≤ (parts 46 s).length ∧ i = .int .i64 k ∧ t = .string tb ∧ Hid (tb.data.toList = jn ((D.spl 46 s.data.toList).take k)) ∧ wr = w4) (fun _ i _ => (parts 46 s).length - (intOf i).toNat)
    case atStart => exact ⟨0, ⟨#[]⟩, Nat.zero_le _, rfl, rfl, rfl, rfl⟩
    case round =>
      obtain ⟨k, tb, hk, rfl, rfl, htb, rfl⟩ := hrel
      have htl : tb.size ≤ 60 := by
        have e : tb.data.toList.length = tb.size := Array.length_toList
        have := HJL.out k
        rw [← htb.out] at this
        omega
      by_cases hlt : k < (parts 46 s).length
      · obtain ⟨g, rfl, hg, hcell⟩ := HA.out k hlt
        have c1 := (hb4.cell (p := ⟨g, k, none⟩) hg).trans hcell
        have hlp := hide (part_label s H.out hlt)
        have hps := part_size 46 s hlt
        have hpd := hide (part_data 46 s hlt)
        have hlk : k < (D.spl 46 s.data.toList).length := by rw [← parts_len]; exact hlt
        have hlt' : (k : Int) < ((parts 46 s).length : Int) := by omega
        clear hcell
        generalize hp : (parts 46 s)[k] = p at *
        have HP := hide hp
        clear hp
        have lp : p.size ≤ maxLen := small_len (by omega)
        have hp100 : p.size ≤ 100 := by omega
        by_cases h0 : k = 0
        · subst h0
          go_wp2_with fail
          refine (label_any _ _ lp).mono ?_
          rintro e x ⟨rfl, rfl⟩
          rw [hlp.out]
          go_wp2_with fail
          refine ⟨⟨1, tb ++ p, by omega, rfl, rfl, ?_, trivial⟩, by simp [intOf]; omega⟩
          unfold Hid
          rw [jn_take_one hlk, cat_data, htb.out, hpd.out]
          simp [jn]
        · have hk0 : (0 : Int) < (k : Int) := by omega
          go_wp2_with fail
          refine (label_any _ _ lp).mono ?_
          rintro e x ⟨rfl, rfl⟩
          rw [hlp.out]
          go_wp2_with fail
          refine ⟨⟨k + 1, tb ++ ⟨#[46]⟩ ++ p, by omega, by go_num, rfl, ?_, trivial⟩, by simp [intOf]; omega⟩
          unfold Hid
          rw [jn_take_succ hlk (by omega), dot_cat, htb.out, hpd.out]
      · have htbs : tb = s := by
          apply bytes_ext
          rw [htb.out, List.take_of_length_le (by rw [← parts_len]; omega), jn_spl]
        subst htbs
        clear htb
        have hlt' : ¬ (k : Int) < ((parts 46 tb).length : Int) := by omega
        have lu : (tb ++ ⟨#[46]⟩ ++ m).size ≤ maxLen := by rw [dot_size]; unfold maxLen; omega
        have hnm : Hid (D.isName (tb ++ ⟨#[46]⟩ ++ m).data.toList = (D.isName m.data.toList && decide ((tb ++ ⟨#[46]⟩ ++ m).size ≤ 60))) := by
          unfold Hid
          have e : (tb ++ ⟨#[46]⟩ ++ m).size = (tb.data.toList ++ 46 :: m.data.toList).length := by
            rw [← dot_cat]; exact (Array.length_toList).symm
          rw [e, dot_cat]
          exact name_more H.out
        generalize hu : tb ++ ⟨#[46]⟩ ++ m = u at *
        have HU := hide hu
        clear hu
        cases hm : D.isName m.data.toList
        · have HM := hide hm
          have HN : Hid (D.isName u.data.toList = false) := by unfold Hid; rw [hnm.out, hm]; rfl
          clear hm
          go_wp2_with fail
          rw [HU.out]
          refine (name_any _ _ lu).mono ?_
          rintro e x1 ⟨rfl, hx1⟩
          rw [HN.out]
          go_wp2_with fail
          refine (name_any _ _ lm).mono ?_
          rintro e x2 ⟨rfl, hx2⟩
          rw [HM.out]
          go_wp2_with fail
          refine (awake_any _).mono ?_
          rintro e x3 ⟨rfl, hx3⟩
          go_wp2_with fail
          go_ret
          have b4 := hb3.trans (hb4.mono hb3.size)
          have b5 := b4.trans (hx1.mono b4.size)
          have b6 := b5.trans (hx2.mono b5.size)
          exact ⟨rfl, b6.trans (hx3.mono b6.size)⟩
        · have HM := hide hm
          by_cases hu60 : u.size ≤ 60
          · have HN : Hid (D.isName u.data.toList = true) := by unfold Hid; rw [hnm.out, hm, decide_eq_true hu60]; rfl
            have hu60' : (u.size : Int) ≤ 60 := by omega
            clear hm
            go_wp2_with fail
            rw [HU.out]
            refine (name_any _ _ lu).mono ?_
            rintro e x1 ⟨rfl, hx1⟩
            rw [HN.out]
            go_wp2_with fail
            refine (name_any _ _ lm).mono ?_
            rintro e x2 ⟨rfl, hx2⟩
            rw [HM.out]
            go_wp2_with fail
            refine (awake_any _).mono ?_
            rintro e x3 ⟨rfl, hx3⟩
            go_wp2_with fail
            go_ret
            have b4 := hb3.trans (hb4.mono hb3.size)
            have b5 := b4.trans (hx1.mono b4.size)
            have b6 := b5.trans (hx2.mono b5.size)
            exact ⟨rfl, b6.trans (hx3.mono b6.size)⟩
          · have HN : Hid (D.isName u.data.toList = false) := by unfold Hid; rw [hnm.out, hm, decide_eq_false hu60]; rfl
            have hu60' : decide ((u.size : Int) ≤ 60) = false := decide_eq_false (by omega)
            clear hm
            go_wp2_with fail
            rw [HU.out]
            refine (name_any _ _ lu).mono ?_
            rintro e x1 ⟨rfl, hx1⟩
            rw [HN.out]
            go_wp2_with fail
            refine (name_any _ _ lm).mono ?_
            rintro e x2 ⟨rfl, hx2⟩
            rw [HM.out]
            go_wp2_with fail
            refine (awake_any _).mono ?_
            rintro e x3 ⟨rfl, hx3⟩
            go_wp2_with fail
            go_ret
            have b4 := hb3.trans (hb4.mono hb3.size)
            have b5 := b4.trans (hx1.mono b4.size)
            have b6 := b5.trans (hx2.mono b5.size)
            exact ⟨rfl, b6.trans (hx3.mono b6.size)⟩

end Go.Proofs.YtnplmgamkcgihaaDoor
