/-
  The law PairsTells.
-/
import Derived.Test.YtoaakhfedfameaaPbLawC
import Derived.Test.YtoaakhfedfameaaPbRefA
import Derived.Test.YtoaakhfedfameaaPbRefC
namespace Go.Proofs.Ytoaakhfedfameaa
open Go Go.RowKit Go.Shelf Go.ChangeShapes Go.WideShapes Go.Deep

theorem tells_two {p : Prop} {a b : Bool} (ha : a = true ↔ p) (hb : b = true ↔ p) : b = a := by
  rw [Bool.eq_iff_iff, hb, ha]
theorem get_head (l : List PairB) (n : ByteArray) : getQ l n = (allQ l n).head? := Pb.get_all l n

theorem Strs.first {w : World} {v : Value} {y : ByteArray} {r : List ByteArray} (h : Strs w v (y :: r)) : ∃ g cap, v = .slice (some ⟨g, 0, none⟩) (r.length + 1) cap ∧ w.cell? ⟨g, 0, none⟩ = some (.string y) := by
  obtain ⟨a, cap, rfl, hc⟩ := h
  obtain ⟨g, rfl, _, c⟩ := hc 0 (by simp)
  exact ⟨g, cap, rfl, c⟩
theorem Strs.none' {w : World} {v : Value} (h : Strs w v []) : ∃ a cap, v = .slice a 0 cap := by
  obtain ⟨a, cap, rfl, _⟩ := h
  exact ⟨a, cap, rfl⟩

set_option maxHeartbeats 1600000 in
theorem tells_law (v0 : Value) (s t : ByteArray) (w : World) (l0 : List PairB) (p0 : Prs w v0 l0) (ok0 : ∀ p ∈ l0, okP p) (hs : s.size ≤ maxLen) (ht : t.size ≤ maxLen) :
    Calls Try.prog 3 #[v0, .string s, .string t] w fun e w' => e = .returned (.bool true) ∧ Below w.heap.size w w' := by
  have CF := fun W (h : Prs W v0 l0) => hide (bfew_any v0 l0 W h ok0)
  have okl := hide (bfew_okP l0)
  have okf : Hid (∀ p ∈ fewB2 l0, okF p) := bfew_ok l0
  have hl := bfew_len l0
  have hn := fewB_max s
  have hx := fewB_max t
  have hn' := fewB_le s
  have hx' := fewB_le t
  have C1 := fun W => hide (fewB_any s W hs)
  have C2 := fun W => hide (fewB_any t W ht)
  generalize fewB2 l0 = l at *
  generalize fewB s = n at *
  generalize fewB t = x at *
  have hle : (allQ l n).length ≤ 31 := Nat.le_trans (all_len l n) hl
  have CG := fun v W (h : Prs W v l) => hide (get_any n v l W hn h okl.out)
  have CA := fun v W (h : Prs W v l) => hide (all_any n v l W hn h okl.out (by omega))
  have RA := fun v W (h : Prs W v l) => hide (rall_any n v l W hn' h okf.out (by omega))
  have T1 := fun W => hide (token_any n W hn)
  have T2 := fun W => hide (rtoken_any n W hn')
  have V1 := fun W => hide (value_any n W hn)
  have V2 := fun W => hide (rvalue_any n W hn')
  have S1 := fun W => hide (prSame_any n x W hn hx)
  have S2 := fun W => hide (rprSame_any n x W hn' hx')
  generalize sameF n x = sb at *
  rw [get_head] at CG
  clear hs ht ok0 okl okf
  generalize allQ l n = al at *
  have hsb : (sb == sb) = true := by simp
  rcases al with _ | ⟨y, r⟩
  · simp only [List.head?_nil, valO, Option.getD_none, Option.isSome_none] at CG
    go_enter Try.func3, Try.ntmps3
    go_wp2_with fail
    refine (CF w p0).out.mono ?_
    rintro e w1 ⟨v1, rfl, r1, hb1⟩
    have ql := Prs.of_row rfl r1
    clear r1
    go_wp2_with fail
    refine ((C1 _).out).mono ?_
    rintro e x ⟨rfl, hx⟩
    subst x
    go_wp2_with fail
    refine ((C2 _).out).mono ?_
    rintro e x ⟨rfl, hx⟩
    subst x
    go_wp2_with fail
    refine (RA _ _ ql).out.mono ?_
    rintro e w2 ⟨v2, rfl, qw, hb2⟩
    replace ql := ql.below hb2
    go_wp2_with fail
    refine (CG _ _ ql).out.mono ?_
    rintro e w3 ⟨rfl, hb3⟩
    replace ql := ql.below hb3
    replace qw := qw.below hb3
    have S := bb2 (bb2 hb1 hb2) hb3
    clear hb1 hb2 hb3 CF C1 C2 RA CG
    have QL := hide ql
    have QW := hide qw
    clear ql
    obtain ⟨a2, c2, rfl⟩ := qw.none'
    clear qw
    go_wp2_with fail
    refine (T1 _).out.mono ?_
    rintro e x1 ⟨⟨b1, rfl, i1⟩, hx1⟩
    subst x1
    go_wp2_with fail
    refine (T2 _).out.mono ?_
    rintro e x1 ⟨⟨b2, rfl, i2⟩, hx1⟩
    subst x1
    obtain rfl := tells_two i1 i2
    have hbb : (b2 == b2) = true := by simp
    clear i1 i2 T1 T2
    go_wp2_with fail
    refine (V1 _).out.mono ?_
    rintro e x1 ⟨⟨b3, rfl, i3⟩, hx1⟩
    subst x1
    go_wp2_with fail
    refine (V2 _).out.mono ?_
    rintro e x1 ⟨⟨b4, rfl, i4⟩, hx1⟩
    subst x1
    obtain rfl := tells_two i3 i4
    have hbc : (b4 == b4) = true := by simp
    clear i3 i4 V1 V2
    go_wp2_with fail
    refine (S1 _).out.mono ?_
    rintro e w4 ⟨rfl, hb4⟩
    go_wp2_with fail
    refine (S2 _).out.mono ?_
    rintro e w5 ⟨rfl, hb5⟩
    replace S := bb2 (bb2 S hb4) hb5
    have QL5 := hide ((QL.out.below hb4).below hb5)
    have QW5 := hide ((QW.out.below hb4).below hb5)
    clear hb4 hb5 QL QW
    go_wp2_with fail
    refine (CA _ _ QL5.out).out.mono ?_
    rintro e w6 ⟨v6, rfl, q6, hb6⟩
    go_wp2_with fail
    refine (same_any _ _ _ _ _ q6 (QW5.out.below hb6) (by unfold maxLen; omega)).mono ?_
    rintro e w7 ⟨rfl, hb7⟩
    rw [decide_eq_true rfl]
    replace S := bb2 (bb2 S hb6) hb7
    go_wp2_with fail
    refine (bawake_any _).mono ?_
    rintro e w8 ⟨rfl, hb8⟩
    go_wp2_with fail
    go_ret
    exact ⟨rfl, bb2 S hb8⟩
  · simp only [List.head?_cons, valO, Option.getD_some, Option.isSome_some] at CG
    go_enter Try.func3, Try.ntmps3
    go_wp2_with fail
    refine (CF w p0).out.mono ?_
    rintro e w1 ⟨v1, rfl, r1, hb1⟩
    have ql := Prs.of_row rfl r1
    clear r1
    go_wp2_with fail
    refine ((C1 _).out).mono ?_
    rintro e x ⟨rfl, hx⟩
    subst x
    go_wp2_with fail
    refine ((C2 _).out).mono ?_
    rintro e x ⟨rfl, hx⟩
    subst x
    go_wp2_with fail
    refine (RA _ _ ql).out.mono ?_
    rintro e w2 ⟨v2, rfl, qw, hb2⟩
    replace ql := ql.below hb2
    go_wp2_with fail
    refine (CG _ _ ql).out.mono ?_
    rintro e w3 ⟨rfl, hb3⟩
    replace ql := ql.below hb3
    replace qw := qw.below hb3
    have S := bb2 (bb2 hb1 hb2) hb3
    clear hb1 hb2 hb3 CF C1 C2 RA CG
    have QL := hide ql
    have QW := hide qw
    clear ql
    obtain ⟨g2, c2, rfl, k2⟩ := qw.first
    have h0 : (0 : Int) < (r.length : Int) + 1 := by omega
    have hyy : (y.toList != y.toList) = false := by simp
    clear qw
    go_wp2_with fail
    refine (T1 _).out.mono ?_
    rintro e x1 ⟨⟨b1, rfl, i1⟩, hx1⟩
    subst x1
    go_wp2_with fail
    refine (T2 _).out.mono ?_
    rintro e x1 ⟨⟨b2, rfl, i2⟩, hx1⟩
    subst x1
    obtain rfl := tells_two i1 i2
    have hbb : (b2 == b2) = true := by simp
    clear i1 i2 T1 T2
    go_wp2_with fail
    refine (V1 _).out.mono ?_
    rintro e x1 ⟨⟨b3, rfl, i3⟩, hx1⟩
    subst x1
    go_wp2_with fail
    refine (V2 _).out.mono ?_
    rintro e x1 ⟨⟨b4, rfl, i4⟩, hx1⟩
    subst x1
    obtain rfl := tells_two i3 i4
    have hbc : (b4 == b4) = true := by simp
    clear i3 i4 V1 V2
    go_wp2_with fail
    refine (S1 _).out.mono ?_
    rintro e w4 ⟨rfl, hb4⟩
    go_wp2_with fail
    refine (S2 _).out.mono ?_
    rintro e w5 ⟨rfl, hb5⟩
    replace S := bb2 (bb2 S hb4) hb5
    have QL5 := hide ((QL.out.below hb4).below hb5)
    have QW5 := hide ((QW.out.below hb4).below hb5)
    clear hb4 hb5 QL QW
    go_wp2_with fail
    refine (CA _ _ QL5.out).out.mono ?_
    rintro e w6 ⟨v6, rfl, q6, hb6⟩
    go_wp2_with fail
    refine (same_any _ _ _ _ _ q6 (QW5.out.below hb6) (by unfold maxLen; omega)).mono ?_
    rintro e w7 ⟨rfl, hb7⟩
    rw [decide_eq_true rfl]
    replace S := bb2 (bb2 S hb6) hb7
    go_wp2_with fail
    refine (bawake_any _).mono ?_
    rintro e w8 ⟨rfl, hb8⟩
    go_wp2_with fail
    go_ret
    exact ⟨rfl, bb2 S hb8⟩

theorem tells_arg (v0 : Value) (s t : ByteArray) (w : World) (a0 : ArgPrs w v0) (hs : s.size ≤ maxLen) (ht : t.size ≤ maxLen) :
    Calls Try.prog 3 #[v0, .string s, .string t] w fun e w' => e = .returned (.bool true) ∧ Below w.heap.size w w' := by
  obtain ⟨l, p, ok⟩ := a0
  exact tells_law v0 s t w l p ok hs ht

end Go.Proofs.Ytoaakhfedfameaa
