/-
  The law PairsSets.
-/
import Derived.Test.YtoaakhfedfameaaPbLawC
import Derived.Test.YtoaakhfedfameaaPbRefA
namespace Go.Proofs.Ytoaakhfedfameaa
open Go Go.RowKit Go.Shelf Go.ChangeShapes Go.WideShapes Go.Deep

theorem fewB_twice (s : ByteArray) : fewB (fewB s) = fewB s := by
  have h := fewB_le s
  generalize fewB s = x at *
  unfold fewB
  rw [if_neg (by omega)]
theorem few_twice (l : List PairB) : fewB2 (fewB2 l) = fewB2 l := by
  unfold fewB2
  rw [List.take_of_length_le (by simp; omega), List.map_map]
  apply List.map_congr_left
  intro p _
  show (fewB (fewB p.1), fewB (fewB p.2)) = (fewB p.1, fewB p.2)
  rw [fewB_twice, fewB_twice]

set_option maxHeartbeats 1600000 in
theorem sets_law (v0 : Value) (s t : ByteArray) (w : World) (l0 : List PairB) (p0 : Prs w v0 l0) (ok0 : ∀ p ∈ l0, okP p) (hs : s.size ≤ maxLen) (ht : t.size ≤ maxLen) :
    Calls Try.prog 4 #[v0, .string s, .string t] w fun e w' => e = .returned (.bool true) ∧ Below w.heap.size w w' := by
  have CF := fun W (h : Prs W v0 l0) => hide (bfew_any v0 l0 W h ok0)
  have CG := fun v W (h : Prs W v (fewB2 l0)) => hide (bfew_any v _ W h (bfew_okP l0))
  rw [few_twice] at CG
  have okl := hide (bfew_okP l0)
  have okf : Hid (∀ p ∈ fewB2 l0, okF p) := bfew_ok l0
  have hl := bfew_len l0
  have hn := fewB_max s
  have hx := fewB_max t
  have hn' := fewB_le s
  have C1 := fun W => hide (fewB_any s W hs)
  have C2 := fun W => hide (fewB_any t W ht)
  generalize fewB2 l0 = l at *
  generalize fewB s = n at *
  generalize fewB t = x at *
  have CS := fun v W (h : Prs W v l) => hide (set_any n x v l W hn h okl.out (by omega))
  have CD := fun v W (h : Prs W v l) => hide (drop_any n v l W hn h okl.out (by omega))
  have CA := fun v W (h : Prs W v l) => hide (add_any n x v l W h (by omega))
  have RS := fun v W (h : Prs W v l) => hide (rset_any n x v l W hn' h okf.out (by omega))
  have RD := fun v W (h : Prs W v l) => hide (rdrop_any n v l W hn' h okf.out (by omega))
  clear hs ht ok0 okl okf
  go_enter Try.func4, Try.ntmps4
  go_wp2_with fail
  refine (CF w p0).out.mono ?_
  rintro e w1 ⟨v1, rfl, r1, hb1⟩
  have ql := Prs.of_row rfl r1
  clear r1
  go_wp2_with fail
  refine ((C1 _).out).mono ?_
  rintro e x ⟨rfl, hx⟩
  subst x
  go_wp2_with fail
  refine ((C2 _).out).mono ?_
  rintro e x ⟨rfl, hx⟩
  subst x
  go_wp2_with fail
  refine (CG _ _ ql).out.mono ?_
  rintro e w2 ⟨v2, rfl, r2, hb2⟩
  have qw := Prs.of_row rfl r2
  replace ql := ql.below hb2
  have S := bb2 hb1 hb2
  clear r2 hb1 hb2 C1 C2 CF
  go_wp2_with fail
  refine (CS _ _ ql).out.mono ?_
  rintro e w3 ⟨v3, rfl, q3, hb3⟩
  replace ql := ql.below hb3
  replace qw := qw.below hb3
  replace S := bb2 S hb3
  go_wp2_with fail
  refine (RS _ _ ql).out.mono ?_
  rintro e w4 ⟨v4, rfl, q4, hb4⟩
  replace ql := ql.below hb4
  replace qw := qw.below hb4
  replace S := bb2 S hb4
  go_wp2_with fail
  refine (psame_any _ _ _ _ _ (q3.below hb4) q4).mono ?_
  rintro e w5 ⟨rfl, hb5⟩
  rw [decide_eq_true rfl]
  replace ql := ql.below hb5
  replace qw := qw.below hb5
  replace S := bb2 S hb5
  clear q3 q4 hb3 hb4 hb5
  go_wp2_with fail
  refine (CD _ _ ql).out.mono ?_
  rintro e w6 ⟨v6, rfl, q6, hb6⟩
  replace ql := ql.below hb6
  replace qw := qw.below hb6
  replace S := bb2 S hb6
  go_wp2_with fail
  refine (RD _ _ ql).out.mono ?_
  rintro e w7 ⟨v7, rfl, q7, hb7⟩
  replace ql := ql.below hb7
  replace qw := qw.below hb7
  replace S := bb2 S hb7
  go_wp2_with fail
  refine (psame_any _ _ _ _ _ (q6.below hb7) q7).mono ?_
  rintro e w8 ⟨rfl, hb8⟩
  rw [decide_eq_true rfl]
  replace ql := ql.below hb8
  replace qw := qw.below hb8
  replace S := bb2 S hb8
  clear q6 q7 hb6 hb7 hb8
  go_wp2_with fail
  refine (CA _ _ ql).out.mono ?_
  rintro e w9 ⟨v9, rfl, r9, hb9⟩
  have q9 := Prs.of_row (by simp) r9
  replace ql := ql.below hb9
  replace qw := qw.below hb9
  replace S := bb2 S hb9
  clear r9
  go_wp2_with fail
  refine (CG _ _ ql).out.mono ?_
  rintro e w10 ⟨v10, rfl, r10, hb10⟩
  have R10 := hide r10
  have hbs := hb10.size
  clear hb9 r10
  go_wp2_with (at_builtin; refine wpList_append_prs _ _ _ rfl (by rfl) w9.heap.size _ _ _ rfl (ownsRow_below R10.out ((Below.refl _ _).alloc (Nat.le_refl _) _)) _ _ rfl (Prs.at1 w10 _ rfl n x) (by simp; omega) (by simp; omega) ?_; intro v11 w11 r11 g11; have S11 : Below w9.heap.size w9 w11 := (hb10.alloc hb10.size _).grown g11 (by simp; omega) (fun j e => ownBlock_ge R10.out e); have q11 : Prs w11 v11 (l ++ [(n, x)]) := Prs.of_row (by simp) r11; clear r11 g11)
  replace ql := ql.below S11
  replace qw := qw.below S11
  replace q9 := q9.below S11
  replace S := bb2 S S11
  clear R10 hb10 hbs S11
  refine (psame_any _ _ _ _ _ q9 q11).mono ?_
  rintro e w12 ⟨rfl, hb12⟩
  rw [decide_eq_true rfl]
  replace ql := ql.below hb12
  replace qw := qw.below hb12
  replace S := bb2 S hb12
  go_wp2_with fail
  refine (psame_any _ _ _ _ _ ql qw).mono ?_
  rintro e w13 ⟨rfl, hb13⟩
  rw [decide_eq_true rfl]
  replace S := bb2 S hb13
  go_wp2_with fail
  refine (bawake_any _).mono ?_
  rintro e w14 ⟨rfl, hb14⟩
  go_wp2_with fail
  go_ret
  exact ⟨rfl, bb2 S hb14⟩

theorem sets_arg (v0 : Value) (s t : ByteArray) (w : World) (a0 : ArgPrs w v0) (hs : s.size ≤ maxLen) (ht : t.size ≤ maxLen) :
    Calls Try.prog 4 #[v0, .string s, .string t] w fun e w' => e = .returned (.bool true) ∧ Below w.heap.size w w' := by
  obtain ⟨l, p, ok⟩ := a0
  exact sets_law v0 s t w l p ok hs ht

end Go.Proofs.Ytoaakhfedfameaa
