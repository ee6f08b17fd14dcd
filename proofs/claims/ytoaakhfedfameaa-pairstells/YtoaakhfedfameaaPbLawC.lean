/-
  The law PairsAdds.
-/
import Derived.Test.YtoaakhfedfameaaPbLawB
namespace Go.Proofs.Ytoaakhfedfameaa
open Go Go.RowKit Go.Shelf Go.Deep

theorem Prs.form {w : World} {v : Value} {l : List PairB} (h : Prs w v l) : ∃ a cap, v = .slice a l.length cap := by
  obtain ⟨a, cap, hv, _⟩ := h
  exact ⟨a, cap, hv⟩
theorem Strs.form {w : World} {v : Value} {l : List ByteArray} (h : Strs w v l) : ∃ a cap, v = .slice a l.length cap := by
  obtain ⟨a, cap, hv, _⟩ := h
  exact ⟨a, cap, hv⟩
theorem owns_empty9 (w : World) : (w.alloc (.cells #[] 9)).ownsRow w.heap.size 9 1 (.slice (some ⟨w.heap.size, 0, none⟩) 0 0) 0 (([] : List ByteArray).map Value.string) :=
  ⟨rfl, .inr ⟨w.heap.size, 0, #[], rfl, Nat.le_refl _, alloc_new w _, Nat.le_refl _, Nat.zero_le _, rfl, rfl⟩⟩
theorem ok_snoc {l : List PairB} (h : ∀ p ∈ l, okP p) {n x : ByteArray} (hn : n.size ≤ maxLen) (hx : x.size ≤ maxLen) : ∀ p ∈ l ++ [(n, x)], okP p := by
  intro p hp
  rcases List.mem_append.1 hp with h1 | h1
  · exact h p h1
  · rw [List.mem_singleton] at h1
    subst h1
    exact ⟨hn, hx⟩
theorem get_snoc (l : List PairB) (n x : ByteArray) : getQ (l ++ [(n, x)]) n = some ((getQ l n).getD x) := Pb.get_add l n x
theorem all_snoc2 (l : List PairB) (n x : ByteArray) : allQ (l ++ [(n, x)]) n = allQ l n ++ [x] := Pb.all_add l n x
theorem all_len (l : List PairB) (n : ByteArray) : (allQ l n).length ≤ l.length := by
  have := all_le l n l.length
  rwa [List.take_of_length_le (Nat.le_refl _)] at this

set_option maxHeartbeats 1600000 in
theorem adds_law (v0 : Value) (s t : ByteArray) (w : World) (l0 : List PairB) (p0 : Prs w v0 l0) (ok0 : ∀ p ∈ l0, okP p) (hs : s.size ≤ maxLen) (ht : t.size ≤ maxLen) :
    Calls Try.prog 9 #[v0, .string s, .string t] w fun e w' => e = .returned (.bool true) ∧ Below w.heap.size w w' := by
  have CF := fun W (h : Prs W v0 l0) => hide (bfew_any v0 l0 W h ok0)
  have okl := hide (bfew_okP l0)
  have hl := bfew_len l0
  have hn := fewB_max s
  have hx := fewB_max t
  have C1 := fun W => hide (fewB_any s W hs)
  have C2 := fun W => hide (fewB_any t W ht)
  generalize fewB2 l0 = l at *
  generalize fewB s = n at *
  generalize fewB t = x at *
  have hle : (allQ l n).length ≤ 31 := Nat.le_trans (all_len l n) hl
  have CG := fun v W (h : Prs W v l) => hide (get_any n v l W hn h okl.out)
  have CM := fun v W (h : Prs W v (l ++ [(n, x)])) => hide (get_any n v _ W hn h (ok_snoc okl.out hn hx))
  have CA := fun v W (h : Prs W v l) => hide (all_any n v l W hn h okl.out (by omega))
  have CB := fun v W (h : Prs W v (l ++ [(n, x)])) => hide (all_any n v _ W hn h (ok_snoc okl.out hn hx) (by simp; omega))
  have CD := fun v W (h : Prs W v l) => hide (add_any n x v l W h (by omega))
  rw [get_snoc] at CM
  rw [all_snoc2] at CB
  clear hs ht
  generalize allQ l n = al at *
  generalize getQ l n = o at *
  rcases o with _ | y
  all_goals
    simp only [valO, Option.getD_some, Option.getD_none, Option.isSome_some, Option.isSome_none] at CG CM
    go_enter Try.func9, Try.ntmps9
    go_wp2_with fail
    refine (CF w p0).out.mono ?_
    rintro e w1 ⟨v1, rfl, r1, hb1⟩
    have ql := Prs.of_row rfl r1
    clear r1
    go_wp2_with fail
    refine ((C1 _).out).mono ?_
    rintro e x ⟨rfl, hx⟩
    subst x
    go_wp2_with fail
    refine ((C2 _).out).mono ?_
    rintro e x ⟨rfl, hx⟩
    subst x
    go_wp2_with fail
    refine (CA _ _ ql).out.mono ?_
    rintro e w2 ⟨v2, rfl, qw, hb2⟩
    replace ql := ql.below hb2
    go_wp2_with fail
    refine (CD _ _ ql).out.mono ?_
    rintro e w3 ⟨v3, rfl, r3, hb3⟩
    have qm := Prs.of_row (by simp) r3
    replace ql := ql.below hb3
    replace qw := qw.below hb3
    clear r3
    go_wp2_with fail
    refine (CG _ _ ql).out.mono ?_
    rintro e w4 ⟨rfl, hb4⟩
    replace qw := qw.below hb4
    replace qm := qm.below hb4
    go_wp2_with fail
    refine (CM _ _ qm).out.mono ?_
    rintro e w5 ⟨rfl, hb5⟩
    replace ql := (ql.below hb4).below hb5
    replace qw := qw.below hb5
    replace qm := qm.below hb5
    have S := bb2 (bb2 (bb2 (bb2 hb1 hb2) hb3) hb4) hb5
    clear hb1 hb2 hb3 hb4 hb5
    have QM := hide qm
    have QW := hide qw
    obtain ⟨al1, cl1, rfl⟩ := ql.form
    obtain ⟨am, cm, rfl, _, _, hcm⟩ := qm
    obtain ⟨gm, om, rfl, _, d1, d2⟩ := hcm l.length (by simp)
    simp only [List.getElem_append_right (Nat.le_refl _), Nat.sub_self, List.getElem_cons_zero] at d1 d2
    have hlm : (l ++ [(n, x)]).length = l.length + 1 := by simp
    simp only [hlm] at QM ⊢
    clear hcm hlm ql qw
    have hne : ((l.length : Int) + 1 != (l.length : Int) + 1) = false := by simp
    go_wp2_with fail
    refine (CB _ _ QM.out).out.mono ?_
    rintro e w6 ⟨v6, rfl, q6, hb6⟩
    replace S := bb2 S hb6
    have QW6 := hide (QW.out.below hb6)
    have Q6 := hide q6
    clear q6 hb6 QW QM d1 d2
    go_wp2_with (first | (at_builtin; refine wpList_append_strs _ _ _ rfl (by rfl) w6.heap.size _ 0 [] rfl (owns_empty9 w6) _ al rfl (QW6.out.below ((Below.refl _ _).alloc (Nat.le_refl _) _)) (by omega) (by simp) ?_; intro v7 w7 r7 g7; have S7 : Below w6.heap.size w6 w7 := ((Below.refl _ _).alloc (Nat.le_refl _) _).grown g7 (by simp) (fun j e => ownBlock_ge (owns_empty9 w6) e); have R7 := hide r7; clear r7 g7) | (at_builtin; refine wpList_append_strs _ _ _ rfl (by rfl) w6.heap.size _ (0 + al.length) ([] ++ al) rfl (ownsRow_below R7.out ((Below.refl _ _).alloc (Nat.le_refl _) _)) _ _ rfl (Strs.at1 w7 _ rfl x) (by simp; omega) (by have := S7.size; simp; omega) ?_; intro v8 w8 r8 g8; have S8 : Below w6.heap.size w6 w8 := (S7.alloc S7.size _).grown g8 (by have := S7.size; simp; omega) (fun j e => ownBlock_ge R7.out e)))
    have q8 : Strs w8 v8 (al ++ [x]) := Strs.of_row (by simp) r8
    refine (same_any w8 _ _ _ _ (Q6.out.below S8) q8 (by unfold maxLen; simp; omega)).mono ?_
    rintro e w9 ⟨rfl, hb9⟩
    rw [decide_eq_true rfl]
    go_wp2_with fail
    refine (bawake_any _).mono ?_
    rintro e w10 ⟨rfl, hb10⟩
    go_wp2_with fail
    go_ret
    exact ⟨rfl, bb2 (bb2 (bb2 S S8) hb9) hb10⟩

theorem adds_arg (v0 : Value) (s t : ByteArray) (w : World) (a0 : ArgPrs w v0) (hs : s.size ≤ maxLen) (ht : t.size ≤ maxLen) :
    Calls Try.prog 9 #[v0, .string s, .string t] w fun e w' => e = .returned (.bool true) ∧ Below w.heap.size w w' := by
  obtain ⟨l, p, ok⟩ := a0
  exact adds_law v0 s t w l p ok hs ht

end Go.Proofs.Ytoaakhfedfameaa
