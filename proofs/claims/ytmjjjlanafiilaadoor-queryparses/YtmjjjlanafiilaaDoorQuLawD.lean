/-
  The law QueryJoins.
-/
import Derived.Test.YtmjjjlanafiilaaDoorQuLawB
namespace Go.Proofs.YtmjjjlanafiilaaDoor
open Go Go.RowKit Go.Shelf Go.ChangeShapes Go.WideShapes Go.Deep

theorem join_data (a b : ByteArray) : (a ++ (⟨#[38]⟩ : ByteArray) ++ b).data.toList = a.data.toList ++ 38 :: b.data.toList := by
  simp [ByteArray.data_append]
theorem join_size (a b : ByteArray) : (a ++ (⟨#[38]⟩ : ByteArray) ++ b).size = a.size + 1 + b.size := by
  rw [ByteArray.size_append, ByteArray.size_append]; rfl
theorem some_pairs {o : Option (List Qu.PairL)} {x : List Qu.PairL} (h : o = some x) : o = some ((x.map bp).map pl) := by rw [h, map_pl_bp]
theorem parse_ne {s : List UInt8} {l : List Qu.PairL} (hs : s ≠ []) (h : Qu.parse s = some l) : l ≠ [] := by
  rintro rfl
  have := ((Qu.parse_some hs).1 h).1
  rw [parts_iff] at this
  have h1 := D.spl_ne 38 s
  cases hs : D.spl 38 s with
  | nil => exact h1 hs
  | cons a b => rw [hs] at this; simp at this

/-- append, where the operation is guarded and wanted -/
theorem wpList_append_g {P : Program} (w : World) {ops : Array Oper} {rest : List Oper} {o : Oper} {a : Act} {Q : Exit → Act → World → Prop} (hw : Region.wanted o (yielded ops a.tmps) = true) (s x : Operand) (t : TypeId)
    (ho : o.op = .call { callee := .builtin .append, args := #[s, x], argTypes := #[t, t] })
    (base : Nat) (e : TypeId) (i : TypeInfo) (z : Value) (size bytes : Nat) (ht : P.underlying t = some (.slice e)) (hi : P.info? e = some i) (hz : i.zero = some z)
    (hsize : i.size = size) (hby : i.bytes = bytes) (hzs : z.cells.size = size) (hsz : 0 < size)
    (v : Value) (n : Nat) (xs : List Value) (hs : a.eval s = v) (hown : w.ownsRow base e size v n xs)
    (ad : Addr) (m c : Nat) (news : List Value) (hx : a.eval x = .slice (some ad) m c) (hl : news.length = m * size) (hnews : ∀ j u, news[j]? = some u → w.cell? (ad.add j) = some u) (h1 : ∀ u ∈ news, u.oneCell' = true)
    (h63 : n + m ≤ maxLen) (hbytes : (n + m) * bytes ≤ 140737488355328) (hbase : base ≤ w.heap.size)
    (h : ∀ v' w', w'.ownsRow base e size v' (n + m) (xs ++ news) → w.grownBy w' v.ownBlock → wpList P ops Q rest (a.put o.dst v') w') : wpList P ops Q (o :: rest) a w :=
  wpList_step fun K hK => by
    rw [if_pos hw]
    exact wp_append_own w s x t ho base e i z size bytes ht hi hz hsize hby hzs hsz v n xs hs hown ad m c news hx hl hnews h1 h63 hbytes hbase fun v' w' h2 h3 _ => hK _ _ (h v' w' h2 h3)

theorem owns_empty (w : World) : (w.alloc (.cells #[] 42)).ownsRow w.heap.size 42 2 (.slice (some ⟨w.heap.size, 0, none⟩) 0 0) 0 [] :=
  ⟨rfl, .inr ⟨w.heap.size, 0, #[], rfl, Nat.le_refl _, alloc_new w _, Nat.le_refl _, Nat.zero_le _, rfl, rfl⟩⟩
theorem flat_inv (l : List PairB) (j : Nat) (u : Value) (h : (flat l)[j]? = some u) : ∃ i, ∃ hi : i < l.length, (j = i * 2 ∧ u = .string l[i].1) ∨ (j = i * 2 + 1 ∧ u = .string l[i].2) := by
  have hj : j < l.length * 2 := by rw [← flat_len]; exact (List.getElem?_eq_some_iff.1 h).1
  have hi : j / 2 < l.length := by omega
  obtain ⟨h1, h2⟩ := flat_at l (j / 2) hi
  rcases (by omega : j = j / 2 * 2 ∨ j = j / 2 * 2 + 1) with e | e
  · rw [← e, h] at h1
    exact ⟨j / 2, hi, .inl ⟨e, Option.some.inj h1⟩⟩
  · rw [← e, h] at h2
    exact ⟨j / 2, hi, .inr ⟨e, Option.some.inj h2⟩⟩
theorem Prs.news {w : World} {ad : Addr} {n c : Nat} {l : List PairB} (h : Prs w (.slice (some ad) n c) l) : ∀ j u, (flat l)[j]? = some u → w.cell? (ad.add j) = some u := by
  intro j u hu
  obtain ⟨i, hi, hc⟩ := flat_inv l j u hu
  obtain ⟨a, cap, hv, _, _, hcell⟩ := h
  obtain ⟨g, off, ha, _, c1, c2⟩ := hcell i hi
  subst ha
  injection hv with e1
  injection e1 with e1
  subst e1
  rw [add_plain]
  rcases hc with ⟨rfl, rfl⟩ | ⟨rfl, rfl⟩
  · exact c1
  · exact c2

/-- where a or b is not read, or is nothing -/
theorem joins_bad (s0 s1 : ByteArray) (w : World) (hs0 : s0.size ≤ maxLen) (hs1 : s1.size ≤ maxLen)
    (hbad : Qu.parse (text6 s0).data.toList = none ∨ Qu.parse (text6 s1).data.toList = none ∨ (text6 s0).data.toList = [] ∨ (text6 s1).data.toList = []) :
    Calls Tryd.prog 5 #[.string s0, .string s1] w fun e w' => e = .returned (.bool true) ∧ Below w.heap.size w w' := by
  have C0 := fun W => hide (ltext_any s0 W hs0)
  have C1 := fun W => hide (ltext_any s1 W hs1)
  have la := text6_le s0
  have lb := text6_le s1
  generalize text6 s0 = a at *
  generalize text6 s1 = b at *
  have hJ : Qu.parse (a ++ (⟨#[38]⟩ : ByteArray) ++ b).data.toList = none := by rw [join_data]; exact Qu.join_bad hbad
  have hJs := join_size a b
  have PJ := fun W => hide (qparse_no (a ++ (⟨#[38]⟩ : ByteArray) ++ b) W (by omega) hJ)
  clear hJ hJs hs0 hs1
  cases ha : Qu.parse a.data.toList with
  | none =>
    have PA := fun W => hide (qparse_no a W (by omega) ha)
    cases hb : Qu.parse b.data.toList with
    | none =>
      have PB := fun W => hide (qparse_no b W (by omega) hb)
      clear ha hb hbad
      go_enter Tryd.func5, Tryd.ntmps5
      go_wp2_with fail
      refine ((C0 w).out).mono ?_
      rintro e x ⟨rfl, hx⟩
      subst x
      go_wp2_with fail
      refine ((C1 w).out).mono ?_
      rintro e x ⟨rfl, hx⟩
      subst x
      go_wp2_with fail
      refine ((PA w).out).mono ?_
      rintro e w1 ⟨rfl, hb1⟩
      go_wp2_with fail
      refine ((PB w1).out).mono ?_
      rintro e w2 ⟨rfl, hb2⟩
      go_wp2_with fail
      refine ((PJ w2).out).mono ?_
      rintro e w3 ⟨rfl, hb3⟩
      go_wp2_with fail
      refine (awake_any w3).mono ?_
      rintro e w4 ⟨rfl, hb4⟩
      go_wp2_with fail
      go_ret
      exact ⟨rfl, bb2 (bb2 (bb2 hb1 hb2) hb3) hb4⟩
    | some y =>
      have PB := fun W => hide (qparse_yes b _ W (by omega) (some_pairs hb))
      clear ha hb hbad
      go_enter Tryd.func5, Tryd.ntmps5
      go_wp2_with fail
      refine ((C0 w).out).mono ?_
      rintro e x ⟨rfl, hx⟩
      subst x
      go_wp2_with fail
      refine ((C1 w).out).mono ?_
      rintro e x ⟨rfl, hx⟩
      subst x
      go_wp2_with fail
      refine ((PA w).out).mono ?_
      rintro e w1 ⟨rfl, hb1⟩
      go_wp2_with fail
      refine (PB w1).out.mono ?_
      rintro e w2 ⟨vb, rfl, qb, hb2⟩
      go_wp2_with fail
      refine ((PJ w2).out).mono ?_
      rintro e w3 ⟨rfl, hb3⟩
      go_wp2_with fail
      refine (awake_any w3).mono ?_
      rintro e w4 ⟨rfl, hb4⟩
      go_wp2_with fail
      go_ret
      exact ⟨rfl, bb2 (bb2 (bb2 hb1 hb2) hb3) hb4⟩
  | some x =>
    have PA := fun W => hide (qparse_yes a _ W (by omega) (some_pairs ha))
    cases hb : Qu.parse b.data.toList with
    | none =>
      have PB := fun W => hide (qparse_no b W (by omega) hb)
      clear ha hb hbad
      go_enter Tryd.func5, Tryd.ntmps5
      go_wp2_with fail
      refine ((C0 w).out).mono ?_
      rintro e x ⟨rfl, hx⟩
      subst x
      go_wp2_with fail
      refine ((C1 w).out).mono ?_
      rintro e x ⟨rfl, hx⟩
      subst x
      go_wp2_with fail
      refine (PA w).out.mono ?_
      rintro e w1 ⟨va, rfl, qa, hb1⟩
      go_wp2_with fail
      refine ((PB w1).out).mono ?_
      rintro e w2 ⟨rfl, hb2⟩
      go_wp2_with fail
      refine ((PJ w2).out).mono ?_
      rintro e w3 ⟨rfl, hb3⟩
      go_wp2_with fail
      refine (awake_any w3).mono ?_
      rintro e w4 ⟨rfl, hb4⟩
      go_wp2_with fail
      go_ret
      exact ⟨rfl, bb2 (bb2 (bb2 hb1 hb2) hb3) hb4⟩
    | some y =>
      have PB := fun W => hide (qparse_yes b _ W (by omega) (some_pairs hb))
      have hb' : (a.toList.isEmpty = true) ∨ (a.toList.isEmpty = false ∧ b.toList.isEmpty = true) := by
        rw [Lib.toList_data, Lib.toList_data, List.isEmpty_iff, List.isEmpty_iff]
        rcases hbad with h | h | h | h
        · rw [ha] at h; cases h
        · rw [hb] at h; cases h
        · exact .inl h
        · by_cases h2 : a.data.toList = []
          · exact .inl h2
          · exact .inr ⟨by rw [← Bool.not_eq_true, List.isEmpty_iff]; exact h2, h⟩
      clear ha hb hbad
      rcases hb' with he | ⟨he, hf⟩
      all_goals
        go_enter Tryd.func5, Tryd.ntmps5
        go_wp2_with fail
        refine ((C0 w).out).mono ?_
        rintro e x ⟨rfl, hx⟩
        subst x
        go_wp2_with fail
        refine ((C1 w).out).mono ?_
        rintro e x ⟨rfl, hx⟩
        subst x
        go_wp2_with fail
        refine (PA w).out.mono ?_
        rintro e w1 ⟨va, rfl, qa, hb1⟩
        go_wp2_with fail
        refine (PB w1).out.mono ?_
        rintro e w2 ⟨vb, rfl, qb, hb2⟩
        go_wp2_with fail
        refine ((PJ w2).out).mono ?_
        rintro e w3 ⟨rfl, hb3⟩
        go_wp2_with fail
        refine (awake_any w3).mono ?_
        rintro e w4 ⟨rfl, hb4⟩
        go_wp2_with fail
        go_ret
        exact ⟨rfl, bb2 (bb2 (bb2 hb1 hb2) hb3) hb4⟩

set_option maxHeartbeats 1600000 in
/-- where both are read -/
theorem joins_good (s0 s1 : ByteArray) (w : World) (hs0 : s0.size ≤ maxLen) (hs1 : s1.size ≤ maxLen) (x y : List PairB)
    (ha : Qu.parse (text6 s0).data.toList = some (x.map pl)) (hb : Qu.parse (text6 s1).data.toList = some (y.map pl)) (hna : (text6 s0).data.toList ≠ []) (hnb : (text6 s1).data.toList ≠ []) :
    Calls Tryd.prog 5 #[.string s0, .string s1] w fun e w' => e = .returned (.bool true) ∧ Below w.heap.size w w' := by
  obtain ⟨i0, hi, hz0, hz1, hz2⟩ := info_parts Tryd.infoPair
  have C0 := fun W => hide (ltext_any s0 W hs0)
  have C1 := fun W => hide (ltext_any s1 W hs1)
  have la := text6_le s0
  have lb := text6_le s1
  generalize text6 s0 = a at *
  generalize text6 s1 = b at *
  have hJs := join_size a b
  have PA := fun W => hide (qparse_yes a x W (by omega) ha)
  have PB := fun W => hide (qparse_yes b y W (by omega) hb)
  have ea : a.toList.isEmpty = false := by rw [Lib.toList_data, ← Bool.not_eq_true, List.isEmpty_iff]; exact hna
  have eb : b.toList.isEmpty = false := by rw [Lib.toList_data, ← Bool.not_eq_true, List.isEmpty_iff]; exact hnb
  have hx0 : 0 < x.length := by
    have := parse_ne hna ha
    rcases x with _ | ⟨p, x⟩
    · exact absurd rfl this
    · simp
  have hy0 : 0 < y.length := by
    have := parse_ne hnb hb
    rcases y with _ | ⟨p, y⟩
    · exact absurd rfl this
    · simp
  have hx20 := (ok_of_may (Qu.parse_may ha)).2
  have hy20 := (ok_of_may (Qu.parse_may hb)).2
  have hJ := Qu.join_good hna hnb ha hb
  rw [← join_data, List.length_map, List.length_map] at hJ
  clear ha hb hna hnb hs0 hs1
  by_cases h20 : x.length + y.length ≤ 20
  · rw [if_pos h20, ← List.map_append] at hJ
    have PJ := fun W => hide (qparse_yes (a ++ (⟨#[38]⟩ : ByteArray) ++ b) (x ++ y) W (by omega) hJ)
    clear hJ hJs
    have i20 : ¬ (20 : Int) < (x.length : Int) + (y.length : Int) := by omega
    go_enter Tryd.func5, Tryd.ntmps5
    go_wp2_with fail
    refine ((C0 w).out).mono ?_
    rintro e x ⟨rfl, hx⟩
    subst x
    go_wp2_with fail
    refine ((C1 w).out).mono ?_
    rintro e x ⟨rfl, hx⟩
    subst x
    go_wp2_with fail
    refine (PA w).out.mono ?_
    rintro e w1 ⟨va, rfl, qa, hb1⟩
    go_wp2_with fail
    refine (PB w1).out.mono ?_
    rintro e w2 ⟨vb, rfl, qb, hb2⟩
    go_wp2_with fail
    refine (PJ w2).out.mono ?_
    rintro e w3 ⟨vj, rfl, qj, hb3⟩
    have qa3 := (qa.below hb2).below hb3
    have qb3 := qb.below hb3
    have B3 := bb2 (bb2 hb1 hb2) hb3
    clear qa qb hb1 hb2 hb3 PA PB PJ C0 C1
    have QA := hide qa3
    have QB := hide qb3
    obtain ⟨aa, ca, rfl, _, _, hca⟩ := qa3
    obtain ⟨ab, cb, rfl, _, _, hcb⟩ := qb3
    obtain ⟨ga, oa, rfl, _⟩ := hca 0 hx0
    obtain ⟨gb, ob, rfl, _⟩ := hcb 0 hy0
    clear hca hcb
    have S1 : Below w3.heap.size w3 (w3.alloc (.cells #[] 42)) := (Below.refl _ _).alloc (Nat.le_refl _) _
    go_wp2_with (first | (at_builtin; refine wpList_append_g _ (by rfl) _ _ 22 rfl w3.heap.size 42 i0 (.agg #[.string ⟨#[]⟩, .string ⟨#[]⟩]) 2 32 Tryd.underlying22 hi hz0 hz1 hz2 rfl (by decide) _ 0 [] rfl (owns_empty w3) ⟨ga, oa, none⟩ x.length ca (flat x) rfl (by rw [flat_len]) (QA.out.below S1).news (flat_one _) (by unfold maxLen; omega) (by omega) (by simp) ?_; intro v1 w4 hown1 hgrow1; have S2 := S1.grown hgrow1 (by simp) (fun j e => ownBlock_ge (owns_empty w3) e)) | (at_builtin; refine wpList_append_g _ (by rfl) _ _ 22 rfl w3.heap.size 42 i0 (.agg #[.string ⟨#[]⟩, .string ⟨#[]⟩]) 2 32 Tryd.underlying22 hi hz0 hz1 hz2 rfl (by decide) _ (0 + x.length) ([] ++ flat x) rfl hown1 ⟨gb, ob, none⟩ y.length cb (flat y) rfl (by rw [flat_len]) (QB.out.below S2).news (flat_one _) (by unfold maxLen; omega) (by omega) S2.size ?_; intro v2 w5 hown2 hgrow2; have S3 := S2.grown hgrow2 S2.size (fun j e => ownBlock_ge hown1 e)))
    have q5 : Prs w5 v2 (x ++ y) := Prs.of_row (n := 0 + x.length + y.length) (by simp) (by rw [flat_append]; exact hown2)
    refine (psame_any w5 vj v2 (x ++ y) (x ++ y) (qj.below S3) q5).mono ?_
    rintro e w6 ⟨rfl, hb6⟩
    rw [decide_eq_true rfl]
    go_wp2_with fail
    refine (awake_any w6).mono ?_
    rintro e w7 ⟨rfl, hb7⟩
    go_wp2_with fail
    go_ret
    exact ⟨rfl, bb2 (bb2 (bb2 B3 S3) hb6) hb7⟩
  · rw [if_neg h20] at hJ
    have PJ := fun W => hide (qparse_no (a ++ (⟨#[38]⟩ : ByteArray) ++ b) W (by omega) hJ)
    clear hJ hJs
    have i20 : (20 : Int) < (x.length : Int) + (y.length : Int) := by omega
    go_enter Tryd.func5, Tryd.ntmps5
    go_wp2_with fail
    refine ((C0 w).out).mono ?_
    rintro e x ⟨rfl, hx⟩
    subst x
    go_wp2_with fail
    refine ((C1 w).out).mono ?_
    rintro e x ⟨rfl, hx⟩
    subst x
    go_wp2_with fail
    refine (PA w).out.mono ?_
    rintro e w1 ⟨va, rfl, qa, hb1⟩
    go_wp2_with fail
    refine (PB w1).out.mono ?_
    rintro e w2 ⟨vb, rfl, qb, hb2⟩
    go_wp2_with fail
    refine (PJ w2).out.mono ?_
    rintro e w3 ⟨rfl, hb3⟩
    obtain ⟨aa, ca, rfl, _, _, hca⟩ := qa
    obtain ⟨ab, cb, rfl, _, _, hcb⟩ := qb
    clear hca hcb
    go_wp2_with fail
    refine (awake_any w3).mono ?_
    rintro e w4 ⟨rfl, hb4⟩
    go_wp2_with fail
    go_ret
    exact ⟨rfl, bb2 (bb2 (bb2 hb1 hb2) hb3) hb4⟩

theorem queryJoins_any (s0 s1 : ByteArray) (w : World) (hs0 : s0.size ≤ maxLen) (hs1 : s1.size ≤ maxLen) :
    Calls Tryd.prog 5 #[.string s0, .string s1] w fun e w' => e = .returned (.bool true) ∧ Below w.heap.size w w' := by
  by_cases hbad : Qu.parse (text6 s0).data.toList = none ∨ Qu.parse (text6 s1).data.toList = none ∨ (text6 s0).data.toList = [] ∨ (text6 s1).data.toList = []
  · exact joins_bad s0 s1 w hs0 hs1 hbad
  · simp only [not_or] at hbad
    obtain ⟨h1, h2, h3, h4⟩ := hbad
    obtain ⟨x, hx⟩ := Option.ne_none_iff_exists'.1 h1
    obtain ⟨y, hy⟩ := Option.ne_none_iff_exists'.1 h2
    exact joins_good s0 s1 w hs0 hs1 _ _ (some_pairs hx) (some_pairs hy) h3 h4

end Go.Proofs.YtmjjjlanafiilaaDoor
