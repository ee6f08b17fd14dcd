/-
  The law QueryTurns.
-/
import Derived.Test.YtmjjjlanafiilaaDoorQuLawD
namespace Go.Proofs.YtmjjjlanafiilaaDoor
open Go Go.RowKit Go.Shelf Go.ChangeShapes Go.WideShapes Go.Deep

theorem u8_lit {n0 : Int} (h0 : (Lit.int .u8 n0).wf = true) : ∃ c : UInt8, n0 = (c.toNat : Int) := by
  simp [Lit.wf, IntKind.min, IntKind.max, IntKind.bits, IntKind.signed] at h0
  refine ⟨UInt8.ofNat n0.toNat, ?_⟩
  simp
  omega

set_option maxHeartbeats 1600000 in
/-- where there is nothing to be turned -/
theorem turns_no (v0 : Value) (c : UInt8) (w : World) (l : List PairB) (p0 : Prs w v0 l) (ok0 : ∀ p ∈ l, okP p) (h : Qu.may ((fewP l).map pl) = false ∨ fewP l = []) :
    Calls Tryd.prog 8 #[v0, .int .u8 (c.toNat : Int)] w fun e w' => e = .returned (.bool true) ∧ Below w.heap.size w w' := by
  have HA := hide (fewP_ok l)
  have CA := fun W (h : Prs W v0 l) => hide (few_any v0 l W h ok0)
  clear ok0
  generalize fewP l = A at *
  cases ha : Qu.may (A.map pl)
  · have TA := fun v W (h : Prs W v A) => hide (text_no v A W h HA.out ha)
    clear ha h
    go_enter Tryd.func8, Tryd.ntmps8
    go_wp2_with fail
    refine (CA w p0).out.mono ?_
    rintro e w1 ⟨va, rfl, qa, hb1⟩
    go_wp2_with fail
    refine ((TA va w1 qa).out).mono ?_
    rintro e w2 ⟨rfl, hb2⟩
    go_wp2_with fail
    refine (awake_any w2).mono ?_
    rintro e w3 ⟨rfl, hb3⟩
    go_wp2_with fail
    go_ret
    exact ⟨rfl, bb2 (bb2 hb1 hb2) hb3⟩
  · rw [ha] at h
    have hA : A = [] := by rcases h with h | h; cases h; exact h
    subst hA
    have TA := fun v W (h : Prs W v []) => hide (text_yes v [] W h HA.out ha)
    clear ha h
    go_enter Tryd.func8, Tryd.ntmps8
    go_wp2_with fail
    refine (CA w p0).out.mono ?_
    rintro e w1 ⟨va, rfl, qa, hb1⟩
    go_wp2_with fail
    refine ((TA va w1 qa).out).mono ?_
    rintro e w2 ⟨rfl, hb2⟩
    obtain ⟨aa, ca, rfl, _, _, hca⟩ := qa
    go_wp2_with fail
    refine (awake_any w2).mono ?_
    rintro e w3 ⟨rfl, hb3⟩
    go_wp2_with fail
    go_ret
    exact ⟨rfl, bb2 (bb2 hb1 hb2) hb3⟩

theorem turn_mayB (A : List PairB) (k : Nat) (h : Qu.may (A.map pl) = true) : Qu.may ((A.drop k ++ A.take k).map pl) = true := by
  rw [List.map_append, List.map_drop, List.map_take, Qu.turn_may]
  exact h
theorem turn_lenB (A : List PairB) (k : Nat) : (tx (A.drop k ++ A.take k)).length = (tx A).length := by
  unfold tx
  rw [List.map_append, List.map_drop, List.map_take, Qu.turn_length]
theorem one_mayB (A : List PairB) (k : Nat) (hk : k < A.length) (h : Qu.may (A.map pl) = true) : Qu.may (((A.drop k).take 1).map pl) = true := by
  have e : (A.drop k).take 1 = [A[k]] := by rw [List.drop_eq_getElem_cons hk]; rfl
  rw [e]
  exact Qu.may_part h (List.mem_map.2 ⟨A[k], List.getElem_mem hk, rfl⟩)
theorem has_one (A : List PairB) (k : Nat) (hk : k < A.length) : ∃ m, m + (mkB (tx ((A.drop k).take 1))).size ≤ (mkB (tx A)).size ∧ (mkB (tx A)).extract m (m + (mkB (tx ((A.drop k).take 1))).size) = mkB (tx ((A.drop k).take 1)) := by
  have e : (A.drop k).take 1 = [A[k]] := by rw [List.drop_eq_getElem_cons hk]; rfl
  obtain ⟨m, h1, h2⟩ := Qu.txt_has (A.map pl) k (by simpa using hk)
  have e2 : tx [A[k]] = Qu.one ((A.map pl)[k]'(by simpa using hk)) := by simp [tx, Qu.txt]
  rw [← e2] at h1 h2
  rw [e]
  refine ⟨m, h1, ?_⟩
  rw [mkB_size, Lib.extract_eq, mkB_list, Nat.add_sub_cancel_left]
  show (⟨_⟩ : ByteArray) = ⟨_⟩
  congr 2

/-- append, at a step of a region that draws its order -/
theorem step_append_own {P : Program} (w : World) {ops : Array Oper} {o : Oper} {a : Act} {K : Act → World → Prop} {Q : Exit → Act → World → Prop} {E : Prop} (hgd : o.guard = none) (s x : Operand) (t : TypeId)
    (ho : o.op = .call { callee := .builtin .append, args := #[s, x], argTypes := #[t, t] })
    (base : Nat) (e : TypeId) (i : TypeInfo) (z : Value) (size bytes : Nat) (ht : P.underlying t = some (.slice e)) (hi : P.info? e = some i) (hz : i.zero = some z)
    (hsize : i.size = size) (hby : i.bytes = bytes) (hzs : z.cells.size = size) (hsz : 0 < size)
    (v : Value) (n : Nat) (xs : List Value) (hs : a.eval s = v) (hown : w.ownsRow base e size v n xs)
    (ad : Addr) (m c : Nat) (news : List Value) (hx : a.eval x = .slice (some ad) m c) (hl : news.length = m * size) (hnews : ∀ j u, news[j]? = some u → w.cell? (ad.add j) = some u) (h1 : ∀ u ∈ news, u.oneCell' = true)
    (h63 : n + m ≤ maxLen) (hbytes : (n + m) * bytes ≤ 140737488355328) (hbase : base ≤ w.heap.size)
    (h : ∀ v' w', w'.ownsRow base e size v' (n + m) (xs ++ news) → w.grownBy w' v.ownBlock → K (a.put o.dst v') w') :
    if Region.wanted o (yielded ops a.tmps) = true then Oper.wp P o a w K Q else E := by
  have hw : Region.wanted o (yielded ops a.tmps) = true := by simp [Region.wanted, hgd]
  rw [if_pos hw]
  exact wp_append_own w s x t ho base e i z size bytes ht hi hz hsize hby hzs hsz v n xs hs hown ad m c news hx hl hnews h1 h63 hbytes hbase fun v' w' h2 h3 _ => h v' w' h2 h3

/-- a part of a slice of pairs -/
theorem Prs.sub {w : World} {g off n c : Nat} {l : List PairB} (h : Prs w (.slice (some ⟨g, off, none⟩) n c) l) (k m c' : Nat) (hm : k + m ≤ l.length) (hc : m ≤ c') (hc' : c' ≤ maxLen) : Prs w (.slice (some ⟨g, off + k * 2, none⟩) m c') ((l.drop k).take m) := by
  obtain ⟨a, cap, hv, _, _, hcell⟩ := h
  injection hv with e1
  subst e1
  have hl : ((l.drop k).take m).length = m := by simp; omega
  refine ⟨_, c', by rw [hl], by rw [hl]; exact hc, hc', fun i hi => ?_⟩
  rw [hl] at hi
  obtain ⟨g', off', ha, hg, c1, c2⟩ := hcell (k + i) (by omega)
  injection ha with ha
  injection ha with ha1 ha2
  subst ha1 ha2
  refine ⟨g, off + k * 2, rfl, hg, ?_, ?_⟩
  · have e : off + (k + i) * 2 = off + k * 2 + i * 2 := by omega
    rw [e] at c1
    simpa using c1
  · have e : off + (k + i) * 2 + 1 = off + k * 2 + i * 2 + 1 := by omega
    rw [e] at c2
    simpa using c2

set_option maxHeartbeats 1600000 in
theorem turns_yes (v0 : Value) (c : UInt8) (w : World) (l : List PairB) (p0 : Prs w v0 l) (ok0 : ∀ p ∈ l, okP p) (h1 : Qu.may ((fewP l).map pl) = true) (h2 : fewP l ≠ []) :
    Calls Tryd.prog 8 #[v0, .int .u8 (c.toNat : Int)] w fun e w' => e = .returned (.bool true) ∧ Below w.heap.size w w' := by
  obtain ⟨i0, hi, hz0, hz1, hz2⟩ := info_parts Tryd.infoPair
  have HA := hide (fewP_ok l)
  have CA := fun W (h : Prs W v0 l) => hide (few_any v0 l W h ok0)
  clear ok0
  generalize fewP l = A at *
  have hA0 : 0 < A.length := by
    rcases A with _ | ⟨p, A⟩
    · exact absurd rfl h2
    · simp
  have hA20 := (ok_of_may h1).2
  have TA := fun v W (h : Prs W v A) => hide (text_yes v A W h HA.out h1)
  have H1 := hide h1
  have hne : ((A.length : Int) == 0) = false := beq_eq_false_iff_ne.2 (by omega)
  have hc8 := c.toNat_lt
  clear h1 h2
  go_enter Tryd.func8, Tryd.ntmps8
  go_wp2_with fail
  refine (CA w p0).out.mono ?_
  rintro e w1 ⟨va, rfl, qa, hb1⟩
  go_wp2_with fail
  refine (TA va w1 qa).out.mono ?_
  rintro e w2 ⟨rfl, hb2⟩
  have QA := hide (qa.below hb2)
  obtain ⟨aa, ca, rfl, hca1, hca2, hca⟩ := qa
  obtain ⟨ga, oa, rfl, _⟩ := hca 0 hA0
  clear hca
  go_wp2_with fail
  rw [show ((c.toNat : Int) % (A.length : Int)) = ((c.toNat % A.length : Nat) : Int) by omega]
  have hk := Nat.mod_lt c.toNat hA0
  generalize c.toNat % A.length = k at *
  have k1 : (0 : Int) ≤ (k : Int) := by omega
  have k2 : (k : Int) ≤ (A.length : Int) := by omega
  have k3 : (k : Int) ≤ (ca : Int) := by omega
  have k4 : (A.length : Int) ≤ (ca : Int) := by omega
  clear hne hc8
  have S1 : Below w2.heap.size w2 (w2.drew.alloc (.cells #[] 42)) := (Below.refl _ _).drew.alloc (Nat.le_refl _) _
  have k5 : ¬ ca = k := by omega
  have QD := hide (Prs.sub QA.out k (A.length - k) (ca - k) (by omega) (by omega) (by omega))
  have QT : Hid (Prs w2 (.slice (some ⟨ga, oa, none⟩) k ca) ((A.drop 0).take k)) := by
    have := Prs.sub QA.out 0 k ca (by omega) (by omega) hca2
    simpa [Hid] using this
  go_region_held3 (fun w' => True) (trivial) (first
    | (refine step_append_own _ (by rfl) _ _ 22 (by rfl) w2.heap.size 42 i0 (.agg #[.string ⟨#[]⟩, .string ⟨#[]⟩]) 2 32 Tryd.underlying22 hi hz0 hz1 hz2 (by rfl) (by decide) (.slice (some ⟨w2.heap.size, 0, none⟩) 0 0) 0 [] (by rfl) (owns_empty w2.drew) ⟨ga, oa + k * 2, none⟩ (A.length - k) (ca - k) (flat ((A.drop k).take (A.length - k))) (by rfl) (by rw [flat_len, List.length_take, List.length_drop]; omega) (QD.out.below S1).news (flat_one _) (by unfold maxLen; omega) (by omega) (by simp) ?_; intro v1 w3 hown1 hgrow1; have S2 := S1.grown hgrow1 (by simp) (fun j e => ownBlock_ge (owns_empty w2.drew) e))
    | (refine step_append_own _ (by rfl) _ _ 22 (by rfl) w2.heap.size 42 i0 (.agg #[.string ⟨#[]⟩, .string ⟨#[]⟩]) 2 32 Tryd.underlying22 hi hz0 hz1 hz2 (by rfl) (by decide) v1 (0 + (A.length - k)) ([] ++ flat ((A.drop k).take (A.length - k))) (by rfl) hown1 ⟨ga, oa, none⟩ k ca (flat ((A.drop 0).take k)) (by rfl) (by rw [flat_len, List.length_take, List.length_drop]; omega) (QT.out.below S2).news (flat_one _) (by unfold maxLen; omega) (by omega) S2.size ?_; intro v2 w4 hown2 hgrow2; have S3 := S2.grown hgrow2 S2.size (fun j e => ownBlock_ge hown1 e)))
  have q4 : Prs w4 v2 (A.drop k ++ A.take k) := Prs.of_row (n := 0 + (A.length - k) + k) (by simp; omega) (by
    rw [flat_append]
    have := hown2
    rw [List.drop_zero, List.take_of_length_le (l := A.drop k) (by simp)] at this
    exact this)
  have QA4 := hide (QA.out.below S3)
  have B4 := bb2 (bb2 hb1 hb2) S3
  clear hown1 hown2 hgrow1 hgrow2 S1 S2 S3 QD QT hb1 hb2 QA TA CA
  have okU : ∀ p ∈ A.drop k ++ A.take k, p.1.size ≤ 41 ∧ p.2.size ≤ 41 := fun p hp => HA.out p (by
    rcases List.mem_append.1 hp with h | h
    · exact List.mem_of_mem_drop h
    · exact List.mem_of_mem_take h)
  have lU : (A.drop k ++ A.take k).length = A.length := by simp; omega
  have mU := turn_mayB A k H1.out
  have tU := turn_lenB A k
  have zU : (mkB (tx (A.drop k ++ A.take k))).size ≤ 100000 := by rw [mkB_size]; have := tx_len okU (by omega); omega
  have pU : Qu.parse (mkB (tx (A.drop k ++ A.take k))).data.toList = some ((A.drop k ++ A.take k).map pl) := by rw [mkB_list]; exact Qu.parse_txt mU
  obtain ⟨m, hm1, hm2⟩ := has_one A k hk
  have mO := one_mayB A k hk H1.out
  have okO : ∀ p ∈ (A.drop k).take 1, p.1.size ≤ 41 ∧ p.2.size ≤ 41 := fun p hp => HA.out p (List.mem_of_mem_drop (List.mem_of_mem_take hp))
  have CT := fun W (h : Prs W v2 (A.drop k ++ A.take k)) => hide (text_yes v2 _ W h okU mU)
  have CO := fun v W (h : Prs W v ((A.drop k).take 1)) => hide (text_yes v _ W h okO mO)
  have CP := fun W => hide (qparse_yes _ _ W zU pU)
  have zA : (mkB (tx A)).size ≤ 100000 := by rw [mkB_size]; have := tx_len HA.out (by omega); omega
  clear okU mU zU pU mO okO H1 HA
  generalize A.drop k ++ A.take k = U at *
  rw [← mkB_size, ← mkB_size] at tU
  generalize mkB (tx U) = t at *
  generalize mkB (tx A) = s at *
  generalize mkB (tx ((A.drop k).take 1)) = o at *
  have hzz : ((t.size : Int) != (s.size : Int)) = false := by rw [bne_eq_false_iff_eq]; omega
  have k6 : (k : Int) + 1 ≤ (A.length : Int) := by omega
  have k7 : (k : Int) + 1 ≤ (ca : Int) := by omega
  go_wp2_with fail
  refine (CT w4 q4).out.mono ?_
  rintro e w5 ⟨rfl, hb5⟩
  go_wp2_with fail
  refine (CP w5).out.mono ?_
  rintro e w6 ⟨vx, rfl, qx, hb6⟩
  go_wp2_with fail
  refine (CO _ w6 (Prs.sub ((QA4.out.below hb5).below hb6) k 1 (ca - k) (by omega) (by omega) (by omega))).out.mono ?_
  rintro e w7 ⟨rfl, hb7⟩
  go_wp2_with fail
  refine (psame_any w7 vx v2 U U (qx.below hb7) (((q4.below hb5).below hb6).below hb7)).mono ?_
  rintro e w8 ⟨rfl, hb8⟩
  rw [decide_eq_true rfl]
  have B8 := bb2 (bb2 (bb2 (bb2 B4 hb5) hb6) hb7) hb8
  clear CT CP CO hb5 hb6 hb7 hb8 q4 qx QA4 B4
  go_wp2_with fail
  go_loopw [15] (fun i wr => ∃ j : Nat, j ≤ m ∧ i = .int .i64 j ∧ Below w.heap.size w wr) (fun i _ => m + 1 - (intOf i).toNat)
  case atStart => exact ⟨0, Nat.zero_le _, rfl, B8⟩
  case round =>
    obtain ⟨j, hj, rfl, hB⟩ := hrel
    have j1 : (j : Int) + (o.size : Int) ≤ (s.size : Int) := by omega
    have j2 : (j : Int) ≤ (j : Int) + (o.size : Int) := by omega
    cases hq : ((s.extract j (j + o.size)).toList == o.toList)
    · have hjm : j ≠ m := by
        rintro rfl
        rw [hm2] at hq
        simp at hq
      go_wp2_with fail
      exact ⟨⟨j + 1, by omega, by go_num, hB⟩, by simp [intOf]; omega⟩
    · go_wp2_with fail
      refine (awake_any wr).mono ?_
      rintro e w9 ⟨rfl, hb9⟩
      go_wp2_with fail
      go_ret
      exact ⟨rfl, bb2 hB hb9⟩

theorem queryTurns_any (v0 : Value) (n1 : Int) (w : World) (h0 : ArgPrs w v0) (h1 : (Lit.int .u8 n1).wf = true) :
    Calls Tryd.prog 8 #[v0, .int .u8 n1] w fun e w' => e = .returned (.bool true) ∧ Below w.heap.size w w' := by
  obtain ⟨l, p0, ok0⟩ := h0
  obtain ⟨c, rfl⟩ := u8_lit h1
  by_cases h : Qu.may ((fewP l).map pl) = true ∧ fewP l ≠ []
  · exact turns_yes v0 c w l p0 ok0 h.1 h.2
  · refine turns_no v0 c w l p0 ok0 ?_
    by_cases h2 : fewP l = []
    · exact .inr h2
    · left
      cases h3 : Qu.may ((fewP l).map pl)
      · rfl
      · exact absurd ⟨h3, h2⟩ h

end Go.Proofs.YtmjjjlanafiilaaDoor
