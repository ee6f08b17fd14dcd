/-
  Walks: rule's mayHead, mayQuery, May, Holds.
-/
import Derived.Test.YtblmdcpcekoogaaGreatDoorRuWalkA
namespace Go.Proofs.YtblmdcpcekoogaaGreatDoor
set_option maxRecDepth 20000
open Go Go.RowKit Go.Shelf

attribute [local go_sem] gb_const

theorem token_b (s : ByteArray) (w : World) (hs : s.size ≤ maxLen) :
    Calls Tryz.prog 238 #[.string s] w fun e w' => e = .returned (.bool (tokenB s)) ∧ Below w.heap.size w w' :=
  (token_any s w hs).mono fun _ _ ⟨h, hw⟩ => ⟨h.is tokenB_iff, by rw [hw]; exact Below.refl _ _⟩
theorem value_b (s : ByteArray) (w : World) (hs : s.size ≤ maxLen) :
    Calls Tryz.prog 239 #[.string s] w fun e w' => e = .returned (.bool (valueB s)) ∧ Below w.heap.size w w' :=
  (value_any s w hs).mono fun _ _ ⟨h, hw⟩ => ⟨h.is valueB_iff, by rw [hw]; exact Below.refl _ _⟩

/-- the first ones of a list -/
theorem Prs.pre {w : World} {a : Option Addr} {n cap : Nat} {l : List PairB} (h : Prs w (.slice a n cap) l) {k : Nat} (hk : k ≤ l.length) : Prs w (.slice a k cap) (l.take k) := by
  obtain ⟨a', cap', hv, h1, h2, hc⟩ := h
  injection hv with e1 e2 e3
  subst e1 e2 e3
  have hl : (l.take k).length = k := by simp; omega
  refine ⟨a, cap, by rw [hl], by rw [hl]; omega, h2, fun i hi => ?_⟩
  rw [hl] at hi
  obtain ⟨g, off, ha, hg, c1, c2⟩ := hc i (by omega)
  exact ⟨g, off, ha, hg, by simpa using c1, by simpa using c2⟩

/-- which fields may be asked for -/
def headB (l : List PairB) : Bool := decide (l.length ≤ 8) && (l.all (fun p => tokenB p.1 && valueB p.2) && farB sameF l)
def queryB (l : List PairB) : Bool := decide (l.length ≤ 8) && (Qu.may (l.map pl) && farB sameE l)
theorem mayM_parts (m : MB) : mayM m = (mayP m.kind m.val.data.toList && ((m.meth.size == 0 || methB m.meth) && (headB m.head && queryB m.query))) := by
  unfold mayM headB queryB
  cases mayP m.kind m.val.data.toList <;> cases (m.meth.size == 0 || methB m.meth) <;> cases decide (m.head.length ≤ 8) <;> cases decide (m.query.length ≤ 8) <;> cases Qu.may (m.query.map pl) <;> cases m.head.all (fun p => tokenB p.1 && valueB p.2) <;> cases farB sameF m.head <;> cases farB sameE m.query <;> rfl

section
variable {same : ByteArray → ByteArray → Bool} {l : List PairB}
/-- no name of the first k like one ahead of it -/
def FarB (same : ByteArray → ByteArray → Bool) (l : List PairB) (k : Nat) : Prop := ∀ x y (hx : x < l.length) (hy : y < l.length), x < k → y < x → same l[y].1 l[x].1 = false
theorem far_next {k : Nat} (hk : k < l.length) (h : FarB same l k) (hn : namedB same l[k].1 (l.take k) = false) : FarB same l (k + 1) := by
  intro x y hx hy hxk hyx
  rcases Nat.lt_or_ge x k with h1 | h1
  · exact h x y hx hy h1 hyx
  · obtain rfl : x = k := by omega
    unfold namedB at hn
    rw [List.any_eq_false] at hn
    have hm : l[y] ∈ l.take x := by
      rw [List.mem_take_iff_getElem]
      exact ⟨y, by omega, rfl⟩
    have := hn _ hm
    simpa using this
theorem far_done (hs : ∀ a b, same a b = same b a) (h : FarB same l l.length) : farB same l = true := by
  rw [farB_iff]
  intro x y hx hy hyx
  rw [hs]
  exact h x y hx hy hx hyx
theorem far_not (hs : ∀ a b, same a b = same b a) {k : Nat} (hk : k < l.length) (hn : namedB same l[k].1 (l.take k) = true) : farB same l = false := by
  cases hf : farB same l
  · rfl
  · rw [farB_iff] at hf
    unfold namedB at hn
    rw [List.any_eq_true] at hn
    obtain ⟨p, hp, hps⟩ := hn
    rw [List.mem_take_iff_getElem] at hp
    obtain ⟨y, hy, rfl⟩ := hp
    have := hf k y hk (by omega) (by omega)
    rw [hs, hps] at this
    cases this
end
theorem head_long {l : List PairB} (h : 8 < l.length) : headB l = false := by
  unfold headB
  rw [decide_eq_false (by omega), Bool.false_and]
theorem query_long {l : List PairB} (h : 8 < l.length) : queryB l = false := by
  unfold queryB
  rw [decide_eq_false (by omega), Bool.false_and]
theorem head_bad {l : List PairB} {k : Nat} (hk : k < l.length) (h : (tokenB l[k].1 && valueB l[k].2) = false) : headB l = false := by
  have : l.all (fun p => tokenB p.1 && valueB p.2) = false := by
    rw [List.all_eq_false]
    exact ⟨_, List.getElem_mem hk, by rw [h]; decide⟩
  unfold headB
  rw [this, Bool.false_and, Bool.and_false]
theorem head_twice {l : List PairB} {k : Nat} (hk : k < l.length) (h : namedB sameF l[k].1 (l.take k) = true) : headB l = false := by
  unfold headB
  rw [far_not symF hk h, Bool.and_false, Bool.and_false]
theorem head_done {l : List PairB} (h8 : ¬ 8 < l.length) (h : ∀ j (hj : j < l.length), j < l.length → (tokenB l[j].1 && valueB l[j].2) = true) (hf : FarB sameF l l.length) : headB l = true := by
  have h1 : l.all (fun p => tokenB p.1 && valueB p.2) = true := by
    rw [List.all_eq_true]
    intro p hp
    obtain ⟨j, hj, rfl⟩ := List.getElem_of_mem hp
    exact h j hj hj
  unfold headB
  rw [h1, far_done symF hf, decide_eq_true (by omega)]
  rfl

set_option maxHeartbeats 1600000 in
theorem mayHead_any (v : Value) (l : List PairB) (w : World) (hv : Prs w v l) (hok : ∀ p ∈ l, okP p) :
    Calls Tryz.prog 261 #[v] w fun e w' => e = .returned (.bool (headB l)) ∧ Below w.heap.size w w' := by
  have hlen := hv.len
  have HV := hide hv
  obtain ⟨a, cap, rfl, _, _, hc⟩ := hv
  have HC := hide hc
  have HOK := hide hok
  clear hc hok
  by_cases h8 : 8 < l.length
  · have t8 : (8 : Int) < (l.length : Int) := by omega
    have HE : Hid (false = headB l) := (head_long h8).symm
    go_enter Tryz.func261, Tryz.ntmps261
    go_wp2_with fail
    go_ret
    exact ⟨ret_bool HE.out, Below.refl _ _⟩
  have t8 : ¬ (8 : Int) < (l.length : Int) := by omega
  go_enter Tryz.func261, Tryz.ntmps261
  go_wp2_with fail
  go_loopw [10] (fun i wr => ∃ k : Nat, k ≤ l.length ∧ i = .int .i64 k ∧ Hid (∀ j (hj : j < l.length), j < k → (tokenB l[j].1 && valueB l[j].2) = true) ∧ Hid (FarB sameF l k) ∧ Below w.heap.size w wr) (fun i _ => l.length - (intOf i).toNat)
  case atStart => exact ⟨0, Nat.zero_le _, rfl, fun _ _ h => absurd h (by omega), fun _ _ _ _ h => absurd h (by omega), Below.refl _ _⟩
  case round =>
    obtain ⟨k, hk, rfl, hall, hfar, hB⟩ := hrel
    by_cases hlt : k < l.length
    · have hlt' : (k : Int) < (l.length : Int) := by omega
      have HPRE := hide (HV.out.pre (k := k) hk)
      obtain ⟨g, off, rfl, hg, c1, c2⟩ := HC.out k hlt
      replace c1 := (hB.cell (p := ⟨g, off + k * 2, none⟩) hg).trans c1
      replace c2 := (hB.cell (p := ⟨g, off + k * 2 + 1, none⟩) hg).trans c2
      obtain ⟨o1, o2⟩ := HOK.out _ (List.getElem_mem hlt)
      have HOKK : Hid (∀ p ∈ l.take k, okP p) := fun p hp => HOK.out p (List.mem_of_mem_take hp)
      have HBAD := hide (head_bad hlt)
      have HTW := hide (head_twice hlt)
      have HFN := hide (far_next hlt hfar.out)
      have HAN : Hid ((tokenB l[k].1 && valueB l[k].2) = true → ∀ j (hj : j < l.length), j < k + 1 → (tokenB l[j].1 && valueB l[j].2) = true) := fun h j hj hjk => by
        rcases Nat.lt_or_ge j k with h1 | h1
        · exact hall.out j hj h1
        · obtain rfl : j = k := by omega
          exact h
      clear hall hfar
      generalize l[k].1 = p1 at *
      generalize l[k].2 = p2 at *
      have CT := fun W => hide (token_b p1 W o1)
      have CV := fun W => hide (value_b p2 W o2)
      have CN := fun W (h : Below w.heap.size w W) => hide (named_any cmp_same p1 _ (l.take k) W o1 (HPRE.out.below h) HOKK.out)
      have hBB : Below w.heap.size w (wr.alloc (.cells #[.string p1, .string p2] 83)) := hB.alloc hB.size _
      have b1 := fun q : GB (wr.alloc (.cells #[.string p1, .string p2] 83)) => box_fst q.h
      have b2 := fun q : GB (wr.alloc (.cells #[.string p1, .string p2] 83)) => box_snd q.h
      cases ht : tokenB p1
      · have HE : Hid (false = headB l) := (HBAD.out (by rw [ht]; rfl)).symm
        rw [ht] at CT
        clear ht HBAD HTW HFN HAN
        go_wp2_with fail
        refine wp_region_below (by kernel_rfl) (by kernel_rfl) ?_
        repeat (first | go_big_quiet_step ((go_at_call 238; exact calls_gb (CT _).out)) | quiet_step ((go_at_call 238; exact calls_gb (CT _).out)))
        refine wpQuiet_nil ?_
        intro _ hw'
        obtain ⟨qq, hw2⟩ := hw'
        subst hw2
        have hq := bb2 hBB qq.h
        go_wp2_with fail
        go_ret
        exact ⟨ret_bool HE.out, hq⟩
      · rw [ht] at CT
        cases hvv : valueB p2
        · have HE : Hid (false = headB l) := (HBAD.out (by rw [ht, hvv]; rfl)).symm
          rw [hvv] at CV
          clear ht hvv HBAD HTW HFN HAN
          go_wp2_with fail
          refine wp_region_below (by kernel_rfl) (by kernel_rfl) ?_
          repeat (first | go_big_quiet_step ((first | (go_at_call 238; exact calls_gb (CT _).out) | (go_at_call 239; exact calls_gb (CV _).out))) | quiet_step ((first | (go_at_call 238; exact calls_gb (CT _).out) | (go_at_call 239; exact calls_gb (CV _).out))))
          refine wpQuiet_nil ?_
          intro _ hw'
          obtain ⟨qq, hw2⟩ := hw'
          subst hw2
          have hq := bb2 hBB qq.h
          go_wp2_with fail
          go_ret
          exact ⟨ret_bool HE.out, hq⟩
        · rw [hvv] at CV
          have HAN' := hide (HAN.out (by rw [ht, hvv]; rfl))
          have CN' := fun q : GB (wr.alloc (.cells #[.string p1, .string p2] 83)) => CN q.W (bb2 hBB q.h)
          cases hn : namedB sameF p1 (l.take k)
          · have HFN' := hide (HFN.out hn)
            rw [hn] at CN'
            clear ht hvv hn HBAD HTW HFN HAN CN
            go_wp2_with fail
            refine wp_region_below (by kernel_rfl) (by kernel_rfl) ?_
            repeat (first | go_big_quiet_step ((first | (go_at_call 238; exact calls_gb (CT _).out) | (go_at_call 239; exact calls_gb (CV _).out) | (go_at_call 277; exact calls_gb (CN' _).out))) | quiet_step ((first | (go_at_call 238; exact calls_gb (CT _).out) | (go_at_call 239; exact calls_gb (CV _).out) | (go_at_call 277; exact calls_gb (CN' _).out))))
            refine wpQuiet_nil ?_
            intro _ hw'
            obtain ⟨qq, hw2⟩ := hw'
            subst hw2
            have hq := bb2 hBB qq.h
            go_wp2_with fail
            exact ⟨⟨k + 1, by omega, by go_num, HAN'.out, HFN'.out, hq⟩, by simp [intOf]; omega⟩
          · have HE : Hid (false = headB l) := (HTW.out hn).symm
            rw [hn] at CN'
            clear ht hvv hn HBAD HTW HFN HAN CN
            go_wp2_with fail
            refine wp_region_below (by kernel_rfl) (by kernel_rfl) ?_
            repeat (first | go_big_quiet_step ((first | (go_at_call 238; exact calls_gb (CT _).out) | (go_at_call 239; exact calls_gb (CV _).out) | (go_at_call 277; exact calls_gb (CN' _).out))) | quiet_step ((first | (go_at_call 238; exact calls_gb (CT _).out) | (go_at_call 239; exact calls_gb (CV _).out) | (go_at_call 277; exact calls_gb (CN' _).out))))
            refine wpQuiet_nil ?_
            intro _ hw'
            obtain ⟨qq, hw2⟩ := hw'
            subst hw2
            have hq := bb2 hBB qq.h
            go_wp2_with fail
            go_ret
            exact ⟨ret_bool HE.out, hq⟩
    · have hlt' : ¬ (k : Int) < (l.length : Int) := by omega
      obtain rfl : k = l.length := by omega
      have HE : Hid (true = headB l) := (head_done h8 hall.out hfar.out).symm
      go_wp2_with fail
      go_ret
      exact ⟨ret_bool HE.out, hB⟩

theorem query_not {l : List PairB} (h : Qu.may (l.map pl) = false) : queryB l = false := by
  unfold queryB
  rw [h, Bool.false_and, Bool.and_false]
theorem query_twice {l : List PairB} {k : Nat} (hk : k < l.length) (h : namedB sameE l[k].1 (l.take k) = true) : queryB l = false := by
  unfold queryB
  rw [far_not symE hk h, Bool.and_false, Bool.and_false]
theorem query_done {l : List PairB} (h8 : ¬ 8 < l.length) (h : Qu.may (l.map pl) = true) (hf : FarB sameE l l.length) : queryB l = true := by
  unfold queryB
  rw [h, far_done symE hf, decide_eq_true (by omega)]
  rfl

set_option maxHeartbeats 1600000 in
theorem mayQuery_any (v : Value) (l : List PairB) (w : World) (hv : Prs w v l) (hok : ∀ p ∈ l, okP p) :
    Calls Tryz.prog 262 #[v] w fun e w' => e = .returned (.bool (queryB l)) ∧ Below w.heap.size w w' := by
  have hlen := hv.len
  have HV := hide hv
  have CQ := hide (qmay_any v l w hv hok)
  obtain ⟨a, cap, rfl, _, _, hc⟩ := hv
  have HC := hide hc
  have HOK := hide hok
  clear hc hok
  by_cases h8 : 8 < l.length
  · have t8 : (8 : Int) < (l.length : Int) := by omega
    have HE : Hid (false = queryB l) := (query_long h8).symm
    go_enter Tryz.func262, Tryz.ntmps262
    go_wp2_with fail
    go_ret
    exact ⟨ret_bool HE.out, Below.refl _ _⟩
  have t8 : ¬ (8 : Int) < (l.length : Int) := by omega
  cases hqm : Qu.may (l.map pl)
  · have HE : Hid (false = queryB l) := (query_not hqm).symm
    rw [hqm] at CQ
    clear hqm
    go_enter Tryz.func262, Tryz.ntmps262
    go_wp2_with fail
    refine (CQ.out).mono ?_
    rintro e w1 ⟨rfl, hb1⟩
    go_wp2_with fail
    go_ret
    exact ⟨ret_bool HE.out, hb1⟩
  have HQM := hide hqm
  rw [hqm] at CQ
  clear hqm
  go_enter Tryz.func262, Tryz.ntmps262
  go_wp2_with fail
  refine (CQ.out).mono ?_
  rintro e w1 ⟨rfl, hb1⟩
  go_wp2_with fail
  go_loopw [15] (fun i wr => ∃ k : Nat, k ≤ l.length ∧ i = .int .i64 k ∧ Hid (FarB sameE l k) ∧ Below w.heap.size w wr) (fun i _ => l.length - (intOf i).toNat)
  case atStart => exact ⟨0, Nat.zero_le _, rfl, fun _ _ _ _ h => absurd h (by omega), hb1⟩
  case round =>
    obtain ⟨k, hk, rfl, hfar, hB⟩ := hrel
    by_cases hlt : k < l.length
    · have hlt' : (k : Int) < (l.length : Int) := by omega
      have HPRE := hide (HV.out.pre (k := k) hk)
      obtain ⟨g, off, rfl, hg, c1, c2⟩ := HC.out k hlt
      replace c1 := (hB.cell (p := ⟨g, off + k * 2, none⟩) hg).trans c1
      replace c2 := (hB.cell (p := ⟨g, off + k * 2 + 1, none⟩) hg).trans c2
      obtain ⟨o1, o2⟩ := HOK.out _ (List.getElem_mem hlt)
      have HOKK : Hid (∀ p ∈ l.take k, okP p) := fun p hp => HOK.out p (List.mem_of_mem_take hp)
      have HTW := hide (query_twice hlt)
      have HFN := hide (far_next hlt hfar.out)
      clear hfar
      generalize l[k].1 = p1 at *
      generalize l[k].2 = p2 at *
      have hBB : Below w.heap.size w (wr.alloc (.cells #[.string p1, .string p2] 83)) := hB.alloc hB.size _
      have b1 := fun q : GB (wr.alloc (.cells #[.string p1, .string p2] 83)) => box_fst q.h
      have b2 := fun q : GB (wr.alloc (.cells #[.string p1, .string p2] 83)) => box_snd q.h
      have CN' := fun q : GB (wr.alloc (.cells #[.string p1, .string p2] 83)) => hide (named_any cmp_requal p1 _ (l.take k) q.W o1 (HPRE.out.below (bb2 hBB q.h)) HOKK.out)
      cases hn : namedB sameE p1 (l.take k)
      · have HFN' := hide (HFN.out hn)
        rw [hn] at CN'
        clear hn HTW HFN
        go_wp2_with fail
        refine wp_region_below (by kernel_rfl) (by kernel_rfl) ?_
        repeat (first | go_big_quiet_step ((go_at_call 277; exact calls_gb (CN' _).out)) | quiet_step ((go_at_call 277; exact calls_gb (CN' _).out)))
        refine wpQuiet_nil ?_
        intro _ hw'
        obtain ⟨qq, hw2⟩ := hw'
        subst hw2
        have hq := bb2 hBB qq.h
        go_wp2_with fail
        exact ⟨⟨k + 1, by omega, by go_num, HFN'.out, hq⟩, by simp [intOf]; omega⟩
      · have HE : Hid (false = queryB l) := (HTW.out hn).symm
        rw [hn] at CN'
        clear hn HTW HFN
        go_wp2_with fail
        refine wp_region_below (by kernel_rfl) (by kernel_rfl) ?_
        repeat (first | go_big_quiet_step ((go_at_call 277; exact calls_gb (CN' _).out)) | quiet_step ((go_at_call 277; exact calls_gb (CN' _).out)))
        refine wpQuiet_nil ?_
        intro _ hw'
        obtain ⟨qq, hw2⟩ := hw'
        subst hw2
        have hq := bb2 hBB qq.h
        go_wp2_with fail
        go_ret
        exact ⟨ret_bool HE.out, hq⟩
    · have hlt' : ¬ (k : Int) < (l.length : Int) := by omega
      obtain rfl : k = l.length := by omega
      have HE : Hid (true = queryB l) := (query_done h8 HQM.out hfar.out).symm
      go_wp2_with fail
      go_ret
      exact ⟨ret_bool HE.out, hB⟩

end Go.Proofs.YtblmdcpcekoogaaGreatDoor
