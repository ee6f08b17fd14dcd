/-
  Walks: askOf, mayVals, mayAsk, slices.Index, Contains, holds, otherKind.
-/
import Derived.Test.YtecnjbaanbakoaaDoorLaWalkA
namespace Go.Proofs.YtecnjbaanbakoaaDoor
open Go Go.RowKit Go.Shelf

theorem lkinds (k : Int) : k = 1 ∨ k = 2 ∨ k = 3 ∨ k = 4 ∨ ((k == 1) = false ∧ (k == 2) = false ∧ (k == 3) = false ∧ (k == 4) = false) := by
  by_cases h1 : k = 1
  · exact .inl h1
  by_cases h2 : k = 2
  · exact .inr (.inl h2)
  by_cases h3 : k = 3
  · exact .inr (.inr (.inl h3))
  by_cases h4 : k = 4
  · exact .inr (.inr (.inr (.inl h4)))
  exact .inr (.inr (.inr (.inr ⟨by simpa using h1, by simpa using h2, by simpa using h3, by simpa using h4⟩)))
theorem askV_none {k : Int} (v : Value) (h1 : (k == 1) = false) (h2 : (k == 2) = false) (h3 : (k == 3) = false) (h4 : (k == 4) = false) : askV k v = .nilIface := by
  simp at h1 h2 h3 h4
  simp [askV, h1, h2, h3, h4]

set_option maxHeartbeats 800000 in
theorem askOf_any (k : Int) (nm : ByteArray) (a : Option Addr) (n c : Nat) (w : World) :
    Calls Tryd.prog 37 #[.agg #[.int .i64 k, .string nm, .slice a n c]] w fun e w' => e = .returned (askV k (.slice a n c)) ∧ Below w.heap.size w w' := by
  rcases lkinds k with rfl | rfl | rfl | rfl | ⟨h1, h2, h3, h4⟩
  · go_enter Tryd.func37, Tryd.ntmps37
    go_wp2_with fail
    go_ret
    exact ⟨rfl, (Below.refl _ _).alloc (Nat.le_refl _) _⟩
  · go_enter Tryd.func37, Tryd.ntmps37
    go_wp2_with fail
    go_ret
    exact ⟨rfl, (Below.refl _ _).alloc (Nat.le_refl _) _⟩
  · go_enter Tryd.func37, Tryd.ntmps37
    go_wp2_with fail
    go_ret
    exact ⟨rfl, (Below.refl _ _).alloc (Nat.le_refl _) _⟩
  · go_enter Tryd.func37, Tryd.ntmps37
    go_wp2_with fail
    go_ret
    exact ⟨rfl, (Below.refl _ _).alloc (Nat.le_refl _) _⟩
  · have ha := hide (askV_none (.slice a n c) h1 h2 h3 h4)
    go_enter Tryd.func37, Tryd.ntmps37
    go_wp2_with fail
    go_ret
    exact ⟨by rw [ha.out]; rfl, (Below.refl _ _).alloc (Nat.le_refl _) _⟩

set_option maxHeartbeats 800000 in
theorem otherKind_any (k : Int) (a : Option Addr) (n c : Nat) (w : World) :
    Calls Tryd.prog 36 #[askV k (.slice a n c)] w fun e w' => e = .returned (.int .i64 (La.otherK k)) ∧ w' = w := by
  rcases lkinds k with rfl | rfl | rfl | rfl | ⟨h1, h2, h3, h4⟩
  · show Calls Tryd.prog 36 #[kT 64 (.slice a n c)] w _
    have f1 := as_isis
    go_enter Tryd.func36, Tryd.ntmps36
    go_wp2_with fail
    go_ret
    exact ⟨rfl, rfl⟩
  · show Calls Tryd.prog 36 #[kT 65 (.slice a n c)] w _
    have f1 := as_nnis
    have f2 := as_nnnn
    go_enter Tryd.func36, Tryd.ntmps36
    go_wp2_with fail
    go_ret
    exact ⟨rfl, rfl⟩
  · show Calls Tryd.prog 36 #[kT 66 (.slice a n c)] w _
    have f1 := as_hais
    have f2 := as_hann
    have f3 := as_haha
    go_enter Tryd.func36, Tryd.ntmps36
    go_wp2_with fail
    go_ret
    exact ⟨rfl, rfl⟩
  · show Calls Tryd.prog 36 #[kT 67 (.slice a n c)] w _
    have f1 := as_lais
    have f2 := as_lann
    have f3 := as_laha
    have f4 := as_lala
    go_enter Tryd.func36, Tryd.ntmps36
    go_wp2_with fail
    go_ret
    exact ⟨rfl, rfl⟩
  · rw [askV_none (.slice a n c) h1 h2 h3 h4]
    have ho : Hid (La.otherK k = 0) := by
      simp at h1 h2 h3 h4
      simp [Hid, La.otherK, h1, h2, h3, h4]
    have f1 := nil_is
    have f2 := nil_nn
    have f3 := nil_ha
    have f4 := nil_la
    clear h1 h2 h3 h4
    go_enter Tryd.func36, Tryd.ntmps36
    go_wp2_with fail
    go_ret
    exact ⟨by rw [ho.out]; rfl, rfl⟩

/-- how far mayVals has come -/
theorem lall_take {α : Type} {p : α → Bool} {l : List α} {k : Nat} (hk : k < l.length) (h : (l.take k).all p = true) (h2 : p l[k] = true) : (l.take (k + 1)).all p = true := by
  rw [List.take_succ_eq_append_getElem hk, List.all_append, h]
  simp [h2]
theorem lall_gone {α : Type} {p : α → Bool} {l : List α} {k : Nat} (hk : k < l.length) (h2 : p l[k] = false) : l.all p = false := by
  rw [List.all_eq_false]
  exact ⟨l[k], List.getElem_mem hk, by simp [h2]⟩
theorem lall_end {α : Type} {p : α → Bool} {l : List α} {k : Nat} (hk : l.length ≤ k) (h : (l.take k).all p = true) : l.all p = true := by
  rwa [List.take_of_length_le hk] at h

set_option maxHeartbeats 800000 in
theorem mayVals_any (v : Value) (l : List ByteArray) (w : World) (hv : Sl ES w v l) (hok : ∀ s ∈ l, s.size ≤ maxLen) :
    Calls Tryd.prog 46 #[v] w fun e w' => e = .returned (.bool (La.mayVs l)) ∧ w' = w := by
  have hlen := hv.len
  obtain ⟨a, cap, rfl, _, _, hc⟩ := hv
  have HC := hide hc
  have HOK := hide hok
  clear hc hok
  by_cases h0 : l.length = 0
  · have hz : ((l.length : Int) == 0) = true := by simpa using h0
    have hm : Hid (La.mayVs l = false) := by simp [Hid, La.mayVs, h0]
    go_enter Tryd.func46, Tryd.ntmps46
    go_wp2_with fail
    go_ret
    exact ⟨ret_bool hm.out.symm, rfl⟩
  have hz : ((l.length : Int) == 0) = false := by simpa using h0
  by_cases h8 : 8 < l.length
  · have hz8 : (8 : Int) < (l.length : Int) := by omega
    have hm : Hid (La.mayVs l = false) := by
      unfold Hid La.mayVs
      rw [decide_eq_false (show ¬ l.length ≤ 8 by omega), Bool.and_false, Bool.false_and]
    go_enter Tryd.func46, Tryd.ntmps46
    go_wp2_with fail
    go_ret
    exact ⟨ret_bool hm.out.symm, rfl⟩
  have hz8 : ¬ (8 : Int) < (l.length : Int) := by omega
  have hm : Hid (La.mayVs l = l.all La.mayV) := by
    unfold Hid La.mayVs
    rw [decide_eq_true (show 1 ≤ l.length by omega), decide_eq_true (show l.length ≤ 8 by omega)]
    rfl
  go_enter Tryd.func46, Tryd.ntmps46
  go_wp2_with fail
  go_loopw [15] (fun i wr => ∃ k : Nat, k ≤ l.length ∧ i = .int .i64 k ∧ Hid ((l.take k).all La.mayV = true) ∧ wr = w) (fun i _ => l.length - (intOf i).toNat)
  case atStart => exact ⟨0, Nat.zero_le _, rfl, rfl, rfl⟩
  case round =>
    obtain ⟨k, hk, rfl, hall, rfl⟩ := hrel
    by_cases hlt : k < l.length
    · have hlt' : (k : Int) < (l.length : Int) := by omega
      obtain ⟨_, g, off, rfl, hg, c1⟩ := HC.out k hlt
      replace c1 := ES_at c1
      rw [show off + k * ES.n = off + k from by show off + k * 1 = _; rw [Nat.mul_one]] at c1
      have o1 := HOK.out _ (List.getElem_mem hlt)
      have HT := hide (fun h => lall_take (p := La.mayV) hlt hall.out h)
      have HG := hide (fun h => lall_gone (p := La.mayV) hlt h)
      generalize l[k] = s at *
      cases hq : La.mayV s
      · have hq2 := hide (HG.out hq)
        go_wp2_with fail
        refine (mayVal_any s wr o1).mono ?_
        rintro e x ⟨rfl, hx⟩
        subst x
        rw [hq]
        go_wp2_with fail
        go_ret
        exact ⟨ret_bool (by rw [hm.out, hq2.out]), rfl⟩
      · have hq2 := hide (HT.out hq)
        go_wp2_with fail
        refine (mayVal_any s wr o1).mono ?_
        rintro e x ⟨rfl, hx⟩
        subst x
        rw [hq]
        go_wp2_with fail
        exact ⟨⟨k + 1, by omega, by go_num, hq2.out, trivial⟩, by simp [intOf]; omega⟩
    · have hlt' : ¬ (k : Int) < (l.length : Int) := by omega
      have hq := hide (lall_end (p := La.mayV) (by omega) hall.out)
      go_wp2_with fail
      go_ret
      exact ⟨ret_bool (by rw [hm.out, hq.out]), rfl⟩

/-- may it be asked? -/
def mayAskB (k : Int) (l : List ByteArray) : Bool := if k = 1 ∨ k = 2 then La.mayVs l else if k = 3 ∨ k = 4 then decide (l.length = 0) else false

set_option maxHeartbeats 1600000 in
theorem mayAsk_any (k : Int) (v : Value) (l : List ByteArray) (w : World) (hv : Sl ES w v l) (hok : ∀ s ∈ l, s.size ≤ maxLen) :
    Calls Tryd.prog 39 #[askV k v] w fun e w' => e = .returned (.bool (mayAskB k l)) ∧ w' = w := by
  have hlen := hv.len
  have HM := hide (fun w1 (h : Sl ES w1 v l) => mayVals_any v l w1 h hok)
  have HV := hide hv
  obtain ⟨a, cap, rfl⟩ := hv.form
  clear hv hok
  rcases lkinds k with rfl | rfl | rfl | rfl | ⟨h1, h2, h3, h4⟩
  · show Calls Tryd.prog 39 #[kT 64 (.slice a l.length cap)] w _
    have f1 := as_isis
    have f2 := as_isnn
    have f3 := with_is
    go_enter Tryd.func39, Tryd.ntmps39
    go_wp2_with fail
    refine (with_any a l.length cap w).mono ?_
    rintro e x ⟨rfl, hx⟩
    subst x
    go_wp2_with fail
    refine (HM.out w HV.out).mono ?_
    rintro e x ⟨rfl, hx⟩
    subst x
    go_wp2_with fail
    go_ret
    exact ⟨ret_bool (by simp [mayAskB]), rfl⟩
  · show Calls Tryd.prog 39 #[kT 65 (.slice a l.length cap)] w _
    have f1 := as_nnis
    have f2 := as_nnnn
    have f3 := with_nn
    go_enter Tryd.func39, Tryd.ntmps39
    go_wp2_with fail
    refine (with_any a l.length cap w).mono ?_
    rintro e x ⟨rfl, hx⟩
    subst x
    go_wp2_with fail
    refine (HM.out w HV.out).mono ?_
    rintro e x ⟨rfl, hx⟩
    subst x
    go_wp2_with fail
    go_ret
    exact ⟨ret_bool (by simp [mayAskB]), rfl⟩
  · show Calls Tryd.prog 39 #[kT 66 (.slice a l.length cap)] w _
    have f1 := as_hais
    have f2 := as_hann
    have f3 := as_haha
    have f4 := as_hala
    have f5 := with_ha
    have hd : Hid (mayAskB 3 l = ((l.length : Int) == 0)) := by
      unfold Hid
      by_cases h : l.length = 0
      · have h' : ((l.length : Int) == 0) = true := by simpa using h
        rw [h']
        simp [mayAskB, h]
      · have h' : ((l.length : Int) == 0) = false := by simpa using h
        rw [h']
        simp [mayAskB, h]
    go_enter Tryd.func39, Tryd.ntmps39
    go_wp2_with fail
    refine (with_any a l.length cap w).mono ?_
    rintro e x ⟨rfl, hx⟩
    subst x
    go_wp2_with fail
    go_ret
    exact ⟨ret_bool (by rw [hd.out]), rfl⟩
  · show Calls Tryd.prog 39 #[kT 67 (.slice a l.length cap)] w _
    have f1 := as_lais
    have f2 := as_lann
    have f3 := as_laha
    have f4 := as_lala
    have f5 := with_la
    have hd : Hid (mayAskB 4 l = ((l.length : Int) == 0)) := by
      unfold Hid
      by_cases h : l.length = 0
      · have h' : ((l.length : Int) == 0) = true := by simpa using h
        rw [h']
        simp [mayAskB, h]
      · have h' : ((l.length : Int) == 0) = false := by simpa using h
        rw [h']
        simp [mayAskB, h]
    go_enter Tryd.func39, Tryd.ntmps39
    go_wp2_with fail
    refine (with_any a l.length cap w).mono ?_
    rintro e x ⟨rfl, hx⟩
    subst x
    go_wp2_with fail
    go_ret
    exact ⟨ret_bool (by rw [hd.out]), rfl⟩
  · have hd : Hid (mayAskB k l = false) := by
      simp at h1 h2 h3 h4
      simp [Hid, mayAskB, h1, h2, h3, h4]
    rw [askV_none (.slice a l.length cap) h1 h2 h3 h4]
    clear h1 h2 h3 h4
    have f1 := nil_is
    have f2 := nil_nn
    have f3 := nil_ha
    have f4 := nil_la
    go_enter Tryd.func39, Tryd.ntmps39
    go_wp2_with fail
    go_ret
    exact ⟨ret_bool hd.out.symm, rfl⟩

/-! slices.Index, Contains -/
theorem in_take {l : List ByteArray} {s : ByteArray} {k : Nat} (hk : k < l.length) (h : Hid (La.inL s (l.take k) = false)) (h2 : (s.toList == l[k].toList) = false) : Hid (La.inL s (l.take (k + 1)) = false) := by
  unfold Hid La.inL
  have h := h.out
  unfold La.inL at h
  rw [List.take_succ_eq_append_getElem hk, List.any_append, h]
  have : l[k] ≠ s := fun e => by rw [e] at h2; simp at h2
  simp [this]
theorem in_yes {l : List ByteArray} {s : ByteArray} {k : Nat} (hk : k < l.length) (h2 : (s.toList == l[k].toList) = true) : La.inL s l = true := by
  unfold La.inL
  rw [List.any_eq_true]
  exact ⟨l[k], List.getElem_mem hk, by rw [decide_eq_true_eq]; exact (bytes_eq h2).symm⟩

set_option maxHeartbeats 800000 in
theorem sindex_any (v : Value) (l : List ByteArray) (s : ByteArray) (w : World) (hv : Sl ES w v l) :
    Calls Tryd.prog 50 #[v, .string s] w fun e w' => ∃ i : Int, e = .returned (.int .i64 i) ∧ decide (0 ≤ i) = La.inL s l ∧ w' = w := by
  have hlen := hv.len
  obtain ⟨a, cap, rfl, _, _, hc⟩ := hv
  have HC := hide hc
  clear hc
  go_enter Tryd.func50, Tryd.ntmps50
  go_wp2_with fail
  go_loopw [8] (fun i wr => ∃ k : Nat, k ≤ l.length ∧ i = .int .i64 k ∧ Hid (La.inL s (l.take k) = false) ∧ wr = w) (fun i _ => l.length - (intOf i).toNat)
  case atStart => exact ⟨0, Nat.zero_le _, rfl, rfl, rfl⟩
  case round =>
    obtain ⟨k, hk, rfl, hno, rfl⟩ := hrel
    by_cases hlt : k < l.length
    · have hlt' : (k : Int) < (l.length : Int) := by omega
      obtain ⟨_, g, off, rfl, hg, c1⟩ := HC.out k hlt
      replace c1 := ES_at c1
      rw [show off + k * ES.n = off + k from by show off + k * 1 = _; rw [Nat.mul_one]] at c1
      have HT := hide (fun h => in_take hlt hno h)
      have HG := hide (fun h => in_yes (s := s) hlt h)
      generalize l[k] = x at *
      cases hq : (s.toList == x.toList)
      · have hq2 := HT.out hq
        go_wp2_with fail
        exact ⟨⟨k + 1, by omega, by go_num, hq2, trivial⟩, by simp [intOf]; omega⟩
      · have hq2 := hide (HG.out hq)
        go_wp2_with fail
        go_ret
        exact ⟨_, rfl, by rw [hq2.out]; simp, rfl⟩
    · have hlt' : ¬ (k : Int) < (l.length : Int) := by omega
      have hq : Hid (La.inL s l = false) := by
        have := hno.out
        rwa [List.take_of_length_le (by omega)] at this
      go_wp2_with fail
      go_ret
      exact ⟨_, rfl, by rw [hq.out]; rfl, rfl⟩

set_option maxHeartbeats 400000 in
theorem scontains_any (v : Value) (l : List ByteArray) (s : ByteArray) (w : World) (hv : Sl ES w v l) :
    Calls Tryd.prog 47 #[v, .string s] w fun e w' => e = .returned (.bool (La.inL s l)) ∧ w' = w := by
  have HI := hide (sindex_any v l s w hv)
  obtain ⟨a, cap, rfl⟩ := hv.form
  clear hv
  go_enter Tryd.func47, Tryd.ntmps47
  go_wp2_with fail
  refine HI.out.mono ?_
  rintro e w1 ⟨i, rfl, hi, hw⟩
  subst w1
  have HD := hide hi
  clear hi
  go_wp2_with fail
  go_ret
  exact ⟨ret_bool HD.out, rfl⟩

/-- is it so of a label that is there, or not? -/
def holdsB (k : Int) (l : List ByteArray) (there : Bool) (s : ByteArray) : Bool :=
  if k = 1 then there && La.inL s l else if k = 2 then !there || !La.inL s l else if k = 3 then there else if k = 4 then !there else false

set_option maxHeartbeats 1600000 in
theorem holds_l (k : Int) (v : Value) (l : List ByteArray) (there : Bool) (s : ByteArray) (w : World) (hv : Sl ES w v l) :
    Calls Tryd.prog 41 #[askV k v, .bool there, .string s] w fun e w' => e = .returned (.bool (holdsB k l there s)) ∧ w' = w := by
  have HM := hide (scontains_any v l s w hv)
  obtain ⟨a, cap, rfl⟩ := hv.form
  clear hv
  rcases lkinds k with rfl | rfl | rfl | rfl | ⟨h1, h2, h3, h4⟩
  · show Calls Tryd.prog 41 #[kT 64 (.slice a l.length cap), .bool there, .string s] w _
    have f1 := as_isis
    have f3 := with_is
    cases there
    · go_enter Tryd.func41, Tryd.ntmps41
      go_wp2_with fail
      go_ret
      exact ⟨ret_bool (by simp [holdsB]), rfl⟩
    · go_enter Tryd.func41, Tryd.ntmps41
      go_wp2_with fail
      refine (with_any a l.length cap w).mono ?_
      rintro e x ⟨rfl, hx⟩
      subst x
      go_wp2_with fail
      refine (HM.out).mono ?_
      rintro e x ⟨rfl, hx⟩
      subst x
      go_wp2_with fail
      go_ret
      exact ⟨ret_bool (by simp [holdsB]), rfl⟩
  · show Calls Tryd.prog 41 #[kT 65 (.slice a l.length cap), .bool there, .string s] w _
    have f1 := as_nnis
    have f2 := as_nnnn
    have f3 := with_nn
    cases there
    · go_enter Tryd.func41, Tryd.ntmps41
      go_wp2_with fail
      go_ret
      exact ⟨ret_bool (by simp [holdsB]), rfl⟩
    · go_enter Tryd.func41, Tryd.ntmps41
      go_wp2_with fail
      refine (with_any a l.length cap w).mono ?_
      rintro e x ⟨rfl, hx⟩
      subst x
      go_wp2_with fail
      refine (HM.out).mono ?_
      rintro e x ⟨rfl, hx⟩
      subst x
      go_wp2_with fail
      go_ret
      exact ⟨ret_bool (by simp [holdsB]), rfl⟩
  · show Calls Tryd.prog 41 #[kT 66 (.slice a l.length cap), .bool there, .string s] w _
    have f1 := as_hais
    have f2 := as_hann
    have f3 := as_haha
    go_enter Tryd.func41, Tryd.ntmps41
    go_wp2_with fail
    go_ret
    exact ⟨ret_bool (by simp [holdsB]), rfl⟩
  · show Calls Tryd.prog 41 #[kT 67 (.slice a l.length cap), .bool there, .string s] w _
    have f1 := as_lais
    have f2 := as_lann
    have f3 := as_laha
    have f4 := as_lala
    go_enter Tryd.func41, Tryd.ntmps41
    go_wp2_with fail
    go_ret
    exact ⟨ret_bool (by simp [holdsB]), rfl⟩
  · have hd : Hid (holdsB k l there s = false) := by
      simp at h1 h2 h3 h4
      simp [Hid, holdsB, h1, h2, h3, h4]
    rw [askV_none (.slice a l.length cap) h1 h2 h3 h4]
    clear h1 h2 h3 h4
    have f1 := nil_is
    have f2 := nil_nn
    have f3 := nil_ha
    have f4 := nil_la
    go_enter Tryd.func41, Tryd.ntmps41
    go_wp2_with fail
    go_ret
    exact ⟨ret_bool hd.out.symm, rfl⟩

end Go.Proofs.YtecnjbaanbakoaaDoor
