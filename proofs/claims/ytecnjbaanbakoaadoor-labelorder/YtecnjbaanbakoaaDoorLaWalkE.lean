/-
  Walks: Needs, Met, All (of labels).
-/
import Derived.Test.YtecnjbaanbakoaaDoorLaWalkD
namespace Go.Proofs.YtecnjbaanbakoaaDoor
open Go Go.RowKit Go.Shelf

/-- needs, without where they lie -/
abbrev nbs (L : List NV) : List NB := L.map NV.n
theorem needs_eq (L : List NV) : La.needs (nbs L) = (decide (L.length ≤ 8) && L.all fun x => La.mayN x.n) := by
  simp [La.needs, List.all_map, Function.comp_def]
theorem all_eq (L : List NV) (l : List PairB) : La.all (nbs L) l = (La.needs (nbs L) && La.mayL l && L.all fun x => La.metN x.n l) := by
  simp [La.all, List.all_map, Function.comp_def]
/-- one need of a slice of them -/
theorem en_one {w W : World} {a : Option Addr} {n cap : Nat} {L : List NV} (h : Sl EN w (.slice a n cap) L) (hB : Below w.heap.size w W) {k : Nat} (hk : k < L.length) :
    Sl ES W L[k].v L[k].n.vals ∧ ∃ g off, a = some ⟨g, off, none⟩ ∧ g < w.heap.size ∧ W.cell? ⟨g, off + k * 3, none⟩ = some (.int .i64 L[k].n.kind) ∧ W.cell? ⟨g, off + k * 3 + 1, none⟩ = some (.string L[k].n.name) ∧ W.cell? ⟨g, off + k * 3 + 2, none⟩ = some L[k].v := by
  obtain ⟨a', cap', hv, _, _, hc⟩ := h
  injection hv with e1 e2 e3
  subst e1
  obtain ⟨hA, g, off, ha, hg, c⟩ := hc k hk
  have hA' : Sl ES w L[k].v L[k].n.vals := hA
  exact ⟨hA'.below hB, g, off, ha, hg, EN_at (c.below hg hB)⟩

set_option maxHeartbeats 800000 in
theorem lneeds_any (v : Value) (L : List NV) (w : World) (hv : Sl EN w v L) (hok : ∀ x ∈ L, RawN x.n) :
    Calls Tryd.prog 16 #[v] w fun e w' => e = .returned (.bool (La.needs (nbs L))) ∧ Below w.heap.size w w' := by
  have hlen := hv.len
  obtain ⟨a, cap, rfl⟩ := hv.form
  have HC := hide (fun W (hB : Below w.heap.size w W) k (hk : k < L.length) => en_one hv hB hk)
  have HOK := hide hok
  have HE := hide (needs_eq L)
  clear hv hok
  by_cases h8 : 8 < L.length
  · have hz8 : (8 : Int) < (L.length : Int) := by omega
    have hm : Hid (La.needs (nbs L) = false) := by
      unfold Hid
      rw [HE.out, decide_eq_false (by omega), Bool.false_and]
    go_enter Tryd.func16, Tryd.ntmps16
    go_wp2_with fail
    go_ret
    exact ⟨ret_bool hm.out.symm, Below.refl _ _⟩
  have hz8 : ¬ (8 : Int) < (L.length : Int) := by omega
  rw [decide_eq_true (show L.length ≤ 8 by omega), Bool.true_and] at HE
  go_enter Tryd.func16, Tryd.ntmps16
  go_wp2_with fail
  go_loopw [10] (fun i wr => ∃ k : Nat, k ≤ L.length ∧ i = .int .i64 k ∧ Hid ((L.take k).all (fun x => La.mayN x.n) = true) ∧ Below w.heap.size w wr) (fun i _ => L.length - (intOf i).toNat)
  case atStart => exact ⟨0, Nat.zero_le _, rfl, rfl, Below.refl _ _⟩
  case round =>
    obtain ⟨k, hk, rfl, hall, hB⟩ := hrel
    by_cases hlt : k < L.length
    · have hlt' : (k : Int) < (L.length : Int) := by omega
      obtain ⟨hA, g, off, rfl, hg, c0, c1, c2⟩ := HC.out _ hB k hlt
      have o1 := HOK.out _ (List.getElem_mem hlt)
      have HT := hide (fun h => lall_take (p := fun x : NV => La.mayN x.n) hlt hall.out h)
      have HG := hide (fun h => lall_gone (p := fun x : NV => La.mayN x.n) hlt h)
      have HA := hide (hA.below ((Below.refl _ _).alloc (Nat.le_refl _) (.cells #[.int .i64 L[k].n.kind, .string L[k].n.name, L[k].v] 29)))
      clear hA
      generalize L[k] = x at *
      have HM := hide (fun W (h : Sl ES W x.v x.n.vals) => mayNeed_any x W h o1)
      clear o1
      obtain ⟨⟨kk, nm, vs⟩, xa, xc⟩ := x
      dsimp only at *
      cases hq : La.mayN ⟨kk, nm, vs⟩
      · have hq2 := hide (HG.out hq)
        rw [hq] at HM
        go_wp2_with fail
        refine (HM.out _ HA.out).mono ?_
        rintro e w1 ⟨rfl, hb1⟩
        go_wp2_with fail
        go_ret
        exact ⟨ret_bool (by rw [HE.out, hq2.out]), bb2 hB (below_box hb1)⟩
      · have hq2 := hide (HT.out hq)
        rw [hq] at HM
        go_wp2_with fail
        refine (HM.out _ HA.out).mono ?_
        rintro e w1 ⟨rfl, hb1⟩
        go_wp2_with fail
        exact ⟨⟨k + 1, by omega, by go_num, hq2.out, bb2 hB (below_box hb1)⟩, by simp [intOf]; omega⟩
    · have hlt' : ¬ (k : Int) < (L.length : Int) := by omega
      have hq := hide (lall_end (p := fun x : NV => La.mayN x.n) (by omega) hall.out)
      go_wp2_with fail
      go_ret
      exact ⟨ret_bool (by rw [HE.out, hq.out]), hB⟩

set_option maxHeartbeats 800000 in
theorem lmet_any (x : NV) (v : Value) (l : List PairB) (w : World) (hx : Sl ES w x.v x.n.vals) (hr : RawN x.n) (hv : Prs w v l) (hok : ∀ p ∈ l, okP p) :
    Calls Tryd.prog 12 #[nV x, v] w fun e w' => e = .returned (.bool (La.met x.n l)) ∧ Below w.heap.size w w' := by
  have HM := hide (fun W (h : Below w.heap.size w W) => mayNeed_any x W (hx.below h) hr)
  have HL := hide (fun W (h : Below w.heap.size w W) => lmay_any v l W (hv.below h) hok)
  have HI := hide (fun h1 h2 W (h : Below w.heap.size w W) => isMet_any x v l W (hx.below h) (hv.below h) h1 h2)
  have HE : Hid (La.met x.n l = (La.mayN x.n && La.mayL l && La.metN x.n l)) := rfl
  obtain ⟨ga, gc, rfl, _⟩ := hv
  clear hx hr hok
  obtain ⟨⟨kk, nm, vs⟩, xa, xc⟩ := x
  dsimp only at *
  cases hq : La.mayN ⟨kk, nm, vs⟩
  · rw [hq] at HM HE
    go_enter Tryd.func12, Tryd.ntmps12
    go_wp2_with fail
    refine (HM.out _ ((Below.refl _ _).alloc (Nat.le_refl _) _)).mono ?_
    rintro e w1 ⟨rfl, hb1⟩
    go_wp2_with fail
    go_ret
    exact ⟨ret_bool (by rw [HE.out]; rfl), below_box hb1⟩
  · cases hq2 : La.mayL l
    · rw [hq] at HM HE
      rw [hq2] at HL HE
      go_enter Tryd.func12, Tryd.ntmps12
      go_wp2_with fail
      refine (HM.out _ ((Below.refl _ _).alloc (Nat.le_refl _) _)).mono ?_
      rintro e w1 ⟨rfl, hb1⟩
      go_wp2_with fail
      refine (HL.out _ (below_box hb1)).mono ?_
      rintro e w2 ⟨rfl, hb2⟩
      go_wp2_with fail
      go_ret
      exact ⟨ret_bool (by rw [HE.out]; rfl), bb2 (below_box hb1) hb2⟩
    · rw [hq] at HM HE
      rw [hq2] at HL HE
      replace HI := hide (HI.out hq hq2)
      go_enter Tryd.func12, Tryd.ntmps12
      go_wp2_with fail
      refine (HM.out _ ((Below.refl _ _).alloc (Nat.le_refl _) _)).mono ?_
      rintro e w1 ⟨rfl, hb1⟩
      go_wp2_with fail
      refine (HL.out _ (below_box hb1)).mono ?_
      rintro e w2 ⟨rfl, hb2⟩
      obtain ⟨c0, c1, c2⟩ := boxN (hb1.trans (hb2.mono hb1.size))
      go_wp2_with fail
      refine (HI.out _ (bb2 (below_box hb1) hb2)).mono ?_
      rintro e w3 ⟨rfl, hb3⟩
      go_wp2_with fail
      go_ret
      exact ⟨ret_bool (by rw [HE.out]; rfl), bb2 (bb2 (below_box hb1) hb2) hb3⟩

set_option maxHeartbeats 800000 in
theorem lall_any (va v : Value) (L : List NV) (l : List PairB) (w : World) (ha : Sl EN w va L) (hok : ∀ x ∈ L, RawN x.n) (hv : Prs w v l) (hokl : ∀ p ∈ l, okP p) :
    Calls Tryd.prog 18 #[va, v] w fun e w' => e = .returned (.bool (La.all (nbs L) l)) ∧ Below w.heap.size w w' := by
  have hlen := ha.len
  have HN := hide (fun W (h : Below w.heap.size w W) => lneeds_any va L W (ha.below h) hok)
  have HL := hide (fun W (h : Below w.heap.size w W) => lmay_any v l W (hv.below h) hokl)
  have HE := hide (all_eq L l)
  have HS := hide (needs_eq L)
  have HV := hide hv
  obtain ⟨a, cap, rfl⟩ := ha.form
  have HC := hide (fun W (hB : Below w.heap.size w W) k (hk : k < L.length) => en_one ha hB hk)
  obtain ⟨ga, gc, rfl, _⟩ := hv
  clear ha hok hokl
  cases hq : La.needs (nbs L)
  · rw [hq] at HN HE
    go_enter Tryd.func18, Tryd.ntmps18
    go_wp2_with fail
    refine (HN.out _ (Below.refl _ _)).mono ?_
    rintro e w1 ⟨rfl, hb1⟩
    go_wp2_with fail
    go_ret
    exact ⟨ret_bool (by rw [HE.out]; rfl), hb1⟩
  · cases hq2 : La.mayL l
    · rw [hq] at HN HE
      rw [hq2] at HL HE
      go_enter Tryd.func18, Tryd.ntmps18
      go_wp2_with fail
      refine (HN.out _ (Below.refl _ _)).mono ?_
      rintro e w1 ⟨rfl, hb1⟩
      go_wp2_with fail
      refine (HL.out _ hb1).mono ?_
      rintro e w2 ⟨rfl, hb2⟩
      go_wp2_with fail
      go_ret
      exact ⟨ret_bool (by rw [HE.out]; rfl), bb2 hb1 hb2⟩
    · rw [hq] at HN HE HS
      rw [hq2] at HL HE
      have HY : Hid (∀ x ∈ L, La.mayN x.n = true) := by
        have := HS.out
        rw [eq_comm, Bool.and_eq_true] at this
        exact List.all_eq_true.1 this.2
      clear hq HS
      have HQ2 := hide hq2
      clear hq2
      go_enter Tryd.func18, Tryd.ntmps18
      go_wp2_with fail
      refine (HN.out _ (Below.refl _ _)).mono ?_
      rintro e w1 ⟨rfl, hb1⟩
      go_wp2_with fail
      refine (HL.out _ hb1).mono ?_
      rintro e w2 ⟨rfl, hb2⟩
      go_wp2_with fail
      go_loopw [17] (fun i wr => ∃ k : Nat, k ≤ L.length ∧ i = .int .i64 k ∧ Hid ((L.take k).all (fun x => La.metN x.n l) = true) ∧ Below w.heap.size w wr) (fun i _ => L.length - (intOf i).toNat)
      case atStart => exact ⟨0, Nat.zero_le _, rfl, rfl, bb2 hb1 hb2⟩
      case round =>
        clear hb1 hb2
        obtain ⟨k, hk, rfl, hall, hB⟩ := hrel
        by_cases hlt : k < L.length
        · have hlt' : (k : Int) < (L.length : Int) := by omega
          obtain ⟨hA, g, off, rfl, hg, c0, c1, c2⟩ := HC.out _ hB k hlt
          have o1 := HY.out _ (List.getElem_mem hlt)
          have HT := hide (fun h => lall_take (p := fun x : NV => La.metN x.n l) hlt hall.out h)
          have HG := hide (fun h => lall_gone (p := fun x : NV => La.metN x.n l) hlt h)
          have HA := hide (hA.below ((Below.refl _ _).alloc (Nat.le_refl _) (.cells #[.int .i64 L[k].n.kind, .string L[k].n.name, L[k].v] 29)))
          clear hA
          generalize L[k] = x at *
          have HM := hide (fun W (h : Sl ES W x.v x.n.vals) h2 => isMet_any x (.slice ga l.length gc) l W h h2 o1 HQ2.out)
          clear o1
          obtain ⟨⟨kk, nm, vs⟩, xa, xc⟩ := x
          dsimp only at *
          cases hq : La.metN ⟨kk, nm, vs⟩ l
          · have hq2 := hide (HG.out hq)
            rw [hq] at HM
            go_wp2_with fail
            refine (HM.out _ HA.out (HV.out.below (hB.alloc hB.size _))).mono ?_
            rintro e w1 ⟨rfl, hb1⟩
            go_wp2_with fail
            go_ret
            exact ⟨ret_bool (by rw [HE.out, hq2.out]; rfl), bb2 hB (below_box hb1)⟩
          · have hq2 := hide (HT.out hq)
            rw [hq] at HM
            go_wp2_with fail
            refine (HM.out _ HA.out (HV.out.below (hB.alloc hB.size _))).mono ?_
            rintro e w1 ⟨rfl, hb1⟩
            go_wp2_with fail
            exact ⟨⟨k + 1, by omega, by go_num, hq2.out, bb2 hB (below_box hb1)⟩, by simp [intOf]; omega⟩
        · have hlt' : ¬ (k : Int) < (L.length : Int) := by omega
          have hq := hide (lall_end (p := fun x : NV => La.metN x.n l) (by omega) hall.out)
          go_wp2_with fail
          go_ret
          exact ⟨ret_bool (by rw [HE.out, hq.out]; rfl), hB⟩

end Go.Proofs.YtecnjbaanbakoaaDoor
