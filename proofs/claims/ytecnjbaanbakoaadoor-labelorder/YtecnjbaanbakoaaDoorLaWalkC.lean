/-
  Walks: mayNeed, valOf, isMet, May, Needs, Met, All (of labels).
-/
import Derived.Test.YtecnjbaanbakoaaDoorLaWalkB
import Derived.Test.YtecnjbaanbakoaaDoorWalkD
namespace Go.Proofs.YtecnjbaanbakoaaDoor
open Go Go.RowKit Go.Shelf

theorem boxN {w W : World} {a b c : Value} {t : Nat} (h : Below (w.alloc (.cells #[a, b, c] t)).heap.size (w.alloc (.cells #[a, b, c] t)) W) :
    W.cell? ⟨w.heap.size, 0, none⟩ = some a ∧ W.cell? ⟨w.heap.size, 1, none⟩ = some b ∧ W.cell? ⟨w.heap.size, 2, none⟩ = some c :=
  ⟨cellN (box_block h) rfl, cellN (box_block h) rfl, cellN (box_block h) rfl⟩

set_option maxHeartbeats 800000 in
theorem mayNeed_any (x : NV) (w : World) (hx : Sl ES w x.v x.n.vals) (hr : RawN x.n) :
    Calls Tryd.prog 27 #[nV x] w fun e w' => e = .returned (.bool (La.mayN x.n)) ∧ Below w.heap.size w w' := by
  obtain ⟨⟨k, nm, vs⟩, a, c⟩ := x
  have hnm := hr.name
  have hvs := hr.vals
  have hm : Hid (La.mayN ⟨k, nm, vs⟩ = (D.isName nm.data.toList && mayAskB k vs)) := rfl
  have HX := hide hx
  have HA := hide (fun W (h : Sl ES W (.slice a vs.length c) vs) => mayAsk_any k (.slice a vs.length c) vs W h hvs)
  clear hx hr hvs
  dsimp only at *
  cases hq : D.isName nm.data.toList
  · rw [hq] at hm
    go_enter Tryd.func27, Tryd.ntmps27
    go_wp2_with fail
    refine (name_any nm _ hnm).mono ?_
    rintro e w1 ⟨rfl, hb1⟩
    rw [hq]
    go_wp2_with fail
    go_ret
    exact ⟨ret_bool (by rw [hm.out]; rfl), below_box hb1⟩
  · rw [hq] at hm
    go_enter Tryd.func27, Tryd.ntmps27
    go_wp2_with fail
    refine (name_any nm _ hnm).mono ?_
    rintro e w1 ⟨rfl, hb1⟩
    rw [hq]
    obtain ⟨c0, c1, c2⟩ := boxN hb1
    go_wp2_with fail
    refine (askOf_any k nm a vs.length c w1).mono ?_
    rintro e w2 ⟨rfl, hb2⟩
    go_wp2_with fail
    refine (HA.out w2 (HX.out.below (bb2 (below_box hb1) hb2))).mono ?_
    rintro e w3 ⟨rfl, hw3⟩
    subst w3
    go_wp2_with fail
    go_ret
    exact ⟨ret_bool (by rw [hm.out]; rfl), bb2 (below_box hb1) hb2⟩

/-! valOf -/
theorem has_take {l : List PairB} {s : ByteArray} {k : Nat} (hk : k < l.length) (h : Hid (La.hasL (l.take k) s = false)) (h2 : (l[k].1.toList == s.toList) = false) : Hid (La.hasL (l.take (k + 1)) s = false) := by
  unfold Hid La.hasL
  have h := h.out
  unfold La.hasL at h
  rw [List.take_succ_eq_append_getElem hk, List.any_append, h]
  have : l[k].1 ≠ s := fun e => by rw [e] at h2; simp at h2
  simp [this]

/-- what valOf tells -/
def ValO (l : List PairB) (s t : ByteArray) (b : Bool) : Prop := (b = false ∧ La.hasL l s = false) ∨ (b = true ∧ ∃ k, ∃ h : k < l.length, l[k].1 = s ∧ l[k].2 = t)
set_option maxHeartbeats 800000 in
theorem valOf_any (v : Value) (l : List PairB) (s : ByteArray) (w : World) (hv : Prs w v l) :
    Calls Tryd.prog 40 #[v, .string s] w fun e w' => ∃ t b, e = .returned (.tuple #[.string t, .bool b]) ∧ ValO l s t b ∧ Below w.heap.size w w' := by
  have hlen := hv.len
  obtain ⟨a, cap, rfl, _, _, hc⟩ := hv
  have HC := hide hc
  clear hc
  go_enter Tryd.func40, Tryd.ntmps40
  go_wp2_with fail
  go_loopw [10] (fun i wr => ∃ k : Nat, k ≤ l.length ∧ i = .int .i64 k ∧ Hid (La.hasL (l.take k) s = false) ∧ Below w.heap.size w wr) (fun i _ => l.length - (intOf i).toNat)
  case atStart => exact ⟨0, Nat.zero_le _, rfl, rfl, Below.refl _ _⟩
  case round =>
    obtain ⟨k, hk, rfl, hno, hB⟩ := hrel
    by_cases hlt : k < l.length
    · have hlt' : (k : Int) < (l.length : Int) := by omega
      obtain ⟨g, off, rfl, hg, c1, c2⟩ := HC.out k hlt
      replace c1 := (hB.cell (p := ⟨g, off + k * 2, none⟩) hg).trans c1
      replace c2 := (hB.cell (p := ⟨g, off + k * 2 + 1, none⟩) hg).trans c2
      have HT := hide (fun h => has_take hlt hno h)
      have HG : Hid ((l[k].1.toList == s.toList) = true → ∃ j, ∃ h : j < l.length, l[j].1 = s ∧ l[j].2 = l[k].2) := fun h => ⟨k, hlt, bytes_eq h, rfl⟩
      generalize l[k].1 = p1 at *
      generalize l[k].2 = p2 at *
      cases hq : (p1.toList == s.toList)
      · have hq2 := HT.out hq
        go_wp2_with fail
        exact ⟨⟨k + 1, by omega, by go_num, hq2, hB.alloc hB.size _⟩, by simp [intOf]; omega⟩
      · have hq2 := hide (HG.out hq)
        go_wp2_with fail
        go_ret2
        exact ⟨_, _, rfl, .inr ⟨rfl, hq2.out⟩, hB.alloc hB.size _⟩
    · have hlt' : ¬ (k : Int) < (l.length : Int) := by omega
      have hq : Hid (La.hasL l s = false) := by
        have := hno.out
        rwa [List.take_of_length_le (by omega)] at this
      go_wp2_with fail
      go_ret2
      exact ⟨_, .inl ⟨rfl, .inl ⟨rfl, hq.out⟩, hB⟩⟩

/-- of labels that may be: what holds is what the document asks -/
theorem holds_met {k : Int} (hk : k = 1 ∨ k = 2 ∨ k = 3 ∨ k = 4) {nm : ByteArray} {vs : List ByteArray} {l : List PairB} (hg : La.Good l) {t : ByteArray} {b : Bool}
    (h : ValO l nm t b) : holdsB k vs b t = La.metN ⟨k, nm, vs⟩ l := by
  rcases h with ⟨rfl, h⟩ | ⟨rfl, j, hj, rfl, rfl⟩
  · have h1 := La.one_none vs h
    rcases hk with rfl | rfl | rfl | rfl <;> simp [holdsB, La.metN, h, h1]
  · have h1 := La.has_at hj
    have h2 := La.one_at hj vs hg.rise
    rcases hk with rfl | rfl | rfl | rfl <;> simp [holdsB, La.metN, h1, h2]

set_option maxHeartbeats 800000 in
theorem isMet_any (x : NV) (v : Value) (l : List PairB) (w : World) (hx : Sl ES w x.v x.n.vals) (hv : Prs w v l) (hm : La.mayN x.n = true) (hl : La.mayL l = true) :
    Calls Tryd.prog 28 #[nV x, v] w fun e w' => e = .returned (.bool (La.metN x.n l)) ∧ Below w.heap.size w w' := by
  have HK := hide (La.mayN_kind hm)
  have HG := hide ((La.mayL_good l).1 hl)
  clear hm hl
  obtain ⟨⟨k, nm, vs⟩, a, c⟩ := x
  have HX := hide hx
  have HV := hide hv
  have HM := hide (fun (b : Bool) (t : ByteArray) h => holds_met (k := k) (nm := nm) (vs := vs) (t := t) (b := b) HK.out HG.out h)
  have HH := hide (fun (b : Bool) (t : ByteArray) W (h : Sl ES W (.slice a vs.length c) vs) => holds_l k (.slice a vs.length c) vs b t W h)
  clear hx HK HG
  dsimp only at *
  obtain ⟨ga, gc, rfl, _⟩ := hv
  go_enter Tryd.func28, Tryd.ntmps28
  go_wp2_with fail
  refine (valOf_any _ l nm _ (HV.out.below ((Below.refl _ _).alloc (Nat.le_refl _) _))).mono ?_
  rintro e w1 ⟨t, b, rfl, hs, hb1⟩
  have HS := hide (HM.out b t hs)
  clear hs HM
  obtain ⟨c0, c1, c2⟩ := boxN hb1
  go_wp2_with fail
  refine (askOf_any k nm a vs.length c w1).mono ?_
  rintro e w2 ⟨rfl, hb2⟩
  go_wp2_with fail
  refine (HH.out b t w2 (HX.out.below (bb2 (below_box hb1) hb2))).mono ?_
  rintro e w3 ⟨rfl, hw3⟩
  subst w3
  go_wp2_with fail
  go_ret
  exact ⟨ret_bool HS.out, bb2 (below_box hb1) hb2⟩

end Go.Proofs.YtecnjbaanbakoaaDoor
