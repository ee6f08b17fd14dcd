/-
  Walks of the document's own answers: Under.
-/
import Derived.Test.YtlogclpmdaiflaaDoorLawE
namespace Go.Proofs.YtlogclpmdaiflaaDoor
open Go Go.RowKit Go.Shelf

theorem jn_append {ps qs : List (List UInt8)} (hp : ps ≠ []) (hq : qs ≠ []) : jn (ps ++ qs) = jn ps ++ 46 :: jn qs := by
  cases ps with
  | nil => exact absurd rfl hp
  | cons p ps =>
    cases qs with
    | nil => exact absurd rfl hq
    | cons q qs => simp [jn]

theorem suffix_spl (a b : List UInt8) : (46 :: b) <:+ a ↔ (D.spl 46 b).length < (D.spl 46 a).length ∧ D.spl 46 b <:+ D.spl 46 a := by
  constructor
  · rintro ⟨t, rfl⟩
    rw [spl_append]
    have := D.spl_pos 46 t
    exact ⟨by simp; omega, List.suffix_append _ _⟩
  · rintro ⟨hl, ps, hps⟩
    have hne : ps ≠ [] := by
      rintro rfl
      rw [← hps] at hl
      simp at hl
    refine ⟨jn ps, ?_⟩
    have h := jn_spl a
    rw [← hps, jn_append hne (D.spl_ne 46 b), jn_spl] at h
    exact h

theorem under_parts (a b : ByteArray) (h1 : D.isName a.data.toList = true) (h2 : D.isName b.data.toList = true) :
    under a.data.toList b.data.toList = decide ((parts 46 b).length < (parts 46 a).length ∧ parts 46 b <:+ parts 46 a) := by
  rw [Bool.eq_iff_iff, under_iff, decide_eq_true_eq, suffix_spl, parts_len, parts_len]
  constructor
  · rintro ⟨_, _, h3, t, h4⟩
    exact ⟨h3, t.map (fun l => ⟨l.toArray⟩), by unfold parts; rw [← List.map_append, h4]⟩
  · rintro ⟨h3, t, h4⟩
    refine ⟨h1, h2, h3, t.map (fun s => s.data.toList), ?_⟩
    have h5 := congrArg (List.map (fun s : ByteArray => s.data.toList)) h4
    unfold parts at h5
    rw [List.map_append, List.map_map, List.map_map] at h5
    simpa [Function.comp_def] using h5

theorem suffix_of_ends {xs ys : List ByteArray} (hl : ys.length ≤ xs.length) (h : ∀ i (hi : i < ys.length), xs[xs.length - 1 - i]'(by omega) = ys[ys.length - 1 - i]'(by omega)) : ys <:+ xs := by
  refine ⟨xs.take (xs.length - ys.length), ?_⟩
  have hd : ys = xs.drop (xs.length - ys.length) := by
    apply List.ext_getElem
    · simp; omega
    · intro j h1 h2
      have := h (ys.length - 1 - j) (by omega)
      rw [List.getElem_drop]
      have e1 : ys.length - 1 - (ys.length - 1 - j) = j := by omega
      have e2 : xs.length - 1 - (ys.length - 1 - j) = xs.length - ys.length + j := by omega
      simp only [e1, e2] at this
      exact this.symm
  conv => lhs; rhs; rw [hd]
  exact List.take_append_drop _ _
theorem not_suffix_of_end {xs ys : List ByteArray} {i : Nat} (hi : i < ys.length) (hx : i < xs.length) (h : xs[xs.length - 1 - i]'(by omega) ≠ ys[ys.length - 1 - i]'(by omega)) : ¬ ys <:+ xs := by
  rintro ⟨t, rfl⟩
  apply h
  have e : (t ++ ys).length - 1 - i = t.length + (ys.length - 1 - i) := by simp; omega
  simp only [e]
  rw [List.getElem_append_right (by omega)]
  simp

set_option maxHeartbeats 1600000 in
theorem runder_any (a b : ByteArray) (w : World) (ha : a.size ≤ 100) (hb : b.size ≤ 100) :
    Calls Tryd.prog 31 #[.string a, .string b] w fun e w' => e = .returned (.bool (under a.data.toList b.data.toList)) ∧ Below w.heap.size w w' := by
  cases h1 : D.isName a.data.toList
  · have H1 := hide h1
    have HU : Hid (under a.data.toList b.data.toList = false) := by unfold Hid under; rw [h1]; rfl
    clear h1
    go_enter Tryd.func31, Tryd.ntmps31
    go_wp2_with fail
    refine (rname_any _ _ (by omega)).mono ?_
    rintro e x1 ⟨rfl, hx1⟩
    rw [H1.out]
    go_wp2_with fail
    go_ret
    exact ⟨ret_bool HU.out.symm, hx1⟩
  cases h2 : D.isName b.data.toList
  · have H1 := hide h1
    have H2 := hide h2
    have HU : Hid (under a.data.toList b.data.toList = false) := by unfold Hid under; rw [h1, h2]; rfl
    clear h1 h2
    go_enter Tryd.func31, Tryd.ntmps31
    go_wp2_with fail
    refine (rname_any _ _ (by omega)).mono ?_
    rintro e x1 ⟨rfl, hx1⟩
    rw [H1.out]
    go_wp2_with fail
    refine (rname_any _ _ (by omega)).mono ?_
    rintro e x2 ⟨rfl, hx2⟩
    rw [H2.out]
    go_wp2_with fail
    go_ret
    exact ⟨ret_bool HU.out.symm, hx1.trans (hx2.mono hx1.size)⟩
  have H1 := hide h1
  have H2 := hide h2
  have HU := hide (under_parts a b h1 h2)
  clear h1 h2
  have hca : (parts 46 a).length ≤ 101 := by
    rw [parts_len]
    have := D.spl_count (c := 46) (l := a.data.toList)
    have e : a.data.toList.length = a.size := Array.length_toList
    omega
  have hcb : (parts 46 b).length ≤ 101 := by
    rw [parts_len]
    have := D.spl_count (c := 46) (l := b.data.toList)
    have e : b.data.toList.length = b.size := Array.length_toList
    omega
  go_enter Tryd.func31, Tryd.ntmps31
  go_wp2_with fail
  refine (rname_any _ _ (by omega)).mono ?_
  rintro e x1 ⟨rfl, hx1⟩
  rw [H1.out]
  go_wp2_with fail
  refine (rname_any _ _ (by omega)).mono ?_
  rintro e x2 ⟨rfl, hx2⟩
  rw [H2.out]
  go_wp2_with fail
  refine (rsplit46 _ _ (by omega)).mono ?_
  rintro e x3 ⟨va, rfl, hSa, hx3⟩
  go_wp2_with fail
  refine (rsplit46 _ _ (by omega)).mono ?_
  rintro e x4 ⟨vb, rfl, hSb, hx4⟩
  have hSa' := hSa.below hx4
  clear hSa
  have B2 := hx1.trans (hx2.mono hx1.size)
  have B3 := B2.trans (hx3.mono B2.size)
  have B4 := B3.trans (hx4.mono B3.size)
  clear B2 B3 hx1 hx2 hx3 hx4
  generalize hxs : parts 46 a = xs at *
  generalize hys : parts 46 b = ys at *
  clear hxs hys
  obtain ⟨aa, caa, rfl, hcaa⟩ := hSa'
  obtain ⟨ab, cab, rfl, hcab⟩ := hSb
  have HA := hide hcaa
  have HB := hide hcab
  clear hcaa hcab
  by_cases hle : xs.length ≤ ys.length
  · have hle' : (xs.length : Int) ≤ (ys.length : Int) := by omega
    have hq : Hid (under a.data.toList b.data.toList = false) := by unfold Hid; rw [HU.out]; exact decide_eq_false (by omega)
    go_wp2_with fail
    go_ret
    exact ⟨ret_bool hq.out.symm, B4⟩
  · have hle' : ¬ (xs.length : Int) ≤ (ys.length : Int) := by omega
    go_wp2_with fail
    go_loopw [7] (fun i wr => ∃ k : Nat, k ≤ ys.length ∧ i = .int .i64 k ∧ Hid (∀ i (hi : i < ys.length), i < k → xs[xs.length - 1 - i]'(by omega) = ys[ys.length - 1 - i]'(by omega)) ∧ Below x4.heap.size x4 wr) (fun i _ => ys.length - (intOf i).toNat)
    case atStart => exact ⟨0, Nat.zero_le _, rfl, fun _ _ h => absurd h (by omega), Below.refl _ _⟩
    case round =>
      obtain ⟨k, hk, rfl, hall, hB⟩ := hrel
      by_cases hlt : k < ys.length
      · have hlt' : (k : Int) < (ys.length : Int) := by omega
        obtain ⟨ga, rfl, hga, ca⟩ := HA.out (xs.length - 1 - k) (by omega)
        obtain ⟨gb, rfl, hgb, cb⟩ := HB.out (ys.length - 1 - k) (by omega)
        have c1 := (hB.cell (p := ⟨ga, xs.length - 1 - k, none⟩) hga).trans ca
        have c2 := (hB.cell (p := ⟨gb, ys.length - 1 - k, none⟩) hgb).trans cb
        clear ca cb
        have hne := fun (h : xs[xs.length - 1 - k]'(by omega) ≠ ys[ys.length - 1 - k]'(by omega)) => not_suffix_of_end hlt (by omega) h
        generalize hp : xs[xs.length - 1 - k]'(by omega) = p at *
        generalize hr : ys[ys.length - 1 - k]'(by omega) = r at *
        have HP := hide hp
        have HR := hide hr
        have HNE := hide hne
        clear hp hr hne
        cases hq : (p.toList == r.toList)
        · have hx : Hid (under a.data.toList b.data.toList = false) := by
            unfold Hid
            rw [HU.out]
            apply decide_eq_false
            rintro ⟨_, h⟩
            exact HNE.out (fun e => by rw [e] at hq; simp at hq) h
          go_wp2_with fail
          go_region
          go_wp2_with fail
          go_ret
          exact ⟨ret_bool hx.out.symm, (B4.trans (hB.mono B4.size)).drew⟩
        · have hpr : Hid (p = r) := bytes_eq hq
          go_wp2_with fail
          go_region
          go_wp2_with fail
          refine ⟨⟨k + 1, by omega, by go_num, fun i hi hik => ?_, hB.drew⟩, by simp [intOf]; omega⟩
          by_cases e : i = k
          · subst e
            exact HP.out.trans (hpr.out.trans HR.out.symm)
          · exact hall.out i hi (by omega)
      · have hlt' : ¬ (k : Int) < (ys.length : Int) := by omega
        have hx : Hid (under a.data.toList b.data.toList = true) := by
          unfold Hid
          rw [HU.out]
          exact decide_eq_true ⟨by omega, suffix_of_ends (by omega) (fun i hi => hall.out i hi (by omega))⟩
        go_wp2_with fail
        go_ret
        exact ⟨ret_bool hx.out.symm, B4.trans (hB.mono B4.size)⟩

end Go.Proofs.YtlogclpmdaiflaaDoor
