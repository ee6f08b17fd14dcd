/-
  Walks: the document's value, One, May (of labels); its Same at texts of whatever place.
-/
import Derived.Test.YtecnjbaanbakoaaDoorLaWalkD
import Derived.Test.YtecnjbaanbakoaaDoorRefC
namespace Go.Proofs.YtecnjbaanbakoaaDoor
open Go Go.RowKit Go.Shelf

set_option maxHeartbeats 400000 in
theorem rvalue_any (s : ByteArray) (w : World) (hs : s.size ≤ maxLen) :
    Calls Tryd.prog 33 #[.string s] w fun e w' => e = .returned (.bool (La.mayV s)) ∧ w' = w := by
  have hm : Hid (La.mayV s = ((s.toList == []) || D.isLabel s.data.toList)) := rfl
  cases h : (s.toList == [])
  · rw [h] at hm
    go_enter Tryd.func33, Tryd.ntmps33
    go_wp2_with fail
    refine (rlabel_any s w hs).mono ?_
    rintro e x ⟨rfl, rfl⟩
    go_wp2_with fail
    go_ret
    exact ⟨ret_bool (by rw [hm.out]; rfl), rfl⟩
  · rw [h] at hm
    go_enter Tryd.func33, Tryd.ntmps33
    go_wp2_with fail
    go_ret
    exact ⟨ret_bool (by rw [hm.out]; rfl), rfl⟩

theorem mayN_vals {k : Int} {nm : ByteArray} {vs : List ByteArray} (h : vs.all La.mayV = false) : La.mayN ⟨k, nm, vs⟩ = false := by
  unfold La.mayN La.mayVs
  rw [h, Bool.and_false]
  have : decide (vs.length = 0) = false := decide_eq_false (fun e => by
    have := List.eq_nil_of_length_eq_zero e
    subst this
    simp at h)
  split
  · rw [Bool.and_false]
  · split
    · rw [this, Bool.and_false]
    · rw [Bool.and_false]

/-- what One tells behind its loop -/
def oneB (k : Int) (nm : ByteArray) (n : Nat) : Bool := if k = 1 ∨ k = 2 then (D.isName nm.data.toList && decide ((1 : Int) ≤ (n : Int))) && decide ((n : Int) ≤ 8) else if k = 3 ∨ k = 4 then D.isName nm.data.toList && ((n : Int) == 0) else false
theorem oneB_eq {k : Int} {nm : ByteArray} {vs : List ByteArray} (h : vs.all La.mayV = true) : La.mayN ⟨k, nm, vs⟩ = oneB k nm vs.length := by
  have e1 : decide ((1 : Int) ≤ (vs.length : Int)) = decide (1 ≤ vs.length) := by congr 1; simp; omega
  have e2 : decide ((vs.length : Int) ≤ 8) = decide (vs.length ≤ 8) := by congr 1; simp; omega
  have e3 : ((vs.length : Int) == 0) = decide (vs.length = 0) := by
    by_cases h : vs.length = 0
    · have h' : ((vs.length : Int) == 0) = true := by simpa using h
      rw [h', decide_eq_true h]
    · have h' : ((vs.length : Int) == 0) = false := by simpa using h
      rw [h', decide_eq_false h]
  unfold La.mayN La.mayVs oneB La.isNm
  rw [h, Bool.and_true, e1, e2, e3]
  split
  · rw [Bool.and_assoc]
  · split
    · rfl
    · rw [Bool.and_false]

set_option maxHeartbeats 1600000 in
theorem rone_any (x : NV) (w : World) (hx : Sl ES w x.v x.n.vals) (hr : OkN x.n) :
    Calls Tryd.prog 29 #[nV x] w fun e w' => e = .returned (.bool (La.mayN x.n)) ∧ Below w.heap.size w w' := by
  obtain ⟨⟨kd, nm, vs⟩, a, c⟩ := x
  have hnm := hr.name
  have HOK := hide hr.raw.vals
  have hlen := hr.len
  obtain ⟨a', cap', hv, _, _, hc⟩ := hx
  injection hv with e1 e2 e3
  subst e1 e3
  have HC := hide hc
  clear hc hr e2
  dsimp only at *
  go_enter Tryd.func29, Tryd.ntmps29
  go_wp2_with fail
  go_loopw [3] (fun i wr => ∃ k : Nat, k ≤ vs.length ∧ i = .int .i64 k ∧ Hid ((vs.take k).all La.mayV = true) ∧ wr = w.alloc (.cells #[.int .i64 kd, .string nm, .slice a vs.length c] 29)) (fun i _ => vs.length - (intOf i).toNat)
  case atStart => exact ⟨0, Nat.zero_le _, rfl, rfl, rfl⟩
  case round =>
    obtain ⟨k, hk, rfl, hall, rfl⟩ := hrel
    by_cases hlt : k < vs.length
    · have hlt' : (k : Int) < (vs.length : Int) := by omega
      obtain ⟨_, g, off, rfl, hg, c1⟩ := HC.out k hlt
      replace c1 := ES_at c1
      rw [show off + k * ES.n = off + k from by show off + k * 1 = _; rw [Nat.mul_one]] at c1
      replace c1 := (((Below.refl w.heap.size w).alloc (Nat.le_refl _) (.cells #[.int .i64 kd, .string nm, .slice (some ⟨g, off, none⟩) vs.length c] 29)).cell (p := ⟨g, off + k, none⟩) hg).trans c1
      have o1 := HOK.out _ (List.getElem_mem hlt)
      have HT := hide (fun h => lall_take (p := La.mayV) hlt hall.out h)
      have HG := hide (fun h => lall_gone (p := La.mayV) hlt h)
      have HM := hide (fun h => mayN_vals (k := kd) (nm := nm) (vs := vs) h)
      generalize vs[k] = s at *
      cases hq : La.mayV s
      · have hq2 := hide (HM.out (HG.out hq))
        go_wp2_with fail
        refine (rvalue_any s _ o1).mono ?_
        rintro e x ⟨rfl, hx⟩
        subst x
        rw [hq]
        go_wp2_with fail
        go_ret
        exact ⟨ret_bool (by rw [hq2.out]), (Below.refl _ _).alloc (Nat.le_refl _) _⟩
      · have hq2 := hide (HT.out hq)
        go_wp2_with fail
        refine (rvalue_any s _ o1).mono ?_
        rintro e x ⟨rfl, hx⟩
        subst x
        rw [hq]
        go_wp2_with fail
        exact ⟨⟨k + 1, by omega, by go_num, hq2.out, trivial⟩, by simp [intOf]; omega⟩
    · have hlt' : ¬ (k : Int) < (vs.length : Int) := by omega
      have HE := hide (oneB_eq (k := kd) (nm := nm) (lall_end (p := La.mayV) (by omega) hall.out))
      have HR := hide (fun W => rname_any nm W (by omega))
      clear HC HOK hall
      generalize vs.length = n at *
      have parts : (n = 0) ∨ (decide (1 ≤ n) = true ∧ decide ((1 : Int) ≤ (n : Int)) = true ∧ decide (n ≤ 8) = true ∧ decide ((n : Int) ≤ 8) = true) ∨ (decide (1 ≤ n) = true ∧ decide ((1 : Int) ≤ (n : Int)) = true ∧ decide (n ≤ 8) = false ∧ decide ((n : Int) ≤ 8) = false) := by
        rcases (show n = 0 ∨ (1 ≤ n ∧ n ≤ 8) ∨ 8 < n by omega) with h | h | h
        · exact .inl h
        · exact .inr (.inl ⟨decide_eq_true h.1, decide_eq_true (by omega), decide_eq_true h.2, decide_eq_true (by omega)⟩)
        · exact .inr (.inr ⟨decide_eq_true (by omega), decide_eq_true (by omega), decide_eq_false (by omega), decide_eq_false (by omega)⟩)
      have PZ : ((n : Int) == 0) = decide (n = 0) := by
        by_cases h : n = 0
        · have h' : ((n : Int) == 0) = true := by simpa using h
          rw [h', decide_eq_true h]
        · have h' : ((n : Int) == 0) = false := by simpa using h
          rw [h', decide_eq_false h]
      have PZ := hide PZ
      clear hlen hlt hk
      rcases lkinds kd with rfl | rfl | rfl | rfl | ⟨h1, h2, h3, h4⟩
      · have hd : Hid (La.mayN ⟨1, nm, vs⟩ = ((D.isName nm.data.toList && decide ((1 : Int) ≤ (n : Int))) && decide ((n : Int) ≤ 8))) := HE.out
        clear HE PZ
        generalize D.isName nm.data.toList = r at *
        cases r
        · clear parts
          go_wp2_with fail
          refine (HR.out _).mono ?_
          rintro e w1 ⟨rfl, hb1⟩
          go_wp2_with fail
          go_ret
          exact ⟨ret_bool (by rw [hd.out]; rfl), below_box hb1⟩
        · rcases parts with rfl | ⟨p1, p2, p3, p4⟩ | ⟨p1, p2, p3, p4⟩
          · go_wp2_with fail
            refine (HR.out _).mono ?_
            rintro e w1 ⟨rfl, hb1⟩
            obtain ⟨c0, c1, c2⟩ := boxN hb1
            go_wp2_with fail
            go_ret
            exact ⟨ret_bool (by rw [hd.out]; rfl), below_box hb1⟩
          · rw [p2, p4] at hd
            go_wp2_with fail
            refine (HR.out _).mono ?_
            rintro e w1 ⟨rfl, hb1⟩
            obtain ⟨c0, c1, c2⟩ := boxN hb1
            go_wp2_with fail
            go_ret
            exact ⟨ret_bool (by rw [hd.out]; rfl), below_box hb1⟩
          · rw [p2, p4] at hd
            go_wp2_with fail
            refine (HR.out _).mono ?_
            rintro e w1 ⟨rfl, hb1⟩
            obtain ⟨c0, c1, c2⟩ := boxN hb1
            go_wp2_with fail
            go_ret
            exact ⟨ret_bool (by rw [hd.out]; rfl), below_box hb1⟩
      · have hd : Hid (La.mayN ⟨2, nm, vs⟩ = ((D.isName nm.data.toList && decide ((1 : Int) ≤ (n : Int))) && decide ((n : Int) ≤ 8))) := HE.out
        clear HE PZ
        generalize D.isName nm.data.toList = r at *
        cases r
        · clear parts
          go_wp2_with fail
          refine (HR.out _).mono ?_
          rintro e w1 ⟨rfl, hb1⟩
          go_wp2_with fail
          go_ret
          exact ⟨ret_bool (by rw [hd.out]; rfl), below_box hb1⟩
        · rcases parts with rfl | ⟨p1, p2, p3, p4⟩ | ⟨p1, p2, p3, p4⟩
          · go_wp2_with fail
            refine (HR.out _).mono ?_
            rintro e w1 ⟨rfl, hb1⟩
            obtain ⟨c0, c1, c2⟩ := boxN hb1
            go_wp2_with fail
            go_ret
            exact ⟨ret_bool (by rw [hd.out]; rfl), below_box hb1⟩
          · rw [p2, p4] at hd
            go_wp2_with fail
            refine (HR.out _).mono ?_
            rintro e w1 ⟨rfl, hb1⟩
            obtain ⟨c0, c1, c2⟩ := boxN hb1
            go_wp2_with fail
            go_ret
            exact ⟨ret_bool (by rw [hd.out]; rfl), below_box hb1⟩
          · rw [p2, p4] at hd
            go_wp2_with fail
            refine (HR.out _).mono ?_
            rintro e w1 ⟨rfl, hb1⟩
            obtain ⟨c0, c1, c2⟩ := boxN hb1
            go_wp2_with fail
            go_ret
            exact ⟨ret_bool (by rw [hd.out]; rfl), below_box hb1⟩
      · have hd : Hid (La.mayN ⟨3, nm, vs⟩ = (D.isName nm.data.toList && ((n : Int) == 0))) := HE.out
        clear HE parts
        generalize D.isName nm.data.toList = r at *
        cases r
        · clear PZ
          go_wp2_with fail
          refine (HR.out _).mono ?_
          rintro e w1 ⟨rfl, hb1⟩
          go_wp2_with fail
          go_ret
          exact ⟨ret_bool (by rw [hd.out]; rfl), below_box hb1⟩
        · by_cases hn : n = 0
          · subst hn
            go_wp2_with fail
            refine (HR.out _).mono ?_
            rintro e w1 ⟨rfl, hb1⟩
            obtain ⟨c0, c1, c2⟩ := boxN hb1
            go_wp2_with fail
            go_ret
            exact ⟨ret_bool (by rw [hd.out]; rfl), below_box hb1⟩
          · have hz : ((n : Int) == 0) = false := by rw [PZ.out, decide_eq_false hn]
            rw [hz] at hd
            go_wp2_with fail
            refine (HR.out _).mono ?_
            rintro e w1 ⟨rfl, hb1⟩
            obtain ⟨c0, c1, c2⟩ := boxN hb1
            go_wp2_with fail
            go_ret
            exact ⟨ret_bool (by rw [hd.out]; rfl), below_box hb1⟩
      · have hd : Hid (La.mayN ⟨4, nm, vs⟩ = (D.isName nm.data.toList && ((n : Int) == 0))) := HE.out
        clear HE parts
        generalize D.isName nm.data.toList = r at *
        cases r
        · clear PZ
          go_wp2_with fail
          refine (HR.out _).mono ?_
          rintro e w1 ⟨rfl, hb1⟩
          go_wp2_with fail
          go_ret
          exact ⟨ret_bool (by rw [hd.out]; rfl), below_box hb1⟩
        · by_cases hn : n = 0
          · subst hn
            go_wp2_with fail
            refine (HR.out _).mono ?_
            rintro e w1 ⟨rfl, hb1⟩
            obtain ⟨c0, c1, c2⟩ := boxN hb1
            go_wp2_with fail
            go_ret
            exact ⟨ret_bool (by rw [hd.out]; rfl), below_box hb1⟩
          · have hz : ((n : Int) == 0) = false := by rw [PZ.out, decide_eq_false hn]
            rw [hz] at hd
            go_wp2_with fail
            refine (HR.out _).mono ?_
            rintro e w1 ⟨rfl, hb1⟩
            obtain ⟨c0, c1, c2⟩ := boxN hb1
            go_wp2_with fail
            go_ret
            exact ⟨ret_bool (by rw [hd.out]; rfl), below_box hb1⟩
      · have hd : Hid (La.mayN ⟨kd, nm, vs⟩ = false) := by
          unfold Hid
          rw [HE.out]
          simp at h1 h2 h3 h4
          simp [oneB, h1, h2, h3, h4]
        clear HE parts PZ
        go_wp2_with fail
        go_ret
        exact ⟨ret_bool hd.out.symm, (Below.refl _ _).alloc (Nat.le_refl _) _⟩

end Go.Proofs.YtecnjbaanbakoaaDoor
