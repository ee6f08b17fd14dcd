/-
  Walks: Text (of package query).
-/
import Derived.Test.YtmjjjlanafiilaaDoorQuWalkB
import Derived.Laws.BytesArg
namespace Go.Proofs.YtmjjjlanafiilaaDoor
open Go Go.RowKit Go.Shelf

/-- 'string(b)' where b is a row of one's own -/
theorem row_text {w : World} {base : Nat} {v : Value} {n : Nat} {l : List UInt8} (h : w.ownsRow base 5 1 v n (oc l)) :
    (convert 40 9 v).run Tryd.prog w = .ok (.string ⟨l.toArray⟩) w := by
  have hn : n = l.length := by have := h.1; rw [oc_len] at this; omega
  subst hn
  rcases h.2 with ⟨rfl, h0⟩ | ⟨g, cap, cur, rfl, _⟩
  · have : l = [] := List.eq_nil_of_length_eq_zero h0
    subst this
    exact run_convert_bytes_nil (P := Tryd.prog) w 40 5 Tryd.underlying40 Tryd.underlying5 0 0 9 Tryd.underlying9
  · refine run_convert_bytes_back (P := Tryd.prog) w 40 9 5 ⟨g, 0, none⟩ cap l Tryd.underlying40 Tryd.underlying5 Tryd.underlying9 (fun j hj => ?_)
    exact h.cells (g := g) rfl j _ (by simp [oc, hj])

theorem box_fst {w : World} {b : Nat} {p1 p2 : Value} {t : Nat} {fz : Nat × Nat} (h : w.heap[b]? = some (.cells #[p1, p2] t fz)) : w.cell? ⟨b, 0, none⟩ = some p1 := by simp [World.cell?, h]
theorem box_snd {w : World} {b : Nat} {p1 p2 : Value} {t : Nat} {fz : Nat × Nat} (h : w.heap[b]? = some (.cells #[p1, p2] t fz)) : w.cell? ⟨b, 1, none⟩ = some p2 := by simp [World.cell?, h]

def tx (l : List PairB) : List UInt8 := Qu.txt (l.map pl)
theorem tx_succ (l : List PairB) (k : Nat) (h : k < l.length) : tx (l.take (k + 1)) = (if k = 0 then [] else tx (l.take k) ++ [38]) ++ (Qu.wr l[k].1.data.toList ++ ([61] ++ Qu.wr l[k].2.data.toList)) := by
  unfold tx
  rw [List.take_succ_eq_append_getElem h, List.map_append, List.map_cons, List.map_nil, Qu.txt_snoc]
  have e : ((l.take k).map pl = []) ↔ k = 0 := by
    rw [List.map_eq_nil_iff, List.take_eq_nil_iff]
    constructor
    · rintro (h1 | h1)
      · exact h1
      · subst h1; simp at h
    · exact .inl
  by_cases hk : k = 0
  · rw [if_pos hk, if_pos (e.2 hk)]; rfl
  · rw [if_neg hk, if_neg (fun h => hk (e.1 h))]; rfl
theorem mayP_len {p : PairB} (h : Qu.mayP (pl p) = true) : p.1.size ≤ 40 ∧ p.2.size ≤ 40 := by
  unfold Qu.mayP pl at h
  simp only [Bool.and_eq_true, decide_eq_true_eq, Array.length_toList] at h
  exact ⟨h.1.2, h.2⟩
theorem tx_len {l : List PairB} (h : ∀ p ∈ l, p.1.size ≤ 41 ∧ p.2.size ≤ 41) (hl : l.length ≤ 21) : (tx l).length ≤ 5300 := by
  have := Qu.txt_len (l := l.map pl) (fun q hq => by
    obtain ⟨p, hp, rfl⟩ := List.mem_map.1 hq
    have := h p hp
    unfold pl
    simp only [Array.length_toList]
    exact this)
  rw [List.length_map] at this
  unfold tx
  omega

theorem row_to {w : World} {base : Nat} {v : Value} {n : Nat} {l l' : List UInt8} (h : w.ownsRow base 5 1 v n (oc l)) (e : l' = l) : w.ownsRow base 5 1 v l'.length (oc l') := by
  subst e
  have hn : n = l'.length := by have := h.1; rw [oc_len] at this; omega
  rw [← hn]
  exact h

set_option maxHeartbeats 400000 in
theorem qtext_no (v : Value) (l : List PairB) (w : World) (hv : Prs w v l) (hok : ∀ p ∈ l, okP p) (hm : Qu.may (l.map pl) = false) :
    Calls Tryd.prog 11 #[v] w fun e w' => e = .returned (.tuple #[.string ⟨#[]⟩, .int .i64 1]) ∧ Below w.heap.size w w' := by
  have HM := hide hm
  clear hm
  go_enter Tryd.func11, Tryd.ntmps11
  go_wp2_with fail
  refine (qmay_any _ _ _ hv hok).mono ?_
  rintro e w1 ⟨rfl, hb1⟩
  rw [HM.out]
  go_wp2_with fail
  go_ret2
  exact ⟨rfl, hb1⟩

set_option maxHeartbeats 1600000 in
theorem qtext_yes (v : Value) (l : List PairB) (w : World) (hv : Prs w v l) (hok : ∀ p ∈ l, okP p) (hm : Qu.may (l.map pl) = true) :
    Calls Tryd.prog 11 #[v] w fun e w' => e = .returned (.tuple #[.string ⟨(tx l).toArray⟩, .int .i64 0]) ∧ Below w.heap.size w w' := by
  obtain ⟨i0, hi, hz0, hz1, hz2⟩ := info_parts Tryd.info5
  have hsm : ∀ p ∈ l, p.1.size ≤ 40 ∧ p.2.size ≤ 40 := by
    intro p hp
    simp only [Qu.may, Bool.and_eq_true, List.all_eq_true] at hm
    exact mayP_len (hm.1 _ (List.mem_map.2 ⟨p, hp, rfl⟩))
  have hl20 : l.length ≤ 20 := by
    simp only [Qu.may, Bool.and_eq_true, decide_eq_true_eq, List.length_map] at hm
    exact hm.2
  have HM := hide hm
  have HS := hide hsm
  clear hm hsm
  have HV := hide hv
  obtain ⟨a, cap, rfl, _, _, hc⟩ := hv
  have HC := hide hc
  clear hc
  go_enter Tryd.func11, Tryd.ntmps11
  go_wp2_with fail
  refine (qmay_any _ _ _ HV.out hok).mono ?_
  rintro e w1 ⟨rfl, hb1⟩
  rw [HM.out]
  go_wp2_with fail
  go_loopw [4, 12] (fun o i wr => ∃ k : Nat, k ≤ l.length ∧ i = .int .i64 k ∧ wr.ownsRow w.heap.size 5 1 o (tx (l.take k)).length (oc (tx (l.take k))) ∧ Below w.heap.size w wr) (fun _ i _ => l.length - (intOf i).toNat)
  case atStart => exact ⟨0, Nat.zero_le _, rfl, World.ownsRow_nil _ _ _ _, hb1⟩
  case round =>
    obtain ⟨k, hk, rfl, hr, hB⟩ := hrel
    by_cases hlt : k < l.length
    · have hlt' : (k : Int) < (l.length : Int) := by omega
      obtain ⟨g, off, rfl, hg, c1, c2⟩ := HC.out k hlt
      replace c1 := (hB.cell (p := ⟨g, off + k * 2, none⟩) hg).trans c1
      replace c2 := (hB.cell (p := ⟨g, off + k * 2 + 1, none⟩) hg).trans c2
      obtain ⟨o1, o2⟩ := HS.out _ (List.getElem_mem hlt)
      have hbs := hB.size
      have HT := hide (tx_succ l k hlt)
      have htl : (tx (l.take k)).length ≤ 5300 := tx_len (fun p hp => by have := HS.out p (List.mem_of_mem_take hp); omega) (by simp; omega)
      generalize hp1 : l[k].1 = p1 at *
      generalize hp2 : l[k].2 = p2 at *
      generalize htk : tx (l.take k) = t at *
      have hw1 := Qu.wr_len p1.data.toList
      have hw2 := Qu.wr_len p2.data.toList
      simp only [Array.length_toList] at hw1 hw2
      change _ ≤ 3 * p1.size at hw1
      change _ ≤ 3 * p2.size at hw2
      have HR := hide hr
      clear hr
      by_cases hk0 : k = 0
      · have hk0' : ¬ (0 : Int) < (k : Int) := by omega
        have HTN : Hid (t = []) := by unfold Hid; rw [← htk, hk0]; rfl
        have HK0 := hide hk0
        clear hk0
        go_wp2_with fail
        refine (write_any w.heap.size u4 t.length t p1 _ (HR.out.alloc _) (by simp; omega) (by omega) (by omega)).mono ?_
        rintro e w2 ⟨v2, rfl, hr2, hB2, hX2⟩
        have bx2 := hX2 _ _ _ (heap_alloc_new wr _)
        replace hB2 := (hB.alloc hbs _).trans hB2
        have hs2 := hB2.size
        have c2f := box_fst bx2
        have c2s := box_snd bx2
        clear hX2
        have hl2 : t.length + (Qu.wr p1.data.toList).length ≤ 6000 := by omega
        generalize hn2 : t.length + (Qu.wr p1.data.toList).length = n2 at *
        generalize hq2 : t ++ Qu.wr p1.data.toList = q2 at *
        go_wp2_with (at_builtin; refine Lib.wpList_append_own_string _ rfl _ _ 40 9 rfl w.heap.size 5 i0 Tryd.underlying40 Tryd.underlying9 hi hz0 hz1 hz2 _ _ _ rfl hr2 ⟨#[61]⟩ rfl (by show _ + 1 ≤ _; unfold maxLen; omega) (by show _ + 1 ≤ _; omega) (by omega) ?_; intro v3 w3 hown3 hgrow3 _; have hx3 := Boxes.grown (Boxes.refl _) hr2 hgrow3; have bx3 := hx3 wr.heap.size _ _ bx2; have cf3 := box_fst bx3; have cs3 := box_snd bx3; clear hx3)
        have hB3 := hB2.grown hgrow3 (by omega) (fun j e => ownBlock_ge hr2 e)
        have hs3 := hB3.size
        have hr3 : w3.ownsRow w.heap.size 5 1 v3 (n2 + 1) (oc (q2 ++ [61])) := by rw [oc_append]; exact hown3
        clear hown3 hgrow3
        refine (write_any w.heap.size v3 (n2 + 1) (q2 ++ [61]) p2 w3 hr3 (by omega) (by omega) (by omega)).mono ?_
        rintro e w4 ⟨v4, rfl, hr4, hB4, hX4⟩
        replace hB4 := hB3.trans hB4
        have hr5 := row_to hr4 (l' := tx (l.take (k + 1))) (by rw [HT.out, ← hq2, if_pos HK0.out, HTN.out]; simp)
        clear hr4 hr3 hr2
        go_wp2_with fail
        exact ⟨⟨k + 1, by omega, by go_num, hr5, hB4⟩, by simp [intOf]; omega⟩
      · have hk0' : (0 : Int) < (k : Int) := by omega
        have HK0 := hide hk0
        clear hk0
        go_wp2_with (at_builtin; refine Lib.wpList_append_own_string _ rfl _ _ 40 9 rfl w.heap.size 5 i0 Tryd.underlying40 Tryd.underlying9 hi hz0 hz1 hz2 _ _ _ rfl (HR.out.alloc _) ⟨#[38]⟩ rfl (by show _ + 1 ≤ _; unfold maxLen; omega) (by show _ + 1 ≤ _; omega) (by simp; omega) ?_; intro v1 w1 hown1 hgrow1 _; have hx1 := Boxes.grown (Boxes.refl _) (HR.out.alloc _) hgrow1; have bx1 := hx1 wr.heap.size _ _ (heap_alloc_new wr _); have cf1 := box_fst bx1; have cs1 := box_snd bx1; clear hx1)
        have hB1 := (hB.alloc hbs _).grown hgrow1 (by simp; omega) (fun j e => ownBlock_ge HR.out e)
        have hs1 := hB1.size
        have hr1 : w1.ownsRow w.heap.size 5 1 v1 (t.length + 1) (oc (t ++ [38])) := by rw [oc_append]; exact hown1
        have HG1 := hide hgrow1
        clear hown1 hgrow1
        refine (write_any w.heap.size v1 (t.length + 1) (t ++ [38]) p1 w1 hr1 (by omega) (by omega) (by omega)).mono ?_
        rintro e w2 ⟨v2, rfl, hr2, hB2, hX2⟩
        have bx2 := hX2 _ _ _ bx1
        replace hB2 := hB1.trans hB2
        have hs2 := hB2.size
        have c2f := box_fst bx2
        have c2s := box_snd bx2
        clear hX2
        have hl2 : t.length + 1 + (Qu.wr p1.data.toList).length ≤ 6000 := by omega
        generalize hn2 : t.length + 1 + (Qu.wr p1.data.toList).length = n2 at *
        generalize hq2 : t ++ [38] ++ Qu.wr p1.data.toList = q2 at *
        go_wp2_with (at_builtin; refine Lib.wpList_append_own_string _ rfl _ _ 40 9 rfl w.heap.size 5 i0 Tryd.underlying40 Tryd.underlying9 hi hz0 hz1 hz2 _ _ _ rfl hr2 ⟨#[61]⟩ rfl (by show _ + 1 ≤ _; unfold maxLen; omega) (by show _ + 1 ≤ _; omega) (by omega) ?_; intro v3 w3 hown3 hgrow3 _; have hx3 := Boxes.grown (Boxes.refl _) hr2 hgrow3; have bx3 := hx3 wr.heap.size _ _ bx2; have cf3 := box_fst bx3; have cs3 := box_snd bx3; clear hx3)
        have hB3 := hB2.grown hgrow3 (by omega) (fun j e => ownBlock_ge hr2 e)
        have hs3 := hB3.size
        have hr3 : w3.ownsRow w.heap.size 5 1 v3 (n2 + 1) (oc (q2 ++ [61])) := by rw [oc_append]; exact hown3
        clear hown3 hgrow3
        refine (write_any w.heap.size v3 (n2 + 1) (q2 ++ [61]) p2 w3 hr3 (by omega) (by omega) (by omega)).mono ?_
        rintro e w4 ⟨v4, rfl, hr4, hB4, hX4⟩
        replace hB4 := hB3.trans hB4
        have hr5 := row_to hr4 (l' := tx (l.take (k + 1))) (by rw [HT.out, ← hq2, if_neg HK0.out]; simp)
        clear hr4 hr3 hr2
        go_wp2_with fail
        exact ⟨⟨k + 1, by omega, by go_num, hr5, hB4⟩, by simp [intOf]; omega⟩
    · have hlt' : ¬ (k : Int) < (l.length : Int) := by omega
      have HT : Hid (l.take k = l) := List.take_of_length_le (by omega)
      rw [HT.out] at hr
      have hconv := row_text hr
      go_wp2_with fail
      go_ret2
      exact ⟨rfl, hB⟩

end Go.Proofs.YtmjjjlanafiilaaDoor
