/-
  Walks: the laws' Few, Text.
-/
import Derived.Test.YtmjjjlanafiilaaDoorQuWalkG
namespace Go.Proofs.YtmjjjlanafiilaaDoor
open Go Go.RowKit Go.Shelf

def cut41 (s : ByteArray) : ByteArray := if 41 < s.size then s.extract 0 41 else s
theorem cut41_le (s : ByteArray) : (cut41 s).size ≤ 41 := by
  unfold cut41
  split
  · rw [ByteArray.size_extract]; omega
  · omega
def cutP (p : PairB) : PairB := (cut41 p.1, cut41 p.2)
/-- the laws' Few -/
def fewP (l : List PairB) : List PairB := (l.take 21).map cutP
theorem fewP_len (l : List PairB) : (fewP l).length ≤ 21 := by simp [fewP]; omega
theorem fewP_ok (l : List PairB) : ∀ p ∈ fewP l, p.1.size ≤ 41 ∧ p.2.size ≤ 41 := by
  intro p hp
  obtain ⟨q, _, rfl⟩ := List.mem_map.1 hp
  exact ⟨cut41_le _, cut41_le _⟩
theorem small_ok {l : List PairB} (h : ∀ p ∈ l, p.1.size ≤ 41 ∧ p.2.size ≤ 41) : ∀ p ∈ l, okP p := fun p hp => by
  have := h p hp
  unfold okP maxLen
  omega

theorem news_at {w : World} {n : Nat} (h : w.heap.size = n) {cs : Array Value} {t : TypeId} : ∀ j u, cs.toList[j]? = some u → (w.alloc (.cells cs t)).cell? ((⟨n, 0, none⟩ : Addr).add j) = some u := by
  subst h
  exact World.news_of_block (heap_alloc_new _ _)

/-- how far Few has come -/
def fewTo (l : List PairB) (k : Nat) : List PairB := (l.take k).map cutP
theorem fewTo_succ (l : List PairB) (k : Nat) (h : k < l.length) : flat (fewTo l (k + 1)) = flat (fewTo l k) ++ [.string (cut41 l[k].1), .string (cut41 l[k].2)] := by
  unfold fewTo
  rw [List.take_succ_eq_append_getElem h, List.map_append, flat_append]
  rfl
theorem fewTo_len (l : List PairB) (k : Nat) (h : k ≤ l.length) : (fewTo l k).length = k := by simp [fewTo]; omega

set_option maxHeartbeats 1600000 in
theorem few_any (v : Value) (l : List PairB) (w : World) (hv : Prs w v l) (hok : ∀ p ∈ l, okP p) :
    Calls Tryd.prog 10 #[v] w fun e w' => ∃ v', e = .returned v' ∧ Prs w' v' (fewP l) ∧ Below w.heap.size w w' := by
  obtain ⟨i0, hi, hz0, hz1, hz2⟩ := info_parts Tryd.infoPair
  have hlen := hv.len
  obtain ⟨a, cap, rfl, _, _, hc⟩ := hv
  have HC := hide hc
  have HOK := hide hok
  clear hc hok
  go_enter Tryd.func10, Tryd.ntmps10
  go_wp2_with fail
  go_loopw [3, 4] (fun o i wr => ∃ k : Nat, k ≤ l.length ∧ k ≤ 21 ∧ i = .int .i64 k ∧ wr.ownsRow w.heap.size 42 2 o k (flat (fewTo l k)) ∧ Below w.heap.size w wr) (fun _ i _ => 21 - (intOf i).toNat)
  case atStart => exact ⟨0, Nat.zero_le _, by omega, rfl, World.ownsRow_nil _ _ _ _, Below.refl _ _⟩
  case round =>
    obtain ⟨k, hk, hk21, rfl, hr, hB⟩ := hrel
    have HR := hide hr
    have hbs := hB.size
    clear hr
    by_cases hlt : k < l.length
    · have hlt' : (k : Int) < (l.length : Int) := by omega
      by_cases h21 : k < 21
      · have h21' : (k : Int) < 21 := by omega
        obtain ⟨g, off, rfl, hg, c1, c2⟩ := HC.out k hlt
        replace c1 := (hB.cell (p := ⟨g, off + k * 2, none⟩) hg).trans c1
        replace c2 := (hB.cell (p := ⟨g, off + k * 2 + 1, none⟩) hg).trans c2
        obtain ⟨o1, o2⟩ := HOK.out _ (List.getElem_mem hlt)
        have HSN := hide (fewTo_succ l k hlt)
        generalize hp1 : l[k].1 = p1 at *
        generalize hp2 : l[k].2 = p2 at *
        unfold maxLen at o1 o2
        by_cases hA : 41 < p1.size
        · by_cases hD : 41 < p2.size
          · have HA : Hid (cut41 p1 = (p1.extract 0 41)) := by unfold Hid cut41; rw [if_pos hA]
            have HB2 : Hid (cut41 p2 = (p2.extract 0 41)) := by unfold Hid cut41; rw [if_pos hD]
            have iA : (41 : Int) < (p1.size : Int) := by omega
            have iD : (41 : Int) < (p2.size : Int) := by omega
            clear hA hD
            rw [HA.out, HB2.out] at HSN
            go_wp2_with (at_builtin; refine wpList_append_own _ rfl _ _ 22 rfl w.heap.size 42 i0 (.agg #[.string ⟨#[]⟩, .string ⟨#[]⟩]) 2 32 Tryd.underlying22 hi hz0 hz1 hz2 rfl (by decide) _ _ _ rfl (ownsRow_below (ownsRow_below HR.out ((Below.refl _ wr).alloc (Nat.le_refl _) _)) ((Below.refl _ _).alloc (Nat.le_refl _) _)) ⟨wr.heap.size + 1, 0, none⟩ 1 1 [.string (p1.extract 0 41), .string (p2.extract 0 41)] rfl rfl (news_at (by simp)) (by simp [Value.oneCell']) (by unfold maxLen; omega) (by omega) (by simp; omega) ?_; intro v' w2 hown' hgrow _)
            refine ⟨⟨k + 1, by omega, by omega, by go_num, by rw [HSN.out]; exact hown', ?_⟩, by simp [intOf]; omega⟩
            exact ((hB.trans (((Below.refl _ wr).alloc (Nat.le_refl _) _).mono hB.size)).alloc (by simp; omega) _).grown hgrow (by simp; omega) (fun j e => ownBlock_ge HR.out e)
          · have HA : Hid (cut41 p1 = (p1.extract 0 41)) := by unfold Hid cut41; rw [if_pos hA]
            have HB2 : Hid (cut41 p2 = p2) := by unfold Hid cut41; rw [if_neg hD]
            have iA : (41 : Int) < (p1.size : Int) := by omega
            have iD : ¬ (41 : Int) < (p2.size : Int) := by omega
            clear hA hD
            rw [HA.out, HB2.out] at HSN
            go_wp2_with (at_builtin; refine wpList_append_own _ rfl _ _ 22 rfl w.heap.size 42 i0 (.agg #[.string ⟨#[]⟩, .string ⟨#[]⟩]) 2 32 Tryd.underlying22 hi hz0 hz1 hz2 rfl (by decide) _ _ _ rfl (ownsRow_below (ownsRow_below HR.out ((Below.refl _ wr).alloc (Nat.le_refl _) _)) ((Below.refl _ _).alloc (Nat.le_refl _) _)) ⟨wr.heap.size + 1, 0, none⟩ 1 1 [.string (p1.extract 0 41), .string p2] rfl rfl (news_at (by simp)) (by simp [Value.oneCell']) (by unfold maxLen; omega) (by omega) (by simp; omega) ?_; intro v' w2 hown' hgrow _)
            refine ⟨⟨k + 1, by omega, by omega, by go_num, by rw [HSN.out]; exact hown', ?_⟩, by simp [intOf]; omega⟩
            exact ((hB.trans (((Below.refl _ wr).alloc (Nat.le_refl _) _).mono hB.size)).alloc (by simp; omega) _).grown hgrow (by simp; omega) (fun j e => ownBlock_ge HR.out e)
        · by_cases hD : 41 < p2.size
          · have HA : Hid (cut41 p1 = p1) := by unfold Hid cut41; rw [if_neg hA]
            have HB2 : Hid (cut41 p2 = (p2.extract 0 41)) := by unfold Hid cut41; rw [if_pos hD]
            have iA : ¬ (41 : Int) < (p1.size : Int) := by omega
            have iD : (41 : Int) < (p2.size : Int) := by omega
            clear hA hD
            rw [HA.out, HB2.out] at HSN
            go_wp2_with (at_builtin; refine wpList_append_own _ rfl _ _ 22 rfl w.heap.size 42 i0 (.agg #[.string ⟨#[]⟩, .string ⟨#[]⟩]) 2 32 Tryd.underlying22 hi hz0 hz1 hz2 rfl (by decide) _ _ _ rfl (ownsRow_below (ownsRow_below HR.out ((Below.refl _ wr).alloc (Nat.le_refl _) _)) ((Below.refl _ _).alloc (Nat.le_refl _) _)) ⟨wr.heap.size + 1, 0, none⟩ 1 1 [.string p1, .string (p2.extract 0 41)] rfl rfl (news_at (by simp)) (by simp [Value.oneCell']) (by unfold maxLen; omega) (by omega) (by simp; omega) ?_; intro v' w2 hown' hgrow _)
            refine ⟨⟨k + 1, by omega, by omega, by go_num, by rw [HSN.out]; exact hown', ?_⟩, by simp [intOf]; omega⟩
            exact ((hB.trans (((Below.refl _ wr).alloc (Nat.le_refl _) _).mono hB.size)).alloc (by simp; omega) _).grown hgrow (by simp; omega) (fun j e => ownBlock_ge HR.out e)
          · have HA : Hid (cut41 p1 = p1) := by unfold Hid cut41; rw [if_neg hA]
            have HB2 : Hid (cut41 p2 = p2) := by unfold Hid cut41; rw [if_neg hD]
            have iA : ¬ (41 : Int) < (p1.size : Int) := by omega
            have iD : ¬ (41 : Int) < (p2.size : Int) := by omega
            clear hA hD
            rw [HA.out, HB2.out] at HSN
            go_wp2_with (at_builtin; refine wpList_append_own _ rfl _ _ 22 rfl w.heap.size 42 i0 (.agg #[.string ⟨#[]⟩, .string ⟨#[]⟩]) 2 32 Tryd.underlying22 hi hz0 hz1 hz2 rfl (by decide) _ _ _ rfl (ownsRow_below (ownsRow_below HR.out ((Below.refl _ wr).alloc (Nat.le_refl _) _)) ((Below.refl _ _).alloc (Nat.le_refl _) _)) ⟨wr.heap.size + 1, 0, none⟩ 1 1 [.string p1, .string p2] rfl rfl (news_at (by simp)) (by simp [Value.oneCell']) (by unfold maxLen; omega) (by omega) (by simp; omega) ?_; intro v' w2 hown' hgrow _)
            refine ⟨⟨k + 1, by omega, by omega, by go_num, by rw [HSN.out]; exact hown', ?_⟩, by simp [intOf]; omega⟩
            exact ((hB.trans (((Below.refl _ wr).alloc (Nat.le_refl _) _).mono hB.size)).alloc (by simp; omega) _).grown hgrow (by simp; omega) (fun j e => ownBlock_ge HR.out e)
      · have h21' : ¬ (k : Int) < 21 := by omega
        obtain rfl : k = 21 := by omega
        have hp : Prs wr u3 (fewP l) := Prs.of_row (by rw [fewP]; simp; omega) HR.out
        go_wp2_with fail
        go_ret
        exact ⟨_, rfl, hp, hB⟩
    · have hlt' : ¬ (k : Int) < (l.length : Int) := by omega
      have hfl : fewTo l k = fewP l := by
        unfold fewTo fewP
        rw [List.take_of_length_le (by omega), List.take_of_length_le (by omega)]
      have hp : Prs wr u3 (fewP l) := Prs.of_row (by rw [← hfl, fewTo_len l k hk]) (by rw [← hfl]; exact HR.out)
      go_wp2_with fail
      go_ret
      exact ⟨_, rfl, hp, hB⟩

/-- the laws' Text: no longer than 600 octets -/
def text6 (s : ByteArray) : ByteArray := if 600 < s.size then s.extract 0 600 else s
theorem text6_le (s : ByteArray) : (text6 s).size ≤ 600 := by
  unfold text6
  split
  · rw [ByteArray.size_extract]; omega
  · omega
set_option maxHeartbeats 400000 in
theorem ltext_any (s : ByteArray) (w : World) (hs : s.size ≤ maxLen) :
    Calls Tryd.prog 20 #[.string s] w fun e w' => e = .returned (.string (text6 s)) ∧ w' = w := by
  unfold maxLen at hs
  by_cases h : 600 < s.size
  · have HX : Hid (s.extract 0 600 = text6 s) := by unfold Hid text6; rw [if_pos h]
    go_enter Tryd.func20, Tryd.ntmps20
    go_wp2_with fail
    go_ret
    exact ⟨ret_str HX.out, rfl⟩
  · have HX : Hid (s = text6 s) := by unfold Hid text6; rw [if_neg h]
    go_enter Tryd.func20, Tryd.ntmps20
    go_wp2_with fail
    go_ret
    exact ⟨ret_str HX.out, rfl⟩

end Go.Proofs.YtmjjjlanafiilaaDoor
