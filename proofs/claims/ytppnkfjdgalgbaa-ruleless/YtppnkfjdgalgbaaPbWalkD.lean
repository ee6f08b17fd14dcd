/-
  Walks: Holds.
-/
import Derived.Test.YtppnkfjdgalgbaaPbWalkA
namespace Go.Proofs.Ytppnkfjdgalgbaa
open Go Go.RowKit Go.Shelf

theorem symF (a b : ByteArray) : sameF a b = sameF b a := Pb.sm_comm a b
theorem symE (a b : ByteArray) : sameE a b = sameE b a := decide_eq_decide.2 ⟨Eq.symm, Eq.symm⟩
theorem asks_first (same : ByteArray → ByteArray → Bool) (hs : ∀ a b, same a b = same b a) (l : List PairB) (p : PairB) : Pb.asks same l p = decide (firstP same p.1 l = some p.2) := by
  unfold Pb.asks firstP
  have e : (fun q : PairB => same q.1 p.1) = fun q : PairB => same p.1 q.1 := funext fun q => hs _ _
  rw [e]
  cases l.find? fun q : PairB => same p.1 q.1 with
  | none => simp
  | some q =>
    show decide (q.2 = p.2) = _
    simp
theorem holds_snoc (same : ByteArray → ByteArray → Bool) (ask l : List PairB) (k : Nat) (h : k < ask.length) (hy : Pb.holdsP same (ask.take k) l = true) (ha : Pb.asks same l ask[k] = true) : Pb.holdsP same (ask.take (k + 1)) l = true := by
  rw [List.take_succ_eq_append_getElem h]
  unfold Pb.holdsP at *
  rw [List.all_append, hy]
  simp [ha]
theorem holds_not (same : ByteArray → ByteArray → Bool) (ask l : List PairB) (k : Nat) (h : k < ask.length) (ha : Pb.asks same l ask[k] = false) : Pb.holdsP same ask l = false := by
  unfold Pb.holdsP
  rw [List.all_eq_false]
  exact ⟨ask[k], List.getElem_mem h, by rw [ha]; decide⟩

set_option maxHeartbeats 1600000 in
theorem holds_true (va v : Value) (ask l : List PairB) (w : World) (ha : Prs w va ask) (oka : ∀ p ∈ ask, okP p) (hv : Prs w v l) (hok : ∀ p ∈ l, okP p) :
    Calls Try.prog 38 #[va, v, .bool true] w fun e w' => e = .returned (.bool (Pb.holdsP sameF ask l)) ∧ Below w.heap.size w w' := by
  have hlen := ha.len
  have CF := fun (p : ByteArray) W (hp : p.size ≤ maxLen) (hW : Below w.heap.size w W) => hide (first_any cmp_same p v l W hp (hv.below hW) hok)
  clear hv hok
  obtain ⟨a, cap, rfl, _, _, hc⟩ := ha
  have HC := hide hc
  have HOK := hide oka
  clear hc oka
  go_enter Try.func38, Try.ntmps38
  go_wp2_with fail
  go_loopw [15] (fun i wr => ∃ k : Nat, k ≤ ask.length ∧ i = .int .i64 k ∧ Hid (Pb.holdsP sameF (ask.take k) l = true) ∧ Below w.heap.size w wr) (fun i _ => ask.length - (intOf i).toNat)
  case atStart => exact ⟨0, Nat.zero_le _, rfl, rfl, Below.refl _ _⟩
  case round =>
    obtain ⟨k, hk, rfl, hyes, hB⟩ := hrel
    by_cases hlt : k < ask.length
    · have hlt' : (k : Int) < (ask.length : Int) := by omega
      obtain ⟨g, off, rfl, hg, c1, c2⟩ := HC.out k hlt
      replace c1 := (hB.cell (p := ⟨g, off + k * 2, none⟩) hg).trans c1
      replace c2 := (hB.cell (p := ⟨g, off + k * 2 + 1, none⟩) hg).trans c2
      obtain ⟨o1, o2⟩ := HOK.out _ (List.getElem_mem hlt)
      have C1 := fun W => CF ask[k].1 W o1
      have HA := hide (holds_snoc sameF ask l k hlt hyes.out)
      have HN := hide (holds_not sameF ask l k hlt)
      rw [asks_first sameF symF] at HA HN
      cases hf : firstP sameF ask[k].1 l with
      | none =>
        rw [hf] at C1 HA HN
        have HE : Hid (false = Pb.holdsP sameF ask l) := (HN.out (by simp)).symm
        clear HN HA hf
        generalize ask[k].1 = p1 at *
        generalize ask[k].2 = p2 at *
        go_wp2_with fail
        refine (C1 _ (hB.alloc hB.size _)).out.mono ?_
        rintro e w2 ⟨rfl, hb2⟩
        have hb3 := below_box hb2
        go_wp2_with fail
        go_ret
        exact ⟨ret_bool HE.out, bb2 hB hb3⟩
      | some y =>
        rw [hf] at C1 HA HN
        clear hf
        cases hq : (y.toList == ask[k].2.toList)
        · have HE : Hid (false = Pb.holdsP sameF ask l) := (HN.out (by rw [beq_dec] at hq; simpa using hq)).symm
          clear HN HA
          generalize ask[k].1 = p1 at *
          generalize ask[k].2 = p2 at *
          go_wp2_with fail
          refine (C1 _ (hB.alloc hB.size _)).out.mono ?_
          rintro e w2 ⟨rfl, hb2⟩
          have d2 := box_snd hb2
          have hb3 := below_box hb2
          clear hb2
          simp only [valO, Option.getD_some, Option.isSome_some]
          go_wp2_with fail
          go_ret
          exact ⟨ret_bool HE.out, bb2 hB hb3⟩
        · have HE : Hid (Pb.holdsP sameF (ask.take (k + 1)) l = true) := HA.out (by rw [beq_dec] at hq; simpa using hq)
          clear HN HA
          generalize ask[k].1 = p1 at *
          generalize ask[k].2 = p2 at *
          go_wp2_with fail
          refine (C1 _ (hB.alloc hB.size _)).out.mono ?_
          rintro e w2 ⟨rfl, hb2⟩
          have d2 := box_snd hb2
          have hb3 := below_box hb2
          clear hb2
          simp only [valO, Option.getD_some, Option.isSome_some]
          go_wp2_with fail
          exact ⟨⟨k + 1, by omega, by go_num, HE.out, bb2 hB hb3⟩, by simp [intOf]; omega⟩
    · have hlt' : ¬ (k : Int) < (ask.length : Int) := by omega
      have HE : Hid (true = Pb.holdsP sameF ask l) := by
        have := hyes.out
        rw [List.take_of_length_le (by omega)] at this
        exact this.symm
      go_wp2_with fail
      go_ret
      exact ⟨ret_bool HE.out, hB⟩

set_option maxHeartbeats 1600000 in
theorem holds_false (va v : Value) (ask l : List PairB) (w : World) (ha : Prs w va ask) (oka : ∀ p ∈ ask, okP p) (hv : Prs w v l) (hok : ∀ p ∈ l, okP p) :
    Calls Try.prog 38 #[va, v, .bool false] w fun e w' => e = .returned (.bool (Pb.holdsP sameE ask l)) ∧ Below w.heap.size w w' := by
  have hlen := ha.len
  have CF := fun (p : ByteArray) W (hp : p.size ≤ maxLen) (hW : Below w.heap.size w W) => hide (first_any cmp_equal p v l W hp (hv.below hW) hok)
  clear hv hok
  obtain ⟨a, cap, rfl, _, _, hc⟩ := ha
  have HC := hide hc
  have HOK := hide oka
  clear hc oka
  go_enter Try.func38, Try.ntmps38
  go_wp2_with fail
  go_loopw [15] (fun i wr => ∃ k : Nat, k ≤ ask.length ∧ i = .int .i64 k ∧ Hid (Pb.holdsP sameE (ask.take k) l = true) ∧ Below w.heap.size w wr) (fun i _ => ask.length - (intOf i).toNat)
  case atStart => exact ⟨0, Nat.zero_le _, rfl, rfl, Below.refl _ _⟩
  case round =>
    obtain ⟨k, hk, rfl, hyes, hB⟩ := hrel
    by_cases hlt : k < ask.length
    · have hlt' : (k : Int) < (ask.length : Int) := by omega
      obtain ⟨g, off, rfl, hg, c1, c2⟩ := HC.out k hlt
      replace c1 := (hB.cell (p := ⟨g, off + k * 2, none⟩) hg).trans c1
      replace c2 := (hB.cell (p := ⟨g, off + k * 2 + 1, none⟩) hg).trans c2
      obtain ⟨o1, o2⟩ := HOK.out _ (List.getElem_mem hlt)
      have C1 := fun W => CF ask[k].1 W o1
      have HA := hide (holds_snoc sameE ask l k hlt hyes.out)
      have HN := hide (holds_not sameE ask l k hlt)
      rw [asks_first sameE symE] at HA HN
      cases hf : firstP sameE ask[k].1 l with
      | none =>
        rw [hf] at C1 HA HN
        have HE : Hid (false = Pb.holdsP sameE ask l) := (HN.out (by simp)).symm
        clear HN HA hf
        generalize ask[k].1 = p1 at *
        generalize ask[k].2 = p2 at *
        go_wp2_with fail
        refine (C1 _ (hB.alloc hB.size _)).out.mono ?_
        rintro e w2 ⟨rfl, hb2⟩
        have hb3 := below_box hb2
        go_wp2_with fail
        go_ret
        exact ⟨ret_bool HE.out, bb2 hB hb3⟩
      | some y =>
        rw [hf] at C1 HA HN
        clear hf
        cases hq : (y.toList == ask[k].2.toList)
        · have HE : Hid (false = Pb.holdsP sameE ask l) := (HN.out (by rw [beq_dec] at hq; simpa using hq)).symm
          clear HN HA
          generalize ask[k].1 = p1 at *
          generalize ask[k].2 = p2 at *
          go_wp2_with fail
          refine (C1 _ (hB.alloc hB.size _)).out.mono ?_
          rintro e w2 ⟨rfl, hb2⟩
          have d2 := box_snd hb2
          have hb3 := below_box hb2
          clear hb2
          simp only [valO, Option.getD_some, Option.isSome_some]
          go_wp2_with fail
          go_ret
          exact ⟨ret_bool HE.out, bb2 hB hb3⟩
        · have HE : Hid (Pb.holdsP sameE (ask.take (k + 1)) l = true) := HA.out (by rw [beq_dec] at hq; simpa using hq)
          clear HN HA
          generalize ask[k].1 = p1 at *
          generalize ask[k].2 = p2 at *
          go_wp2_with fail
          refine (C1 _ (hB.alloc hB.size _)).out.mono ?_
          rintro e w2 ⟨rfl, hb2⟩
          have d2 := box_snd hb2
          have hb3 := below_box hb2
          clear hb2
          simp only [valO, Option.getD_some, Option.isSome_some]
          go_wp2_with fail
          exact ⟨⟨k + 1, by omega, by go_num, HE.out, bb2 hB hb3⟩, by simp [intOf]; omega⟩
    · have hlt' : ¬ (k : Int) < (ask.length : Int) := by omega
      have HE : Hid (true = Pb.holdsP sameE ask l) := by
        have := hyes.out
        rw [List.take_of_length_le (by omega)] at this
        exact this.symm
      go_wp2_with fail
      go_ret
      exact ⟨ret_bool HE.out, hB⟩

/-- what Holds answers -/
def holdsQ (fold : Bool) (ask l : List PairB) : Bool := match fold with
  | true => Pb.holdsP sameF ask l
  | false => Pb.holdsP sameE ask l
theorem holds_any (va v : Value) (ask l : List PairB) (b : Bool) (w : World) (ha : Prs w va ask) (oka : ∀ p ∈ ask, okP p) (hv : Prs w v l) (hok : ∀ p ∈ l, okP p) :
    Calls Try.prog 38 #[va, v, .bool b] w fun e w' => e = .returned (.bool (holdsQ b ask l)) ∧ Below w.heap.size w w' := by
  cases b
  · exact holds_false va v ask l w ha oka hv hok
  · exact holds_true va v ask l w ha oka hv hok

end Go.Proofs.Ytppnkfjdgalgbaa
