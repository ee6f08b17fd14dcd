/-
  Walks: the document's Holds.
-/
import Derived.Test.YtppnkfjdgalgbaaPbRefA
import Derived.Test.YtppnkfjdgalgbaaPbWalkD
namespace Go.Proofs.Ytppnkfjdgalgbaa
open Go Go.RowKit Go.Shelf Go.Deep

attribute [local go_sem] gb_const

/-- how names are told: folded, or octet by octet -/
def sameH (f : Bool) (a b : ByteArray) : Bool := match f with
  | true => sameF a b
  | false => sameE a b
theorem sameH_eq (f : Bool) {a b : ByteArray} (h : a = b) : sameH f a b = true := by
  subst h
  cases f
  · exact decide_eq_true rfl
  · exact Pb.sm_refl a
theorem holdsQ_same (f : Bool) (ask l : List PairB) : holdsQ f ask l = Pb.holdsP (sameH f) ask l := by cases f <;> rfl

section
variable {same : ByteArray → ByteArray → Bool} {l : List PairB} {x : PairB} {k : Nat}
/-- has a pair of that name come? -/
def metTo (same : ByteArray → ByteArray → Bool) (l : List PairB) (x : PairB) (k : Nat) : Bool := ((l.take k).find? fun p => same p.1 x.1).isSome
/-- and has the first such the value that is asked for? -/
def goodTo (same : ByteArray → ByteArray → Bool) (l : List PairB) (x : PairB) (k : Nat) : Bool := Pb.asks same (l.take k) x
theorem find_next (h : k < l.length) : ((l.take (k + 1)).find? fun p => same p.1 x.1) = ((l.take k).find? fun p => same p.1 x.1).or (if same l[k].1 x.1 then some l[k] else none) := by
  rw [List.take_succ_eq_append_getElem h, List.find?_append]
  congr 1
  rw [List.find?_cons, List.find?_nil]
  cases same l[k].1 x.1 <;> rfl
theorem met_other (h : k < l.length) (hs : same l[k].1 x.1 = false) : metTo same l x (k + 1) = metTo same l x k := by
  unfold metTo
  rw [find_next h, hs]
  simp
theorem met_same (h : k < l.length) (hs : same l[k].1 x.1 = true) : metTo same l x (k + 1) = true := by
  unfold metTo
  rw [find_next h, hs]
  simp
theorem good_other (h : k < l.length) (hs : same l[k].1 x.1 = false) : goodTo same l x (k + 1) = goodTo same l x k := by
  unfold goodTo Pb.asks
  rw [find_next h, hs]
  simp
theorem good_again (h : k < l.length) (hs : same l[k].1 x.1 = true) (hm : metTo same l x k = true) : goodTo same l x (k + 1) = goodTo same l x k := by
  unfold metTo at hm
  unfold goodTo Pb.asks
  rw [find_next h, hs]
  cases hf : (l.take k).find? fun p => same p.1 x.1 with
  | none => rw [hf] at hm; cases hm
  | some p => simp
theorem good_first (h : k < l.length) (hs : same l[k].1 x.1 = true) (hm : metTo same l x k = false) : goodTo same l x (k + 1) = decide (l[k].2 = x.2) := by
  unfold metTo at hm
  unfold goodTo Pb.asks
  rw [find_next h, hs]
  cases hf : (l.take k).find? fun p => same p.1 x.1 with
  | none => simp
  | some p => rw [hf] at hm; cases hm
theorem good_all : goodTo same l x l.length = Pb.asks same l x := by
  unfold goodTo
  rw [List.take_of_length_le (Nat.le_refl _)]
end

set_option maxHeartbeats 3200000 in
theorem rholds_any (va v : Value) (ask l : List PairB) (f : Bool) (w : World) (ha : Prs w va ask) (oka : ∀ p ∈ ask, okF p) (hv : Prs w v l) (hok : ∀ p ∈ l, okF p) :
    Calls Try.prog 40 #[va, v, .bool f] w fun e w' => e = .returned (.bool (holdsQ f ask l)) ∧ Below w.heap.size w w' := by
  rw [holdsQ_same]
  have hlen := ha.len
  have hlen2 := hv.len
  obtain ⟨a, cap, rfl, _, _, hc⟩ := ha
  obtain ⟨a2, cap2, rfl, _, _, hc2⟩ := hv
  have HC := hide hc
  have HC2 := hide hc2
  have HOK := hide oka
  have HOK2 := hide hok
  clear hc hc2 oka hok
  go_enter Try.func40, Try.ntmps40
  go_wp2_with fail
  go_loopw [7] (fun i wr => ∃ k : Nat, k ≤ ask.length ∧ i = .int .i64 k ∧ Hid (Pb.holdsP (sameH f) (ask.take k) l = true) ∧ Below w.heap.size w wr) (fun i _ => ask.length - (intOf i).toNat)
  case atStart => exact ⟨0, Nat.zero_le _, rfl, rfl, Below.refl _ _⟩
  case round =>
    obtain ⟨wo, rfl⟩ : ∃ x, x = wr := ⟨wr, rfl⟩
    obtain ⟨k, hk, rfl, hyes, hB⟩ := hrel
    by_cases hlt : k < ask.length
    · have hlt' : (k : Int) < (ask.length : Int) := by omega
      obtain ⟨g, off, rfl, hg, D1, D2⟩ := HC.out k hlt
      replace D1 := fun W (h : Below w.heap.size w W) => (h.cell (p := ⟨g, off + k * 2, none⟩) hg).trans D1
      replace D2 := fun W (h : Below w.heap.size w W) => (h.cell (p := ⟨g, off + k * 2 + 1, none⟩) hg).trans D2
      obtain ⟨o1, o2⟩ := HOK.out _ (List.getElem_mem hlt)
      have HA := hide (holds_snoc (sameH f) ask l k hlt hyes.out)
      have HN := hide (holds_not (sameH f) ask l k hlt)
      clear hyes
      generalize ask[k] = x at *
      go_wp2_with fail
      go_loopw [8, 9, 10] (fun gd mt i wr => ∃ j : Nat, j ≤ l.length ∧ i = .int .i64 j ∧ gd = .bool (goodTo (sameH f) l x j) ∧ mt = .bool (metTo (sameH f) l x j) ∧ Below w.heap.size w wr) (fun _ _ i _ => l.length - (intOf i).toNat)
      case atStart => exact ⟨0, Nat.zero_le _, rfl, rfl, rfl, hB⟩
      case round =>
        clear hB
        obtain ⟨j, hj, rfl, rfl, rfl, hB⟩ := hrel
        by_cases hjl : j < l.length
        · have hjl' : (j : Int) < (l.length : Int) := by omega
          obtain ⟨g2, off2, rfl, hg2, C1, C2⟩ := HC2.out j hjl
          replace C1 := fun W (h : Below w.heap.size w W) => (h.cell (p := ⟨g2, off2 + j * 2, none⟩) hg2).trans C1
          replace C2 := fun W (h : Below w.heap.size w W) => (h.cell (p := ⟨g2, off2 + j * 2 + 1, none⟩) hg2).trans C2
          obtain ⟨p1', p2'⟩ := HOK2.out _ (List.getElem_mem hjl)
          have CS := fun W => hide (rprSame_any l[j].1 x.1 W p1' o1)
          have c1 := fun q : GB wr => C1 q.W (bb2 hB q.h)
          have c2 := fun q : GB wr => C2 q.W (bb2 hB q.h)
          have d1 := fun q : GB wr => D1 q.W (bb2 hB q.h)
          have d2 := fun q : GB wr => D2 q.W (bb2 hB q.h)
          cases he : (l[j].1.toList == x.1.toList)
          · cases f
            · have hs : sameH false l[j].1 x.1 = false := by rw [beq_dec] at he; exact he
              have HG := hide (good_other (x := x) hjl hs)
              have HM := hide (met_other (x := x) hjl hs)
              clear hs
              generalize l[j].1 = p1 at *
              generalize l[j].2 = p2 at *
              generalize goodTo (sameH false) l x j = gd at *
              generalize metTo (sameH false) l x j = mt at *
              go_wp2_with fail
              refine wp_region_below (by kernel_rfl) (by kernel_rfl) ?_
              repeat (first | go_big_quiet_step (fail) | quiet_step (fail))
              refine wpQuiet_nil ?_
              intro _ hw'
              obtain ⟨qq, hw2⟩ := hw'
              subst hw2
              have hq := qq.h
              go_wp2_with fail
              exact ⟨⟨j + 1, by omega, by go_num, by rw [HG.out], by rw [HM.out], bb2 hB hq⟩, by simp [intOf]; omega⟩
            · cases hs0 : sameF l[j].1 x.1
              · have hs : sameH true l[j].1 x.1 = false := hs0
                have HG := hide (good_other (x := x) hjl hs)
                have HM := hide (met_other (x := x) hjl hs)
                rw [hs0] at CS
                clear hs hs0
                generalize l[j].1 = p1 at *
                generalize l[j].2 = p2 at *
                generalize goodTo (sameH true) l x j = gd at *
                generalize metTo (sameH true) l x j = mt at *
                go_wp2_with fail
                refine wp_region_below (by kernel_rfl) (by kernel_rfl) ?_
                repeat (first | go_big_quiet_step ((go_at_call 36; exact calls_gb (CS _).out)) | quiet_step ((go_at_call 36; exact calls_gb (CS _).out)))
                refine wpQuiet_nil ?_
                intro _ hw'
                obtain ⟨qq, hw2⟩ := hw'
                subst hw2
                have hq := qq.h
                go_wp2_with fail
                exact ⟨⟨j + 1, by omega, by go_num, by rw [HG.out], by rw [HM.out], bb2 hB hq⟩, by simp [intOf]; omega⟩
              · have hs : sameH true l[j].1 x.1 = true := hs0
                rw [hs0] at CS
                clear hs0
                cases hm : metTo (sameH true) l x j
                · have HG := hide (good_first hjl hs hm)
                  have HM := hide (met_same (x := x) hjl hs)
                  rw [← beq_dec] at HG
                  clear hs hm
                  generalize l[j].1 = p1 at *
                  generalize l[j].2 = p2 at *
                  generalize goodTo (sameH true) l x j = gd at *
                  go_wp2_with fail
                  refine wp_region_below (by kernel_rfl) (by kernel_rfl) ?_
                  repeat (first | go_big_quiet_step ((go_at_call 36; exact calls_gb (CS _).out)) | quiet_step ((go_at_call 36; exact calls_gb (CS _).out)))
                  refine wpQuiet_nil ?_
                  intro _ hw'
                  obtain ⟨qq, hw2⟩ := hw'
                  subst hw2
                  have hq := qq.h
                  replace hB := bb2 hB hq
                  replace c1 := fun q : GB qq.W => C1 q.W (bb2 hB q.h)
                  replace c2 := fun q : GB qq.W => C2 q.W (bb2 hB q.h)
                  replace d1 := fun q : GB qq.W => D1 q.W (bb2 hB q.h)
                  replace d2 := fun q : GB qq.W => D2 q.W (bb2 hB q.h)
                  clear hq
                  go_wp2_with fail
                  refine wp_region_below (by kernel_rfl) (by kernel_rfl) ?_
                  repeat (first | go_big_quiet_step (fail) | quiet_step (fail))
                  refine wpQuiet_nil ?_
                  intro _ hw'
                  obtain ⟨qq, hw2⟩ := hw'
                  subst hw2
                  have hq := qq.h
                  go_wp2_with fail
                  exact ⟨⟨j + 1, by omega, by go_num, by rw [HG.out], by rw [HM.out], bb2 hB hq⟩, by simp [intOf]; omega⟩
                · have HG := hide (good_again hjl hs hm)
                  have HM := hide (met_same (x := x) hjl hs)
                  clear hs hm
                  generalize l[j].1 = p1 at *
                  generalize l[j].2 = p2 at *
                  generalize goodTo (sameH true) l x j = gd at *
                  go_wp2_with fail
                  refine wp_region_below (by kernel_rfl) (by kernel_rfl) ?_
                  repeat (first | go_big_quiet_step ((go_at_call 36; exact calls_gb (CS _).out)) | quiet_step ((go_at_call 36; exact calls_gb (CS _).out)))
                  refine wpQuiet_nil ?_
                  intro _ hw'
                  obtain ⟨qq, hw2⟩ := hw'
                  subst hw2
                  have hq := qq.h
                  go_wp2_with fail
                  exact ⟨⟨j + 1, by omega, by go_num, by rw [HG.out], by rw [HM.out], bb2 hB hq⟩, by simp [intOf]; omega⟩
          · have hs : sameH f l[j].1 x.1 = true := sameH_eq f (bytes_eq he)
            cases hm : metTo (sameH f) l x j
            · have HG := hide (good_first hjl hs hm)
              have HM := hide (met_same (x := x) hjl hs)
              rw [← beq_dec] at HG
              clear hs hm
              generalize l[j].1 = p1 at *
              generalize l[j].2 = p2 at *
              generalize goodTo (sameH f) l x j = gd at *
              go_wp2_with fail
              refine wp_region_below (by kernel_rfl) (by kernel_rfl) ?_
              repeat (first | go_big_quiet_step (fail) | quiet_step (fail))
              refine wpQuiet_nil ?_
              intro _ hw'
              obtain ⟨qq, hw2⟩ := hw'
              subst hw2
              have hq := qq.h
              replace hB := bb2 hB hq
              replace c1 := fun q : GB qq.W => C1 q.W (bb2 hB q.h)
              replace c2 := fun q : GB qq.W => C2 q.W (bb2 hB q.h)
              replace d1 := fun q : GB qq.W => D1 q.W (bb2 hB q.h)
              replace d2 := fun q : GB qq.W => D2 q.W (bb2 hB q.h)
              clear hq
              go_wp2_with fail
              refine wp_region_below (by kernel_rfl) (by kernel_rfl) ?_
              repeat (first | go_big_quiet_step (fail) | quiet_step (fail))
              refine wpQuiet_nil ?_
              intro _ hw'
              obtain ⟨qq, hw2⟩ := hw'
              subst hw2
              have hq := qq.h
              go_wp2_with fail
              exact ⟨⟨j + 1, by omega, by go_num, by rw [HG.out], by rw [HM.out], bb2 hB hq⟩, by simp [intOf]; omega⟩
            · have HG := hide (good_again hjl hs hm)
              have HM := hide (met_same (x := x) hjl hs)
              clear hs hm
              generalize l[j].1 = p1 at *
              generalize l[j].2 = p2 at *
              generalize goodTo (sameH f) l x j = gd at *
              go_wp2_with fail
              refine wp_region_below (by kernel_rfl) (by kernel_rfl) ?_
              repeat (first | go_big_quiet_step (fail) | quiet_step (fail))
              refine wpQuiet_nil ?_
              intro _ hw'
              obtain ⟨qq, hw2⟩ := hw'
              subst hw2
              have hq := qq.h
              go_wp2_with fail
              exact ⟨⟨j + 1, by omega, by go_num, by rw [HG.out], by rw [HM.out], bb2 hB hq⟩, by simp [intOf]; omega⟩
        · have hjl' : ¬ (j : Int) < (l.length : Int) := by omega
          obtain rfl : j = l.length := by omega
          rw [good_all]
          cases hx : Pb.asks (sameH f) l x
          · have HE : Hid (false = Pb.holdsP (sameH f) ask l) := (HN.out hx).symm
            go_wp2_with fail
            go_ret
            exact ⟨ret_bool HE.out, hB⟩
          · have HE := hide (HA.out hx)
            go_wp2_with fail
            exact ⟨⟨k + 1, by omega, by go_num, HE.out, hB⟩, by simp [intOf]; omega⟩
    · have hlt' : ¬ (k : Int) < (ask.length : Int) := by omega
      have HE : Hid (true = Pb.holdsP (sameH f) ask l) := by
        have := hyes.out
        rw [List.take_of_length_le (by omega)] at this
        exact this.symm
      go_wp2_with fail
      go_ret
      exact ⟨ret_bool HE.out, hB⟩

end Go.Proofs.Ytppnkfjdgalgbaa
