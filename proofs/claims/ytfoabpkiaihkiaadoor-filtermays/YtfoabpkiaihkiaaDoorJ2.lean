/-
  The document's All of filters.
-/
import Derived.Test.YtfoabpkiaihkiaaDoorFiRefB5
import Derived.Test.YtfoabpkiaihkiaaDoorPbRefA
import Derived.Test.YtfoabpkiaihkiaaDoorFiArg
import Derived.Test.YtfoabpkiaihkiaaDoorFiLawB
namespace Go.Proofs.YtfoabpkiaihkiaaDoor
set_option maxRecDepth 20000
open Go Go.RowKit Go.Shelf Fi

attribute [local go_sem] gb_const

/-- the first k may be, and no two of them are of one kind and one name -/
def FarF (l : List FB) (k : Nat) : Prop := ∀ j (hj : j < l.length), j < k → mayF l[j] = true ∧ ∀ i (hi : i < j), clash (l[i]'(by omega)) l[j] = false
theorem far_endF {l : List FB} (h : FarF l l.length) : allF l = (decide (turned l ≤ 1) && decide (l.length ≤ 8)) := by
  have hp : l.Pairwise fun f g => clash f g = false := by
    rw [List.pairwise_iff_getElem]
    intro i j hi hj hij
    exact (h j hj hj).2 i hij
  have hm : l.all mayF = true := by
    rw [List.all_eq_true]
    intro f hf
    obtain ⟨j, hj, rfl⟩ := List.getElem_of_mem hf
    exact (h j hj hj).1
  unfold allF
  rw [hm, decide_eq_true hp]
  cases decide (l.length ≤ 8) <;> cases decide (turned l ≤ 1) <;> rfl
theorem clash_noF {l : List FB} {i j : Nat} (hj : j < l.length) (hi : i < j) (h : clash (l[i]'(by omega)) l[j] = true) : allF l = false := by
  refine fall_no hj (.inr (List.any_eq_true.2 ⟨l[i]'(by omega), List.mem_take_iff_getElem.2 ⟨i, by omega, rfl⟩, ?_⟩))
  unfold clashG
  rw [clash_comm, h, Bool.or_true]
theorem turned_take {l : List FB} {k : Nat} (hk : k < l.length) : turned (l.take (k + 1)) = turned (l.take k) + if 3 < l[k].kind then 1 else 0 := by
  rw [take_snocF hk, turned_snoc]
theorem turned_le (l : List FB) : turned l ≤ l.length := List.length_filter_le _ _

set_option maxHeartbeats 6400000 in
theorem frall_any (v : Value) (l : List FB) (w : World) (hv : Sl EF w v l) (ok : ∀ f ∈ l, OkFi f) (hl9 : l.length ≤ 1000) :
    Calls Tryd.prog 13 #[v] w fun e w' => e = .returned (.bool (allF l)) ∧ Below w.heap.size w w' := by
  have hlen := hv.len
  obtain ⟨a, cap, rfl, hcap, hmax, hc⟩ := hv
  have HC := hide hc
  have HOK := hide ok
  clear hc ok
  go_enter Tryd.func13, Tryd.ntmps13
  go_wp2_with fail
  go_loopw [3, 4] (fun t i wr => ∃ k : Nat, k ≤ l.length ∧ i = .int .i64 k ∧ t = .int .i64 (turned (l.take k) : Nat) ∧ Hid (FarF l k) ∧ Below w.heap.size w wr) (fun _ i _ => l.length - (intOf i).toNat)
  case atStart => exact ⟨0, Nat.zero_le _, rfl, rfl, fun _ _ h => absurd h (by omega), Below.refl _ _⟩
  case round =>
    obtain ⟨k, hk, rfl, rfl, hno, hB⟩ := hrel
    have htl : turned (l.take k) ≤ 1000 := by
      have := turned_le (l.take k)
      simp at this
      omega
    by_cases hlt : k < l.length
    · have hlt' : (k : Int) < (l.length : Int) := by omega
      obtain ⟨_, gg, off, rfl, hgg, hat⟩ := HC.out k hlt
      have ELk := fun W (h : Below w.heap.size w W) => EF_at (show EF.At W gg (off + k * 8) l[k] from fun j u hu => (h.cell (p := ⟨gg, off + k * 8 + j, none⟩) hgg).trans (hat j u hu))
      obtain ⟨c0, c1, c2, c3, c4, c5, c6, c7⟩ := ELk wr hB
      have okk := HOK.out l[k] (List.getElem_mem hlt)
      have C1 := hide (rmay_any l[k] wr okk)
      have HT := hide (turned_take hlt)
      have HEL := hide ELk
      clear hat ELk
      cases hm : mayF l[k]
      · have HR : Hid (false = allF l) := (fall_no hlt (.inl hm)).symm
        rw [hm] at C1
        clear hm HT HEL
        generalize l[k] = fk at *
        obtain ⟨k0, n0, v0, h0, p0, t0, b0, z0⟩ := fk
        dsimp only at *
        go_wp2_with fail
        refine (C1.out).mono ?_
        rintro e w1 ⟨rfl, hb1⟩
        go_wp2_with fail
        go_ret
        exact ⟨ret_bool HR.out, bb2 hB hb1⟩
      have HM := hide hm
      rw [hm] at C1
      clear hm
      have INNER : ∀ (w1 : World), Below w.heap.size w w1 → Hid (∀ W, Below w1.heap.size w1 W → W.cell? ⟨gg, off + k * 8, none⟩ = some (.int .i64 l[k].kind) ∧ W.cell? ⟨gg, off + k * 8 + 1, none⟩ = some (.string l[k].name)) := fun w1 h1 W h => ⟨(HEL.out W (bb2 h1 h)).1, (HEL.out W (bb2 h1 h)).2.1⟩
      have HNX : Hid ((∀ i (hi : i < k), clash (l[i]'(by omega)) l[k] = false) → FarF l (k + 1)) := fun h j hj hjk => by
        rcases Nat.lt_or_ge j k with h1 | h1
        · exact hno.out j hj h1
        · obtain rfl : j = k := by omega
          exact ⟨HM.out, h⟩
      have HNO : Hid (∀ i (hi : i < k), clash (l[i]'(by omega)) l[k] = true → false = allF l) := fun i hi h => (clash_noF hlt hi h).symm
      have HCL : Hid (∀ i (hi : i < l.length), clash l[i] l[k] = (l[i].kind == l[k].kind && sameF l[i].name l[k].name)) := fun i hi => rfl
      have okn := okk.name
      clear HEL okk
      by_cases hk3 : 3 < l[k].kind
      · have hk3' : (3 : Int) < l[k].kind := hk3
        have HT2 : Hid (((turned (l.take k) : Nat) : Int) + 1 = ((turned (l.take (k + 1)) : Nat) : Int)) := by
          show _ = _
          rw [HT.out, if_pos hk3]
          omega
        have hwt : IntKind.i64.wrap (((turned (l.take k) : Nat) : Int) + 1) = ((turned (l.take (k + 1)) : Nat) : Int) := by rw [IntKind.wrap_i64, ← HT2.out]; omega
        clear HT HT2 hk3
        generalize ht1 : turned (l.take (k + 1)) = t1 at *
        have HT1 := hide ht1
        clear ht1
        generalize turned (l.take k) = t0' at *
        generalize hfk : l[k] = fk at *
        obtain ⟨k0, n0, v0, h0, p0, t0, b0, z0⟩ := fk
        dsimp only at *
        clear hfk
        go_wp2_with fail
        refine C1.out.mono ?_
        rintro e w1 ⟨rfl, hb1⟩
        have CK := INNER w1 (bb2 hB hb1)
        obtain ⟨c0', c1'⟩ := CK.out w1 (Below.refl _ _)
        clear C1 c0 c1 c2 c3 c4 c5 c6 c7
        go_wp2_with fail
        go_loopw [5] (fun i wr => ∃ m : Nat, m ≤ k ∧ i = .int .i64 m ∧ Hid (∀ i (hi : i < m) (hik : i < k), clash (l[i]'(by omega)) ⟨k0, n0, v0, h0, p0, t0, b0, z0⟩ = false) ∧ Below w1.heap.size w1 wr) (fun i _ => k - (intOf i).toNat)
        case atStart => exact ⟨0, Nat.zero_le _, rfl, fun _ h => absurd h (by omega), Below.refl _ _⟩
        case round =>
          obtain ⟨m, hm, rfl, hnm, hB2⟩ := hrel
          by_cases hml : m < k
          · have hml' : (m : Int) < (k : Int) := by omega
            have hmL : (m : Int) < (l.length : Int) := by omega
            obtain ⟨_, g2, off2, he2, hg2, hat2⟩ := HC.out m (by omega)
            injection he2 with he2
            injection he2 with e1 e2
            subst e1 e2
            have D0 := fun q : GB wr => (EF_at (show EF.At q.W gg (off + m * 8) (l[m]'(by omega)) from fun j u hu => ((bb2 (bb2 hB hb1) (bb2 hB2 q.h)).cell (p := ⟨gg, off + m * 8 + j, none⟩) hg2).trans (hat2 j u hu)))
            have d0 := fun q : GB wr => (D0 q).1
            have d1 := fun q : GB wr => (D0 q).2.1
            have g0 := fun q : GB wr => (CK.out q.W (bb2 hB2 q.h)).1
            have g1 := fun q : GB wr => (CK.out q.W (bb2 hB2 q.h)).2
            have CS := fun W => hide (rprSame_any (l[m]'(by omega)).name n0 W (HOK.out _ (List.getElem_mem _)).name okn)
            have HCm := hide (HCL.out m (by omega))
            have HNm := hide (HNO.out m hml)
            have HXm : Hid (clash (l[m]'(by omega)) ⟨k0, n0, v0, h0, p0, t0, b0, z0⟩ = false → ∀ i (hi : i < m + 1) (hik : i < k), clash (l[i]'(by omega)) ⟨k0, n0, v0, h0, p0, t0, b0, z0⟩ = false) := fun h i hi hik => by
              rcases Nat.lt_or_ge i m with h1 | h1
              · exact hnm.out i h1 hik
              · obtain rfl : i = m := by omega
                exact h
            clear D0 hat2
            generalize hcl : clash (l[m]'(by omega)) ⟨k0, n0, v0, h0, p0, t0, b0, z0⟩ = cl at *
            clear hcl
            generalize (l[m]'(by omega)).kind = mk at *
            generalize (l[m]'(by omega)).name = mn at *
            cases hkk : (mk == k0)
            · have HZ : Hid (cl = false) := by rw [HCm.out, hkk]; rfl
              have HX2 := hide (HXm.out HZ.out)
              go_wp2_with fail
              refine wp_region_below (by kernel_rfl) (by kernel_rfl) ?_
              repeat (first | go_big_quiet_step (fail) | quiet_step (fail))
              refine wpQuiet_nil ?_
              intro _ hw'
              obtain ⟨qq, hw2⟩ := hw'
              subst hw2
              have hq := qq.h
              go_wp2_with fail
              exact ⟨⟨m + 1, by omega, by go_num, HX2.out, bb2 hB2 hq⟩, by simp [intOf]; omega⟩
            · cases hs : sameF mn n0
              · have HZ : Hid (cl = false) := by rw [HCm.out, hkk, hs]; rfl
                have HX2 := hide (HXm.out HZ.out)
                rw [hs] at CS
                clear hs
                go_wp2_with fail
                refine wp_region_below (by kernel_rfl) (by kernel_rfl) ?_
                repeat (first | go_big_quiet_step ((go_at_call 19; exact calls_gb (CS _).out)) | quiet_step ((go_at_call 19; exact calls_gb (CS _).out)))
                refine wpQuiet_nil ?_
                intro _ hw'
                obtain ⟨qq, hw2⟩ := hw'
                subst hw2
                have hq := qq.h
                go_wp2_with fail
                exact ⟨⟨m + 1, by omega, by go_num, HX2.out, bb2 hB2 hq⟩, by simp [intOf]; omega⟩
              · have HZ : Hid (cl = true) := by rw [HCm.out, hkk, hs]; rfl
                have HR := hide (HNm.out HZ.out)
                rw [hs] at CS
                clear hs
                go_wp2_with fail
                refine wp_region_below (by kernel_rfl) (by kernel_rfl) ?_
                repeat (first | go_big_quiet_step ((go_at_call 19; exact calls_gb (CS _).out)) | quiet_step ((go_at_call 19; exact calls_gb (CS _).out)))
                refine wpQuiet_nil ?_
                intro _ hw'
                obtain ⟨qq, hw2⟩ := hw'
                subst hw2
                have hq := qq.h
                go_wp2_with fail
                go_ret
                exact ⟨ret_bool HR.out, bb2 (bb2 hB hb1) (bb2 hB2 hq)⟩
          · have hml' : ¬ (m : Int) < (k : Int) := by omega
            have HF := hide (HNX.out (fun i hi => hnm.out i (by omega) hi))
            go_wp2_with fail
            exact ⟨⟨k + 1, by omega, by go_num, by rw [HT1.out], HF.out, bb2 (bb2 hB hb1) hB2⟩, by simp [intOf]; omega⟩
      · have hk3' : ¬ (3 : Int) < l[k].kind := hk3
        have HT2 : Hid (turned (l.take k) = turned (l.take (k + 1))) := by
          show _ = _
          rw [HT.out, if_neg hk3]
          rfl
        rw [HT2.out]
        clear HT hk3 htl
        generalize ht1 : turned (l.take (k + 1)) = t1 at *
        have HT1 := hide ht1
        clear ht1
        generalize hfk : l[k] = fk at *
        obtain ⟨k0, n0, v0, h0, p0, t0, b0, z0⟩ := fk
        dsimp only at *
        clear hfk HT2
        go_wp2_with fail
        refine C1.out.mono ?_
        rintro e w1 ⟨rfl, hb1⟩
        have CK := INNER w1 (bb2 hB hb1)
        obtain ⟨c0', c1'⟩ := CK.out w1 (Below.refl _ _)
        clear C1 c0 c1 c2 c3 c4 c5 c6 c7
        go_wp2_with fail
        go_loopw [5] (fun i wr => ∃ m : Nat, m ≤ k ∧ i = .int .i64 m ∧ Hid (∀ i (hi : i < m) (hik : i < k), clash (l[i]'(by omega)) ⟨k0, n0, v0, h0, p0, t0, b0, z0⟩ = false) ∧ Below w1.heap.size w1 wr) (fun i _ => k - (intOf i).toNat)
        case atStart => exact ⟨0, Nat.zero_le _, rfl, fun _ h => absurd h (by omega), Below.refl _ _⟩
        case round =>
          obtain ⟨m, hm, rfl, hnm, hB2⟩ := hrel
          by_cases hml : m < k
          · have hml' : (m : Int) < (k : Int) := by omega
            have hmL : (m : Int) < (l.length : Int) := by omega
            obtain ⟨_, g2, off2, he2, hg2, hat2⟩ := HC.out m (by omega)
            injection he2 with he2
            injection he2 with e1 e2
            subst e1 e2
            have D0 := fun q : GB wr => (EF_at (show EF.At q.W gg (off + m * 8) (l[m]'(by omega)) from fun j u hu => ((bb2 (bb2 hB hb1) (bb2 hB2 q.h)).cell (p := ⟨gg, off + m * 8 + j, none⟩) hg2).trans (hat2 j u hu)))
            have d0 := fun q : GB wr => (D0 q).1
            have d1 := fun q : GB wr => (D0 q).2.1
            have g0 := fun q : GB wr => (CK.out q.W (bb2 hB2 q.h)).1
            have g1 := fun q : GB wr => (CK.out q.W (bb2 hB2 q.h)).2
            have CS := fun W => hide (rprSame_any (l[m]'(by omega)).name n0 W (HOK.out _ (List.getElem_mem _)).name okn)
            have HCm := hide (HCL.out m (by omega))
            have HNm := hide (HNO.out m hml)
            have HXm : Hid (clash (l[m]'(by omega)) ⟨k0, n0, v0, h0, p0, t0, b0, z0⟩ = false → ∀ i (hi : i < m + 1) (hik : i < k), clash (l[i]'(by omega)) ⟨k0, n0, v0, h0, p0, t0, b0, z0⟩ = false) := fun h i hi hik => by
              rcases Nat.lt_or_ge i m with h1 | h1
              · exact hnm.out i h1 hik
              · obtain rfl : i = m := by omega
                exact h
            clear D0 hat2
            generalize hcl : clash (l[m]'(by omega)) ⟨k0, n0, v0, h0, p0, t0, b0, z0⟩ = cl at *
            clear hcl
            generalize (l[m]'(by omega)).kind = mk at *
            generalize (l[m]'(by omega)).name = mn at *
            cases hkk : (mk == k0)
            · have HZ : Hid (cl = false) := by rw [HCm.out, hkk]; rfl
              have HX2 := hide (HXm.out HZ.out)
              go_wp2_with fail
              refine wp_region_below (by kernel_rfl) (by kernel_rfl) ?_
              repeat (first | go_big_quiet_step (fail) | quiet_step (fail))
              refine wpQuiet_nil ?_
              intro _ hw'
              obtain ⟨qq, hw2⟩ := hw'
              subst hw2
              have hq := qq.h
              go_wp2_with fail
              exact ⟨⟨m + 1, by omega, by go_num, HX2.out, bb2 hB2 hq⟩, by simp [intOf]; omega⟩
            · cases hs : sameF mn n0
              · have HZ : Hid (cl = false) := by rw [HCm.out, hkk, hs]; rfl
                have HX2 := hide (HXm.out HZ.out)
                rw [hs] at CS
                clear hs
                go_wp2_with fail
                refine wp_region_below (by kernel_rfl) (by kernel_rfl) ?_
                repeat (first | go_big_quiet_step ((go_at_call 19; exact calls_gb (CS _).out)) | quiet_step ((go_at_call 19; exact calls_gb (CS _).out)))
                refine wpQuiet_nil ?_
                intro _ hw'
                obtain ⟨qq, hw2⟩ := hw'
                subst hw2
                have hq := qq.h
                go_wp2_with fail
                exact ⟨⟨m + 1, by omega, by go_num, HX2.out, bb2 hB2 hq⟩, by simp [intOf]; omega⟩
              · have HZ : Hid (cl = true) := by rw [HCm.out, hkk, hs]; rfl
                have HR := hide (HNm.out HZ.out)
                rw [hs] at CS
                clear hs
                go_wp2_with fail
                refine wp_region_below (by kernel_rfl) (by kernel_rfl) ?_
                repeat (first | go_big_quiet_step ((go_at_call 19; exact calls_gb (CS _).out)) | quiet_step ((go_at_call 19; exact calls_gb (CS _).out)))
                refine wpQuiet_nil ?_
                intro _ hw'
                obtain ⟨qq, hw2⟩ := hw'
                subst hw2
                have hq := qq.h
                go_wp2_with fail
                go_ret
                exact ⟨ret_bool HR.out, bb2 (bb2 hB hb1) (bb2 hB2 hq)⟩
          · have hml' : ¬ (m : Int) < (k : Int) := by omega
            have HF := hide (HNX.out (fun i hi => hnm.out i (by omega) hi))
            go_wp2_with fail
            exact ⟨⟨k + 1, by omega, by go_num, by rw [HT1.out], HF.out, bb2 (bb2 hB hb1) hB2⟩, by simp [intOf]; omega⟩
    · have hlt' : ¬ (k : Int) < (l.length : Int) := by omega
      have hkl : k = l.length := by omega
      subst hkl
      rw [List.take_length] at *
      have HE := hide (far_endF hno.out)
      by_cases ht1 : turned l ≤ 1
      · have ht1' : ((turned l : Nat) : Int) ≤ 1 := by omega
        have HR : Hid (decide ((l.length : Int) ≤ 8) = allF l) := by
          show _ = _
          rw [HE.out, decide_eq_true ht1, Bool.true_and]
          exact decide_eq_decide.2 (by omega)
        go_wp2_with fail
        go_ret
        exact ⟨ret_bool HR.out, hB⟩
      · have ht1' : ¬ ((turned l : Nat) : Int) ≤ 1 := by omega
        have HR : Hid (false = allF l) := by
          show _ = _
          rw [HE.out, decide_eq_false ht1]
          rfl
        go_wp2_with fail
        go_ret
        exact ⟨ret_bool HR.out, hB⟩

end Go.Proofs.YtfoabpkiaihkiaaDoor
namespace Go.Proofs.YtfoabpkiaihkiaaDoor
set_option maxRecDepth 20000
open Go Go.RowKit Go.Shelf Fi

attribute [local go_sem] gb_const

set_option maxHeartbeats 6400000 in
theorem mays_law (v0 : Value) (w : World) (h0 : ArgFs w v0) :
    Calls Tryd.prog 3 #[v0] w fun e w' => e = .returned (.bool true) ∧ Below w.heap.size w w' := by
  obtain ⟨l0, hat0, raw0⟩ := h0
  go_enter Tryd.func3, Tryd.ntmps3
  go_wp2_with fail
  refine (ffew_any v0 l0 w hat0 raw0).mono ?_
  rintro e w1 ⟨u1, rfl, row1, hb1⟩
  have ok1 := someF_ok l0
  have len1 := someF_len l0
  generalize someF l0 = L at *
  have mt := Sl.of_row (E := EF) rfl row1 (fun _ _ => trivial)
  clear row1 hat0 raw0
  have HM := hide mt
  have hlen := mt.len
  obtain ⟨ad, cap, rfl, hle1, hle2, hc⟩ := mt
  have HC := hide hc
  have HOK := hide ok1
  clear hc ok1
  go_wp2_with fail
  go_loopw [3] (fun i wr => ∃ k : Nat, k ≤ L.length ∧ i = .int .i64 k ∧ Below w1.heap.size w1 wr) (fun i _ => L.length - (intOf i).toNat)
  case atStart => exact ⟨0, Nat.zero_le _, rfl, Below.refl _ _⟩
  case round =>
    obtain ⟨k, hk, rfl, hB⟩ := hrel
    by_cases hlt : k < L.length
    · have hlt' : (k : Int) < (L.length : Int) := by omega
      obtain ⟨_, gg, off, rfl, hgg, hat⟩ := HC.out k hlt
      have D0 := fun q : GB wr => (EF_at (show EF.At q.W gg (off + k * 8) L[k] from fun j u hu => ((bb2 hB q.h).cell (p := ⟨gg, off + k * 8 + j, none⟩) hgg).trans (hat j u hu)))
      have okk := HOK.out L[k] (List.getElem_mem hlt)
      have C1 := fun W => hide (fmay_any L[k] W okk)
      have C2 := fun W => hide (rmay_any L[k] W okk)
      clear hat okk
      generalize mayF L[k] = bm at *
      generalize L[k] = fk at *
      obtain ⟨k0, n0, v0, h0, p0, t0, b0, z0⟩ := fk
      dsimp only at *
      have c0 := fun q : GB wr => (D0 q).1
      have c1 := fun q : GB wr => (D0 q).2.1
      have c2 := fun q : GB wr => (D0 q).2.2.1
      have c3 := fun q : GB wr => (D0 q).2.2.2.1
      have c4 := fun q : GB wr => (D0 q).2.2.2.2.1
      have c5 := fun q : GB wr => (D0 q).2.2.2.2.2.1
      have c6 := fun q : GB wr => (D0 q).2.2.2.2.2.2.1
      have c7 := fun q : GB wr => (D0 q).2.2.2.2.2.2.2
      clear D0
      cases bm
      all_goals
        go_wp2_with fail
        refine wp_region_below (by kernel_rfl) (by kernel_rfl) ?_
        repeat (first | go_big_quiet_step (first | (go_at_call 10; exact calls_gb (C1 _).out) | (go_at_call 11; exact calls_gb (C2 _).out)) | quiet_step (first | (go_at_call 10; exact calls_gb (C1 _).out) | (go_at_call 11; exact calls_gb (C2 _).out)))
        refine wpQuiet_nil ?_
        intro _ hw'
        obtain ⟨qq, hw2⟩ := hw'
        subst hw2
        have hq := qq.h
        go_wp2_with fail
        exact ⟨⟨k + 1, by omega, by go_num, bb2 hB hq⟩, by simp [intOf]; omega⟩
    · have hlt' : ¬ (k : Int) < (L.length : Int) := by omega
      have E1 := hide (fall_any (.slice ad L.length cap) L wr (HM.out.below hB) HOK.out)
      have E2 := fun W (h : Below wr.heap.size wr W) => hide (frall_any (.slice ad L.length cap) L W (HM.out.below (bb2 hB h)) HOK.out (by omega))
      generalize allF L = ba at *
      cases ba
      all_goals
        go_wp2_with fail
        refine (E1.out).mono ?_
        rintro e w2 ⟨rfl, hb2⟩
        go_wp2_with fail
        refine ((E2 _ hb2).out).mono ?_
        rintro e w3 ⟨rfl, hb3⟩
        go_wp2_with fail
        refine (fawake_any _).mono ?_
        rintro e w4 ⟨rfl, hb4⟩
        go_wp2_with fail
        go_ret
        exact ⟨rfl, bb2 hb1 (bb2 hB (bb2 (bb2 hb2 hb3) hb4))⟩

end Go.Proofs.YtfoabpkiaihkiaaDoor
