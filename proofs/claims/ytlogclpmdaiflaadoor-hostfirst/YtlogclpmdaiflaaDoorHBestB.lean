/-
  Walks of the document's own answers: Best. The law HostBest.
-/
import Derived.Test.YtlogclpmdaiflaaDoorHBestA
namespace Go.Proofs.YtlogclpmdaiflaaDoor
open Go Go.RowKit Go.Shelf

/-- a world that has grown behind w, all below as it was -/
structure GB (w : World) where
  W : World
  h : Below w.heap.size w W

/-- there is one such world at least -/
theorem gb_const {w : World} {p : Prop} : (GB w → p) ↔ p := ⟨fun h => h ⟨w, Below.refl _ _⟩, fun h _ => h⟩

attribute [local go_sem] gb_const

/-- A region that draws its order, whose operations only read, and whose callees may make memory of their own: walked once, in the order of the text. -/
theorem wp_region_below {P : Program} {id : Nat} {Q : Exit → Act → World → Prop} {a : Act} {w : World} {l : List Oper} (hm : P.follows .mixedOrders = true) (hB : Region.lexB .any l.toArray = true)
    (h : wpQuiet P l.toArray (fun w' => ∃ p : GB w, w' = p.W) (fun a' => ∀ w', (∃ p : GB w, w' = p.W) → Q .normal a' w') l a) : (Code.region id l.toArray true).wp P Q a w :=
  wp_region_quiet (C := fun w' => ∃ p : GB w, w' = p.W) hm hB ⟨⟨w.drew, (Below.refl _ w).drew⟩, rfl⟩ (by simpa using h)

/-- a callee's contract, met in such a world -/
theorem calls_gb {P : Program} {f : FuncId} {args : Array Value} {w : World} {p : GB w} {v : Value}
    (h : Calls P f args p.W fun e w' => e = .returned v ∧ Below p.W.heap.size p.W w') : Calls P f args p.W fun e w'' => e = .returned v ∧ ∃ q : GB w, w'' = q.W :=
  h.mono fun _ w' ⟨he, hb⟩ => ⟨he, ⟨w', p.h.trans (hb.mono p.h.size)⟩, rfl⟩
theorem calls_gb_same {P : Program} {f : FuncId} {args : Array Value} {w : World} {p : GB w} {v : Value}
    (h : Calls P f args p.W fun e w' => e = .returned v ∧ w' = p.W) : Calls P f args p.W fun e w'' => e = .returned v ∧ ∃ q : GB w, w'' = q.W :=
  h.mono fun _ _ ⟨he, hb⟩ => ⟨he, p, hb⟩

/-- the j-th one stands against the n-th one -/
def BadB (ps : List ByteArray) (h : ByteArray) (n j : Nat) : Prop := hB ps h j = true ∧ (oB ps j n < 0 ∨ (j < n ∧ oB ps j n = 0))
theorem bestF_bad {ps : List ByteArray} {h : ByteArray} {n : Nat} (hn : n < ps.length) : BestF (hB ps h) (oB ps) ps.length n ↔ hB ps h n = true ∧ ∀ j, j < ps.length → ¬ BadB ps h n j := by
  constructor
  · rintro ⟨_, h1, h2⟩
    refine ⟨h1, fun j hj ⟨h3, h4⟩ => ?_⟩
    have := h2 j hj h3
    omega
  · rintro ⟨h1, h2⟩
    refine ⟨hn, h1, fun j hj h3 => ?_⟩
    have h4 := h2 j hj
    unfold BadB at h4
    by_cases h5 : oB ps j n < 0
    · exact absurd ⟨h3, .inl h5⟩ h4
    · by_cases h6 : oB ps j n = 0
      · right
        refine ⟨h6, ?_⟩
        by_cases h7 : j < n
        · exact absurd ⟨h3, .inr ⟨h7, h6⟩⟩ h4
        · omega
      · left; omega
theorem bad_stay {ps : List ByteArray} {h : ByteArray} {n k : Nat} {q : Bool} (hq : q = true ↔ hB ps h n = true ∧ ∀ j, j < k → ¬ BadB ps h n j) (hk : ¬ BadB ps h n k) : q = true ↔ hB ps h n = true ∧ ∀ j, j < k + 1 → ¬ BadB ps h n j := by
  rw [hq]
  refine ⟨fun ⟨a, b⟩ => ⟨a, fun j hj => ?_⟩, fun ⟨a, b⟩ => ⟨a, fun j hj => b j (by omega)⟩⟩
  by_cases e : j = k
  · subst e; exact hk
  · exact b j (by omega)
theorem bad_out {ps : List ByteArray} {h : ByteArray} {n k : Nat} (hk : BadB ps h n k) : false = true ↔ hB ps h n = true ∧ ∀ j, j < k + 1 → ¬ BadB ps h n j :=
  ⟨fun e => (Bool.false_ne_true e).elim, fun hb => absurd hk (hb.2 k (by omega))⟩

set_option maxHeartbeats 3200000 in
theorem rbest_any (v : Value) (ps : List ByteArray) (h : ByteArray) (w : World) (hv : Strs w v ps) (hl : ps.length ≤ 1000) (ha : ∀ p ∈ ps, p.size ≤ 100) (hh : h.size ≤ 100) :
    Calls Tryd.prog 25 #[v, .string h] w fun e w' => BestPost (hB ps h) (oB ps) ps.length w e w' := by
  obtain ⟨a, cap, rfl, HC⟩ := strs_cell hv
  have HA := hide ha
  have L := hide (oB_ord ps)
  clear ha hv
  go_enter Tryd.func25, Tryd.ntmps25
  go_wp2_with fail
  go_loopw [6] (fun i wr => ∃ n : Nat, n ≤ ps.length ∧ i = .int .i64 n ∧ Hid (∀ j, j < n → ¬ BestF (hB ps h) (oB ps) ps.length j) ∧ Below w.heap.size w wr) (fun i _ => ps.length - (intOf i).toNat)
  case atStart => exact ⟨0, Nat.zero_le _, rfl, fun j hj => by omega, Below.refl _ _⟩
  case round =>
    obtain ⟨n, hn, rfl, hnone, hB0⟩ := hrel
    by_cases hlt : n < ps.length
    · have hlt' : (n : Int) < (ps.length : Int) := by omega
      obtain ⟨g, rfl, hg, hcell⟩ := HC.out n hlt
      have c1 := (hB0.cell (p := ⟨g, n, none⟩) hg).trans hcell
      have ln := nth_mem hlt HA.out
      clear hcell
      have CH := fun w => hide (rholds_any (nth ps n) h w ln hh)
      go_wp2_with fail
      refine (CH _).out.mono ?_
      rintro e w1 ⟨rfl, hb1⟩
      have hB1 := hB0.trans (hb1.mono hB0.size)
      generalize hH : holds (nth ps n).data.toList h.data.toList = hn0 at *
      have HH := hide hH
      clear hH
      clear CH c1 ln hB0 hb1
      go_wp2_with fail
      go_loopw [7, 8] (fun b i wr => ∃ (k : Nat) (q : Bool), k ≤ ps.length ∧ i = .int .i64 k ∧ b = .bool q ∧ Hid (q = true ↔ hB ps h n = true ∧ ∀ j, j < k → ¬ BadB ps h n j) ∧ Below w.heap.size w wr) (fun _ i _ => ps.length - (intOf i).toNat)
      case atStart => exact ⟨0, hn0, Nat.zero_le _, rfl, rfl, by unfold Hid; rw [← HH.out]; simp [hB], hB1⟩
      case round =>
        obtain ⟨k, q, hk, rfl, rfl, hq, hBr⟩ := hrel
        by_cases hkl : k < ps.length
        · have hkl' : (k : Int) < (ps.length : Int) := by omega
          have lk := nth_mem hkl HA.out
          have ln := nth_mem hlt HA.out
          have lk' : (nth ps k).size ≤ maxLen := small_len (by omega)
          have ln' : (nth ps n).size ≤ maxLen := small_len (by omega)
          have hgr : g < wr.heap.size := Nat.lt_of_lt_of_le hg hBr.size
          have ck : ∀ p : GB wr, p.W.cell? ⟨g, k, none⟩ = some (.string (nth ps k)) := fun p => by
            obtain ⟨g', e, hg', hcell⟩ := HC.out k hkl
            simp at e
            subst e
            exact (p.h.cell (p := ⟨g, k, none⟩) hgr).trans ((hBr.cell (p := ⟨g, k, none⟩) hg).trans hcell)
          have cn : ∀ p : GB wr, p.W.cell? ⟨g, n, none⟩ = some (.string (nth ps n)) := fun p => by
            obtain ⟨g', e, hg', hcell⟩ := HC.out n hlt
            simp at e
            subst e
            exact (p.h.cell (p := ⟨g, n, none⟩) hgr).trans ((hBr.cell (p := ⟨g, n, none⟩) hg).trans hcell)
          have CH := fun w => hide (rholds_any (nth ps k) h w lk hh)
          have CO := fun w => hide (rorder_any (nth ps k) (nth ps n) w lk' ln')
          have STAY := hide (fun hb => bad_stay (k := k) hq.out hb)
          have OUT := hide (fun hb => bad_out (ps := ps) (h := h) (n := n) (k := k) hb)
          cases hH : holds (nth ps k).data.toList h.data.toList
          · rw [hH] at CH
            have HF : Hid (¬ BadB ps h n k) := fun hb => by have := hb.1; unfold hB at this; rw [hH] at this; cases this
            have HS := hide (STAY.out HF.out)
            clear hH STAY OUT CO
            go_wp2_with fail
            refine wp_region_below (by kernel_rfl) (by kernel_rfl) ?_
            repeat (first | go_big_quiet_step (((go_at_call 15; exact calls_gb (CH _).out))) | quiet_step (((go_at_call 15; exact calls_gb (CH _).out))))
            refine wpQuiet_nil ?_
            intro _ hw'
            obtain ⟨⟨wq, hq⟩, hw2⟩ := hw'
            subst hw2
            go_wp2_with fail
            exact ⟨⟨k + 1, q, by omega, by go_num, rfl, HS, hBr.trans (hq.mono hBr.size)⟩, by simp [intOf]; omega⟩
          · rw [hH] at CH
            have hr := ord_range (nth ps k).data.toList (nth ps n).data.toList
            generalize hO : ord (nth ps k).data.toList (nth ps n).data.toList = o at *
            rcases hr with rfl | rfl | rfl
            · have HS := hide (OUT.out ⟨hH, .inl (by unfold oB; rw [hO]; decide)⟩)
              clear hH STAY OUT hO
              go_wp2_with fail
              refine wp_region_below (by kernel_rfl) (by kernel_rfl) ?_
              repeat (first | go_big_quiet_step ((first | (go_at_call 15; exact calls_gb (CH _).out) | (go_at_call 22; exact calls_gb_same (CO _).out))) | quiet_step ((first | (go_at_call 15; exact calls_gb (CH _).out) | (go_at_call 22; exact calls_gb_same (CO _).out))))
              refine wpQuiet_nil ?_
              intro _ hw'
              obtain ⟨⟨wq, hq⟩, hw2⟩ := hw'
              subst hw2
              go_wp2_with fail
              exact ⟨⟨k + 1, false, by omega, by go_num, rfl, HS, hBr.trans (hq.mono hBr.size)⟩, by simp [intOf]; omega⟩
            · by_cases hkn : k < n
              · have hkn' : (k : Int) < (n : Int) := by omega
                have HS := hide (OUT.out ⟨hH, .inr ⟨hkn, hO⟩⟩)
                clear hH STAY OUT hO
                go_wp2_with fail
                refine wp_region_below (by kernel_rfl) (by kernel_rfl) ?_
                repeat (first | go_big_quiet_step ((first | (go_at_call 15; exact calls_gb (CH _).out) | (go_at_call 22; exact calls_gb_same (CO _).out))) | quiet_step ((first | (go_at_call 15; exact calls_gb (CH _).out) | (go_at_call 22; exact calls_gb_same (CO _).out))))
                refine wpQuiet_nil ?_
                intro _ hw'
                obtain ⟨⟨wq, hq⟩, hw2⟩ := hw'
                subst hw2
                go_wp2_with fail
                exact ⟨⟨k + 1, false, by omega, by go_num, rfl, HS, hBr.trans (hq.mono hBr.size)⟩, by simp [intOf]; omega⟩
              · have hkn' : decide ((k : Int) < (n : Int)) = false := decide_eq_false (by omega)
                have HS := hide (STAY.out (fun hb => by have := hb.2; unfold oB at this; rw [hO] at this; omega))
                clear hH STAY OUT hO
                go_wp2_with fail
                refine wp_region_below (by kernel_rfl) (by kernel_rfl) ?_
                repeat (first | go_big_quiet_step ((first | (go_at_call 15; exact calls_gb (CH _).out) | (go_at_call 22; exact calls_gb_same (CO _).out))) | quiet_step ((first | (go_at_call 15; exact calls_gb (CH _).out) | (go_at_call 22; exact calls_gb_same (CO _).out))))
                refine wpQuiet_nil ?_
                intro _ hw'
                obtain ⟨⟨wq, hq⟩, hw2⟩ := hw'
                subst hw2
                go_wp2_with fail
                exact ⟨⟨k + 1, q, by omega, by go_num, rfl, HS, hBr.trans (hq.mono hBr.size)⟩, by simp [intOf]; omega⟩
            · by_cases hkn : k < n
              · have hkn' : (k : Int) < (n : Int) := by omega
                have HS := hide (STAY.out (fun hb => by have := hb.2; unfold oB at this; rw [hO] at this; omega))
                clear hH STAY OUT hO
                go_wp2_with fail
                refine wp_region_below (by kernel_rfl) (by kernel_rfl) ?_
                repeat (first | go_big_quiet_step ((first | (go_at_call 15; exact calls_gb (CH _).out) | (go_at_call 22; exact calls_gb_same (CO _).out))) | quiet_step ((first | (go_at_call 15; exact calls_gb (CH _).out) | (go_at_call 22; exact calls_gb_same (CO _).out))))
                refine wpQuiet_nil ?_
                intro _ hw'
                obtain ⟨⟨wq, hq⟩, hw2⟩ := hw'
                subst hw2
                go_wp2_with fail
                exact ⟨⟨k + 1, q, by omega, by go_num, rfl, HS, hBr.trans (hq.mono hBr.size)⟩, by simp [intOf]; omega⟩
              · have hkn' : decide ((k : Int) < (n : Int)) = false := decide_eq_false (by omega)
                have HS := hide (STAY.out (fun hb => by have := hb.2; unfold oB at this; rw [hO] at this; omega))
                clear hH STAY OUT hO
                go_wp2_with fail
                refine wp_region_below (by kernel_rfl) (by kernel_rfl) ?_
                repeat (first | go_big_quiet_step ((first | (go_at_call 15; exact calls_gb (CH _).out) | (go_at_call 22; exact calls_gb_same (CO _).out))) | quiet_step ((first | (go_at_call 15; exact calls_gb (CH _).out) | (go_at_call 22; exact calls_gb_same (CO _).out))))
                refine wpQuiet_nil ?_
                intro _ hw'
                obtain ⟨⟨wq, hq⟩, hw2⟩ := hw'
                subst hw2
                go_wp2_with fail
                exact ⟨⟨k + 1, q, by omega, by go_num, rfl, HS, hBr.trans (hq.mono hBr.size)⟩, by simp [intOf]; omega⟩
        · have hkl' : ¬ (k : Int) < (ps.length : Int) := by omega
          have hkn : k = ps.length := by omega
          have hbf := bestF_bad (ps := ps) (h := h) hlt
          rw [← hkn] at hbf
          have HBF : Hid (q = true ↔ BestF (hB ps h) (oB ps) ps.length n) := by
            unfold Hid
            rw [← hkn, hbf]
            exact hq.out
          clear hkn hbf
          cases q
          · have HN : Hid (∀ j, j < n + 1 → ¬ BestF (hB ps h) (oB ps) ps.length j) := fun j hj hb => by
              by_cases e : j = n
              · subst e
                have := HBF.out.2 hb
                cases this
              · exact hnone.out j (by omega) hb
            go_wp2_with fail
            exact ⟨⟨n + 1, by omega, by go_num, HN, hBr⟩, by simp [intOf]; omega⟩
          · have HR : Hid (BestR (hB ps h) (oB ps) ps.length n true) := .inl ⟨rfl, HBF.out.1 rfl⟩
            go_wp2_with fail
            go_ret2
            exact Exists.intro n ⟨true, rfl, HR.out, hBr⟩
    · have hlt' : ¬ (n : Int) < (ps.length : Int) := by omega
      have HR : Hid (BestR (hB ps h) (oB ps) ps.length 0 false) := by
        obtain ⟨i, f, hb⟩ := bestR_ex (H := hB ps h) L.out ps.length
        rcases hb with ⟨_, hb⟩ | ⟨h1, h2, h3⟩
        · exact absurd hb (hnone.out i (by have := hb.1; omega))
        · exact .inr ⟨rfl, rfl, h3⟩
      go_wp2_with fail
      go_ret2
      exact Exists.intro 0 ⟨false, rfl, HR.out, hB0⟩

end Go.Proofs.YtlogclpmdaiflaaDoor
