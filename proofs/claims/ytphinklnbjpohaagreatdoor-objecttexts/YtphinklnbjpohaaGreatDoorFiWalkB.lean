/-
  Walks: which filters may be together.
-/
import Derived.Test.YtphinklnbjpohaaGreatDoorFiWalkA
namespace Go.Proofs.YtphinklnbjpohaaGreatDoor
set_option maxRecDepth 20000
open Go Go.RowKit Go.Shelf Fi

def elsF (f : FB) : Bool := f.kind == 4 || f.kind == 5
def clashG (f g : FB) : Bool := (elsF f && elsF g) || clash f g
theorem may_kind {f : FB} (h : mayF f = true) : f.kind = 1 ∨ f.kind = 2 ∨ f.kind = 3 ∨ f.kind = 4 ∨ f.kind = 5 := by
  unfold mayF at h
  by_cases h1 : f.kind = 1 ∨ f.kind = 2
  · omega
  · rw [if_neg h1] at h
    by_cases h2 : f.kind = 3
    · omega
    · rw [if_neg h2] at h
      by_cases h3 : f.kind = 4
      · omega
      · rw [if_neg h3] at h
        by_cases h4 : f.kind = 5
        · omega
        · rw [if_neg h4] at h
          exact absurd h (by decide)
theorem may_els {f : FB} (h : mayF f = true) : decide (3 < f.kind) = elsF f := by
  unfold elsF
  rcases may_kind h with h1 | h1 | h1 | h1 | h1 <;> rw [h1] <;> rfl
theorem turned_snoc (l : List FB) (f : FB) : turned (l ++ [f]) = turned l + if 3 < f.kind then 1 else 0 := by
  unfold turned
  rw [List.filter_append, List.length_append]
  congr 1
  by_cases h : 3 < f.kind
  · rw [if_pos h, List.filter_cons_of_pos (by simpa using h)]
    rfl
  · rw [if_neg h, List.filter_cons_of_neg (by simpa using h)]
    rfl
theorem pair_sub {l : List FB} {i j : Nat} (hj : j < l.length) (hi : i < j) : [l[i]'(by omega), l[j]].Sublist l := by
  have h1 : [l[i]'(by omega)].Sublist (l.take j) := List.singleton_sublist.2 (List.mem_take_iff_getElem.2 ⟨i, by omega, rfl⟩)
  have h2 : [l[j]].Sublist (l.drop j) := List.singleton_sublist.2 (List.mem_drop_iff_getElem.2 ⟨0, by omega, by simp⟩)
  have := h1.append h2
  rw [List.take_append_drop] at this
  exact this
theorem fall_no {l : List FB} {j : Nat} (hj : j < l.length) (h : mayF l[j] = false ∨ (l.take j).any (clashG l[j]) = true) : allF l = false := by
  cases ha : allF l
  · rfl
  · exfalso
    rcases h with h | h
    · rw [(allF_iff.1 ha).2.1 _ (List.getElem_mem hj)] at h
      exact absurd h (by decide)
    · obtain ⟨g, hg, hc⟩ := List.any_eq_true.1 h
      obtain ⟨i, hi, rfl⟩ := List.mem_take_iff_getElem.1 hg
      have hs := allF_iff.1 (all_sub ha (pair_sub hj (i := i) (by omega)))
      have m1 := hs.2.1 (l[i]'(by omega)) (by simp)
      have m2 := hs.2.1 l[j] (by simp)
      unfold clashG at hc
      rw [Bool.or_eq_true, Bool.and_eq_true] at hc
      rcases hc with ⟨c1, c2⟩ | hc
      · rw [← may_els m2, decide_eq_true_eq] at c1
        rw [← may_els m1, decide_eq_true_eq] at c2
        have := hs.2.2.1
        unfold turned at this
        rw [List.filter_cons_of_pos (by simpa using c2), List.filter_cons_of_pos (by simpa using c1)] at this
        simp at this
      · have := (List.pairwise_cons.1 hs.2.2.2).1 l[j] (by simp)
        rw [clash_comm, hc] at this
        exact absurd this (by decide)
theorem fall_long {l : List FB} (h : 8 < l.length) : allF l = false := by
  cases ha : allF l
  · rfl
  · have := (allF_iff.1 ha).1
    omega
theorem take_snocF {l : List FB} {k : Nat} (hk : k < l.length) : l.take (k + 1) = l.take k ++ [l[k]] := List.take_succ_eq_append_getElem hk
theorem fall_yes {l : List FB} (h8 : l.length ≤ 8) (h : ∀ j (hj : j < l.length), mayF l[j] = true ∧ (l.take j).any (clashG l[j]) = false) : allF l = true := by
  have H : ∀ n, n ≤ l.length → turned (l.take n) ≤ 1 ∧ (l.take n).Pairwise fun f g => clash f g = false := by
    intro n
    induction n with
    | zero => intro _; exact ⟨by simp [turned], by simp⟩
    | succ n ih =>
      intro hn
      obtain ⟨i1, i2⟩ := ih (by omega)
      obtain ⟨hm, hc⟩ := h n (by omega)
      rw [List.any_eq_false] at hc
      rw [take_snocF (by omega)]
      refine ⟨?_, ?_⟩
      · rw [turned_snoc]
        by_cases h3 : 3 < l[n].kind
        · have he : elsF l[n] = true := by rw [← may_els hm]; exact decide_eq_true h3
          have : turned (l.take n) = 0 := by
            unfold turned
            rw [List.length_eq_zero_iff, List.filter_eq_nil_iff]
            intro g hg hk
            have := hc g hg
            unfold clashG at this
            rw [he] at this
            have hmg : mayF g = true := by
              obtain ⟨i, hi, rfl⟩ := List.mem_take_iff_getElem.1 hg
              exact (h i (by omega)).1
            rw [may_els hmg] at hk
            rw [hk] at this
            simp at this
          rw [this]
          split <;> omega
        · rw [if_neg h3]
          exact i1
      · rw [List.pairwise_append]
        refine ⟨i2, by simp, fun a ha b hb => ?_⟩
        have : b = l[n] := by simpa using hb
        subst this
        have := hc a ha
        unfold clashG at this
        rw [clash_comm]
        cases hcc : clash l[n] a
        · rfl
        · rw [hcc] at this
          simp at this
  obtain ⟨t1, t2⟩ := H l.length (Nat.le_refl _)
  rw [List.take_length] at t1 t2
  refine allF_iff.2 ⟨h8, fun f hf => ?_, t1, t2⟩
  obtain ⟨i, hi, rfl⟩ := List.getElem_of_mem hf
  exact (h i hi).1

set_option maxHeartbeats 800000 in
theorem els_any (f : FB) (w : World) :
    Calls Tryz.prog 198 #[fV f] w fun e w' => e = .returned (.bool (elsF f)) ∧ Below w.heap.size w w' := by
  have HR : Hid (elsF f = (f.kind == 4 || f.kind == 5)) := rfl
  generalize elsF f = r at *
  obtain ⟨k, n, v, h, p, t, b, c⟩ := f
  dsimp only at *
  cases h4 : (k == 4)
  · rw [h4] at HR
    go_enter Tryz.func198, Tryz.ntmps198
    go_wp2_with fail
    go_ret
    exact ⟨ret_bool HR.out.symm, (Below.refl _ _).alloc (Nat.le_refl _) _⟩
  · rw [h4] at HR
    go_enter Tryz.func198, Tryz.ntmps198
    go_wp2_with fail
    go_ret
    exact ⟨ret_bool HR.out.symm, (Below.refl _ _).alloc (Nat.le_refl _) _⟩

theorem boxF3 {w : World} {f : FB} {t : Nat} {W : World} {o : Obj} (h : Below ((w.alloc o).alloc (.cells (fcells f).toArray t)).heap.size ((w.alloc o).alloc (.cells (fcells f).toArray t)) W) : EF.At W (w.heap.size + 1) 0 f := by
  have := boxF (t := t) h
  rw [World.size_alloc] at this
  exact this

set_option maxHeartbeats 1600000 in
theorem clashes_any (f g : FB) (w : World) (okf : OkFi f) (okg : OkFi g) :
    Calls Tryz.prog 138 #[fV f, fV g] w fun e w' => e = .returned (.bool (clashG f g)) ∧ Below w.heap.size w w' := by
  have C1 := fun W => hide (els_any f W)
  have C2 := fun W => hide (els_any g W)
  have C3 := fun W => hide (prSame_any f.name g.name W (small_len (by have := okf.name; omega)) (small_len (by have := okg.name; omega)))
  have HR : Hid (clashG f g = ((elsF f && elsF g) || (f.kind == g.kind && sameF f.name g.name))) := rfl
  clear okf okg
  generalize clashG f g = r at *
  generalize elsF f = x1 at *
  generalize elsF g = x2 at *
  generalize sameF f.name g.name = x3 at *
  obtain ⟨k, n, v, h, p, t, b, c⟩ := f
  obtain ⟨k', n', v', h', p', t', b', c'⟩ := g
  dsimp only at *
  have m0 : ∀ q : GB ((w.alloc (.cells #[.int .i64 k, .string n, .string v, .string h, .int .i64 p, .string t, .bool b, .int .i64 c] 87)).alloc (.cells #[.int .i64 k', .string n', .string v', .string h', .int .i64 p', .string t', .bool b', .int .i64 c'] 87)), q.W.cell? ⟨w.heap.size, 0, none⟩ = some (.int .i64 k) := fun q => (EF_at (boxF2 (f := ⟨k, n, v, h, p, t, b, c⟩) q.h)).1
  have m1 : ∀ q : GB ((w.alloc (.cells #[.int .i64 k, .string n, .string v, .string h, .int .i64 p, .string t, .bool b, .int .i64 c] 87)).alloc (.cells #[.int .i64 k', .string n', .string v', .string h', .int .i64 p', .string t', .bool b', .int .i64 c'] 87)), q.W.cell? ⟨w.heap.size, 1, none⟩ = some (.string n) := fun q => (EF_at (boxF2 (f := ⟨k, n, v, h, p, t, b, c⟩) q.h)).2.1
  have m2 : ∀ q : GB ((w.alloc (.cells #[.int .i64 k, .string n, .string v, .string h, .int .i64 p, .string t, .bool b, .int .i64 c] 87)).alloc (.cells #[.int .i64 k', .string n', .string v', .string h', .int .i64 p', .string t', .bool b', .int .i64 c'] 87)), q.W.cell? ⟨w.heap.size, 2, none⟩ = some (.string v) := fun q => (EF_at (boxF2 (f := ⟨k, n, v, h, p, t, b, c⟩) q.h)).2.2.1
  have m3 : ∀ q : GB ((w.alloc (.cells #[.int .i64 k, .string n, .string v, .string h, .int .i64 p, .string t, .bool b, .int .i64 c] 87)).alloc (.cells #[.int .i64 k', .string n', .string v', .string h', .int .i64 p', .string t', .bool b', .int .i64 c'] 87)), q.W.cell? ⟨w.heap.size, 3, none⟩ = some (.string h) := fun q => (EF_at (boxF2 (f := ⟨k, n, v, h, p, t, b, c⟩) q.h)).2.2.2.1
  have m4 : ∀ q : GB ((w.alloc (.cells #[.int .i64 k, .string n, .string v, .string h, .int .i64 p, .string t, .bool b, .int .i64 c] 87)).alloc (.cells #[.int .i64 k', .string n', .string v', .string h', .int .i64 p', .string t', .bool b', .int .i64 c'] 87)), q.W.cell? ⟨w.heap.size, 4, none⟩ = some (.int .i64 p) := fun q => (EF_at (boxF2 (f := ⟨k, n, v, h, p, t, b, c⟩) q.h)).2.2.2.2.1
  have m5 : ∀ q : GB ((w.alloc (.cells #[.int .i64 k, .string n, .string v, .string h, .int .i64 p, .string t, .bool b, .int .i64 c] 87)).alloc (.cells #[.int .i64 k', .string n', .string v', .string h', .int .i64 p', .string t', .bool b', .int .i64 c'] 87)), q.W.cell? ⟨w.heap.size, 5, none⟩ = some (.string t) := fun q => (EF_at (boxF2 (f := ⟨k, n, v, h, p, t, b, c⟩) q.h)).2.2.2.2.2.1
  have m6 : ∀ q : GB ((w.alloc (.cells #[.int .i64 k, .string n, .string v, .string h, .int .i64 p, .string t, .bool b, .int .i64 c] 87)).alloc (.cells #[.int .i64 k', .string n', .string v', .string h', .int .i64 p', .string t', .bool b', .int .i64 c'] 87)), q.W.cell? ⟨w.heap.size, 6, none⟩ = some (.bool b) := fun q => (EF_at (boxF2 (f := ⟨k, n, v, h, p, t, b, c⟩) q.h)).2.2.2.2.2.2.1
  have m7 : ∀ q : GB ((w.alloc (.cells #[.int .i64 k, .string n, .string v, .string h, .int .i64 p, .string t, .bool b, .int .i64 c] 87)).alloc (.cells #[.int .i64 k', .string n', .string v', .string h', .int .i64 p', .string t', .bool b', .int .i64 c'] 87)), q.W.cell? ⟨w.heap.size, 7, none⟩ = some (.int .i64 c) := fun q => (EF_at (boxF2 (f := ⟨k, n, v, h, p, t, b, c⟩) q.h)).2.2.2.2.2.2.2
  have n0 : ∀ q : GB ((w.alloc (.cells #[.int .i64 k, .string n, .string v, .string h, .int .i64 p, .string t, .bool b, .int .i64 c] 87)).alloc (.cells #[.int .i64 k', .string n', .string v', .string h', .int .i64 p', .string t', .bool b', .int .i64 c'] 87)), q.W.cell? ⟨w.heap.size + 1, 0, none⟩ = some (.int .i64 k') := fun q => (EF_at (boxF3 (f := ⟨k', n', v', h', p', t', b', c'⟩) q.h)).1
  have n1 : ∀ q : GB ((w.alloc (.cells #[.int .i64 k, .string n, .string v, .string h, .int .i64 p, .string t, .bool b, .int .i64 c] 87)).alloc (.cells #[.int .i64 k', .string n', .string v', .string h', .int .i64 p', .string t', .bool b', .int .i64 c'] 87)), q.W.cell? ⟨w.heap.size + 1, 1, none⟩ = some (.string n') := fun q => (EF_at (boxF3 (f := ⟨k', n', v', h', p', t', b', c'⟩) q.h)).2.1
  have n2 : ∀ q : GB ((w.alloc (.cells #[.int .i64 k, .string n, .string v, .string h, .int .i64 p, .string t, .bool b, .int .i64 c] 87)).alloc (.cells #[.int .i64 k', .string n', .string v', .string h', .int .i64 p', .string t', .bool b', .int .i64 c'] 87)), q.W.cell? ⟨w.heap.size + 1, 2, none⟩ = some (.string v') := fun q => (EF_at (boxF3 (f := ⟨k', n', v', h', p', t', b', c'⟩) q.h)).2.2.1
  have n3 : ∀ q : GB ((w.alloc (.cells #[.int .i64 k, .string n, .string v, .string h, .int .i64 p, .string t, .bool b, .int .i64 c] 87)).alloc (.cells #[.int .i64 k', .string n', .string v', .string h', .int .i64 p', .string t', .bool b', .int .i64 c'] 87)), q.W.cell? ⟨w.heap.size + 1, 3, none⟩ = some (.string h') := fun q => (EF_at (boxF3 (f := ⟨k', n', v', h', p', t', b', c'⟩) q.h)).2.2.2.1
  have n4 : ∀ q : GB ((w.alloc (.cells #[.int .i64 k, .string n, .string v, .string h, .int .i64 p, .string t, .bool b, .int .i64 c] 87)).alloc (.cells #[.int .i64 k', .string n', .string v', .string h', .int .i64 p', .string t', .bool b', .int .i64 c'] 87)), q.W.cell? ⟨w.heap.size + 1, 4, none⟩ = some (.int .i64 p') := fun q => (EF_at (boxF3 (f := ⟨k', n', v', h', p', t', b', c'⟩) q.h)).2.2.2.2.1
  have n5 : ∀ q : GB ((w.alloc (.cells #[.int .i64 k, .string n, .string v, .string h, .int .i64 p, .string t, .bool b, .int .i64 c] 87)).alloc (.cells #[.int .i64 k', .string n', .string v', .string h', .int .i64 p', .string t', .bool b', .int .i64 c'] 87)), q.W.cell? ⟨w.heap.size + 1, 5, none⟩ = some (.string t') := fun q => (EF_at (boxF3 (f := ⟨k', n', v', h', p', t', b', c'⟩) q.h)).2.2.2.2.2.1
  have n6 : ∀ q : GB ((w.alloc (.cells #[.int .i64 k, .string n, .string v, .string h, .int .i64 p, .string t, .bool b, .int .i64 c] 87)).alloc (.cells #[.int .i64 k', .string n', .string v', .string h', .int .i64 p', .string t', .bool b', .int .i64 c'] 87)), q.W.cell? ⟨w.heap.size + 1, 6, none⟩ = some (.bool b') := fun q => (EF_at (boxF3 (f := ⟨k', n', v', h', p', t', b', c'⟩) q.h)).2.2.2.2.2.2.1
  have n7 : ∀ q : GB ((w.alloc (.cells #[.int .i64 k, .string n, .string v, .string h, .int .i64 p, .string t, .bool b, .int .i64 c] 87)).alloc (.cells #[.int .i64 k', .string n', .string v', .string h', .int .i64 p', .string t', .bool b', .int .i64 c'] 87)), q.W.cell? ⟨w.heap.size + 1, 7, none⟩ = some (.int .i64 c') := fun q => (EF_at (boxF3 (f := ⟨k', n', v', h', p', t', b', c'⟩) q.h)).2.2.2.2.2.2.2
  cases hk : (k == k')
  all_goals rw [hk] at HR
  · cases x1
    · go_enter Tryz.func138, Tryz.ntmps138
      go_wp2_with fail
      refine (calls_gb0 ((C1 _).out)).mono ?_
      rintro e x ⟨rfl, q, rfl⟩
      go_wp2_with fail
      go_ret
      exact ⟨ret_bool HR.out.symm, below_b2 q.h⟩
    cases x2
    · go_enter Tryz.func138, Tryz.ntmps138
      go_wp2_with fail
      refine (calls_gb0 ((C1 _).out)).mono ?_
      rintro e x ⟨rfl, q, rfl⟩
      go_wp2_with fail
      refine (calls_gb ((C2 _).out)).mono ?_
      rintro e x ⟨rfl, q, rfl⟩
      go_wp2_with fail
      go_ret
      exact ⟨ret_bool HR.out.symm, below_b2 q.h⟩
    · go_enter Tryz.func138, Tryz.ntmps138
      go_wp2_with fail
      refine (calls_gb0 ((C1 _).out)).mono ?_
      rintro e x ⟨rfl, q, rfl⟩
      go_wp2_with fail
      refine (calls_gb ((C2 _).out)).mono ?_
      rintro e x ⟨rfl, q, rfl⟩
      go_wp2_with fail
      go_ret
      exact ⟨ret_bool HR.out.symm, below_b2 q.h⟩
  · cases x1
    · go_enter Tryz.func138, Tryz.ntmps138
      go_wp2_with fail
      refine (calls_gb0 ((C1 _).out)).mono ?_
      rintro e x ⟨rfl, q, rfl⟩
      go_wp2_with fail
      refine (calls_gb ((C3 _).out)).mono ?_
      rintro e x ⟨rfl, q, rfl⟩
      go_wp2_with fail
      go_ret
      exact ⟨ret_bool HR.out.symm, below_b2 q.h⟩
    cases x2
    · go_enter Tryz.func138, Tryz.ntmps138
      go_wp2_with fail
      refine (calls_gb0 ((C1 _).out)).mono ?_
      rintro e x ⟨rfl, q, rfl⟩
      go_wp2_with fail
      refine (calls_gb ((C2 _).out)).mono ?_
      rintro e x ⟨rfl, q, rfl⟩
      go_wp2_with fail
      refine (calls_gb ((C3 _).out)).mono ?_
      rintro e x ⟨rfl, q, rfl⟩
      go_wp2_with fail
      go_ret
      exact ⟨ret_bool HR.out.symm, below_b2 q.h⟩
    · go_enter Tryz.func138, Tryz.ntmps138
      go_wp2_with fail
      refine (calls_gb0 ((C1 _).out)).mono ?_
      rintro e x ⟨rfl, q, rfl⟩
      go_wp2_with fail
      refine (calls_gb ((C2 _).out)).mono ?_
      rintro e x ⟨rfl, q, rfl⟩
      go_wp2_with fail
      go_ret
      exact ⟨ret_bool HR.out.symm, below_b2 q.h⟩

/-- the closure of All: its filter lies at g -/
abbrev clV (g : Nat) : Value := .func (.func 137) #[] #[.pointer (some ⟨g, 0, none⟩)]
set_option maxHeartbeats 800000 in
theorem allClosure_any (f g : FB) (b : Nat) (w : World) (okf : OkFi f) (okg : OkFi g) (hb : b < w.heap.size) (hat : EF.At w b 0 f) :
    Calls Tryz.prog 137 #[fV g, .pointer (some ⟨b, 0, none⟩)] w fun e w' => e = .returned (.bool (clashG f g)) ∧ Below w.heap.size w w' := by
  have C1 := fun W => hide (clashes_any f g W okf okg)
  obtain ⟨c0, c1, c2, c3, c4, c5, c6, c7⟩ := EF_at (hat.below hb ((Below.refl _ w).alloc (Nat.le_refl _) (.cells (fcells g).toArray 87)))
  obtain ⟨k, n, v, h, p, t, b, c⟩ := f
  obtain ⟨k', n', v', h', p', t', b', c'⟩ := g
  simp only [fcells, Nat.zero_add] at c0 c1 c2 c3 c4 c5 c6 c7
  clear hat okf okg
  generalize clashG ⟨k, n, v, h, p, t, b, c⟩ ⟨k', n', v', h', p', t', b', c'⟩ = r at *
  go_enter Tryz.func137, Tryz.ntmps137
  go_wp2_with fail
  refine ((C1 _).out).mono ?_
  rintro e w1 ⟨rfl, hb1⟩
  go_wp2_with fail
  go_ret
  exact ⟨rfl, below_box hb1⟩

/-- where the first one of them stands -/
def idxP (P : FB → Bool) (l : List FB) : Int := if l.any P then (l.findIdx P : Nat) else -1
theorem idxP_yes {P : FB → Bool} {l : List FB} {k : Nat} (hk : k < l.length) (h : ∀ j (h : j < l.length), j < k → P l[j] = false) (hs : P l[k] = true) : idxP P l = (k : Int) := by
  have h1 : l.any P = true := List.any_eq_true.2 ⟨_, List.getElem_mem hk, hs⟩
  have h2 : l.findIdx P = k := by
    rw [List.findIdx_eq hk]
    exact ⟨hs, fun j hj => h j (by omega) hj⟩
  unfold idxP
  rw [if_pos h1, h2]
theorem idxP_no {P : FB → Bool} {l : List FB} (h : ∀ j (h : j < l.length), P l[j] = false) : idxP P l = -1 := by
  have h1 : l.any P = false := by
    rw [List.any_eq_false]
    intro p hp
    obtain ⟨j, hj, rfl⟩ := List.getElem_of_mem hp
    rw [h j hj]
    decide
  unfold idxP
  rw [h1]
  rfl
theorem idxP_ge (P : FB → Bool) (l : List FB) : decide (0 ≤ idxP P l) = l.any P := by
  unfold idxP
  cases l.any P
  · rfl
  · simp

set_option maxHeartbeats 1600000 in
theorem idxAll_any (P : FB → Bool) (gb : Nat) (v : Value) (l : List FB) (w : World) (hv : Sl EF w v l) (go : ∀ f ∈ l, ∀ W, Below w.heap.size w W → Calls Tryz.prog 137 #[fV f, .pointer (some ⟨gb, 0, none⟩)] W fun e w' => e = .returned (.bool (P f)) ∧ Below W.heap.size W w') :
    Calls Tryz.prog 47 #[v, .func (.func 137) #[] #[.pointer (some ⟨gb, 0, none⟩)]] w fun e w' => e = .returned (.int .i64 (idxP P l)) ∧ Below w.heap.size w w' := by
  have hlen := hv.len
  obtain ⟨a, cap, rfl, _, _, hc⟩ := hv
  have HC := hide hc
  have GO := hide go
  clear hc go
  have ent : ∀ (args : Array Value) (w : World), (callFunc 137 args).run Tryz.prog w = .ok (.enter 137 args) w := fun args w => enter_any Tryz.func137 (by kernel_rfl) rfl args w
  go_enter Tryz.func47, Tryz.ntmps47
  go_wp2_with fail
  go_loopw [8] (fun i wr => ∃ k : Nat, k ≤ l.length ∧ i = .int .i64 k ∧ Hid (∀ j (h : j < l.length), j < k → P l[j] = false) ∧ Below w.heap.size w wr) (fun i _ => l.length - (intOf i).toNat)
  case atStart => exact ⟨0, Nat.zero_le _, rfl, fun j h hj => absurd hj (by omega), Below.refl _ _⟩
  case round =>
    obtain ⟨k, hk, rfl, hno, hB⟩ := hrel
    by_cases hlt : k < l.length
    · have hlt' : (k : Int) < (l.length : Int) := by omega
      obtain ⟨_, gg, off, rfl, hgg, hat⟩ := HC.out k hlt
      obtain ⟨c0, c1, c2, c3, c4, c5, c6, c7⟩ := EF_at (show EF.At wr gg (off + k * 8) l[k] from fun j u hu => (hB.cell (p := ⟨gg, off + k * 8 + j, none⟩) hgg).trans (hat j u hu))
      have C1 := hide (GO.out l[k] (List.getElem_mem hlt) wr hB)
      have HS : Hid (∀ x, P l[k] = x → P l[k] = x) := fun _ h => h
      clear hat
      cases hs : P l[k]
      · have HN : Hid (∀ j (h : j < l.length), j < k + 1 → P l[j] = false) := fun j h hj => by
          rcases Nat.lt_or_ge j k with h1 | h1
          · exact hno.out j h h1
          · obtain rfl : j = k := by omega
            exact hs
        rw [hs] at C1
        clear hs HS
        generalize l[k] = fk at *
        obtain ⟨k0, n0, v0, h0, p0, t0, b0, z0⟩ := fk
        dsimp only at *
        go_wp2_with fail
        refine (C1.out).mono ?_
        rintro e w1 ⟨rfl, hb1⟩
        go_wp2_with fail
        exact ⟨⟨k + 1, by omega, by go_num, HN.out, bb2 hB hb1⟩, by simp [intOf]; omega⟩
      · have HI : Hid ((k : Int) = idxP P l) := (idxP_yes hlt hno.out hs).symm
        rw [hs] at C1
        clear hs HS
        generalize l[k] = fk at *
        obtain ⟨k0, n0, v0, h0, p0, t0, b0, z0⟩ := fk
        dsimp only at *
        go_wp2_with fail
        refine (C1.out).mono ?_
        rintro e w1 ⟨rfl, hb1⟩
        go_wp2_with fail
        go_ret
        exact ⟨ret_int HI.out, bb2 hB hb1⟩
    · have hlt' : ¬ (k : Int) < (l.length : Int) := by omega
      have HI : Hid (-1 = idxP P l) := (idxP_no (fun j h => hno.out j h (by omega))).symm
      go_wp2_with fail
      go_ret
      exact ⟨ret_int HI.out, hB⟩

set_option maxHeartbeats 1600000 in
theorem idxAway_any (P : FB → Bool) (v : Value) (l : List FB) (w : World) (hv : Sl EF w v l) (go : ∀ f ∈ l, ∀ W, Below w.heap.size w W → Calls Tryz.prog 48 #[fV f] W fun e w' => e = .returned (.bool (P f)) ∧ Below W.heap.size W w') :
    Calls Tryz.prog 47 #[v, .func (.func 48) #[] #[]] w fun e w' => e = .returned (.int .i64 (idxP P l)) ∧ Below w.heap.size w w' := by
  have hlen := hv.len
  obtain ⟨a, cap, rfl, _, _, hc⟩ := hv
  have HC := hide hc
  have GO := hide go
  clear hc go
  have ent : ∀ (args : Array Value) (w : World), (callFunc 48 args).run Tryz.prog w = .ok (.enter 48 args) w := fun args w => enter_any Tryz.func48 (by kernel_rfl) rfl args w
  go_enter Tryz.func47, Tryz.ntmps47
  go_wp2_with fail
  go_loopw [8] (fun i wr => ∃ k : Nat, k ≤ l.length ∧ i = .int .i64 k ∧ Hid (∀ j (h : j < l.length), j < k → P l[j] = false) ∧ Below w.heap.size w wr) (fun i _ => l.length - (intOf i).toNat)
  case atStart => exact ⟨0, Nat.zero_le _, rfl, fun j h hj => absurd hj (by omega), Below.refl _ _⟩
  case round =>
    obtain ⟨k, hk, rfl, hno, hB⟩ := hrel
    by_cases hlt : k < l.length
    · have hlt' : (k : Int) < (l.length : Int) := by omega
      obtain ⟨_, gg, off, rfl, hgg, hat⟩ := HC.out k hlt
      obtain ⟨c0, c1, c2, c3, c4, c5, c6, c7⟩ := EF_at (show EF.At wr gg (off + k * 8) l[k] from fun j u hu => (hB.cell (p := ⟨gg, off + k * 8 + j, none⟩) hgg).trans (hat j u hu))
      have C1 := hide (GO.out l[k] (List.getElem_mem hlt) wr hB)
      have HS : Hid (∀ x, P l[k] = x → P l[k] = x) := fun _ h => h
      clear hat
      cases hs : P l[k]
      · have HN : Hid (∀ j (h : j < l.length), j < k + 1 → P l[j] = false) := fun j h hj => by
          rcases Nat.lt_or_ge j k with h1 | h1
          · exact hno.out j h h1
          · obtain rfl : j = k := by omega
            exact hs
        rw [hs] at C1
        clear hs HS
        generalize l[k] = fk at *
        obtain ⟨k0, n0, v0, h0, p0, t0, b0, z0⟩ := fk
        dsimp only at *
        go_wp2_with fail
        refine (C1.out).mono ?_
        rintro e w1 ⟨rfl, hb1⟩
        go_wp2_with fail
        exact ⟨⟨k + 1, by omega, by go_num, HN.out, bb2 hB hb1⟩, by simp [intOf]; omega⟩
      · have HI : Hid ((k : Int) = idxP P l) := (idxP_yes hlt hno.out hs).symm
        rw [hs] at C1
        clear hs HS
        generalize l[k] = fk at *
        obtain ⟨k0, n0, v0, h0, p0, t0, b0, z0⟩ := fk
        dsimp only at *
        go_wp2_with fail
        refine (C1.out).mono ?_
        rintro e w1 ⟨rfl, hb1⟩
        go_wp2_with fail
        go_ret
        exact ⟨ret_int HI.out, bb2 hB hb1⟩
    · have hlt' : ¬ (k : Int) < (l.length : Int) := by omega
      have HI : Hid (-1 = idxP P l) := (idxP_no (fun j h => hno.out j h (by omega))).symm
      go_wp2_with fail
      go_ret
      exact ⟨ret_int HI.out, hB⟩

set_option maxHeartbeats 800000 in
theorem contains_any (f : FB) (b : Nat) (v : Value) (l : List FB) (w : World) (okf : OkFi f) (okl : ∀ g ∈ l, OkFi g) (hb : b < w.heap.size) (hat : EF.At w b 0 f) (hv : Sl EF w v l) :
    Calls Tryz.prog 140 #[v, clV b] w fun e w' => e = .returned (.bool (l.any (clashG f))) ∧ Below w.heap.size w w' := by
  have C1 := hide (idxAll_any (clashG f) b v l w hv (fun g hg W hW => allClosure_any f g b W okf (okl g hg) (Nat.lt_of_lt_of_le hb hW.size) (hat.below hb hW)))
  have HE := hide (idxP_ge (clashG f) l)
  clear hv hat
  go_enter Tryz.func140, Tryz.ntmps140
  go_wp2_with fail
  refine (C1.out).mono ?_
  rintro e w1 ⟨rfl, hb1⟩
  go_wp2_with fail
  go_ret
  exact ⟨ret_bool HE.out, hb1⟩

set_option maxHeartbeats 3200000 in
theorem fall_any (v : Value) (l : List FB) (w : World) (hv : Sl EF w v l) (ok : ∀ f ∈ l, OkFi f) :
    Calls Tryz.prog 96 #[v] w fun e w' => e = .returned (.bool (allF l)) ∧ Below w.heap.size w w' := by
  have hlen := hv.len
  have HV := hide hv
  obtain ⟨a, cap, rfl, hcap, hmax, hc⟩ := hv
  have HC := hide hc
  have HOK := hide ok
  clear hc ok
  have hcap' : (l.length : Int) ≤ (cap : Int) := by omega
  have hmf : ∀ (fn : Fn) (first cap : Array Value) (w : World), (Instr.makeFunc fn first cap).run Tryz.prog w = .ok (.func fn first cap) w := fun _ _ _ _ => rfl
  by_cases h8 : 8 < l.length
  · have HR : Hid (false = allF l) := (fall_long h8).symm
    have h8' : (8 : Int) < (l.length : Int) := by omega
    go_enter Tryz.func96, Tryz.ntmps96
    go_wp2_with fail
    go_ret
    exact ⟨ret_bool HR.out, Below.refl _ _⟩
  have h8' : ¬ (8 : Int) < (l.length : Int) := by omega
  go_enter Tryz.func96, Tryz.ntmps96
  go_wp2_with fail
  go_loopw [11] (fun i wr => ∃ k : Nat, k ≤ l.length ∧ i = .int .i64 k ∧ Hid (∀ j (hj : j < l.length), j < k → mayF l[j] = true ∧ (l.take j).any (clashG l[j]) = false) ∧ Below w.heap.size w wr) (fun i _ => l.length - (intOf i).toNat)
  case atStart => exact ⟨0, Nat.zero_le _, rfl, fun j h hj => absurd hj (by omega), Below.refl _ _⟩
  case round =>
    obtain ⟨k, hk, rfl, hno, hB⟩ := hrel
    by_cases hlt : k < l.length
    · have hlt' : (k : Int) < (l.length : Int) := by omega
      have hkc : (k : Int) ≤ (cap : Int) := by omega
      obtain ⟨_, gg, off, rfl, hgg, hat⟩ := HC.out k hlt
      obtain ⟨c0, c1, c2, c3, c4, c5, c6, c7⟩ := EF_at (show EF.At wr gg (off + k * 8) l[k] from fun j u hu => (hB.cell (p := ⟨gg, off + k * 8 + j, none⟩) hgg).trans (hat j u hu))
      have okk := HOK.out l[k] (List.getElem_mem hlt)
      have B1 : Below wr.heap.size wr (wr.alloc (.cells (fcells l[k]).toArray 87)) := (Below.refl _ wr).alloc (Nat.le_refl _) _
      have A1 : EF.At (wr.alloc (.cells (fcells l[k]).toArray 87)) wr.heap.size 0 l[k] := EF_block (alloc_new wr _)
      have C1 := fun W => hide (fmay_any l[k] W okk)
      have C2 := fun W (h : Below (wr.alloc (.cells (fcells l[k]).toArray 87)).heap.size (wr.alloc (.cells (fcells l[k]).toArray 87)) W) => hide (contains_any l[k] wr.heap.size (.slice (some ⟨gg, off, none⟩) k cap) (l.take k) W okk (fun g hg => HOK.out g (List.mem_of_mem_take hg)) (by have := h.size; simp at this; omega) (A1.below (by simp) h) ((HV.out.pre (k := k) (by omega)).below (bb2 hB (bb2 B1 h))))
      have HY : Hid (mayF l[k] = true → (l.take k).any (clashG l[k]) = false → ∀ j (hj : j < l.length), j < k + 1 → mayF l[j] = true ∧ (l.take j).any (clashG l[j]) = false) := fun h1 h2 j h hj => by
        rcases Nat.lt_or_ge j k with h3 | h3
        · exact hno.out j h h3
        · obtain rfl : j = k := by omega
          exact ⟨h1, h2⟩
      have HN := hide (fun h => fall_no (l := l) (j := k) hlt h)
      clear hat A1
      generalize (l.take k).any (clashG l[k]) = x2 at *
      generalize mayF l[k] = x1 at *
      generalize l[k] = fk at *
      obtain ⟨k0, n0, v0, h0, p0, t0, b0, z0⟩ := fk
      dsimp only at *
      cases x1
      · have HR : Hid (false = allF l) := (HN.out (.inl rfl)).symm
        go_wp2_with fail
        refine ((C1 _).out).mono ?_
        rintro e w1 ⟨rfl, hb1⟩
        go_wp2_with fail
        go_ret
        exact ⟨ret_bool HR.out, bb2 hB (below_box hb1)⟩
      cases x2
      · have HZ := hide (HY.out rfl rfl)
        go_wp2_with fail
        refine ((C1 _).out).mono ?_
        rintro e w1 ⟨rfl, hb1⟩
        go_wp2_with fail
        refine ((C2 _ hb1).out).mono ?_
        rintro e w2 ⟨rfl, hb2⟩
        go_wp2_with fail
        exact ⟨⟨k + 1, by omega, by go_num, HZ.out, bb2 hB (below_box (bb2 hb1 hb2))⟩, by simp [intOf]; omega⟩
      · have HR : Hid (false = allF l) := (HN.out (.inr rfl)).symm
        go_wp2_with fail
        refine ((C1 _).out).mono ?_
        rintro e w1 ⟨rfl, hb1⟩
        go_wp2_with fail
        refine ((C2 _ hb1).out).mono ?_
        rintro e w2 ⟨rfl, hb2⟩
        go_wp2_with fail
        go_ret
        exact ⟨ret_bool HR.out, bb2 hB (below_box (bb2 hb1 hb2))⟩
    · have hlt' : ¬ (k : Int) < (l.length : Int) := by omega
      have HR : Hid (true = allF l) := (fall_yes (by omega) (fun j h => hno.out j h (by omega))).symm
      go_wp2_with fail
      go_ret
      exact ⟨ret_bool HR.out, hB⟩

end Go.Proofs.YtphinklnbjpohaaGreatDoor
