/-
  Which of several is best: plain facts; the law's few texts; Best.
-/
import Derived.Test.YtlogclpmdaiflaaDoorHRefC
namespace Go.Proofs.YtlogclpmdaiflaaDoor
open Go Go.RowKit Go.Shelf

attribute [local go_sem] Oper.semAt_some

/-- i is the best of the first n: H says which hold, O how two compare -/
def BestF (H : Nat → Bool) (O : Nat → Nat → Int) (n i : Nat) : Prop := i < n ∧ H i = true ∧ ∀ j, j < n → H j = true → 0 < O j i ∨ (O j i = 0 ∧ i ≤ j)
def BestR (H : Nat → Bool) (O : Nat → Nat → Int) (n i : Nat) (f : Bool) : Prop := (f = true ∧ BestF H O n i) ∨ (f = false ∧ i = 0 ∧ ∀ j, j < n → H j = false)
/-- O is an order -/
structure OrdL (O : Nat → Nat → Int) : Prop where
  anti : ∀ i j, O j i = - O i j
  trans : ∀ i j k, O i j < 0 → O j k ≤ 0 → O i k < 0

theorem bestF_no {H : Nat → Bool} {O : Nat → Nat → Int} {k b : Nat} (h : BestF H O k b) (hk : H k = false) : BestF H O (k + 1) b := by
  refine ⟨by have := h.1; omega, h.2.1, fun j hj hH => ?_⟩
  by_cases e : j = k
  · subst e; rw [hk] at hH; cases hH
  · exact h.2.2 j (by omega) hH
theorem bestF_stay {H : Nat → Bool} {O : Nat → Nat → Int} {k b : Nat} (h : BestF H O k b) (ho : ¬ O k b < 0) : BestF H O (k + 1) b := by
  refine ⟨by have := h.1; omega, h.2.1, fun j hj hH => ?_⟩
  by_cases e : j = k
  · subst e
    have := h.1
    rcases Int.lt_or_eq_of_le (Int.not_lt.1 ho) with h' | h'
    · exact .inl h'
    · exact .inr ⟨h'.symm, by omega⟩
  · exact h.2.2 j (by omega) hH
theorem bestF_new {H : Nat → Bool} {O : Nat → Nat → Int} (L : OrdL O) {k b : Nat} (h : BestF H O k b) (hk : H k = true) (ho : O k b < 0) : BestF H O (k + 1) k := by
  refine ⟨by omega, hk, fun j hj hH => ?_⟩
  by_cases e : j = k
  · subst e
    have := L.anti j j
    exact .inr ⟨by omega, Nat.le_refl _⟩
  · left
    have h1 := h.2.2 j (by omega) hH
    have h2 := L.anti b j
    have h3 := L.trans k b j ho (by omega)
    have h4 := L.anti k j
    omega
theorem bestR_no {H : Nat → Bool} {O : Nat → Nat → Int} {k b : Nat} {f : Bool} (h : BestR H O k b f) (hk : H k = false) : BestR H O (k + 1) b f := by
  rcases h with ⟨hf, h⟩ | ⟨hf, h0, h⟩
  · exact .inl ⟨hf, bestF_no h hk⟩
  · refine .inr ⟨hf, h0, fun j hj => ?_⟩
    by_cases e : j = k
    · subst e; exact hk
    · exact h j (by omega)
theorem bestR_first {H : Nat → Bool} {O : Nat → Nat → Int} (L : OrdL O) {k b : Nat} (h : BestR H O k b false) (hk : H k = true) : BestR H O (k + 1) k true := by
  rcases h with ⟨hf, _⟩ | ⟨_, _, h⟩
  · cases hf
  · refine .inl ⟨rfl, by omega, hk, fun j hj hH => ?_⟩
    by_cases e : j = k
    · subst e
      have := L.anti j j
      exact .inr ⟨by omega, Nat.le_refl _⟩
    · rw [h j (by omega)] at hH; cases hH
theorem bestR_true {H : Nat → Bool} {O : Nat → Nat → Int} {k b : Nat} (h : BestR H O k b true) : BestF H O k b := by
  rcases h with ⟨_, h⟩ | ⟨hf, _⟩
  · exact h
  · cases hf
theorem bestF_one {H : Nat → Bool} {O : Nat → Nat → Int} (L : OrdL O) {n i j : Nat} (h : BestF H O n i) (k : BestF H O n j) : i = j := by
  have h1 := h.2.2 j k.1 k.2.1
  have h2 := k.2.2 i h.1 h.2.1
  have h3 := L.anti i j
  omega
theorem bestR_one {H : Nat → Bool} {O : Nat → Nat → Int} (L : OrdL O) {n i j : Nat} {f g : Bool} (h : BestR H O n i f) (k : BestR H O n j g) : i = j ∧ f = g := by
  rcases h with ⟨rfl, h⟩ | ⟨rfl, rfl, h⟩ <;> rcases k with ⟨rfl, k⟩ | ⟨rfl, rfl, k⟩
  · exact ⟨bestF_one L h k, rfl⟩
  · have := k i h.1; rw [h.2.1] at this; cases this
  · have := h j k.1; rw [k.2.1] at this; cases this
  · exact ⟨rfl, rfl⟩
theorem bestR_ex {H : Nat → Bool} {O : Nat → Nat → Int} (L : OrdL O) : ∀ n, ∃ i f, BestR H O n i f
  | 0 => ⟨0, false, .inr ⟨rfl, rfl, fun j hj => by omega⟩⟩
  | n + 1 => by
    obtain ⟨i, f, h⟩ := bestR_ex L n
    cases hk : H n
    · exact ⟨i, f, bestR_no h hk⟩
    · cases f
      · exact ⟨n, true, bestR_first L h hk⟩
      · by_cases ho : O n i < 0
        · exact ⟨n, true, .inl ⟨rfl, bestF_new L (bestR_true h) hk ho⟩⟩
        · exact ⟨i, true, .inl ⟨rfl, bestF_stay (bestR_true h) ho⟩⟩

/-- the j-th text -/
def nth (ps : List ByteArray) (j : Nat) : ByteArray := ps.getD j ⟨#[]⟩
def hB (ps : List ByteArray) (h : ByteArray) (j : Nat) : Bool := holds (nth ps j).data.toList h.data.toList
def oB (ps : List ByteArray) (j i : Nat) : Int := ord (nth ps j).data.toList (nth ps i).data.toList
theorem oB_ord (ps : List ByteArray) : OrdL (oB ps) := ⟨fun _ _ => ord_anti _ _, fun _ _ _ h k => ord_trans_lt h k⟩
theorem nth_get {ps : List ByteArray} {j : Nat} (h : j < ps.length) : ps[j] = nth ps j := by unfold nth; simp [h]
theorem nth_mem {ps : List ByteArray} {j : Nat} {n : Nat} (h : j < ps.length) (ha : ∀ p ∈ ps, p.size ≤ n) : (nth ps j).size ≤ n := by
  rw [← nth_get h]; exact ha _ (List.getElem_mem h)

/-- an argument that is a list of texts -/
def ArgStrs (w : World) (v : Value) : Prop := ∃ (a : Option Addr) (len cap : Nat), v = .slice a len cap ∧ len ≤ maxLen ∧
  ∀ i, i < len → ∃ (b o : Nat) (s : ByteArray), a = some ⟨b, o, none⟩ ∧ b < w.heap.size ∧ w.cell? ⟨b, o + i, none⟩ = some (.string s) ∧ s.size ≤ maxLen

set_option maxHeartbeats 1600000 in
theorem hfew_any (v : Value) (w : World) (hv : ArgStrs w v) :
    Calls Tryd.prog 23 #[v] w fun e w' => ∃ (v' : Value) (ps : List ByteArray), e = .returned v' ∧ Strs w' v' ps ∧ (∀ p ∈ ps, p.size ≤ 100) ∧ ps.length ≤ 12 ∧ (ps.length = 0 → v' = .slice none 0 0) ∧ Below w.heap.size w w' := by
  obtain ⟨a, len, cap, rfl, hlm, hc⟩ := hv
  obtain ⟨i0, hi, hz0, hz1, hz2⟩ := info_parts Tryd.info9
  unfold maxLen at hlm
  have HC := hide hc
  clear hc
  go_enter Tryd.func23, Tryd.ntmps23
  go_wp2_with fail
  go_loopw [3, 4] (fun o i wr => ∃ (k : Nat) (ps : List ByteArray) (v : Value), v = o ∧ k ≤ 12 ∧ i = .int .i64 k ∧ k ≤ len ∧ ps.length = k ∧ Hid ((∀ p ∈ ps, p.size ≤ 100) ∧ (ps.length = 0 → v = .slice none 0 0)) ∧ wr.ownsRow w.heap.size 9 1 o k (ps.map Value.string) ∧ Below w.heap.size w wr) (fun _ i _ => 12 - (intOf i).toNat)
  case atStart => exact ⟨0, [], _, rfl, by omega, rfl, by omega, rfl, ⟨fun p hp => by simp at hp, fun _ => rfl⟩, World.ownsRow_nil _ _ _ _, Below.refl _ _⟩
  case round =>
    obtain ⟨k, ps, v, rfl, hk, rfl, hkl, hps, hall, hrow, hB⟩ := hrel
    have HPS := hide hps
    clear hps
    by_cases hlt : k < len
    · have hlt' : (k : Int) < (len : Int) := by omega
      by_cases h12 : k < 12
      · have h12' : (k : Int) < 12 := by omega
        obtain ⟨b, o, s, rfl, hb, hcell, hsz⟩ := HC.out k hlt
        have c1 := (hB.cell (p := ⟨b, o + k, none⟩) hb).trans hcell
        clear hcell
        go_wp2_with fail
        refine (few_any _ _ hsz).mono ?_
        rintro e x ⟨t, rfl, ht, rfl⟩
        go_wp2_with (at_builtin; refine wpList_append_own _ rfl _ _ 34 rfl w.heap.size 9 i0 (.string ⟨#[]⟩) 1 16 Tryd.underlying34 hi hz0 hz1 hz2 rfl (by decide) _ _ _ rfl (hrow.alloc _) ⟨x.heap.size, 0, none⟩ 1 1 [.string t] rfl rfl (cell_one_new _ _ _) (by simp [Value.oneCell']) (by unfold maxLen; omega) (by omega) (by have := hB.size; simp; omega) ?_; intro v' w2 hown' hgrow _; obtain ⟨g', cap', rfl⟩ := ownsRow_succ hown')
        have hB2 : Below w.heap.size w w2 := (hB.alloc hB.size _).grown hgrow (by have := hB.size; simp; omega) (fun j e => ownBlock_ge hrow e)
        refine ⟨⟨k + 1, ps ++ [t], _, rfl, by omega, by go_num, by omega, by rw [List.length_append, HPS.out]; rfl, ⟨fun p hp => ?_, fun h0 => by simp at h0⟩, ?_, hB2⟩, by simp [intOf]; omega⟩
        · rcases List.mem_append.1 hp with hp | hp
          · exact hall.out.1 p hp
          · rw [List.mem_singleton.1 hp]; exact ht
        · rw [List.map_append]
          exact hown'
      · have h12' : ¬ (k : Int) < 12 := by omega
        have HF : Hid (Strs wr v ps) := Strs.of_row HPS.out.symm hrow
        have HL : Hid (ps.length ≤ 12) := by unfold Hid; rw [HPS.out]; exact hk
        clear hrow
        go_wp2_with fail
        go_ret
        exact ⟨_, rfl, ps, HF.out, hall.out.1, HL.out, fun h0 => hall.out.2 (by rw [h0]; rfl), hB⟩
    · have hlt' : ¬ (k : Int) < (len : Int) := by omega
      have HF : Hid (Strs wr v ps) := Strs.of_row HPS.out.symm hrow
      have HL : Hid (ps.length ≤ 12) := by unfold Hid; rw [HPS.out]; exact hk
      clear hrow
      go_wp2_with fail
      go_ret
      exact ⟨_, rfl, ps, HF.out, hall.out.1, HL.out, fun h0 => hall.out.2 (by rw [h0]; rfl), hB⟩

/-- what Best needs of a list: its cells, by number -/
theorem strs_cell {w : World} {v : Value} {ps : List ByteArray} (h : Strs w v ps) : ∃ (a : Option Addr) (cap : Nat), v = .slice a ps.length cap ∧
    Hid (∀ j, j < ps.length → ∃ g, a = some ⟨g, 0, none⟩ ∧ g < w.heap.size ∧ w.cell? ⟨g, j, none⟩ = some (.string (nth ps j))) := by
  obtain ⟨a, cap, hv, hc⟩ := h
  refine ⟨a, cap, hv, fun j hj => ?_⟩
  obtain ⟨g, h1, h2, h3⟩ := hc j hj
  exact ⟨g, h1, h2, by rw [h3, nth_get hj]⟩

/-- how Best ends -/
def BestPost (H : Nat → Bool) (O : Nat → Nat → Int) (n : Nat) (w : World) (e : Ending) (w' : World) : Prop :=
  ∃ (i : Nat) (f : Bool), e = .returned (.tuple #[.int .i64 i, .bool f]) ∧ BestR H O n i f ∧ Below w.heap.size w w'

set_option maxHeartbeats 1600000 in
theorem hbest_any (v : Value) (ps : List ByteArray) (h : ByteArray) (w : World) (hv : Strs w v ps) (hl : ps.length ≤ 1000) (ha : ∀ p ∈ ps, p.size ≤ 100) (hh : h.size ≤ maxLen) :
    Calls Tryd.prog 24 #[v, .string h] w fun e w' => BestPost (hB ps h) (oB ps) ps.length w e w' := by
  obtain ⟨a, cap, rfl, HC⟩ := strs_cell hv
  have HA := hide ha
  have L := hide (oB_ord ps)
  clear ha hv
  go_enter Tryd.func24, Tryd.ntmps24
  go_wp2_with fail
  go_loopw [6, 7, 12] (fun b f i wr => ∃ (k n : Nat) (q : Bool), k ≤ ps.length ∧ i = .int .i64 k ∧ b = .int .i64 n ∧ f = .bool q ∧ Hid (BestR (hB ps h) (oB ps) k n q) ∧ Below w.heap.size w wr) (fun _ _ i _ => ps.length - (intOf i).toNat)
  case atStart => exact ⟨0, 0, false, Nat.zero_le _, rfl, rfl, rfl, .inr ⟨rfl, rfl, fun j hj => by omega⟩, Below.refl _ _⟩
  case round =>
    obtain ⟨k, n, q, hk, rfl, rfl, rfl, hbest, hB0⟩ := hrel
    by_cases hlt : k < ps.length
    · have hlt' : (k : Int) < (ps.length : Int) := by omega
      obtain ⟨g, rfl, hg, hcell⟩ := HC.out k hlt
      have c1 := (hB0.cell (p := ⟨g, k, none⟩) hg).trans hcell
      have lk : (nth ps k).size ≤ maxLen := small_len (Nat.le_trans (nth_mem hlt HA.out) (by omega))
      clear hcell
      have CH := fun w => hide (hholds_any (nth ps k) h w lk hh)
      cases hH : holds (nth ps k).data.toList h.data.toList
      · rw [hH] at CH
        have HN : Hid (BestR (hB ps h) (oB ps) (k + 1) n q) := bestR_no hbest.out hH
        clear hH hbest
        go_wp2_with fail
        refine ((CH _).out).mono ?_
        rintro e w1 ⟨rfl, hb1⟩
        go_wp2_with fail
        exact ⟨⟨k + 1, n, q, by omega, by go_num, rfl, rfl, HN, hB0.trans (hb1.mono hB0.size)⟩, by simp [intOf]; omega⟩
      · rw [hH] at CH
        cases q
        · have HN : Hid (BestR (hB ps h) (oB ps) (k + 1) k true) := bestR_first L.out hbest.out hH
          clear hH hbest
          go_wp2_with fail
          refine ((CH _).out).mono ?_
          rintro e w1 ⟨rfl, hb1⟩
          go_wp2_with fail
          exact ⟨⟨k + 1, k, true, by omega, by go_num, rfl, rfl, HN, hB0.trans (hb1.mono hB0.size)⟩, by simp [intOf]; omega⟩
        · have hbf := bestR_true hbest.out
          have hn : n < ps.length := by have := hbf.1; omega
          have hn' : (n : Int) < (ps.length : Int) := by omega
          have ln : (nth ps n).size ≤ maxLen := small_len (Nat.le_trans (nth_mem hn HA.out) (by omega))
          have c2 : wr.cell? ⟨g, n, none⟩ = some (.string (nth ps n)) := by
            obtain ⟨g', e, hg', hcell⟩ := HC.out n hn
            simp at e
            subst e
            exact (hB0.cell (p := ⟨g, n, none⟩) hg').trans hcell
          have hgr : g < wr.heap.size := Nat.lt_of_lt_of_le hg hB0.size
          have CO := fun w => hide (horder_any (nth ps k) (nth ps n) w lk ln)
          by_cases ho : ord (nth ps k).data.toList (nth ps n).data.toList < 0
          · have HN : Hid (BestR (hB ps h) (oB ps) (k + 1) k true) := .inl ⟨rfl, bestF_new L.out hbf hH ho⟩
            clear hH hbest hbf
            generalize ord (nth ps k).data.toList (nth ps n).data.toList = o at *
            go_wp2_with fail
            refine (CH _).out.mono ?_
            rintro e w1 ⟨rfl, hb1⟩
            have c2' := (hb1.cell (p := ⟨g, n, none⟩) hgr).trans c2
            go_wp2_with fail
            refine ((CO _).out).mono ?_
            rintro e w2 ⟨rfl, hb2⟩
            go_wp2_with fail
            have bb1 := hB0.trans (hb1.mono hB0.size)
            exact ⟨⟨k + 1, k, true, by omega, by go_num, rfl, rfl, HN, bb1.trans (hb2.mono bb1.size)⟩, by simp [intOf]; omega⟩
          · have HN : Hid (BestR (hB ps h) (oB ps) (k + 1) n true) := .inl ⟨rfl, bestF_stay hbf ho⟩
            clear hH hbest hbf
            generalize ord (nth ps k).data.toList (nth ps n).data.toList = o at *
            go_wp2_with fail
            refine (CH _).out.mono ?_
            rintro e w1 ⟨rfl, hb1⟩
            have c2' := (hb1.cell (p := ⟨g, n, none⟩) hgr).trans c2
            go_wp2_with fail
            refine ((CO _).out).mono ?_
            rintro e w2 ⟨rfl, hb2⟩
            go_wp2_with fail
            have bb1 := hB0.trans (hb1.mono hB0.size)
            exact ⟨⟨k + 1, n, true, by omega, by go_num, rfl, rfl, HN, bb1.trans (hb2.mono bb1.size)⟩, by simp [intOf]; omega⟩
    · have hlt' : ¬ (k : Int) < (ps.length : Int) := by omega
      have hkn : k = ps.length := by omega
      have HR : Hid (BestR (hB ps h) (oB ps) ps.length n q) := by rw [← hkn]; exact hbest.out
      clear hkn hbest
      go_wp2_with fail
      go_ret2
      exact Exists.intro n ⟨q, rfl, HR.out, hB0⟩

end Go.Proofs.YtlogclpmdaiflaaDoor
