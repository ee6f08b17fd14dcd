/-
  Walks of the document's own answers: Of.
-/
import Derived.Test.YtlogclpmdaiflaaDoorHLawA
namespace Go.Proofs.YtlogclpmdaiflaaDoor
open Go Go.RowKit Go.Shelf

/-- what Of answers, beside whether it is a host -/
def ofV (h : ByteArray) : ByteArray := if D.isName h.data.toList then h else ⟨#[]⟩

theorem last_dot (t : ByteArray) : (t.toList.isEmpty = true ∧ Hid (t = trimS t ⟨#[46]⟩)) ∨
    ∃ k : Nat, ∃ hk : k < t.size, t.toList.isEmpty = false ∧ (t.size : Int) - 1 = (k : Int) ∧ ((((t[k].toNat : Int) == 46) = true ∧ Hid (t.extract 0 k = trimS t ⟨#[46]⟩)) ∨ (((t[k].toNat : Int) == 46) = false ∧ Hid (t = trimS t ⟨#[46]⟩))) := by
  have hsl : t.data.toList.length = t.size := Array.length_toList
  cases he : t.toList.isEmpty
  · right
    have hpos : 0 < t.size := by
      rw [← empty_iff] at he
      rw [← hsl]
      cases hl : t.data.toList
      · rw [hl] at he; cases he
      · simp
    refine ⟨t.size - 1, by omega, rfl, by omega, ?_⟩
    have hk : t.size - 1 < t.size := by omega
    have hsf : Lib.hasSuffix t.data.toList [46] = ((t[t.size - 1].toNat : Int) == 46) := by
      rw [← Lib.hasSuffix_of_drop]
      have e1 : decide ([(46 : UInt8)].length ≤ t.data.toList.length) = true := decide_eq_true (by rw [hsl]; simp; omega)
      rw [e1, Bool.true_and]
      have e2 : t.data.toList.drop (t.data.toList.length - [(46 : UInt8)].length) = [t[t.size - 1]] := by
        have : t.data.toList.length - [(46 : UInt8)].length = t.size - 1 := by rw [hsl]; simp
        rw [this, List.drop_eq_getElem_cons (by rw [hsl]; exact hk)]
        rw [List.drop_of_length_le (by rw [hsl]; omega)]
        rfl
      rw [e2, Bool.eq_iff_iff, beq_iff_eq, beq_iff_eq]
      constructor
      · intro h
        simp at h
        rw [h]
        rfl
      · intro h
        have : t[t.size - 1] = 46 := UInt8.toNat_inj.1 (by show t[t.size - 1].toNat = 46; omega)
        rw [this]
    cases hq : ((t[t.size - 1].toNat : Int) == 46)
    · right
      exact ⟨rfl, trimS_miss (p := ⟨#[46]⟩) (by rw [← hq]; exact hsf)⟩
    · left
      exact ⟨rfl, trimS_hit (p := ⟨#[46]⟩) (by rw [← hq]; exact hsf)⟩
  · left
    refine ⟨rfl, trimS_miss (p := ⟨#[46]⟩) ?_⟩
    rw [← empty_iff] at he
    rw [List.isEmpty_iff.1 he]
    rfl

/-- there is a port of n digits -/
def PortAt (f : ByteArray) (n : Nat) : Prop := ∃ k : Nat, ∃ hk : k < f.size, (f.size : Int) - (n : Int) - 1 = (k : Int) ∧ f[k] = 58 ∧ ∀ j (h : j < f.size), k < j → isDig f[j] = true
theorem portAt_cut {f : ByteArray} {n k : Nat} (h1 : 1 ≤ n) (h5 : n ≤ 5) (hk : k < f.size) (he : (f.size : Int) - (n : Int) - 1 = (k : Int)) (hc : f[k] = 58) (hd : ∀ j (h : j < f.size), k < j → isDig f[j] = true) :
    Ported f.data.toList (f.extract 0 k).data.toList := by
  have hsl : f.data.toList.length = f.size := Array.length_toList
  left
  refine ⟨f.data.toList.drop (k + 1), portD_iff.2 ⟨by rw [List.length_drop, hsl]; omega, by rw [List.length_drop, hsl]; omega, fun x hx => ?_⟩, ?_⟩
  · obtain ⟨j, hj, rfl⟩ := List.getElem_of_mem hx
    rw [List.length_drop, hsl] at hj
    rw [List.getElem_drop]
    exact hd (k + 1 + j) (by omega) (by omega)
  · rw [take_data]
    have hc' : f.data.toList[k]'(by rw [hsl]; exact hk) = 58 := hc
    conv => lhs; rw [← List.take_append_drop k f.data.toList]
    rw [List.drop_eq_getElem_cons (by rw [hsl]; exact hk), hc']
theorem portAt_none {f : ByteArray} (h : ∀ n, 1 ≤ n → n ≤ 5 → ¬ PortAt f n) : Ported f.data.toList f.data.toList := by
  have hsl : f.data.toList.length = f.size := Array.length_toList
  refine .inr ⟨rfl, fun a d hd e => ?_⟩
  obtain ⟨d1, d5, dd⟩ := portD_iff.1 hd
  have hlen : f.size = a.length + (d.length + 1) := by rw [← hsl, e]; simp
  have hat : ∀ j (hj : j < f.size), f[j] = (a ++ 58 :: d)[j]'(by rw [← e, hsl]; exact hj) := fun j hj => by
    have : f[j] = f.data.toList[j]'(by rw [hsl]; exact hj) := rfl
    rw [this]
    simp only [e]
  refine h d.length d1 d5 ⟨a.length, by omega, by omega, ?_, fun j hj hlt => ?_⟩
  · rw [hat _ (by omega)]; simp
  · rw [hat _ hj]
    apply dd
    rw [List.getElem_append_right (by omega)]
    obtain ⟨m, hm⟩ : ∃ m, j - a.length = m + 1 := ⟨j - a.length - 1, by omega⟩
    simp only [hm, List.getElem_cons_succ]
    exact List.getElem_mem _

set_option maxHeartbeats 3200000 in
theorem rof_any (s h : ByteArray) (w : World) (hs : s.size ≤ 100) (hh : Asked s h) :
    Calls Tryd.prog 20 #[.string s] w fun e w' => e = .returned (.tuple #[.string (ofV h), .bool (D.isName h.data.toList)]) ∧ Below w.heap.size w w' := by
  have hl := asked_len hh
  obtain ⟨a, ha, he⟩ := hh
  have hf : (foldB s).size ≤ 100 := by rw [foldB_size]; exact hs
  have CF := fun w => hide (rfold_any s w (by omega))
  generalize foldB s = f at *
  have HH := hide he
  have HA := hide ha
  have HN : Hid (D.isName h.data.toList = true → ofV h = h) := fun e => by unfold ofV; rw [if_pos e]
  have HN' : Hid (D.isName h.data.toList = false → ofV h = ⟨#[]⟩) := fun e => by unfold ofV; rw [e]; rfl
  have CN := fun w => hide (rname_any h w (by omega))
  clear he ha
  generalize D.isName h.data.toList = nm at *
  go_enter Tryd.func20, Tryd.ntmps20
  go_wp2_with fail
  refine ((CF _).out).mono ?_
  rintro e w1 ⟨rfl, hb1⟩
  go_wp2_with fail
  go_loop [0, 4] (fun t i => t = .string f ∧ ∃ n : Nat, 1 ≤ n ∧ n ≤ 6 ∧ i = .int .i64 n ∧ Hid (∀ m, 1 ≤ m → m < n → ¬ PortAt f m)) (fun _ i => 6 - (intOf i).toNat)
  case atStart => exact ⟨rfl, 1, by omega, by omega, rfl, fun m h1 h2 => by omega⟩
  case round =>
    obtain ⟨rfl, n, h1, h6, rfl, hall⟩ := hrel
    by_cases hlt : n ≤ 5
    · have next : ¬ PortAt f n → (Value.string f = Value.string f ∧ ∃ n_1 : Nat, 1 ≤ n_1 ∧ n_1 ≤ 6 ∧ Value.int .i64 ((n : Int) + 1) = Value.int .i64 (n_1 : Int) ∧ Hid (∀ m, 1 ≤ m → m < n_1 → ¬ PortAt f m)) ∧ 6 - (intOf (Value.int .i64 ((n : Int) + 1))).toNat < 6 - (intOf (Value.int .i64 (n : Int))).toNat := fun hno => by
        refine ⟨⟨rfl, n + 1, by omega, by omega, by go_num, fun m hm1 hm2 => ?_⟩, by simp [intOf]; omega⟩
        by_cases e : m = n
        · subst e; exact hno
        · exact hall.out m hm1 (by omega)
      have NEXT := hide next
      clear next
      by_cases hneg : (f.size : Int) - (n : Int) - 1 < 0
      · have HNO : Hid (¬ PortAt f n) := fun ⟨k, _, hk, _⟩ => by omega
        go_wp2_with fail
        exact ⟨⟨rfl, (NEXT.out HNO.out).1.2⟩, (NEXT.out HNO.out).2⟩
      · obtain ⟨k, hk⟩ : ∃ k : Nat, (f.size : Int) - (n : Int) - 1 = (k : Int) := ⟨f.size - n - 1, by omega⟩
        have hkl : k < f.size := by omega
        have hkp : ∀ k' : Nat, (f.size : Int) - (n : Int) - 1 = (k' : Int) → k' = k := fun k' h' => by omega
        have HKP := hide hkp
        have HK := hide hk
        clear hkp
        cases hc : ((f[k].toNat : Int) != 58)
        · have hc58 : Hid (f[k] = 58) := by
            unfold Hid
            apply UInt8.toNat_inj.1
            have := bne_eq_false_iff_eq.1 hc
            show f[k].toNat = 58
            omega
          go_wp2_with fail
          go_loop [6, 7] (fun d i => ∃ (j : Nat) (b : Bool), k + 1 ≤ j ∧ j ≤ f.size ∧ i = .int .i64 j ∧ d = .bool b ∧ Hid (b = true ↔ ∀ m (h : m < f.size), k < m → m < j → isDig f[m] = true)) (fun _ i => f.size - (intOf i).toNat)
          case atStart => exact ⟨k + 1, true, by omega, by omega, by go_num, rfl, by unfold Hid; simp; intro m _ h1 h2; omega⟩
          case round =>
            obtain ⟨j, b, hj1, hj2, rfl, rfl, hb⟩ := hrel
            by_cases hjl : j < f.size
            · have hjl' : (j : Int) < (f.size : Int) := by omega
              have h8 := f[j].toNat_lt
              have NX : ∀ b' : Bool, (b' = true ↔ b = true ∧ isDig f[j] = true) → Hid (b' = true ↔ ∀ m (h : m < f.size), k < m → m < j + 1 → isDig f[m] = true) := fun b' hb' => by
                unfold Hid
                rw [hb', hb.out]
                constructor
                · rintro ⟨x1, x2⟩ m hm h1 h2
                  by_cases e : m = j
                  · subst e; exact x2
                  · exact x1 m hm h1 (by omega)
                · intro x
                  exact ⟨fun m hm h1 h2 => x m hm h1 (by omega), x j hjl (by omega) (by omega)⟩
              have HNX := hide NX
              clear NX
              cases b
              · go_wp2_with fail
                exact ⟨⟨j + 1, false, by omega, by omega, by go_num, rfl, HNX.out _ (by simp)⟩, by simp [intOf]; omega⟩
              · by_cases r1 : (48 : Int) ≤ (f[j].toNat : Int)
                · by_cases r2 : (f[j].toNat : Int) ≤ 57
                  · have HD : Hid (isDig f[j] = true) := by simp only [Hid, isDig, Bool.and_eq_true, decide_eq_true_eq]; omega
                    go_wp2_with fail
                    exact ⟨⟨j + 1, true, by omega, by omega, by go_num, rfl, HNX.out _ (by simp [HD.out])⟩, by simp [intOf]; omega⟩
                  · have HD : Hid (isDig f[j] = false) := by simp only [Hid, isDig, Bool.and_eq_false_iff, decide_eq_false_iff_not]; omega
                    have r2' : decide ((f[j].toNat : Int) ≤ 57) = false := decide_eq_false r2
                    go_wp2_with fail
                    exact ⟨⟨j + 1, false, by omega, by omega, by go_num, rfl, HNX.out _ (by simp [HD.out])⟩, by simp [intOf]; omega⟩
                · have HD : Hid (isDig f[j] = false) := by simp only [Hid, isDig, Bool.and_eq_false_iff, decide_eq_false_iff_not]; omega
                  have r1' : decide ((48 : Int) ≤ (f[j].toNat : Int)) = false := decide_eq_false r1
                  go_wp2_with fail
                  exact ⟨⟨j + 1, false, by omega, by omega, by go_num, rfl, HNX.out _ (by simp [HD.out])⟩, by simp [intOf]; omega⟩
            · have hjl' : ¬ (j : Int) < (f.size : Int) := by omega
              cases b
              · have HNO : Hid (¬ PortAt f n) := fun ⟨k', hk'l, hk', hc', hd'⟩ => by
                  have := HKP.out k' hk'
                  subst this
                  have := hb.out.2 (fun m hm h1 _ => hd' m hm h1)
                  cases this
                go_wp2_with fail
                exact ⟨⟨rfl, (NEXT.out HNO.out).1.2⟩, (NEXT.out HNO.out).2⟩
              · obtain ⟨t, ht⟩ : ∃ t, f.extract 0 k = t := ⟨_, rfl⟩
                have HPT : Hid (Ported f.data.toList t.data.toList) := by
                  rw [← ht]
                  exact portAt_cut h1 hlt hkl HK.out hc58.out (fun m hm hkm => hb.out.1 rfl m hm hkm (by omega))
                have HAT : Hid (a = t) := by
                  apply bytes_ext
                  exact ported_one HA.out (HPT.out)
                have hsz : (t).size ≤ 100 := by rw [← ht, ByteArray.size_extract]; omega
                have HHT : Hid (h = trimS (t) ⟨#[46]⟩) := by unfold Hid; rw [← HAT.out]; exact HH.out
                rcases last_dot (t) with ⟨he, HD⟩ | ⟨kk, hkk, he, hkz, ⟨hq, HD⟩ | ⟨hq, HD⟩⟩
                all_goals
                  have HX := hide (HD.out.trans HHT.out.symm)
                  rw [← HX.out] at CN
                  cases nm
                  · have HO : Hid (ofV h = ⟨#[]⟩) := HN'.out rfl
                    clear HN HN'
                    go_wp2_with fail
                    refine ((CN _).out).mono ?_
                    rintro e w2 ⟨rfl, hb2⟩
                    go_wp2_with fail
                    go_ret2
                    have bb2 := hb1.trans (hb2.mono hb1.size)
                    have bb := bb2
                    exact ⟨by rw [HO.out]; rfl, bb⟩
                  · have HO : Hid (ofV h = h) := HN.out rfl
                    clear HN HN'
                    go_wp2_with fail
                    refine ((CN _).out).mono ?_
                    rintro e w2 ⟨rfl, hb2⟩
                    go_wp2_with fail
                    go_ret2
                    have bb2 := hb1.trans (hb2.mono hb1.size)
                    have bb := bb2
                    exact ⟨by rw [HO.out, ← HX.out]; rfl, bb⟩
        · have HNO : Hid (¬ PortAt f n) := fun ⟨k', hk'l, hk', hc', _⟩ => by
            have := HKP.out k' hk'
            subst this
            rw [hc'] at hc
            cases hc
          go_wp2_with fail
          exact ⟨⟨rfl, (NEXT.out HNO.out).1.2⟩, (NEXT.out HNO.out).2⟩
    · have HPT : Hid (Ported f.data.toList f.data.toList) := portAt_none (fun m hm1 hm2 => hall.out m hm1 (by omega))
      have hlt' : ¬ (n : Int) ≤ 5 := by omega
      have HAT : Hid (a = f) := by
        apply bytes_ext
        exact ported_one HA.out (HPT.out)
      have hsz : (f).size ≤ 100 := by omega
      have HHT : Hid (h = trimS (f) ⟨#[46]⟩) := by unfold Hid; rw [← HAT.out]; exact HH.out
      rcases last_dot (f) with ⟨he, HD⟩ | ⟨kk, hkk, he, hkz, ⟨hq, HD⟩ | ⟨hq, HD⟩⟩
      all_goals
        have HX := hide (HD.out.trans HHT.out.symm)
        rw [← HX.out] at CN
        cases nm
        · have HO : Hid (ofV h = ⟨#[]⟩) := HN'.out rfl
          clear HN HN'
          go_wp2_with fail
          refine ((CN _).out).mono ?_
          rintro e w2 ⟨rfl, hb2⟩
          go_wp2_with fail
          go_ret2
          have bb2 := hb1.trans (hb2.mono hb1.size)
          have bb := bb2
          exact ⟨by rw [HO.out]; rfl, bb⟩
        · have HO : Hid (ofV h = h) := HN.out rfl
          clear HN HN'
          go_wp2_with fail
          refine ((CN _).out).mono ?_
          rintro e w2 ⟨rfl, hb2⟩
          go_wp2_with fail
          go_ret2
          have bb2 := hb1.trans (hb2.mono hb1.size)
          have bb := bb2
          exact ⟨by rw [HO.out, ← HX.out]; rfl, bb⟩

end Go.Proofs.YtlogclpmdaiflaaDoor
