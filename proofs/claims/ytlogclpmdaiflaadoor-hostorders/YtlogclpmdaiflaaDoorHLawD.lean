/-
  The law HostOrders: its walk.
-/
import Derived.Test.YtlogclpmdaiflaaDoorHLawA
namespace Go.Proofs.YtlogclpmdaiflaaDoor
open Go Go.RowKit Go.Shelf

set_option maxHeartbeats 3200000 in
theorem orders_law (s1 s2 s3 : ByteArray) (w : World) (hs1 : s1.size ≤ maxLen) (hs2 : s2.size ≤ maxLen) (hs3 : s3.size ≤ maxLen) :
    Calls Tryd.prog 8 #[.string s1, .string s2, .string s3] w fun e w' => e = .returned (.bool true) ∧ Below w.heap.size w w' := by
  go_enter Tryd.func8, Tryd.ntmps8
  go_wp2_with fail
  refine (few_any _ _ hs1).mono ?_
  rintro e w0 ⟨a, rfl, ha, rfl⟩
  go_wp2_with fail
  refine (few_any _ _ hs2).mono ?_
  rintro e w0' ⟨b, rfl, hb, rfl⟩
  go_wp2_with fail
  refine (few_any _ _ hs3).mono ?_
  rintro e w ⟨c, rfl, hc, rfl⟩
  have la : a.size ≤ maxLen := small_len (by omega)
  have lb : b.size ≤ maxLen := small_len (by omega)
  have lc : c.size ≤ maxLen := small_len (by omega)
  have C1 := fun w => hide (horder_any a b w la lb)
  have C2 := fun w => hide (horder_any b c w lb lc)
  have C3 := fun w => hide (horder_any a c w la lc)
  have C4 := fun w => hide (horder_any b a w lb la)
  have C5 := fun w => hide (hmeet_any a b w la lb)
  rw [ord_anti a.data.toList b.data.toList] at C4
  have hz : (ord a.data.toList b.data.toList == 0) = (a.toList == b.toList) := by
    rw [beq_data, Bool.eq_iff_iff, beq_iff_eq, beq_iff_eq]; exact ord_zero _ _
  have ht1 : ord a.data.toList b.data.toList ≤ 0 → ord b.data.toList c.data.toList ≤ 0 → ord a.data.toList c.data.toList ≤ 0 := ord_trans
  have ht2 : ord a.data.toList b.data.toList < 0 → ord b.data.toList c.data.toList ≤ 0 → ord a.data.toList c.data.toList < 0 := ord_trans_lt
  have hm : meetI a.data.toList b.data.toList = true → ((meetB a b).toList == a.toList) = true → (a.toList == b.toList) = false → ord a.data.toList b.data.toList < 0 := fun h1 h2 h3 => by
    rw [beq_data, beq_eq_false_iff_ne] at h3
    rw [beq_data, beq_iff_eq, meetB_data] at h2
    refine ord_within ?_ h3
    rw [← h2]
    exact (meet_le h1).2.1
  have r1 := ord_range a.data.toList b.data.toList
  have r2 := ord_range b.data.toList c.data.toList
  have r3 := ord_range a.data.toList c.data.toList
  generalize ord a.data.toList b.data.toList = x at *
  generalize ord b.data.toList c.data.toList = y at *
  generalize ord a.data.toList c.data.toList = z at *
  generalize meetI a.data.toList b.data.toList = is at *
  generalize meetB a b = m at *
  have hz' : (a.toList == b.toList) = (x == 0) := hz.symm
  clear hz
  rcases r1 with rfl | rfl | rfl <;> rcases r2 with rfl | rfl | rfl <;> rcases r3 with rfl | rfl | rfl <;> first | (exfalso; omega) | skip
  all_goals
    clear ht1 ht2
    have hq := hz'
    simp only [Int.reduceBEq, Int.reduceNeg] at hq
    clear hz'
    cases is
    · clear hm
      go_wp2_with fail
      refine ((C1 _).out).mono ?_
      rintro e w1 ⟨rfl, hb1⟩
      go_wp2_with fail
      refine ((C2 _).out).mono ?_
      rintro e w2 ⟨rfl, hb2⟩
      go_wp2_with fail
      refine ((C3 _).out).mono ?_
      rintro e w3 ⟨rfl, hb3⟩
      go_wp2_with fail
      refine ((C4 _).out).mono ?_
      rintro e w4 ⟨rfl, hb4⟩
      go_wp2_with fail
      refine ((C5 _).out).mono ?_
      rintro e w5 ⟨rfl, hb5⟩
      go_wp2_with fail
      refine (hawake_any _).mono ?_
      rintro e w6 ⟨rfl, hb6⟩
      go_wp2_with fail
      go_ret
      have bb2 := hb1.trans (hb2.mono hb1.size)
      have bb3 := bb2.trans (hb3.mono bb2.size)
      have bb4 := bb3.trans (hb4.mono bb3.size)
      have bb5 := bb4.trans (hb5.mono bb4.size)
      have bb6 := bb5.trans (hb6.mono bb5.size)
      have bb := bb6
      exact ⟨rfl, bb⟩
    · cases hma : (m.toList == a.toList)
      · clear hm
        go_wp2_with fail
        refine ((C1 _).out).mono ?_
        rintro e w1 ⟨rfl, hb1⟩
        go_wp2_with fail
        refine ((C2 _).out).mono ?_
        rintro e w2 ⟨rfl, hb2⟩
        go_wp2_with fail
        refine ((C3 _).out).mono ?_
        rintro e w3 ⟨rfl, hb3⟩
        go_wp2_with fail
        refine ((C4 _).out).mono ?_
        rintro e w4 ⟨rfl, hb4⟩
        go_wp2_with fail
        refine ((C5 _).out).mono ?_
        rintro e w5 ⟨rfl, hb5⟩
        go_wp2_with fail
        refine (hawake_any _).mono ?_
        rintro e w6 ⟨rfl, hb6⟩
        go_wp2_with fail
        go_ret
        have bb2 := hb1.trans (hb2.mono hb1.size)
        have bb3 := bb2.trans (hb3.mono bb2.size)
        have bb4 := bb3.trans (hb4.mono bb3.size)
        have bb5 := bb4.trans (hb5.mono bb4.size)
        have bb6 := bb5.trans (hb6.mono bb5.size)
        have bb := bb6
        exact ⟨rfl, bb⟩
      · first
          | (exfalso; have := hm rfl hma hq; omega)
          | (clear hm
             go_wp2_with fail
             refine ((C1 _).out).mono ?_
             rintro e w1 ⟨rfl, hb1⟩
             go_wp2_with fail
             refine ((C2 _).out).mono ?_
             rintro e w2 ⟨rfl, hb2⟩
             go_wp2_with fail
             refine ((C3 _).out).mono ?_
             rintro e w3 ⟨rfl, hb3⟩
             go_wp2_with fail
             refine ((C4 _).out).mono ?_
             rintro e w4 ⟨rfl, hb4⟩
             go_wp2_with fail
             refine ((C5 _).out).mono ?_
             rintro e w5 ⟨rfl, hb5⟩
             go_wp2_with fail
             refine (hawake_any _).mono ?_
             rintro e w6 ⟨rfl, hb6⟩
             go_wp2_with fail
             go_ret
             have bb2 := hb1.trans (hb2.mono hb1.size)
             have bb3 := bb2.trans (hb3.mono bb2.size)
             have bb4 := bb3.trans (hb4.mono bb3.size)
             have bb5 := bb4.trans (hb5.mono bb4.size)
             have bb6 := bb5.trans (hb6.mono bb5.size)
             have bb := bb6
             exact ⟨rfl, bb⟩)

end Go.Proofs.YtlogclpmdaiflaaDoor
