/-
  Walks of the document's own answers: Name, Key, Cut.
-/
import Derived.Test.YtphinklnbjpohaaGreatDoorRefB
import Derived.Test.YtphinklnbjpohaaGreatDoorWalkD
import Derived.Test.YtphinklnbjpohaaGreatDoorStrs
namespace Go.Proofs.YtphinklnbjpohaaGreatDoor
set_option maxRecDepth 20000
open Go Go.RowKit Go.Shelf

theorem rsplit46 (s : ByteArray) (w : World) (hs : s.size ≤ 1000) :
    Calls Tryz.prog 132 #[.string s, .int .u8 46] w fun e w' => ∃ v, e = .returned v ∧ Strs w' v (parts 46 s) ∧ Below w.heap.size w w' := by
  have h := rsplit_any s 46 w hs
  have e : ((46 : UInt8).toNat : Int) = 46 := rfl
  rw [e] at h
  exact h.mono (fun e w' ⟨v, h1, h2, h3⟩ => ⟨v, h1, Strs.of_row rfl h2, h3⟩)
theorem rsplit47 (s : ByteArray) (w : World) (hs : s.size ≤ 1000) :
    Calls Tryz.prog 132 #[.string s, .int .u8 47] w fun e w' => ∃ v, e = .returned v ∧ Strs w' v (parts 47 s) ∧ Below w.heap.size w w' := by
  have h := rsplit_any s 47 w hs
  have e : ((47 : UInt8).toNat : Int) = 47 := rfl
  rw [e] at h
  exact h.mono (fun e w' ⟨v, h1, h2, h3⟩ => ⟨v, h1, Strs.of_row rfl h2, h3⟩)

set_option maxHeartbeats 800000 in
theorem rname_any (s : ByteArray) (w : World) (hs : s.size ≤ 1000) :
    Calls Tryz.prog 91 #[.string s] w fun e w' => e = .returned (.bool (D.isName s.data.toList)) ∧ Below w.heap.size w w' := by
  by_cases h60 : 60 < s.size
  · have hx : Hid (D.isName s.data.toList = false) := by
      unfold Hid D.isName
      rw [Bool.and_eq_false_iff]; left; apply decide_eq_false; simp; exact h60
    go_enter Tryz.func91, Tryz.ntmps91
    go_wp2_with fail
    go_ret
    exact ⟨ret_bool hx.out.symm, Below.refl _ _⟩
  · have hcnt : (parts 46 s).length ≤ 1001 := by
      rw [parts_len]
      have := D.spl_count (c := 46) (l := s.data.toList)
      have e : s.data.toList.length = s.size := Array.length_toList
      omega
    go_enter Tryz.func91, Tryz.ntmps91
    go_wp2_with fail
    refine (rsplit46 _ _ hs).mono ?_
    rintro e w1 ⟨v, rfl, hS, hb1⟩
    obtain ⟨a, ca, rfl, hca⟩ := hS
    have HA := hide hca
    clear hca
    go_wp2_with fail
    go_loopw [4] (fun i wr => ∃ k : Nat, k ≤ (parts 46 s).length ∧ i = .int .i64 k ∧ Hid (∀ j (hj : j < (parts 46 s).length), j < k → D.isLabel (parts 46 s)[j].data.toList = true) ∧ wr = w1) (fun i _ => (parts 46 s).length - (intOf i).toNat)
    case atStart => exact ⟨0, Nat.zero_le _, rfl, fun j _ hj => absurd hj (by omega), rfl⟩
    case round =>
      obtain ⟨k, hk, rfl, hall, rfl⟩ := hrel
      by_cases hlt : k < (parts 46 s).length
      · obtain ⟨g, rfl, hg, c1⟩ := HA.out k hlt
        have hps := part_size 46 s hlt
        have hlt' : (k : Int) < ((parts 46 s).length : Int) := by omega
        have hno := fun h => not_name_of_part s hlt h
        generalize hp : (parts 46 s)[k] = p at *
        have HP := hide hp
        have HNO := hide hno
        clear hp hno
        have lp : p.size ≤ maxLen := small_len (by omega)
        cases hl : D.isLabel p.data.toList
        · have HL := hide hl
          clear hl
          go_wp2_with fail
          refine (rlabel_any _ _ lp).mono ?_
          rintro e x ⟨rfl, rfl⟩
          rw [HL.out]
          go_wp2_with fail
          go_ret
          exact ⟨ret_bool (HNO.out HL.out).symm, hb1⟩
        · have HL := hide hl
          clear hl
          go_wp2_with fail
          refine (rlabel_any _ _ lp).mono ?_
          rintro e x ⟨rfl, rfl⟩
          rw [HL.out]
          go_wp2_with fail
          refine ⟨⟨k + 1, by omega, by go_num, fun j hj hjk => ?_, trivial⟩, by simp [intOf]; omega⟩
          by_cases e : j = k
          · subst e; rw [HP.out]; exact HL.out
          · exact hall.out j hj (by omega)
      · have hlt' : ¬ (k : Int) < ((parts 46 s).length : Int) := by omega
        have hx : Hid (D.isName s.data.toList = true) := name_of_parts s (by omega) (fun j hj => hall.out j hj (by omega))
        go_wp2_with fail
        go_ret
        exact ⟨ret_bool hx.out.symm, hb1⟩

end Go.Proofs.YtphinklnbjpohaaGreatDoor
