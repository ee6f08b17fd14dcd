/-
  The law DnsKeys: its walk.
-/
import Derived.Test.YtnplmgamkcgihaaDoorRefD
namespace Go.Proofs.YtnplmgamkcgihaaDoor
open Go Go.RowKit Go.Shelf

theorem parts_one {c : UInt8} {s : ByteArray} (h : (parts c s).length = 1) : parts c s = [s] := by
  rcases idx_cases c s.data.toList with ⟨_, hno⟩ | ⟨i, _, _, hcut, hno⟩
  · exact parts_none hno
  · rw [parts_some hcut hno] at h
    have := D.spl_pos c (s.extract (i + 1) s.size).data.toList
    rw [← parts_len] at this
    simp at h
    rw [h] at this
    simp at this

/-- what Key answers, and what the document's Key answers -/
theorem key_both (sp nm : ByteArray) (hs : sp.size ≤ 100) (hn : nm.size ≤ 100) : ∃ (k : ByteArray) (err : Int) (ok : Bool),
    (∀ w, Calls Tryd.prog 21 #[.string sp, .string nm] w fun e w' => e = .returned (.tuple #[.string k, .int .i64 err]) ∧ Below w.heap.size w w') ∧
    (∀ w, Calls Tryd.prog 22 #[.string sp, .string nm] w fun e w' => e = .returned (.tuple #[.string k, .bool ok]) ∧ Below w.heap.size w w') ∧
    (err = 0 ∧ ok = true ∨ err = 1 ∧ ok = false) := by
  have ls : sp.size ≤ maxLen := small_len (by omega)
  have ln : nm.size ≤ maxLen := small_len (by omega)
  cases h : (D.maySp sp.data.toList && D.isName nm.data.toList)
  · exact ⟨⟨#[]⟩, 1, false, fun w => key_no sp nm w ls ln h, fun w => rkey_no sp nm w hs hn h, .inr ⟨rfl, rfl⟩⟩
  · rw [Bool.and_eq_true] at h
    exact ⟨_, 0, true, fun w => key_yes sp nm w ls ln h.1 h.2, fun w => rkey_yes sp nm w hs hn h.1 h.2, .inl ⟨rfl, rfl⟩⟩

/-- what Cut answers, and what the document's Cut answers -/
theorem cut_both (s : ByteArray) (hs : s.size ≤ 100) : ∃ (x y : ByteArray) (err : Int) (ok : Bool),
    (∀ w, Calls Tryd.prog 23 #[.string s] w fun e w' => e = .returned (.tuple #[.string x, .string y, .int .i64 err]) ∧ Below w.heap.size w w') ∧
    (∀ w, Calls Tryd.prog 24 #[.string s] w fun e w' => e = .returned (.tuple #[.string x, .string y, .bool ok]) ∧ Below w.heap.size w w') ∧
    (err = 0 ∧ ok = true ∨ err = 2 ∧ ok = false) := by
  have ls : s.size ≤ maxLen := small_len (by omega)
  rcases idx_cases 47 s.data.toList with ⟨hi, hno⟩ | ⟨i, hil, hi, hcut, hno⟩
  · exact ⟨⟨#[]⟩, ⟨#[]⟩, 2, false, fun w => dcut_none s w hi, fun w => rcut_len s w hs (by rw [parts_none hno]; simp), .inr ⟨rfl, rfl⟩⟩
  · have hil' : i < s.size := by simpa using hil
    have hps := parts_some hcut hno
    have l1 : (s.extract 0 i).size ≤ 100 := by rw [ByteArray.size_extract]; omega
    have l2 : (s.extract (i + 1) s.size).size ≤ 100 := by rw [ByteArray.size_extract]; omega
    cases h : (D.maySp (s.extract 0 i).data.toList && D.isName (s.extract (i + 1) s.size).data.toList)
    · refine ⟨⟨#[]⟩, ⟨#[]⟩, 2, false, fun w => dcut_no s i w ls hil' hi h, fun w => ?_, .inr ⟨rfl, rfl⟩⟩
      by_cases h2 : (parts 47 s).length = 2
      · have h1 : (parts 47 (s.extract (i + 1) s.size)).length = 1 := by rw [hps] at h2; simpa using h2
        rw [parts_one h1] at hps
        exact rcut_no s _ _ w hs hps l1 l2 h
      · exact rcut_len s w hs h2
    · rw [Bool.and_eq_true] at h
      rw [parts_none (name_octets h.2)] at hps
      exact ⟨_, _, 0, true, fun w => dcut_yes s i w ls hil' hi h.1 h.2, fun w => rcut_yes s _ _ w hs hps l1 l2 h.1 h.2, .inl ⟨rfl, rfl⟩⟩

set_option maxHeartbeats 1600000 in
theorem keys_law (s1 s2 s3 : ByteArray) (w : World) (hs1 : s1.size ≤ maxLen) (hs2 : s2.size ≤ maxLen) (hs3 : s3.size ≤ maxLen) :
    Calls Tryd.prog 4 #[.string s1, .string s2, .string s3] w fun e w' => e = .returned (.bool true) ∧ Below w.heap.size w w' := by
  go_enter Tryd.func4, Tryd.ntmps4
  go_wp2_with fail
  refine (few_any _ _ hs1).mono ?_
  rintro e w0 ⟨a, rfl, ha, rfl⟩
  go_wp2_with fail
  refine (few_any _ _ hs2).mono ?_
  rintro e w1 ⟨b, rfl, hb, rfl⟩
  go_wp2_with fail
  refine (few_any _ _ hs3).mono ?_
  rintro e w ⟨c, rfl, hc, rfl⟩
  go_wp2_with fail
  obtain ⟨k, err, ok, f1, f2, hko⟩ := key_both a b ha hb
  obtain ⟨x, y, err2, ok2, g1, g2, hco⟩ := cut_both c hc
  have F1 := hide f1
  have F2 := hide f2
  have G1 := hide g1
  have G2 := hide g2
  clear f1 f2 g1 g2
  refine (F1.out _).mono ?_
  rintro e u1 ⟨rfl, hu1⟩
  go_wp2_with fail
  refine (F2.out _).mono ?_
  rintro e u2 ⟨rfl, hu2⟩
  rcases hko with ⟨rfl, rfl⟩ | ⟨rfl, rfl⟩ <;> rcases hco with ⟨rfl, rfl⟩ | ⟨rfl, rfl⟩
  all_goals
    go_wp2_with fail
    refine (G1.out _).mono ?_
    rintro e u3 ⟨rfl, hu3⟩
    go_wp2_with fail
    refine (G2.out _).mono ?_
    rintro e u4 ⟨rfl, hu4⟩
    go_wp2_with fail
    refine (awake_any _).mono ?_
    rintro e u5 ⟨rfl, hu5⟩
    go_wp2_with fail
    go_ret
    have B2 := hu1.trans (hu2.mono hu1.size)
    have B3 := B2.trans (hu3.mono B2.size)
    have B4 := B3.trans (hu4.mono B3.size)
    exact ⟨rfl, B4.trans (hu5.mono B4.size)⟩

end Go.Proofs.YtnplmgamkcgihaaDoor
