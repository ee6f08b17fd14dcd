/-
  The laws HostHolds, HostJust, HostTurns, HostOrders: their walks.
-/
import Derived.Test.YtlogclpmdaiflaaDoorHRefB
namespace Go.Proofs.YtlogclpmdaiflaaDoor
open Go Go.RowKit Go.Shelf

theorem aw_m1 : meetI (⟨#[42, 46, 97, 46, 98]⟩ : ByteArray).data.toList (⟨#[42, 46, 98]⟩ : ByteArray).data.toList = true := by decide
theorem aw_m2 : meetI (⟨#[120, 46, 97, 46, 98]⟩ : ByteArray).data.toList (⟨#[42, 46, 98]⟩ : ByteArray).data.toList = true := by decide
theorem aw_m3 : meetI (⟨#[42, 46, 97]⟩ : ByteArray).data.toList (⟨#[42, 46, 98]⟩ : ByteArray).data.toList = false := by decide
theorem aw_v1 : meetB ⟨#[42, 46, 97, 46, 98]⟩ ⟨#[42, 46, 98]⟩ = ⟨#[42, 46, 97, 46, 98]⟩ := by decide
theorem aw_v2 : meetB ⟨#[120, 46, 97, 46, 98]⟩ ⟨#[42, 46, 98]⟩ = ⟨#[120, 46, 97, 46, 98]⟩ := by decide
theorem aw_v3 : meetB ⟨#[42, 46, 97]⟩ ⟨#[42, 46, 98]⟩ = ⟨#[]⟩ := by decide
theorem aw_h : holds (⟨#[42, 46, 98]⟩ : ByteArray).data.toList (⟨#[98]⟩ : ByteArray).data.toList = false := by decide
theorem aw_n : D.isName (⟨#[119, 101, 98, 46, 116, 101, 115, 116]⟩ : ByteArray).data.toList = true := by decide
theorem aw_of : Asked ⟨#[87, 101, 98, 46, 84, 101, 115, 116, 46, 58, 56, 48, 56, 48]⟩ ⟨#[119, 101, 98, 46, 116, 101, 115, 116]⟩ :=
  ⟨⟨#[119, 101, 98, 46, 116, 101, 115, 116, 46]⟩, .inl ⟨[56, 48, 56, 48], by decide, by decide⟩, by decide⟩

theorem lit_len {s : ByteArray} (h : s.size ≤ 1000) : s.size ≤ maxLen := small_len h

set_option maxHeartbeats 800000 in
theorem hawake_any (w : World) : Calls Tryd.prog 16 #[] w fun e w' => e = .returned (.bool true) ∧ Below w.heap.size w w' := by
  go_enter Tryd.func16, Tryd.ntmps16
  go_wp2_with fail
  refine (hmeet_any _ _ _ (lit_len (by decide)) (lit_len (by decide))).mono ?_
  rintro e w1 ⟨rfl, hb1⟩
  rw [aw_m1, aw_v1]
  go_wp2_with fail
  refine (hmeet_any _ _ _ (lit_len (by decide)) (lit_len (by decide))).mono ?_
  rintro e w2 ⟨rfl, hb2⟩
  rw [aw_m2, aw_v2]
  go_wp2_with fail
  refine (hmeet_any _ _ _ (lit_len (by decide)) (lit_len (by decide))).mono ?_
  rintro e w3 ⟨rfl, hb3⟩
  rw [aw_m3, aw_v3]
  go_wp2_with fail
  refine (hof_yes _ _ _ (lit_len (by decide)) aw_of aw_n).mono ?_
  rintro e w4 ⟨rfl, hb4⟩
  go_wp2_with fail
  refine (hholds_any _ _ _ (lit_len (by decide)) (lit_len (by decide))).mono ?_
  rintro e w5 ⟨rfl, hb5⟩
  rw [aw_h]
  go_wp2_with fail
  go_ret
  have bb2 := hb1.trans (hb2.mono hb1.size)
  have bb3 := bb2.trans (hb3.mono bb2.size)
  have bb4 := bb3.trans (hb4.mono bb3.size)
  have bb5 := bb4.trans (hb5.mono bb4.size)
  have bb := bb5
  exact ⟨rfl, bb⟩

set_option maxHeartbeats 800000 in
theorem holds_law (s1 s2 : ByteArray) (w : World) (hs1 : s1.size ≤ maxLen) (hs2 : s2.size ≤ maxLen) :
    Calls Tryd.prog 3 #[.string s1, .string s2] w fun e w' => e = .returned (.bool true) ∧ Below w.heap.size w w' := by
  go_enter Tryd.func3, Tryd.ntmps3
  go_wp2_with fail
  refine (few_any _ _ hs1).mono ?_
  rintro e w0 ⟨p, rfl, hp, rfl⟩
  go_wp2_with fail
  refine (few_any _ _ hs2).mono ?_
  rintro e w ⟨h, rfl, hh, rfl⟩
  have lp : p.size ≤ maxLen := small_len (by omega)
  have lh : h.size ≤ maxLen := small_len (by omega)
  go_wp2_with fail
  refine (hmay_any _ _ lp).mono ?_
  rintro e w1 ⟨rfl, hb1⟩
  go_wp2_with fail
  refine (rmay_any _ _ hp).mono ?_
  rintro e w2 ⟨rfl, hb2⟩
  go_wp2_with fail
  generalize may p.data.toList = m at *
  refine (hholds_any _ _ _ lp lh).mono ?_
  rintro e w3 ⟨rfl, hb3⟩
  go_wp2_with fail
  refine (rholds_any _ _ _ hp hh).mono ?_
  rintro e w4 ⟨rfl, hb4⟩
  go_wp2_with fail
  generalize holds p.data.toList h.data.toList = m at *
  refine (hawake_any _).mono ?_
  rintro e w5 ⟨rfl, hb5⟩
  go_wp2_with fail
  go_ret
  have bb2 := hb1.trans (hb2.mono hb1.size)
  have bb3 := bb2.trans (hb3.mono bb2.size)
  have bb4 := bb3.trans (hb4.mono bb3.size)
  have bb5 := bb4.trans (hb5.mono bb4.size)
  have bb := bb5
  exact ⟨rfl, bb⟩

end Go.Proofs.YtlogclpmdaiflaaDoor
