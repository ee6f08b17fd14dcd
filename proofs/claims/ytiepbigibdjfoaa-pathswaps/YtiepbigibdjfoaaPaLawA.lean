/-
  Walks: the laws' own examples (awake).
-/
import Derived.Test.YtiepbigibdjfoaaPaWalkD
namespace Go.Proofs.Ytiepbigibdjfoaa
open Go Go.RowKit Go.Shelf

theorem aw_t1 : mkB (swapT 2 (⟨#[47, 97]⟩ : ByteArray).data.toList (⟨#[47, 120]⟩ : ByteArray).data.toList (⟨#[47, 97, 47, 98]⟩ : ByteArray).data.toList) = ⟨#[47, 120, 47, 98]⟩ := by decide
theorem aw_e1 : swapE 2 (⟨#[47, 97]⟩ : ByteArray).data.toList (⟨#[47, 120]⟩ : ByteArray).data.toList (⟨#[47, 97, 47, 98]⟩ : ByteArray).data.toList = 0 := by decide
theorem aw_t2 : mkB (swapT 2 (⟨#[47, 97]⟩ : ByteArray).data.toList (⟨#[47]⟩ : ByteArray).data.toList (⟨#[47, 97]⟩ : ByteArray).data.toList) = ⟨#[47]⟩ := by decide
theorem aw_e2 : swapE 2 (⟨#[47, 97]⟩ : ByteArray).data.toList (⟨#[47]⟩ : ByteArray).data.toList (⟨#[47, 97]⟩ : ByteArray).data.toList = 0 := by decide
theorem aw_t3 : mkB (swapT 2 (⟨#[47]⟩ : ByteArray).data.toList (⟨#[47, 120]⟩ : ByteArray).data.toList (⟨#[47, 98]⟩ : ByteArray).data.toList) = ⟨#[47, 120, 47, 98]⟩ := by decide
theorem aw_e3 : swapE 2 (⟨#[47]⟩ : ByteArray).data.toList (⟨#[47, 120]⟩ : ByteArray).data.toList (⟨#[47, 98]⟩ : ByteArray).data.toList = 0 := by decide
theorem aw_h1 : holdP 2 (⟨#[47, 97]⟩ : ByteArray).data.toList (⟨#[47, 97, 47, 98]⟩ : ByteArray).data.toList = true := by decide
theorem aw_h2 : holdP 2 (⟨#[47, 97]⟩ : ByteArray).data.toList (⟨#[47, 97, 47]⟩ : ByteArray).data.toList = true := by decide
theorem aw_h3 : holdP 2 (⟨#[47, 97]⟩ : ByteArray).data.toList (⟨#[47, 97, 98]⟩ : ByteArray).data.toList = false := by decide

set_option maxHeartbeats 1600000 in
theorem pawake_any (w : World) : Calls Try.prog 18 #[] w fun e w' => e = .returned (.bool true) ∧ Below w.heap.size w w' := by
  go_enter Try.func18, Try.ntmps18
  go_wp2_with fail
  refine (pswap_any _ _ _ _ _ (small_len (by decide)) (small_len (by decide)) (small_len (by decide))).mono ?_
  rintro e w1 ⟨rfl, hb1⟩
  rw [aw_t1, aw_e1]
  have bb1 := hb1
  have c0 := box_fst bb1
  have c1 := box_snd bb1
  go_wp2_with fail
  refine (pswap_any _ _ _ _ _ (small_len (by decide)) (small_len (by decide)) (small_len (by decide))).mono ?_
  rintro e w2 ⟨rfl, hb2⟩
  rw [aw_t2, aw_e2]
  have bb2 := bb1.trans (hb2.mono bb1.size)
  clear c0 c1
  have c0 := box_fst bb2
  have c1 := box_snd bb2
  go_wp2_with fail
  refine (pswap_any _ _ _ _ _ (small_len (by decide)) (small_len (by decide)) (small_len (by decide))).mono ?_
  rintro e w3 ⟨rfl, hb3⟩
  rw [aw_t3, aw_e3]
  have bb3 := bb2.trans (hb3.mono bb2.size)
  clear c0 c1
  have c0 := box_fst bb3
  have c1 := box_snd bb3
  go_wp2_with fail
  refine (pholds_any _ _ _ _ (small_len (by decide)) (small_len (by decide))).mono ?_
  rintro e w4 ⟨rfl, hb4⟩
  rw [aw_h1]
  have bb4 := bb3.trans (hb4.mono bb3.size)
  clear c0 c1
  have c0 := box_fst bb4
  have c1 := box_snd bb4
  go_wp2_with fail
  refine (pholds_any _ _ _ _ (small_len (by decide)) (small_len (by decide))).mono ?_
  rintro e w5 ⟨rfl, hb5⟩
  rw [aw_h2]
  have bb5 := bb4.trans (hb5.mono bb4.size)
  clear c0 c1
  have c0 := box_fst bb5
  have c1 := box_snd bb5
  go_wp2_with fail
  refine (pholds_any _ _ _ _ (small_len (by decide)) (small_len (by decide))).mono ?_
  rintro e w6 ⟨rfl, hb6⟩
  rw [aw_h3]
  have bb6 := bb5.trans (hb6.mono bb5.size)
  clear c0 c1
  go_wp2_with fail
  go_ret
  exact ⟨rfl, below_box bb6⟩

end Go.Proofs.Ytiepbigibdjfoaa
