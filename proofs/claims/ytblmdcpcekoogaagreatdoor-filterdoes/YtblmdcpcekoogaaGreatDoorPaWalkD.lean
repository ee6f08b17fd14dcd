/-
  Walks: cmp.Or of three, Order (of package path); the laws' Few.
-/
import Derived.Test.YtblmdcpcekoogaaGreatDoorPaWalkB
import Derived.Deep.RegionHeld3
namespace Go.Proofs.YtblmdcpcekoogaaGreatDoor
set_option maxRecDepth 20000
open Go Go.RowKit Go.Shelf

/-- the first of three that is not 0 -/
def or3 (x y z : Int) : Int := orI x (orI y z)

set_option maxHeartbeats 800000 in
theorem cmpOr3_any (x y z : Int) (g : Nat) (w : World) (h0 : w.cell? ⟨g, 0, none⟩ = some (.int .i64 x)) (h1 : w.cell? ⟨g, 1, none⟩ = some (.int .i64 y)) (h2 : w.cell? ⟨g, 2, none⟩ = some (.int .i64 z)) :
    Calls Tryz.prog 80 #[.slice (some ⟨g, 0, none⟩) 3 3] w fun e w' => e = .returned (.int .i64 (or3 x y z)) ∧ w' = w := by
  go_enter Tryz.func80, Tryz.ntmps80
  go_wp2
  go_loop [8] (fun i => ∃ k : Nat, k ≤ 3 ∧ i = .int .i64 k ∧ (1 ≤ k → Hid (x = 0)) ∧ (2 ≤ k → Hid (y = 0)) ∧ (3 ≤ k → Hid (z = 0))) (fun i => 3 - (intOf i).toNat)
  case atStart => exact ⟨0, by omega, rfl, fun h => absurd h (by omega), fun h => absurd h (by omega), fun h => absurd h (by omega)⟩
  case round =>
    obtain ⟨k, hk, rfl, hx, hy, hz⟩ := hrel
    rcases k with _ | _ | _ | k
    · clear hx hy hz
      cases hq : (x != 0)
      · have HX : Hid (x = 0) := by simpa [Hid] using hq
        go_wp2
        go_round
        case rel => exact ⟨1, by omega, rfl, fun _ => HX, fun h => absurd h (by omega), fun h => absurd h (by omega)⟩
        case measure => simp [intOf]
      · have HX : Hid (or3 x y z = x) := by
          have : x ≠ 0 := by simpa using hq
          simp [Hid, or3, orI, this]
        go_wp2
        go_ret
        exact ⟨ret_int HX.out.symm, rfl⟩
    · have HX0 := hx (by omega)
      clear hx hy hz
      cases hq : (y != 0)
      · have HX : Hid (y = 0) := by simpa [Hid] using hq
        go_wp2
        go_round
        case rel => exact ⟨2, by omega, rfl, fun _ => HX0, fun _ => HX, fun h => absurd h (by omega)⟩
        case measure => simp [intOf]
      · have HX : Hid (or3 x y z = y) := by
          have : y ≠ 0 := by simpa using hq
          simp [Hid, or3, orI, HX0.out, this]
        go_wp2
        go_ret
        exact ⟨ret_int HX.out.symm, rfl⟩
    · have HX0 := hx (by omega)
      have HX1 := hy (by omega)
      clear hx hy hz
      cases hq : (z != 0)
      · have HX : Hid (z = 0) := by simpa [Hid] using hq
        go_wp2
        go_round
        case rel => exact ⟨3, by omega, rfl, fun _ => HX0, fun _ => HX1, fun _ => HX⟩
        case measure => simp [intOf]
      · have HX : Hid (or3 x y z = z) := by simp [Hid, or3, orI, HX0.out, HX1.out]
        go_wp2
        go_ret
        exact ⟨ret_int HX.out.symm, rfl⟩
    · have hk0 : k = 0 := by omega
      subst hk0
      have HX : Hid (or3 x y z = 0) := by
        have a := (hx (by omega)).out
        have b := (hy (by omega)).out
        have c := (hz (by omega)).out
        simp [Hid, or3, orI, a, b, c]
      clear hx hy hz
      go_wp2
      go_ret
      exact ⟨ret_int HX.out.symm, rfl⟩

/-- cmp.Or of three that have just been laid -/
theorem or3_at (w2 : World) (o1 o2 : Obj) (x y z : Int) : Calls Tryz.prog 80 #[.slice (some ⟨w2.heap.size + 1 + 1, 0, none⟩) 3 3] (((w2.alloc o1).alloc o2).alloc (.cells #[.int .i64 x, .int .i64 y, .int .i64 z] 3)).drew
    fun e w' => e = .returned (.int .i64 (or3 x y z)) ∧ w' = (((w2.alloc o1).alloc o2).alloc (.cells #[.int .i64 x, .int .i64 y, .int .i64 z] 3)).drew := by
  have h := alloc_new ((w2.alloc o1).alloc o2) (.cells #[.int .i64 x, .int .i64 y, .int .i64 z] 3)
  simp only [World.size_alloc] at h
  have h' : (((w2.alloc o1).alloc o2).alloc (.cells #[.int .i64 x, .int .i64 y, .int .i64 z] 3)).drew.heap[w2.heap.size + 1 + 1]? = some (.cells #[.int .i64 x, .int .i64 y, .int .i64 z] 3) := h
  exact cmpOr3_any x y z _ _ (by simp only [World.cell?]; rw [h']; rfl) (by simp only [World.cell?]; rw [h']; rfl) (by simp only [World.cell?]; rw [h']; rfl)

set_option maxHeartbeats 800000 in
theorem pfew_any (k : Int) (s : ByteArray) (w : World) (hs : s.size ≤ maxLen) :
    Calls Tryz.prog 30 #[.agg #[.int .i64 k, .string s]] w fun e w' => e = .returned (.agg #[.int .i64 k, .string (fewB s)]) ∧ Below w.heap.size w w' := by
  go_enter Tryz.func30, Tryz.ntmps30
  go_wp2_with fail
  refine (fewB_any _ _ hs).mono ?_
  rintro e x ⟨rfl, hx⟩
  subst x
  go_wp2_with fail
  exact bodyPost_ret (v := .agg #[.int .i64 k, .string (fewB s)]) (by simp [results, Tryz.results30, go_sem]) rfl ⟨rfl, ((Below.refl _ _).alloc (Nat.le_refl _) _).alloc (by simp) _⟩

end Go.Proofs.YtblmdcpcekoogaaGreatDoor
