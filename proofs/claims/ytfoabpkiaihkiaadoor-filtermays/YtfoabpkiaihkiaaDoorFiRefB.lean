/-
  The document's May.
-/
import Derived.Test.YtfoabpkiaihkiaaDoorJ1
namespace Go.Proofs.YtfoabpkiaihkiaaDoor
set_option maxRecDepth 20000
open Go Go.RowKit Go.Shelf Fi

theorem none_cases (h : ByteArray) (p : Int) (t : ByteArray) (b : Bool) (c : Int) : h.toList.isEmpty = false ∨ (h.toList.isEmpty = true ∧ (p == 0) = false) ∨ (h.toList.isEmpty = true ∧ p = 0 ∧ t.toList.isEmpty = false) ∨
    (h.toList.isEmpty = true ∧ p = 0 ∧ t.toList.isEmpty = true ∧ b = true) ∨ (h.toList.isEmpty = true ∧ p = 0 ∧ t.toList.isEmpty = true ∧ b = false ∧ (c == 0) = false) ∨ (h.toList.isEmpty = true ∧ p = 0 ∧ t.toList.isEmpty = true ∧ b = false ∧ c = 0) := by
  by_cases hp : p = 0 <;> by_cases hc : c = 0 <;> cases h.toList.isEmpty <;> cases t.toList.isEmpty <;> cases b <;> simp [hp, hc]

set_option maxHeartbeats 6400000 in
theorem rmay1 (n v h : ByteArray) (p : Int) (t : ByteArray) (b : Bool) (c : Int) (w : World) (ok : OkFi ⟨1, n, v, h, p, t, b, c⟩) :
    Calls Tryd.prog 11 #[fV ⟨1, n, v, h, p, t, b, c⟩] w fun e w' => e = .returned (.bool (mayF ⟨1, n, v, h, p, t, b, c⟩)) ∧ Below w.heap.size w w' := by
  have HR : Hid (mayF ⟨1, n, v, h, p, t, b, c⟩ = ((h.toList.isEmpty && (p == 0 && (t.toList.isEmpty && (!b && c == 0)))) && (tokenB n && valueB v))) := by
    unfold Hid mayF noneF
    simp only [← tl_emp]
    rfl
  have C1 := fun W => hide (rtoken_f n W ok.name)
  have C2 := fun W => hide (rvalue_f v W ok.val)
  generalize tokenB n = x1 at *
  generalize valueB v = x2 at *
  clear ok
  generalize mayF ⟨1, n, v, h, p, t, b, c⟩ = r at *
  have m2 : ∀ q : GB (w.alloc (.cells #[.int .i64 1, .string n, .string v, .string h, .int .i64 p, .string t, .bool b, .int .i64 c] 26)), q.W.cell? ⟨w.heap.size, 2, none⟩ = some (.string v) := fun q => (EF_at (boxF (f := ⟨1, n, v, h, p, t, b, c⟩) q.h)).2.2.1
  rcases none_cases h p t b c with h1 | ⟨h1, h2⟩ | ⟨h1, rfl, h3⟩ | ⟨h1, rfl, h3, rfl⟩ | ⟨h1, rfl, h3, rfl, h5⟩ | ⟨h1, rfl, h3, rfl, rfl⟩
  all_goals (try rw [h1] at HR)
  all_goals (try rw [h2] at HR)
  all_goals (try rw [h3] at HR)
  all_goals (try rw [h5] at HR)
  case inr.inr.inr.inr.inr =>
    cases x1
    · go_enter Tryd.func11, Tryd.ntmps11
      go_wp2_with fail
      refine (calls_gb0 ((C1 _).out)).mono ?_
      rintro e x ⟨rfl, q, rfl⟩
      go_wp2_with fail
      go_ret
      exact ⟨ret_bool HR.out.symm, below_box q.h⟩
    · go_enter Tryd.func11, Tryd.ntmps11
      go_wp2_with fail
      refine (calls_gb0 ((C1 _).out)).mono ?_
      rintro e x ⟨rfl, q, rfl⟩
      go_wp2_with fail
      refine (calls_gb ((C2 _).out)).mono ?_
      rintro e x ⟨rfl, q, rfl⟩
      go_wp2_with fail
      go_ret
      exact ⟨ret_bool HR.out.symm, below_box q.h⟩
  all_goals
    go_enter Tryd.func11, Tryd.ntmps11
    go_wp2_with fail
    go_ret
    exact ⟨ret_bool HR.out.symm, (Below.refl _ _).alloc (Nat.le_refl _) _⟩

set_option maxHeartbeats 6400000 in
theorem rmay2 (n v h : ByteArray) (p : Int) (t : ByteArray) (b : Bool) (c : Int) (w : World) (ok : OkFi ⟨2, n, v, h, p, t, b, c⟩) :
    Calls Tryd.prog 11 #[fV ⟨2, n, v, h, p, t, b, c⟩] w fun e w' => e = .returned (.bool (mayF ⟨2, n, v, h, p, t, b, c⟩)) ∧ Below w.heap.size w w' := by
  have HR : Hid (mayF ⟨2, n, v, h, p, t, b, c⟩ = ((h.toList.isEmpty && (p == 0 && (t.toList.isEmpty && (!b && c == 0)))) && (tokenB n && valueB v))) := by
    unfold Hid mayF noneF
    simp only [← tl_emp]
    rfl
  have C1 := fun W => hide (rtoken_f n W ok.name)
  have C2 := fun W => hide (rvalue_f v W ok.val)
  generalize tokenB n = x1 at *
  generalize valueB v = x2 at *
  clear ok
  generalize mayF ⟨2, n, v, h, p, t, b, c⟩ = r at *
  have m2 : ∀ q : GB (w.alloc (.cells #[.int .i64 2, .string n, .string v, .string h, .int .i64 p, .string t, .bool b, .int .i64 c] 26)), q.W.cell? ⟨w.heap.size, 2, none⟩ = some (.string v) := fun q => (EF_at (boxF (f := ⟨2, n, v, h, p, t, b, c⟩) q.h)).2.2.1
  rcases none_cases h p t b c with h1 | ⟨h1, h2⟩ | ⟨h1, rfl, h3⟩ | ⟨h1, rfl, h3, rfl⟩ | ⟨h1, rfl, h3, rfl, h5⟩ | ⟨h1, rfl, h3, rfl, rfl⟩
  all_goals (try rw [h1] at HR)
  all_goals (try rw [h2] at HR)
  all_goals (try rw [h3] at HR)
  all_goals (try rw [h5] at HR)
  case inr.inr.inr.inr.inr =>
    cases x1
    · go_enter Tryd.func11, Tryd.ntmps11
      go_wp2_with fail
      refine (calls_gb0 ((C1 _).out)).mono ?_
      rintro e x ⟨rfl, q, rfl⟩
      go_wp2_with fail
      go_ret
      exact ⟨ret_bool HR.out.symm, below_box q.h⟩
    · go_enter Tryd.func11, Tryd.ntmps11
      go_wp2_with fail
      refine (calls_gb0 ((C1 _).out)).mono ?_
      rintro e x ⟨rfl, q, rfl⟩
      go_wp2_with fail
      refine (calls_gb ((C2 _).out)).mono ?_
      rintro e x ⟨rfl, q, rfl⟩
      go_wp2_with fail
      go_ret
      exact ⟨ret_bool HR.out.symm, below_box q.h⟩
  all_goals
    go_enter Tryd.func11, Tryd.ntmps11
    go_wp2_with fail
    go_ret
    exact ⟨ret_bool HR.out.symm, (Below.refl _ _).alloc (Nat.le_refl _) _⟩

set_option maxHeartbeats 6400000 in
theorem rmay3 (n v h : ByteArray) (p : Int) (t : ByteArray) (b : Bool) (c : Int) (w : World) (ok : OkFi ⟨3, n, v, h, p, t, b, c⟩) :
    Calls Tryd.prog 11 #[fV ⟨3, n, v, h, p, t, b, c⟩] w fun e w' => e = .returned (.bool (mayF ⟨3, n, v, h, p, t, b, c⟩)) ∧ Below w.heap.size w w' := by
  have HR : Hid (mayF ⟨3, n, v, h, p, t, b, c⟩ = ((h.toList.isEmpty && (p == 0 && (t.toList.isEmpty && (!b && c == 0)))) && (tokenB n && v.toList.isEmpty))) := by
    unfold Hid mayF noneF
    simp only [← tl_emp]
    rfl
  have C1 := fun W => hide (rtoken_f n W ok.name)
  generalize tokenB n = x1 at *
  clear ok
  generalize mayF ⟨3, n, v, h, p, t, b, c⟩ = r at *
  have m2 : ∀ q : GB (w.alloc (.cells #[.int .i64 3, .string n, .string v, .string h, .int .i64 p, .string t, .bool b, .int .i64 c] 26)), q.W.cell? ⟨w.heap.size, 2, none⟩ = some (.string v) := fun q => (EF_at (boxF (f := ⟨3, n, v, h, p, t, b, c⟩) q.h)).2.2.1
  rcases none_cases h p t b c with h1 | ⟨h1, h2⟩ | ⟨h1, rfl, h3⟩ | ⟨h1, rfl, h3, rfl⟩ | ⟨h1, rfl, h3, rfl, h5⟩ | ⟨h1, rfl, h3, rfl, rfl⟩
  all_goals (try rw [h1] at HR)
  all_goals (try rw [h2] at HR)
  all_goals (try rw [h3] at HR)
  all_goals (try rw [h5] at HR)
  case inr.inr.inr.inr.inr =>
    cases x1
    · go_enter Tryd.func11, Tryd.ntmps11
      go_wp2_with fail
      refine (calls_gb0 ((C1 _).out)).mono ?_
      rintro e x ⟨rfl, q, rfl⟩
      go_wp2_with fail
      go_ret
      exact ⟨ret_bool HR.out.symm, below_box q.h⟩
    · go_enter Tryd.func11, Tryd.ntmps11
      go_wp2_with fail
      refine (calls_gb0 ((C1 _).out)).mono ?_
      rintro e x ⟨rfl, q, rfl⟩
      go_wp2_with fail
      go_ret
      exact ⟨ret_bool HR.out.symm, below_box q.h⟩
  all_goals
    go_enter Tryd.func11, Tryd.ntmps11
    go_wp2_with fail
    go_ret
    exact ⟨ret_bool HR.out.symm, (Below.refl _ _).alloc (Nat.le_refl _) _⟩

set_option maxHeartbeats 1600000 in
theorem rmay0 (k : Int) (n v h : ByteArray) (p : Int) (t : ByteArray) (b : Bool) (c : Int) (w : World) (h1' : (k == 1) = false) (h2' : (k == 2) = false) (h3' : (k == 3) = false) (h4' : (k == 4) = false) (h5' : (k == 5) = false) :
    Calls Tryd.prog 11 #[fV ⟨k, n, v, h, p, t, b, c⟩] w fun e w' => e = .returned (.bool (mayF ⟨k, n, v, h, p, t, b, c⟩)) ∧ Below w.heap.size w w' := by
  have HR : Hid (mayF ⟨k, n, v, h, p, t, b, c⟩ = false) := by
    simp only [beq_eq_false_iff_ne] at h1' h2' h3' h4' h5'
    unfold Hid mayF
    rw [if_neg (by dsimp only; omega), if_neg h3', if_neg h4', if_neg h5']
  generalize mayF ⟨k, n, v, h, p, t, b, c⟩ = r at *
  rcases none_cases h p t b c with h1 | ⟨h1, h2⟩ | ⟨h1, rfl, h3⟩ | ⟨h1, rfl, h3, rfl⟩ | ⟨h1, rfl, h3, rfl, h5⟩ | ⟨h1, rfl, h3, rfl, rfl⟩
  all_goals
    go_enter Tryd.func11, Tryd.ntmps11
    go_wp2_with fail
    go_ret
    exact ⟨ret_bool HR.out.symm, (Below.refl _ _).alloc (Nat.le_refl _) _⟩

end Go.Proofs.YtfoabpkiaihkiaaDoor
