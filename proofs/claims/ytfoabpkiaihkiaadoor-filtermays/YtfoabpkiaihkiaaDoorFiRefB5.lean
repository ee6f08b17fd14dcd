/-
  The document's May.
-/
import Derived.Test.YtfoabpkiaihkiaaDoorFiRefB4
namespace Go.Proofs.YtfoabpkiaihkiaaDoor
set_option maxRecDepth 20000
open Go Go.RowKit Go.Shelf Fi

set_option maxHeartbeats 6400000 in
theorem rmay5 (n v h : ByteArray) (p : Int) (t : ByteArray) (b : Bool) (c : Int) (w : World) (ok : OkFi ⟨5, n, v, h, p, t, b, c⟩) :
    Calls Tryd.prog 11 #[fV ⟨5, n, v, h, p, t, b, c⟩] w fun e w' => e = .returned (.bool (mayF ⟨5, n, v, h, p, t, b, c⟩)) ∧ Below w.heap.size w w' := by
  have HR : Hid (mayF ⟨5, n, v, h, p, t, b, c⟩ = (n.toList.isEmpty && (v.toList.isEmpty && (p == 0 && (c == 0 && (turnF ⟨5, n, v, h, p, t, b, c⟩ && !(h.toList.isEmpty && t.toList.isEmpty))))))) := by
    unfold Hid mayF noneF
    simp only [← tl_emp]
    rfl
  have C3 := fun W => hide (turns_any ⟨5, n, v, h, p, t, b, c⟩ W ok)
  generalize turnF ⟨5, n, v, h, p, t, b, c⟩ = x3 at *
  have hsz : h.size ≤ 100 := ok.host
  have tsz : t.size ≤ 100 := ok.path
  have HA : Hid ((!(h.toList.isEmpty && t.toList.isEmpty)) = (!((h ++ t).toList.isEmpty))) := by
    unfold Hid
    rw [Lib.toList_data, Lib.toList_data, Lib.toList_data, app_data]
    cases h.data.toList <;> cases t.data.toList <;> rfl
  clear ok
  generalize mayF ⟨5, n, v, h, p, t, b, c⟩ = r at *
  have m3 : ∀ q : GB (w.alloc (.cells #[.int .i64 5, .string n, .string v, .string h, .int .i64 p, .string t, .bool b, .int .i64 c] 26)), q.W.cell? ⟨w.heap.size, 3, none⟩ = some (.string h) := fun q => (EF_at (boxF (f := ⟨5, n, v, h, p, t, b, c⟩) q.h)).2.2.2.1
  have m5 : ∀ q : GB (w.alloc (.cells #[.int .i64 5, .string n, .string v, .string h, .int .i64 p, .string t, .bool b, .int .i64 c] 26)), q.W.cell? ⟨w.heap.size, 5, none⟩ = some (.string t) := fun q => (EF_at (boxF (f := ⟨5, n, v, h, p, t, b, c⟩) q.h)).2.2.2.2.2.1
  cases hn : n.toList.isEmpty
  · rw [hn] at HR
    rcases none_cases h p t b c with h1 | ⟨h1, h2⟩ | ⟨h1, rfl, h3⟩ | ⟨h1, rfl, h3, rfl⟩ | ⟨h1, rfl, h3, rfl, h5⟩ | ⟨h1, rfl, h3, rfl, rfl⟩
    all_goals (try exact absurd rfl hpe)
    all_goals (try exact absurd rfl hce)
    all_goals (try exact absurd h2 (by decide))
    all_goals (try exact absurd h5 (by decide))
    all_goals
      go_enter Tryd.func11, Tryd.ntmps11
      go_wp2_with fail
      go_ret
      exact ⟨ret_bool HR.out.symm, (Below.refl _ _).alloc (Nat.le_refl _) _⟩
  cases hv : v.toList.isEmpty
  · rw [hn, hv] at HR
    rcases none_cases h p t b c with h1 | ⟨h1, h2⟩ | ⟨h1, rfl, h3⟩ | ⟨h1, rfl, h3, rfl⟩ | ⟨h1, rfl, h3, rfl, h5⟩ | ⟨h1, rfl, h3, rfl, rfl⟩
    all_goals (try exact absurd rfl hpe)
    all_goals (try exact absurd rfl hce)
    all_goals (try exact absurd h2 (by decide))
    all_goals (try exact absurd h5 (by decide))
    all_goals
      go_enter Tryd.func11, Tryd.ntmps11
      go_wp2_with fail
      go_ret
      exact ⟨ret_bool HR.out.symm, (Below.refl _ _).alloc (Nat.le_refl _) _⟩
  by_cases hpe : p = 0
  case neg =>
    have hp : (p == 0) = false := by simpa using hpe
    rw [hn, hv, hp] at HR
    rcases none_cases h p t b c with h1 | ⟨h1, h2⟩ | ⟨h1, rfl, h3⟩ | ⟨h1, rfl, h3, rfl⟩ | ⟨h1, rfl, h3, rfl, h5⟩ | ⟨h1, rfl, h3, rfl, rfl⟩
    all_goals (try exact absurd rfl hpe)
    all_goals (try exact absurd rfl hce)
    all_goals (try exact absurd h2 (by decide))
    all_goals (try exact absurd h5 (by decide))
    all_goals
      go_enter Tryd.func11, Tryd.ntmps11
      go_wp2_with fail
      go_ret
      exact ⟨ret_bool HR.out.symm, (Below.refl _ _).alloc (Nat.le_refl _) _⟩
  subst hpe
  by_cases hce : c = 0
  case neg =>
    have hc : (c == 0) = false := by simpa using hce
    rw [hn, hv, hc] at HR
    rcases none_cases h 0 t b c with h1 | ⟨h1, h2⟩ | ⟨h1, _, h3⟩ | ⟨h1, _, h3, rfl⟩ | ⟨h1, _, h3, rfl, h5⟩ | ⟨h1, _, h3, rfl, rfl⟩
    all_goals (try exact absurd rfl hpe)
    all_goals (try exact absurd rfl hce)
    all_goals (try exact absurd h2 (by decide))
    all_goals (try exact absurd h5 (by decide))
    all_goals
      go_enter Tryd.func11, Tryd.ntmps11
      go_wp2_with fail
      go_ret
      exact ⟨ret_bool HR.out.symm, (Below.refl _ _).alloc (Nat.le_refl _) _⟩
  subst hce
  rw [hn, hv] at HR
  cases x3
  · rcases none_cases h 0 t b 0 with h1 | ⟨h1, h2⟩ | ⟨h1, _, h3⟩ | ⟨h1, _, h3, rfl⟩ | ⟨h1, _, h3, rfl, h5⟩ | ⟨h1, _, h3, rfl, _⟩
    all_goals (try exact absurd rfl hpe)
    all_goals (try exact absurd rfl hce)
    all_goals (try exact absurd h2 (by decide))
    all_goals (try exact absurd h5 (by decide))
    all_goals
      go_enter Tryd.func11, Tryd.ntmps11
      go_wp2_with fail
      refine (calls_gb0 ((C3 _).out)).mono ?_
      rintro e x ⟨rfl, q, rfl⟩
      go_wp2_with fail
      go_ret
      exact ⟨ret_bool HR.out.symm, below_box q.h⟩
  rw [HA.out] at HR
  rcases none_cases h 0 t b 0 with h1 | ⟨h1, h2⟩ | ⟨h1, _, h3⟩ | ⟨h1, _, h3, rfl⟩ | ⟨h1, _, h3, rfl, h5⟩ | ⟨h1, _, h3, rfl, _⟩
  all_goals (try exact absurd rfl hpe)
  all_goals (try exact absurd rfl hce)
  all_goals (try exact absurd h2 (by decide))
  all_goals (try exact absurd h5 (by decide))
  all_goals
    go_enter Tryd.func11, Tryd.ntmps11
    go_wp2_with fail
    refine (calls_gb0 ((C3 _).out)).mono ?_
    rintro e x ⟨rfl, q, rfl⟩
    go_wp2_with fail
    go_ret
    exact ⟨ret_bool HR.out.symm, below_box q.h⟩

theorem rmay_any (f : FB) (w : World) (ok : OkFi f) :
    Calls Tryd.prog 11 #[fV f] w fun e w' => e = .returned (.bool (mayF f)) ∧ Below w.heap.size w w' := by
  obtain ⟨k, n, v, h, p, t, b, c⟩ := f
  cases h1 : (k == 1)
  · cases h2 : (k == 2)
    · cases h3 : (k == 3)
      · cases h4 : (k == 4)
        · cases h5 : (k == 5)
          · exact rmay0 k n v h p t b c w h1 h2 h3 h4 h5
          · obtain rfl : k = 5 := eq_of_beq h5
            exact rmay5 n v h p t b c w ok
        · obtain rfl : k = 4 := eq_of_beq h4
          exact rmay4 n v h p t b c w ok
      · obtain rfl : k = 3 := eq_of_beq h3
        exact rmay3 n v h p t b c w ok
    · obtain rfl : k = 2 := eq_of_beq h2
      exact rmay2 n v h p t b c w ok
  · obtain rfl : k = 1 := eq_of_beq h1
    exact rmay1 n v h p t b c w ok

end Go.Proofs.YtfoabpkiaihkiaaDoor
