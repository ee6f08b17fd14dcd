/-
  The document's May of a filter that sends a request elsewhere.
-/
import Derived.Test.YtfoabpkiaihkiaaDoorJ1
namespace Go.Proofs.YtfoabpkiaihkiaaDoor
set_option maxRecDepth 20000
open Go Go.RowKit Go.Shelf Fi

set_option maxHeartbeats 6400000 in
theorem rmay4 (n v h : ByteArray) (p : Int) (t : ByteArray) (b : Bool) (c : Int) (w : World) (ok : OkFi ⟨4, n, v, h, p, t, b, c⟩) :
    Calls Tryd.prog 11 #[fV ⟨4, n, v, h, p, t, b, c⟩] w fun e w' => e = .returned (.bool (mayF ⟨4, n, v, h, p, t, b, c⟩)) ∧ Below w.heap.size w w' := by
  have HR : Hid (mayF ⟨4, n, v, h, p, t, b, c⟩ = (n.toList.isEmpty && (v.toList.isEmpty && (turnF ⟨4, n, v, h, p, t, b, c⟩ && (decide (0 ≤ p ∧ p ≤ 65535) && (c == 301 || c == 302)))))) := by
    unfold Hid mayF noneF
    simp only [← tl_emp]
    rfl
  have C3 := fun W => hide (turns_any ⟨4, n, v, h, p, t, b, c⟩ W ok)
  generalize turnF ⟨4, n, v, h, p, t, b, c⟩ = x3 at *
  clear ok
  generalize mayF ⟨4, n, v, h, p, t, b, c⟩ = r at *
  have m4 : ∀ q : GB (w.alloc (.cells #[.int .i64 4, .string n, .string v, .string h, .int .i64 p, .string t, .bool b, .int .i64 c] 26)), q.W.cell? ⟨w.heap.size, 4, none⟩ = some (.int .i64 p) := fun q => (EF_at (boxF (f := ⟨4, n, v, h, p, t, b, c⟩) q.h)).2.2.2.2.1
  have m7 : ∀ q : GB (w.alloc (.cells #[.int .i64 4, .string n, .string v, .string h, .int .i64 p, .string t, .bool b, .int .i64 c] 26)), q.W.cell? ⟨w.heap.size, 7, none⟩ = some (.int .i64 c) := fun q => (EF_at (boxF (f := ⟨4, n, v, h, p, t, b, c⟩) q.h)).2.2.2.2.2.2.2
  cases hn : n.toList.isEmpty
  · rw [hn] at HR
    rcases none_cases h p t b c with h1 | ⟨h1, h2⟩ | ⟨h1, rfl, h3⟩ | ⟨h1, rfl, h3, rfl⟩ | ⟨h1, rfl, h3, rfl, h5⟩ | ⟨h1, rfl, h3, rfl, rfl⟩
    all_goals (try exact absurd hp (by decide))
    all_goals (try exact absurd hc (by decide))
    all_goals (try exact absurd h301 (by decide))
    all_goals (try exact absurd (by decide) hp0)
    all_goals (try exact absurd (by decide) hp1)
    all_goals
      go_enter Tryd.func11, Tryd.ntmps11
      go_wp2_with fail
      go_ret
      exact ⟨ret_bool HR.out.symm, (Below.refl _ _).alloc (Nat.le_refl _) _⟩
  cases hv : v.toList.isEmpty
  · rw [hn, hv] at HR
    rcases none_cases h p t b c with h1 | ⟨h1, h2⟩ | ⟨h1, rfl, h3⟩ | ⟨h1, rfl, h3, rfl⟩ | ⟨h1, rfl, h3, rfl, h5⟩ | ⟨h1, rfl, h3, rfl, rfl⟩
    all_goals (try exact absurd hp (by decide))
    all_goals (try exact absurd hc (by decide))
    all_goals (try exact absurd h301 (by decide))
    all_goals (try exact absurd (by decide) hp0)
    all_goals (try exact absurd (by decide) hp1)
    all_goals
      go_enter Tryd.func11, Tryd.ntmps11
      go_wp2_with fail
      go_ret
      exact ⟨ret_bool HR.out.symm, (Below.refl _ _).alloc (Nat.le_refl _) _⟩
  rw [hn, hv] at HR
  cases x3
  · rcases none_cases h p t b c with h1 | ⟨h1, h2⟩ | ⟨h1, rfl, h3⟩ | ⟨h1, rfl, h3, rfl⟩ | ⟨h1, rfl, h3, rfl, h5⟩ | ⟨h1, rfl, h3, rfl, rfl⟩
    all_goals (try exact absurd hp (by decide))
    all_goals (try exact absurd hc (by decide))
    all_goals (try exact absurd h301 (by decide))
    all_goals (try exact absurd (by decide) hp0)
    all_goals (try exact absurd (by decide) hp1)
    all_goals
      go_enter Tryd.func11, Tryd.ntmps11
      go_wp2_with fail
      refine (calls_gb0 ((C3 _).out)).mono ?_
      rintro e x ⟨rfl, q, rfl⟩
      go_wp2_with fail
      go_ret
      exact ⟨ret_bool HR.out.symm, below_box q.h⟩
  by_cases hp0 : 0 ≤ p
  · by_cases hp1 : p ≤ 65535
    · rw [decide_eq_true (show 0 ≤ p ∧ p ≤ 65535 from ⟨hp0, hp1⟩)] at HR
      cases h301 : (c == 301)
      · rw [h301] at HR
        rcases none_cases h p t b c with h1 | ⟨h1, h2⟩ | ⟨h1, rfl, h3⟩ | ⟨h1, rfl, h3, rfl⟩ | ⟨h1, rfl, h3, rfl, h5⟩ | ⟨h1, rfl, h3, rfl, rfl⟩
        all_goals (try exact absurd hp (by decide))
        all_goals (try exact absurd hc (by decide))
        all_goals (try exact absurd h301 (by decide))
        all_goals (try exact absurd (by decide) hp0)
        all_goals (try exact absurd (by decide) hp1)
        all_goals
          go_enter Tryd.func11, Tryd.ntmps11
          go_wp2_with fail
          refine (calls_gb0 ((C3 _).out)).mono ?_
          rintro e x ⟨rfl, q, rfl⟩
          go_wp2_with fail
          go_ret
          exact ⟨ret_bool HR.out.symm, below_box q.h⟩
      · rw [h301] at HR
        rcases none_cases h p t b c with h1 | ⟨h1, h2⟩ | ⟨h1, rfl, h3⟩ | ⟨h1, rfl, h3, rfl⟩ | ⟨h1, rfl, h3, rfl, h5⟩ | ⟨h1, rfl, h3, rfl, rfl⟩
        all_goals (try exact absurd hp (by decide))
        all_goals (try exact absurd hc (by decide))
        all_goals (try exact absurd h301 (by decide))
        all_goals (try exact absurd (by decide) hp0)
        all_goals (try exact absurd (by decide) hp1)
        all_goals
          go_enter Tryd.func11, Tryd.ntmps11
          go_wp2_with fail
          refine (calls_gb0 ((C3 _).out)).mono ?_
          rintro e x ⟨rfl, q, rfl⟩
          go_wp2_with fail
          go_ret
          exact ⟨ret_bool HR.out.symm, below_box q.h⟩
    · rw [decide_eq_false (show ¬ (0 ≤ p ∧ p ≤ 65535) by omega)] at HR
      rcases none_cases h p t b c with h1 | ⟨h1, h2⟩ | ⟨h1, rfl, h3⟩ | ⟨h1, rfl, h3, rfl⟩ | ⟨h1, rfl, h3, rfl, h5⟩ | ⟨h1, rfl, h3, rfl, rfl⟩
      all_goals (try exact absurd hp (by decide))
      all_goals (try exact absurd hc (by decide))
      all_goals (try exact absurd h301 (by decide))
      all_goals (try exact absurd (by decide) hp0)
      all_goals (try exact absurd (by decide) hp1)
      all_goals
        go_enter Tryd.func11, Tryd.ntmps11
        go_wp2_with fail
        refine (calls_gb0 ((C3 _).out)).mono ?_
        rintro e x ⟨rfl, q, rfl⟩
        go_wp2_with fail
        go_ret
        exact ⟨ret_bool HR.out.symm, below_box q.h⟩
  · rw [decide_eq_false (show ¬ (0 ≤ p ∧ p ≤ 65535) by omega)] at HR
    have hp1 : ¬ (0 : Int) ≤ p := hp0
    rcases none_cases h p t b c with h1 | ⟨h1, h2⟩ | ⟨h1, rfl, h3⟩ | ⟨h1, rfl, h3, rfl⟩ | ⟨h1, rfl, h3, rfl, h5⟩ | ⟨h1, rfl, h3, rfl, rfl⟩
    all_goals (try exact absurd hp (by decide))
    all_goals (try exact absurd hc (by decide))
    all_goals (try exact absurd h301 (by decide))
    all_goals (try exact absurd (by decide) hp0)
    all_goals (try exact absurd (by decide) hp1)
    all_goals
      go_enter Tryd.func11, Tryd.ntmps11
      go_wp2_with fail
      refine (calls_gb0 ((C3 _).out)).mono ?_
      rintro e x ⟨rfl, q, rfl⟩
      go_wp2_with fail
      go_ret
      exact ⟨ret_bool HR.out.symm, below_box q.h⟩

end Go.Proofs.YtfoabpkiaihkiaaDoor
