/-
  awake: the chapter's examples.
-/
import Derived.Test.YtfoabpkiaihkiaaDoorFiWalkE
namespace Go.Proofs.YtfoabpkiaihkiaaDoor
set_option maxRecDepth 20000
open Go Go.RowKit Go.Shelf Fi

theorem ex1 : doF [⟨1, ⟨#[120]⟩, ⟨#[49]⟩, ⟨#[]⟩, 0, ⟨#[]⟩, false, 0⟩] 2 ⟨#[47, 97]⟩ ⟨⟨#[]⟩, ⟨#[]⟩, ⟨#[47, 97]⟩, [], []⟩ = (⟨⟨#[]⟩, ⟨#[]⟩, ⟨#[47, 97]⟩, [], [(⟨#[120]⟩, ⟨#[49]⟩)]⟩, 0) := by kernel_rfl
theorem ex2 : doF [⟨5, ⟨#[]⟩, ⟨#[]⟩, ⟨#[]⟩, 0, ⟨#[47, 120]⟩, false, 0⟩] 2 ⟨#[47, 97]⟩ ⟨⟨#[]⟩, ⟨#[]⟩, ⟨#[47, 97, 47, 98]⟩, [], []⟩ = (⟨⟨#[]⟩, ⟨#[]⟩, ⟨#[47, 120, 47, 98]⟩, [], []⟩, 0) := by kernel_rfl
theorem ex3 : awayF [⟨4, ⟨#[]⟩, ⟨#[]⟩, ⟨#[98, 46, 116, 101, 115, 116]⟩, 0, ⟨#[]⟩, false, 301⟩] 2 ⟨#[47, 97]⟩ ⟨#[]⟩ ⟨#[47, 97]⟩ true = ((301, ⟨#[104, 116, 116, 112, 115, 58, 47, 47, 98, 46, 116, 101, 115, 116, 47, 97]⟩), 0) := by kernel_rfl
theorem ok1 {f : FB} (h1 : f.name.size ≤ 100) (h2 : f.val.size ≤ 100) (h3 : f.host.size ≤ 100) (h4 : f.path.size ≤ 100) : ∀ g ∈ [f], OkFi g := fun g hg => by
  obtain rfl : g = f := by simpa using hg
  exact ⟨h1, h2, h3, h4⟩
theorem Sl.one {w : World} {g : Nat} {f : FB} (h : w.heap[g]? = some (.cells (fcells f).toArray 26)) : Sl EF w (.slice (some ⟨g, 0, none⟩) 1 1) [f] := Sl.at_block h trivial
theorem at0 (w : World) (t : ByteArray) : RV.at_ ⟨⟨⟨#[]⟩, ⟨#[]⟩, t, [], []⟩, none, 0, none, 0⟩ w := ⟨Prs.nil w, Prs.nil w⟩
theorem okR0 {t : ByteArray} (h : t.size ≤ 100) : OkR ⟨⟨#[]⟩, ⟨#[]⟩, t, [], []⟩ := ⟨(show 0 ≤ 100 by decide), (show 0 ≤ 100 by decide), h, (show 0 ≤ 31 by decide), (show 0 ≤ 31 by decide), fun p hp => (by cases hp), fun p hp => (by cases hp)⟩

set_option maxHeartbeats 3200000 in
theorem fawake_any (w : World) :
    Calls Tryd.prog 14 #[] w fun e w' => e = .returned (.bool true) ∧ Below w.heap.size w w' := by
  have C1 := fun W (h : W.heap[w.heap.size + 1]? = some (.cells #[.int .i64 1, .string ⟨#[120]⟩, .string ⟨#[49]⟩, .string ⟨#[]⟩, .int .i64 0, .string ⟨#[]⟩, .bool false, .int .i64 0] 26)) => hide (do_any (.slice (some ⟨w.heap.size + 1, 0, none⟩) 1 1) [⟨1, ⟨#[120]⟩, ⟨#[49]⟩, ⟨#[]⟩, 0, ⟨#[]⟩, false, 0⟩] 2 ⟨#[47, 97]⟩ ⟨⟨⟨#[]⟩, ⟨#[]⟩, ⟨#[47, 97]⟩, [], []⟩, none, 0, none, 0⟩ W (Sl.one h) (ok1 (by decide) (by decide) (by decide) (by decide)) (by decide) (at0 _ _) (okR0 (by decide)))
  have C2 := fun W (g : Nat) (h : W.heap[g]? = some (.cells #[.int .i64 5, .string ⟨#[]⟩, .string ⟨#[]⟩, .string ⟨#[]⟩, .int .i64 0, .string ⟨#[47, 120]⟩, .bool false, .int .i64 0] 26)) => hide (do_any (.slice (some ⟨g, 0, none⟩) 1 1) [⟨5, ⟨#[]⟩, ⟨#[]⟩, ⟨#[]⟩, 0, ⟨#[47, 120]⟩, false, 0⟩] 2 ⟨#[47, 97]⟩ ⟨⟨⟨#[]⟩, ⟨#[]⟩, ⟨#[47, 97, 47, 98]⟩, [], []⟩, none, 0, none, 0⟩ W (Sl.one h) (ok1 (by decide) (by decide) (by decide) (by decide)) (by decide) (at0 _ _) (okR0 (by decide)))
  have C3 := fun W (g : Nat) (h : W.heap[g]? = some (.cells #[.int .i64 4, .string ⟨#[]⟩, .string ⟨#[]⟩, .string ⟨#[98, 46, 116, 101, 115, 116]⟩, .int .i64 0, .string ⟨#[]⟩, .bool false, .int .i64 301] 26)) => hide (away_any (.slice (some ⟨g, 0, none⟩) 1 1) [⟨4, ⟨#[]⟩, ⟨#[]⟩, ⟨#[98, 46, 116, 101, 115, 116]⟩, 0, ⟨#[]⟩, false, 301⟩] 2 ⟨#[47, 97]⟩ ⟨⟨⟨#[]⟩, ⟨#[]⟩, ⟨#[47, 97]⟩, [], []⟩, none, 0, none, 0⟩ true W (Sl.one h) (ok1 (by decide) (by decide) (by decide) (by decide)) (by decide) (by decide) (by decide) (fun f hf _ _ hn => by
    obtain rfl : f = ⟨4, ⟨#[]⟩, ⟨#[]⟩, ⟨#[98, 46, 116, 101, 115, 116]⟩, 0, ⟨#[]⟩, false, 301⟩ := by simpa using hf
    exact absurd rfl hn.1))
  dsimp only at C1 C2 C3
  rw [ex1] at C1
  rw [ex2] at C2
  rw [ex3] at C3
  dsimp only at C1 C2 C3
  have B2 : Below w.heap.size w ((w.alloc (.cells #[.int .i64 2, .string ⟨#[47, 97]⟩] 30)).alloc (.cells #[.int .i64 1, .string ⟨#[120]⟩, .string ⟨#[49]⟩, .string ⟨#[]⟩, .int .i64 0, .string ⟨#[]⟩, .bool false, .int .i64 0] 26)) := ((Below.refl _ _).alloc (Nat.le_refl _) _).alloc (by simp) _
  go_enter Tryd.func14, Tryd.ntmps14
  go_wp2_with fail
  refine (C1 _ (by have := alloc_new (w.alloc (.cells #[.int .i64 2, .string ⟨#[47, 97]⟩] 30)) (.cells #[.int .i64 1, .string ⟨#[120]⟩, .string ⟨#[49]⟩, .string ⟨#[]⟩, .int .i64 0, .string ⟨#[]⟩, .bool false, .int .i64 0] 26); simpa only [World.size_alloc] using this)).out.mono ?_
  rintro e w1 ⟨⟨r1, aq1, cq1, ah1, ch1⟩, rfl, hy1, own1, hb1⟩
  dsimp only at hy1
  subst hy1
  have kp := (bx2 hb1).1
  have B3 := ((Below.refl _ w1).alloc (Nat.le_refl _) (.cells #[.string ⟨#[]⟩, .string ⟨#[]⟩, .string ⟨#[47, 97]⟩, .slice aq1 0 cq1, .slice ah1 1 ch1] 33)).alloc (by simp) (.cells #[.int .i64 5, .string ⟨#[]⟩, .string ⟨#[]⟩, .string ⟨#[]⟩, .int .i64 0, .string ⟨#[47, 120]⟩, .bool false, .int .i64 0] 26)
  have p0 := cellN (blk_below kp B3) (i := 0) rfl
  have p1 := cellN (blk_below kp B3) (i := 1) rfl
  clear C1
  go_wp2_with fail
  refine (C2 _ _ (by have := alloc_new (w1.alloc (.cells #[.string ⟨#[]⟩, .string ⟨#[]⟩, .string ⟨#[47, 97]⟩, .slice aq1 0 cq1, .slice ah1 1 ch1] 33)) (.cells #[.int .i64 5, .string ⟨#[]⟩, .string ⟨#[]⟩, .string ⟨#[]⟩, .int .i64 0, .string ⟨#[47, 120]⟩, .bool false, .int .i64 0] 26); simpa only [World.size_alloc] using this)).out.mono ?_
  rintro e w2 ⟨⟨r2, aq2, cq2, ah2, ch2⟩, rfl, hy2, own2, hb2⟩
  dsimp only at hy2
  subst hy2
  have kp2 := blk_below kp (bb2 B3 hb2)
  have ky1 := (bx2 hb2).1
  have B4 := ((Below.refl _ w2).alloc (Nat.le_refl _) (.cells #[.string ⟨#[]⟩, .string ⟨#[]⟩, .string ⟨#[47, 120, 47, 98]⟩, .slice aq2 0 cq2, .slice ah2 0 ch2] 33)).alloc (by simp) (.cells #[.int .i64 4, .string ⟨#[]⟩, .string ⟨#[]⟩, .string ⟨#[98, 46, 116, 101, 115, 116]⟩, .int .i64 0, .string ⟨#[]⟩, .bool false, .int .i64 301] 26)
  have P0 := cellN (blk_below kp2 B4) (i := 0) rfl
  have P1 := cellN (blk_below kp2 B4) (i := 1) rfl
  clear C2 p0 p1
  go_wp2_with fail
  refine (C3 _ _ (by have := alloc_new (w2.alloc (.cells #[.string ⟨#[]⟩, .string ⟨#[]⟩, .string ⟨#[47, 120, 47, 98]⟩, .slice aq2 0 cq2, .slice ah2 0 ch2] 33)) (.cells #[.int .i64 4, .string ⟨#[]⟩, .string ⟨#[]⟩, .string ⟨#[98, 46, 116, 101, 115, 116]⟩, .int .i64 0, .string ⟨#[]⟩, .bool false, .int .i64 301] 26); simpa only [World.size_alloc] using this)).out.mono ?_
  rintro e w3 ⟨rfl, hb3⟩
  clear C3 P0 P1
  have ky2 := (bx2 hb3).1
  have ky3 := blk_below ky1 (bb2 B4 hb3)
  have own1' := (own1.below (bb2 B3 hb2)).below (bb2 B4 hb3)
  have hh : Prs w3 (.slice ah1 1 ch1) [(⟨#[120]⟩, ⟨#[49]⟩)] := own1'.at_.2
  have BB := hide (bb2 B2 (bb2 hb1 (bb2 B3 (bb2 hb2 (bb2 B4 hb3)))))
  clear own1 own1' own2
  have V1 := (Below.refl _ w3).alloc (Nat.le_refl _) (.cells #[.int .i64 301, .string ⟨#[104, 116, 116, 112, 115, 58, 47, 47, 98, 46, 116, 101, 115, 116, 47, 97]⟩] 50)
  have V2 := V1.alloc (by simp) (.cells #[.string ⟨#[120]⟩, .string ⟨#[49]⟩] 54)
  have a4 := cellN (blk_below ky3 V1) (i := 4) rfl
  have HX : Prs ((w3.alloc (.cells #[.int .i64 301, .string ⟨#[104, 116, 116, 112, 115, 58, 47, 47, 98, 46, 116, 101, 115, 116, 47, 97]⟩] 50)).alloc (.cells #[.string ⟨#[120]⟩, .string ⟨#[49]⟩] 54)) (.slice (some ⟨w3.heap.size + 1, 0, none⟩) 1 1) [(⟨#[120]⟩, ⟨#[49]⟩)] := by
    have := Prs.at1 (w3.alloc (.cells #[.int .i64 301, .string ⟨#[104, 116, 116, 112, 115, 58, 47, 47, 98, 46, 116, 101, 115, 116, 47, 97]⟩] 50)) (w3.heap.size + 1) (by simp) ⟨#[120]⟩ ⟨#[49]⟩
    exact this
  have CP := hide (psame_any ((w3.alloc (.cells #[.int .i64 301, .string ⟨#[104, 116, 116, 112, 115, 58, 47, 47, 98, 46, 116, 101, 115, 116, 47, 97]⟩] 50)).alloc (.cells #[.string ⟨#[120]⟩, .string ⟨#[49]⟩] 54)) (.slice ah1 1 ch1) _ _ _ (hh.below V2) HX)
  rw [decide_eq_true rfl] at CP
  go_wp2_with fail
  refine CP.out.mono ?_
  rintro e w4 ⟨rfl, hb4⟩
  have kc := (bx2 hb4).1
  have kb2 := blk_below ky2 (bb2 V2 hb4)
  have e2 := cellN kb2 (i := 2) rfl
  have g0 := cellN kc (i := 0) rfl
  have g1 := cellN kc (i := 1) rfl
  have B9 := bb2 BB.out (bb2 V2 hb4)
  go_wp2_with fail
  go_ret
  exact ⟨rfl, B9⟩

end Go.Proofs.YtfoabpkiaihkiaaDoor
