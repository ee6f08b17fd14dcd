/-
  The law RuleOwn.
-/
import Derived.Test.YtppnkfjdgalgbaaRuArg
import Derived.Test.YtppnkfjdgalgbaaRuLawB
namespace Go.Proofs.Ytppnkfjdgalgbaa
open Go Go.RowKit Go.Shelf

attribute [local go_sem] gb_const

set_option maxHeartbeats 1600000 in
theorem own_law (v : Value) (w : World) (h : ArgM w v) :
    Calls Try.prog 8 #[v] w fun e w' => e = .returned (.bool true) ∧ Below w.heap.size w w' := by
  obtain ⟨y, rfl, hat, raw⟩ := h
  have CF := hide (mfew_any y.m y.vh y.vq (w.alloc (.cells #[.int .i64 y.m.kind, .string y.m.val, .string y.m.meth, y.vh, y.vq] 26)) raw (hat.below ((Below.refl _ _).alloc (Nat.le_refl _) _)).1 (hat.below ((Below.refl _ _).alloc (Nat.le_refl _) _)).2)
  go_enter Try.func8, Try.ntmps8
  go_wp2_with fail
  refine CF.out.mono ?_
  rintro e w1 ⟨x, rfl, hx, own, hb1⟩
  have okx : OkM x.m := by rw [hx]; exact fewM_ok _
  clear hx CF raw hat
  have hz := box_block hb1
  obtain ⟨z0, z1, z2, z3, z4⟩ := cell5 hz
  have lz := live5 hz
  go_wp2_with fail
  have s1 := set5_at (a' := .int .i64 x.m.kind) (b' := .string x.m.val) (c' := .string x.m.meth) (d' := x.vh) (e' := x.vq) hz
  have S1 := set5_below (a := .int .i64 x.m.kind) (b := .string x.m.val) (c := .string x.m.meth) (d := x.vh) (e := x.vq) (below_box hb1) (Nat.le_refl _)
  have O1 := own.set5 (a := .int .i64 x.m.kind) (b := .string x.m.val) (c := .string x.m.meth) (d := x.vh) (e := x.vq) hz (by decide)
  change Code.wp _ _ _ _ ((set5 w1 w.heap.size (.int .i64 x.m.kind) (.string x.m.val) (.string x.m.meth) x.vh x.vq).alloc (.cells #[.string x.m.meth, .string ⟨#[]⟩, .string x.m.val, x.vq, x.vh] 28))
  have hsz := set5_size (W := w1) (n := w.heap.size) (a := .int .i64 x.m.kind) (b := .string x.m.val) (c := .string x.m.meth) (d := x.vh) (e := x.vq)
  generalize set5 w1 w.heap.size (.int .i64 x.m.kind) (.string x.m.val) (.string x.m.meth) x.vh x.vq = W1 at *
  clear hz z0 z1 z2 z3 z4 lz own hb1
  have S2 := S1.alloc S1.size (.cells #[.string x.m.meth, .string ⟨#[]⟩, .string x.m.val, x.vq, x.vh] 28)
  have A1 := O1.at_
  have okr : OkR (ownR x.m) := ⟨okx.meth, by show (⟨#[]⟩ : ByteArray).size ≤ 100; decide, okx.val, okx.qlen, okx.hlen, okx.query, okx.head⟩
  have bw := fun q : GB (W1.alloc (.cells #[.string x.m.meth, .string ⟨#[]⟩, .string x.m.val, x.vq, x.vh] 28)) => bb2 ((Below.refl W1.heap.size W1).alloc (Nat.le_refl _) _) q.h
  have CH : ∀ q : GB (W1.alloc (.cells #[.string x.m.meth, .string ⟨#[]⟩, .string x.m.val, x.vq, x.vh] 28)), Hid (Calls Try.prog 15 #[mV x.m x.vh x.vq, .agg #[.string x.m.meth, .string ⟨#[]⟩, .string x.m.val, x.vq, x.vh]] q.W fun e w' => e = .returned (.bool (holdM x.m (ownR x.m))) ∧ Below q.W.heap.size q.W w') := fun q => holds_m x.m x.vh x.vq (ownR x.m) x.vq x.vh q.W (A1.below (bw q)).1 (A1.below (bw q)).2 okx (A1.below (bw q)).2 (A1.below (bw q)).1 okr
  have CM := fun q : GB (W1.alloc (.cells #[.string x.m.meth, .string ⟨#[]⟩, .string x.m.val, x.vq, x.vh] 28)) => hide (may_m x.m x.vh x.vq q.W (A1.below (bw q)).1 (A1.below (bw q)).2 okx)
  simp only [hold_own] at CH
  have b0 := fun q : GB (W1.alloc (.cells #[.string x.m.meth, .string ⟨#[]⟩, .string x.m.val, x.vq, x.vh] 28)) => (cell5 ((q.h.block _ (by have := blk_lt5 s1; simp; omega)).trans ((Below.heap_alloc _ _ _ (blk_lt5 s1)).trans s1))).1
  have b1 := fun q : GB (W1.alloc (.cells #[.string x.m.meth, .string ⟨#[]⟩, .string x.m.val, x.vq, x.vh] 28)) => (cell5 ((q.h.block _ (by have := blk_lt5 s1; simp; omega)).trans ((Below.heap_alloc _ _ _ (blk_lt5 s1)).trans s1))).2.1
  have b2 := fun q : GB (W1.alloc (.cells #[.string x.m.meth, .string ⟨#[]⟩, .string x.m.val, x.vq, x.vh] 28)) => (cell5 ((q.h.block _ (by have := blk_lt5 s1; simp; omega)).trans ((Below.heap_alloc _ _ _ (blk_lt5 s1)).trans s1))).2.2.1
  have b3 := fun q : GB (W1.alloc (.cells #[.string x.m.meth, .string ⟨#[]⟩, .string x.m.val, x.vq, x.vh] 28)) => (cell5 ((q.h.block _ (by have := blk_lt5 s1; simp; omega)).trans ((Below.heap_alloc _ _ _ (blk_lt5 s1)).trans s1))).2.2.2.1
  have b4 := fun q : GB (W1.alloc (.cells #[.string x.m.meth, .string ⟨#[]⟩, .string x.m.val, x.vq, x.vh] 28)) => (cell5 ((q.h.block _ (by have := blk_lt5 s1; simp; omega)).trans ((Below.heap_alloc _ _ _ (blk_lt5 s1)).trans s1))).2.2.2.2
  have r0 := fun q : GB (W1.alloc (.cells #[.string x.m.meth, .string ⟨#[]⟩, .string x.m.val, x.vq, x.vh] 28)) => (box5n hsz q.h).1
  have r1 := fun q : GB (W1.alloc (.cells #[.string x.m.meth, .string ⟨#[]⟩, .string x.m.val, x.vq, x.vh] 28)) => (box5n hsz q.h).2.1
  have r2 := fun q : GB (W1.alloc (.cells #[.string x.m.meth, .string ⟨#[]⟩, .string x.m.val, x.vq, x.vh] 28)) => (box5n hsz q.h).2.2.1
  have r3 := fun q : GB (W1.alloc (.cells #[.string x.m.meth, .string ⟨#[]⟩, .string x.m.val, x.vq, x.vh] 28)) => (box5n hsz q.h).2.2.2.1
  have r4 := fun q : GB (W1.alloc (.cells #[.string x.m.meth, .string ⟨#[]⟩, .string x.m.val, x.vq, x.vh] 28)) => (box5n hsz q.h).2.2.2.2
  generalize mayM x.m = my at *
  refine wp_region_below (by kernel_rfl) (by kernel_rfl) ?_
  repeat (first | go_big_quiet_step ((first | (go_at_call 15; exact calls_gb (CH _).out) | (go_at_call 13; exact calls_gb (CM _).out) | (go_at_call 19; exact calls_gb (ruawake_any _)))) | quiet_step ((first | (go_at_call 15; exact calls_gb (CH _).out) | (go_at_call 13; exact calls_gb (CM _).out) | (go_at_call 19; exact calls_gb (ruawake_any _)))))
  refine wpQuiet_nil ?_
  intro _ hw'
  obtain ⟨qq, hw2⟩ := hw'
  subst hw2
  have hq := bb2 S2 qq.h
  go_wp2_with fail
  go_ret
  exact ⟨rfl, hq⟩

end Go.Proofs.Ytppnkfjdgalgbaa
