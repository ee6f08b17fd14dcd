/-
  The law RuleOrder.
-/
import Derived.Test.YtppnkfjdgalgbaaRuArg
import Derived.Test.YtppnkfjdgalgbaaRuLawB
import Derived.Test.YtppnkfjdgalgbaaRuRefB
namespace Go.Proofs.Ytppnkfjdgalgbaa
open Go Go.RowKit Go.Shelf

attribute [local go_sem] gb_const

set_option maxHeartbeats 6400000 in
theorem order_law (v0 v1 : Value) (w : World) (h0 : ArgL w v0) (h1 : ArgR w v1) :
    Calls Try.prog 4 #[v0, v1] w fun e w' => e = .returned (.bool true) ∧ Below w.heap.size w w' := by
  obtain ⟨l0, hat0, raw0⟩ := h0
  obtain ⟨y1, rfl, hat1, raw1⟩ := h1
  have C0 := fun W (h : Below w.heap.size w W) => hide (some_any v0 l0 W (hat0.below h) raw0)
  have C1 := fun W (h : Below w.heap.size w W) => hide (asked_any y1.r y1.vq y1.vh W raw1 (hat1.below h).1 (hat1.below h).2)
  clear hat0 raw0 hat1 raw1
  obtain ⟨base, hbase⟩ : ∃ z, z = (w.alloc (.cells #[.string y1.r.meth, .string y1.r.host, .string y1.r.path, y1.vq, y1.vh] 28)) := ⟨_, rfl⟩
  have HB : ∀ W, Below base.heap.size base W → W.heap[w.heap.size]? = some (.cells #[.string y1.r.meth, .string y1.r.host, .string y1.r.path, y1.vq, y1.vh] 28) := fun W h => blocks1 (by rw [← hbase]; exact h)
  have B0 : Below w.heap.size w base := by rw [hbase]; exact below1 w
  have hbs : Hid (base.heap.size = w.heap.size + 1) := by unfold Hid; rw [hbase]; simp
  have m10 := fun W h => (cell5 (HB W h)).1
  have m11 := fun W h => (cell5 (HB W h)).2.1
  have m12 := fun W h => (cell5 (HB W h)).2.2.1
  have m13 := fun W h => (cell5 (HB W h)).2.2.2.1
  have m14 := fun W h => (cell5 (HB W h)).2.2.2.2
  have HBH := hide HB
  clear HB
  go_enter Try.func4, Try.ntmps4
  go_wp2_with fail
  rw [← hbase]
  clear hbase
  refine wp_region_G 4 (fun w' => Below base.heap.size base w') (by kernel_rfl) ((Below.refl _ _).drew) ?_
  refine wpG_take (i := 0) 5 (v := v0) rfl (by kernel_rfl) (by kernel_rfl) (by kernel_rfl) (by decide) (by kernel_rfl) (by kernel_rfl) (fun _ _ _ h => h) (Or.inl ⟨by rfl, fun w1 hS => ?_⟩) ?_
  · (try dsimp only at hS)
    go_simp
  simp only [Act.put, List.setIfInBounds_toArray, List.set_cons_zero, List.set_cons_succ]
  refine wpG_take (i := 2) 5 (v := rV y1.r y1.vq y1.vh) rfl (by kernel_rfl) (by kernel_rfl) (by kernel_rfl) (by decide) (by kernel_rfl) (by kernel_rfl) (fun _ _ _ h => h) (Or.inl ⟨by rfl, fun w1 hS => ?_⟩) ?_
  · (try dsimp only at hS)
    go_simp
  simp only [Act.put, List.setIfInBounds_toArray, List.set_cons_zero, List.set_cons_succ]
  clear m10 m11 m12 m13 m14
  refine wpG_ready (rs := [1]) (by kernel_rfl) (by simp) (fun W1 hG1 hS1 i hi => ?_)
  obtain rfl : i = 1 := by simpa using hi
  clear hi
  refine wpOp_step rfl (by rfl) (fun K' hK' => ?_)
  replace hK' := hide hK'
  go_simp
  refine (C0 _ (B0.trans (hS1.mono B0.size))).out.mono ?_
  rintro e z0 ⟨u0, rfl, L0, hx0, row0, own0, hb0⟩
  have hb0B : base.heap.size ≤ W1.heap.size := hS1.size
  have ok0 : ∀ x ∈ L0, OkM x.m := fun x hx => someM_ok _ _ (by rw [← hx0]; exact List.mem_map.2 ⟨x, hx, rfl⟩)
  have len0 : L0.length ≤ 10 := by
    have := someM_len (l0.map MV.m)
    rw [← hx0, List.length_map] at this
    exact this
  clear hx0
  have BK0 := hS1.trans (hb0.mono hS1.size)
  go_wp2_with fail
  refine hK'.out _ _ (wpG_kept (by decide) BK0 ?_)
  clear hK' K' hG1 hb0 BK0
  clear hS1
  obtain ⟨bl0, hbl0⟩ : ∃ z, z = W1.heap.size := ⟨_, rfl⟩
  rw [← hbl0] at row0 hb0B
  clear hbl0
  refine wpG_ready (rs := [3]) (by kernel_rfl) (by simp) (fun W3 hG3 hS3 i hi => ?_)
  obtain rfl : i = 3 := by simpa using hi
  clear hi
  refine wpOp_step rfl (by rfl) (fun K' hK' => ?_)
  replace hK' := hide hK'
  go_simp
  refine (C1 _ (B0.trans (hS3.mono B0.size))).out.mono ?_
  rintro e z1 ⟨x1, rfl, hx1, own1, hb1⟩
  have ok1 : OkR x1.r := by rw [hx1]; exact fewR_ok _
  clear hx1
  replace row0 := ownsRow_below (ownsRow_below row0 hG3) hb1
  replace own0 := fun x hx => ((own0 x hx).below hG3).below hb1
  have BK1 := hS3.trans (hb1.mono hS3.size)
  go_wp2_with fail
  refine hK'.out _ _ (wpG_kept (by decide) BK1 ?_)
  clear hK' K' hG3 hb1 BK1
  clear hS3
  refine wpG_ready (rs := [4]) (by kernel_rfl) (by simp) (fun W hG hS i hi => ?_)
  obtain rfl : i = 4 := by simpa using hi
  clear hi
  have k1 := HBH.out W hS
  replace row0 := ownsRow_below row0 hG
  replace own0 := fun x hx => (own0 x hx).below hG
  replace own1 := own1.below hG
  have BZ := B0.trans (hS.mono B0.size)
  clear hG hS HBH C0 C1
  refine wpOp_step rfl (by rfl) (fun K' hK' => ?_)
  go_simp
  refine hK' _ _ (wpG_past (by decide) ?_)
  clear hK' K'
  refine wpAny_one (i := 5) (by kernel_rfl) ?_
  obtain ⟨f0, f1, f2, f3, f4⟩ := cell5 k1
  have lv := live5 k1
  refine wpOp_step rfl (by rfl) (fun K' hK' => ?_)
  go_simp
  refine hK' _ _ ?_
  clear hK' K'
  clear f0 f1 f2 f3 f4 lv
  replace row0 := row_set5b (g := w.heap.size) (a := .string x1.r.meth) (b := .string x1.r.host) (c := .string x1.r.path) (d := x1.vq) (e := x1.vh) row0 (by have := hbs.out; omega)
  replace own0 := fun x hx => (own0 x hx).set5 (a := .string x1.r.meth) (b := .string x1.r.host) (c := .string x1.r.path) (d := x1.vq) (e := x1.vh) k1 (by decide)
  replace own1 := own1.set5 (a := .string x1.r.meth) (b := .string x1.r.host) (c := .string x1.r.path) (d := x1.vq) (e := x1.vh) k1 (by decide)
  replace BZ := set5_below (n := w.heap.size) (a := .string x1.r.meth) (b := .string x1.r.host) (c := .string x1.r.path) (d := x1.vq) (e := x1.vh) BZ (by omega)
  replace k1 := set5_at (a' := .string x1.r.meth) (b' := .string x1.r.host) (c' := .string x1.r.path) (d' := x1.vq) (e' := x1.vh) k1
  change wpAny _ _ _ _ _ _ _ (set5 W (w.heap.size) (.string x1.r.meth) (.string x1.r.host) (.string x1.r.path) x1.vq x1.vh)
  generalize set5 W (w.heap.size) (.string x1.r.meth) (.string x1.r.host) (.string x1.r.path) x1.vq x1.vh = Z1 at *
  refine wpAny_end (by kernel_rfl) ?_
  have mt0 := Mts.of_row rfl row0 (fun x hx => (own0 x hx).at_)
  clear row0 own0
  have at1 := own1.at_
  clear own1
  have c0 := fun q : GB Z1 => (cell5 ((q.h.block _ (blk_lt5 k1)).trans k1)).1
  have c1 := fun q : GB Z1 => (cell5 ((q.h.block _ (blk_lt5 k1)).trans k1)).2.1
  have c2 := fun q : GB Z1 => (cell5 ((q.h.block _ (blk_lt5 k1)).trans k1)).2.2.1
  have c3 := fun q : GB Z1 => (cell5 ((q.h.block _ (blk_lt5 k1)).trans k1)).2.2.2.1
  have c4 := fun q : GB Z1 => (cell5 ((q.h.block _ (blk_lt5 k1)).trans k1)).2.2.2.2
  have E1 := fun q : GB Z1 => hide (first_m u0 L0 x1.r x1.vq x1.vh q.W (mt0.below q.h) ok0 (at1.below q.h).1 (at1.below q.h).2 ok1)
  have E2 := fun q : GB Z1 => hide (rfirst_m u0 L0 x1.r x1.vq x1.vh q.W (mt0.below q.h) ok0 (at1.below q.h).1 (at1.below q.h).2 ok1)
  generalize atI (bestM x1.r (L0.map MV.m)) = ai at *
  generalize (bestM x1.r (L0.map MV.m)).isSome = bi at *
  have HM := hide mt0
  have hlen := mt0.len
  obtain ⟨ad, cap, rfl, _, _, hc⟩ := mt0
  have HC := hide hc
  clear hc k1
  obtain ⟨q, hq⟩ : ∃ q : GB Z1, q.W = Z1 := ⟨⟨Z1, Below.refl _ _⟩, rfl⟩
  rw [← hq]
  clear hq
  go_wp2_with fail
  refine (calls_gb ((E1 _).out)).mono ?_
  rintro e x ⟨rfl, q, rfl⟩
  go_wp2_with fail
  refine (calls_gb ((E2 _).out)).mono ?_
  rintro e x ⟨rfl, q, rfl⟩
  go_wp2_with fail
  clear E1 E2 c0 c1 c2 c3 c4
  obtain ⟨WQ, hWQ⟩ : ∃ z, z = q.W := ⟨_, rfl⟩
  have hBQ := q.h
  rw [← hWQ] at hBQ ⊢
  clear hWQ q
  go_loopw [9] (fun i wr => ∃ k : Nat, i = .int .i64 ((k : Int) + 1) ∧ k ≤ L0.length ∧ Below Z1.heap.size Z1 wr) (fun i _ => L0.length + 1 - (intOf i).toNat)
  case atStart => exact ⟨0, rfl, by omega, hBQ⟩
  case round =>
    clear hBQ WQ
    obtain ⟨k, rfl, hk0, hB⟩ := hrel
    by_cases hlt : k + 1 < L0.length
    · have hlt' : (k : Int) + 1 < (L0.length : Int) := by omega
      have hlt2 : (k : Int) < (L0.length : Int) := by omega
      obtain ⟨hatx, g, off, rfl, hg, F⟩ := HC.out k (by omega)
      obtain ⟨haty, g', off', he', _, G⟩ := HC.out (k + 1) hlt
      injection he' with he'
      injection he' with he1 he2
      subst he1 he2
      have okx := ok0 _ (List.getElem_mem (show k < L0.length by omega))
      have oky := ok0 _ (List.getElem_mem hlt)
      generalize L0[k]'(by omega) = x at *
      generalize L0[k + 1] = y at *
      have D1 := fun q : GB wr => hide (rorder_m x.m y.m x.vh x.vq y.vh y.vq q.W (hatx.below (bb2 hB q.h)).1 (hatx.below (bb2 hB q.h)).2 (haty.below (bb2 hB q.h)).1 (haty.below (bb2 hB q.h)).2 okx.order oky.order)
      have D2 := fun q : GB wr => hide (rrorder_m x.m y.m x.vh x.vq y.vh y.vq q.W (hatx.below (bb2 hB q.h)).1 (hatx.below (bb2 hB q.h)).2 (haty.below (bb2 hB q.h)).1 (haty.below (bb2 hB q.h)).2)
      have D3 := fun q : GB wr => hide (same_m x.m y.m x.vh x.vq y.vh y.vq q.W (hatx.below (bb2 hB q.h)).1 (hatx.below (bb2 hB q.h)).2 (haty.below (bb2 hB q.h)).1 (haty.below (bb2 hB q.h)).2)
      have D4 := fun q : GB wr => hide (rsame_m x.m y.m x.vh x.vq y.vh y.vq q.W (hatx.below (bb2 hB q.h)).1 (hatx.below (bb2 hB q.h)).2 (haty.below (bb2 hB q.h)).1 (haty.below (bb2 hB q.h)).2)
      have D5 := fun q : GB wr => hide (same_m y.m y.m y.vh y.vq y.vh y.vq q.W (haty.below (bb2 hB q.h)).1 (haty.below (bb2 hB q.h)).2 (haty.below (bb2 hB q.h)).1 (haty.below (bb2 hB q.h)).2)
      rw [sameM_refl] at D5
      generalize ordM x.m y.m = od at *
      generalize sameM x.m y.m = sm at *
      have a0 := fun q : GB wr => (F.below hg (bb2 hB q.h)).1
      have a1 := fun q : GB wr => (F.below hg (bb2 hB q.h)).2.1
      have a2 := fun q : GB wr => (F.below hg (bb2 hB q.h)).2.2.1
      have a3 := fun q : GB wr => (F.below hg (bb2 hB q.h)).2.2.2.1
      have a4 := fun q : GB wr => (F.below hg (bb2 hB q.h)).2.2.2.2
      have b0 := fun q : GB wr => (G.below hg (bb2 hB q.h)).1
      have b1 := fun q : GB wr => (G.below hg (bb2 hB q.h)).2.1
      have b2 := fun q : GB wr => (G.below hg (bb2 hB q.h)).2.2.1
      have b3 := fun q : GB wr => (G.below hg (bb2 hB q.h)).2.2.2.1
      have b4 := fun q : GB wr => (G.below hg (bb2 hB q.h)).2.2.2.2
      clear hatx haty okx oky F G HC HM ok0 ok1 at1
      go_wp2_with fail
      refine wp_region_below (by kernel_rfl) (by kernel_rfl) ?_
      repeat (first | go_big_quiet_step ((first | (go_at_call 23; exact calls_gb (D1 _).out) | (go_at_call 24; exact calls_gb (D2 _).out) | (go_at_call 25; first | with_reducible exact calls_gb (D3 _).out | with_reducible exact calls_gb (D5 _).out) | (go_at_call 26; exact calls_gb (D4 _).out))) | quiet_step ((first | (go_at_call 23; exact calls_gb (D1 _).out) | (go_at_call 24; exact calls_gb (D2 _).out) | (go_at_call 25; first | with_reducible exact calls_gb (D3 _).out | with_reducible exact calls_gb (D5 _).out) | (go_at_call 26; exact calls_gb (D4 _).out))))
      refine wpQuiet_nil ?_
      intro _ hw'
      obtain ⟨q, hw2⟩ := hw'
      subst hw2
      go_wp2_with fail
      exact ⟨⟨k + 1, by go_num, by omega, bb2 hB q.h⟩, by simp [intOf]; omega⟩
    · have hlt' : ¬ (k : Int) + 1 < (L0.length : Int) := by omega
      go_wp2_with fail
      refine (ruawake_any _).mono ?_
      rintro e w7 ⟨rfl, hb7⟩
      go_wp2_with fail
      go_ret
      exact ⟨rfl, bb2 (bb2 BZ hB) hb7⟩

end Go.Proofs.Ytppnkfjdgalgbaa
