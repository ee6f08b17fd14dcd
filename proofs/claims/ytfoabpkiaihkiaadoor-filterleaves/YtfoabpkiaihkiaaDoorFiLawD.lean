/-
  FilterLeaves.
-/
import Derived.Test.YtfoabpkiaihkiaaDoorFiArg
import Derived.Test.YtfoabpkiaihkiaaDoorFiCut
import Derived.Test.YtfoabpkiaihkiaaDoorFiSame
import Derived.Test.YtfoabpkiaihkiaaDoorFiLawB
import Derived.Test.YtfoabpkiaihkiaaDoorPbRefA
namespace Go.Proofs.YtfoabpkiaihkiaaDoor
set_option maxRecDepth 20000
open Go Go.RowKit Go.Shelf Fi

theorem psame_yes (w : World) (va vb : Value) (xs ys : List PairB) (ha : Prs w va xs) (hb : Prs w vb ys) (e : xs = ys) :
    Calls Tryd.prog 20 #[va, vb] w fun e w' => e = .returned (.bool true) ∧ Below w.heap.size w w' := by
  have := psame_any w va vb xs ys ha hb
  rwa [decide_eq_true e] at this
theorem same_yes (w : World) (va vb : Value) (xs ys : List ByteArray) (ha : Strs w va xs) (hb : Strs w vb ys) (hl : xs.length ≤ maxLen) (e : xs = ys) :
    Calls Tryd.prog 21 #[va, vb] w fun e w' => e = .returned (.bool true) ∧ Below w.heap.size w w' := by
  have := same_any w va vb xs ys ha hb hl
  rwa [decide_eq_true e] at this
theorem run_okF {k : Int} {v : ByteArray} {l : List FB} {r a : RB} (hf : ∀ f ∈ l, OkFi f) (hr : ∀ p ∈ r.head, okF p) (h : runF k v l r = .ok a) : ∀ p ∈ a.head, okF p :=
  run_keeps (P := fun y => ∀ p ∈ y.head, okF p) l r a hr (fun f hfl x y hx hs => by
    have ok := hf f hfl
    unfold stepF at hs
    split at hs
    · cases hs
      intro p hp
      rcases setQ_mem p hp with rfl | hp
      · exact ⟨ok.name, ok.val⟩
      · exact hx p hp
    · split at hs
      · cases hs
        intro p hp
        rcases List.mem_append.1 hp with hp | hp
        · exact hx p hp
        · obtain rfl : p = (f.name, f.val) := by simpa using hp
          exact ⟨ok.name, ok.val⟩
      · split at hs
        · cases hs
          exact fun p hp => hx p (List.mem_filter.1 hp).1
        · split at hs
          · split at hs
            · cases hs
              exact hx
            · cases hs
          · cases hs
            exact hx) h
theorem len_all (l : List PairB) (n : ByteArray) (h : l.length ≤ 1000) : (allQ l n).length ≤ maxLen := by
  have : (allQ l n).length ≤ l.length := by
    show ((l.filter _).map _).length ≤ _
    rw [List.length_map]
    exact List.length_filter_le _ _
  unfold maxLen
  omega
theorem own_zero {a : RV} (h : a.r = zeroR) : sameR a.r zeroRV.r = true := by rw [h]; exact sameR_self _

set_option maxHeartbeats 1000000 in
theorem leaves_law (v0 : Value) (s1 : ByteArray) (w : World) (h0 : ArgAk w v0) (hs1 : s1.size ≤ maxLen) :
    Calls Tryd.prog 4 #[v0, .string s1] w fun e w' => e = .returned (.bool true) ∧ Below w.heap.size w w' := by
  obtain ⟨vl0, l0, pk, pv0, x0, tls, rfl, hv0, raw0, hpv0, hx0, rawx0⟩ := h0
  have C1 := fun W (h : Below w.heap.size w W) => hide (cut_any vl0 l0 pk pv0 x0 tls W (hv0.below h) raw0 hpv0 (hx0.below h) rawx0)
  have pv100 := fewB_le pv0
  have okL := someF_ok l0
  have lenL := someF_len l0
  have okx := fewR_ok x0.r
  clear hv0 raw0 hpv0 hx0 rawx0
  have B1 : Below w.heap.size w (w.alloc (.cells #[vl0, .int .i64 pk, .string pv0, .string x0.r.meth, .string x0.r.host, .string x0.r.path, .slice x0.aq x0.r.query.length x0.cq, .slice x0.ah x0.r.head.length x0.ch, .bool tls] 35)) := (Below.refl _ _).alloc (Nat.le_refl _) _
  have C2 := fun W => hide (fewB_any s1 W hs1)
  have hnm := fewB_le s1
  generalize fewB s1 = nm at *
  go_enter Tryd.func4, Tryd.ntmps4
  go_wp2_with fail
  refine (C1 _ B1).out.mono ?_
  rintro e w1 ⟨fa, fc, fb, x, rfl, row, hx, own, hb1⟩
  have HX := hide hx
  rw [← hx] at okx
  clear hx C1
  generalize hL : someF l0 = L at *
  generalize hpv : fewB pv0 = pv at *
  clear hL hpv
  have hz : w1.heap[w.heap.size]? = some (.cells #[vl0, .int .i64 pk, .string pv0, .string x0.r.meth, .string x0.r.host, .string x0.r.path, .slice x0.aq x0.r.query.length x0.cq, .slice x0.ah x0.r.head.length x0.ch, .bool tls] 35) := box_block hb1
  have BB := bb2 B1 hb1
  have lz := liveN hz
  obtain ⟨z0, z1, z2, z3, z4, z5, z6, z7, z8⟩ : _ ∧ _ ∧ _ ∧ _ ∧ _ ∧ _ ∧ _ ∧ _ ∧ _ := ⟨cellN hz (i := 0) rfl, cellN hz (i := 1) rfl, cellN hz (i := 2) rfl, cellN hz (i := 3) rfl, cellN hz (i := 4) rfl, cellN hz (i := 5) rfl, cellN hz (i := 6) rfl, cellN hz (i := 7) rfl, cellN hz (i := 8) rfl⟩
  have K2 := hide (show ((((((((((w1.setCell ⟨w.heap.size, 0, none⟩ (.slice fa L.length fc)).setCell ⟨w.heap.size, 1, none⟩ (.int .i64 pk)).setCell ⟨w.heap.size, 2, none⟩ (.string pv)).setCell ⟨w.heap.size, 3, none⟩ (.string x.r.meth)).setCell ⟨w.heap.size, 4, none⟩ (.string x.r.host)).setCell ⟨w.heap.size, 5, none⟩ (.string x.r.path)).setCell ⟨w.heap.size, 6, none⟩ (.slice x.aq x.r.query.length x.cq)).setCell ⟨w.heap.size, 7, none⟩ (.slice x.ah x.r.head.length x.ch)).setCell ⟨w.heap.size, 8, none⟩ (.bool tls))).heap[w.heap.size]? = some (.cells #[.slice fa L.length fc, .int .i64 pk, .string pv, .string x.r.meth, .string x.r.host, .string x.r.path, .slice x.aq x.r.query.length x.cq, .slice x.ah x.r.head.length x.ch, .bool tls] 35) from setL_all [.slice fa L.length fc, .int .i64 pk, .string pv, .string x.r.meth, .string x.r.host, .string x.r.path, .slice x.aq x.r.query.length x.cq, .slice x.ah x.r.head.length x.ch, .bool tls] hz rfl)
  have row2 := hide (row_setL (k := 0) (cs := [.slice fa L.length fc, .int .i64 pk, .string pv, .string x.r.meth, .string x.r.host, .string x.r.path, .slice x.aq x.r.query.length x.cq, .slice x.ah x.r.head.length x.ch, .bool tls]) row hz (by decide))
  have own2 := hide (own.setL (k := 0) (cs := [.slice fa L.length fc, .int .i64 pk, .string pv, .string x.r.meth, .string x.r.host, .string x.r.path, .slice x.aq x.r.query.length x.cq, .slice x.ah x.r.head.length x.ch, .bool tls]) hz (by decide))
  have BB2 := hide (setL_below (w := w) (B := w.heap.size) (g := w.heap.size) (Nat.le_refl _) [.slice fa L.length fc, .int .i64 pk, .string pv, .string x.r.meth, .string x.r.host, .string x.r.path, .slice x.aq x.r.query.length x.cq, .slice x.ah x.r.head.length x.ch, .bool tls] _ 0 BB)
  obtain ⟨d0, d1, d2, d3, d4, d5, d6, d7, d8⟩ : _ ∧ _ ∧ _ ∧ _ ∧ _ ∧ _ ∧ _ ∧ _ ∧ _ := ⟨cellN K2.out (i := 0) rfl, cellN K2.out (i := 1) rfl, cellN K2.out (i := 2) rfl, cellN K2.out (i := 3) rfl, cellN K2.out (i := 4) rfl, cellN K2.out (i := 5) rfl, cellN K2.out (i := 6) rfl, cellN K2.out (i := 7) rfl, cellN K2.out (i := 8) rfl⟩
  clear hz row own BB
  clear B1 hb1
  go_wp2_with fail
  refine (C2 _).out.mono ?_
  rintro e x' ⟨rfl, hx'⟩
  subst x'
  go_wp2_with fail
  have kq : ((((((((((w1.setCell ⟨w.heap.size, 0, none⟩ (.slice fa L.length fc)).setCell ⟨w.heap.size, 1, none⟩ (.int .i64 pk)).setCell ⟨w.heap.size, 2, none⟩ (.string pv)).setCell ⟨w.heap.size, 3, none⟩ (.string x.r.meth)).setCell ⟨w.heap.size, 4, none⟩ (.string x.r.host)).setCell ⟨w.heap.size, 5, none⟩ (.string x.r.path)).setCell ⟨w.heap.size, 6, none⟩ (.slice x.aq x.r.query.length x.cq)).setCell ⟨w.heap.size, 7, none⟩ (.slice x.ah x.r.head.length x.ch)).setCell ⟨w.heap.size, 8, none⟩ (.bool tls))).heap[w.heap.size]? = some (.cells #[.slice fa L.length fc, .int .i64 pk, .string pv, .string x.r.meth, .string x.r.host, .string x.r.path, .slice x.aq x.r.query.length x.cq, .slice x.ah x.r.head.length x.ch, .bool tls] 35) := K2.out
  have rowq : ((((((((((w1.setCell ⟨w.heap.size, 0, none⟩ (.slice fa L.length fc)).setCell ⟨w.heap.size, 1, none⟩ (.int .i64 pk)).setCell ⟨w.heap.size, 2, none⟩ (.string pv)).setCell ⟨w.heap.size, 3, none⟩ (.string x.r.meth)).setCell ⟨w.heap.size, 4, none⟩ (.string x.r.host)).setCell ⟨w.heap.size, 5, none⟩ (.string x.r.path)).setCell ⟨w.heap.size, 6, none⟩ (.slice x.aq x.r.query.length x.cq)).setCell ⟨w.heap.size, 7, none⟩ (.slice x.ah x.r.head.length x.ch)).setCell ⟨w.heap.size, 8, none⟩ (.bool tls))).ownsRow fb 26 8 (.slice fa L.length fc) L.length (EF.flat L) := row2.out
  have ownq : RV.own x ((((((((((w1.setCell ⟨w.heap.size, 0, none⟩ (.slice fa L.length fc)).setCell ⟨w.heap.size, 1, none⟩ (.int .i64 pk)).setCell ⟨w.heap.size, 2, none⟩ (.string pv)).setCell ⟨w.heap.size, 3, none⟩ (.string x.r.meth)).setCell ⟨w.heap.size, 4, none⟩ (.string x.r.host)).setCell ⟨w.heap.size, 5, none⟩ (.string x.r.path)).setCell ⟨w.heap.size, 6, none⟩ (.slice x.aq x.r.query.length x.cq)).setCell ⟨w.heap.size, 7, none⟩ (.slice x.ah x.r.head.length x.ch)).setCell ⟨w.heap.size, 8, none⟩ (.bool tls))) := own2.out
  have BQ : Below w.heap.size w ((((((((((w1.setCell ⟨w.heap.size, 0, none⟩ (.slice fa L.length fc)).setCell ⟨w.heap.size, 1, none⟩ (.int .i64 pk)).setCell ⟨w.heap.size, 2, none⟩ (.string pv)).setCell ⟨w.heap.size, 3, none⟩ (.string x.r.meth)).setCell ⟨w.heap.size, 4, none⟩ (.string x.r.host)).setCell ⟨w.heap.size, 5, none⟩ (.string x.r.path)).setCell ⟨w.heap.size, 6, none⟩ (.slice x.aq x.r.query.length x.cq)).setCell ⟨w.heap.size, 7, none⟩ (.slice x.ah x.r.head.length x.ch)).setCell ⟨w.heap.size, 8, none⟩ (.bool tls))) := BB2.out
  clear K2 row2 own2 BB2 lz z0 z1 z2 z3 z4 z5 z6 z7 z8 d0 d1 d2 d3 d4 d5 d6 d7 d8
  generalize (((((((((w1.setCell ⟨w.heap.size, 0, none⟩ (.slice fa L.length fc)).setCell ⟨w.heap.size, 1, none⟩ (.int .i64 pk)).setCell ⟨w.heap.size, 2, none⟩ (.string pv)).setCell ⟨w.heap.size, 3, none⟩ (.string x.r.meth)).setCell ⟨w.heap.size, 4, none⟩ (.string x.r.host)).setCell ⟨w.heap.size, 5, none⟩ (.string x.r.path)).setCell ⟨w.heap.size, 6, none⟩ (.slice x.aq x.r.query.length x.cq)).setCell ⟨w.heap.size, 7, none⟩ (.slice x.ah x.r.head.length x.ch)).setCell ⟨w.heap.size, 8, none⟩ (.bool tls)) = V at *
  have slq : Sl EF V (.slice fa L.length fc) L := Sl.of_row (E := EF) rfl rowq (fun _ _ => trivial)
  have atq := ownq.at_
  clear rowq ownq
  have CD := hide (do_any (.slice fa L.length fc) L pk pv x V slq okL pv100 atq okx)
  have CN := fun W (h : Below V.heap.size V W) => hide (do_any (.slice none 0 0) [] pk pv x W (Sl.nil W) (fun f hf => by cases hf) pv100 (atq.below h) okx)
  have QC := fun W (h : Below V.heap.size V W) => (show W.cell? ⟨w.heap.size, 0, none⟩ = some (.slice fa L.length fc) ∧ W.cell? ⟨w.heap.size, 1, none⟩ = some (.int .i64 pk) ∧ W.cell? ⟨w.heap.size, 2, none⟩ = some (.string pv) ∧ W.cell? ⟨w.heap.size, 3, none⟩ = some (.string x.r.meth) ∧ W.cell? ⟨w.heap.size, 4, none⟩ = some (.string x.r.host) ∧ W.cell? ⟨w.heap.size, 5, none⟩ = some (.string x.r.path) ∧ W.cell? ⟨w.heap.size, 6, none⟩ = some (.slice x.aq x.r.query.length x.cq) ∧ W.cell? ⟨w.heap.size, 7, none⟩ = some (.slice x.ah x.r.head.length x.ch) ∧ W.cell? ⟨w.heap.size, 8, none⟩ = some (.bool tls) from (blk_below kq h |> fun k => ⟨cellN k (i := 0) rfl, cellN k (i := 1) rfl, cellN k (i := 2) rfl, cellN k (i := 3) rfl, cellN k (i := 4) rfl, cellN k (i := 5) rfl, cellN k (i := 6) rfl, cellN k (i := 7) rfl, cellN k (i := 8) rfl⟩))
  rcases do_cases L pk pv x.r with ⟨er, hdo, her⟩ | ⟨ar, hdo, hall, hhold, hrun, h30⟩
  · rw [hdo] at CD
    dsimp only at CD
    have her' : (er != 0) = true := by rw [bne_iff_ne]; omega
    refine CD.out.mono ?_
    rintro e w2 ⟨a, rfl, ha, owna, hb2⟩
    have CS := hide (sameAsk_any a zeroRV (w2.alloc (.cells #[.string a.r.meth, .string a.r.host, .string a.r.path, .slice a.aq a.r.query.length a.cq, .slice a.ah a.r.head.length a.ch] 33)) (owna.at_.below ((Below.refl _ _).alloc (Nat.le_refl _) _)) (zeroRV_own _).at_)
    rw [own_zero ha] at CS
    have BX := hide (bb2 BQ hb2)
    clear CN QC ha CD
    go_wp2_with fail
    refine CS.out.mono ?_
    rintro e w3 ⟨rfl, hb3⟩
    go_wp2_with fail
    refine (fawake_any _).mono ?_
    rintro e w4 ⟨rfl, hb4⟩
    go_wp2_with fail
    go_ret
    exact ⟨rfl, bb2 BX.out (bb2 (below_box hb3) hb4)⟩
  rw [hdo] at CD
  dsimp only at CD
  have hdn := do_nil (r := x.r) hhold
  rw [hdn] at CN
  refine CD.out.mono ?_
  rintro e w2 ⟨a, rfl, ha, owna, hb2⟩
  have HA := hide ha
  have HOKA : Hid (∀ p ∈ a.r.head, okF p) := by
    show ∀ p ∈ a.r.head, okF p
    rw [ha]
    exact run_okF okL okx.head hrun
  clear ha CD hdn
  obtain ⟨W3, hW3⟩ : ∃ z, z = w2.alloc (.cells #[.string a.r.meth, .string a.r.host, .string a.r.path, .slice a.aq a.r.query.length a.cq, .slice a.ah a.r.head.length a.ch] 33) := ⟨_, rfl⟩
  have ka : W3.heap[w2.heap.size]? = some (.cells #[.string a.r.meth, .string a.r.host, .string a.r.path, .slice a.aq a.r.query.length a.cq, .slice a.ah a.r.head.length a.ch] 33) := by rw [hW3]; exact alloc_new _ _
  have ata : a.at_ W3 := by rw [hW3]; exact owna.at_.below ((Below.refl _ _).alloc (Nat.le_refl _) _)
  have B3 : Below V.heap.size V W3 := by rw [hW3]; exact bb2 hb2 ((Below.refl _ _).alloc (Nat.le_refl _) _)
  have AC := fun W (h : Below W3.heap.size W3 W) => (show W.cell? ⟨w2.heap.size, 0, none⟩ = some (.string a.r.meth) ∧ W.cell? ⟨w2.heap.size, 1, none⟩ = some (.string a.r.host) ∧ W.cell? ⟨w2.heap.size, 2, none⟩ = some (.string a.r.path) ∧ W.cell? ⟨w2.heap.size, 3, none⟩ = some (.slice a.aq a.r.query.length a.cq) ∧ W.cell? ⟨w2.heap.size, 4, none⟩ = some (.slice a.ah a.r.head.length a.ch) from (blk_below ka h |> fun k => ⟨cellN k (i := 0) rfl, cellN k (i := 1) rfl, cellN k (i := 2) rfl, cellN k (i := 3) rfl, cellN k (i := 4) rfl⟩))
  obtain ⟨q0, q1, q2, q3, q4, q5, q6, q7, q8⟩ := QC W3 B3
  have HQC := hide QC
  have HAC := hide AC
  clear QC AC owna hb2 ka
  subst hW3
  go_wp2_with fail
  generalize w2.alloc (.cells #[.string a.r.meth, .string a.r.host, .string a.r.path, .slice a.aq a.r.query.length a.cq, .slice a.ah a.r.head.length a.ch] 33) = W3 at *
  by_cases hbig : 30 < x.r.head.length
  · rw [if_pos hbig] at CN
    dsimp only at CN
    refine (CN W3 B3).out.mono ?_
    rintro e w4 ⟨sm, rfl, hsm, ownsm, hb4⟩
    have hbig' : (30 : Int) < (x.r.head.length : Int) := by omega
    obtain ⟨p0, p1, p2, p3, p4, p5, p6, p7, p8⟩ := HQC.out (w4.alloc (.cells #[.string sm.r.meth, .string sm.r.host, .string sm.r.path, .slice sm.aq sm.r.query.length sm.cq, .slice sm.ah sm.r.head.length sm.ch] 33)) (bb2 B3 (bb2 hb4 ((Below.refl _ _).alloc (Nat.le_refl _) _)))
    have BX := hide (bb2 BQ (bb2 B3 (bb2 hb4 ((Below.refl _ _).alloc (Nat.le_refl _) (.cells #[.string sm.r.meth, .string sm.r.host, .string sm.r.path, .slice sm.aq sm.r.query.length sm.cq, .slice sm.ah sm.r.head.length sm.ch] 33)))))
    clear CN q0 q1 q2 q3 q4 q5 q6 q7 q8 hsm
    go_wp2_with fail
    refine (fawake_any _).mono ?_
    rintro e w5 ⟨rfl, hb5⟩
    go_wp2_with fail
    go_ret
    exact ⟨rfl, bb2 BX.out hb5⟩
  rw [if_neg hbig] at CN
  dsimp only at CN
  refine (CN W3 B3).out.mono ?_
  rintro e w4 ⟨sm, rfl, hsm, ownsm, hb4⟩
  have hbig' : ¬ (30 : Int) < (x.r.head.length : Int) := by omega
  have B5 : Below w4.heap.size w4 (w4.alloc (.cells #[.string sm.r.meth, .string sm.r.host, .string sm.r.path, .slice sm.aq sm.r.query.length sm.cq, .slice sm.ah sm.r.head.length sm.ch] 33)) := (Below.refl _ _).alloc (Nat.le_refl _) _
  have B34 := bb2 hb4 B5
  obtain ⟨p0, p1, p2, p3, p4, p5, p6, p7, p8⟩ := HQC.out (w4.alloc (.cells #[.string sm.r.meth, .string sm.r.host, .string sm.r.path, .slice sm.aq sm.r.query.length sm.cq, .slice sm.ah sm.r.head.length sm.ch] 33)) (bb2 B3 B34)
  have CS := hide (sameAsk_any sm x (w4.alloc (.cells #[.string sm.r.meth, .string sm.r.host, .string sm.r.path, .slice sm.aq sm.r.query.length sm.cq, .slice sm.ah sm.r.head.length sm.ch] 33)) (ownsm.at_.below B5) (atq.below (bb2 B3 B34)))
  rw [show sameR sm.r x.r = true by rw [hsm]; exact sameR_self _] at CS
  clear CN q0 q1 q2 q3 q4 q5 q6 q7 q8 hsm ownsm
  go_wp2_with fail
  refine CS.out.mono ?_
  rintro e w5 ⟨rfl, hb5⟩
  clear CS p0 p1 p2 p3 p4 p5 p6 p7 p8
  have B6 := bb2 B34 hb5
  go_wp2_with fail
  have hlen := slq.len
  obtain ⟨fa', fc', hfe, hcap, hmax, hc⟩ := slq
  injection hfe with hfe1 _ hfe2
  subst hfe1 hfe2
  have HC := hide hc
  clear hc
  have HRUN := hide hrun
  have hmq := run_meth hrun
  rw [← HA.out] at hmq
  have HM1 := hide hmq.1
  have HQQ := hide hmq.2
  clear hmq
  go_loopw [9] (fun i wr => ∃ k : Nat, k ≤ L.length ∧ i = .int .i64 k ∧ Hid (∀ j (hj : j < L.length), j < k → L[j].kind < 4 → sameF L[j].name nm = false) ∧ Below W3.heap.size W3 wr) (fun i _ => L.length - (intOf i).toNat)
  case atStart => exact ⟨0, Nat.zero_le _, rfl, fun _ _ h => absurd h (by omega), B6⟩
  case round =>
    obtain ⟨k, hk, rfl, hno, hB⟩ := hrel
    obtain ⟨q0, q1, q2, q3, q4, q5, q6, q7, q8⟩ := HQC.out wr (bb2 B3 hB)
    obtain ⟨a0, a1, a2, a3, a4⟩ := HAC.out wr hB
    by_cases hlt : k < L.length
    · have hlt' : (k : Int) < (L.length : Int) := by omega
      obtain ⟨_, gg, off, rfl, hgg, hat⟩ := HC.out k hlt
      obtain ⟨c0, c1, _⟩ := EF_at (show EF.At wr gg (off + k * 8) L[k] from fun j u hu => ((bb2 B3 hB).cell (p := ⟨gg, off + k * 8 + j, none⟩) hgg).trans (hat j u hu))
      have okk := okL _ (List.getElem_mem hlt)
      have CE := hide (rprSame_any L[k].name nm wr okk.name hnm)
      have HK : Hid (∀ j (hj : j < L.length), j < k + 1 → j ≠ k → L[j].kind < 4 → sameF L[j].name nm = false) := fun j hj h1 h2 => hno.out j hj (by omega)
      clear hat okk
      by_cases hk4 : L[k].kind < 4
      · cases hs : sameF L[k].name nm
        · have HN : Hid (∀ j (hj : j < L.length), j < k + 1 → L[j].kind < 4 → sameF L[j].name nm = false) := fun j hj h1 h2 => by
            by_cases h3 : j = k
            · subst h3
              exact hs
            · exact HK.out j hj h1 h3 h2
          rw [hs] at CE
          clear hs HK
          generalize L[k].kind = kk at *
          generalize L[k].name = kn at *
          go_wp2_with fail
          refine (CE.out).mono ?_
          rintro e w6 ⟨rfl, hb6⟩
          go_wp2_with fail
          exact ⟨⟨k + 1, by omega, by go_num, HN.out, bb2 hB hb6⟩, by simp [intOf]; omega⟩
        · rw [hs] at CE
          clear hs HK
          generalize L[k].kind = kk at *
          generalize L[k].name = kn at *
          go_wp2_with fail
          refine CE.out.mono ?_
          rintro e w6 ⟨rfl, hb6⟩
          obtain ⟨p0, p1, p2, p3, p4, p5, p6, p7, p8⟩ := HQC.out w6 (bb2 B3 (bb2 hB hb6))
          obtain ⟨t0, t1, t2, t3, t4⟩ := HAC.out w6 (bb2 hB hb6)
          rw [HM1.out] at t0
          go_wp2_with fail
          refine (fawake_any _).mono ?_
          rintro e w7 ⟨rfl, hb7⟩
          go_wp2_with fail
          go_ret
          exact ⟨rfl, bb2 BQ (bb2 B3 (bb2 (bb2 hB hb6) hb7))⟩
      · have HN : Hid (∀ j (hj : j < L.length), j < k + 1 → L[j].kind < 4 → sameF L[j].name nm = false) := fun j hj h1 h2 => by
          by_cases h3 : j = k
          · subst h3
            exact absurd h2 hk4
          · exact HK.out j hj h1 h3 h2
        clear HK
        generalize L[k].kind = kk at *
        generalize L[k].name = kn at *
        go_wp2_with fail
        exact ⟨⟨k + 1, by omega, by go_num, HN.out, hB⟩, by simp [intOf]; omega⟩
    · have hlt' : ¬ (k : Int) < (L.length : Int) := by omega
      have HO : Hid (allQ a.r.head nm = allQ x.r.head nm) := by
        show _ = _
        rw [HA.out]
        exact run_other (fun f hf hf4 => by
          obtain ⟨j, hj, rfl⟩ := List.getElem_of_mem hf
          exact hno.out j hj (by omega) hf4) HRUN.out
      have okax : ∀ p ∈ a.r.head, okF p := HOKA.out
      have hal : a.r.head.length ≤ 1000 := by rw [HA.out]; omega
      have hxl : x.r.head.length ≤ 1000 := by have := okx.hlen; omega
      have atw := ata.below hB
      have atx := atq.below (bb2 B3 hB)
      rw [HM1.out] at a0
      have HRD := fun W (h : Below wr.heap.size wr W) => (show (W.cell? ⟨w2.heap.size, 0, none⟩ = some (.string x.r.meth) ∧ W.cell? ⟨w2.heap.size, 1, none⟩ = some (.string a.r.host) ∧ W.cell? ⟨w2.heap.size, 2, none⟩ = some (.string a.r.path) ∧ W.cell? ⟨w2.heap.size, 3, none⟩ = some (.slice a.aq a.r.query.length a.cq) ∧ W.cell? ⟨w2.heap.size, 4, none⟩ = some (.slice a.ah a.r.head.length a.ch)) ∧ (W.cell? ⟨w.heap.size, 0, none⟩ = some (.slice fa L.length fc) ∧ W.cell? ⟨w.heap.size, 1, none⟩ = some (.int .i64 pk) ∧ W.cell? ⟨w.heap.size, 2, none⟩ = some (.string pv) ∧ W.cell? ⟨w.heap.size, 3, none⟩ = some (.string x.r.meth) ∧ W.cell? ⟨w.heap.size, 4, none⟩ = some (.string x.r.host) ∧ W.cell? ⟨w.heap.size, 5, none⟩ = some (.string x.r.path) ∧ W.cell? ⟨w.heap.size, 6, none⟩ = some (.slice x.aq x.r.query.length x.cq) ∧ W.cell? ⟨w.heap.size, 7, none⟩ = some (.slice x.ah x.r.head.length x.ch) ∧ W.cell? ⟨w.heap.size, 8, none⟩ = some (.bool tls)) from ⟨by have := HAC.out W (bb2 hB h); rw [HM1.out] at this; exact this, HQC.out W (bb2 B3 (bb2 hB h))⟩)
      have HRDH := hide HRD
      clear HRD
      go_wp2_with fail
      clear q0 q1 q2 q3 q4 q5 q6 q7 q8 a0 a1 a2 a3 a4
      refine wp_region_noPanic ?_
      refine wp_region_held_drew (S := fun W => Below (wr).heap.size (wr) W) (by kernel_rfl) ((Below.refl _ _).drew) (fun hHeld => ?_)
      refine wpAnyH_take (i := 0) (v := ?_) (op_at (rest := _) rfl) (by kernel_rfl) (by kernel_rfl) (by kernel_rfl) (fun _ _ _ h => h) (Or.inl ⟨by rfl, ?_⟩) (by assumption) ?_
      rotate_left 1
      · (intro W hSw; (try dsimp only at hSw); obtain ⟨⟨a0, a1, a2, a3, a4⟩, q0, q1, q2, q3, q4, q5, q6, q7, q8⟩ := HRDH.out W hSw; go_simp; (try with_reducible rfl))
      try simp only [Act.put, List.setIfInBounds_toArray, List.set_cons_zero, List.set_cons_succ]
      refine wpAnyH_take (i := 1) (v := ?_) (op_at (rest := _) rfl) (by kernel_rfl) (by kernel_rfl) (by kernel_rfl) (fun _ _ _ h => h) (Or.inl ⟨by rfl, ?_⟩) (by assumption) ?_
      rotate_left 1
      · (intro W hSw; (try dsimp only at hSw); obtain ⟨⟨a0, a1, a2, a3, a4⟩, q0, q1, q2, q3, q4, q5, q6, q7, q8⟩ := HRDH.out W hSw; go_simp; (try with_reducible rfl))
      try simp only [Act.put, List.setIfInBounds_toArray, List.set_cons_zero, List.set_cons_succ]
      refine wpAnyH_take (i := 2) (v := ?_) (op_at (rest := _) rfl) (by kernel_rfl) (by kernel_rfl) (by kernel_rfl) (fun _ _ _ h => h) (Or.inl ⟨by rfl, ?_⟩) (by assumption) ?_
      rotate_left 1
      · (intro W hSw; (try dsimp only at hSw); obtain ⟨⟨a0, a1, a2, a3, a4⟩, q0, q1, q2, q3, q4, q5, q6, q7, q8⟩ := HRDH.out W hSw; go_simp; (try with_reducible rfl))
      try simp only [Act.put, List.setIfInBounds_toArray, List.set_cons_zero, List.set_cons_succ]
      refine wpAnyH_take (i := 3) (v := ?_) (op_at (rest := _) rfl) (by kernel_rfl) (by kernel_rfl) (by kernel_rfl) (fun _ _ _ h => h) (Or.inl ⟨by rfl, ?_⟩) (by assumption) ?_
      rotate_left 1
      · (intro W hSw; (try dsimp only at hSw); obtain ⟨⟨a0, a1, a2, a3, a4⟩, q0, q1, q2, q3, q4, q5, q6, q7, q8⟩ := HRDH.out W hSw; go_simp; (try with_reducible rfl))
      try simp only [Act.put, List.setIfInBounds_toArray, List.set_cons_zero, List.set_cons_succ]
      refine wpAnyH_take (i := 4) (v := ?_) (op_at (rest := _) rfl) (by kernel_rfl) (by kernel_rfl) (by kernel_rfl) (fun _ _ _ h => h) (Or.inl ⟨by rfl, ?_⟩) (by assumption) ?_
      rotate_left 1
      · (intro W hSw; (try dsimp only at hSw); obtain ⟨⟨a0, a1, a2, a3, a4⟩, q0, q1, q2, q3, q4, q5, q6, q7, q8⟩ := HRDH.out W hSw; go_simp; (try with_reducible rfl))
      try simp only [Act.put, List.setIfInBounds_toArray, List.set_cons_zero, List.set_cons_succ]
      refine wpAnyH_take (i := 5) (v := ?_) (op_at (rest := _) rfl) (by kernel_rfl) (by kernel_rfl) (by kernel_rfl) (fun _ _ _ h => h) (Or.inl ⟨by rfl, ?_⟩) (by assumption) ?_
      rotate_left 1
      · (intro W hSw; (try dsimp only at hSw); obtain ⟨⟨a0, a1, a2, a3, a4⟩, q0, q1, q2, q3, q4, q5, q6, q7, q8⟩ := HRDH.out W hSw; go_simp; (try with_reducible rfl))
      try simp only [Act.put, List.setIfInBounds_toArray, List.set_cons_zero, List.set_cons_succ]
      refine wpAnyH_take (i := 6) (v := ?_) (op_at (rest := _) rfl) (by kernel_rfl) (by kernel_rfl) (by kernel_rfl) (fun _ _ _ h => h) (Or.inl ⟨by rfl, ?_⟩) (by assumption) ?_
      rotate_left 1
      · (intro W hSw; (try dsimp only at hSw); obtain ⟨⟨a0, a1, a2, a3, a4⟩, q0, q1, q2, q3, q4, q5, q6, q7, q8⟩ := HRDH.out W hSw; go_simp; (try with_reducible rfl))
      try simp only [Act.put, List.setIfInBounds_toArray, List.set_cons_zero, List.set_cons_succ]
      refine wpAnyH_take (i := 7) (v := ?_) (op_at (rest := _) rfl) (by kernel_rfl) (by kernel_rfl) (by kernel_rfl) (fun _ _ _ h => h) (Or.inl ⟨by rfl, ?_⟩) (by assumption) ?_
      rotate_left 1
      · (intro W hSw; (try dsimp only at hSw); obtain ⟨⟨a0, a1, a2, a3, a4⟩, q0, q1, q2, q3, q4, q5, q6, q7, q8⟩ := HRDH.out W hSw; go_simp; (try with_reducible rfl))
      try simp only [Act.put, List.setIfInBounds_toArray, List.set_cons_zero, List.set_cons_succ]
      refine wpAnyH_take (i := 8) (v := ?_) (op_at (rest := _) rfl) (by kernel_rfl) (by kernel_rfl) (by kernel_rfl) (fun _ _ _ h => h) (Or.inl ⟨by rfl, ?_⟩) (by assumption) ?_
      rotate_left 1
      · (intro W hSw; (try dsimp only at hSw); obtain ⟨⟨a0, a1, a2, a3, a4⟩, q0, q1, q2, q3, q4, q5, q6, q7, q8⟩ := HRDH.out W hSw; go_simp; (try with_reducible rfl))
      try simp only [Act.put, List.setIfInBounds_toArray, List.set_cons_zero, List.set_cons_succ]
      refine wpAnyH_take (i := 9) (v := ?_) (op_at (rest := _) rfl) (by kernel_rfl) (by kernel_rfl) (by kernel_rfl) (fun _ _ _ h => h) (Or.inl ⟨by rfl, ?_⟩) (by assumption) ?_
      rotate_left 1
      · (intro W hSw; (try dsimp only at hSw); obtain ⟨⟨a0, a1, a2, a3, a4⟩, q0, q1, q2, q3, q4, q5, q6, q7, q8⟩ := HRDH.out W hSw; go_simp; (try with_reducible rfl))
      try simp only [Act.put, List.setIfInBounds_toArray, List.set_cons_zero, List.set_cons_succ]
      refine wpAnyH_take (i := 10) (v := ?_) (op_at (rest := _) rfl) (by kernel_rfl) (by kernel_rfl) (by kernel_rfl) (fun _ _ _ h => h) (Or.inl ⟨by rfl, ?_⟩) (by assumption) ?_
      rotate_left 1
      · (intro W hSw; (try dsimp only at hSw); obtain ⟨⟨a0, a1, a2, a3, a4⟩, q0, q1, q2, q3, q4, q5, q6, q7, q8⟩ := HRDH.out W hSw; go_simp; (try with_reducible rfl))
      try simp only [Act.put, List.setIfInBounds_toArray, List.set_cons_zero, List.set_cons_succ]
      refine wpAnyH_take (i := 11) (v := ?_) (op_at (rest := _) rfl) (by kernel_rfl) (by kernel_rfl) (by kernel_rfl) (fun _ _ _ h => h) (Or.inl ⟨by rfl, ?_⟩) (by assumption) ?_
      rotate_left 1
      · (intro W hSw; (try dsimp only at hSw); obtain ⟨⟨a0, a1, a2, a3, a4⟩, q0, q1, q2, q3, q4, q5, q6, q7, q8⟩ := HRDH.out W hSw; go_simp; (try with_reducible rfl))
      try simp only [Act.put, List.setIfInBounds_toArray, List.set_cons_zero, List.set_cons_succ]
      refine wpAnyH_ready (rs := [12]) (by kernel_rfl) (by simp) ?_
      refine AllReadyH.cons (op_at (rest := _) rfl) (fun K hK => ?_) AllReadyH.nil
      go_simp
      refine (psame_yes _ _ _ a.r.query x.r.query (atw.1.below hHeld) (atx.1.below hHeld) HQQ.out).mono ?_
      rintro e w7 ⟨rfl, hb7⟩
      go_wp2_with fail
      replace hHeld := hHeld.trans (hb7.mono hHeld.size)
      refine hK.out _ _ hHeld (fun _ => ?_)
      clear hK K
      try simp only [Act.put, List.setIfInBounds_toArray, List.set_cons_zero, List.set_cons_succ]
      refine wpAnyH_take (i := 13) (v := ?_) (op_at (rest := _) rfl) (by kernel_rfl) (by kernel_rfl) (by kernel_rfl) (fun _ _ _ h => h) (Or.inl ⟨by rfl, ?_⟩) (by assumption) ?_
      rotate_left 1
      · (intro W hSw; (try dsimp only at hSw); go_simp; (try with_reducible rfl))
      try simp only [Act.put, List.setIfInBounds_toArray, List.set_cons_zero, List.set_cons_succ]
      refine wpAnyH_take (i := 14) (v := ?_) (op_at (rest := _) rfl) (by kernel_rfl) (by kernel_rfl) (by kernel_rfl) (fun _ _ _ h => h) (Or.inl ⟨by rfl, ?_⟩) (by assumption) ?_
      rotate_left 1
      · (intro W hSw; (try dsimp only at hSw); go_simp; (try with_reducible rfl))
      try simp only [Act.put, List.setIfInBounds_toArray, List.set_cons_zero, List.set_cons_succ]
      refine wpAnyH_take (i := 15) (v := ?_) (op_at (rest := _) rfl) (by kernel_rfl) (by kernel_rfl) (by kernel_rfl) (fun _ _ _ h => h) (Or.inl ⟨by rfl, ?_⟩) (by assumption) ?_
      rotate_left 1
      · (intro W hSw; (try dsimp only at hSw); obtain ⟨⟨a0, a1, a2, a3, a4⟩, q0, q1, q2, q3, q4, q5, q6, q7, q8⟩ := HRDH.out W hSw; go_simp; (try with_reducible rfl))
      try simp only [Act.put, List.setIfInBounds_toArray, List.set_cons_zero, List.set_cons_succ]
      refine wpAnyH_take (i := 16) (v := ?_) (op_at (rest := _) rfl) (by kernel_rfl) (by kernel_rfl) (by kernel_rfl) (fun _ _ _ h => h) (Or.inl ⟨by rfl, ?_⟩) (by assumption) ?_
      rotate_left 1
      · (intro W hSw; (try dsimp only at hSw); obtain ⟨⟨a0, a1, a2, a3, a4⟩, q0, q1, q2, q3, q4, q5, q6, q7, q8⟩ := HRDH.out W hSw; go_simp; (try with_reducible rfl))
      try simp only [Act.put, List.setIfInBounds_toArray, List.set_cons_zero, List.set_cons_succ]
      refine wpAnyH_take (i := 17) (v := ?_) (op_at (rest := _) rfl) (by kernel_rfl) (by kernel_rfl) (by kernel_rfl) (fun _ _ _ h => h) (Or.inl ⟨by rfl, ?_⟩) (by assumption) ?_
      rotate_left 1
      · (intro W hSw; (try dsimp only at hSw); obtain ⟨⟨a0, a1, a2, a3, a4⟩, q0, q1, q2, q3, q4, q5, q6, q7, q8⟩ := HRDH.out W hSw; go_simp; (try with_reducible rfl))
      try simp only [Act.put, List.setIfInBounds_toArray, List.set_cons_zero, List.set_cons_succ]
      refine wpAnyH_take (i := 19) (v := ?_) (op_at (rest := _) rfl) (by kernel_rfl) (by kernel_rfl) (by kernel_rfl) (fun _ _ _ h => h) (Or.inl ⟨by rfl, ?_⟩) (by assumption) ?_
      rotate_left 1
      · (intro W hSw; (try dsimp only at hSw); obtain ⟨⟨a0, a1, a2, a3, a4⟩, q0, q1, q2, q3, q4, q5, q6, q7, q8⟩ := HRDH.out W hSw; go_simp; (try with_reducible rfl))
      try simp only [Act.put, List.setIfInBounds_toArray, List.set_cons_zero, List.set_cons_succ]
      refine wpAnyH_take (i := 20) (v := ?_) (op_at (rest := _) rfl) (by kernel_rfl) (by kernel_rfl) (by kernel_rfl) (fun _ _ _ h => h) (Or.inl ⟨by rfl, ?_⟩) (by assumption) ?_
      rotate_left 1
      · (intro W hSw; (try dsimp only at hSw); obtain ⟨⟨a0, a1, a2, a3, a4⟩, q0, q1, q2, q3, q4, q5, q6, q7, q8⟩ := HRDH.out W hSw; go_simp; (try with_reducible rfl))
      try simp only [Act.put, List.setIfInBounds_toArray, List.set_cons_zero, List.set_cons_succ]
      refine wpAnyH_take (i := 21) (v := ?_) (op_at (rest := _) rfl) (by kernel_rfl) (by kernel_rfl) (by kernel_rfl) (fun _ _ _ h => h) (Or.inl ⟨by rfl, ?_⟩) (by assumption) ?_
      rotate_left 1
      · (intro W hSw; (try dsimp only at hSw); obtain ⟨⟨a0, a1, a2, a3, a4⟩, q0, q1, q2, q3, q4, q5, q6, q7, q8⟩ := HRDH.out W hSw; go_simp; (try with_reducible rfl))
      try simp only [Act.put, List.setIfInBounds_toArray, List.set_cons_zero, List.set_cons_succ]
      refine wpAnyH_take (i := 22) (v := ?_) (op_at (rest := _) rfl) (by kernel_rfl) (by kernel_rfl) (by kernel_rfl) (fun _ _ _ h => h) (Or.inl ⟨by rfl, ?_⟩) (by assumption) ?_
      rotate_left 1
      · (intro W hSw; (try dsimp only at hSw); obtain ⟨⟨a0, a1, a2, a3, a4⟩, q0, q1, q2, q3, q4, q5, q6, q7, q8⟩ := HRDH.out W hSw; go_simp; (try with_reducible rfl))
      try simp only [Act.put, List.setIfInBounds_toArray, List.set_cons_zero, List.set_cons_succ]
      refine wpAnyH_ready (rs := [18]) (by kernel_rfl) (by simp) ?_
      refine AllReadyH.cons (op_at (rest := _) rfl) (fun K hK => ?_) AllReadyH.nil
      go_simp
      refine (rall_any nm _ a.r.head _ hnm (atw.2.below hHeld) okax hal).mono ?_
      rintro e w8 ⟨v8, rfl, st8, hb8⟩
      go_wp2_with fail
      replace hHeld := hHeld.trans (hb8.mono hHeld.size)
      refine hK.out _ _ hHeld (fun _ => ?_)
      clear hK K
      try simp only [Act.put, List.setIfInBounds_toArray, List.set_cons_zero, List.set_cons_succ]
      refine wpAnyH_ready (rs := [23]) (by kernel_rfl) (by simp) ?_
      refine AllReadyH.cons (op_at (rest := _) rfl) (fun K hK => ?_) AllReadyH.nil
      go_simp
      refine (rall_any nm _ x.r.head _ hnm (atx.2.below hHeld) okx.head hxl).mono ?_
      rintro e w9 ⟨v9, rfl, st9, hb9⟩
      go_wp2_with fail
      replace hHeld := hHeld.trans (hb9.mono hHeld.size)
      refine hK.out _ _ hHeld (fun _ => ?_)
      clear hK K
      try simp only [Act.put, List.setIfInBounds_toArray, List.set_cons_zero, List.set_cons_succ]
      replace st8 := st8.below hb9
      refine wpAnyH_ready (rs := [24]) (by kernel_rfl) (by simp) ?_
      refine AllReadyH.cons (op_at (rest := _) rfl) (fun K hK => ?_) AllReadyH.nil
      go_simp
      refine (same_yes _ v8 v9 _ _ st8 st9 (len_all a.r.head nm hal) HO.out).mono ?_
      rintro e w10 ⟨rfl, hb10⟩
      go_wp2_with fail
      replace hHeld := hHeld.trans (hb10.mono hHeld.size)
      refine hK.out _ _ hHeld (fun _ => ?_)
      clear hK K
      try simp only [Act.put, List.setIfInBounds_toArray, List.set_cons_zero, List.set_cons_succ]
      refine wpAnyH_take (i := 25) (v := ?_) (op_at (rest := _) rfl) (by kernel_rfl) (by kernel_rfl) (by kernel_rfl) (fun _ _ _ h => h) (Or.inl ⟨by rfl, ?_⟩) (by assumption) ?_
      rotate_left 1
      · (intro W hSw; (try dsimp only at hSw); go_simp; (try with_reducible rfl))
      try simp only [Act.put, List.setIfInBounds_toArray, List.set_cons_zero, List.set_cons_succ]
      refine wpAnyH_take (i := 26) (v := ?_) (op_at (rest := _) rfl) (by kernel_rfl) (by kernel_rfl) (by kernel_rfl) (fun _ _ _ h => h) (Or.inl ⟨by rfl, ?_⟩) (by assumption) ?_
      rotate_left 1
      · (intro W hSw; (try dsimp only at hSw); go_simp; (try with_reducible rfl))
      try simp only [Act.put, List.setIfInBounds_toArray, List.set_cons_zero, List.set_cons_succ]
      refine wpAnyH_ready (rs := [27]) (by kernel_rfl) (by simp) ?_
      refine AllReadyH.cons (op_at (rest := _) rfl) (fun K hK => ?_) AllReadyH.nil
      go_simp
      refine (fawake_any _).mono ?_
      rintro e w11 ⟨rfl, hb11⟩
      go_wp2_with fail
      replace hHeld := hHeld.trans (hb11.mono hHeld.size)
      refine hK.out _ _ hHeld (fun _ => ?_)
      clear hK K
      try simp only [Act.put, List.setIfInBounds_toArray, List.set_cons_zero, List.set_cons_succ]
      refine wpAnyH_take (i := 28) (v := ?_) (op_at (rest := _) rfl) (by kernel_rfl) (by kernel_rfl) (by kernel_rfl) (fun _ _ _ h => h) (Or.inl ⟨by rfl, ?_⟩) (by assumption) ?_
      rotate_left 1
      · (intro W hSw; (try dsimp only at hSw); go_simp; (try with_reducible rfl))
      try simp only [Act.put, List.setIfInBounds_toArray, List.set_cons_zero, List.set_cons_succ]
      refine wpAnyH_take (i := 29) (v := ?_) (op_at (rest := _) rfl) (by kernel_rfl) (by kernel_rfl) (by kernel_rfl) (fun _ _ _ h => h) (Or.inl ⟨by rfl, ?_⟩) (by assumption) ?_
      rotate_left 1
      · (intro W hSw; (try dsimp only at hSw); go_simp; (try with_reducible rfl))
      try simp only [Act.put, List.setIfInBounds_toArray, List.set_cons_zero, List.set_cons_succ]
      refine wpAnyH_done (by kernel_rfl) ?_ _
      refine NoPanic.normal ?_
      go_wp2_with fail
      go_ret
      exact ⟨rfl, bb2 BQ (bb2 B3 (bb2 hB hHeld))⟩

end Go.Proofs.YtfoabpkiaihkiaaDoor
