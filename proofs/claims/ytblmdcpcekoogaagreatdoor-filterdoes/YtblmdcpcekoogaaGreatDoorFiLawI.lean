/-
  The law FilterDoes.
-/
import Derived.Test.YtblmdcpcekoogaaGreatDoorJ1
import Derived.Test.YtblmdcpcekoogaaGreatDoorJ2
import Derived.Test.YtblmdcpcekoogaaGreatDoorFiTab
import Derived.Test.YtblmdcpcekoogaaGreatDoorFiEq
namespace Go.Proofs.YtblmdcpcekoogaaGreatDoor
set_option maxRecDepth 20000
open Go Go.RowKit Go.Shelf Fi

theorem fewB_idem (s : ByteArray) : fewB (fewB s) = fewB s := by
  have h := fewB_le s
  generalize fewB s = x at *
  unfold fewB
  rw [if_neg (by omega)]
theorem few2_idem (l : List PairB) : fewB2 (fewB2 l) = fewB2 l := by
  unfold fewB2
  rw [← List.map_take, List.take_take, Nat.min_self, List.map_map]
  refine List.map_congr_left fun p _ => ?_
  show cutB (cutB p) = cutB p
  unfold cutB
  dsimp only
  rw [fewB_idem, fewB_idem]
theorem fewR_idem (r : RB) : fewR (fewR r) = fewR r := by
  unfold fewR
  dsimp only
  rw [fewB_idem, fewB_idem, fewB_idem, few2_idem, few2_idem]
theorem okR_raw {r : RB} (h : OkR r) : RawR r := by
  have m : ∀ {n : Nat}, n ≤ 100 → n ≤ maxLen := fun h => by unfold maxLen; omega
  exact ⟨m h.meth, m h.host, m h.path, fun p hp => ⟨m (h.query p hp).1, m (h.query p hp).2⟩, fun p hp => ⟨m (h.head p hp).1, m (h.head p hp).2⟩⟩
/-- the document's Do -/
theorem rdo_any (vl : Value) (l : List FB) (pk : Int) (pv : ByteArray) (x : RV) (w : World) (hv : Sl EF w vl l) (ok : ∀ f ∈ l, OkFi f) (hl : l.length ≤ 1000) (hpv : pv.size ≤ 100) (hx : x.own w) (okr : OkR x.r) :
    Calls Tryz.prog 13 #[vl, .agg #[.int .i64 pk, .string pv], rV x.r x.vq x.vh] w fun e w' => ∃ y : RV, e = rqE y (doF l pk pv x.r).2 ∧ y.r = (doF l pk pv x.r).1 ∧ y.own w' ∧ Below w.heap.size w w' := by
  cases h : (allF l && holdP pk (dl pv) (dl x.r.path))
  · exact rdo_no vl l pk pv x w hv ok hl hpv okr h
  · exact rdo_yes vl l pk pv x w hv ok hpv hx okr h

set_option maxHeartbeats 12800000 in
theorem does_law (v0 : Value) (w : World) (h0 : ArgAk w v0) (htab : Tab10 w) :
    Calls Tryz.prog 3 #[v0] w fun e w' => e = .returned (.bool true) ∧ Below w.heap.size w w' := by
  obtain ⟨vl0, l0, pk, pv0, x0, tls, rfl, hv0, raw0, hpv0, hx0, rawx0⟩ := h0
  have C1 := fun W (h : Below w.heap.size w W) => hide (cut_any vl0 l0 pk pv0 x0 tls W (hv0.below h) raw0 hpv0 (hx0.below h) rawx0)
  have pv100 := fewB_le pv0
  have okL := someF_ok l0
  have lenL := someF_len l0
  have okx := fewR_ok x0.r
  clear hv0 raw0 hpv0 hx0 rawx0
  have B1 : Below w.heap.size w (w.alloc (.cells #[vl0, .int .i64 pk, .string pv0, .string x0.r.meth, .string x0.r.host, .string x0.r.path, .slice x0.aq x0.r.query.length x0.cq, .slice x0.ah x0.r.head.length x0.ch, .bool tls] 29)) := (Below.refl _ _).alloc (Nat.le_refl _) _
  go_enter Tryz.func3, Tryz.ntmps3
  go_wp2_with fail
  refine (C1 _ B1).out.mono ?_
  rintro e w1 ⟨fa, fc, fb, x, rfl, row, hx, own, hb1⟩
  have HX := hide hx
  rw [← hx] at okx
  clear hx C1
  generalize hL : someF l0 = L at *
  generalize hpv : fewB pv0 = pv at *
  clear hL hpv
  have hz : w1.heap[w.heap.size]? = some (.cells #[vl0, .int .i64 pk, .string pv0, .string x0.r.meth, .string x0.r.host, .string x0.r.path, .slice x0.aq x0.r.query.length x0.cq, .slice x0.ah x0.r.head.length x0.ch, .bool tls] 29) := box_block hb1
  have BB := bb2 B1 hb1
  have lz := liveN hz
  obtain ⟨z0, z1, z2, z3, z4, z5, z6, z7, z8⟩ : _ ∧ _ ∧ _ ∧ _ ∧ _ ∧ _ ∧ _ ∧ _ ∧ _ := ⟨cellN hz (i := 0) rfl, cellN hz (i := 1) rfl, cellN hz (i := 2) rfl, cellN hz (i := 3) rfl, cellN hz (i := 4) rfl, cellN hz (i := 5) rfl, cellN hz (i := 6) rfl, cellN hz (i := 7) rfl, cellN hz (i := 8) rfl⟩
  have K2 := hide (show ((((((((((w1.setCell ⟨w.heap.size, 0, none⟩ (.slice fa L.length fc)).setCell ⟨w.heap.size, 1, none⟩ (.int .i64 pk)).setCell ⟨w.heap.size, 2, none⟩ (.string pv)).setCell ⟨w.heap.size, 3, none⟩ (.string x.r.meth)).setCell ⟨w.heap.size, 4, none⟩ (.string x.r.host)).setCell ⟨w.heap.size, 5, none⟩ (.string x.r.path)).setCell ⟨w.heap.size, 6, none⟩ (.slice x.aq x.r.query.length x.cq)).setCell ⟨w.heap.size, 7, none⟩ (.slice x.ah x.r.head.length x.ch)).setCell ⟨w.heap.size, 8, none⟩ (.bool tls))).heap[w.heap.size]? = some (.cells #[.slice fa L.length fc, .int .i64 pk, .string pv, .string x.r.meth, .string x.r.host, .string x.r.path, .slice x.aq x.r.query.length x.cq, .slice x.ah x.r.head.length x.ch, .bool tls] 29) from setL_all [.slice fa L.length fc, .int .i64 pk, .string pv, .string x.r.meth, .string x.r.host, .string x.r.path, .slice x.aq x.r.query.length x.cq, .slice x.ah x.r.head.length x.ch, .bool tls] hz rfl)
  have row2 := hide (row_setL (k := 0) (cs := [.slice fa L.length fc, .int .i64 pk, .string pv, .string x.r.meth, .string x.r.host, .string x.r.path, .slice x.aq x.r.query.length x.cq, .slice x.ah x.r.head.length x.ch, .bool tls]) row hz (by decide))
  have own2 := hide (own.setL (k := 0) (cs := [.slice fa L.length fc, .int .i64 pk, .string pv, .string x.r.meth, .string x.r.host, .string x.r.path, .slice x.aq x.r.query.length x.cq, .slice x.ah x.r.head.length x.ch, .bool tls]) hz (by decide))
  have BB2 := hide (setL_below (w := w) (B := w.heap.size) (g := w.heap.size) (Nat.le_refl _) [.slice fa L.length fc, .int .i64 pk, .string pv, .string x.r.meth, .string x.r.host, .string x.r.path, .slice x.aq x.r.query.length x.cq, .slice x.ah x.r.head.length x.ch, .bool tls] _ 0 BB)
  obtain ⟨d0, d1, d2, d3, d4, d5, d6, d7, d8⟩ : _ ∧ _ ∧ _ ∧ _ ∧ _ ∧ _ ∧ _ ∧ _ ∧ _ := ⟨cellN K2.out (i := 0) rfl, cellN K2.out (i := 1) rfl, cellN K2.out (i := 2) rfl, cellN K2.out (i := 3) rfl, cellN K2.out (i := 4) rfl, cellN K2.out (i := 5) rfl, cellN K2.out (i := 6) rfl, cellN K2.out (i := 7) rfl, cellN K2.out (i := 8) rfl⟩
  clear hz row own BB
  clear B1 hb1
  go_wp2_with fail
  have kq : ((((((((((w1.setCell ⟨w.heap.size, 0, none⟩ (.slice fa L.length fc)).setCell ⟨w.heap.size, 1, none⟩ (.int .i64 pk)).setCell ⟨w.heap.size, 2, none⟩ (.string pv)).setCell ⟨w.heap.size, 3, none⟩ (.string x.r.meth)).setCell ⟨w.heap.size, 4, none⟩ (.string x.r.host)).setCell ⟨w.heap.size, 5, none⟩ (.string x.r.path)).setCell ⟨w.heap.size, 6, none⟩ (.slice x.aq x.r.query.length x.cq)).setCell ⟨w.heap.size, 7, none⟩ (.slice x.ah x.r.head.length x.ch)).setCell ⟨w.heap.size, 8, none⟩ (.bool tls))).heap[w.heap.size]? = some (.cells #[.slice fa L.length fc, .int .i64 pk, .string pv, .string x.r.meth, .string x.r.host, .string x.r.path, .slice x.aq x.r.query.length x.cq, .slice x.ah x.r.head.length x.ch, .bool tls] 29) := K2.out
  have rowq : ((((((((((w1.setCell ⟨w.heap.size, 0, none⟩ (.slice fa L.length fc)).setCell ⟨w.heap.size, 1, none⟩ (.int .i64 pk)).setCell ⟨w.heap.size, 2, none⟩ (.string pv)).setCell ⟨w.heap.size, 3, none⟩ (.string x.r.meth)).setCell ⟨w.heap.size, 4, none⟩ (.string x.r.host)).setCell ⟨w.heap.size, 5, none⟩ (.string x.r.path)).setCell ⟨w.heap.size, 6, none⟩ (.slice x.aq x.r.query.length x.cq)).setCell ⟨w.heap.size, 7, none⟩ (.slice x.ah x.r.head.length x.ch)).setCell ⟨w.heap.size, 8, none⟩ (.bool tls))).ownsRow fb 87 8 (.slice fa L.length fc) L.length (EF.flat L) := row2.out
  have ownq : RV.own x ((((((((((w1.setCell ⟨w.heap.size, 0, none⟩ (.slice fa L.length fc)).setCell ⟨w.heap.size, 1, none⟩ (.int .i64 pk)).setCell ⟨w.heap.size, 2, none⟩ (.string pv)).setCell ⟨w.heap.size, 3, none⟩ (.string x.r.meth)).setCell ⟨w.heap.size, 4, none⟩ (.string x.r.host)).setCell ⟨w.heap.size, 5, none⟩ (.string x.r.path)).setCell ⟨w.heap.size, 6, none⟩ (.slice x.aq x.r.query.length x.cq)).setCell ⟨w.heap.size, 7, none⟩ (.slice x.ah x.r.head.length x.ch)).setCell ⟨w.heap.size, 8, none⟩ (.bool tls))) := own2.out
  have BQ : Below w.heap.size w ((((((((((w1.setCell ⟨w.heap.size, 0, none⟩ (.slice fa L.length fc)).setCell ⟨w.heap.size, 1, none⟩ (.int .i64 pk)).setCell ⟨w.heap.size, 2, none⟩ (.string pv)).setCell ⟨w.heap.size, 3, none⟩ (.string x.r.meth)).setCell ⟨w.heap.size, 4, none⟩ (.string x.r.host)).setCell ⟨w.heap.size, 5, none⟩ (.string x.r.path)).setCell ⟨w.heap.size, 6, none⟩ (.slice x.aq x.r.query.length x.cq)).setCell ⟨w.heap.size, 7, none⟩ (.slice x.ah x.r.head.length x.ch)).setCell ⟨w.heap.size, 8, none⟩ (.bool tls))) := BB2.out
  clear K2 row2 own2 BB2 lz z0 z1 z2 z3 z4 z5 z6 z7 z8 d0 d1 d2 d3 d4 d5 d6 d7 d8
  generalize (((((((((w1.setCell ⟨w.heap.size, 0, none⟩ (.slice fa L.length fc)).setCell ⟨w.heap.size, 1, none⟩ (.int .i64 pk)).setCell ⟨w.heap.size, 2, none⟩ (.string pv)).setCell ⟨w.heap.size, 3, none⟩ (.string x.r.meth)).setCell ⟨w.heap.size, 4, none⟩ (.string x.r.host)).setCell ⟨w.heap.size, 5, none⟩ (.string x.r.path)).setCell ⟨w.heap.size, 6, none⟩ (.slice x.aq x.r.query.length x.cq)).setCell ⟨w.heap.size, 7, none⟩ (.slice x.ah x.r.head.length x.ch)).setCell ⟨w.heap.size, 8, none⟩ (.bool tls)) = V at *
  have slq : Sl EF V (.slice fa L.length fc) L := Sl.of_row (E := EF) rfl rowq (fun _ _ => trivial)
  have atq := ownq.at_
  have HOWN := hide ownq
  have HBQ := hide BQ
  have tabV : Tab10 V := Lib.tabBelow_of_tabIs htab V BQ
  clear rowq ownq
  have QC := fun W (h : Below V.heap.size V W) => (show W.cell? ⟨w.heap.size, 0, none⟩ = some (.slice fa L.length fc) ∧ W.cell? ⟨w.heap.size, 1, none⟩ = some (.int .i64 pk) ∧ W.cell? ⟨w.heap.size, 2, none⟩ = some (.string pv) ∧ W.cell? ⟨w.heap.size, 3, none⟩ = some (.string x.r.meth) ∧ W.cell? ⟨w.heap.size, 4, none⟩ = some (.string x.r.host) ∧ W.cell? ⟨w.heap.size, 5, none⟩ = some (.string x.r.path) ∧ W.cell? ⟨w.heap.size, 6, none⟩ = some (.slice x.aq x.r.query.length x.cq) ∧ W.cell? ⟨w.heap.size, 7, none⟩ = some (.slice x.ah x.r.head.length x.ch) ∧ W.cell? ⟨w.heap.size, 8, none⟩ = some (.bool tls) from (blk_below kq h |> fun k => ⟨cellN k (i := 0) rfl, cellN k (i := 1) rfl, cellN k (i := 2) rfl, cellN k (i := 3) rfl, cellN k (i := 4) rfl, cellN k (i := 5) rfl, cellN k (i := 6) rfl, cellN k (i := 7) rfl, cellN k (i := 8) rfl⟩))
  have HFX : Hid (fewR x.r = x.r) := by
    show fewR x.r = x.r
    rw [HX.out, fewR_idem]
  have CW := fun W (h : Below V.heap.size V W) => hide (asked_any x.r x.vq x.vh W (okR_raw okx) (atq.below h).1 (atq.below h).2)
  have CD := fun W (h : Below V.heap.size V W) => hide (do_any (.slice fa L.length fc) L pk pv x W (slq.below h) okL pv100 (atq.below h) okx)
  have RD := fun W (h : Below V.heap.size V W) => hide (rdo_any (.slice fa L.length fc) L pk pv x W (slq.below h) okL (by omega) pv100 (HOWN.out.below h) okx)
  have CA := fun W (h : Below V.heap.size V W) => hide (away_any (.slice fa L.length fc) L pk pv x tls W (slq.below h) okL pv100 okx.path okx.host (itoa_ports (Lib.tabBelow_of_tabIs tabV W h)))
  have RA := fun W (h : Below V.heap.size V W) => hide (raway_any (.slice fa L.length fc) L pk pv x tls W (slq.below h) okL (by omega) pv100 okx.path okx.host)
  have HQC := hide QC
  have HAT := hide atq
  generalize doF L pk pv x.r = DO at *
  generalize awayF L pk pv x.r.host x.r.path tls = AR at *
  obtain ⟨dr, de⟩ := DO
  obtain ⟨⟨ac, at_⟩, ae⟩ := AR
  dsimp only at CD RD CA RA
  clear QC htab tabV BQ slq atq okx okL lenL pv100 HX
  obtain ⟨d0, d1, d2, d3, d4, d5, d6, d7, d8⟩ := HQC.out (V) (Below.refl _ _)
  try go_wp2_with fail
  refine (CW V (Below.refl _ _)).out.mono ?_
  rintro e w3 ⟨was, rfl, hwas, ownW, hb3⟩
  clear d0 d1 d2 d3 d4 d5 d6 d7 d8
  obtain ⟨d0, d1, d2, d3, d4, d5, d6, d7, d8⟩ := HQC.out (w3.alloc (.cells #[.string was.r.meth, .string was.r.host, .string was.r.path, .slice was.aq was.r.query.length was.cq, .slice was.ah was.r.head.length was.ch] 27)) (bb2 hb3 ((Below.refl _ _).alloc (Nat.le_refl _) _))
  have HWAS := hide hwas
  have HOW := hide ownW
  clear hwas ownW CW
  go_wp2_with fail
  refine (CD _ (bb2 hb3 ((Below.refl _ _).alloc (Nat.le_refl _) _))).out.mono ?_
  rintro e w4 ⟨y1, rfl, hy1, own1, hb4⟩
  clear d0 d1 d2 d3 d4 d5 d6 d7 d8
  have HY1 := hide hy1
  have HO1 := hide own1
  have KW4 := box_block hb4
  have BB4 := bb2 hb3 (below_box hb4)
  have HW4 := hide (HOW.out.below (below_box hb4))
  clear hy1 own1 CD HOW hb3 hb4
  obtain ⟨d0, d1, d2, d3, d4, d5, d6, d7, d8⟩ := HQC.out (w4.alloc (.cells #[.string y1.r.meth, .string y1.r.host, .string y1.r.path, .slice y1.aq y1.r.query.length y1.cq, .slice y1.ah y1.r.head.length y1.ch] 27)) (bb2 BB4 ((Below.refl _ _).alloc (Nat.le_refl _) _))
  go_wp2_with fail
  refine (RD _ (bb2 BB4 ((Below.refl _ _).alloc (Nat.le_refl _) _))).out.mono ?_
  rintro e w5 ⟨y2, rfl, hy2, own2, hb5⟩
  clear d0 d1 d2 d3 d4 d5 d6 d7 d8
  have HY2 := hide hy2
  have HO2 := hide own2
  have KW5 := blk_below KW4 (below_box hb5)
  have K15 := box_block hb5
  have BB5 := bb2 BB4 (below_box hb5)
  have HW5 := hide (HW4.out.below (below_box hb5))
  have HO15 := hide (HO1.out.below (below_box hb5))
  clear hy2 own2 RD HO1 HW4 KW4 BB4 hb5
  obtain ⟨d0, d1, d2, d3, d4, d5, d6, d7, d8⟩ := HQC.out (w5.alloc (.cells #[.string y2.r.meth, .string y2.r.host, .string y2.r.path, .slice y2.aq y2.r.query.length y2.cq, .slice y2.ah y2.r.head.length y2.ch] 27)) (bb2 BB5 ((Below.refl _ _).alloc (Nat.le_refl _) _))
  go_wp2_with fail
  refine (CA _ (bb2 BB5 ((Below.refl _ _).alloc (Nat.le_refl _) _))).out.mono ?_
  rintro e w6 ⟨rfl, hb6⟩
  clear d0 d1 d2 d3 d4 d5 d6 d7 d8
  have KW6 := blk_below KW5 (below_box hb6)
  have K16 := blk_below K15 (below_box hb6)
  have K26 := box_block hb6
  have BB6 := bb2 BB5 (below_box hb6)
  have HW6 := hide (HW5.out.below (below_box hb6))
  have HO16 := hide (HO15.out.below (below_box hb6))
  have HO26 := hide (HO2.out.below (below_box hb6))
  clear CA HW5 HO15 HO2 KW5 K15 BB5 hb6
  obtain ⟨d0, d1, d2, d3, d4, d5, d6, d7, d8⟩ := HQC.out (w6.alloc (.cells #[.int .i64 ac, .string at_] 38)) (bb2 BB6 ((Below.refl _ _).alloc (Nat.le_refl _) _))
  go_wp2_with fail
  refine (RA _ (bb2 BB6 ((Below.refl _ _).alloc (Nat.le_refl _) _))).out.mono ?_
  rintro e w7 ⟨rfl, hb7⟩
  clear d0 d1 d2 d3 d4 d5 d6 d7 d8
  have B78 : Below w7.heap.size w7 (w7.alloc (.cells #[.int .i64 ac, .string at_] 38)) := (Below.refl _ _).alloc (Nat.le_refl _) _
  have B68 := bb2 (below_box hb7) B78
  have KW8 := blk_below KW6 B68
  have K18 := blk_below K16 B68
  have K28 := blk_below K26 B68
  have K38 := blk_below (box_block hb7) B78
  have K48 := alloc_new w7 (.cells #[.int .i64 ac, .string at_] 38)
  have BB8 := bb2 BB6 B68
  have HW8 := hide (HW6.out.below B68)
  have HO18 := hide (HO16.out.below B68)
  have HO28 := hide (HO26.out.below B68)
  have CS := hide (sameAsk_any y1 y2 (w7.alloc (.cells #[.int .i64 ac, .string at_] 38)) HO18.out.at_ HO28.out.at_)
  rw [show sameR y1.r y2.r = true by rw [HY1.out, HY2.out]; exact sameR_self _] at CS
  obtain ⟨p0, p1, p2, p3, p4⟩ : _ ∧ _ ∧ _ ∧ _ ∧ _ := ⟨cellN K18 (i := 0) rfl, cellN K18 (i := 1) rfl, cellN K18 (i := 2) rfl, cellN K18 (i := 3) rfl, cellN K18 (i := 4) rfl⟩
  obtain ⟨r0, r1, r2, r3, r4⟩ : _ ∧ _ ∧ _ ∧ _ ∧ _ := ⟨cellN K28 (i := 0) rfl, cellN K28 (i := 1) rfl, cellN K28 (i := 2) rfl, cellN K28 (i := 3) rfl, cellN K28 (i := 4) rfl⟩
  clear RA HW6 HO16 HO26 KW6 K16 K26 BB6 hb7 B78 B68 HO18 HO28 HY1 HY2 K18 K28
  go_wp2_with fail
  refine CS.out.mono ?_
  rintro e w9 ⟨rfl, hb9⟩
  clear p0 p1 p2 p3 p4 r0 r1 r2 r3 r4 CS
  have BB9 := bb2 BB8 hb9
  have KW9 := blk_below KW8 hb9
  have K39 := blk_below K38 hb9
  have K49 := blk_below K48 hb9
  have HW9 := hide (HW8.out.below hb9)
  have CT := hide (sameAsk_any x was w9 (HAT.out.below BB9) HW9.out.at_)
  rw [show sameR x.r was.r = true by rw [HWAS.out, HFX.out]; exact sameR_self _] at CT
  have EQA := fun W => eqAway ac ac at_ at_ W
  simp only [and_self, decide_true] at EQA
  obtain ⟨a0, a1⟩ : _ ∧ _ := ⟨cellN K39 (i := 0) rfl, cellN K39 (i := 1) rfl⟩
  obtain ⟨c0, c1⟩ : _ ∧ _ := ⟨cellN K49 (i := 0) rfl, cellN K49 (i := 1) rfl⟩
  obtain ⟨d0, d1, d2, d3, d4, d5, d6, d7, d8⟩ := HQC.out (w9) (BB9)
  obtain ⟨p0, p1, p2, p3, p4⟩ : _ ∧ _ ∧ _ ∧ _ ∧ _ := ⟨cellN KW9 (i := 0) rfl, cellN KW9 (i := 1) rfl, cellN KW9 (i := 2) rfl, cellN KW9 (i := 3) rfl, cellN KW9 (i := 4) rfl⟩
  clear KW8 K38 K48 HW8 HW9 KW9 K39 K49 HAT HWAS HFX HOWN
  go_wp2_with fail
  refine CT.out.mono ?_
  rintro e w10 ⟨rfl, hb10⟩
  clear d0 d1 d2 d3 d4 d5 d6 d7 d8 p0 p1 p2 p3 p4 a0 a1 c0 c1 CT EQA
  have BB10 := hide (bb2 HBQ.out (bb2 BB9 hb10))
  clear BB8 BB9 hb9 hb10 HBQ
  go_wp2_with fail
  refine (fawake_any _).mono ?_
  rintro e w11 ⟨rfl, hb11⟩
  go_wp2_with fail
  go_ret
  exact ⟨rfl, bb2 BB10.out hb11⟩

end Go.Proofs.YtblmdcpcekoogaaGreatDoor
