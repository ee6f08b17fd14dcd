/-
  strconv.Itoa at a port, by the library's contract.
-/
import Derived.Test.YtfoabpkiaihkiaaDoorFiWalkE
import Derived.Test.YtfoabpkiaihkiaaDoorFiShelf
import Derived.Lib.AppendIntMem
import Derived.Test.YtfoabpkiaihkiaaDoorFiArg
import Derived.Test.YtfoabpkiaihkiaaDoorFiCut
import Derived.Test.YtfoabpkiaihkiaaDoorFiLawB
import Derived.Lib.LaidTab
namespace Go.Proofs.YtfoabpkiaihkiaaDoor
set_option maxRecDepth 20000
open Go Go.RowKit Go.Shelf Fi

theorem digs_zero : ∀ k, digs k 0 = []
  | 0 => rfl
  | _ + 1 => rfl
theorem dec_digs : ∀ (k n : Nat), 0 < n → n < 10 ^ k → Lib.decDigits n = digs k n
  | 0, n, h, h1 => by simp at h1; omega
  | k + 1, n, h, h1 => by
    rw [Lib.decDigits]
    unfold digs
    rw [if_neg (by omega)]
    split
    · rename_i h2
      rw [show n / 10 = 0 by omega, digs_zero, show n % 10 = n by omega]
      rfl
    · rw [dec_digs k (n / 10) (by omega) (by rw [Nat.pow_succ] at h1; omega)]

/-- the table that it reads -/
abbrev Tab10 (w : World) : Prop := Lib.TabIs Tryd.prog w "internal/strconv.uint64pow10" .u64 Lib.pow10Tab
theorem itoa_at {w : World} (h : Tab10 w) {n : Int} (h0 : 0 < n) (h1 : n ≤ 65535) : ItoaAt w n := fun W hW =>
  (Tryd.strconv_Itoa n (by omega) (by omega) W (Lib.tabBelow_of_tabIs h W hW)).mono fun e w' ⟨he, k, os, hw⟩ => by
    refine ⟨?_, by rw [hw]; exact Lib.below_grow _ _ (Nat.le_refl _) k os⟩
    rw [he]
    have : Lib.itoa n = digs 8 n.toNat := by
      unfold Lib.itoa
      rw [if_neg (by omega)]
      exact dec_digs 8 _ (by omega) (by omega)
    rw [this]
    rfl
/-- at each port of filters that may be -/
theorem itoa_ports {w : World} (h : Tab10 w) {tls : Bool} {l : List FB} : ∀ f ∈ l, mayF f = true → f.kind = 4 → needD f.port tls → ItoaAt w f.port := fun f _ hm hk hn => by
  have hp : 0 ≤ f.port ∧ f.port ≤ 65535 := by
    unfold mayF at hm
    rw [if_neg (by omega), if_neg (by omega), if_pos hk] at hm
    simp only [Bool.and_eq_true, decide_eq_true_eq] at hm
    exact hm.2.2.2.1
  have h0 := hn.1
  exact itoa_at h (by omega) hp.2

end Go.Proofs.YtfoabpkiaihkiaaDoor
namespace Go.Proofs.YtfoabpkiaihkiaaDoor
set_option maxRecDepth 20000
open Go Go.RowKit Go.Shelf Fi

/-- what stays while the head grows -/
structure InvA (V : World) (g7 : Nat) (o7 : Obj) (g5 : Nat) (o5 : Obj) (W : World) : Prop where
  below : Below V.heap.size V W
  o7 : W.heap[g7]? = some o7
  o5 : W.heap[g5]? = some o5
theorem own_ne {W : World} {b0 e s n b t : Nat} {v : Value} {xs : List Value} {cs : Array Value} (h : W.ownsRow b0 e s v n xs) (hb : W.heap[b]? = some (.cells cs t)) (hne : e ≠ t) : some b ≠ v.ownBlock := by
  obtain ⟨_, h2⟩ := h
  rcases h2 with ⟨rfl, _⟩ | ⟨g', cap, cur, rfl, _, hh, _⟩
  · intro e1
    cases e1
  · intro e1
    have e2 : b = g' := Option.some.inj e1
    rw [← e2, hb] at hh
    injection hh with hh
    injection hh with _ hh _
    exact hne hh.symm
theorem grown_blk {w w' : World} {row : Option Nat} {b : Nat} {o : Obj} (hg : w.grownBy w' row) (hne : some b ≠ row) (h : w.heap[b]? = some o) : w'.heap[b]? = some o :=
  (hg.block b (lt_blk h) hne).trans h
theorem mkB_pre (p r : List UInt8) : (mkB (p ++ r)).extract 0 p.length = mkB p := by
  refine mkB_eq ?_
  rw [ByteArray.data_extract]
  simp only [Array.toList_extract, List.extract_eq_take_drop, List.drop_zero, Nat.sub_zero]
  show (p ++ r).take p.length = p
  simp
theorem of_ifp {c : Prop} [Decidable c] {p q : Prop} (hc : c) (h : if c then p else q) : p := by rwa [if_pos hc] at h
theorem take_next {l : List PairB} {k : Nat} (hk : k < l.length) : l.take (k + 1) = l.take k ++ [(l[k].1, l[k].2)] := List.take_succ_eq_append_getElem hk

set_option maxHeartbeats 12800000 in
theorem aways_law (v0 v1 : Value) (w : World) (h0 : ArgAk w v0) (h1 : ArgPrs w v1) (htab : Tab10 w) :
    Calls Tryd.prog 6 #[v0, v1] w fun e w' => e = .returned (.bool true) ∧ Below w.heap.size w w' := by
  obtain ⟨hd, hv1, _⟩ := h1
  obtain ⟨vl0, l0, pk, pv0, x0, tls, rfl, hv0, raw0, hpv0, hx0, rawx0⟩ := h0
  have C1 := fun W (h : Below w.heap.size w W) => hide (cut_any vl0 l0 pk pv0 x0 tls W (hv0.below h) raw0 hpv0 (hx0.below h) rawx0)
  have pv100 := fewB_le pv0
  have okL := someF_ok l0
  have lenL := someF_len l0
  have okx := fewR_ok x0.r
  clear hv0 raw0 hpv0 hx0 rawx0
  have B1 : Below w.heap.size w (w.alloc (.cells #[vl0, .int .i64 pk, .string pv0, .string x0.r.meth, .string x0.r.host, .string x0.r.path, .slice x0.aq x0.r.query.length x0.cq, .slice x0.ah x0.r.head.length x0.ch, .bool tls] 35)) := (Below.refl _ _).alloc (Nat.le_refl _) _
  go_enter Tryd.func6, Tryd.ntmps6
  go_wp2_with fail
  refine (C1 _ B1).out.mono ?_
  rintro e w1 ⟨fa, fc, fb, x, rfl, row, hx, own, hb1⟩
  have HX := hide hx
  rw [← hx] at okx
  clear hx C1
  generalize hL : someF l0 = L at *
  generalize hpv : fewB pv0 = pv at *
  clear hL hpv
  have hz : w1.heap[w.heap.size]? = some (.cells #[vl0, .int .i64 pk, .string pv0, .string x0.r.meth, .string x0.r.host, .string x0.r.path, .slice x0.aq x0.r.query.length x0.cq, .slice x0.ah x0.r.head.length x0.ch, .bool tls] 35) := box_block hb1
  have BB := bb2 B1 hb1
  have lz := liveN hz
  obtain ⟨z0, z1, z2, z3, z4, z5, z6, z7, z8⟩ : _ ∧ _ ∧ _ ∧ _ ∧ _ ∧ _ ∧ _ ∧ _ ∧ _ := ⟨cellN hz (i := 0) rfl, cellN hz (i := 1) rfl, cellN hz (i := 2) rfl, cellN hz (i := 3) rfl, cellN hz (i := 4) rfl, cellN hz (i := 5) rfl, cellN hz (i := 6) rfl, cellN hz (i := 7) rfl, cellN hz (i := 8) rfl⟩
  have K2 := hide (show ((((((((((w1.setCell ⟨w.heap.size, 0, none⟩ (.slice fa L.length fc)).setCell ⟨w.heap.size, 1, none⟩ (.int .i64 pk)).setCell ⟨w.heap.size, 2, none⟩ (.string pv)).setCell ⟨w.heap.size, 3, none⟩ (.string x.r.meth)).setCell ⟨w.heap.size, 4, none⟩ (.string x.r.host)).setCell ⟨w.heap.size, 5, none⟩ (.string x.r.path)).setCell ⟨w.heap.size, 6, none⟩ (.slice x.aq x.r.query.length x.cq)).setCell ⟨w.heap.size, 7, none⟩ (.slice x.ah x.r.head.length x.ch)).setCell ⟨w.heap.size, 8, none⟩ (.bool tls))).heap[w.heap.size]? = some (.cells #[.slice fa L.length fc, .int .i64 pk, .string pv, .string x.r.meth, .string x.r.host, .string x.r.path, .slice x.aq x.r.query.length x.cq, .slice x.ah x.r.head.length x.ch, .bool tls] 35) from setL_all [.slice fa L.length fc, .int .i64 pk, .string pv, .string x.r.meth, .string x.r.host, .string x.r.path, .slice x.aq x.r.query.length x.cq, .slice x.ah x.r.head.length x.ch, .bool tls] hz rfl)
  have row2 := hide (row_setL (k := 0) (cs := [.slice fa L.length fc, .int .i64 pk, .string pv, .string x.r.meth, .string x.r.host, .string x.r.path, .slice x.aq x.r.query.length x.cq, .slice x.ah x.r.head.length x.ch, .bool tls]) row hz (by decide))
  have own2 := hide (own.setL (k := 0) (cs := [.slice fa L.length fc, .int .i64 pk, .string pv, .string x.r.meth, .string x.r.host, .string x.r.path, .slice x.aq x.r.query.length x.cq, .slice x.ah x.r.head.length x.ch, .bool tls]) hz (by decide))
  have BB2 := hide (setL_below (w := w) (B := w.heap.size) (g := w.heap.size) (Nat.le_refl _) [.slice fa L.length fc, .int .i64 pk, .string pv, .string x.r.meth, .string x.r.host, .string x.r.path, .slice x.aq x.r.query.length x.cq, .slice x.ah x.r.head.length x.ch, .bool tls] _ 0 BB)
  obtain ⟨d0, d1, d2, d3, d4, d5, d6, d7, d8⟩ : _ ∧ _ ∧ _ ∧ _ ∧ _ ∧ _ ∧ _ ∧ _ ∧ _ := ⟨cellN K2.out (i := 0) rfl, cellN K2.out (i := 1) rfl, cellN K2.out (i := 2) rfl, cellN K2.out (i := 3) rfl, cellN K2.out (i := 4) rfl, cellN K2.out (i := 5) rfl, cellN K2.out (i := 6) rfl, cellN K2.out (i := 7) rfl, cellN K2.out (i := 8) rfl⟩
  clear hz row own BB
  clear B1 hb1
  go_wp2_with fail
  have kq : ((((((((((w1.setCell ⟨w.heap.size, 0, none⟩ (.slice fa L.length fc)).setCell ⟨w.heap.size, 1, none⟩ (.int .i64 pk)).setCell ⟨w.heap.size, 2, none⟩ (.string pv)).setCell ⟨w.heap.size, 3, none⟩ (.string x.r.meth)).setCell ⟨w.heap.size, 4, none⟩ (.string x.r.host)).setCell ⟨w.heap.size, 5, none⟩ (.string x.r.path)).setCell ⟨w.heap.size, 6, none⟩ (.slice x.aq x.r.query.length x.cq)).setCell ⟨w.heap.size, 7, none⟩ (.slice x.ah x.r.head.length x.ch)).setCell ⟨w.heap.size, 8, none⟩ (.bool tls))).heap[w.heap.size]? = some (.cells #[.slice fa L.length fc, .int .i64 pk, .string pv, .string x.r.meth, .string x.r.host, .string x.r.path, .slice x.aq x.r.query.length x.cq, .slice x.ah x.r.head.length x.ch, .bool tls] 35) := K2.out
  have rowq : ((((((((((w1.setCell ⟨w.heap.size, 0, none⟩ (.slice fa L.length fc)).setCell ⟨w.heap.size, 1, none⟩ (.int .i64 pk)).setCell ⟨w.heap.size, 2, none⟩ (.string pv)).setCell ⟨w.heap.size, 3, none⟩ (.string x.r.meth)).setCell ⟨w.heap.size, 4, none⟩ (.string x.r.host)).setCell ⟨w.heap.size, 5, none⟩ (.string x.r.path)).setCell ⟨w.heap.size, 6, none⟩ (.slice x.aq x.r.query.length x.cq)).setCell ⟨w.heap.size, 7, none⟩ (.slice x.ah x.r.head.length x.ch)).setCell ⟨w.heap.size, 8, none⟩ (.bool tls))).ownsRow fb 26 8 (.slice fa L.length fc) L.length (EF.flat L) := row2.out
  have ownq : RV.own x ((((((((((w1.setCell ⟨w.heap.size, 0, none⟩ (.slice fa L.length fc)).setCell ⟨w.heap.size, 1, none⟩ (.int .i64 pk)).setCell ⟨w.heap.size, 2, none⟩ (.string pv)).setCell ⟨w.heap.size, 3, none⟩ (.string x.r.meth)).setCell ⟨w.heap.size, 4, none⟩ (.string x.r.host)).setCell ⟨w.heap.size, 5, none⟩ (.string x.r.path)).setCell ⟨w.heap.size, 6, none⟩ (.slice x.aq x.r.query.length x.cq)).setCell ⟨w.heap.size, 7, none⟩ (.slice x.ah x.r.head.length x.ch)).setCell ⟨w.heap.size, 8, none⟩ (.bool tls))) := own2.out
  have BQ : Below w.heap.size w ((((((((((w1.setCell ⟨w.heap.size, 0, none⟩ (.slice fa L.length fc)).setCell ⟨w.heap.size, 1, none⟩ (.int .i64 pk)).setCell ⟨w.heap.size, 2, none⟩ (.string pv)).setCell ⟨w.heap.size, 3, none⟩ (.string x.r.meth)).setCell ⟨w.heap.size, 4, none⟩ (.string x.r.host)).setCell ⟨w.heap.size, 5, none⟩ (.string x.r.path)).setCell ⟨w.heap.size, 6, none⟩ (.slice x.aq x.r.query.length x.cq)).setCell ⟨w.heap.size, 7, none⟩ (.slice x.ah x.r.head.length x.ch)).setCell ⟨w.heap.size, 8, none⟩ (.bool tls))) := BB2.out
  clear K2 row2 own2 BB2 lz z0 z1 z2 z3 z4 z5 z6 z7 z8 d0 d1 d2 d3 d4 d5 d6 d7 d8
  generalize (((((((((w1.setCell ⟨w.heap.size, 0, none⟩ (.slice fa L.length fc)).setCell ⟨w.heap.size, 1, none⟩ (.int .i64 pk)).setCell ⟨w.heap.size, 2, none⟩ (.string pv)).setCell ⟨w.heap.size, 3, none⟩ (.string x.r.meth)).setCell ⟨w.heap.size, 4, none⟩ (.string x.r.host)).setCell ⟨w.heap.size, 5, none⟩ (.string x.r.path)).setCell ⟨w.heap.size, 6, none⟩ (.slice x.aq x.r.query.length x.cq)).setCell ⟨w.heap.size, 7, none⟩ (.slice x.ah x.r.head.length x.ch)).setCell ⟨w.heap.size, 8, none⟩ (.bool tls)) = V at *
  have slq : Sl EF V (.slice fa L.length fc) L := Sl.of_row (E := EF) rfl rowq (fun _ _ => trivial)
  have atq := ownq.at_
  clear rowq ownq
  have tabV : Tab10 V := Lib.tabBelow_of_tabIs htab V BQ
  have QC := fun W (h : Below V.heap.size V W) => (show W.cell? ⟨w.heap.size, 0, none⟩ = some (.slice fa L.length fc) ∧ W.cell? ⟨w.heap.size, 1, none⟩ = some (.int .i64 pk) ∧ W.cell? ⟨w.heap.size, 2, none⟩ = some (.string pv) ∧ W.cell? ⟨w.heap.size, 3, none⟩ = some (.string x.r.meth) ∧ W.cell? ⟨w.heap.size, 4, none⟩ = some (.string x.r.host) ∧ W.cell? ⟨w.heap.size, 5, none⟩ = some (.string x.r.path) ∧ W.cell? ⟨w.heap.size, 6, none⟩ = some (.slice x.aq x.r.query.length x.cq) ∧ W.cell? ⟨w.heap.size, 7, none⟩ = some (.slice x.ah x.r.head.length x.ch) ∧ W.cell? ⟨w.heap.size, 8, none⟩ = some (.bool tls) from (blk_below kq h |> fun k => ⟨cellN k (i := 0) rfl, cellN k (i := 1) rfl, cellN k (i := 2) rfl, cellN k (i := 3) rfl, cellN k (i := 4) rfl, cellN k (i := 5) rfl, cellN k (i := 6) rfl, cellN k (i := 7) rfl, cellN k (i := 8) rfl⟩))
  have CA := hide (away_any (.slice fa L.length fc) L pk pv x tls V slq okL pv100 okx.path okx.host (itoa_ports tabV))
  have CB := fun (y : RV) W (hy : y.r.host = x.r.host ∧ y.r.path = x.r.path) (h : Below V.heap.size V W) => hide (away_any (.slice fa L.length fc) L pk pv y tls W (slq.below h) okL pv100 (by rw [hy.2]; exact okx.path) (by rw [hy.1]; exact okx.host) (itoa_ports (Lib.tabBelow_of_tabIs tabV W h)))
  have HAW := hide (away_cases L pk pv x.r.host x.r.path tls)
  obtain ⟨AR, hAR⟩ : ∃ z, z = awayF L pk pv x.r.host x.r.path tls := ⟨_, rfl⟩
  rw [← hAR] at CA HAW
  have HAR := hide hAR
  obtain ⟨⟨ac, at_⟩, ae⟩ := AR
  dsimp only at CA
  have HQC := hide QC
  have hsl := slq.len
  obtain ⟨fa', fc', hfe, hcapL, hmaxL, hcL⟩ := slq
  injection hfe with hfe1 _ hfe2
  subst hfe1 hfe2
  have HCL := hide hcL
  have hlh := hv1.len
  obtain ⟨ha, hcap, rfl, _, _, hch⟩ := hv1
  have HCH := hide hch
  clear hcL hch QC hAR htab
  refine CA.out.mono ?_
  rintro e w2 ⟨rfl, hb2⟩
  clear CA
  have BA2 := (Below.refl _ w2).alloc (Nat.le_refl _) (.cells #[.int .i64 ac, .string at_] 50)
  obtain ⟨q0, q1, q2, q3, q4, q5, q6, q7, q8⟩ := HQC.out (w2.alloc (.cells #[.int .i64 ac, .string at_] 50)) (bb2 hb2 BA2)
  go_wp2_with fail
  clear q0 q1 q2 q3 q4 q5 q6 q7 q8
  have I0 := hide (alloc_new (w2.alloc (.cells #[.int .i64 ac, .string at_] 50)) (.cells #[.string x.r.meth, .string x.r.host, .string x.r.path, .slice x.aq x.r.query.length x.cq, .slice none 0 0] 33))
  have I1 := hide (blk_below (alloc_new w2 (.cells #[.int .i64 ac, .string at_] 50)) ((Below.refl _ (w2.alloc (.cells #[.int .i64 ac, .string at_] 50))).alloc (Nat.le_refl _) (.cells #[.string x.r.meth, .string x.r.host, .string x.r.path, .slice x.aq x.r.query.length x.cq, .slice none 0 0] 33)))
  have B23 := hide (bb2 hb2 (bb2 BA2 ((Below.refl _ (w2.alloc (.cells #[.int .i64 ac, .string at_] 50))).alloc (Nat.le_refl _) (.cells #[.string x.r.meth, .string x.r.host, .string x.r.path, .slice x.aq x.r.query.length x.cq, .slice none 0 0] 33))))
  rw [World.size_alloc] at I0
  have hVw : V.heap.size ≤ w2.heap.size := hb2.size
  clear BA2
  go_loopw [8] (fun i wr => ∃ (k : Nat) (oa : Option Addr) (oc : Nat), k ≤ hd.length ∧ k ≤ 5 ∧ i = .int .i64 k ∧ wr.heap[w2.heap.size + 1]? = some (.cells #[.string x.r.meth, .string x.r.host, .string x.r.path, .slice x.aq x.r.query.length x.cq, .slice oa k oc] 33) ∧ wr.heap[w2.heap.size]? = some (.cells #[.int .i64 ac, .string at_] 50) ∧ wr.ownsRow V.heap.size 54 2 (.slice oa k oc) k (flat (hd.take k)) ∧ Below V.heap.size V wr) (fun i _ => 5 - (intOf i).toNat)
  case atStart => exact ⟨0, none, 0, Nat.zero_le _, by omega, rfl, I0.out, I1.out, World.ownsRow_nil _ _ _ _, B23.out⟩
  case round =>
    obtain ⟨k, oa, oc, hk, hk5, rfl, hO, hA5, hrow, hB⟩ := hrel
    have HROW := hide hrow
    clear hrow
    by_cases hgo : k < hd.length ∧ k < 5
    · obtain ⟨hlt, h5⟩ := hgo
      have hlt' : (k : Int) < (hd.length : Int) := by omega
      have h5' : (k : Int) < 5 := by omega
      obtain ⟨g, off, rfl, hg, c1, c2⟩ := HCH.out k hlt
      have HTK := hide (take_next hlt)
      generalize hd[k].1 = p1 at *
      generalize hd[k].2 = p2 at *
      have m1 := fun W (h : InvA V (w2.heap.size + 1) (.cells #[.string x.r.meth, .string x.r.host, .string x.r.path, .slice x.aq x.r.query.length x.cq, .slice oa k oc] 33) w2.heap.size (.cells #[.int .i64 ac, .string at_] 50) W) => ((bb2 BQ h.below).cell (p := ⟨g, off + k * 2, none⟩) hg).trans c1
      have m2 := fun W (h : InvA V (w2.heap.size + 1) (.cells #[.string x.r.meth, .string x.r.host, .string x.r.path, .slice x.aq x.r.query.length x.cq, .slice oa k oc] 33) w2.heap.size (.cells #[.int .i64 ac, .string at_] 50) W) => ((bb2 BQ h.below).cell (p := ⟨g, off + k * 2 + 1, none⟩) hg).trans c2
      have m4 := fun W (h : InvA V (w2.heap.size + 1) (.cells #[.string x.r.meth, .string x.r.host, .string x.r.path, .slice x.aq x.r.query.length x.cq, .slice oa k oc] 33) w2.heap.size (.cells #[.int .i64 ac, .string at_] 50) W) => cellN h.o7 (i := 4) rfl
      clear c1 c2
      go_wp2_with fail
      refine wp_region_G 9 (InvA V (w2.heap.size + 1) (.cells #[.string x.r.meth, .string x.r.host, .string x.r.path, .slice x.aq x.r.query.length x.cq, .slice oa k oc] 33) w2.heap.size (.cells #[.int .i64 ac, .string at_] 50)) (by kernel_rfl) ⟨hB.drew, hO, hA5⟩ ?_
      refine wpG_take (i := 0) 5 (v := .pointer (some ⟨w2.heap.size + 1, 4, none⟩)) rfl (by kernel_rfl) (by kernel_rfl) (by kernel_rfl) (by decide) (by kernel_rfl) (by kernel_rfl) (fun _ _ _ h => h) (Or.inl ⟨by rfl, fun w1 hS => ?_⟩) ?_
      · (try dsimp only at hS)
        go_simp
      simp only [Act.put, List.setIfInBounds_toArray, List.set_cons_zero, List.set_cons_succ]
      refine wpG_take (i := 1) 5 (v := .slice oa k oc) rfl (by kernel_rfl) (by kernel_rfl) (by kernel_rfl) (by decide) (by kernel_rfl) (by kernel_rfl) (fun _ _ _ h => h) (Or.inl ⟨by rfl, fun w1 hS => ?_⟩) ?_
      · (try dsimp only at hS)
        go_simp
      simp only [Act.put, List.setIfInBounds_toArray, List.set_cons_zero, List.set_cons_succ]
      refine wpG_take (i := 2) 5 (v := .slice (some ⟨g, off, none⟩) hd.length hcap) rfl (by kernel_rfl) (by kernel_rfl) (by kernel_rfl) (by decide) (by kernel_rfl) (by kernel_rfl) (fun _ _ _ h => h) (Or.inl ⟨by rfl, fun w1 hS => ?_⟩) ?_
      · (try dsimp only at hS)
        go_simp
      simp only [Act.put, List.setIfInBounds_toArray, List.set_cons_zero, List.set_cons_succ]
      refine wpG_take (i := 3) 5 (v := .int .i64 k) rfl (by kernel_rfl) (by kernel_rfl) (by kernel_rfl) (by decide) (by kernel_rfl) (by kernel_rfl) (fun _ _ _ h => h) (Or.inl ⟨by rfl, fun w1 hS => ?_⟩) ?_
      · (try dsimp only at hS)
        go_simp
      simp only [Act.put, List.setIfInBounds_toArray, List.set_cons_zero, List.set_cons_succ]
      refine wpG_take (i := 4) 5 (v := .pointer (some ⟨g, off + k * 2, none⟩)) rfl (by kernel_rfl) (by kernel_rfl) (by kernel_rfl) (by decide) (by kernel_rfl) (by kernel_rfl) (fun _ _ _ h => h) (Or.inl ⟨by rfl, fun w1 hS => ?_⟩) ?_
      · (try dsimp only at hS)
        go_simp
      simp only [Act.put, List.setIfInBounds_toArray, List.set_cons_zero, List.set_cons_succ]
      refine wpG_take (i := 5) 5 (v := .agg #[.string p1, .string p2]) rfl (by kernel_rfl) (by kernel_rfl) (by kernel_rfl) (by decide) (by kernel_rfl) (by kernel_rfl) (fun _ _ _ h => h) (Or.inl ⟨by rfl, fun w1 hS => ?_⟩) ?_
      · (try dsimp only at hS)
        go_simp
      simp only [Act.put, List.setIfInBounds_toArray, List.set_cons_zero, List.set_cons_succ]
      clear m1 m2 m4
      refine wpG_ready (rs := [6]) (by kernel_rfl) (by simp) (fun W6 hG6 hS6 i hi => ?_)
      obtain rfl : i = 6 := by simpa using hi
      clear hi
      refine wpOp_step rfl (by rfl) (fun K' hK' => ?_)
      go_simp
      have ba6 := (Below.refl _ W6).alloc (Nat.le_refl _) (.cells #[.string p1, .string p2] 54)
      have SL6 : Prs (W6.alloc (.cells #[.string p1, .string p2] 54)) (.slice (some ⟨W6.heap.size, 0, none⟩) 1 1) [(p1, p2)] := Prs.lit1 W6 p1 p2
      have S6 : InvA V (w2.heap.size + 1) (.cells #[.string x.r.meth, .string x.r.host, .string x.r.path, .slice x.aq x.r.query.length x.cq, .slice oa k oc] 33) w2.heap.size (.cells #[.int .i64 ac, .string at_] 50) _ := ⟨bb2 hS6.below ba6, blk_below hS6.o7 ba6, blk_below hS6.o5 ba6⟩
      refine hK' _ _ (wpG_kept (by decide) S6 ?_)
      have hr6 : (W6.alloc (.cells #[.string p1, .string p2] 54)).ownsRow V.heap.size 54 2 (.slice oa k oc) k (flat (hd.take k)) := ownsRow_below (ownsRow_below HROW.out (bb2 ((Below.refl _ wr).drew) hG6)) ba6
      clear hK' K' hG6 hS6 ba6 S6
      refine wpG_ready (rs := [7]) (by kernel_rfl) (by simp) (fun W7 hG7 hS7 i hi => ?_)
      obtain rfl : i = 7 := by simpa using hi
      clear hi
      refine wpOp_step rfl (by rfl) (fun K' hK' => ?_)
      have hVs : V.heap.size ≤ W7.heap.size := hS7.below.size
      have hr7 := ownsRow_below hr6 hG7
      refine of_ifp (by rfl) (step_append_prs (E := True) (ops := #[]) W7 _ _ rfl rfl V.heap.size _ k (hd.take k) rfl hr7 _ [(p1, p2)] rfl (SL6.below hG7) (by simp; omega) hVs ?_)
      intro v7 w7 hown7 hgr7
      have S7 : InvA V (w2.heap.size + 1) (.cells #[.string x.r.meth, .string x.r.host, .string x.r.path, .slice x.aq x.r.query.length x.cq, .slice oa k oc] 33) w2.heap.size (.cells #[.int .i64 ac, .string at_] 50) w7 := ⟨hS7.below.grown hgr7 hVs (fun j e => ownBlock_ge hr7 e), grown_blk hgr7 (own_ne hr7 hS7.o7 (by decide)) hS7.o7, grown_blk hgr7 (own_ne hr7 hS7.o5 (by decide)) hS7.o5⟩
      refine hK' _ _ (wpG_kept (by decide) S7 ?_)
      obtain ⟨na, nc, hv7⟩ := row_form hown7
      subst hv7
      clear hK' K' hG7 hS7 S7 hr7 hr6 SL6 hVs
      refine wpG_take (i := 8) 5 (v := .pointer (some ⟨w2.heap.size + 1, 4, none⟩)) rfl (by kernel_rfl) (by kernel_rfl) (by kernel_rfl) (by decide) (by kernel_rfl) (by kernel_rfl) (fun _ _ _ h => h) (Or.inl ⟨by rfl, fun w1 hS => ?_⟩) ?_
      · (try dsimp only at hS)
        go_simp
      simp only [Act.put, List.setIfInBounds_toArray, List.set_cons_zero, List.set_cons_succ]
      refine wpG_ready (rs := [9]) (by kernel_rfl) (by simp) (fun W9 hG9 hS9 i hi => ?_)
      obtain rfl : i = 9 := by simpa using hi
      clear hi
      have r9 := ownsRow_below hown7 hG9
      obtain ⟨b9, o9, a9⟩ := hS9
      have x4 := cellN o9 (i := 4) rfl
      have lv := liveN o9
      refine wpOp_step rfl (by rfl) (fun K' hK' => ?_)
      go_simp
      refine hK' _ _ (wpG_past (by decide) ?_)
      clear hK' K' x4 lv hG9 hown7
      have o9' := hide (set_blk (i := 4) (.slice na (k + 1) nc) o9)
      have a9' := hide ((setL_far (g := w2.heap.size + 1) (m := w2.heap.size) (by omega) [.slice na (k + 1) nc] W9 4).trans a9)
      have r9' := hide (row_setL (k := 4) (cs := [.slice na (k + 1) nc]) r9 o9 (by decide))
      have b9' := hide (setL_below (w := V) (B := V.heap.size) (g := w2.heap.size + 1) (by omega) [.slice na (k + 1) nc] W9 4 b9)
      refine wpAny_end (by kernel_rfl) ?_
      clear o9 a9 r9 b9
      go_wp2_with fail
      exact ⟨⟨k + 1, na, nc, by omega, by omega, by go_num, o9'.out, a9'.out, by rw [HTK.out]; exact r9'.out, b9'.out⟩, by simp [intOf]; omega⟩
    · by_cases hlt : k < hd.length
      · have hlt' : (k : Int) < (hd.length : Int) := by omega
        have h5' : ¬ (k : Int) < 5 := by omega
        clear hgo
        obtain ⟨hs, hhs⟩ : ∃ hs : List PairB, hs.length = k := ⟨hd.take k, by simp; omega⟩
        subst hhs
        have CB2 := CB ⟨{ x.r with head := hs }, x.aq, x.cq, oa, oc⟩ wr ⟨rfl, rfl⟩ hB
        dsimp only at CB2
        rw [← HAR.out] at CB2
        dsimp only at CB2
        obtain ⟨q0, q1, q2, q3, q4, q5, q6, q7, q8⟩ := HQC.out wr hB
        obtain ⟨y0, y1, y2, y3, y4⟩ : _ ∧ _ ∧ _ ∧ _ ∧ _ := ⟨cellN hO (i := 0) rfl, cellN hO (i := 1) rfl, cellN hO (i := 2) rfl, cellN hO (i := 3) rfl, cellN hO (i := 4) rfl⟩
        clear CB HROW HCH
        go_wp2_with fail
        refine CB2.out.mono ?_
        rintro e w5 ⟨rfl, hb5⟩
        clear CB2 q0 q1 q2 q3 q4 q5 q6 q7 q8 y0 y1 y2 y3 y4
        have BB6 := (Below.refl _ w5).alloc (Nat.le_refl _) (.cells #[.int .i64 ac, .string at_] 50)
        have kb6 := hide (alloc_new w5 (.cells #[.int .i64 ac, .string at_] 50))
        have ka6 := hide (blk_below hA5 (bb2 hb5 BB6))
        have B56 := bb2 hB (bb2 hb5 BB6)
        clear hO hA5 hB hb5
        go_wp2_with fail
        obtain ⟨W6, hW6⟩ : ∃ z, z = w5.alloc (.cells #[.int .i64 ac, .string at_] 50) := ⟨_, rfl⟩
        rw [← hW6] at kb6 ka6 B56 ⊢
        clear BB6 hW6
        go_loopw [11, 12] (fun t i wr => ∃ m : Nat, m ≤ L.length ∧ i = .int .i64 m ∧ t = .bool ((L.take m).any fun f => f.kind == 4) ∧ Below W6.heap.size W6 wr) (fun _ i _ => L.length - (intOf i).toNat)
        case atStart => exact ⟨0, Nat.zero_le _, rfl, rfl, Below.refl _ _⟩
        case round =>
          obtain ⟨m, hm, rfl, rfl, hB7⟩ := hrel
          obtain ⟨q0, q1, q2, q3, q4, q5, q6, q7, q8⟩ := HQC.out wr (bb2 B56 hB7)
          by_cases hml : m < L.length
          · have hml' : (m : Int) < (L.length : Int) := by omega
            obtain ⟨_, g2, off2, rfl, hg2, hat2⟩ := HCL.out m hml
            have c0 := (EF_at (show EF.At wr g2 (off2 + m * 8) L[m] from fun j u hu => ((bb2 B56 hB7).cell (p := ⟨g2, off2 + m * 8 + j, none⟩) hg2).trans (hat2 j u hu))).1
            have HNX : Hid (((L.take (m + 1)).any fun f => f.kind == 4) = (((L.take m).any fun f => f.kind == 4) || L[m].kind == 4)) := by
              show _ = _
              rw [take_snocF hml, List.any_append]
              simp
            clear hat2
            generalize hfl1 : ((L.take (m + 1)).any fun f => f.kind == 4) = fl1 at *
            have HF1 := hide hfl1
            clear hfl1
            generalize ((L.take m).any fun f => f.kind == 4) = fl at *
            generalize L[m].kind = km at *
            cases fl
            all_goals
              go_wp2_with fail
              exact ⟨⟨m + 1, by omega, by go_num, by rw [HF1.out, HNX.out]; try rfl, hB7⟩, by simp [intOf]; omega⟩
          · have hml' : ¬ (m : Int) < (L.length : Int) := by omega
            have hme : m = L.length := by omega
            subst hme
            rw [List.take_length] at *
            obtain ⟨a0, a1⟩ : _ ∧ _ := ⟨cellN (blk_below ka6.out hB7) (i := 0) rfl, cellN (blk_below ka6.out hB7) (i := 1) rfl⟩
            obtain ⟨b0, b1⟩ : _ ∧ _ := ⟨cellN (blk_below kb6.out hB7) (i := 0) rfl, cellN (blk_below kb6.out hB7) (i := 1) rfl⟩
            have EQ := fun W => (eqAway ac ac at_ at_ W).trans (by rw [decide_eq_true ⟨rfl, rfl⟩])
            have BF := hide (bb2 BQ (bb2 B56 hB7))
            rcases HAW.out with ⟨er, he, her⟩ | ⟨he, hno⟩ | ⟨cc, rest, he, hcc, hrest, hex⟩
            · injection he with he1 he2
              injection he1 with he1 he3
              subst he1 he2 he3
              clear HAW HAR
              rcases her with rfl | rfl
              all_goals
                go_wp2_with fail
                refine (fawake_any _).mono ?_
                rintro e w30 ⟨rfl, hb30⟩
                go_wp2_with fail
                go_ret
                exact ⟨rfl, bb2 BF.out hb30⟩
            · injection he with he1 he2
              injection he1 with he1 he3
              subst he1 he2 he3
              have hfl : (L.any fun f => f.kind == 4) = false := by
                rw [List.any_eq_false]
                intro f hf
                rw [hno f hf]
                decide
              clear HAW HAR hno
              generalize (L.any fun f => f.kind == 4) = fl at *
              subst hfl
              go_wp2_with fail
              refine (fawake_any _).mono ?_
              rintro e w30 ⟨rfl, hb30⟩
              go_wp2_with fail
              go_ret
              exact ⟨rfl, bb2 BF.out hb30⟩
            · injection he with he1 he2
              injection he1 with he1 he3
              subst he1 he2
              have hfl : (L.any fun f => f.kind == 4) = true := by
                obtain ⟨f, hf, hf4⟩ := hex
                exact List.any_eq_true.2 ⟨f, hf, hf4⟩
              have hrl : 0 < rest.length := List.length_pos_iff.2 hrest
              have X1 : at_.extract 0 (scheme tls).length = mkB (scheme tls) := by rw [he3]; exact mkB_pre _ _
              have X2 : (scheme tls).length < at_.size := by rw [he3, mkB_size, List.length_append]; omega
              clear HAW HAR hex he3 hrest
              generalize (L.any fun f => f.kind == 4) = fl at *
              subst hfl
              have hcc' : (ac == 301) = true ∨ ((ac == 301) = false ∧ (ac == 302) = true) := by
                rcases hcc with h | h
                · exact .inl (by rw [h]; rfl)
                · exact .inr (by rw [h]; exact ⟨rfl, rfl⟩)
              clear hcc
              cases tls
              · have X1' : at_.extract 0 7 = ⟨#[104, 116, 116, 112, 58, 47, 47]⟩ := X1
                have X2' : (7 : Int) < (at_.size : Int) := by have : 7 < at_.size := X2; omega
                have X3' : (7 : Int) ≤ (at_.size : Int) := by omega
                have X4' : 7 ≤ at_.size := by omega
                clear X1 X2
                rcases hcc' with h | ⟨h, h'⟩
                all_goals
                  go_wp2_with fail
                  refine (fawake_any _).mono ?_
                  rintro e w30 ⟨rfl, hb30⟩
                  go_wp2_with fail
                  go_ret
                  exact ⟨rfl, bb2 BF.out hb30⟩
              · have X1' : at_.extract 0 8 = ⟨#[104, 116, 116, 112, 115, 58, 47, 47]⟩ := X1
                have X2' : (8 : Int) < (at_.size : Int) := by have : 8 < at_.size := X2; omega
                have X3' : (8 : Int) ≤ (at_.size : Int) := by omega
                have X4' : 8 ≤ at_.size := by omega
                clear X1 X2
                rcases hcc' with h | ⟨h, h'⟩
                all_goals
                  go_wp2_with fail
                  refine (fawake_any _).mono ?_
                  rintro e w30 ⟨rfl, hb30⟩
                  go_wp2_with fail
                  go_ret
                  exact ⟨rfl, bb2 BF.out hb30⟩
      · have hlt' : ¬ (k : Int) < (hd.length : Int) := by omega
        clear hgo
        obtain ⟨hs, hhs⟩ : ∃ hs : List PairB, hs.length = k := ⟨hd.take k, by simp; omega⟩
        subst hhs
        have CB2 := CB ⟨{ x.r with head := hs }, x.aq, x.cq, oa, oc⟩ wr ⟨rfl, rfl⟩ hB
        dsimp only at CB2
        rw [← HAR.out] at CB2
        dsimp only at CB2
        obtain ⟨q0, q1, q2, q3, q4, q5, q6, q7, q8⟩ := HQC.out wr hB
        obtain ⟨y0, y1, y2, y3, y4⟩ : _ ∧ _ ∧ _ ∧ _ ∧ _ := ⟨cellN hO (i := 0) rfl, cellN hO (i := 1) rfl, cellN hO (i := 2) rfl, cellN hO (i := 3) rfl, cellN hO (i := 4) rfl⟩
        clear CB HROW HCH
        go_wp2_with fail
        refine CB2.out.mono ?_
        rintro e w5 ⟨rfl, hb5⟩
        clear CB2 q0 q1 q2 q3 q4 q5 q6 q7 q8 y0 y1 y2 y3 y4
        have BB6 := (Below.refl _ w5).alloc (Nat.le_refl _) (.cells #[.int .i64 ac, .string at_] 50)
        have kb6 := hide (alloc_new w5 (.cells #[.int .i64 ac, .string at_] 50))
        have ka6 := hide (blk_below hA5 (bb2 hb5 BB6))
        have B56 := bb2 hB (bb2 hb5 BB6)
        clear hO hA5 hB hb5
        go_wp2_with fail
        obtain ⟨W6, hW6⟩ : ∃ z, z = w5.alloc (.cells #[.int .i64 ac, .string at_] 50) := ⟨_, rfl⟩
        rw [← hW6] at kb6 ka6 B56 ⊢
        clear BB6 hW6
        go_loopw [11, 12] (fun t i wr => ∃ m : Nat, m ≤ L.length ∧ i = .int .i64 m ∧ t = .bool ((L.take m).any fun f => f.kind == 4) ∧ Below W6.heap.size W6 wr) (fun _ i _ => L.length - (intOf i).toNat)
        case atStart => exact ⟨0, Nat.zero_le _, rfl, rfl, Below.refl _ _⟩
        case round =>
          obtain ⟨m, hm, rfl, rfl, hB7⟩ := hrel
          obtain ⟨q0, q1, q2, q3, q4, q5, q6, q7, q8⟩ := HQC.out wr (bb2 B56 hB7)
          by_cases hml : m < L.length
          · have hml' : (m : Int) < (L.length : Int) := by omega
            obtain ⟨_, g2, off2, rfl, hg2, hat2⟩ := HCL.out m hml
            have c0 := (EF_at (show EF.At wr g2 (off2 + m * 8) L[m] from fun j u hu => ((bb2 B56 hB7).cell (p := ⟨g2, off2 + m * 8 + j, none⟩) hg2).trans (hat2 j u hu))).1
            have HNX : Hid (((L.take (m + 1)).any fun f => f.kind == 4) = (((L.take m).any fun f => f.kind == 4) || L[m].kind == 4)) := by
              show _ = _
              rw [take_snocF hml, List.any_append]
              simp
            clear hat2
            generalize hfl1 : ((L.take (m + 1)).any fun f => f.kind == 4) = fl1 at *
            have HF1 := hide hfl1
            clear hfl1
            generalize ((L.take m).any fun f => f.kind == 4) = fl at *
            generalize L[m].kind = km at *
            cases fl
            all_goals
              go_wp2_with fail
              exact ⟨⟨m + 1, by omega, by go_num, by rw [HF1.out, HNX.out]; try rfl, hB7⟩, by simp [intOf]; omega⟩
          · have hml' : ¬ (m : Int) < (L.length : Int) := by omega
            have hme : m = L.length := by omega
            subst hme
            rw [List.take_length] at *
            obtain ⟨a0, a1⟩ : _ ∧ _ := ⟨cellN (blk_below ka6.out hB7) (i := 0) rfl, cellN (blk_below ka6.out hB7) (i := 1) rfl⟩
            obtain ⟨b0, b1⟩ : _ ∧ _ := ⟨cellN (blk_below kb6.out hB7) (i := 0) rfl, cellN (blk_below kb6.out hB7) (i := 1) rfl⟩
            have EQ := fun W => (eqAway ac ac at_ at_ W).trans (by rw [decide_eq_true ⟨rfl, rfl⟩])
            have BF := hide (bb2 BQ (bb2 B56 hB7))
            rcases HAW.out with ⟨er, he, her⟩ | ⟨he, hno⟩ | ⟨cc, rest, he, hcc, hrest, hex⟩
            · injection he with he1 he2
              injection he1 with he1 he3
              subst he1 he2 he3
              clear HAW HAR
              rcases her with rfl | rfl
              all_goals
                go_wp2_with fail
                refine (fawake_any _).mono ?_
                rintro e w30 ⟨rfl, hb30⟩
                go_wp2_with fail
                go_ret
                exact ⟨rfl, bb2 BF.out hb30⟩
            · injection he with he1 he2
              injection he1 with he1 he3
              subst he1 he2 he3
              have hfl : (L.any fun f => f.kind == 4) = false := by
                rw [List.any_eq_false]
                intro f hf
                rw [hno f hf]
                decide
              clear HAW HAR hno
              generalize (L.any fun f => f.kind == 4) = fl at *
              subst hfl
              go_wp2_with fail
              refine (fawake_any _).mono ?_
              rintro e w30 ⟨rfl, hb30⟩
              go_wp2_with fail
              go_ret
              exact ⟨rfl, bb2 BF.out hb30⟩
            · injection he with he1 he2
              injection he1 with he1 he3
              subst he1 he2
              have hfl : (L.any fun f => f.kind == 4) = true := by
                obtain ⟨f, hf, hf4⟩ := hex
                exact List.any_eq_true.2 ⟨f, hf, hf4⟩
              have hrl : 0 < rest.length := List.length_pos_iff.2 hrest
              have X1 : at_.extract 0 (scheme tls).length = mkB (scheme tls) := by rw [he3]; exact mkB_pre _ _
              have X2 : (scheme tls).length < at_.size := by rw [he3, mkB_size, List.length_append]; omega
              clear HAW HAR hex he3 hrest
              generalize (L.any fun f => f.kind == 4) = fl at *
              subst hfl
              have hcc' : (ac == 301) = true ∨ ((ac == 301) = false ∧ (ac == 302) = true) := by
                rcases hcc with h | h
                · exact .inl (by rw [h]; rfl)
                · exact .inr (by rw [h]; exact ⟨rfl, rfl⟩)
              clear hcc
              cases tls
              · have X1' : at_.extract 0 7 = ⟨#[104, 116, 116, 112, 58, 47, 47]⟩ := X1
                have X2' : (7 : Int) < (at_.size : Int) := by have : 7 < at_.size := X2; omega
                have X3' : (7 : Int) ≤ (at_.size : Int) := by omega
                have X4' : 7 ≤ at_.size := by omega
                clear X1 X2
                rcases hcc' with h | ⟨h, h'⟩
                all_goals
                  go_wp2_with fail
                  refine (fawake_any _).mono ?_
                  rintro e w30 ⟨rfl, hb30⟩
                  go_wp2_with fail
                  go_ret
                  exact ⟨rfl, bb2 BF.out hb30⟩
              · have X1' : at_.extract 0 8 = ⟨#[104, 116, 116, 112, 115, 58, 47, 47]⟩ := X1
                have X2' : (8 : Int) < (at_.size : Int) := by have : 8 < at_.size := X2; omega
                have X3' : (8 : Int) ≤ (at_.size : Int) := by omega
                have X4' : 8 ≤ at_.size := by omega
                clear X1 X2
                rcases hcc' with h | ⟨h, h'⟩
                all_goals
                  go_wp2_with fail
                  refine (fawake_any _).mono ?_
                  rintro e w30 ⟨rfl, hb30⟩
                  go_wp2_with fail
                  go_ret
                  exact ⟨rfl, bb2 BF.out hb30⟩

end Go.Proofs.YtfoabpkiaihkiaaDoor
namespace Go.Proofs.YtfoabpkiaihkiaaDoor
set_option maxRecDepth 20000
open Go Go.RowKit Go.Shelf Fi

/-- from the row's condition on its listed tables: this one stands third -/
theorem tab10_laid {W : World} {n1 n2 : String} {d1 d2 : DataW Unit} {rest : List (String × DataW Unit)} (h : laidMet Tryd.prog ((n1, d1) :: (n2, d2) :: ("internal/strconv.uint64pow10", Lib.tabData .u64 Lib.pow10Tab) :: rest) W) : Tab10 W := by
  obtain ⟨ps, ⟨_, _, _, _, _, _, _, _, _, _, ⟨_, _, _, _, _, _, _, _, _, _, ⟨g, t, cs, fuel, p, q, hg, ht, hvar, hd, _, _⟩, _⟩, _⟩, _⟩ := h
  have hg0 : Tryd.prog.globalNamed "internal/strconv.uint64pow10" = some 0 := by kernel_rfl
  obtain rfl : g = 0 := Option.some.inj (hg.symm.trans hg0)
  have ht0 : (Tryd.prog.globals[0]?).map (·.type) = some 109 := by kernel_rfl
  obtain rfl : t = 109 := Option.some.inj (ht.symm.trans ht0)
  unfold Tab10 Lib.TabIs
  rw [hvar, ← Lib.cells_of_tab Tryd.underlying109 Tryd.underlying99 (by kernel_rfl) (by kernel_rfl) hd]

end Go.Proofs.YtfoabpkiaihkiaaDoor
