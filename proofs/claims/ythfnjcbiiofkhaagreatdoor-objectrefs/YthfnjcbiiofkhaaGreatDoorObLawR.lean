/-
  The law ObjectRefs.
-/
import Derived.Test.YthfnjcbiiofkhaaGreatDoorJ28
import Derived.Test.YthfnjcbiiofkhaaGreatDoorObFewC
import Derived.Test.YthfnjcbiiofkhaaGreatDoorJ17
import Derived.Test.YthfnjcbiiofkhaaGreatDoorJ18
import Derived.Test.YthfnjcbiiofkhaaGreatDoorJ16
set_option maxHeartbeats 12800000
set_option linter.unusedVariables false
set_option linter.unusedSimpArgs false
set_option maxRecDepth 20000
namespace Go.Proofs.YthfnjcbiiofkhaaGreatDoor
open Go Go.RowKit Go.Shelf Go.Deep
theorem aNd (w:World) (va vb:Value) (L:List RfB) (ha:Sl ER w va L) (hb:Sl ER w vb L) :
  Calls Tryz.prog 12 #[va,vb] w fun e w'=>e=.returned (.bool true)∧Below w.heap.size w w':=by
 have:=aGv w va vb L L ha hb
 rw [(Ob.eqL_iff (fun a b=>Ob.eqR_iff) L L).2 rfl] at this
 exact this
theorem aUw (v0:Value) (w:World) (h0:aLg w v0) :
  Calls Tryz.prog 4 #[v0] w fun e w'=>e=.returned (.bool true)∧Below w.heap.size w w':=by
 obtain ⟨x,rfl,hx,raw⟩:=h0
 have CF:=fun W (h:Below w.heap.size w W)=>hide (aI8 x W (hx.below h) raw)
 have B1:Below w.heap.size w (w.alloc (.cells #[.int .i64 x.ref.kind,.string x.ref.space,.string x.ref.name,.bool x.good,.slice x.al x.labels.length x.cl,.slice x.ap x.ports.length x.cp,.string x.cls,.slice x.ai x.lis.length x.ci,.slice x.aq x.pars.length x.cq,.slice x.ah x.hosts.length x.ch,.slice x.ar x.rules.length x.cr,.slice x.af x.frm.length x.cf,.slice x.ao x.tos.length x.co] 32)):=(Below.refl _ _).alloc (Nat.le_refl _) _
 clear hx raw
 go_enter Tryz.func4,Tryz.ntmps4
 go_wp2_with fail
 refine (CF _ B1).out.mono ?_
 rintro e w1 ⟨y,rfl,hy,hown,hb1⟩
 have hz:w1.heap[w.heap.size]?=some (.cells #[.int .i64 x.ref.kind,.string x.ref.space,.string x.ref.name,.bool x.good,.slice x.al x.labels.length x.cl,.slice x.ap x.ports.length x.cp,.string x.cls,.slice x.ai x.lis.length x.ci,.slice x.aq x.pars.length x.cq,.slice x.ah x.hosts.length x.ch,.slice x.ar x.rules.length x.cr,.slice x.af x.frm.length x.cf,.slice x.ao x.tos.length x.co] 32):=aAy hb1
 have BB:=bb2 B1 hb1
 have lz:=aBg hz
 obtain ⟨z0,z1,z2,z3,z4,z5,z6,z7,z8,z9,z10,z11,z12⟩:_∧_∧_∧_∧_∧_∧_∧_∧_∧_∧_∧_∧_:=⟨aA2 hz (i:=0) rfl,aA2 hz (i:=1) rfl,aA2 hz (i:=2) rfl,aA2 hz (i:=3) rfl,aA2 hz (i:=4) rfl,aA2 hz (i:=5) rfl,aA2 hz (i:=6) rfl,aA2 hz (i:=7) rfl,aA2 hz (i:=8) rfl,aA2 hz (i:=9) rfl,aA2 hz (i:=10) rfl,aA2 hz (i:=11) rfl,aA2 hz (i:=12) rfl⟩
 have K2:=hide (show ((((((((((((((w1.setCell ⟨w.heap.size,0,none⟩ (.int .i64 y.ref.kind)).setCell ⟨w.heap.size,1,none⟩ (.string y.ref.space)).setCell ⟨w.heap.size,2,none⟩ (.string y.ref.name)).setCell ⟨w.heap.size,3,none⟩ (.bool y.good)).setCell ⟨w.heap.size,4,none⟩ (.slice y.al y.labels.length y.cl)).setCell ⟨w.heap.size,5,none⟩ (.slice y.ap y.ports.length y.cp)).setCell ⟨w.heap.size,6,none⟩ (.string y.cls)).setCell ⟨w.heap.size,7,none⟩ (.slice y.ai y.lis.length y.ci)).setCell ⟨w.heap.size,8,none⟩ (.slice y.aq y.pars.length y.cq)).setCell ⟨w.heap.size,9,none⟩ (.slice y.ah y.hosts.length y.ch)).setCell ⟨w.heap.size,10,none⟩ (.slice y.ar y.rules.length y.cr)).setCell ⟨w.heap.size,11,none⟩ (.slice y.af y.frm.length y.cf)).setCell ⟨w.heap.size,12,none⟩ (.slice y.ao y.tos.length y.co))).heap[w.heap.size]?=some (.cells #[.int .i64 y.ref.kind,.string y.ref.space,.string y.ref.name,.bool y.good,.slice y.al y.labels.length y.cl,.slice y.ap y.ports.length y.cp,.string y.cls,.slice y.ai y.lis.length y.ci,.slice y.aq y.pars.length y.cq,.slice y.ah y.hosts.length y.ch,.slice y.ar y.rules.length y.cr,.slice y.af y.frm.length y.cf,.slice y.ao y.tos.length y.co] 32) from aC2 [.int .i64 y.ref.kind,.string y.ref.space,.string y.ref.name,.bool y.good,.slice y.al y.labels.length y.cl,.slice y.ap y.ports.length y.cp,.string y.cls,.slice y.ai y.lis.length y.ci,.slice y.aq y.pars.length y.cq,.slice y.ah y.hosts.length y.ch,.slice y.ar y.rules.length y.cr,.slice y.af y.frm.length y.cf,.slice y.ao y.tos.length y.co] hz rfl)
 have own2:=hide (show OV.own y (((((((((((((w1.setCell ⟨w.heap.size,0,none⟩ (.int .i64 y.ref.kind)).setCell ⟨w.heap.size,1,none⟩ (.string y.ref.space)).setCell ⟨w.heap.size,2,none⟩ (.string y.ref.name)).setCell ⟨w.heap.size,3,none⟩ (.bool y.good)).setCell ⟨w.heap.size,4,none⟩ (.slice y.al y.labels.length y.cl)).setCell ⟨w.heap.size,5,none⟩ (.slice y.ap y.ports.length y.cp)).setCell ⟨w.heap.size,6,none⟩ (.string y.cls)).setCell ⟨w.heap.size,7,none⟩ (.slice y.ai y.lis.length y.ci)).setCell ⟨w.heap.size,8,none⟩ (.slice y.aq y.pars.length y.cq)).setCell ⟨w.heap.size,9,none⟩ (.slice y.ah y.hosts.length y.ch)).setCell ⟨w.heap.size,10,none⟩ (.slice y.ar y.rules.length y.cr)).setCell ⟨w.heap.size,11,none⟩ (.slice y.af y.frm.length y.cf)).setCell ⟨w.heap.size,12,none⟩ (.slice y.ao y.tos.length y.co)) from hown.bx ((BX.refl w.heap.size w1.heap.size w1).setL 0 [.int .i64 y.ref.kind,.string y.ref.space,.string y.ref.name,.bool y.good,.slice y.al y.labels.length y.cl,.slice y.ap y.ports.length y.cp,.string y.cls,.slice y.ai y.lis.length y.ci,.slice y.aq y.pars.length y.cq,.slice y.ah y.hosts.length y.ch,.slice y.ar y.rules.length y.cr,.slice y.af y.frm.length y.cf,.slice y.ao y.tos.length y.co]) hz)
 have BB2:=hide (show Below w.heap.size w (((((((((((((w1.setCell ⟨w.heap.size,0,none⟩ (.int .i64 y.ref.kind)).setCell ⟨w.heap.size,1,none⟩ (.string y.ref.space)).setCell ⟨w.heap.size,2,none⟩ (.string y.ref.name)).setCell ⟨w.heap.size,3,none⟩ (.bool y.good)).setCell ⟨w.heap.size,4,none⟩ (.slice y.al y.labels.length y.cl)).setCell ⟨w.heap.size,5,none⟩ (.slice y.ap y.ports.length y.cp)).setCell ⟨w.heap.size,6,none⟩ (.string y.cls)).setCell ⟨w.heap.size,7,none⟩ (.slice y.ai y.lis.length y.ci)).setCell ⟨w.heap.size,8,none⟩ (.slice y.aq y.pars.length y.cq)).setCell ⟨w.heap.size,9,none⟩ (.slice y.ah y.hosts.length y.ch)).setCell ⟨w.heap.size,10,none⟩ (.slice y.ar y.rules.length y.cr)).setCell ⟨w.heap.size,11,none⟩ (.slice y.af y.frm.length y.cf)).setCell ⟨w.heap.size,12,none⟩ (.slice y.ao y.tos.length y.co)) from aB7 (w:=w) (B:=w.heap.size) (g:=w.heap.size) (Nat.le_refl _) [.int .i64 y.ref.kind,.string y.ref.space,.string y.ref.name,.bool y.good,.slice y.al y.labels.length y.cl,.slice y.ap y.ports.length y.cp,.string y.cls,.slice y.ai y.lis.length y.ci,.slice y.aq y.pars.length y.cq,.slice y.ah y.hosts.length y.ch,.slice y.ar y.rules.length y.cr,.slice y.af y.frm.length y.cf,.slice y.ao y.tos.length y.co] _ 0 BB)
 obtain ⟨d0,d1,d2,d3,d4,d5,d6,d7,d8,d9,d10,d11,d12⟩:_∧_∧_∧_∧_∧_∧_∧_∧_∧_∧_∧_∧_:=⟨aA2 K2.out (i:=0) rfl,aA2 K2.out (i:=1) rfl,aA2 K2.out (i:=2) rfl,aA2 K2.out (i:=3) rfl,aA2 K2.out (i:=4) rfl,aA2 K2.out (i:=5) rfl,aA2 K2.out (i:=6) rfl,aA2 K2.out (i:=7) rfl,aA2 K2.out (i:=8) rfl,aA2 K2.out (i:=9) rfl,aA2 K2.out (i:=10) rfl,aA2 K2.out (i:=11) rfl,aA2 K2.out (i:=12) rfl⟩
 have ok:=aK0 hy
 have HOK:=hide ok
 have HY:=hide hy
 clear hz hown BB B1 hb1 CF hy ok
 go_wp2_with fail
 have kq:((((((((((((((w1.setCell ⟨w.heap.size,0,none⟩ (.int .i64 y.ref.kind)).setCell ⟨w.heap.size,1,none⟩ (.string y.ref.space)).setCell ⟨w.heap.size,2,none⟩ (.string y.ref.name)).setCell ⟨w.heap.size,3,none⟩ (.bool y.good)).setCell ⟨w.heap.size,4,none⟩ (.slice y.al y.labels.length y.cl)).setCell ⟨w.heap.size,5,none⟩ (.slice y.ap y.ports.length y.cp)).setCell ⟨w.heap.size,6,none⟩ (.string y.cls)).setCell ⟨w.heap.size,7,none⟩ (.slice y.ai y.lis.length y.ci)).setCell ⟨w.heap.size,8,none⟩ (.slice y.aq y.pars.length y.cq)).setCell ⟨w.heap.size,9,none⟩ (.slice y.ah y.hosts.length y.ch)).setCell ⟨w.heap.size,10,none⟩ (.slice y.ar y.rules.length y.cr)).setCell ⟨w.heap.size,11,none⟩ (.slice y.af y.frm.length y.cf)).setCell ⟨w.heap.size,12,none⟩ (.slice y.ao y.tos.length y.co))).heap[w.heap.size]?=some (.cells #[.int .i64 y.ref.kind,.string y.ref.space,.string y.ref.name,.bool y.good,.slice y.al y.labels.length y.cl,.slice y.ap y.ports.length y.cp,.string y.cls,.slice y.ai y.lis.length y.ci,.slice y.aq y.pars.length y.cq,.slice y.ah y.hosts.length y.ch,.slice y.ar y.rules.length y.cr,.slice y.af y.frm.length y.cf,.slice y.ao y.tos.length y.co] 32):=K2.out
 have ownq:OV.own y (((((((((((((w1.setCell ⟨w.heap.size,0,none⟩ (.int .i64 y.ref.kind)).setCell ⟨w.heap.size,1,none⟩ (.string y.ref.space)).setCell ⟨w.heap.size,2,none⟩ (.string y.ref.name)).setCell ⟨w.heap.size,3,none⟩ (.bool y.good)).setCell ⟨w.heap.size,4,none⟩ (.slice y.al y.labels.length y.cl)).setCell ⟨w.heap.size,5,none⟩ (.slice y.ap y.ports.length y.cp)).setCell ⟨w.heap.size,6,none⟩ (.string y.cls)).setCell ⟨w.heap.size,7,none⟩ (.slice y.ai y.lis.length y.ci)).setCell ⟨w.heap.size,8,none⟩ (.slice y.aq y.pars.length y.cq)).setCell ⟨w.heap.size,9,none⟩ (.slice y.ah y.hosts.length y.ch)).setCell ⟨w.heap.size,10,none⟩ (.slice y.ar y.rules.length y.cr)).setCell ⟨w.heap.size,11,none⟩ (.slice y.af y.frm.length y.cf)).setCell ⟨w.heap.size,12,none⟩ (.slice y.ao y.tos.length y.co)):=own2.out
 have BQ:Below w.heap.size w (((((((((((((w1.setCell ⟨w.heap.size,0,none⟩ (.int .i64 y.ref.kind)).setCell ⟨w.heap.size,1,none⟩ (.string y.ref.space)).setCell ⟨w.heap.size,2,none⟩ (.string y.ref.name)).setCell ⟨w.heap.size,3,none⟩ (.bool y.good)).setCell ⟨w.heap.size,4,none⟩ (.slice y.al y.labels.length y.cl)).setCell ⟨w.heap.size,5,none⟩ (.slice y.ap y.ports.length y.cp)).setCell ⟨w.heap.size,6,none⟩ (.string y.cls)).setCell ⟨w.heap.size,7,none⟩ (.slice y.ai y.lis.length y.ci)).setCell ⟨w.heap.size,8,none⟩ (.slice y.aq y.pars.length y.cq)).setCell ⟨w.heap.size,9,none⟩ (.slice y.ah y.hosts.length y.ch)).setCell ⟨w.heap.size,10,none⟩ (.slice y.ar y.rules.length y.cr)).setCell ⟨w.heap.size,11,none⟩ (.slice y.af y.frm.length y.cf)).setCell ⟨w.heap.size,12,none⟩ (.slice y.ao y.tos.length y.co)):=BB2.out
 clear K2 own2 BB2 lz z0 z1 z2 z3 z4 z5 z6 z7 z8 z9 z10 z11 z12 d0 d1 d2 d3 d4 d5 d6 d7 d8 d9 d10 d11 d12
 generalize (((((((((((((w1.setCell ⟨w.heap.size,0,none⟩ (.int .i64 y.ref.kind)).setCell ⟨w.heap.size,1,none⟩ (.string y.ref.space)).setCell ⟨w.heap.size,2,none⟩ (.string y.ref.name)).setCell ⟨w.heap.size,3,none⟩ (.bool y.good)).setCell ⟨w.heap.size,4,none⟩ (.slice y.al y.labels.length y.cl)).setCell ⟨w.heap.size,5,none⟩ (.slice y.ap y.ports.length y.cp)).setCell ⟨w.heap.size,6,none⟩ (.string y.cls)).setCell ⟨w.heap.size,7,none⟩ (.slice y.ai y.lis.length y.ci)).setCell ⟨w.heap.size,8,none⟩ (.slice y.aq y.pars.length y.cq)).setCell ⟨w.heap.size,9,none⟩ (.slice y.ah y.hosts.length y.ch)).setCell ⟨w.heap.size,10,none⟩ (.slice y.ar y.rules.length y.cr)).setCell ⟨w.heap.size,11,none⟩ (.slice y.af y.frm.length y.cf)).setCell ⟨w.heap.size,12,none⟩ (.slice y.ao y.tos.length y.co))=V at *
 have at_:=ownq.at_
 have ok:=HOK.out
 have m0:=fun W (h:Below V.heap.size V W)=>aA2 (aA0 kq h) (i:=0) rfl
 have m1:=fun W (h:Below V.heap.size V W)=>aA2 (aA0 kq h) (i:=1) rfl
 have m2:=fun W (h:Below V.heap.size V W)=>aA2 (aA0 kq h) (i:=2) rfl
 have m3:=fun W (h:Below V.heap.size V W)=>aA2 (aA0 kq h) (i:=3) rfl
 have m4:=fun W (h:Below V.heap.size V W)=>aA2 (aA0 kq h) (i:=4) rfl
 have m5:=fun W (h:Below V.heap.size V W)=>aA2 (aA0 kq h) (i:=5) rfl
 have m6:=fun W (h:Below V.heap.size V W)=>aA2 (aA0 kq h) (i:=6) rfl
 have m7:=fun W (h:Below V.heap.size V W)=>aA2 (aA0 kq h) (i:=7) rfl
 have m8:=fun W (h:Below V.heap.size V W)=>aA2 (aA0 kq h) (i:=8) rfl
 have m9:=fun W (h:Below V.heap.size V W)=>aA2 (aA0 kq h) (i:=9) rfl
 have m10:=fun W (h:Below V.heap.size V W)=>aA2 (aA0 kq h) (i:=10) rfl
 have m11:=fun W (h:Below V.heap.size V W)=>aA2 (aA0 kq h) (i:=11) rfl
 have m12:=fun W (h:Below V.heap.size V W)=>aA2 (aA0 kq h) (i:=12) rfl
 have AT:=hide at_
 have OKY:=hide ok
 have BZ:=hide BQ
 clear at_ ok kq ownq BQ HOK HY
 refine wp_region_noPanic ?_
 refine wp_region_held_drew (S:=fun W=>Below (V).heap.size (V) W) (by kernel_rfl) ((Below.refl _ _).drew) (fun hHeld=>?_)
 refine zzH 0 ?_ rfl ?_ ?_
 rotate_left 1
 ·(intro W hSw;(try dsimp only at hSw);have q0:=m0 W hSw ;have q1:=m1 W hSw ;have q2:=m2 W hSw ;have q3:=m3 W hSw ;have q4:=m4 W hSw ;have q5:=m5 W hSw ;have q6:=m6 W hSw ;have q7:=m7 W hSw ;have q8:=m8 W hSw ;have q9:=m9 W hSw ;have q10:=m10 W hSw ;have q11:=m11 W hSw ;have q12:=m12 W hSw;go_simp;(try with_reducible rfl))
 try simp only [Act.put,zzB,zzC,zzD]
 refine zzH 2 ?_ rfl ?_ ?_
 rotate_left 1
 ·(intro W hSw;(try dsimp only at hSw);have q0:=m0 W hSw ;have q1:=m1 W hSw ;have q2:=m2 W hSw ;have q3:=m3 W hSw ;have q4:=m4 W hSw ;have q5:=m5 W hSw ;have q6:=m6 W hSw ;have q7:=m7 W hSw ;have q8:=m8 W hSw ;have q9:=m9 W hSw ;have q10:=m10 W hSw ;have q11:=m11 W hSw ;have q12:=m12 W hSw;go_simp;(try with_reducible rfl))
 try simp only [Act.put,zzB,zzC,zzD]
 refine wpAnyH_ready (rs:=[1]) (by kernel_rfl) (by simp) ?_
 refine AllReadyH.cons (op_at (rest:=_) rfl) (fun K hK=>?_) AllReadyH.nil
 go_simp
 refine ((aN3 y _ (AT.out.below hHeld) OKY.out)).mono ?_
 rintro e w5 ⟨v5,rfl,hs5,hb5⟩
 go_wp2_with fail
 replace hHeld:=hHeld.trans (hb5.mono hHeld.size)
 refine hK.out _ _ hHeld (fun _=>?_)
 clear hK K
 try simp only [Act.put,zzB,zzC,zzD]
 refine wpAnyH_ready (rs:=[3]) (by kernel_rfl) (by simp) ?_
 refine AllReadyH.cons (op_at (rest:=_) rfl) (fun K hK=>?_) AllReadyH.nil
 go_simp
 refine ((aSu y _ (AT.out.below hHeld) OKY.out)).mono ?_
 rintro e w6 ⟨v6,rfl,hs6,hb6⟩
 go_wp2_with fail
 replace hHeld:=hHeld.trans (hb6.mono hHeld.size)
 refine hK.out _ _ hHeld (fun _=>?_)
 clear hK K
 try simp only [Act.put,zzB,zzC,zzD]
 refine wpAnyH_ready (rs:=[4]) (by kernel_rfl) (by simp) ?_
 refine AllReadyH.cons (op_at (rest:=_) rfl) (fun K hK=>?_) AllReadyH.nil
 go_simp
 refine ((aNd _ _ _ _ (hs5.below hb6) hs6)).mono ?_
 rintro e w7 ⟨rfl,hb7⟩
 go_wp2_with fail
 replace hHeld:=hHeld.trans (hb7.mono hHeld.size)
 refine hK.out _ _ hHeld (fun _=>?_)
 clear hK K
 try simp only [Act.put,zzB,zzC,zzD]
 refine zzH 5 ?_ rfl ?_ ?_
 rotate_left 1
 ·(intro W hSw;(try dsimp only at hSw);go_simp;(try with_reducible rfl))
 try simp only [Act.put,zzB,zzC,zzD]
 refine wpAnyH_ready (rs:=[6]) (by kernel_rfl) (by simp) ?_
 refine AllReadyH.cons (op_at (rest:=_) rfl) (fun K hK=>?_) AllReadyH.nil
 go_simp
 refine ((aJd _)).mono ?_
 rintro e w8 ⟨rfl,hb8⟩
 go_wp2_with fail
 replace hHeld:=hHeld.trans (hb8.mono hHeld.size)
 refine hK.out _ _ hHeld (fun _=>?_)
 clear hK K
 try simp only [Act.put,zzB,zzC,zzD]
 refine zzH 7 ?_ rfl ?_ ?_
 rotate_left 1
 ·(intro W hSw;(try dsimp only at hSw);go_simp;(try with_reducible rfl))
 try simp only [Act.put,zzB,zzC,zzD]
 refine zzH 8 ?_ rfl ?_ ?_
 rotate_left 1
 ·(intro W hSw;(try dsimp only at hSw);go_simp;(try with_reducible rfl))
 try simp only [Act.put,zzB,zzC,zzD]
 refine wpAnyH_done (by kernel_rfl) ?_ _
 refine NoPanic.normal ?_
 go_wp2_with fail
 go_ret
 exact ⟨rfl,bb2 BZ.out hHeld⟩
end Go.Proofs.YthfnjcbiiofkhaaGreatDoor
