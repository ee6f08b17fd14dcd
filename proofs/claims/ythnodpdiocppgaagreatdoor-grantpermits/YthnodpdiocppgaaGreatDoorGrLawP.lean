/-
  The law GrantPermits.
-/
import Derived.Test.YthnodpdiocppgaaGreatDoorJ27
import Derived.Test.YthnodpdiocppgaaGreatDoorJ29
import Derived.Test.YthnodpdiocppgaaGreatDoorJ30
import Derived.Test.YthnodpdiocppgaaGreatDoorJ25
import Derived.BigQuiet
set_option maxHeartbeats 12800000
set_option linter.unusedVariables false
set_option linter.unusedSimpArgs false
set_option maxRecDepth 20000
namespace Go.Proofs.YthnodpdiocppgaaGreatDoor
open Go Go.RowKit Go.Shelf
attribute [local go_sem] aAu
theorem aNf {L':List OV} {l:List OB} (h:L'.map OV.b=aDw l):∀ o∈L',LenO o:=fun o ho=>by
 have:o.b∈aDw l:=by rw [←h];exact List.mem_map.2 ⟨o,ho,rfl⟩
 obtain ⟨b,_,hb⟩:=List.mem_map.1 this
 exact aLy hb.symm
theorem aKm (w:World) (va vb:Value) (L:List RfB) (ha:Sl ER w va L) (hb:Sl ER w vb L) :
  Calls Tryz.prog 19 #[va,vb] w fun e w'=>e=.returned (.bool true)∧Below w.heap.size w w':=by
 have:=aLp w va vb L L ha hb
 rw [Ob.eqL_yes L L rfl (fun k _ _=>Ob.eqR_iff.2 rfl)] at this
 exact this
theorem aNg (v0:Value) (w:World) (h0:aTw w v0) :
  Calls Tryz.prog 3 #[v0] w fun e w'=>e=.returned (.bool true)∧Below w.heap.size w w':=by
 obtain ⟨a0,cap,L0,k,s0,r0,rfl,hL0,raw,hs0,rr⟩:=h0
 obtain ⟨rk0,rs0,rn0⟩:=r0
 have B1:Below w.heap.size w (w.alloc (.cells #[.slice a0 L0.length cap,.int .i64 k,.string s0,.int .i64 rk0,.string rs0,.string rn0] 26)):=(Below.refl _ _).alloc (Nat.le_refl _) _
 have CF:=hide (aXy k s0 ⟨rk0,rs0,rn0⟩ _ (hL0.below B1) raw hs0 rr)
 clear hL0 raw hs0 rr
 go_enter Tryz.func3,Tryz.ntmps3
 go_wp2_with fail
 refine CF.out.mono ?_
 rintro e w1 ⟨a,c,L,rfl,hL,hown,hb1⟩
 obtain ⟨okL,hl24⟩:=aMb hL
 have HLN:=hide (aNf hL)
 have hz:w1.heap[w.heap.size]?=some (.cells #[.slice a0 L0.length cap,.int .i64 k,.string s0,.int .i64 rk0,.string rs0,.string rn0] 26):=aB7 hb1
 have BB:=bb2 B1 hb1
 obtain ⟨s,hs⟩:∃ z,fewB s0=z:=⟨_,rfl⟩
 obtain ⟨⟨rk,rs,rn⟩,hr⟩:∃ z,aC1 ⟨rk0,rs0,rn0⟩=z:=⟨_,rfl⟩
 rw [hs,hr]
 have hsz2:s.size≤100:=by rw [←hs];exact aBe _
 have hrf:OkRf ⟨rk,rs,rn⟩:=by rw [←hr];exact aF3 _
 clear hs hr hL
 have lz:=aAl hz
 obtain ⟨z0,z1,z2,z3,z4,z5⟩:_∧_∧_∧_∧_∧_:=⟨aA0 hz (i:=0) rfl,aA0 hz (i:=1) rfl,aA0 hz (i:=2) rfl,aA0 hz (i:=3) rfl,aA0 hz (i:=4) rfl,aA0 hz (i:=5) rfl⟩
 have K2:=hide (show ((((((w1.setCell ⟨w.heap.size,0,none⟩ (.slice a L.length c)).setCell ⟨w.heap.size,1,none⟩ (.int .i64 k)).setCell ⟨w.heap.size,2,none⟩ (.string s)).setCell ⟨w.heap.size,3,none⟩ (.int .i64 rk)).setCell ⟨w.heap.size,4,none⟩ (.string rs)).setCell ⟨w.heap.size,5,none⟩ (.string rn)).heap[w.heap.size]?=some (.cells #[.slice a L.length c,.int .i64 k,.string s,.int .i64 rk,.string rs,.string rn] 26) from aB2 [.slice a L.length c,.int .i64 k,.string s,.int .i64 rk,.string rs,.string rn] hz rfl)
 have OW:=hide (show OwL _ _ _ ((((((w1.setCell ⟨w.heap.size,0,none⟩ (.slice a L.length c)).setCell ⟨w.heap.size,1,none⟩ (.int .i64 k)).setCell ⟨w.heap.size,2,none⟩ (.string s)).setCell ⟨w.heap.size,3,none⟩ (.int .i64 rk)).setCell ⟨w.heap.size,4,none⟩ (.string rs)).setCell ⟨w.heap.size,5,none⟩ (.string rn)) from hown.bxt ((BX.refl w.heap.size w1.heap.size w1).setL 0 [.slice a L.length c,.int .i64 k,.string s,.int .i64 rk,.string rs,.string rn]) hz (by decide) (by decide))
 have BB2:=hide (show Below w.heap.size w ((((((w1.setCell ⟨w.heap.size,0,none⟩ (.slice a L.length c)).setCell ⟨w.heap.size,1,none⟩ (.int .i64 k)).setCell ⟨w.heap.size,2,none⟩ (.string s)).setCell ⟨w.heap.size,3,none⟩ (.int .i64 rk)).setCell ⟨w.heap.size,4,none⟩ (.string rs)).setCell ⟨w.heap.size,5,none⟩ (.string rn)) from aAh (w:=w) (B:=w.heap.size) (g:=w.heap.size) (Nat.le_refl _) [.slice a L.length c,.int .i64 k,.string s,.int .i64 rk,.string rs,.string rn] _ 0 BB)
 obtain ⟨d0,d1,d2,d3,d4,d5⟩:_∧_∧_∧_∧_∧_:=⟨aA0 K2.out (i:=0) rfl,aA0 K2.out (i:=1) rfl,aA0 K2.out (i:=2) rfl,aA0 K2.out (i:=3) rfl,aA0 K2.out (i:=4) rfl,aA0 K2.out (i:=5) rfl⟩
 have HOK:=hide okL
 have HRF:=hide hrf
 clear hz hown BB B1 hb1 CF okL hrf
 go_wp2_with fail
 have kq:((((((w1.setCell ⟨w.heap.size,0,none⟩ (.slice a L.length c)).setCell ⟨w.heap.size,1,none⟩ (.int .i64 k)).setCell ⟨w.heap.size,2,none⟩ (.string s)).setCell ⟨w.heap.size,3,none⟩ (.int .i64 rk)).setCell ⟨w.heap.size,4,none⟩ (.string rs)).setCell ⟨w.heap.size,5,none⟩ (.string rn)).heap[w.heap.size]?=some (.cells #[.slice a L.length c,.int .i64 k,.string s,.int .i64 rk,.string rs,.string rn] 26):=K2.out
 have SL:=OW.out.sl
 have BQ:Below w.heap.size w ((((((w1.setCell ⟨w.heap.size,0,none⟩ (.slice a L.length c)).setCell ⟨w.heap.size,1,none⟩ (.int .i64 k)).setCell ⟨w.heap.size,2,none⟩ (.string s)).setCell ⟨w.heap.size,3,none⟩ (.int .i64 rk)).setCell ⟨w.heap.size,4,none⟩ (.string rs)).setCell ⟨w.heap.size,5,none⟩ (.string rn)):=BB2.out
 clear K2 BB2 OW lz z0 z1 z2 z3 z4 z5 d0 d1 d2 d3 d4 d5
 generalize ((((((w1.setCell ⟨w.heap.size,0,none⟩ (.slice a L.length c)).setCell ⟨w.heap.size,1,none⟩ (.int .i64 k)).setCell ⟨w.heap.size,2,none⟩ (.string s)).setCell ⟨w.heap.size,3,none⟩ (.int .i64 rk)).setCell ⟨w.heap.size,4,none⟩ (.string rs)).setCell ⟨w.heap.size,5,none⟩ (.string rn))=V at *
 have okL:=HOK.out
 have CF:=hide (aH0 ⟨rk,rs,rn⟩ V SL HLN.out)
 have HKQ:=hide (fun W (h:Below V.heap.size V W)=>aA2 kq h)
 have HSL:=hide SL
 have HBQ:=hide BQ
 refine CF.out.mono ?_
 rintro e w3 ⟨y,rfl,hy,haty,hb3⟩
 clear CF
 obtain ⟨Z1,hZ1⟩:∃ z,z=w3.alloc (.cells #[.int .i64 y.ref.kind,.string y.ref.space,.string y.ref.name,.bool y.good,.slice y.al y.labels.length y.cl,.slice y.ap y.ports.length y.cp,.string y.cls,.slice y.ai y.lis.length y.ci,.slice y.aq y.pars.length y.cq,.slice y.ah y.hosts.length y.ch,.slice y.ar y.rules.length y.cr,.slice y.af y.frm.length y.cf,.slice y.ao y.tos.length y.co] 36):=⟨_,rfl⟩
 have BZ1:Below w3.heap.size w3 Z1:=by rw [hZ1];exact (Below.refl _ _).alloc (Nat.le_refl _) _
 have HB1:=hide (bb2 hb3 BZ1)
 have HKY:=hide (show Z1.heap[w3.heap.size]?=some (.cells #[.int .i64 y.ref.kind,.string y.ref.space,.string y.ref.name,.bool y.good,.slice y.al y.labels.length y.cl,.slice y.ap y.ports.length y.cp,.string y.cls,.slice y.ai y.lis.length y.ci,.slice y.aq y.pars.length y.cq,.slice y.ah y.hosts.length y.ch,.slice y.ar y.rules.length y.cr,.slice y.af y.frm.length y.cf,.slice y.ao y.tos.length y.co] 36) by rw [hZ1];exact aA7 _ _)
 have HAY:=hide (haty.below BZ1)
 have CG:=hide (aS5 ⟨rk,rs,rn⟩ Z1 (HSL.out.below HB1.out))
 have ka:=HKQ.out _ HB1.out
 obtain ⟨o0,o1,o2,o3,o4,o5⟩:_∧_∧_∧_∧_∧_:=⟨aA0 ka (i:=0) rfl,aA0 ka (i:=1) rfl,aA0 ka (i:=2) rfl,aA0 ka (i:=3) rfl,aA0 ka (i:=4) rfl,aA0 ka (i:=5) rfl⟩
 rw [hZ1] at o0 o1 o2 o3 o4 o5
 clear ka kq SL BQ haty
 have HYB:=hide hy
 clear hy
 go_wp2_with fail
 rw [←hZ1]
 clear hZ1 o0 o1 o2 o3 o4 o5
 refine CG.out.mono ?_
 rintro e w4 ⟨z,rfl,hz,hatz,hb4⟩
 clear CG
 obtain ⟨Z2,hZ2⟩:∃ u,u=w4.alloc (.cells #[.int .i64 z.ref.kind,.string z.ref.space,.string z.ref.name,.bool z.good,.slice z.al z.labels.length z.cl,.slice z.ap z.ports.length z.cp,.string z.cls,.slice z.ai z.lis.length z.ci,.slice z.aq z.pars.length z.cq,.slice z.ah z.hosts.length z.ch,.slice z.ar z.rules.length z.cr,.slice z.af z.frm.length z.cf,.slice z.ao z.tos.length z.co] 36):=⟨_,rfl⟩
 have BZ2:Below w4.heap.size w4 Z2:=by rw [hZ2];exact (Below.refl _ _).alloc (Nat.le_refl _) _
 have HB2:=hide (bb2 HB1.out (bb2 hb4 BZ2))
 have HKZ2:=hide (show Z2.heap[w4.heap.size]?=some (.cells #[.int .i64 z.ref.kind,.string z.ref.space,.string z.ref.name,.bool z.good,.slice z.al z.labels.length z.cl,.slice z.ap z.ports.length z.cp,.string z.cls,.slice z.ai z.lis.length z.ci,.slice z.aq z.pars.length z.cq,.slice z.ah z.hosts.length z.ch,.slice z.ar z.rules.length z.cr,.slice z.af z.frm.length z.cf,.slice z.ao z.tos.length z.co] 36) by rw [hZ2];exact aA7 _ _)
 have CS:∀ q:GB Z2,Hid (Calls Tryz.prog 12 #[.agg #[.int .i64 y.ref.kind,.string y.ref.space,.string y.ref.name,.bool y.good,.slice y.al y.labels.length y.cl,.slice y.ap y.ports.length y.cp,.string y.cls,.slice y.ai y.lis.length y.ci,.slice y.aq y.pars.length y.cq,.slice y.ah y.hosts.length y.ch,.slice y.ar y.rules.length y.cr,.slice y.af y.frm.length y.cf,.slice y.ao y.tos.length y.co],.agg #[.int .i64 z.ref.kind,.string z.ref.space,.string z.ref.name,.bool z.good,.slice z.al z.labels.length z.cl,.slice z.ap z.ports.length z.cp,.string z.cls,.slice z.ai z.lis.length z.ci,.slice z.aq z.pars.length z.cq,.slice z.ah z.hosts.length z.ch,.slice z.ar z.rules.length z.cr,.slice z.af z.frm.length z.cf,.slice z.ao z.tos.length z.co]] q.W fun e w'=>e=.returned (.bool true)∧Below q.W.heap.size q.W w'):=fun q=>by
  have h:=aCe y z q.W (HAY.out.below (bb2 (bb2 hb4 BZ2) q.h)) ((hatz.below BZ2).below q.h)
  have e:Ob.sameO y.b z.b=true:=by rw [HYB.out,hz];exact Ob.sameO_self _
  rw [e] at h
  exact hide h
 have CN:=fun q:GB Z2=>hide (show Calls Tryz.prog 13 #[.agg #[.int .i64 rk,.string rs,.string rn],.string s] q.W fun e w'=>e=.returned (rfV (Ob.near s ⟨rk,rs,rn⟩))∧Below q.W.heap.size q.W w' from aH1 ⟨rk,rs,rn⟩ s q.W)
 have CM:=fun q:GB Z2=>hide (show Calls Tryz.prog 14 #[.agg #[.int .i64 rk,.string rs,.string rn],.string s] q.W fun e w'=>e=.returned (rfV (Ob.near s ⟨rk,rs,rn⟩))∧Below q.W.heap.size q.W w' from aPj ⟨rk,rs,rn⟩ s q.W)
 have EQ:=aG9 (Ob.near s ⟨rk,rs,rn⟩) (Ob.near s ⟨rk,rs,rn⟩)
 rw [Ob.eqR_iff.2 rfl] at EQ
 generalize Ob.near s ⟨rk,rs,rn⟩=nr at *
 obtain ⟨nk,ns,nn⟩:=nr
 dsimp only at CN CM EQ
 have kyq:=fun q:GB Z2=>aA2 HKY.out (bb2 (bb2 hb4 BZ2) q.h)
 obtain ⟨a0,a1,a2,a3,a4,a5,a6,a7,a8,a9,a10,a11,a12⟩:_∧_∧_∧_∧_∧_∧_∧_∧_∧_∧_∧_∧_:=⟨fun q:GB Z2=>aA0 (kyq q) (i:=0) rfl,fun q:GB Z2=>aA0 (kyq q) (i:=1) rfl,fun q:GB Z2=>aA0 (kyq q) (i:=2) rfl,fun q:GB Z2=>aA0 (kyq q) (i:=3) rfl,fun q:GB Z2=>aA0 (kyq q) (i:=4) rfl,fun q:GB Z2=>aA0 (kyq q) (i:=5) rfl,fun q:GB Z2=>aA0 (kyq q) (i:=6) rfl,fun q:GB Z2=>aA0 (kyq q) (i:=7) rfl,fun q:GB Z2=>aA0 (kyq q) (i:=8) rfl,fun q:GB Z2=>aA0 (kyq q) (i:=9) rfl,fun q:GB Z2=>aA0 (kyq q) (i:=10) rfl,fun q:GB Z2=>aA0 (kyq q) (i:=11) rfl,fun q:GB Z2=>aA0 (kyq q) (i:=12) rfl⟩
 have kzq:=fun q:GB Z2=>aA2 HKZ2.out q.h
 obtain ⟨b0,b1,b2,b3,b4,b5,b6,b7,b8,b9,b10,b11,b12⟩:_∧_∧_∧_∧_∧_∧_∧_∧_∧_∧_∧_∧_:=⟨fun q:GB Z2=>aA0 (kzq q) (i:=0) rfl,fun q:GB Z2=>aA0 (kzq q) (i:=1) rfl,fun q:GB Z2=>aA0 (kzq q) (i:=2) rfl,fun q:GB Z2=>aA0 (kzq q) (i:=3) rfl,fun q:GB Z2=>aA0 (kzq q) (i:=4) rfl,fun q:GB Z2=>aA0 (kzq q) (i:=5) rfl,fun q:GB Z2=>aA0 (kzq q) (i:=6) rfl,fun q:GB Z2=>aA0 (kzq q) (i:=7) rfl,fun q:GB Z2=>aA0 (kzq q) (i:=8) rfl,fun q:GB Z2=>aA0 (kzq q) (i:=9) rfl,fun q:GB Z2=>aA0 (kzq q) (i:=10) rfl,fun q:GB Z2=>aA0 (kzq q) (i:=11) rfl,fun q:GB Z2=>aA0 (kzq q) (i:=12) rfl⟩
 have kqq:=fun q:GB Z2=>HKQ.out _ (bb2 HB2.out q.h)
 obtain ⟨g0,g1,g2,g3,g4,g5⟩:_∧_∧_∧_∧_∧_:=⟨fun q:GB Z2=>aA0 (kqq q) (i:=0) rfl,fun q:GB Z2=>aA0 (kqq q) (i:=1) rfl,fun q:GB Z2=>aA0 (kqq q) (i:=2) rfl,fun q:GB Z2=>aA0 (kqq q) (i:=3) rfl,fun q:GB Z2=>aA0 (kqq q) (i:=4) rfl,fun q:GB Z2=>aA0 (kqq q) (i:=5) rfl⟩
 generalize (Gr.find (L.map OV.b) ⟨rk,rs,rn⟩).isSome=isv at *
 clear kyq kzq kqq hz hatz HYB
 go_wp2_with fail
 rw [←hZ2]
 clear hZ2
 refine aA6 (by kernel_rfl) (by kernel_rfl) ?_
 repeat (first | go_big_quiet_step ((first | (go_at_call 12;exact aA3 (CS _).out) | (go_at_call 13;exact aA3 (CN _).out) | (go_at_call 14;exact aA3 (CM _).out))) | quiet_step ((first | (go_at_call 12;exact aA3 (CS _).out) | (go_at_call 13;exact aA3 (CN _).out) | (go_at_call 14;exact aA3 (CM _).out))))
 refine wpQuiet_nil ?_
 intro _ hw'
 obtain ⟨za,hw2⟩:=hw'
 subst hw2
 have hza:=za.h
 go_wp2_with fail
 have HB3:=hide (bb2 HB2.out hza)
 clear a0 b0 a1 b1 a2 b2 a3 b3 a4 b4 a5 b5 a6 b6 a7 b7 a8 b8 a9 b9 a10 b10 a11 b11 a12 b12 g0 g1 g2 g3 g4 g5 CS CN CM EQ
 have HO:=hide (fun W (h:Below V.heap.size V W) j (hj:j<L.length)=>oneO HSL.out h hj)
 have hzs:=hza.size
 go_loopw [7] (fun i wr=>∃ j:Nat,j≤L.length∧i=.int .i64 j∧Below za.W.heap.size za.W wr) (fun i _=>L.length - (intOf i).toNat)
 case atStart=>exact ⟨0,Nat.zero_le _,rfl,Below.refl _ _⟩
 case round =>
  obtain ⟨j,hj,rfl,hB⟩:=hrel
  have hBV:=bb2 HB3.out hB
  have ka:=HKQ.out _ hBV
  by_cases hlt:j<L.length
  ·have hlt':(j:Int)<(L.length:Int):=by omega
   obtain ⟨o0,o1,o2,o3,o4,o5⟩:_∧_∧_∧_∧_∧_:=⟨aA0 ka (i:=0) rfl,aA0 ka (i:=1) rfl,aA0 ka (i:=2) rfl,aA0 ka (i:=3) rfl,aA0 ka (i:=4) rfl,aA0 ka (i:=5) rfl⟩
   obtain ⟨hA,gg,off,rfl,hgg,c0,c1,c2,c3,c4,c5,c6,c7,c8,c9,c10,c11,c12⟩:=HO.out _ hBV j hlt
   have q0:=fun q:GB wr=>(q.h.cell (p:=⟨gg,off+j*13,none⟩) (Nat.lt_of_lt_of_le hgg hBV.size)).trans c0
   have q1:=fun q:GB wr=>(q.h.cell (p:=⟨gg,off+j*13+1,none⟩) (Nat.lt_of_lt_of_le hgg hBV.size)).trans c1
   have q2:=fun q:GB wr=>(q.h.cell (p:=⟨gg,off+j*13+2,none⟩) (Nat.lt_of_lt_of_le hgg hBV.size)).trans c2
   have q3:=fun q:GB wr=>(q.h.cell (p:=⟨gg,off+j*13+3,none⟩) (Nat.lt_of_lt_of_le hgg hBV.size)).trans c3
   have q4:=fun q:GB wr=>(q.h.cell (p:=⟨gg,off+j*13+4,none⟩) (Nat.lt_of_lt_of_le hgg hBV.size)).trans c4
   have q5:=fun q:GB wr=>(q.h.cell (p:=⟨gg,off+j*13+5,none⟩) (Nat.lt_of_lt_of_le hgg hBV.size)).trans c5
   have q6:=fun q:GB wr=>(q.h.cell (p:=⟨gg,off+j*13+6,none⟩) (Nat.lt_of_lt_of_le hgg hBV.size)).trans c6
   have q7:=fun q:GB wr=>(q.h.cell (p:=⟨gg,off+j*13+7,none⟩) (Nat.lt_of_lt_of_le hgg hBV.size)).trans c7
   have q8:=fun q:GB wr=>(q.h.cell (p:=⟨gg,off+j*13+8,none⟩) (Nat.lt_of_lt_of_le hgg hBV.size)).trans c8
   have q9:=fun q:GB wr=>(q.h.cell (p:=⟨gg,off+j*13+9,none⟩) (Nat.lt_of_lt_of_le hgg hBV.size)).trans c9
   have q10:=fun q:GB wr=>(q.h.cell (p:=⟨gg,off+j*13+10,none⟩) (Nat.lt_of_lt_of_le hgg hBV.size)).trans c10
   have q11:=fun q:GB wr=>(q.h.cell (p:=⟨gg,off+j*13+11,none⟩) (Nat.lt_of_lt_of_le hgg hBV.size)).trans c11
   have q12:=fun q:GB wr=>(q.h.cell (p:=⟨gg,off+j*13+12,none⟩) (Nat.lt_of_lt_of_le hgg hBV.size)).trans c12
   have kaq:=fun q:GB wr=>HKQ.out _ (bb2 hBV q.h)
   have r0:=fun q:GB wr=>aA0 (kaq q) (i:=0) rfl
   have r1:=fun q:GB wr=>aA0 (kaq q) (i:=1) rfl
   have r2:=fun q:GB wr=>aA0 (kaq q) (i:=2) rfl
   have r3:=fun q:GB wr=>aA0 (kaq q) (i:=3) rfl
   have r4:=fun q:GB wr=>aA0 (kaq q) (i:=4) rfl
   have r5:=fun q:GB wr=>aA0 (kaq q) (i:=5) rfl
   have hok:=okL _ (List.getElem_mem hlt)
   have CL:=fun q:GB wr=>hide (aM6 L[j] k s ⟨rk,rs,rn⟩ q.W (hA.below q.h) hok)
   have CR:=fun q:GB wr=>hide (aKh L[j] k s ⟨rk,rs,rn⟩ q.W (hA.below q.h) hok)
   generalize Gr.lets L[j].b k s ⟨rk,rs,rn⟩=pv at *
   clear kaq ka hA hok
   generalize L[j]=x at *
   cases pv
   all_goals
    go_wp2_with fail
    refine aA6 (by kernel_rfl) (by kernel_rfl) ?_
    repeat (first | go_big_quiet_step ((first | (go_at_call 15;exact aA3 (CL _).out) | (go_at_call 16;exact aA3 (CR _).out))) | quiet_step ((first | (go_at_call 15;exact aA3 (CL _).out) | (go_at_call 16;exact aA3 (CR _).out))))
    refine wpQuiet_nil ?_
    intro _ hw'
    obtain ⟨qq,hw2⟩:=hw'
    subst hw2
    have hqq:=qq.h
    go_wp2_with fail
    exact ⟨⟨j+1,by omega,by go_num,bb2 hB hqq⟩,by simp [intOf];omega⟩
  ·have hlt':¬ (j:Int)<(L.length:Int):=by omega
   obtain ⟨o0,o1,o2,o3,o4,o5⟩:_∧_∧_∧_∧_∧_:=⟨aA0 ka (i:=0) rfl,aA0 ka (i:=1) rfl,aA0 ka (i:=2) rfl,aA0 ka (i:=3) rfl,aA0 ka (i:=4) rfl,aA0 ka (i:=5) rfl⟩
   have HKZ:=fun W (h:Below wr.heap.size wr W)=>aA2 ka h
   have SLW:=hide (fun W (h:Below wr.heap.size wr W)=>HSL.out.below (bb2 hBV h))
   have hl1000:L.length≤1000:=by omega
   have HBZ:=hide (bb2 HBQ.out hBV)
   have CP:=fun W (h:Below wr.heap.size wr W)=>hide (aGy k s ⟨rk,rs,rn⟩ W (SLW.out W h) okL)
   have CQ:=fun W (h:Below wr.heap.size wr W)=>hide (aMh k s ⟨rk,rs,rn⟩ W (SLW.out W h) okL hl1000)
   have CB:=fun W (h:Below wr.heap.size wr W)=>hide (aVe k s ⟨rk,rs,rn⟩ W (SLW.out W h) okL hl1000)
   have CC:=fun W (h:Below wr.heap.size wr W)=>hide (aNt k s ⟨rk,rs,rn⟩ W (SLW.out W h) okL hl1000)
   generalize Gr.permits (L.map OV.b) k s ⟨rk,rs,rn⟩=pv at *
   generalize Gr.by_ (L.map OV.b) k s ⟨rk,rs,rn⟩=R at *
   clear ka
   go_wp2_with fail
   clear o0 o1 o2 o3 o4 o5
   cases pv
   all_goals
    refine wp_region_noPanic ?_
    refine wp_region_held_drew (S:=fun W=>Below (wr).heap.size (wr) W) (by kernel_rfl) ((Below.refl _ _).drew) (fun hHeld=>?_)
    refine zzH 0 ?_ rfl ?_ ?_
    rotate_left 1
    ·(intro W hSw;(try dsimp only at hSw);have p0:=aA0 (HKZ _ hSw) (i:=0) rfl ;have p1:=aA0 (HKZ _ hSw) (i:=1) rfl ;have p2:=aA0 (HKZ _ hSw) (i:=2) rfl ;have p3:=aA0 (HKZ _ hSw) (i:=3) rfl ;have p4:=aA0 (HKZ _ hSw) (i:=4) rfl ;have p5:=aA0 (HKZ _ hSw) (i:=5) rfl;go_simp;(try with_reducible rfl))
    try simp only [Act.put,zzB,zzC,zzD]
    refine zzH 2 ?_ rfl ?_ ?_
    rotate_left 1
    ·(intro W hSw;(try dsimp only at hSw);have p0:=aA0 (HKZ _ hSw) (i:=0) rfl ;have p1:=aA0 (HKZ _ hSw) (i:=1) rfl ;have p2:=aA0 (HKZ _ hSw) (i:=2) rfl ;have p3:=aA0 (HKZ _ hSw) (i:=3) rfl ;have p4:=aA0 (HKZ _ hSw) (i:=4) rfl ;have p5:=aA0 (HKZ _ hSw) (i:=5) rfl;go_simp;(try with_reducible rfl))
    try simp only [Act.put,zzB,zzC,zzD]
    refine zzH 4 ?_ rfl ?_ ?_
    rotate_left 1
    ·(intro W hSw;(try dsimp only at hSw);have p0:=aA0 (HKZ _ hSw) (i:=0) rfl ;have p1:=aA0 (HKZ _ hSw) (i:=1) rfl ;have p2:=aA0 (HKZ _ hSw) (i:=2) rfl ;have p3:=aA0 (HKZ _ hSw) (i:=3) rfl ;have p4:=aA0 (HKZ _ hSw) (i:=4) rfl ;have p5:=aA0 (HKZ _ hSw) (i:=5) rfl;go_simp;(try with_reducible rfl))
    try simp only [Act.put,zzB,zzC,zzD]
    refine zzH 6 ?_ rfl ?_ ?_
    rotate_left 1
    ·(intro W hSw;(try dsimp only at hSw);have p0:=aA0 (HKZ _ hSw) (i:=0) rfl ;have p1:=aA0 (HKZ _ hSw) (i:=1) rfl ;have p2:=aA0 (HKZ _ hSw) (i:=2) rfl ;have p3:=aA0 (HKZ _ hSw) (i:=3) rfl ;have p4:=aA0 (HKZ _ hSw) (i:=4) rfl ;have p5:=aA0 (HKZ _ hSw) (i:=5) rfl;go_simp;(try with_reducible rfl))
    try simp only [Act.put,zzB,zzC,zzD]
    refine zzH 9 ?_ rfl ?_ ?_
    rotate_left 1
    ·(intro W hSw;(try dsimp only at hSw);have p0:=aA0 (HKZ _ hSw) (i:=0) rfl ;have p1:=aA0 (HKZ _ hSw) (i:=1) rfl ;have p2:=aA0 (HKZ _ hSw) (i:=2) rfl ;have p3:=aA0 (HKZ _ hSw) (i:=3) rfl ;have p4:=aA0 (HKZ _ hSw) (i:=4) rfl ;have p5:=aA0 (HKZ _ hSw) (i:=5) rfl;go_simp;(try with_reducible rfl))
    try simp only [Act.put,zzB,zzC,zzD]
    refine zzH 11 ?_ rfl ?_ ?_
    rotate_left 1
    ·(intro W hSw;(try dsimp only at hSw);have p0:=aA0 (HKZ _ hSw) (i:=0) rfl ;have p1:=aA0 (HKZ _ hSw) (i:=1) rfl ;have p2:=aA0 (HKZ _ hSw) (i:=2) rfl ;have p3:=aA0 (HKZ _ hSw) (i:=3) rfl ;have p4:=aA0 (HKZ _ hSw) (i:=4) rfl ;have p5:=aA0 (HKZ _ hSw) (i:=5) rfl;go_simp;(try with_reducible rfl))
    try simp only [Act.put,zzB,zzC,zzD]
    refine zzH 13 ?_ rfl ?_ ?_
    rotate_left 1
    ·(intro W hSw;(try dsimp only at hSw);have p0:=aA0 (HKZ _ hSw) (i:=0) rfl ;have p1:=aA0 (HKZ _ hSw) (i:=1) rfl ;have p2:=aA0 (HKZ _ hSw) (i:=2) rfl ;have p3:=aA0 (HKZ _ hSw) (i:=3) rfl ;have p4:=aA0 (HKZ _ hSw) (i:=4) rfl ;have p5:=aA0 (HKZ _ hSw) (i:=5) rfl;go_simp;(try with_reducible rfl))
    try simp only [Act.put,zzB,zzC,zzD]
    refine zzH 15 ?_ rfl ?_ ?_
    rotate_left 1
    ·(intro W hSw;(try dsimp only at hSw);have p0:=aA0 (HKZ _ hSw) (i:=0) rfl ;have p1:=aA0 (HKZ _ hSw) (i:=1) rfl ;have p2:=aA0 (HKZ _ hSw) (i:=2) rfl ;have p3:=aA0 (HKZ _ hSw) (i:=3) rfl ;have p4:=aA0 (HKZ _ hSw) (i:=4) rfl ;have p5:=aA0 (HKZ _ hSw) (i:=5) rfl;go_simp;(try with_reducible rfl))
    try simp only [Act.put,zzB,zzC,zzD]
    refine zzH 1 ?_ rfl ?_ ?_
    rotate_left 1
    ·(intro W hSw;(try dsimp only at hSw);have p0:=aA0 (HKZ _ hSw) (i:=0) rfl ;have p1:=aA0 (HKZ _ hSw) (i:=1) rfl ;have p2:=aA0 (HKZ _ hSw) (i:=2) rfl ;have p3:=aA0 (HKZ _ hSw) (i:=3) rfl ;have p4:=aA0 (HKZ _ hSw) (i:=4) rfl ;have p5:=aA0 (HKZ _ hSw) (i:=5) rfl;go_simp;(try with_reducible rfl))
    try simp only [Act.put,zzB,zzC,zzD]
    refine zzH 3 ?_ rfl ?_ ?_
    rotate_left 1
    ·(intro W hSw;(try dsimp only at hSw);have p0:=aA0 (HKZ _ hSw) (i:=0) rfl ;have p1:=aA0 (HKZ _ hSw) (i:=1) rfl ;have p2:=aA0 (HKZ _ hSw) (i:=2) rfl ;have p3:=aA0 (HKZ _ hSw) (i:=3) rfl ;have p4:=aA0 (HKZ _ hSw) (i:=4) rfl ;have p5:=aA0 (HKZ _ hSw) (i:=5) rfl;go_simp;(try with_reducible rfl))
    try simp only [Act.put,zzB,zzC,zzD]
    refine zzH 5 ?_ rfl ?_ ?_
    rotate_left 1
    ·(intro W hSw;(try dsimp only at hSw);have p0:=aA0 (HKZ _ hSw) (i:=0) rfl ;have p1:=aA0 (HKZ _ hSw) (i:=1) rfl ;have p2:=aA0 (HKZ _ hSw) (i:=2) rfl ;have p3:=aA0 (HKZ _ hSw) (i:=3) rfl ;have p4:=aA0 (HKZ _ hSw) (i:=4) rfl ;have p5:=aA0 (HKZ _ hSw) (i:=5) rfl;go_simp;(try with_reducible rfl))
    try simp only [Act.put,zzB,zzC,zzD]
    refine zzH 7 ?_ rfl ?_ ?_
    rotate_left 1
    ·(intro W hSw;(try dsimp only at hSw);have p0:=aA0 (HKZ _ hSw) (i:=0) rfl ;have p1:=aA0 (HKZ _ hSw) (i:=1) rfl ;have p2:=aA0 (HKZ _ hSw) (i:=2) rfl ;have p3:=aA0 (HKZ _ hSw) (i:=3) rfl ;have p4:=aA0 (HKZ _ hSw) (i:=4) rfl ;have p5:=aA0 (HKZ _ hSw) (i:=5) rfl;go_simp;(try with_reducible rfl))
    try simp only [Act.put,zzB,zzC,zzD]
    refine zzH 10 ?_ rfl ?_ ?_
    rotate_left 1
    ·(intro W hSw;(try dsimp only at hSw);have p0:=aA0 (HKZ _ hSw) (i:=0) rfl ;have p1:=aA0 (HKZ _ hSw) (i:=1) rfl ;have p2:=aA0 (HKZ _ hSw) (i:=2) rfl ;have p3:=aA0 (HKZ _ hSw) (i:=3) rfl ;have p4:=aA0 (HKZ _ hSw) (i:=4) rfl ;have p5:=aA0 (HKZ _ hSw) (i:=5) rfl;go_simp;(try with_reducible rfl))
    try simp only [Act.put,zzB,zzC,zzD]
    refine zzH 12 ?_ rfl ?_ ?_
    rotate_left 1
    ·(intro W hSw;(try dsimp only at hSw);have p0:=aA0 (HKZ _ hSw) (i:=0) rfl ;have p1:=aA0 (HKZ _ hSw) (i:=1) rfl ;have p2:=aA0 (HKZ _ hSw) (i:=2) rfl ;have p3:=aA0 (HKZ _ hSw) (i:=3) rfl ;have p4:=aA0 (HKZ _ hSw) (i:=4) rfl ;have p5:=aA0 (HKZ _ hSw) (i:=5) rfl;go_simp;(try with_reducible rfl))
    try simp only [Act.put,zzB,zzC,zzD]
    refine zzH 14 ?_ rfl ?_ ?_
    rotate_left 1
    ·(intro W hSw;(try dsimp only at hSw);have p0:=aA0 (HKZ _ hSw) (i:=0) rfl ;have p1:=aA0 (HKZ _ hSw) (i:=1) rfl ;have p2:=aA0 (HKZ _ hSw) (i:=2) rfl ;have p3:=aA0 (HKZ _ hSw) (i:=3) rfl ;have p4:=aA0 (HKZ _ hSw) (i:=4) rfl ;have p5:=aA0 (HKZ _ hSw) (i:=5) rfl;go_simp;(try with_reducible rfl))
    try simp only [Act.put,zzB,zzC,zzD]
    refine zzH 16 ?_ rfl ?_ ?_
    rotate_left 1
    ·(intro W hSw;(try dsimp only at hSw);have p0:=aA0 (HKZ _ hSw) (i:=0) rfl ;have p1:=aA0 (HKZ _ hSw) (i:=1) rfl ;have p2:=aA0 (HKZ _ hSw) (i:=2) rfl ;have p3:=aA0 (HKZ _ hSw) (i:=3) rfl ;have p4:=aA0 (HKZ _ hSw) (i:=4) rfl ;have p5:=aA0 (HKZ _ hSw) (i:=5) rfl;go_simp;(try with_reducible rfl))
    try simp only [Act.put,zzB,zzC,zzD]
    refine wpAnyH_ready (rs:=[8]) (by kernel_rfl) (by simp) ?_
    refine AllReadyH.cons (op_at (rest:=_) rfl) (fun K hK=>?_) AllReadyH.nil
    go_simp
    refine ((CP _ hHeld).out).mono ?_
    rintro e w11 ⟨rfl,hb11⟩
    go_wp2_with fail
    replace hHeld:=hHeld.trans (hb11.mono hHeld.size)
    refine hK.out _ _ hHeld (fun _=>?_)
    clear hK K
    try simp only [Act.put,zzB,zzC,zzD]
    refine wpAnyH_ready (rs:=[17]) (by kernel_rfl) (by simp) ?_
    refine AllReadyH.cons (op_at (rest:=_) rfl) (fun K hK=>?_) AllReadyH.nil
    go_simp
    refine ((CQ _ hHeld).out).mono ?_
    rintro e w12 ⟨rfl,hb12⟩
    go_wp2_with fail
    replace hHeld:=hHeld.trans (hb12.mono hHeld.size)
    refine hK.out _ _ hHeld (fun _=>?_)
    clear hK K
    try simp only [Act.put,zzB,zzC,zzD]
    refine zzH 18 ?_ rfl ?_ ?_
    rotate_left 1
    ·(intro W hSw;(try dsimp only at hSw);go_simp;(try with_reducible rfl))
    try simp only [Act.put,zzB,zzC,zzD]
    refine zzH 19 ?_ rfl ?_ ?_
    rotate_left 1
    ·(intro W hSw;(try dsimp only at hSw);go_simp;(try with_reducible rfl))
    try simp only [Act.put,zzB,zzC,zzD]
    refine zzH 20 ?_ rfl ?_ ?_
    rotate_left 1
    ·(intro W hSw;(try dsimp only at hSw);have p0:=aA0 (HKZ _ hSw) (i:=0) rfl ;have p1:=aA0 (HKZ _ hSw) (i:=1) rfl ;have p2:=aA0 (HKZ _ hSw) (i:=2) rfl ;have p3:=aA0 (HKZ _ hSw) (i:=3) rfl ;have p4:=aA0 (HKZ _ hSw) (i:=4) rfl ;have p5:=aA0 (HKZ _ hSw) (i:=5) rfl;go_simp;(try with_reducible rfl))
    try simp only [Act.put,zzB,zzC,zzD]
    refine zzH 22 ?_ rfl ?_ ?_
    rotate_left 1
    ·(intro W hSw;(try dsimp only at hSw);have p0:=aA0 (HKZ _ hSw) (i:=0) rfl ;have p1:=aA0 (HKZ _ hSw) (i:=1) rfl ;have p2:=aA0 (HKZ _ hSw) (i:=2) rfl ;have p3:=aA0 (HKZ _ hSw) (i:=3) rfl ;have p4:=aA0 (HKZ _ hSw) (i:=4) rfl ;have p5:=aA0 (HKZ _ hSw) (i:=5) rfl;go_simp;(try with_reducible rfl))
    try simp only [Act.put,zzB,zzC,zzD]
    refine zzH 24 ?_ rfl ?_ ?_
    rotate_left 1
    ·(intro W hSw;(try dsimp only at hSw);have p0:=aA0 (HKZ _ hSw) (i:=0) rfl ;have p1:=aA0 (HKZ _ hSw) (i:=1) rfl ;have p2:=aA0 (HKZ _ hSw) (i:=2) rfl ;have p3:=aA0 (HKZ _ hSw) (i:=3) rfl ;have p4:=aA0 (HKZ _ hSw) (i:=4) rfl ;have p5:=aA0 (HKZ _ hSw) (i:=5) rfl;go_simp;(try with_reducible rfl))
    try simp only [Act.put,zzB,zzC,zzD]
    refine zzH 26 ?_ rfl ?_ ?_
    rotate_left 1
    ·(intro W hSw;(try dsimp only at hSw);have p0:=aA0 (HKZ _ hSw) (i:=0) rfl ;have p1:=aA0 (HKZ _ hSw) (i:=1) rfl ;have p2:=aA0 (HKZ _ hSw) (i:=2) rfl ;have p3:=aA0 (HKZ _ hSw) (i:=3) rfl ;have p4:=aA0 (HKZ _ hSw) (i:=4) rfl ;have p5:=aA0 (HKZ _ hSw) (i:=5) rfl;go_simp;(try with_reducible rfl))
    try simp only [Act.put,zzB,zzC,zzD]
    refine zzH 29 ?_ rfl ?_ ?_
    rotate_left 1
    ·(intro W hSw;(try dsimp only at hSw);have p0:=aA0 (HKZ _ hSw) (i:=0) rfl ;have p1:=aA0 (HKZ _ hSw) (i:=1) rfl ;have p2:=aA0 (HKZ _ hSw) (i:=2) rfl ;have p3:=aA0 (HKZ _ hSw) (i:=3) rfl ;have p4:=aA0 (HKZ _ hSw) (i:=4) rfl ;have p5:=aA0 (HKZ _ hSw) (i:=5) rfl;go_simp;(try with_reducible rfl))
    try simp only [Act.put,zzB,zzC,zzD]
    refine zzH 31 ?_ rfl ?_ ?_
    rotate_left 1
    ·(intro W hSw;(try dsimp only at hSw);have p0:=aA0 (HKZ _ hSw) (i:=0) rfl ;have p1:=aA0 (HKZ _ hSw) (i:=1) rfl ;have p2:=aA0 (HKZ _ hSw) (i:=2) rfl ;have p3:=aA0 (HKZ _ hSw) (i:=3) rfl ;have p4:=aA0 (HKZ _ hSw) (i:=4) rfl ;have p5:=aA0 (HKZ _ hSw) (i:=5) rfl;go_simp;(try with_reducible rfl))
    try simp only [Act.put,zzB,zzC,zzD]
    refine zzH 33 ?_ rfl ?_ ?_
    rotate_left 1
    ·(intro W hSw;(try dsimp only at hSw);have p0:=aA0 (HKZ _ hSw) (i:=0) rfl ;have p1:=aA0 (HKZ _ hSw) (i:=1) rfl ;have p2:=aA0 (HKZ _ hSw) (i:=2) rfl ;have p3:=aA0 (HKZ _ hSw) (i:=3) rfl ;have p4:=aA0 (HKZ _ hSw) (i:=4) rfl ;have p5:=aA0 (HKZ _ hSw) (i:=5) rfl;go_simp;(try with_reducible rfl))
    try simp only [Act.put,zzB,zzC,zzD]
    refine zzH 35 ?_ rfl ?_ ?_
    rotate_left 1
    ·(intro W hSw;(try dsimp only at hSw);have p0:=aA0 (HKZ _ hSw) (i:=0) rfl ;have p1:=aA0 (HKZ _ hSw) (i:=1) rfl ;have p2:=aA0 (HKZ _ hSw) (i:=2) rfl ;have p3:=aA0 (HKZ _ hSw) (i:=3) rfl ;have p4:=aA0 (HKZ _ hSw) (i:=4) rfl ;have p5:=aA0 (HKZ _ hSw) (i:=5) rfl;go_simp;(try with_reducible rfl))
    try simp only [Act.put,zzB,zzC,zzD]
    refine zzH 21 ?_ rfl ?_ ?_
    rotate_left 1
    ·(intro W hSw;(try dsimp only at hSw);have p0:=aA0 (HKZ _ hSw) (i:=0) rfl ;have p1:=aA0 (HKZ _ hSw) (i:=1) rfl ;have p2:=aA0 (HKZ _ hSw) (i:=2) rfl ;have p3:=aA0 (HKZ _ hSw) (i:=3) rfl ;have p4:=aA0 (HKZ _ hSw) (i:=4) rfl ;have p5:=aA0 (HKZ _ hSw) (i:=5) rfl;go_simp;(try with_reducible rfl))
    try simp only [Act.put,zzB,zzC,zzD]
    refine zzH 23 ?_ rfl ?_ ?_
    rotate_left 1
    ·(intro W hSw;(try dsimp only at hSw);have p0:=aA0 (HKZ _ hSw) (i:=0) rfl ;have p1:=aA0 (HKZ _ hSw) (i:=1) rfl ;have p2:=aA0 (HKZ _ hSw) (i:=2) rfl ;have p3:=aA0 (HKZ _ hSw) (i:=3) rfl ;have p4:=aA0 (HKZ _ hSw) (i:=4) rfl ;have p5:=aA0 (HKZ _ hSw) (i:=5) rfl;go_simp;(try with_reducible rfl))
    try simp only [Act.put,zzB,zzC,zzD]
    refine zzH 25 ?_ rfl ?_ ?_
    rotate_left 1
    ·(intro W hSw;(try dsimp only at hSw);have p0:=aA0 (HKZ _ hSw) (i:=0) rfl ;have p1:=aA0 (HKZ _ hSw) (i:=1) rfl ;have p2:=aA0 (HKZ _ hSw) (i:=2) rfl ;have p3:=aA0 (HKZ _ hSw) (i:=3) rfl ;have p4:=aA0 (HKZ _ hSw) (i:=4) rfl ;have p5:=aA0 (HKZ _ hSw) (i:=5) rfl;go_simp;(try with_reducible rfl))
    try simp only [Act.put,zzB,zzC,zzD]
    refine zzH 27 ?_ rfl ?_ ?_
    rotate_left 1
    ·(intro W hSw;(try dsimp only at hSw);have p0:=aA0 (HKZ _ hSw) (i:=0) rfl ;have p1:=aA0 (HKZ _ hSw) (i:=1) rfl ;have p2:=aA0 (HKZ _ hSw) (i:=2) rfl ;have p3:=aA0 (HKZ _ hSw) (i:=3) rfl ;have p4:=aA0 (HKZ _ hSw) (i:=4) rfl ;have p5:=aA0 (HKZ _ hSw) (i:=5) rfl;go_simp;(try with_reducible rfl))
    try simp only [Act.put,zzB,zzC,zzD]
    refine zzH 30 ?_ rfl ?_ ?_
    rotate_left 1
    ·(intro W hSw;(try dsimp only at hSw);have p0:=aA0 (HKZ _ hSw) (i:=0) rfl ;have p1:=aA0 (HKZ _ hSw) (i:=1) rfl ;have p2:=aA0 (HKZ _ hSw) (i:=2) rfl ;have p3:=aA0 (HKZ _ hSw) (i:=3) rfl ;have p4:=aA0 (HKZ _ hSw) (i:=4) rfl ;have p5:=aA0 (HKZ _ hSw) (i:=5) rfl;go_simp;(try with_reducible rfl))
    try simp only [Act.put,zzB,zzC,zzD]
    refine zzH 32 ?_ rfl ?_ ?_
    rotate_left 1
    ·(intro W hSw;(try dsimp only at hSw);have p0:=aA0 (HKZ _ hSw) (i:=0) rfl ;have p1:=aA0 (HKZ _ hSw) (i:=1) rfl ;have p2:=aA0 (HKZ _ hSw) (i:=2) rfl ;have p3:=aA0 (HKZ _ hSw) (i:=3) rfl ;have p4:=aA0 (HKZ _ hSw) (i:=4) rfl ;have p5:=aA0 (HKZ _ hSw) (i:=5) rfl;go_simp;(try with_reducible rfl))
    try simp only [Act.put,zzB,zzC,zzD]
    refine zzH 34 ?_ rfl ?_ ?_
    rotate_left 1
    ·(intro W hSw;(try dsimp only at hSw);have p0:=aA0 (HKZ _ hSw) (i:=0) rfl ;have p1:=aA0 (HKZ _ hSw) (i:=1) rfl ;have p2:=aA0 (HKZ _ hSw) (i:=2) rfl ;have p3:=aA0 (HKZ _ hSw) (i:=3) rfl ;have p4:=aA0 (HKZ _ hSw) (i:=4) rfl ;have p5:=aA0 (HKZ _ hSw) (i:=5) rfl;go_simp;(try with_reducible rfl))
    try simp only [Act.put,zzB,zzC,zzD]
    refine zzH 36 ?_ rfl ?_ ?_
    rotate_left 1
    ·(intro W hSw;(try dsimp only at hSw);have p0:=aA0 (HKZ _ hSw) (i:=0) rfl ;have p1:=aA0 (HKZ _ hSw) (i:=1) rfl ;have p2:=aA0 (HKZ _ hSw) (i:=2) rfl ;have p3:=aA0 (HKZ _ hSw) (i:=3) rfl ;have p4:=aA0 (HKZ _ hSw) (i:=4) rfl ;have p5:=aA0 (HKZ _ hSw) (i:=5) rfl;go_simp;(try with_reducible rfl))
    try simp only [Act.put,zzB,zzC,zzD]
    refine wpAnyH_ready (rs:=[28]) (by kernel_rfl) (by simp) ?_
    refine AllReadyH.cons (op_at (rest:=_) rfl) (fun K hK=>?_) AllReadyH.nil
    go_simp
    refine ((CB _ hHeld).out).mono ?_
    rintro e w13 ⟨v13,rfl,hs13,hb13⟩
    go_wp2_with fail
    replace hHeld:=hHeld.trans (hb13.mono hHeld.size)
    refine hK.out _ _ hHeld (fun _=>?_)
    clear hK K
    try simp only [Act.put,zzB,zzC,zzD]
    refine wpAnyH_ready (rs:=[37]) (by kernel_rfl) (by simp) ?_
    refine AllReadyH.cons (op_at (rest:=_) rfl) (fun K hK=>?_) AllReadyH.nil
    go_simp
    refine ((CC _ hHeld).out).mono ?_
    rintro e w14 ⟨a14,c14,rfl,hs14,hb14⟩
    go_wp2_with fail
    replace hHeld:=hHeld.trans (hb14.mono hHeld.size)
    refine hK.out _ _ hHeld (fun _=>?_)
    clear hK K
    try simp only [Act.put,zzB,zzC,zzD]
    refine wpAnyH_ready (rs:=[38]) (by kernel_rfl) (by simp) ?_
    refine AllReadyH.cons (op_at (rest:=_) rfl) (fun K hK=>?_) AllReadyH.nil
    go_simp
    refine ((aKm _ _ _ _ (hs13.below hb14) hs14)).mono ?_
    rintro e w15 ⟨rfl,hb15⟩
    go_wp2_with fail
    replace hHeld:=hHeld.trans (hb15.mono hHeld.size)
    refine hK.out _ _ hHeld (fun _=>?_)
    clear hK K
    try simp only [Act.put,zzB,zzC,zzD]
    refine zzH 39 ?_ rfl ?_ ?_
    rotate_left 1
    ·(intro W hSw;(try dsimp only at hSw);go_simp;(try with_reducible rfl))
    try simp only [Act.put,zzB,zzC,zzD]
    refine zzH 40 ?_ rfl ?_ ?_
    rotate_left 1
    ·(intro W hSw;(try dsimp only at hSw);go_simp;(try with_reducible rfl))
    try simp only [Act.put,zzB,zzC,zzD]
    refine wpAnyH_ready (rs:=[41]) (by kernel_rfl) (by simp) ?_
    refine AllReadyH.cons (op_at (rest:=_) rfl) (fun K hK=>?_) AllReadyH.nil
    go_simp
    refine ((aEi _)).mono ?_
    rintro e w16 ⟨rfl,hb16⟩
    go_wp2_with fail
    replace hHeld:=hHeld.trans (hb16.mono hHeld.size)
    refine hK.out _ _ hHeld (fun _=>?_)
    clear hK K
    try simp only [Act.put,zzB,zzC,zzD]
    refine zzH 42 ?_ rfl ?_ ?_
    rotate_left 1
    ·(intro W hSw;(try dsimp only at hSw);go_simp;(try with_reducible rfl))
    try simp only [Act.put,zzB,zzC,zzD]
    refine zzH 43 ?_ rfl ?_ ?_
    rotate_left 1
    ·(intro W hSw;(try dsimp only at hSw);go_simp;(try with_reducible rfl))
    try simp only [Act.put,zzB,zzC,zzD]
    refine wpAnyH_done (by kernel_rfl) ?_ _
    refine NoPanic.normal ?_
    go_wp2_with fail
    go_ret
    exact ⟨rfl,bb2 HBZ.out hHeld⟩
end Go.Proofs.YthnodpdiocppgaaGreatDoor
