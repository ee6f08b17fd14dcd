/-
  The law GrantBys.
-/
import Derived.Test.YthnodpdiocppgaaGreatDoorJ27
import Derived.BigQuiet
set_option maxHeartbeats 12800000
set_option linter.unusedVariables false
set_option linter.unusedSimpArgs false
set_option maxRecDepth 20000
namespace Go.Proofs.YthnodpdiocppgaaGreatDoor
open Go Go.RowKit Go.Shelf
attribute [local go_sem] aCk
theorem aQl {L:List OV} {p:OV→Bool} {j:Nat} (hj:j<L.length) (hp:p L[j]=true):∃ h:((L.take j).filter p).length<((L.filter p).map fun o=>o.ref).length,((L.filter p).map fun o=>o.ref)[((L.take j).filter p).length]=L[j].ref:=by
 obtain ⟨h1,h2⟩:=aGo L p j hj hp
 have e:L=L.take j++(L[j]::L.drop (j+1)):=by rw [←List.drop_eq_getElem_cons hj,List.take_append_drop]
 have e2:(L.filter p).map (fun o=>o.ref)=((L.take j).filter p).map (fun o=>o.ref)++(L[j].ref::((L.drop (j+1)).filter p).map fun o=>o.ref):=by
  conv=>lhs;rw [e]
  rw [List.filter_append,List.filter_cons_of_pos (by exact hp),List.map_append,List.map_cons]
 have hl:(((L.take j).filter p).map fun o=>o.ref).length=((L.take j).filter p).length:=List.length_map ..
 have hlt:((L.take j).filter p).length<((L.filter p).map fun o=>o.ref).length:=by rw [e2,List.length_append,List.length_cons,hl];omega
 refine ⟨hlt,?_⟩
 have:((L.filter p).map fun o=>o.ref)[((L.take j).filter p).length]?=some L[j].ref:=by
  rw [e2,List.getElem?_append_right (by rw [hl];exact Nat.le_refl _),hl,Nat.sub_self]
  rfl
 rw [List.getElem?_eq_getElem hlt] at this
 exact Option.some.inj this
theorem aPr (v0:Value) (w:World) (h0:aL5 w v0) :
  Calls Tryz.prog 8 #[v0] w fun e w'=>e=.returned (.bool true)∧Below w.heap.size w w':=by
 obtain ⟨a0,cap,L0,k,s0,r0,rfl,hL0,raw,hs0,rr⟩:=h0
 obtain ⟨rk0,rs0,rn0⟩:=r0
 have B1:Below w.heap.size w (w.alloc (.cells #[.slice a0 L0.length cap,.int .i64 k,.string s0,.int .i64 rk0,.string rs0,.string rn0] 26)):=(Below.refl _ _).alloc (Nat.le_refl _) _
 have CF:=hide (aOh k s0 ⟨rk0,rs0,rn0⟩ _ (hL0.below B1) raw hs0 rr)
 clear hL0 raw hs0 rr
 go_enter Tryz.func8,Tryz.ntmps8
 go_wp2_with fail
 refine CF.out.mono ?_
 rintro e w1 ⟨a,c,L,rfl,hL,hown,hb1⟩
 obtain ⟨okL,hl24⟩:=aFn hL
 have hz:w1.heap[w.heap.size]?=some (.cells #[.slice a0 L0.length cap,.int .i64 k,.string s0,.int .i64 rk0,.string rs0,.string rn0] 26):=aAo hb1
 have BB:=bb2 B1 hb1
 obtain ⟨s,hs⟩:∃ z,fewB s0=z:=⟨_,rfl⟩
 obtain ⟨⟨rk,rs,rn⟩,hr⟩:∃ z,aBg ⟨rk0,rs0,rn0⟩=z:=⟨_,rfl⟩
 rw [hs,hr]
 have hsz2:s.size≤100:=by rw [←hs];exact aAt _
 have hrf:OkRf ⟨rk,rs,rn⟩:=by rw [←hr];exact aCx _
 clear hs hr hL
 have lz:=aBk hz
 obtain ⟨z0,z1,z2,z3,z4,z5⟩:_∧_∧_∧_∧_∧_:=⟨aA1 hz (i:=0) rfl,aA1 hz (i:=1) rfl,aA1 hz (i:=2) rfl,aA1 hz (i:=3) rfl,aA1 hz (i:=4) rfl,aA1 hz (i:=5) rfl⟩
 have K2:=hide (show ((((((w1.setCell ⟨w.heap.size,0,none⟩ (.slice a L.length c)).setCell ⟨w.heap.size,1,none⟩ (.int .i64 k)).setCell ⟨w.heap.size,2,none⟩ (.string s)).setCell ⟨w.heap.size,3,none⟩ (.int .i64 rk)).setCell ⟨w.heap.size,4,none⟩ (.string rs)).setCell ⟨w.heap.size,5,none⟩ (.string rn)).heap[w.heap.size]?=some (.cells #[.slice a L.length c,.int .i64 k,.string s,.int .i64 rk,.string rs,.string rn] 26) from aCl [.slice a L.length c,.int .i64 k,.string s,.int .i64 rk,.string rs,.string rn] hz rfl)
 have OW:=hide (show OwL _ _ _ ((((((w1.setCell ⟨w.heap.size,0,none⟩ (.slice a L.length c)).setCell ⟨w.heap.size,1,none⟩ (.int .i64 k)).setCell ⟨w.heap.size,2,none⟩ (.string s)).setCell ⟨w.heap.size,3,none⟩ (.int .i64 rk)).setCell ⟨w.heap.size,4,none⟩ (.string rs)).setCell ⟨w.heap.size,5,none⟩ (.string rn)) from hown.bxt ((BX.refl w.heap.size w1.heap.size w1).setL 0 [.slice a L.length c,.int .i64 k,.string s,.int .i64 rk,.string rs,.string rn]) hz (by decide) (by decide))
 have BB2:=hide (show Below w.heap.size w ((((((w1.setCell ⟨w.heap.size,0,none⟩ (.slice a L.length c)).setCell ⟨w.heap.size,1,none⟩ (.int .i64 k)).setCell ⟨w.heap.size,2,none⟩ (.string s)).setCell ⟨w.heap.size,3,none⟩ (.int .i64 rk)).setCell ⟨w.heap.size,4,none⟩ (.string rs)).setCell ⟨w.heap.size,5,none⟩ (.string rn)) from aBl (w:=w) (B:=w.heap.size) (g:=w.heap.size) (Nat.le_refl _) [.slice a L.length c,.int .i64 k,.string s,.int .i64 rk,.string rs,.string rn] _ 0 BB)
 obtain ⟨d0,d1,d2,d3,d4,d5⟩:_∧_∧_∧_∧_∧_:=⟨aA1 K2.out (i:=0) rfl,aA1 K2.out (i:=1) rfl,aA1 K2.out (i:=2) rfl,aA1 K2.out (i:=3) rfl,aA1 K2.out (i:=4) rfl,aA1 K2.out (i:=5) rfl⟩
 have HOK:=hide okL
 have HRF:=hide hrf
 clear hz hown BB B1 hb1 CF okL hrf
 go_wp2_with fail
 have kq:((((((w1.setCell ⟨w.heap.size,0,none⟩ (.slice a L.length c)).setCell ⟨w.heap.size,1,none⟩ (.int .i64 k)).setCell ⟨w.heap.size,2,none⟩ (.string s)).setCell ⟨w.heap.size,3,none⟩ (.int .i64 rk)).setCell ⟨w.heap.size,4,none⟩ (.string rs)).setCell ⟨w.heap.size,5,none⟩ (.string rn)).heap[w.heap.size]?=some (.cells #[.slice a L.length c,.int .i64 k,.string s,.int .i64 rk,.string rs,.string rn] 26):=K2.out
 have SL:=OW.out.sl
 have BQ:Below w.heap.size w ((((((w1.setCell ⟨w.heap.size,0,none⟩ (.slice a L.length c)).setCell ⟨w.heap.size,1,none⟩ (.int .i64 k)).setCell ⟨w.heap.size,2,none⟩ (.string s)).setCell ⟨w.heap.size,3,none⟩ (.int .i64 rk)).setCell ⟨w.heap.size,4,none⟩ (.string rs)).setCell ⟨w.heap.size,5,none⟩ (.string rn)):=BB2.out
 clear K2 BB2 OW lz z0 z1 z2 z3 z4 z5 d0 d1 d2 d3 d4 d5
 generalize ((((((w1.setCell ⟨w.heap.size,0,none⟩ (.slice a L.length c)).setCell ⟨w.heap.size,1,none⟩ (.int .i64 k)).setCell ⟨w.heap.size,2,none⟩ (.string s)).setCell ⟨w.heap.size,3,none⟩ (.int .i64 rk)).setCell ⟨w.heap.size,4,none⟩ (.string rs)).setCell ⟨w.heap.size,5,none⟩ (.string rn))=V at *
 have okL:=HOK.out
 have CB:=hide (aPq k s ⟨rk,rs,rn⟩ V SL okL (by omega))
 refine CB.out.mono ?_
 rintro e w2 ⟨vb,rfl,hvb,hb2⟩
 have CL0:=fun j (hj:j<L.length) W (h:Below V.heap.size V W)=>hide (aFm L[j] k s ⟨rk,rs,rn⟩ W (oneO SL h hj).1 (okL _ (List.getElem_mem hj)))
 rw [aN2] at hvb
 have HPR:Hid (∀ o,Gr.lets (OV.b o) k s ⟨rk,rs,rn⟩=true→o.ref.kind=7∧o.ref.space=rs):=fun o h=>⟨(Gr.lets_kind h).1,(Gr.lets_kind h).2.1⟩
 obtain ⟨p,hp⟩:∃ p:OV→Bool,p=fun o=>Gr.lets o.b k s ⟨rk,rs,rn⟩:=⟨_,rfl⟩
 have hpo:∀ o,Gr.lets (OV.b o) k s ⟨rk,rs,rn⟩=p o:=fun o=>by rw [hp]
 rw [←hp] at hvb
 simp only [hpo] at CL0 HPR
 clear hp hpo
 have hbl:((L.filter p).map fun o=>o.ref).length=(L.filter p).length:=List.length_map ..
 have hbl2:(L.filter p).length≤24:=Nat.le_trans (List.length_filter_le _ _) hl24
 obtain ⟨ab,cb,rfl⟩:=hvb.form
 rw [hbl]
 have HBY:=hide (fun W (h:Below w2.heap.size w2 W) j (hj:j<((L.filter p).map fun o=>o.ref).length)=>oneD (L:=(L.filter p).map fun o=>o.ref) hvb h hj)
 have HO:=hide (fun W (h:Below V.heap.size V W) j (hj:j<L.length)=>oneO SL h hj)
 have HKQ:=hide (fun W (h:Below V.heap.size V W)=>aA3 kq h)
 have HSL:=hide SL
 have HCL:=hide CL0
 have HBL:=hide hbl
 have HB2:=hide hb2
 have HBQ:=hide BQ
 clear SL kq CL0 hbl hb2 BQ hvb okL CB
 go_wp2_with fail
 go_loopw [4,5] (fun ct i wr=>∃ j:Nat,j≤L.length∧i=.int .i64 j∧ct=.int .i64 (((L.take j).filter p).length:Nat)∧Below w2.heap.size w2 wr) (fun _ i _=>L.length - (intOf i).toNat)
 case atStart=>exact ⟨0,Nat.zero_le _,rfl,rfl,Below.refl _ _⟩
 case round =>
  obtain ⟨j,hj,rfl,rfl,hB⟩:=hrel
  have hBV:=HB2.out.trans (hB.mono HB2.out.size)
  have ka:=HKQ.out _ hBV
  obtain ⟨o0,o1,o2,o3,o4,o5⟩:_∧_∧_∧_∧_∧_:=⟨aA1 ka (i:=0) rfl,aA1 ka (i:=1) rfl,aA1 ka (i:=2) rfl,aA1 ka (i:=3) rfl,aA1 ka (i:=4) rfl,aA1 ka (i:=5) rfl⟩
  clear ka
  by_cases hlt:j<L.length
  ·have hlt':(j:Int)<(L.length:Int):=by omega
   obtain ⟨hA,gg,off,rfl,hgg,c0,c1,c2,c3,c4,c5,c6,c7,c8,c9,c10,c11,c12⟩:=HO.out _ hBV j hlt
   clear hA
   have CL:=fun W (h:Below wr.heap.size wr W)=>HCL.out j hlt W (hBV.trans (h.mono hBV.size))
   have q0:=fun q:GB wr=>(q.h.cell (p:=⟨gg,off+j*13,none⟩) (Nat.lt_of_lt_of_le hgg hBV.size)).trans c0
   have q1:=fun q:GB wr=>(q.h.cell (p:=⟨gg,off+j*13+1,none⟩) (Nat.lt_of_lt_of_le hgg hBV.size)).trans c1
   have q2:=fun q:GB wr=>(q.h.cell (p:=⟨gg,off+j*13+2,none⟩) (Nat.lt_of_lt_of_le hgg hBV.size)).trans c2
   have q3:=fun q:GB wr=>(q.h.cell (p:=⟨gg,off+j*13+3,none⟩) (Nat.lt_of_lt_of_le hgg hBV.size)).trans c3
   have q4:=fun q:GB wr=>(q.h.cell (p:=⟨gg,off+j*13+4,none⟩) (Nat.lt_of_lt_of_le hgg hBV.size)).trans c4
   have q5:=fun q:GB wr=>(q.h.cell (p:=⟨gg,off+j*13+5,none⟩) (Nat.lt_of_lt_of_le hgg hBV.size)).trans c5
   have q6:=fun q:GB wr=>(q.h.cell (p:=⟨gg,off+j*13+6,none⟩) (Nat.lt_of_lt_of_le hgg hBV.size)).trans c6
   have q7:=fun q:GB wr=>(q.h.cell (p:=⟨gg,off+j*13+7,none⟩) (Nat.lt_of_lt_of_le hgg hBV.size)).trans c7
   have q8:=fun q:GB wr=>(q.h.cell (p:=⟨gg,off+j*13+8,none⟩) (Nat.lt_of_lt_of_le hgg hBV.size)).trans c8
   have q9:=fun q:GB wr=>(q.h.cell (p:=⟨gg,off+j*13+9,none⟩) (Nat.lt_of_lt_of_le hgg hBV.size)).trans c9
   have q10:=fun q:GB wr=>(q.h.cell (p:=⟨gg,off+j*13+10,none⟩) (Nat.lt_of_lt_of_le hgg hBV.size)).trans c10
   have q11:=fun q:GB wr=>(q.h.cell (p:=⟨gg,off+j*13+11,none⟩) (Nat.lt_of_lt_of_le hgg hBV.size)).trans c11
   have q12:=fun q:GB wr=>(q.h.cell (p:=⟨gg,off+j*13+12,none⟩) (Nat.lt_of_lt_of_le hgg hBV.size)).trans c12
   have kaq:=fun q:GB wr=>HKQ.out _ (hBV.trans (q.h.mono hBV.size))
   have r0:=fun q:GB wr=>aA1 (kaq q) (i:=0) rfl
   have r1:=fun q:GB wr=>aA1 (kaq q) (i:=1) rfl
   have r2:=fun q:GB wr=>aA1 (kaq q) (i:=2) rfl
   have r3:=fun q:GB wr=>aA1 (kaq q) (i:=3) rfl
   have r4:=fun q:GB wr=>aA1 (kaq q) (i:=4) rfl
   have r5:=fun q:GB wr=>aA1 (kaq q) (i:=5) rfl
   clear kaq
   cases hp:p L[j]
   ·have HC:=hide (aJq (p:=p) hlt hp)
    rw [hp] at CL
    clear hp
    generalize L[j]=x at *
    go_wp2_with fail
    refine aAd (by kernel_rfl) (by kernel_rfl) ?_
    repeat (first | go_big_quiet_step ((go_at_call 15;exact aA2 (CL _ (GB.h _)).out)) | quiet_step ((go_at_call 15;exact aA2 (CL _ (GB.h _)).out)))
    refine wpQuiet_nil ?_
    intro _ hw'
    obtain ⟨qq,hw2⟩:=hw'
    subst hw2
    have hqq:=qq.h
    go_wp2_with fail
    exact ⟨⟨j+1,by omega,by go_num,by rw [HC.out],bb2 hB hqq⟩,by simp [intOf];omega⟩
   ·have HC:=hide (aIl (p:=p) hlt hp)
    obtain ⟨h1,h2⟩:=aQl hlt hp
    obtain ⟨hk7,hsp⟩:=HPR.out _ hp
    have HBJ:=hide (fun W h=>HBY.out W h ((L.take j).filter p).length h1)
    rw [h2] at HBJ
    have hm24:((L.take j).filter p).length<(L.filter p).length:=by rw [←HBL.out];exact h1
    rw [hp] at CL
    clear hp h2 h1
    generalize ((L.take j).filter p).length=m at *
    generalize L[j]=x at *
    have EQ:∀ W,(Op.equalIn 10000 24 (.agg #[.int .i64 x.ref.kind,.string x.ref.space,.string x.ref.name]) (.agg #[.int .i64 x.ref.kind,.string x.ref.space,.string x.ref.name])).run Tryz.prog W=.ok true W:=fun W=>by
     rw [aRj x.ref x.ref W,Ob.eqR_iff.2 rfl]
    have t1:(x.ref.kind != 7)=false:=by rw [hk7];rfl
    have t2:(x.ref.space.toList == rs.toList)=true:=by rw [hsp];simp
    have hm3:¬ (L.filter p).length≤m:=by omega
    have hm1:¬ ((L.filter p).length:Int)≤(m:Int):=by omega
    have hm2:(m:Int)<((L.filter p).length:Int):=by omega
    clear hk7 hsp
    go_wp2_with fail
    refine aAd (by kernel_rfl) (by kernel_rfl) ?_
    repeat (first | go_big_quiet_step ((go_at_call 15;exact aA2 (CL _ (GB.h _)).out)) | quiet_step ((go_at_call 15;exact aA2 (CL _ (GB.h _)).out)))
    refine wpQuiet_nil ?_
    intro _ hw'
    obtain ⟨qq,hw2⟩:=hw'
    subst hw2
    have hqq:=qq.h
    go_wp2_with fail
    have hY:Below qq.W.heap.size qq.W (qq.W.alloc (.cells #[.int .i64 x.ref.kind,.string x.ref.space,.string x.ref.name] 24)):=(Below.refl _ _).alloc (Nat.le_refl _) _
    have kY:=hide (aA7 qq.W (.cells #[.int .i64 x.ref.kind,.string x.ref.space,.string x.ref.name] 24))
    have hB3:=bb2 (bb2 hB hqq) hY
    have HQS:Hid (True):=trivial
    clear q0 c0 q1 c1 q2 c2 q3 c3 q4 c4 q5 c5 q6 c6 q7 c7 q8 c8 q9 c9 q10 c10 q11 c11 q12 c12 r0 o0 r1 o1 r2 o2 r3 o3 r4 o4 r5 o5 CL hqq hY
    generalize qq.W.alloc (.cells #[.int .i64 x.ref.kind,.string x.ref.space,.string x.ref.name] 24)=Y at *
    obtain ⟨_,gb,ofb,rfl,hgb,_⟩:=HBJ.out _ hB3
    have y0:=fun q:GB Y=>aA1 (aA3 kY.out q.h) (i:=0) rfl
    have y1:=fun q:GB Y=>aA1 (aA3 kY.out q.h) (i:=1) rfl
    have y2:=fun q:GB Y=>aA1 (aA3 kY.out q.h) (i:=2) rfl
    have kaq:=fun q:GB Y=>HKQ.out _ (bb2 HB2.out (bb2 hB3 q.h))
    have r0:=fun q:GB Y=>aA1 (kaq q) (i:=0) rfl
    have r1:=fun q:GB Y=>aA1 (kaq q) (i:=1) rfl
    have r2:=fun q:GB Y=>aA1 (kaq q) (i:=2) rfl
    have r3:=fun q:GB Y=>aA1 (kaq q) (i:=3) rfl
    have r4:=fun q:GB Y=>aA1 (kaq q) (i:=4) rfl
    have r5:=fun q:GB Y=>aA1 (kaq q) (i:=5) rfl
    have bq:∀ q:GB Y,q.W.cell? ⟨gb,ofb+m*3,none⟩=some (.int .i64 x.ref.kind)∧q.W.cell? ⟨gb,ofb+m*3+1,none⟩=some (.string x.ref.space)∧q.W.cell? ⟨gb,ofb+m*3+2,none⟩=some (.string x.ref.name):=fun q=>by
     obtain ⟨_,g2,o2,h3,_,h4,h5,h6⟩:=HBJ.out _ (bb2 hB3 q.h)
     injection h3 with h3
     injection h3 with e1 e2
     subst e1 e2
     exact ⟨h4,h5,h6⟩
    have s0:=fun q:GB Y=>(bq q).1
    have s1:=fun q:GB Y=>(bq q).2.1
    have s2:=fun q:GB Y=>(bq q).2.2
    clear bq kaq
    refine aAd (by kernel_rfl) (by kernel_rfl) ?_
    repeat (first | go_big_quiet_step (fail) | quiet_step (fail))
    refine wpQuiet_nil ?_
    intro _ hw'
    obtain ⟨qq,hw2⟩:=hw'
    subst hw2
    have hqq:=qq.h
    go_wp2_with fail
    exact ⟨⟨j+1,by omega,by go_num,by rw [HC.out];go_num,bb2 hB3 hqq⟩,by simp [intOf];omega⟩
  ·have hlt':¬ (j:Int)<(L.length:Int):=by omega
   have hj2:j=L.length:=by omega
   have hct:((L.take j).filter p).length=(L.filter p).length:=by rw [hj2,List.take_length]
   rw [hct]
   clear hct hj2 hlt
   have hj3:(j:Int)=(L.length:Int):=by omega
   go_wp2_with fail
   clear hj3
   have hz2:=hB.size
   go_loopw [7,8] (fun o i wq=>∃ t:Nat,t≤L.length∧i=.int .i64 ((t:Int) - 1)∧wq.ownsRow w2.heap.size 36 13 o (L.drop t).reverse.length (EO.flat (L.drop t).reverse)∧Below w2.heap.size w2 wq) (fun _ i _=>(intOf i+1).toNat)
   case atStart=>exact ⟨L.length,Nat.le_refl _,rfl,by rw [List.drop_length];exact World.ownsRow_nil _ _ _ _,hB⟩
   case round =>
    clear hB hBV o0 o1 o2 o3 o4 o5 hz2
    obtain ⟨t,ht,rfl,hrow,hB⟩:=hrel
    have hBV:=HB2.out.trans (hB.mono HB2.out.size)
    have ka:=HKQ.out _ hBV
    obtain ⟨o0,o1,o2,o3,o4,o5⟩:_∧_∧_∧_∧_∧_:=⟨aA1 ka (i:=0) rfl,aA1 ka (i:=1) rfl,aA1 ka (i:=2) rfl,aA1 ka (i:=3) rfl,aA1 ka (i:=4) rfl,aA1 ka (i:=5) rfl⟩
    obtain ⟨vo,vc,rfl⟩:=aAl hrow
    cases t with
    | succ t =>
      clear ka
      have hlt:t<L.length:=by omega
      have e:((t+1:Nat):Int) - 1=(t:Int):=by omega
      rw [e]
      have hlt':(t:Int)<(L.length:Int):=by omega
      have HD:Hid ((L.drop t).reverse=(L.drop (t+1)).reverse++[L[t]]):=by
       unfold Hid
       rw [List.drop_eq_getElem_cons hlt,List.reverse_cons]
      have hl3:(L.drop (t+1)).reverse.length≤24:=by rw [List.length_reverse,List.length_drop];omega
      obtain ⟨hA,gg,off,rfl,hgg,c0,c1,c2,c3,c4,c5,c6,c7,c8,c9,c10,c11,c12⟩:=HO.out _ hBV t hlt
      generalize L[t]=x at *
      have HROW:=hide hrow
      generalize (L.drop (t+1)).reverse=R at *
      clear hrow e
      have ba:=(Below.refl wr.heap.size wr).alloc (Nat.le_refl _) (.cells #[.int .i64 x.ref.kind,.string x.ref.space,.string x.ref.name,.bool x.good,.slice x.al x.labels.length x.cl,.slice x.ap x.ports.length x.cp,.string x.cls,.slice x.ai x.lis.length x.ci,.slice x.aq x.pars.length x.cq,.slice x.ah x.hosts.length x.ch,.slice x.ar x.rules.length x.cr,.slice x.af x.frm.length x.cf,.slice x.ao x.tos.length x.co] 36)
      have SLX:Sl EO (wr.alloc (.cells #[.int .i64 x.ref.kind,.string x.ref.space,.string x.ref.name,.bool x.good,.slice x.al x.labels.length x.cl,.slice x.ap x.ports.length x.cp,.string x.cls,.slice x.ai x.lis.length x.ci,.slice x.aq x.pars.length x.cq,.slice x.ah x.hosts.length x.ch,.slice x.ar x.rules.length x.cr,.slice x.af x.frm.length x.cf,.slice x.ao x.tos.length x.co] 36)) (.slice (some ⟨wr.heap.size,0,none⟩) 1 1) [x]:=Sl.at_block (aA7 wr _) (hA.below ba)
      have HR3:=aA4 HROW.out ba
      have hz3:=hB.size
      go_wp2_with (at_builtin;refine aAx (E:=EO) 22 36 _ 256 Tryz.underlying22 Tryz.infoObj rfl (by decide) _ _ _ rfl (by rfl) w2.heap.size _ _ _ rfl HR3 _ _ rfl SLX (by simp;omega) (by simp;omega) ?_;intro v' w3 hown' hgrow)
      refine ⟨⟨t,by omega,by go_num,by rw [HD.out,List.length_append];exact hown',?_⟩,by simp [intOf]⟩
      exact (hB.alloc hz3 _).grown hgrow (by simp;omega) (fun j e=>aAf HR3 e)
    | zero =>
      rw [List.drop_zero] at hrow ⊢
      have HSB:Sl EO wr (.slice vo L.reverse.length vc) L.reverse:=Sl.of_row (E:=EO) rfl hrow (fun x hx=>(HSL.out.all x (List.mem_reverse.1 hx)).below hBV)
      have SL2:Sl EO wr (.slice a L.length c) L:=HSL.out.below hBV
      have CP1:∀ q:GB wr,Hid (Calls Tryz.prog 17 #[.slice vo L.length vc,.int .i64 k,.string s,.agg #[.int .i64 rk,.string rs,.string rn]] q.W fun e w'=>e=.returned (.bool (Gr.permits (L.reverse.map OV.b) k s ⟨rk,rs,rn⟩))∧Below q.W.heap.size q.W w'):=fun q=>by
       have h:=aB1 k s ⟨rk,rs,rn⟩ q.W (HSB.below q.h) (fun o ho=>HOK.out o (List.mem_reverse.1 ho))
       rw [List.length_reverse] at h
       exact hide h
      have CP2:∀ q:GB wr,Hid (Calls Tryz.prog 17 #[.slice a L.length c,.int .i64 k,.string s,.agg #[.int .i64 rk,.string rs,.string rn]] q.W fun e w'=>e=.returned (.bool (Gr.permits (L.map OV.b) k s ⟨rk,rs,rn⟩))∧Below q.W.heap.size q.W w'):=fun q=>hide (aB1 k s ⟨rk,rs,rn⟩ q.W (SL2.below q.h) HOK.out)
      rw [List.map_reverse,Gr.permits_reverse] at CP1
      generalize Gr.permits (L.map OV.b) k s ⟨rk,rs,rn⟩=y at *
      have HBX:=hide (bb2 HBQ.out hBV)
      have kaq:=fun q:GB wr=>HKQ.out _ (bb2 hBV q.h)
      have r0:=fun q:GB wr=>aA1 (kaq q) (i:=0) rfl
      have r1:=fun q:GB wr=>aA1 (kaq q) (i:=1) rfl
      have r2:=fun q:GB wr=>aA1 (kaq q) (i:=2) rfl
      have r3:=fun q:GB wr=>aA1 (kaq q) (i:=3) rfl
      have r4:=fun q:GB wr=>aA1 (kaq q) (i:=4) rfl
      have r5:=fun q:GB wr=>aA1 (kaq q) (i:=5) rfl
      clear kaq ka HSB SL2 hrow hBV hB
      cases y
      ·go_wp2_with fail
       refine aAd (by kernel_rfl) (by kernel_rfl) ?_
       repeat (first | go_big_quiet_step ((first | (go_at_call 17;first | with_reducible exact aA2 (CP1 _).out | with_reducible exact aA2 (CP2 _).out) | (go_at_call 22;exact aA2 (aB3 _)))) | quiet_step ((first | (go_at_call 17;first | with_reducible exact aA2 (CP1 _).out | with_reducible exact aA2 (CP2 _).out) | (go_at_call 22;exact aA2 (aB3 _)))))
       refine wpQuiet_nil ?_
       intro _ hw'
       obtain ⟨qq,hw2⟩:=hw'
       subst hw2
       have hqq:=qq.h
       go_wp2_with fail
       go_ret
       exact ⟨rfl,bb2 HBX.out hqq⟩
      ·go_wp2_with fail
       refine aAd (by kernel_rfl) (by kernel_rfl) ?_
       repeat (first | go_big_quiet_step ((first | (go_at_call 17;first | with_reducible exact aA2 (CP1 _).out | with_reducible exact aA2 (CP2 _).out) | (go_at_call 22;exact aA2 (aB3 _)))) | quiet_step ((first | (go_at_call 17;first | with_reducible exact aA2 (CP1 _).out | with_reducible exact aA2 (CP2 _).out) | (go_at_call 22;exact aA2 (aB3 _)))))
       refine wpQuiet_nil ?_
       intro _ hw'
       obtain ⟨qq,hw2⟩:=hw'
       subst hw2
       have hqq:=qq.h
       go_wp2_with fail
       go_ret
       exact ⟨rfl,bb2 HBX.out hqq⟩
end Go.Proofs.YthnodpdiocppgaaGreatDoor
