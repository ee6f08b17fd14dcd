/-
  The law GrantFinds.
-/
import Derived.Test.YthnodpdiocppgaaGreatDoorJ27
import Derived.Test.YthnodpdiocppgaaGreatDoorJ29
import Derived.Test.YthnodpdiocppgaaGreatDoorJ25
import Derived.BigQuiet
set_option maxHeartbeats 12800000
set_option linter.unusedVariables false
set_option linter.unusedSimpArgs false
set_option maxRecDepth 20000
namespace Go.Proofs.YthnodpdiocppgaaGreatDoor
open Go Go.RowKit Go.Shelf
attribute [local go_sem] aAu
theorem aPm {L':List OV} {l:List OB} (h:L'.map OV.b=aDw l):∀ o∈L',LenO o:=fun o ho=>by
 have:o.b∈aDw l:=by rw [←h];exact List.mem_map.2 ⟨o,ho,rfl⟩
 obtain ⟨b,_,hb⟩:=List.mem_map.1 this
 exact aLy hb.symm
theorem aS4 (v0 v1:Value) (s0:ByteArray) (w:World) (h0:aTv w v0) (h1:aTu w v1) (hs:s0.size≤maxLen) :
  Calls Tryz.prog 7 #[v0,v1,.string s0] w fun e w'=>e=.returned (.bool true)∧Below w.heap.size w w':=by
 obtain ⟨a0,c0,M0,rfl,hM,rawM⟩:=h0
 obtain ⟨r0,rfl,rr⟩:=h1
 obtain ⟨rk,rs0,rn0⟩:=r0
 have C0:=fun W (h:Below w.heap.size w W)=>hide (aKg W (hM.below h) rawM)
 have C1:=fun W=>hide (aDt ⟨rk,rs0,rn0⟩ W rr)
 have C2:=fun W=>hide (aAw s0 W hs)
 obtain ⟨X,hX⟩:∃ z,z=w.alloc (.cells #[.int .i64 rk,.string rs0,.string rn0] 24):=⟨_,rfl⟩
 have B1:Below w.heap.size w X:=by rw [hX];exact (Below.refl _ _).alloc (Nat.le_refl _) _
 have K1:X.heap[w.heap.size]?=some (.cells #[.int .i64 rk,.string rs0,.string rn0] 24):=by rw [hX];exact aA7 w _
 have HK1:=hide K1
 have HB1:=hide B1
 have n0:=fun W (h:Below X.heap.size X W)=>aA0 (aA2 K1 h) (i:=0) rfl
 have n1:=fun W (h:Below X.heap.size X W)=>aA0 (aA2 K1 h) (i:=1) rfl
 have n2:=fun W (h:Below X.heap.size X W)=>aA0 (aA2 K1 h) (i:=2) rfl
 clear hM rawM K1 B1 rr hs
 go_enter Tryz.func7,Tryz.ntmps7
 go_wp2_with fail
 rw [←hX]
 clear hX
 refine aB4 6 (fun W=>Below X.heap.size X W) (by kernel_rfl) ((Below.refl _ _).drew) ?_
 refine zzG 0 5 (.slice a0 M0.length c0) rfl (by kernel_rfl) (fun _ _ _ h=>h) (by rfl) (fun w1 hS=>?_) ?_
 ·(try dsimp only at hS)
  go_simp
 simp only [Act.put,zzB,zzC,zzD]
 refine zzG 2 5 (.agg #[.int .i64 rk,.string rs0,.string rn0]) rfl (by kernel_rfl) (fun _ _ _ h=>h) (by rfl) (fun w1 hS=>?_) ?_
 ·(try dsimp only at hS)
  go_simp
 simp only [Act.put,zzB,zzC,zzD]
 refine zzG 4 5 (.string s0) rfl (by kernel_rfl) (fun _ _ _ h=>h) (by rfl) (fun w1 hS=>?_) ?_
 ·(try dsimp only at hS)
  go_simp
 simp only [Act.put,zzB,zzC,zzD]
 clear n0 n1 n2
 refine aAf (rs:=[1]) (by kernel_rfl) (by simp) (fun W1 hG1 hS1 i hi=>?_)
 obtain rfl:i=1:=by simpa using hi
 clear hi
 refine aAb rfl (by rfl) (fun K' hK'=>?_)
 replace hK':=hide hK'
 go_simp
 refine (C0 _ (HB1.out.trans (hS1.mono HB1.out.size))).out.mono ?_
 rintro e w2 ⟨a,c,L,rfl,hLb,hLo,hb2⟩
 have BK0:=hS1.trans (hb2.mono hS1.size)
 go_wp2_with fail
 refine hK'.out _ _ (aAx (by decide) BK0 ?_)
 have HLB:=hide hLb
 have hw12:=hS1.size
 clear hK' K' hG1 hb2 BK0 hS1 hLb
 obtain ⟨rs,hrs⟩:∃ z,fewB rs0=z:=⟨_,rfl⟩
 obtain ⟨rn,hrn⟩:∃ z,fewB rn0=z:=⟨_,rfl⟩
 obtain ⟨s,hs2⟩:∃ z,fewB s0=z:=⟨_,rfl⟩
 unfold aC1 at C1
 dsimp only at C1
 rw [hrs,hrn] at C1
 rw [hs2] at C2
 refine zzG 3 5 (.agg #[.int .i64 rk,.string rs,.string rn]) rfl (by kernel_rfl) (fun _ _ _ h=>h) (by rfl) (fun w1 hS=>?_) ?_
 ·(try dsimp only at hS)
  go_simp
  exact aFv hS (Nat.le_refl _) (C1 _).out
 simp only [Act.put,zzB,zzC,zzD]
 refine zzG 5 5 (.string s) rfl (by kernel_rfl) (fun _ _ _ h=>h) (by rfl) (fun w1 hS=>?_) ?_
 ·(try dsimp only at hS)
  go_simp
  exact aAq hS (C2 _).out
 simp only [Act.put,zzB,zzC,zzD]
 refine aAf (rs:=[6]) (by kernel_rfl) (by simp) (fun W hG hS i hi=>?_)
 obtain rfl:i=6:=by simpa using hi
 clear hi
 replace hLo:=hLo.below hG
 have kb:=aA2 HK1.out hS
 have BZ:=HB1.out.trans (hS.mono HB1.out.size)
 clear hG hS C0 C1 C2 HK1 HB1 hrs hrn hs2
 refine aAb rfl (by rfl) (fun K' hK'=>?_)
 go_simp
 refine hK' _ _ (aBq (by decide) ?_)
 clear hK' K'
 refine aCm (i:=7) (by kernel_rfl) ?_
 have lz:=aAl kb
 obtain ⟨o0,o1,o2⟩:_∧_∧_:=⟨aA0 kb (i:=0) rfl,aA0 kb (i:=1) rfl,aA0 kb (i:=2) rfl⟩
 refine aAb rfl (by rfl) (fun K' hK'=>?_)
 go_simp
 refine hK' _ _ ?_
 clear hK' K' lz o0 o1 o2
 change wpAny _ _ _ _ _ _ _ (setL W w.heap.size 0 [.int .i64 rk,.string rs,.string rn])
 have kr:=aB2 [.int .i64 rk,.string rs,.string rn] kb rfl
 replace hLo:=hLo.bxt ((BX.refl w.heap.size W.heap.size W).setL 0 [.int .i64 rk,.string rs,.string rn]) kb (by decide) (by decide)
 have BZ3:=aAh (w:=w) (B:=w.heap.size) (g:=w.heap.size) (Nat.le_refl _) [.int .i64 rk,.string rs,.string rn] W 0 BZ
 clear kb BZ
 generalize setL W w.heap.size 0 [.int .i64 rk,.string rs,.string rn]=V at *
 refine aCm (i:=8) (by kernel_rfl) ?_
 refine aAb rfl (by rfl) (fun K' hK'=>?_)
 go_simp
 refine hK' _ _ ?_
 clear hK' K'
 refine aBf (by kernel_rfl) ?_
 have SL:=hLo.sl
 obtain ⟨okL,hl24⟩:=aMb HLB.out
 have lnL:=aPm HLB.out
 clear hLo HLB
 have CF:=hide (aH0 ⟨rk,rs,rn⟩ V SL lnL)
 obtain ⟨o0,o1,o2⟩:_∧_∧_:=⟨aA0 kr (i:=0) rfl,aA0 kr (i:=1) rfl,aA0 kr (i:=2) rfl⟩
 go_wp2_with fail
 refine CF.out.mono ?_
 rintro e w3 ⟨y,rfl,hy,haty,hb3⟩
 clear o0 o1 o2 CF
 have HFI:Hid (∀ j (hj:j<L.length),(L.take j).any (fun o=>Ob.eqR o.ref ⟨rk,rs,rn⟩)=false→Ob.eqR L[j].ref ⟨rk,rs,rn⟩=true→(Gr.find (L.map OV.b) ⟨rk,rs,rn⟩).isSome=true∧y.b=L[j].b):=fun j hj hno h=>by
  have hm:j<(L.map OV.b).length:=by rw [List.length_map];exact hj
  have:=Gr.find_at (l:=L.map OV.b) (r:=⟨rk,rs,rn⟩) hm (by rw [List.getElem_map];exact Ob.eqR_iff.1 h) (fun i hi hij=>by
   rw [List.getElem_map]
   intro e
   have h2:=List.any_eq_false.1 hno L[i] (List.mem_take_iff_getElem.2 ⟨i,by omega,rfl⟩)
   exact h2 (Ob.eqR_iff.2 e))
  rw [this,List.getElem_map] at hy
  rw [this]
  exact ⟨rfl,hy⟩
 have HIS:Hid ((Gr.find (L.map OV.b) ⟨rk,rs,rn⟩).isSome=L.any fun o=>Ob.eqR o.ref ⟨rk,rs,rn⟩):=by
  unfold Hid
  rw [aMd,Option.isSome_map,List.head?_filter,Bool.eq_iff_iff,List.find?_isSome,List.any_eq_true]
 generalize (Gr.find (L.map OV.b) ⟨rk,rs,rn⟩).isSome=isv at *
 have HLT:Hid (Gr.find ((L.filter fun o=>!Ob.eqR o.ref ⟨rk,rs,rn⟩).map OV.b) ⟨rk,rs,rn⟩=none):=by
  have:=Gr.find_less (L.map OV.b) ⟨rk,rs,rn⟩
  rw [List.filter_map] at this
  exact this
 obtain ⟨p,hp⟩:∃ p:OV→Bool,p=fun o=>Ob.eqR o.ref ⟨rk,rs,rn⟩:=⟨_,rfl⟩
 have hpo:∀ o,Ob.eqR (OV.ref o) ⟨rk,rs,rn⟩=p o:=fun o=>by rw [hp]
 simp only [hpo] at HFI HIS HLT
 have HPO:=hide hpo
 clear hp hpo hy
 obtain ⟨Z,hZ⟩:∃ z,z=w3.alloc (.cells #[.int .i64 y.ref.kind,.string y.ref.space,.string y.ref.name,.bool y.good,.slice y.al y.labels.length y.cl,.slice y.ap y.ports.length y.cp,.string y.cls,.slice y.ai y.lis.length y.ci,.slice y.aq y.pars.length y.cq,.slice y.ah y.hosts.length y.ch,.slice y.ar y.rules.length y.cr,.slice y.af y.frm.length y.cf,.slice y.ao y.tos.length y.co] 36):=⟨_,rfl⟩
 have BVZ:Below V.heap.size V Z:=by rw [hZ];exact hb3.alloc hb3.size _
 have HKO:=hide (show Z.heap[w3.heap.size]?=some (.cells #[.int .i64 y.ref.kind,.string y.ref.space,.string y.ref.name,.bool y.good,.slice y.al y.labels.length y.cl,.slice y.ap y.ports.length y.cp,.string y.cls,.slice y.ai y.lis.length y.ci,.slice y.aq y.pars.length y.cq,.slice y.ah y.hosts.length y.ch,.slice y.ar y.rules.length y.cr,.slice y.af y.frm.length y.cf,.slice y.ao y.tos.length y.co] 36) by rw [hZ];exact aA7 _ _)
 have HKR:=hide (aA2 kr BVZ)
 have HSL:=hide (SL.below BVZ)
 have HAY:=hide (haty.below (show Below w3.heap.size w3 Z by rw [hZ];exact (Below.refl _ _).alloc (Nat.le_refl _) _))
 have HBQ:=hide (bb2 BZ3 BVZ)
 have HO:=hide (fun W (h:Below Z.heap.size Z W) j (hj:j<L.length)=>oneO HSL.out h hj)
 have HOK:=hide okL
 have HLN:=hide lnL
 clear kr SL haty BZ3 okL lnL BVZ hb3
 go_wp2_with fail
 go_loopw [9,10,11] (fun o fv i wr=>∃ j:Nat,j≤L.length∧i=.int .i64 j∧fv=.bool (!(L.take j).any p)∧wr.ownsRow Z.heap.size 36 13 o ((L.take j).filter fun o=>!p o).length (EO.flat ((L.take j).filter fun o=>!p o))∧Below Z.heap.size Z wr) (fun _ _ i _=>L.length - (intOf i).toNat)
 case atStart=>exact ⟨0,Nat.zero_le _,rfl,rfl,World.ownsRow_nil _ _ _ _,by rw [hZ];exact Below.refl _ _⟩
 case round =>
  clear hZ
  obtain ⟨j,hj,rfl,rfl,hrow,hB⟩:=hrel
  have kr:=aA2 HKR.out hB
  obtain ⟨vo,vc,rfl⟩:=aAj hrow
  have HROW:=hide hrow
  clear hrow
  by_cases hlt:j<L.length
  ·have hlt':(j:Int)<(L.length:Int):=by omega
   obtain ⟨hA,gg,off,rfl,hgg,c0,c1,c2,c3,c4,c5,c6,c7,c8,c9,c10,c11,c12⟩:=HO.out _ hB j hlt
   have q0:=fun q:GB wr=>(q.h.cell (p:=⟨gg,off+j*13,none⟩) (Nat.lt_of_lt_of_le hgg hB.size)).trans c0
   have q1:=fun q:GB wr=>(q.h.cell (p:=⟨gg,off+j*13+1,none⟩) (Nat.lt_of_lt_of_le hgg hB.size)).trans c1
   have q2:=fun q:GB wr=>(q.h.cell (p:=⟨gg,off+j*13+2,none⟩) (Nat.lt_of_lt_of_le hgg hB.size)).trans c2
   have q3:=fun q:GB wr=>(q.h.cell (p:=⟨gg,off+j*13+3,none⟩) (Nat.lt_of_lt_of_le hgg hB.size)).trans c3
   have q4:=fun q:GB wr=>(q.h.cell (p:=⟨gg,off+j*13+4,none⟩) (Nat.lt_of_lt_of_le hgg hB.size)).trans c4
   have q5:=fun q:GB wr=>(q.h.cell (p:=⟨gg,off+j*13+5,none⟩) (Nat.lt_of_lt_of_le hgg hB.size)).trans c5
   have q6:=fun q:GB wr=>(q.h.cell (p:=⟨gg,off+j*13+6,none⟩) (Nat.lt_of_lt_of_le hgg hB.size)).trans c6
   have q7:=fun q:GB wr=>(q.h.cell (p:=⟨gg,off+j*13+7,none⟩) (Nat.lt_of_lt_of_le hgg hB.size)).trans c7
   have q8:=fun q:GB wr=>(q.h.cell (p:=⟨gg,off+j*13+8,none⟩) (Nat.lt_of_lt_of_le hgg hB.size)).trans c8
   have q9:=fun q:GB wr=>(q.h.cell (p:=⟨gg,off+j*13+9,none⟩) (Nat.lt_of_lt_of_le hgg hB.size)).trans c9
   have q10:=fun q:GB wr=>(q.h.cell (p:=⟨gg,off+j*13+10,none⟩) (Nat.lt_of_lt_of_le hgg hB.size)).trans c10
   have q11:=fun q:GB wr=>(q.h.cell (p:=⟨gg,off+j*13+11,none⟩) (Nat.lt_of_lt_of_le hgg hB.size)).trans c11
   have q12:=fun q:GB wr=>(q.h.cell (p:=⟨gg,off+j*13+12,none⟩) (Nat.lt_of_lt_of_le hgg hB.size)).trans c12
   obtain ⟨r0,r1,r2⟩:_∧_∧_:=⟨fun q:GB wr=>aA0 (aA2 kr q.h) (i:=0) rfl,fun q:GB wr=>aA0 (aA2 kr q.h) (i:=1) rfl,fun q:GB wr=>aA0 (aA2 kr q.h) (i:=2) rfl⟩
   have koq:=fun q:GB wr=>aA2 HKO.out (bb2 hB q.h)
   obtain ⟨e0,e1,e2,e3,e4,e5,e6,e7,e8,e9,e10,e11,e12⟩:_∧_∧_∧_∧_∧_∧_∧_∧_∧_∧_∧_∧_:=⟨fun q:GB wr=>aA0 (koq q) (i:=0) rfl,fun q:GB wr=>aA0 (koq q) (i:=1) rfl,fun q:GB wr=>aA0 (koq q) (i:=2) rfl,fun q:GB wr=>aA0 (koq q) (i:=3) rfl,fun q:GB wr=>aA0 (koq q) (i:=4) rfl,fun q:GB wr=>aA0 (koq q) (i:=5) rfl,fun q:GB wr=>aA0 (koq q) (i:=6) rfl,fun q:GB wr=>aA0 (koq q) (i:=7) rfl,fun q:GB wr=>aA0 (koq q) (i:=8) rfl,fun q:GB wr=>aA0 (koq q) (i:=9) rfl,fun q:GB wr=>aA0 (koq q) (i:=10) rfl,fun q:GB wr=>aA0 (koq q) (i:=11) rfl,fun q:GB wr=>aA0 (koq q) (i:=12) rfl⟩
   have hl3:((L.take j).filter fun o=>!p o).length≤24:=Nat.le_trans (List.length_filter_le _ _) (by rw [List.length_take];omega)
   have EQ0:=aG9 L[j].ref ⟨rk,rs,rn⟩
   rw [HPO.out L[j]] at EQ0
   have HAN:Hid ((L.take (j+1)).any p=((L.take j).any p||p L[j])):=by
    unfold Hid
    rw [List.take_succ_eq_append_getElem hlt,List.any_append]
    simp only [List.any_cons,List.any_nil,Bool.or_false]
   have HF2:=hide (HFI.out j hlt)
   clear kr koq
   cases hp:p L[j]
   ·have HD:Hid ((L.take (j+1)).filter (fun o=>!p o)=(L.take j).filter (fun o=>!p o)++[L[j]]):=by
     unfold Hid
     rw [List.take_succ_eq_append_getElem hlt,List.filter_append,List.filter_cons_of_pos (by rw [hp];rfl)]
     rfl
    rw [hp,Bool.or_false] at HAN
    rw [hp] at EQ0
    clear hp HF2
    generalize L[j]=x at *
    generalize (L.take j).filter (fun o=>!p o)=R at *
    generalize (L.take j).any p=av at *
    go_wp2_with fail
    refine aA6 (by kernel_rfl) (by kernel_rfl) ?_
    repeat (first | go_big_quiet_step (fail) | quiet_step (fail))
    refine wpQuiet_nil ?_
    intro _ hw'
    obtain ⟨qq,hw2⟩:=hw'
    subst hw2
    have hqq:=qq.h
    have ba:=(Below.refl qq.W.heap.size qq.W).alloc (Nat.le_refl _) (.cells #[.int .i64 x.ref.kind,.string x.ref.space,.string x.ref.name,.bool x.good,.slice x.al x.labels.length x.cl,.slice x.ap x.ports.length x.cp,.string x.cls,.slice x.ai x.lis.length x.ci,.slice x.aq x.pars.length x.cq,.slice x.ah x.hosts.length x.ch,.slice x.ar x.rules.length x.cr,.slice x.af x.frm.length x.cf,.slice x.ao x.tos.length x.co] 36)
    have SLX:Sl EO (qq.W.alloc (.cells #[.int .i64 x.ref.kind,.string x.ref.space,.string x.ref.name,.bool x.good,.slice x.al x.labels.length x.cl,.slice x.ap x.ports.length x.cp,.string x.cls,.slice x.ai x.lis.length x.ci,.slice x.aq x.pars.length x.cq,.slice x.ah x.hosts.length x.ch,.slice x.ar x.rules.length x.cr,.slice x.af x.frm.length x.cf,.slice x.ao x.tos.length x.co] 36)) (.slice (some ⟨qq.W.heap.size,0,none⟩) 1 1) [x]:=Sl.at_block (aA7 qq.W _) ((hA.below hqq).below ba)
    have HR3:=aA4 HROW.out (bb2 hqq ba)
    have hz3:=hB.size
    have hz5:=hqq.size
    go_wp2_with (at_builtin;refine aAg (E:=EO) 22 36 _ 256 Tryz.underlying22 Tryz.infoObj rfl (by decide) _ _ _ rfl (by rfl) Z.heap.size _ _ _ rfl HR3 _ _ rfl SLX (by simp;omega) (by simp;omega) ?_;intro v' w4 hown' hgrow)
    refine ⟨⟨j+1,by omega,by go_num,by rw [HAN.out],by rw [HD.out,List.length_append];exact hown',?_⟩,by simp [intOf];omega⟩
    exact (bb2 hB (bb2 hqq ba)).grown hgrow (by simp;omega) (fun j e=>aAe HR3 e)
   ·have HD:Hid ((L.take (j+1)).filter (fun o=>!p o)=(L.take j).filter (fun o=>!p o)):=by
     unfold Hid
     rw [List.take_succ_eq_append_getElem hlt,List.filter_append,List.filter_cons_of_neg (by rw [hp];decide),List.filter_nil,List.append_nil]
    rw [hp,Bool.or_true] at HAN
    rw [hp] at EQ0
    cases hav:(L.take j).any p
    ·obtain ⟨rfl,hyb⟩:=HF2.out hav hp
     have HRO:=hide (fun W (h:Below wr.heap.size wr W)=>aCe y L[j] W (HAY.out.below (bb2 hB h)) (hA.below h))
     have hsm:Ob.sameO y.b L[j].b=true:=by rw [hyb];exact Ob.sameO_self _
     rw [hsm] at HRO
     clear hp HF2 hsm hyb hav
     generalize L[j]=x at *
     go_wp2_with fail
     refine aA6 (by kernel_rfl) (by kernel_rfl) ?_
     repeat (first | go_big_quiet_step (fail) | quiet_step (fail))
     refine wpQuiet_nil ?_
     intro _ hw'
     obtain ⟨qq,hw2⟩:=hw'
     subst hw2
     have hqq:=qq.h
     go_wp2_with fail
     have CS:∀ q:GB qq.W,Hid (Calls Tryz.prog 12 #[.agg #[.int .i64 y.ref.kind,.string y.ref.space,.string y.ref.name,.bool y.good,.slice y.al y.labels.length y.cl,.slice y.ap y.ports.length y.cp,.string y.cls,.slice y.ai y.lis.length y.ci,.slice y.aq y.pars.length y.cq,.slice y.ah y.hosts.length y.ch,.slice y.ar y.rules.length y.cr,.slice y.af y.frm.length y.cf,.slice y.ao y.tos.length y.co],.agg #[.int .i64 x.ref.kind,.string x.ref.space,.string x.ref.name,.bool x.good,.slice x.al x.labels.length x.cl,.slice x.ap x.ports.length x.cp,.string x.cls,.slice x.ai x.lis.length x.ci,.slice x.aq x.pars.length x.cq,.slice x.ah x.hosts.length x.ch,.slice x.ar x.rules.length x.cr,.slice x.af x.frm.length x.cf,.slice x.ao x.tos.length x.co]] q.W fun e w'=>e=.returned (.bool true)∧Below q.W.heap.size q.W w'):=fun q=>hide (HRO.out q.W (bb2 hqq q.h))
     have Q0:=fun q:GB qq.W=>q0 ⟨q.W,bb2 hqq q.h⟩
     have Q1:=fun q:GB qq.W=>q1 ⟨q.W,bb2 hqq q.h⟩
     have Q2:=fun q:GB qq.W=>q2 ⟨q.W,bb2 hqq q.h⟩
     have Q3:=fun q:GB qq.W=>q3 ⟨q.W,bb2 hqq q.h⟩
     have Q4:=fun q:GB qq.W=>q4 ⟨q.W,bb2 hqq q.h⟩
     have Q5:=fun q:GB qq.W=>q5 ⟨q.W,bb2 hqq q.h⟩
     have Q6:=fun q:GB qq.W=>q6 ⟨q.W,bb2 hqq q.h⟩
     have Q7:=fun q:GB qq.W=>q7 ⟨q.W,bb2 hqq q.h⟩
     have Q8:=fun q:GB qq.W=>q8 ⟨q.W,bb2 hqq q.h⟩
     have Q9:=fun q:GB qq.W=>q9 ⟨q.W,bb2 hqq q.h⟩
     have Q10:=fun q:GB qq.W=>q10 ⟨q.W,bb2 hqq q.h⟩
     have Q11:=fun q:GB qq.W=>q11 ⟨q.W,bb2 hqq q.h⟩
     have Q12:=fun q:GB qq.W=>q12 ⟨q.W,bb2 hqq q.h⟩
     have E0:=fun q:GB qq.W=>e0 ⟨q.W,bb2 hqq q.h⟩
     have E1:=fun q:GB qq.W=>e1 ⟨q.W,bb2 hqq q.h⟩
     have E2:=fun q:GB qq.W=>e2 ⟨q.W,bb2 hqq q.h⟩
     have E3:=fun q:GB qq.W=>e3 ⟨q.W,bb2 hqq q.h⟩
     have E4:=fun q:GB qq.W=>e4 ⟨q.W,bb2 hqq q.h⟩
     have E5:=fun q:GB qq.W=>e5 ⟨q.W,bb2 hqq q.h⟩
     have E6:=fun q:GB qq.W=>e6 ⟨q.W,bb2 hqq q.h⟩
     have E7:=fun q:GB qq.W=>e7 ⟨q.W,bb2 hqq q.h⟩
     have E8:=fun q:GB qq.W=>e8 ⟨q.W,bb2 hqq q.h⟩
     have E9:=fun q:GB qq.W=>e9 ⟨q.W,bb2 hqq q.h⟩
     have E10:=fun q:GB qq.W=>e10 ⟨q.W,bb2 hqq q.h⟩
     have E11:=fun q:GB qq.W=>e11 ⟨q.W,bb2 hqq q.h⟩
     have E12:=fun q:GB qq.W=>e12 ⟨q.W,bb2 hqq q.h⟩
     clear q0 e0 q1 e1 q2 e2 q3 e3 q4 e4 q5 e5 q6 e6 q7 e7 q8 e8 q9 e9 q10 e10 q11 e11 q12 e12 c0 c1 c2 c3 c4 c5 c6 c7 c8 c9 c10 c11 c12
     dsimp only at Q0 E0 Q1 E1 Q2 E2 Q3 E3 Q4 E4 Q5 E5 Q6 E6 Q7 E7 Q8 E8 Q9 E9 Q10 E10 Q11 E11 Q12 E12
     refine aA6 (by kernel_rfl) (by kernel_rfl) ?_
     repeat (first | go_big_quiet_step ((go_at_call 12;exact aA3 (CS _).out)) | quiet_step ((go_at_call 12;exact aA3 (CS _).out)))
     refine wpQuiet_nil ?_
     intro _ hw'
     obtain ⟨zz,hw2⟩:=hw'
     subst hw2
     have hzz:=zz.h
     go_wp2_with fail
     exact ⟨⟨j+1,by omega,by go_num,by rw [HAN.out];rfl,by rw [HD.out];exact aA4 HROW.out (bb2 hqq hzz),bb2 hB (bb2 hqq hzz)⟩,by simp [intOf];omega⟩
    ·clear hp HF2 hav hA
     generalize L[j]=x at *
     go_wp2_with fail
     refine aA6 (by kernel_rfl) (by kernel_rfl) ?_
     repeat (first | go_big_quiet_step (fail) | quiet_step (fail))
     refine wpQuiet_nil ?_
     intro _ hw'
     obtain ⟨qq,hw2⟩:=hw'
     subst hw2
     have hqq:=qq.h
     go_wp2_with fail
     refine aA6 (by kernel_rfl) (by kernel_rfl) ?_
     repeat (first | go_big_quiet_step (fail) | quiet_step (fail))
     refine wpQuiet_nil ?_
     intro _ hw'
     obtain ⟨zz,hw2⟩:=hw'
     subst hw2
     have hzz:=zz.h
     go_wp2_with fail
     exact ⟨⟨j+1,by omega,by go_num,by rw [HAN.out];rfl,by rw [HD.out];exact aA4 HROW.out (bb2 hqq hzz),bb2 hB (bb2 hqq hzz)⟩,by simp [intOf];omega⟩
  ·have hlt':¬ (j:Int)<(L.length:Int):=by omega
   have hj2:j=L.length:=by omega
   have e1:(L.take j).filter (fun o=>!p o)=L.filter fun o=>!p o:=by rw [hj2,List.take_length]
   have e2:(L.take j).any p=L.any p:=by rw [hj2,List.take_length]
   have hrow:=HROW.out
   rw [e1] at hrow ⊢
   rw [e2]
   have his:=HIS.out
   have hj3:(j:Int)=(L.length:Int):=by omega
   clear e1 e2 hlt HROW hj2 HFI HIS HPO HKO HAY HO
   generalize L.any p=av at *
   subst his
   have HSB:Sl EO wr (.slice vo (L.filter fun o=>!p o).length vc) (L.filter fun o=>!p o):=Sl.of_row (E:=EO) rfl hrow (fun x hx=>(HSL.out.all x (List.mem_filter.1 hx).1).below hB)
   have CF2:=hide (aH0 ⟨rk,rs,rn⟩ wr HSB (fun o ho=>HLN.out o (List.mem_filter.1 ho).1))
   rw [HLT.out] at CF2
   clear HSB hrow HLT HSL
   generalize (L.filter fun o=>!p o).length=ln at *
   have HKW:=hide (fun W (h:Below wr.heap.size wr W)=>aA2 kr h)
   obtain ⟨o0,o1,o2⟩:_∧_∧_:=⟨aA0 kr (i:=0) rfl,aA0 kr (i:=1) rfl,aA0 kr (i:=2) rfl⟩
   go_wp2_with fail
   refine CF2.out.mono ?_
   rintro e w4 ⟨y2,rfl,_,_,hb4⟩
   obtain ⟨Y1,hY1⟩:∃ z,z=w4.alloc (.cells #[.int .i64 y2.ref.kind,.string y2.ref.space,.string y2.ref.name,.bool y2.good,.slice y2.al y2.labels.length y2.cl,.slice y2.ap y2.ports.length y2.cp,.string y2.cls,.slice y2.ai y2.lis.length y2.ci,.slice y2.aq y2.pars.length y2.cq,.slice y2.ah y2.hosts.length y2.ch,.slice y2.ar y2.rules.length y2.cr,.slice y2.af y2.frm.length y2.cf,.slice y2.ao y2.tos.length y2.co] 36):=⟨_,rfl⟩
   have BY1:Below w4.heap.size w4 Y1:=by rw [hY1];exact (Below.refl _ _).alloc (Nat.le_refl _) _
   have HB4:=hide (bb2 hb4 BY1)
   have k4:=HKW.out _ HB4.out
   clear o0 o1 o2 kr CF2
   obtain ⟨o0,o1,o2⟩:_∧_∧_:=⟨aA0 k4 (i:=0) rfl,aA0 k4 (i:=1) rfl,aA0 k4 (i:=2) rfl⟩
   rw [hY1] at o0 o1 o2
   have CN1:=hide (aH1 ⟨rk,rs,rn⟩ s Y1)
   have HNS:=Gr.near_same ⟨rk,rs,rn⟩ s
   have HNG:=hide (Gr.near_given ⟨rk,rs,rn⟩ s)
   have HNT:=hide (Gr.near_twice ⟨rk,rs,rn⟩ s ⟨#[111,116,104,101,114]⟩)
   generalize Ob.near s ⟨rk,rs,rn⟩=nr at *
   obtain ⟨nk,ns,nn⟩:=nr
   dsimp only at HNS HNG HNT CN1
   obtain ⟨rfl,rfl⟩:=HNS
   clear k4
   go_wp2_with fail
   rw [←hY1]
   clear hY1 o0 o1 o2
   refine CN1.out.mono ?_
   rintro e w5 ⟨rfl,hb5⟩
   obtain ⟨Y2,hY2⟩:∃ z,z=w5.alloc (.cells #[.int .i64 nk,.string ns,.string nn] 24):=⟨_,rfl⟩
   have BY2:Below w5.heap.size w5 Y2:=by rw [hY2];exact (Below.refl _ _).alloc (Nat.le_refl _) _
   have KN:=hide (show Y2.heap[w5.heap.size]?=some (.cells #[.int .i64 nk,.string ns,.string nn] 24) by rw [hY2];exact aA7 _ _)
   have HB5:=hide (bb2 HB4.out (bb2 hb5 BY2))
   obtain ⟨f0,f1,f2⟩:_∧_∧_:=⟨fun q:GB Y2=>aA0 (aA2 KN.out q.h) (i:=0) rfl,fun q:GB Y2=>aA0 (aA2 KN.out q.h) (i:=1) rfl,fun q:GB Y2=>aA0 (aA2 KN.out q.h) (i:=2) rfl⟩
   obtain ⟨g0,g1,g2⟩:_∧_∧_:=⟨fun q:GB Y2=>aA0 (HKW.out _ (bb2 HB5.out q.h)) (i:=0) rfl,fun q:GB Y2=>aA0 (HKW.out _ (bb2 HB5.out q.h)) (i:=1) rfl,fun q:GB Y2=>aA0 (HKW.out _ (bb2 HB5.out q.h)) (i:=2) rfl⟩
   have CN:∀ q:GB Y2,Hid (Calls Tryz.prog 13 #[.agg #[.int .i64 nk,.string ns,.string nn],.string ⟨#[111,116,104,101,114]⟩] q.W fun e w'=>e=.returned (rfV (Ob.near ⟨#[111,116,104,101,114]⟩ ⟨nk,ns,nn⟩))∧Below q.W.heap.size q.W w'):=fun q=>hide (aH1 ⟨nk,ns,nn⟩ ⟨#[111,116,104,101,114]⟩ q.W)
   have HTW:Hid (ns.toList.isEmpty=false→Ob.eqR (Ob.near ⟨#[111,116,104,101,114]⟩ ⟨nk,ns,nn⟩) ⟨nk,ns,nn⟩=true):=fun h=>Ob.eqR_iff.2 (HNT.out (by rw [←aBs];exact h))
   have HGV:Hid (rs.toList.isEmpty=false→ns=rs):=fun h=>congrArg RfB.space (HNG.out (by rw [←aBs];exact h))
   have EQ2:=aG9 (Ob.near ⟨#[111,116,104,101,114]⟩ ⟨nk,ns,nn⟩) ⟨nk,ns,nn⟩
   generalize Ob.eqR (Ob.near ⟨#[111,116,104,101,114]⟩ ⟨nk,ns,nn⟩) ⟨nk,ns,nn⟩=bq at *
   generalize Ob.near ⟨#[111,116,104,101,114]⟩ ⟨nk,ns,nn⟩=nb at *
   obtain ⟨bk,bs,bn⟩:=nb
   dsimp only at CN EQ2
   have EQ3:=aG9 ⟨nk,ns,nn⟩ ⟨nk,rs,nn⟩
   dsimp only at EQ3
   clear HNT HNG CN1
   go_wp2_with fail
   rw [←hY2]
   clear hY2
   cases hrs:rs.toList.isEmpty
   ·obtain rfl:=HGV.out hrs
    obtain rfl:=HTW.out hrs
    rw [Ob.eqR_iff.2 rfl] at EQ3
    clear HGV HTW
    cases isv
    all_goals
     refine aA6 (by kernel_rfl) (by kernel_rfl) ?_
     repeat (first | go_big_quiet_step ((go_at_call 13;exact aA3 (CN _).out)) | quiet_step ((go_at_call 13;exact aA3 (CN _).out)))
     refine wpQuiet_nil ?_
     intro _ hw'
     obtain ⟨qq,hw2⟩:=hw'
     subst hw2
     have hqq:=qq.h
     go_wp2_with fail
     have z0:=f0 qq
     have z1:=f1 qq
     have z2:=f2 qq
     have x0:=g0 qq
     have x1:=g1 qq
     have x2:=g2 qq
     go_wp2_with fail
     refine (aEi _).mono ?_
     rintro e w9 ⟨rfl,hb9⟩
     go_wp2_with fail
     go_ret
     exact ⟨rfl,bb2 HBQ.out (bb2 hB (bb2 HB5.out (bb2 hqq hb9)))⟩
   ·cases hes:ns.toList.isEmpty
    ·obtain rfl:=HTW.out hes
     clear HGV HTW EQ3
     cases isv
     all_goals
      refine aA6 (by kernel_rfl) (by kernel_rfl) ?_
      repeat (first | go_big_quiet_step ((go_at_call 13;exact aA3 (CN _).out)) | quiet_step ((go_at_call 13;exact aA3 (CN _).out)))
      refine wpQuiet_nil ?_
      intro _ hw'
      obtain ⟨qq,hw2⟩:=hw'
      subst hw2
      have hqq:=qq.h
      go_wp2_with fail
      have x1:=g1 qq
      go_wp2_with fail
      refine (aEi _).mono ?_
      rintro e w9 ⟨rfl,hb9⟩
      go_wp2_with fail
      go_ret
      exact ⟨rfl,bb2 HBQ.out (bb2 hB (bb2 HB5.out (bb2 hqq hb9)))⟩
    ·clear HGV HTW EQ3
     cases isv<;>cases bq
     all_goals
      refine aA6 (by kernel_rfl) (by kernel_rfl) ?_
      repeat (first | go_big_quiet_step ((go_at_call 13;exact aA3 (CN _).out)) | quiet_step ((go_at_call 13;exact aA3 (CN _).out)))
      refine wpQuiet_nil ?_
      intro _ hw'
      obtain ⟨qq,hw2⟩:=hw'
      subst hw2
      have hqq:=qq.h
      go_wp2_with fail
      have x1:=g1 qq
      go_wp2_with fail
      refine (aEi _).mono ?_
      rintro e w9 ⟨rfl,hb9⟩
      go_wp2_with fail
      go_ret
      exact ⟨rfl,bb2 HBQ.out (bb2 hB (bb2 HB5.out (bb2 hqq hb9)))⟩
end Go.Proofs.YthnodpdiocppgaaGreatDoor
