/-
  The laws' Few of an object: its walk.
-/
import Derived.Test.YthnodpdiocppgaaGreatDoorJ16
import Derived.Test.YthnodpdiocppgaaGreatDoorJ2
import Derived.Deep.CutBlock
set_option maxHeartbeats 25600000
set_option linter.unusedSimpArgs false
set_option maxRecDepth 20000
namespace Go.Proofs.YthnodpdiocppgaaGreatDoor
open Go Go.RowKit Go.Shelf Go.Deep
theorem BX.less {B n m:Nat} {a b:World} (h:BX B n a b) (hm:m≤n):BX B m a b:=⟨h.os,h.tape,h.output,h.size,fun k hk=>h.block k (by omega)⟩
theorem aDh {g t:Nat} (pre post:List Value) (o c:Value) (W:World) (h:W.heap[g]?=some (.cells (pre++o::post).toArray t)):(setL W g pre.length [c]).heap[g]?=some (.cells (pre++c::post).toArray t):=by
 obtain ⟨hlt,hk⟩:=Array.getElem?_eq_some_iff.1 h
 show (W.heap.modify g _)[g]?=_
 rw [Array.getElem?_eq_getElem (by rw [Array.size_modify];exact hlt),Array.getElem_modify_self,hk]
 simp
theorem Tryz.infoInt:(Tryz.prog.info? 3).map (fun i=>(i.zero,i.size,i.bytes))=some (some (.int .i64 0),1,8):=by kernel_rfl
theorem Tryz.infoPt:(Tryz.prog.info? 70).map (fun i=>(i.zero,i.size,i.bytes))=some (some (.agg #[.string ⟨#[]⟩,.string ⟨#[]⟩,.string ⟨#[]⟩,.int .i64 0]),4,56):=by kernel_rfl
structure SX (n:Nat) (w0:World) (p:Nat) (o:Obj) (W:World):Prop where
 b:Below n w0 W
 h:W.heap[p]?=some o
theorem SX.grow {n p:Nat} {w0 W W2:World} {o:Obj} (h:SX n w0 p o W) (hb:Below W.heap.size W W2) (hn:n≤W.heap.size):SX n w0 p o W2:=⟨h.b.trans (hb.mono hn),aA2 h.h hb⟩
theorem SX.grown {n p:Nat} {w0 W W2:World} {o:Obj} {row:Option Nat} (h:SX n w0 p o W) (hg:W.grownBy W2 row) (hn:n≤W.heap.size) (hr:∀ k,row=some k→n≤k) (hp:∀ k,row=some k→k≠p):SX n w0 p o W2 :=
 ⟨h.b.grown hg hn hr,(hg.block p (aAs h.h) (fun e=>hp p e.symm rfl)).trans h.h⟩
theorem aE6 {w:World} {base:Nat} {e:TypeId} {size:Nat} {v:Value} {n:Nat} {xs:List Value} (h:w.ownsRow base e size v n xs) {g:Nat} (hg:v.ownBlock=some g):g<w.heap.size:=by
 rcases h.2 with ⟨rfl,_⟩ | ⟨g',cap,cur,rfl,hb,hh,_⟩
 ·simp [Value.ownBlock] at hg
 ·obtain rfl:g'=g:=by simpa [Value.ownBlock] using hg
  exact aAs hh
theorem Tryz.infoLi:(Tryz.prog.info? 67).map (fun i=>(i.zero,i.size,i.bytes))=some (some (.agg #[.string ⟨#[]⟩,.int .i64 0,.bool false,.string ⟨#[]⟩,.int .i64 0,.string ⟨#[]⟩,.string ⟨#[]⟩,.int .i64 0,.slice none 0 0]),9,120):=by kernel_rfl
theorem NV.own.grownB {x:NV} {w w':World} (h:x.own w) {b' e' s' n':Nat} {v':Value} {ys:List Value} (h':w.ownsRow b' e' s' v' n' ys) (hne:(9:Nat)≠e') (hg:w.grownBy w' v'.ownBlock):x.own w':=by
 obtain ⟨b,h⟩:=h
 exact ⟨b,aAv h h' hne hg⟩
theorem LiV.own.grown {x:LiV} {w w':World} (h:x.own w) {b' e' s' n':Nat} {v':Value} {ys:List Value} (h':w.ownsRow b' e' s' v' n' ys) (hne:(9:Nat)≠e') (hnd:105≠e') (hg:w.grownBy w' v'.ownBlock):x.own w':=by
 obtain ⟨⟨b,h1⟩,h2⟩:=h
 exact ⟨⟨b,aAv h1 h' hnd hg⟩,fun n hn=>(h2 n hn).grownB h' hne hg⟩
theorem Tryz.infoMt:(Tryz.prog.info? 88).map (fun i=>(i.zero,i.size,i.bytes))=some (some (.agg #[.int .i64 0,.string ⟨#[]⟩,.string ⟨#[]⟩,.slice none 0 0,.slice none 0 0]),5,88):=by kernel_rfl
theorem Tryz.infoBk:(Tryz.prog.info? 91).map (fun i=>(i.zero,i.size,i.bytes))=some (some (.agg #[.int .i64 0,.string ⟨#[]⟩,.string ⟨#[]⟩,.int .i64 0,.int .i64 0]),5,56):=by kernel_rfl
theorem Tryz.infoRl:(Tryz.prog.info? 76).map (fun i=>(i.zero,i.size,i.bytes))=some (some (.agg #[.slice none 0 0,.slice none 0 0,.slice none 0 0]),3,72):=by kernel_rfl
theorem MV.own.grownB {x:MV} {w w':World} (h:x.own w) {b' e' s' n':Nat} {v':Value} {ys:List Value} (h':w.ownsRow b' e' s' v' n' ys) (hp:96≠e') (hg:w.grownBy w' v'.ownBlock):x.own w':=by
 obtain ⟨⟨b,h1⟩,c,h2⟩:=h
 exact ⟨⟨b,aAv h1 h' hp hg⟩,c,aAv h2 h' hp hg⟩
theorem RlV.own.grown {x:RlV} {w w':World} (h:x.own w) {b' s' n':Nat} {v':Value} {ys:List Value} (h':w.ownsRow b' 76 s' v' n' ys) (hg:w.grownBy w' v'.ownBlock):x.own w':=by
 obtain ⟨⟨b,h1⟩,h2,⟨c,h3⟩,⟨d,h4⟩⟩:=h
 exact ⟨⟨b,aAv h1 h' (by decide) hg⟩,fun m hm=>(h2 m hm).grownB h' (by decide) hg,⟨c,aAv h3 h' (by decide) hg⟩,⟨d,aAv h4 h' (by decide) hg⟩⟩
structure aFr (n:Nat) (l:List RlV):Prop where
 up:∀ r∈l,∀ g,r.vb.ownBlock=some g→n≤g
 pw:l.Pairwise fun r s=>∀ g,r.vb.ownBlock=some g→s.vb.ownBlock≠some g
theorem aN6 {n:Nat} {l:List RlV} {r:RlV} {w:World} (h:aFr n l) (ho:∀ x∈l,x.own w) (hr:∀ g,r.vb.ownBlock=some g→w.heap.size≤g) (hn:n≤w.heap.size):aFr n (l++[r]):=by
 refine ⟨fun x hx g e=>?_,?_⟩
 ·rcases List.mem_append.1 hx with hx | hx
  ·exact h.up x hx g e
  ·rw [List.mem_singleton] at hx
   subst hx
   exact Nat.le_trans hn (hr g e)
 rw [List.pairwise_append]
 refine ⟨h.pw,List.pairwise_singleton _ _,fun a ha b hb g hg e=>?_⟩
 rw [List.mem_singleton] at hb
 subst hb
 obtain ⟨d,hd⟩:=(ho a ha).bs
 have:=aE6 hd hg
 have:=hr g e
 omega
theorem aOz (x:OV) (w:World) (hx:x.at_ w) (raw:RawO x) :
  Calls Tryz.prog 24 #[oV x] w fun e w'=>∃ y:OV,e=.returned (oV y)∧y.b=fewO x.b∧y.own w'∧Below w.heap.size w w'∧aFr w.heap.size y.rules∧(∀ g,y.vq.ownBlock=some g→w.heap.size≤g):=by
 obtain ⟨X,hX⟩:∃ z,z=(w.alloc (.cells #[.int .i64 x.ref.kind,.string x.ref.space,.string x.ref.name,.bool x.good,.slice x.al x.labels.length x.cl,.slice x.ap x.ports.length x.cp,.string x.cls,.slice x.ai x.lis.length x.ci,.slice x.aq x.pars.length x.cq,.slice x.ah x.hosts.length x.ch,.slice x.ar x.rules.length x.cr,.slice x.af x.frm.length x.cf,.slice x.ao x.tos.length x.co] 36)).alloc (.cells #[.int .i64 0,.string ⟨#[]⟩,.string ⟨#[]⟩,.bool false,.slice none 0 0,.slice none 0 0,.string ⟨#[]⟩,.slice none 0 0,.slice none 0 0,.slice none 0 0,.slice none 0 0,.slice none 0 0,.slice none 0 0] 36):=⟨_,rfl⟩
 have B1:Below w.heap.size w X:=by rw [hX];exact ((Below.refl _ _).alloc (Nat.le_refl _) _).alloc (by simp) _
 have hXs:Hid (X.heap.size=w.heap.size+1+1):=by unfold Hid;rw [hX];simp
 have K0:X.heap[w.heap.size]?=some (.cells #[.int .i64 x.ref.kind,.string x.ref.space,.string x.ref.name,.bool x.good,.slice x.al x.labels.length x.cl,.slice x.ap x.ports.length x.cp,.string x.cls,.slice x.ai x.lis.length x.ci,.slice x.aq x.pars.length x.cq,.slice x.ah x.hosts.length x.ch,.slice x.ar x.rules.length x.cr,.slice x.af x.frm.length x.cf,.slice x.ao x.tos.length x.co] 36):=by rw [hX];exact aA2 (aA7 w _) ((Below.refl _ _).alloc (Nat.le_refl _) _)
 have K1:Hid (X.heap[w.heap.size+1]?=some (.cells #[.int .i64 0,.string ⟨#[]⟩,.string ⟨#[]⟩,.bool false,.slice none 0 0,.slice none 0 0,.string ⟨#[]⟩,.slice none 0 0,.slice none 0 0,.slice none 0 0,.slice none 0 0,.slice none 0 0,.slice none 0 0] 36)):=by unfold Hid;rw [hX];exact (by have:=aA7 (w.alloc (.cells #[.int .i64 x.ref.kind,.string x.ref.space,.string x.ref.name,.bool x.good,.slice x.al x.labels.length x.cl,.slice x.ap x.ports.length x.cp,.string x.cls,.slice x.ai x.lis.length x.ci,.slice x.aq x.pars.length x.cq,.slice x.ah x.hosts.length x.ch,.slice x.ar x.rules.length x.cr,.slice x.af x.frm.length x.cf,.slice x.ao x.tos.length x.co] 36)) (.cells #[.int .i64 0,.string ⟨#[]⟩,.string ⟨#[]⟩,.bool false,.slice none 0 0,.slice none 0 0,.string ⟨#[]⟩,.slice none 0 0,.slice none 0 0,.slice none 0 0,.slice none 0 0,.slice none 0 0,.slice none 0 0] 36);rw [World.size_alloc] at this;exact this)
 have KO:=hide K0
 have m0:=fun W (h:Below X.heap.size X W)=>aA0 (aA2 K0 h) (i:=0) rfl
 have m1:=fun W (h:Below X.heap.size X W)=>aA0 (aA2 K0 h) (i:=1) rfl
 have m2:=fun W (h:Below X.heap.size X W)=>aA0 (aA2 K0 h) (i:=2) rfl
 have m3:=fun W (h:Below X.heap.size X W)=>aA0 (aA2 K0 h) (i:=3) rfl
 have m4:=fun W (h:Below X.heap.size X W)=>aA0 (aA2 K0 h) (i:=4) rfl
 have m6:=fun W (h:Below X.heap.size X W)=>aA0 (aA2 K0 h) (i:=6) rfl
 have m11:=fun W (h:Below X.heap.size X W)=>aA0 (aA2 K0 h) (i:=11) rfl
 have m12:=fun W (h:Below X.heap.size X W)=>aA0 (aA2 K0 h) (i:=12) rfl
 have C2:=fun W=>hide (aDt x.ref W raw.ref)
 have C7:=fun W (h:Below w.heap.size w W)=>hide (aHt x.vl x.labels W (hx.labels.below h) raw.labels)
 have C10:=fun W=>hide (aAw x.cls W raw.cls)
 have C13:=fun W (h:Below w.heap.size w W)=>hide (aK6 x.vf x.frm W (hx.frm.below h) raw.frm)
 have C16:=fun W (h:Below w.heap.size w W)=>hide (aK6 x.vo x.tos W (hx.tos.below h) raw.tos)
 have HX:=hide hx
 have HRAW:=hide raw
 have HB1:=hide B1
 clear K0 hx raw B1
 obtain ⟨⟨ork,ors,orn⟩,ogd,olb,oal,ocl,opo,oap,ocp,ocs,ols,oai,oci,opa,oaq,ocq,oho,oah,och,oru,oar,ocr,ofr,oaf,ocf,oto,oao,oco⟩:=x
 dsimp only [oV,OV.vl,OV.vp,OV.vi,OV.vq,OV.vh,OV.vr,OV.vf,OV.vo] at *
 go_enter Tryz.func24,Tryz.ntmps24
 go_wp2_with fail
 rw [←hX]
 clear hX
 generalize Value.agg #[.int .i64 ork,.string ors,.string orn,.bool ogd,.slice oal olb.length ocl,.slice oap opo.length ocp,.string ocs,.slice oai ols.length oci,.slice oaq opa.length ocq,.slice oah oho.length och,.slice oar oru.length ocr,.slice oaf ofr.length ocf,.slice oao oto.length oco]=vv
 refine aId [some 15,some 16,some 17,some 18,some 19,some 20,some 21,some 22,some 23,some 24,some 25,some 26,some 27,some 28,some 29,some 30,some 31,some 32,some 3] (fun f W=>∃ (B:Nat) (lsa:Option Addr) (lsc:Nat) (fsa:Option Addr) (fsc:Nat) (tsa:Option Addr) (tsc b7 b13 b16:Nat),f 18=.pointer (some ⟨B,0,none⟩)∧BX B X.heap.size X W∧X.heap.size≤B∧W.heap[B]?=some (.cells #[.int .i64 ork,.string (fewB ors),.string (fewB orn),.bool ogd,.slice lsa (aAc olb).length lsc,.slice none 0 0,.string (fewB ocs),.slice none 0 0,.slice none 0 0,.slice none 0 0,.slice none 0 0,.slice fsa (aA9 ofr).length fsc,.slice tsa (aA9 oto).length tsc] 36)∧W.ownsRow b7 96 2 (.slice lsa (aAc olb).length lsc) (aAc olb).length (flat (aAc olb))∧W.ownsRow b13 53 ER.n (.slice fsa (aA9 ofr).length fsc) (aA9 ofr).length (ER.flat (aA9 ofr))∧W.ownsRow b16 53 ER.n (.slice tsa (aA9 oto).length tsc) (aA9 oto).length (ER.flat (aA9 oto))) ?_ ?_
 ·refine aJ9 19 10 (fun W=>Below X.heap.size X W) [kC (.pointer (some ⟨w.heap.size,0,none⟩)),kC (.agg #[.int .i64 ork,.string ors,.string orn]),kC (.agg #[.int .i64 ork,.string (fewB ors),.string (fewB orn)]),kC (.pointer (some ⟨w.heap.size,3,none⟩)),kC (.bool ogd),kC (.pointer (some ⟨w.heap.size,4,none⟩)),kC (.slice oal olb.length ocl),(fun W v=>∃ (a:Option Addr) (c b:Nat),v=.slice a (aAc olb).length c∧W.ownsRow b 96 2 (.slice a (aAc olb).length c) (aAc olb).length (flat (aAc olb))),kC (.pointer (some ⟨w.heap.size,6,none⟩)),kC (.string ocs),kC (.string (fewB ocs)),kC (.pointer (some ⟨w.heap.size,11,none⟩)),kC (.slice oaf ofr.length ocf),(fun W v=>∃ (a:Option Addr) (c b:Nat),v=.slice a (aA9 ofr).length c∧W.ownsRow b 53 ER.n (.slice a (aA9 ofr).length c) (aA9 ofr).length (ER.flat (aA9 ofr))),kC (.pointer (some ⟨w.heap.size,12,none⟩)),kC (.slice oao oto.length oco),(fun W v=>∃ (a:Option Addr) (c b:Nat),v=.slice a (aA9 oto).length c∧W.ownsRow b 53 ER.n (.slice a (aA9 oto).length c) (aA9 oto).length (ER.flat (aA9 oto))),(fun W v=>∃ (lsa:Option Addr) (lsc:Nat) (fsa:Option Addr) (fsc:Nat) (tsa:Option Addr) (tsc b7 b13 b16:Nat),v=.agg #[.int .i64 ork,.string (fewB ors),.string (fewB orn),.bool ogd,.slice lsa (aAc olb).length lsc,.slice none 0 0,.string (fewB ocs),.slice none 0 0,.slice none 0 0,.slice none 0 0,.slice none 0 0,.slice fsa (aA9 ofr).length fsc,.slice tsa (aA9 oto).length tsc]∧W.ownsRow b7 96 2 (.slice lsa (aAc olb).length lsc) (aAc olb).length (flat (aAc olb))∧W.ownsRow b13 53 ER.n (.slice fsa (aA9 ofr).length fsc) (aA9 ofr).length (ER.flat (aA9 ofr))∧W.ownsRow b16 53 ER.n (.slice tsa (aA9 oto).length tsc) (aA9 oto).length (ER.flat (aA9 oto))),kN X.heap.size (.cells #[.int .i64 0,.string ⟨#[]⟩,.string ⟨#[]⟩,.bool false,.slice none 0 0,.slice none 0 0,.string ⟨#[]⟩,.slice none 0 0,.slice none 0 0,.slice none 0 0,.slice none 0 0,.slice none 0 0,.slice none 0 0] 36)] [18] [some 15,some 16,some 17,some 18,some 19,some 20,some 21,some 22,some 23,some 24,some 25,some 26,some 27,some 28,some 29,some 30,some 31,some 32,some 3] #[true,true,true,true,true,true,true,true,true,true,true,true,true,true,true,true,true,true,true,false] (fun _=>undef) (by kernel_rfl) (by kernel_rfl) (by decide) (by kernel_rfl) (by simp only [putF,Act.put,zzB,zzC,zzD,Nat.reduceAdd]) ((Below.refl _ _).drew) ?_ (fun i hi=>?_) (by decide) (by kernel_rfl) (by kernel_rfl) rfl (by kernel_rfl) 0 (by decide) ?_
  ·intro p hp
   simp only [List.mem_cons,List.not_mem_nil,or_false] at hp
   rcases hp with rfl | rfl | rfl | rfl | rfl | rfl | rfl | rfl | rfl | rfl | rfl | rfl | rfl | rfl | rfl | rfl | rfl | rfl | rfl
   ·exact aC0 _
   ·exact aC0 _
   ·exact aC0 _
   ·exact aC0 _
   ·exact aC0 _
   ·exact aC0 _
   ·exact aC0 _
   ·exact (fun _ _ _ hg ⟨a,c,b,h1,h2⟩=>⟨a,c,b,h1,aA4 h2 hg⟩)
   ·exact aC0 _
   ·exact aC0 _
   ·exact aC0 _
   ·exact aC0 _
   ·exact aC0 _
   ·exact (fun _ _ _ hg ⟨a,c,b,h1,h2⟩=>⟨a,c,b,h1,aA4 h2 hg⟩)
   ·exact aC0 _
   ·exact aC0 _
   ·exact (fun _ _ _ hg ⟨a,c,b,h1,h2⟩=>⟨a,c,b,h1,aA4 h2 hg⟩)
   ·exact (fun _ _ _ hg ⟨a,b,c,d,e,f,g,i,j,h0,h1,h2,h3⟩=>⟨a,b,c,d,e,f,g,i,j,h0,aA4 h1 hg,aA4 h2 hg,aA4 h3 hg⟩)
   ·exact aU1 _ _
  ·have hi2:i=0∨i=1∨i=2∨i=3∨i=4∨i=5∨i=6∨i=7∨i=8∨i=9∨i=10∨i=11∨i=12∨i=13∨i=14∨i=15∨i=16∨i=17∨i=18:=by omega
   clear hi
   rcases hi2 with rfl | rfl | rfl | rfl | rfl | rfl | rfl | rfl | rfl | rfl | rfl | rfl | rfl | rfl | rfl | rfl | rfl | rfl | rfl
   ·refine aB8 rfl fun L f W hk hw=>⟨by rfl,fun K hK=>?_⟩
    have hS:=hk.hs
    clear hk hw
    simp only [putF,Act.put,zzB,zzC,zzD,Nat.reduceAdd]
    go_simp
    exact hK.out _ W _ (by simp only [putF,Act.put,zzB,zzC,zzD,Nat.reduceAdd]) (Grow.refl _) hS rfl (aB1 (by decide))
   ·refine aB8 rfl fun L f W hk hw=>⟨by rfl,fun K hK=>?_⟩
    have hS:=hk.hs
    have d0:f 0=.pointer (some ⟨w.heap.size,0,none⟩):=hk.hf 0 (hw 0 (by kernel_rfl))
    have e0:=m0 W hS
    have e1:=m1 W hS
    have e2:=m2 W hS
    clear hk hw
    simp only [putF,Act.put,zzB,zzC,zzD,Nat.reduceAdd]
    simp only [d0]
    go_simp
    exact hK.out _ W _ (by simp only [putF,Act.put,zzB,zzC,zzD,Nat.reduceAdd];simp only [d0]) (Grow.refl _) hS rfl (aB1 (by decide))
   ·refine aB8 rfl fun L f W hk hw=>⟨by rfl,fun K hK=>?_⟩
    have hS:=hk.hs
    have d1:f 1=.agg #[.int .i64 ork,.string ors,.string orn]:=hk.hf 1 (hw 1 (by kernel_rfl))
    clear hk hw
    simp only [putF,Act.put,zzB,zzC,zzD,Nat.reduceAdd]
    simp only [d1]
    go_simp
    refine ((C2 W).out).mono ?_
    rintro e W2 ⟨rfl,hb2⟩
    go_wp2_with fail
    exact hK.out _ W2 _ (by simp only [putF,Act.put,zzB,zzC,zzD,Nat.reduceAdd];simp only [d1];try rfl) hb2 (hS.trans (hb2.mono hS.size)) (rfl) (aB1 (by decide))
   ·refine aB8 rfl fun L f W hk hw=>⟨by rfl,fun K hK=>?_⟩
    have hS:=hk.hs
    clear hk hw
    simp only [putF,Act.put,zzB,zzC,zzD,Nat.reduceAdd]
    go_simp
    exact hK.out _ W _ (by simp only [putF,Act.put,zzB,zzC,zzD,Nat.reduceAdd]) (Grow.refl _) hS rfl (aB1 (by decide))
   ·refine aB8 rfl fun L f W hk hw=>⟨by rfl,fun K hK=>?_⟩
    have hS:=hk.hs
    have d3:f 3=.pointer (some ⟨w.heap.size,3,none⟩):=hk.hf 3 (hw 3 (by kernel_rfl))
    have e3:=m3 W hS
    clear hk hw
    simp only [putF,Act.put,zzB,zzC,zzD,Nat.reduceAdd]
    simp only [d3]
    go_simp
    exact hK.out _ W _ (by simp only [putF,Act.put,zzB,zzC,zzD,Nat.reduceAdd];simp only [d3]) (Grow.refl _) hS rfl (aB1 (by decide))
   ·refine aB8 rfl fun L f W hk hw=>⟨by rfl,fun K hK=>?_⟩
    have hS:=hk.hs
    clear hk hw
    simp only [putF,Act.put,zzB,zzC,zzD,Nat.reduceAdd]
    go_simp
    exact hK.out _ W _ (by simp only [putF,Act.put,zzB,zzC,zzD,Nat.reduceAdd]) (Grow.refl _) hS rfl (aB1 (by decide))
   ·refine aB8 rfl fun L f W hk hw=>⟨by rfl,fun K hK=>?_⟩
    have hS:=hk.hs
    have d5:f 5=.pointer (some ⟨w.heap.size,4,none⟩):=hk.hf 5 (hw 5 (by kernel_rfl))
    have e4:=m4 W hS
    clear hk hw
    simp only [putF,Act.put,zzB,zzC,zzD,Nat.reduceAdd]
    simp only [d5]
    go_simp
    exact hK.out _ W _ (by simp only [putF,Act.put,zzB,zzC,zzD,Nat.reduceAdd];simp only [d5]) (Grow.refl _) hS rfl (aB1 (by decide))
   ·refine aB8 rfl fun L f W hk hw=>⟨by rfl,fun K hK=>?_⟩
    have hS:=hk.hs
    have d6:f 6=.slice oal olb.length ocl:=hk.hf 6 (hw 6 (by kernel_rfl))
    clear hk hw
    simp only [putF,Act.put,zzB,zzC,zzD,Nat.reduceAdd]
    simp only [d6]
    go_simp
    refine ((C7 W (HB1.out.trans (hS.mono HB1.out.size))).out).mono ?_
    rintro e W2 ⟨u2,rfl,r2,hb2⟩
    obtain ⟨sa,sc,hu⟩:=aAj r2
    subst hu
    go_wp2_with fail
    exact hK.out _ W2 _ (by simp only [putF,Act.put,zzB,zzC,zzD,Nat.reduceAdd];simp only [d6];try rfl) hb2 (hS.trans (hb2.mono hS.size)) ⟨sa,sc,_,rfl,r2⟩ (aB1 (by decide))
   ·refine aB8 rfl fun L f W hk hw=>⟨by rfl,fun K hK=>?_⟩
    have hS:=hk.hs
    clear hk hw
    simp only [putF,Act.put,zzB,zzC,zzD,Nat.reduceAdd]
    go_simp
    exact hK.out _ W _ (by simp only [putF,Act.put,zzB,zzC,zzD,Nat.reduceAdd]) (Grow.refl _) hS rfl (aB1 (by decide))
   ·refine aB8 rfl fun L f W hk hw=>⟨by rfl,fun K hK=>?_⟩
    have hS:=hk.hs
    have d8:f 8=.pointer (some ⟨w.heap.size,6,none⟩):=hk.hf 8 (hw 8 (by kernel_rfl))
    have e6:=m6 W hS
    clear hk hw
    simp only [putF,Act.put,zzB,zzC,zzD,Nat.reduceAdd]
    simp only [d8]
    go_simp
    exact hK.out _ W _ (by simp only [putF,Act.put,zzB,zzC,zzD,Nat.reduceAdd];simp only [d8]) (Grow.refl _) hS rfl (aB1 (by decide))
   ·refine aB8 rfl fun L f W hk hw=>⟨by rfl,fun K hK=>?_⟩
    have hS:=hk.hs
    have d9:f 9=.string ocs:=hk.hf 9 (hw 9 (by kernel_rfl))
    clear hk hw
    simp only [putF,Act.put,zzB,zzC,zzD,Nat.reduceAdd]
    simp only [d9]
    go_simp
    refine ((C10 W).out).mono ?_
    rintro e W2 ⟨rfl,hb2⟩
    subst hb2
    go_wp2_with fail
    exact hK.out _ _ _ (by simp only [putF,Act.put,zzB,zzC,zzD,Nat.reduceAdd];simp only [d9];try rfl) (Grow.refl _) hS rfl (aB1 (by decide))
   ·refine aB8 rfl fun L f W hk hw=>⟨by rfl,fun K hK=>?_⟩
    have hS:=hk.hs
    clear hk hw
    simp only [putF,Act.put,zzB,zzC,zzD,Nat.reduceAdd]
    go_simp
    exact hK.out _ W _ (by simp only [putF,Act.put,zzB,zzC,zzD,Nat.reduceAdd]) (Grow.refl _) hS rfl (aB1 (by decide))
   ·refine aB8 rfl fun L f W hk hw=>⟨by rfl,fun K hK=>?_⟩
    have hS:=hk.hs
    have d11:f 11=.pointer (some ⟨w.heap.size,11,none⟩):=hk.hf 11 (hw 11 (by kernel_rfl))
    have e11:=m11 W hS
    clear hk hw
    simp only [putF,Act.put,zzB,zzC,zzD,Nat.reduceAdd]
    simp only [d11]
    go_simp
    exact hK.out _ W _ (by simp only [putF,Act.put,zzB,zzC,zzD,Nat.reduceAdd];simp only [d11]) (Grow.refl _) hS rfl (aB1 (by decide))
   ·refine aB8 rfl fun L f W hk hw=>⟨by rfl,fun K hK=>?_⟩
    have hS:=hk.hs
    have d12:f 12=.slice oaf ofr.length ocf:=hk.hf 12 (hw 12 (by kernel_rfl))
    clear hk hw
    simp only [putF,Act.put,zzB,zzC,zzD,Nat.reduceAdd]
    simp only [d12]
    go_simp
    refine ((C13 W (HB1.out.trans (hS.mono HB1.out.size))).out).mono ?_
    rintro e W2 ⟨u2,rfl,r2,hb2⟩
    obtain ⟨sa,sc,hu⟩:=aAj r2
    subst hu
    go_wp2_with fail
    exact hK.out _ W2 _ (by simp only [putF,Act.put,zzB,zzC,zzD,Nat.reduceAdd];simp only [d12];try rfl) hb2 (hS.trans (hb2.mono hS.size)) ⟨sa,sc,_,rfl,r2⟩ (aB1 (by decide))
   ·refine aB8 rfl fun L f W hk hw=>⟨by rfl,fun K hK=>?_⟩
    have hS:=hk.hs
    clear hk hw
    simp only [putF,Act.put,zzB,zzC,zzD,Nat.reduceAdd]
    go_simp
    exact hK.out _ W _ (by simp only [putF,Act.put,zzB,zzC,zzD,Nat.reduceAdd]) (Grow.refl _) hS rfl (aB1 (by decide))
   ·refine aB8 rfl fun L f W hk hw=>⟨by rfl,fun K hK=>?_⟩
    have hS:=hk.hs
    have d14:f 14=.pointer (some ⟨w.heap.size,12,none⟩):=hk.hf 14 (hw 14 (by kernel_rfl))
    have e12:=m12 W hS
    clear hk hw
    simp only [putF,Act.put,zzB,zzC,zzD,Nat.reduceAdd]
    simp only [d14]
    go_simp
    exact hK.out _ W _ (by simp only [putF,Act.put,zzB,zzC,zzD,Nat.reduceAdd];simp only [d14]) (Grow.refl _) hS rfl (aB1 (by decide))
   ·refine aB8 rfl fun L f W hk hw=>⟨by rfl,fun K hK=>?_⟩
    have hS:=hk.hs
    have d15:f 15=.slice oao oto.length oco:=hk.hf 15 (hw 15 (by kernel_rfl))
    clear hk hw
    simp only [putF,Act.put,zzB,zzC,zzD,Nat.reduceAdd]
    simp only [d15]
    go_simp
    refine ((C16 W (HB1.out.trans (hS.mono HB1.out.size))).out).mono ?_
    rintro e W2 ⟨u2,rfl,r2,hb2⟩
    obtain ⟨sa,sc,hu⟩:=aAj r2
    subst hu
    go_wp2_with fail
    exact hK.out _ W2 _ (by simp only [putF,Act.put,zzB,zzC,zzD,Nat.reduceAdd];simp only [d15];try rfl) hb2 (hS.trans (hb2.mono hS.size)) ⟨sa,sc,_,rfl,r2⟩ (aB1 (by decide))
   ·refine aB8 rfl fun L f W hk hw=>⟨by rfl,fun K hK=>?_⟩
    have hS:=hk.hs
    have d2:f 2=.agg #[.int .i64 ork,.string (fewB ors),.string (fewB orn)]:=hk.hf 2 (hw 2 (by kernel_rfl))
    have d4:f 4=.bool ogd:=hk.hf 4 (hw 4 (by kernel_rfl))
    have d10:f 10=.string (fewB ocs):=hk.hf 10 (hw 10 (by kernel_rfl))
    obtain ⟨lsa,lsc,b7,d7,r7⟩:∃ (a:Option Addr) (c b:Nat),f 7=.slice a (aAc olb).length c∧W.ownsRow b 96 2 (.slice a (aAc olb).length c) (aAc olb).length (flat (aAc olb)):=hk.hf 7 (hw 7 (by kernel_rfl))
    obtain ⟨fsa,fsc,b13,d13,r13⟩:∃ (a:Option Addr) (c b:Nat),f 13=.slice a (aA9 ofr).length c∧W.ownsRow b 53 ER.n (.slice a (aA9 ofr).length c) (aA9 ofr).length (ER.flat (aA9 ofr)):=hk.hf 13 (hw 13 (by kernel_rfl))
    obtain ⟨tsa,tsc,b16,d16,r16⟩:∃ (a:Option Addr) (c b:Nat),f 16=.slice a (aA9 oto).length c∧W.ownsRow b 53 ER.n (.slice a (aA9 oto).length c) (aA9 oto).length (ER.flat (aA9 oto)):=hk.hf 16 (hw 16 (by kernel_rfl))
    clear hk hw
    simp only [putF,Act.put,zzB,zzC,zzD,Nat.reduceAdd]
    simp only [d2,d4,d7,d10,d13,d16]
    go_simp
    exact hK.out _ W _ (by simp only [putF,Act.put,zzB,zzC,zzD,Nat.reduceAdd];simp only [d2,d4,d7,d10,d13,d16];try rfl) (Grow.refl _) hS ⟨lsa,lsc,fsa,fsc,tsa,tsc,b7,b13,b16,rfl,r7,r13,r16⟩ (aB1 (by decide))
   ·refine aB8 rfl fun L f W hk hw=>⟨by rfl,fun K hK=>?_⟩
    have hS:=hk.hs
    simp only [putF,Act.put,zzB,zzC,zzD,Nat.reduceAdd]
    go_simp
    exact hK.out _ _ _ (by simp only [putF,Act.put,zzB,zzC,zzD,Nat.reduceAdd]) ((Below.refl _ _).alloc (Nat.le_refl _) _) (hS.alloc hS.size _) ⟨W.heap.size,rfl,hS.size,aA7 W _⟩ (aNy (by intro j hj;simp only [List.mem_cons,List.not_mem_nil,or_false] at hj;rcases hj with rfl;all_goals exact ⟨_,_,rfl⟩) hk)
  ·intro f W hk
   simp only [putF,Act.put,zzB,zzC,zzD,Nat.reduceAdd]
   obtain ⟨gB,pB,hBB,zB⟩:∃ g,f 18=.pointer (some ⟨g,0,none⟩)∧X.heap.size≤g∧W.heap[g]?=some (.cells #[.int .i64 0,.string ⟨#[]⟩,.string ⟨#[]⟩,.bool false,.slice none 0 0,.slice none 0 0,.string ⟨#[]⟩,.slice none 0 0,.slice none 0 0,.slice none 0 0,.slice none 0 0,.slice none 0 0,.slice none 0 0] 36):=hk.hf 18 (by decide)
   obtain ⟨lsa,lsc,fsa,fsc,tsa,tsc,b7,b13,b16,hv,r7,r13,r16⟩:∃ (lsa:Option Addr) (lsc:Nat) (fsa:Option Addr) (fsc:Nat) (tsa:Option Addr) (tsc b7 b13 b16:Nat),f 17=.agg #[.int .i64 ork,.string (fewB ors),.string (fewB orn),.bool ogd,.slice lsa (aAc olb).length lsc,.slice none 0 0,.string (fewB ocs),.slice none 0 0,.slice none 0 0,.slice none 0 0,.slice none 0 0,.slice fsa (aA9 ofr).length fsc,.slice tsa (aA9 oto).length tsc]∧W.ownsRow b7 96 2 (.slice lsa (aAc olb).length lsc) (aAc olb).length (flat (aAc olb))∧W.ownsRow b13 53 ER.n (.slice fsa (aA9 ofr).length fsc) (aA9 ofr).length (ER.flat (aA9 ofr))∧W.ownsRow b16 53 ER.n (.slice tsa (aA9 oto).length tsc) (aA9 oto).length (ER.flat (aA9 oto)):=hk.hf 17 (by decide)
   have HB:=hk.hs
   clear hk
   have HZB:=hide zB
   have lz:=aAl zB
   obtain ⟨y0,y1,y2,y3,y4,y5,y6,y7,y8,y9,y10,y11,y12⟩:_∧_∧_∧_∧_∧_∧_∧_∧_∧_∧_∧_∧_:=⟨aA0 zB (i:=0) rfl,aA0 zB (i:=1) rfl,aA0 zB (i:=2) rfl,aA0 zB (i:=3) rfl,aA0 zB (i:=4) rfl,aA0 zB (i:=5) rfl,aA0 zB (i:=6) rfl,aA0 zB (i:=7) rfl,aA0 zB (i:=8) rfl,aA0 zB (i:=9) rfl,aA0 zB (i:=10) rfl,aA0 zB (i:=11) rfl,aA0 zB (i:=12) rfl⟩
   refine aAb rfl (by rfl) (fun K hK=>?_)
   try simp only [pB,hv]
   go_simp
   refine hK _ _ ?_
   clear hK K lz y0 y1 y2 y3 y4 y5 y6 y7 y8 y9 y10 y11 y12
   change wpAny _ _ _ _ _ _ _ (setL W gB 0 [.int .i64 ork,.string (fewB ors),.string (fewB orn),.bool ogd,.slice lsa (aAc olb).length lsc,.slice none 0 0,.string (fewB ocs),.slice none 0 0,.slice none 0 0,.slice none 0 0,.slice none 0 0,.slice fsa (aA9 ofr).length fsc,.slice tsa (aA9 oto).length tsc])
   have HKB:=aB2 [.int .i64 ork,.string (fewB ors),.string (fewB orn),.bool ogd,.slice lsa (aAc olb).length lsc,.slice none 0 0,.string (fewB ocs),.slice none 0 0,.slice none 0 0,.slice none 0 0,.slice none 0 0,.slice fsa (aA9 ofr).length fsc,.slice tsa (aA9 oto).length tsc] HZB.out rfl
   have Or7:=aEu (k:=0) (cs:=[.int .i64 ork,.string (fewB ors),.string (fewB orn),.bool ogd,.slice lsa (aAc olb).length lsc,.slice none 0 0,.string (fewB ocs),.slice none 0 0,.slice none 0 0,.slice none 0 0,.slice none 0 0,.slice fsa (aA9 ofr).length fsc,.slice tsa (aA9 oto).length tsc]) r7 HZB.out (by decide)
   have Or13:=aEu (k:=0) (cs:=[.int .i64 ork,.string (fewB ors),.string (fewB orn),.bool ogd,.slice lsa (aAc olb).length lsc,.slice none 0 0,.string (fewB ocs),.slice none 0 0,.slice none 0 0,.slice none 0 0,.slice none 0 0,.slice fsa (aA9 ofr).length fsc,.slice tsa (aA9 oto).length tsc]) r13 HZB.out (by decide)
   have Or16:=aEu (k:=0) (cs:=[.int .i64 ork,.string (fewB ors),.string (fewB orn),.bool ogd,.slice lsa (aAc olb).length lsc,.slice none 0 0,.string (fewB ocs),.slice none 0 0,.slice none 0 0,.slice none 0 0,.slice none 0 0,.slice fsa (aA9 ofr).length fsc,.slice tsa (aA9 oto).length tsc]) r16 HZB.out (by decide)
   have HB2:=aAh hBB [.int .i64 ork,.string (fewB ors),.string (fewB orn),.bool ogd,.slice lsa (aAc olb).length lsc,.slice none 0 0,.string (fewB ocs),.slice none 0 0,.slice none 0 0,.slice none 0 0,.slice none 0 0,.slice fsa (aA9 ofr).length fsc,.slice tsa (aA9 oto).length tsc] W 0 HB
   clear HZB zB  r7 r13 r16 HB
   generalize setL W gB 0 [.int .i64 ork,.string (fewB ors),.string (fewB orn),.bool ogd,.slice lsa (aAc olb).length lsc,.slice none 0 0,.string (fewB ocs),.slice none 0 0,.slice none 0 0,.slice none 0 0,.slice none 0 0,.slice fsa (aA9 ofr).length fsc,.slice tsa (aA9 oto).length tsc]=V0 at *
   have kB:=HKB
   clear HKB
   have r7:=Or7
   clear Or7
   have r13:=Or13
   clear Or13
   have r16:=Or16
   clear Or16
   have HB:=HB2
   clear HB2
   refine aBf (by kernel_rfl) ⟨rfl,f,(by simp only [pB,hv]),gB,lsa,lsc,fsa,fsc,tsa,tsc,b7,b13,b16,pB,BX.of_below HB,hBB,kB,r7,r13,r16⟩
 rintro f W1 ⟨B,lsa,lsc,fsa,fsc,tsa,tsc,b7,b13,b16,pB,BX1,hBX,KX,Q7,Q13,Q16⟩
 simp only [putF,List.getD_cons_zero,List.getD_cons_succ,Nat.reduceAdd,Act.put,zzB,zzC,zzD]
 simp only [pB]
 clear pB m0 m1 m2 m3 m4 m6 m11 m12
 have HWX:=hide (show w.heap.size<X.heap.size by have:=hXs.out;omega)
 have HO:=hide (fun W (h:BX B X.heap.size X W)=>(h.block w.heap.size HWX.out (by have:=HWX.out;omega)).trans KO.out)
 have HUN:=hide (fun W (h:BX B X.heap.size X W)=>HB1.out.trans (h.under (m:=w.heap.size) (by have:=HWX.out;omega) (by have:=HWX.out;omega)))
 have HBL:=hide hBX
 have HB11:=hide BX1
 have HKX:=hide KX
 have HQ7:Hid (∃ b,W1.ownsRow b _ _ _ _ _):=hide ⟨_,Q7⟩
 have HQ13:Hid (∃ b,W1.ownsRow b _ _ _ _ _):=hide ⟨_,Q13⟩
 have HQ16:Hid (∃ b,W1.ownsRow b _ _ _ _ _):=hide ⟨_,Q16⟩
 clear KX Q7 Q13 Q16 BX1 hBX
 go_upto_block 0 with fail
 go_cut [4] from 33 to 53 (fun _ wx=>∃ (va:Option Addr) (vc:Nat),BX B W1.heap.size W1 wx∧wx.heap[B]?=some (.cells #[.int .i64 ork,.string (fewB ors),.string (fewB orn),.bool ogd,.slice lsa (aAc olb).length lsc,.slice va (opo.take 9).length vc,.string (fewB ocs),.slice none 0 0,.slice none 0 0,.slice none 0 0,.slice none 0 0,.slice fsa (aA9 ofr).length fsc,.slice tsa (aA9 oto).length tsc] 36)∧wx.ownsRow W1.heap.size 3 EI.n (.slice va (opo.take 9).length vc) (opo.take 9).length (EI.flat (opo.take 9)))
 case first =>
  go_wp2_with fail
  go_loopw [4] (fun i wr=>∃ (k:Nat) (va:Option Addr) (vc:Nat),k≤opo.length∧k≤9∧i=.int .i64 k∧BX B W1.heap.size W1 wr∧wr.heap[B]?=some (.cells #[.int .i64 ork,.string (fewB ors),.string (fewB orn),.bool ogd,.slice lsa (aAc olb).length lsc,.slice va (opo.take k).length vc,.string (fewB ocs),.slice none 0 0,.slice none 0 0,.slice none 0 0,.slice none 0 0,.slice fsa (aA9 ofr).length fsc,.slice tsa (aA9 oto).length tsc] 36)∧wr.ownsRow W1.heap.size 3 EI.n (.slice va (opo.take k).length vc) (opo.take k).length (EI.flat (opo.take k))) (fun i _=>9 - (intOf i).toNat)
  case atStart=>exact ⟨0,none,0,Nat.zero_le _,by omega,rfl,BX.refl _ _ _,HKX.out,World.ownsRow_nil _ _ _ _⟩
  case round =>
   obtain ⟨k,va,vc,hk,hk9,rfl,hI,hblk,hrow⟩:=hrel
   have hch:=HB11.out.trans (hI.less HB11.out.size)
   have hkl:(opo.take k).length=k:=by simp;omega
   have HKL:=hide hkl
   have HEND:Hid (¬ (k<opo.length∧k<9)→opo.take k=opo.take 9):=fun h=>by
    rcases (show k=9∨opo.length≤k by omega) with h1 | h1
    ·rw [h1]
    ·rw [List.take_of_length_le h1,List.take_of_length_le (by omega)]
   clear hkl
   have qo:=aA0 (HO.out wr hch) (i:=5) rfl
   by_cases hlt:k<opo.length
   ·have hlt':(k:Int)<(opo.length:Int):=by omega
    by_cases h9:k<9
    ·have h9':(k:Int)<9:=by omega
     obtain ⟨_,g,off,rfl,hg,qx⟩:=oneI HX.out.ports (HUN.out wr hch) hlt
     have HN:Hid (opo.take (k+1)=opo.take k++[opo[k]]):=List.take_succ_eq_append_getElem hlt
     have hBs:B<wr.heap.size:=aAs hblk
     have hgw:g<wr.heap.size:=by have:=(HUN.out wr hch).size;omega
     have HW1:=hide (show W1.heap.size≤wr.heap.size from hI.size)
     have hBW:B<W1.heap.size:=aAs HKX.out
     have hWX:=HWX.out
     have hXW:X.heap.size≤W1.heap.size:=HB11.out.size
     have n1:∀ W,Below W1.heap.size wr W→W.cell? ⟨B,5,none⟩=some (.slice va (opo.take k).length vc):=fun W hW=>aA0 ((hW.block B hBW).trans hblk) rfl
     have n2:∀ W,Below W1.heap.size wr W→W.cell? ⟨w.heap.size,5,none⟩=some (.slice (some ⟨g,off,none⟩) opo.length ocp):=fun W hW=>(hW.cell (p:=⟨w.heap.size,5,none⟩) (by show w.heap.size<_;omega)).trans qo
     have n3:∀ W,Below W1.heap.size wr W→W.cell? ⟨g,off+k,none⟩=some (.int .i64 opo[k]):=fun W hW=>(hW.cell (p:=⟨g,off+k,none⟩) (by show g<_;omega)).trans qx
     have NB:=hide (fun W (hW:Below W1.heap.size wr W)=>(hW.block B hBW).trans hblk)
     have HROW:=hide hrow
     have HIH:=hide hI
     generalize opo[k]=x at *
     generalize hR0:opo.take k=R0 at *
     have HR0:=hide hR0
     clear hR0 hrow qx HEND hch hI
     go_wp2_with fail
     clear qo
     refine aB4 10 (fun W=>Below W1.heap.size wr W) (by kernel_rfl) ((Below.refl _ _).drew) ?_
     refine zzG 0 5 (.pointer (some ⟨B,5,none⟩)) rfl (by kernel_rfl) (fun _ _ _ h=>h) (by rfl) (fun w1 hS=>?_) ?_
     ·(try dsimp only at hS)
      go_simp
     simp only [Act.put,zzB,zzC,zzD]
     refine zzG 1 5 (.slice va R0.length vc) rfl (by kernel_rfl) (fun _ _ _ h=>h) (by rfl) (fun w1 hS=>?_) ?_
     ·(try dsimp only at hS)
      go_simp
     simp only [Act.put,zzB,zzC,zzD]
     refine zzG 2 5 (.pointer (some ⟨w.heap.size,5,none⟩)) rfl (by kernel_rfl) (fun _ _ _ h=>h) (by rfl) (fun w1 hS=>?_) ?_
     ·(try dsimp only at hS)
      go_simp
     simp only [Act.put,zzB,zzC,zzD]
     refine zzG 3 5 (.slice (some ⟨g,off,none⟩) opo.length ocp) rfl (by kernel_rfl) (fun _ _ _ h=>h) (by rfl) (fun w1 hS=>?_) ?_
     ·(try dsimp only at hS)
      go_simp
     simp only [Act.put,zzB,zzC,zzD]
     refine zzG 4 5 (.int .i64 k) rfl (by kernel_rfl) (fun _ _ _ h=>h) (by rfl) (fun w1 hS=>?_) ?_
     ·(try dsimp only at hS)
      go_simp
     simp only [Act.put,zzB,zzC,zzD]
     refine zzG 5 5 (.pointer (some ⟨g,off+k,none⟩)) rfl (by kernel_rfl) (fun _ _ _ h=>h) (by rfl) (fun w1 hS=>?_) ?_
     ·(try dsimp only at hS)
      go_simp
     simp only [Act.put,zzB,zzC,zzD]
     refine zzG 6 5 (.int .i64 x) rfl (by kernel_rfl) (fun _ _ _ h=>h) (by rfl) (fun w1 hS=>?_) ?_
     ·(try dsimp only at hS)
      go_simp
     simp only [Act.put,zzB,zzC,zzD]
     clear n1 n2 n3
     refine aAf (rs:=[7]) (by kernel_rfl) (by simp) (fun wd hGd hSd i hi=>?_)
     obtain rfl:i=7:=by simpa using hi
     clear hi
     refine aAb rfl (by rfl) (fun K' hK'=>?_)
     replace hK':=hide hK'
     go_simp
     refine hK'.out _ _ (aAx (by decide) (hSd.alloc (by have:=hSd.size;have:=HW1.out;omega) _) ?_)
     clear hK' K'
     refine aAf (rs:=[8]) (by kernel_rfl) (by simp) (fun we hGe hSe i hi=>?_)
     obtain rfl:i=8:=by simpa using hi
     clear hi
     have RW:we.ownsRow W1.heap.size 3 EI.n (.slice va R0.length vc) R0.length (EI.flat R0):=aA4 (aA4 (aA4 HROW.out ((Below.refl _ _).drew)) hGd) (aA8 hGe)
     have SLW:Sl EI we (.slice (some ⟨wd.heap.size,0,none⟩) 1 1) [x]:=Sl.at_block (E:=EI) (x:=x) (aB7 hGe) trivial
     refine aAb rfl (by rfl) (fun K' hK'=>?_)
     refine aBy (E:=EI) 29 3 _ 8 Tryz.underlying29 Tryz.infoInt rfl (by decide) _ _ _ rfl W1.heap.size _ _ _ rfl RW _ _ rfl SLW (by have:=HKL.out;simp;omega) (by have:=hSe.size;have:=HW1.out;omega) ?_
     intro v5 w5 hr5 hg5
     have hS5:Below W1.heap.size wr w5:=hSe.grown hg5 (by have:=hSe.size;have:=HW1.out;omega) (fun j e=>aAe RW e)
     obtain ⟨a5,c5,hv5⟩:=aAj hr5
     subst hv5
     refine hK' _ _ (aAx (by decide) hS5 ?_)
     clear hK' K' hGd hSd hGe hSe RW SLW hg5
     try simp only [Act.put,zzB,zzC,zzD]
     refine zzG 9 5 (.pointer (some ⟨B,5,none⟩)) rfl (by kernel_rfl) (fun _ _ _ h=>h) (by rfl) (fun w1 hS=>?_) ?_
     ·(try dsimp only at hS)
      go_simp
     simp only [Act.put,zzB,zzC,zzD]
     refine aAf (rs:=[10]) (by kernel_rfl) (by simp) (fun wf hGf hSf i hi=>?_)
     obtain rfl:i=10:=by simpa using hi
     clear hi
     have hz:=NB.out wf hSf
     have z2:=aA0 hz (i:=5) rfl
     have lz:=aAl hz
     refine aAb rfl (by rfl) (fun K' hK'=>?_)
     go_simp
     refine hK' _ _ (aBq (by decide) ?_)
     clear hK' K' z2 lz
     have KB:=aDh (g:=B) (t:=36) [.int .i64 ork,.string (fewB ors),.string (fewB orn),.bool ogd,.slice lsa (aAc olb).length lsc] [.string (fewB ocs),.slice none 0 0,.slice none 0 0,.slice none 0 0,.slice none 0 0,.slice fsa (aA9 ofr).length fsc,.slice tsa (aA9 oto).length tsc] (.slice va R0.length vc) (.slice a5 (R0.length+1) c5) wf hz
     have KS:BX B W1.heap.size W1 (setL wf B 5 [.slice a5 (R0.length+1) c5]):=(HIH.out.below hSf).setL 5 _
     have KR:=aCn (W:=wf) (g:=B) (k:=5) (cs:=[.slice a5 (R0.length+1) c5]) (aA4 hr5 hGf) hBW
     refine aBf (by kernel_rfl) ?_
     change Exit.inBlock _ _ _ _ (setL wf B 5 [.slice a5 (R0.length+1) c5])
     change (setL wf B 5 [.slice a5 (R0.length+1) c5]).heap[B]?=_ at KB
     generalize setL wf B 5 [.slice a5 (R0.length+1) c5]=w6 at *
     clear hz hGf hSf hr5 hS5 NB HROW hblk
     go_wp2_with fail
     exact ⟨⟨k+1,a5,c5,by omega,by omega,by go_num,KS,by rw [HN.out,List.length_append];exact KB,by rw [HN.out,List.length_append];exact KR⟩,by simp [intOf];omega⟩
    ·have h9':¬ (k:Int)<9:=by omega
     have HE:=hide (HEND.out (by omega))
     clear HEND
     have HR:=hide hrow
     have HIH:=hide hI
     have HBK:=hide hblk
     clear hrow hI hblk
     go_wp2_with fail
     go_meet
     case rel=>exact ⟨va,vc,HIH.out,by rw [←HE.out];exact HBK.out,by rw [←HE.out];exact HR.out⟩
   ·have hlt':¬ (k:Int)<(opo.length:Int):=by omega
    have HE:=hide (HEND.out (by omega))
    clear HEND
    have HR:=hide hrow
    have HIH:=hide hI
    have HBK:=hide hblk
    clear hrow hI hblk
    go_wp2_with fail
    go_meet
    case rel=>exact ⟨va,vc,HIH.out,by rw [←HE.out];exact HBK.out,by rw [←HE.out];exact HR.out⟩
 case rest =>
 obtain ⟨pa,pc,hI,hblk,hrow⟩:=hcut
 have HB12:=hide (HB11.out.trans (hI.less HB11.out.size))
 have HKX2:=hide hblk
 have HQ72:=hide (match HQ7.out with | ⟨b,h⟩=>(⟨b,hI.row HKX.out h (by decide)⟩:∃ b,wc.ownsRow b _ _ _ _ _))
 have HQ132:=hide (match HQ13.out with | ⟨b,h⟩=>(⟨b,hI.row HKX.out h (by decide)⟩:∃ b,wc.ownsRow b _ _ _ _ _))
 have HQ162:=hide (match HQ16.out with | ⟨b,h⟩=>(⟨b,hI.row HKX.out h (by decide)⟩:∃ b,wc.ownsRow b _ _ _ _ _))
 have HP2:Hid (∃ b,wc.ownsRow b 3 EI.n (.slice pa (opo.take 9).length pc) (opo.take 9).length (EI.flat (opo.take 9))):=hide ⟨_,hrow⟩
 clear HB11 HKX HQ7 HQ13 HQ16 hI hblk hrow
 clear W1
 generalize wc=W1 at *
 have HB11:=HB12
 clear HB12
 have HKX:=HKX2
 clear HKX2
 have HQ7:=HQ72
 clear HQ72
 have HQ13:=HQ132
 clear HQ132
 have HQ16:=HQ162
 clear HQ162
 have HP:=HP2
 clear HP2
 go_upto_block 2 with fail
 go_cut [5] from 54 to 93 (fun _ wx=>∃ (ia:Option Addr) (ic:Nat) (LI:List LiV),BX B W1.heap.size W1 wx∧wx.heap[B]?=some (.cells #[.int .i64 ork,.string (fewB ors),.string (fewB orn),.bool ogd,.slice lsa (aAc olb).length lsc,.slice pa (opo.take 9).length pc,.string (fewB ocs),.slice ia LI.length ic,.slice none 0 0,.slice none 0 0,.slice none 0 0,.slice fsa (aA9 ofr).length fsc,.slice tsa (aA9 oto).length tsc] 36)∧wx.ownsRow W1.heap.size 67 ELi.n (.slice ia LI.length ic) LI.length (ELi.flat LI)∧LI.map LiV.b=((ols.map LiV.b).take 9).map aDc∧∀ x∈LI,x.own wx)
 case first =>
  go_wp2_with fail
  go_loopw [5] (fun i wr=>∃ (k:Nat) (va:Option Addr) (vc:Nat) (LL:List LiV),k≤ols.length∧k≤9∧i=.int .i64 k∧BX B W1.heap.size W1 wr∧wr.heap[B]?=some (.cells #[.int .i64 ork,.string (fewB ors),.string (fewB orn),.bool ogd,.slice lsa (aAc olb).length lsc,.slice pa (opo.take 9).length pc,.string (fewB ocs),.slice va LL.length vc,.slice none 0 0,.slice none 0 0,.slice none 0 0,.slice fsa (aA9 ofr).length fsc,.slice tsa (aA9 oto).length tsc] 36)∧wr.ownsRow W1.heap.size 67 ELi.n (.slice va LL.length vc) LL.length (ELi.flat LL)∧Hid (LL.map LiV.b=((ols.map LiV.b).take k).map aDc)∧Hid (∀ x∈LL,x.own wr)) (fun i _=>9 - (intOf i).toNat)
  case atStart=>exact ⟨0,none,0,[],Nat.zero_le _,by omega,rfl,BX.refl _ _ _,HKX.out,World.ownsRow_nil _ _ _ _,rfl,fun x hx=>absurd hx (by simp)⟩
  case round =>
   obtain ⟨k,va,vc,LL,hk,hk9,rfl,hI,hblk,hrow,hmap,hown⟩:=hrel
   have hch:=HB11.out.trans (hI.less HB11.out.size)
   have hkl:LL.length=k:=by
    have:=congrArg List.length hmap.out
    simp at this
    omega
   have HKL:=hide hkl
   have HEND:Hid (¬ (k<ols.length∧k<9)→LL.map LiV.b=((ols.map LiV.b).take 9).map aDc):=fun h=>by
    rw [hmap.out]
    rcases (show k=9∨ols.length≤k by omega) with h1 | h1
    ·rw [h1]
    ·rw [List.take_of_length_le (by rw [List.length_map];exact h1),List.take_of_length_le (by rw [List.length_map];omega)]
   clear hkl
   have qo:=aA0 (HO.out wr hch) (i:=7) rfl
   by_cases hlt:k<ols.length
   ·have hlt':(k:Int)<(ols.length:Int):=by omega
    by_cases h9:k<9
    ·have h9':(k:Int)<9:=by omega
     obtain ⟨hA,g,off,rfl,hg,qx0,qx1,qx2,qx3,qx4,qx5,qx6,qx7,qx8⟩:=aE5 HX.out.lis (HUN.out wr hch) hlt
     have rx:=HRAW.out.lis _ (List.getElem_mem hlt)
     have HN:Hid (((ols.map LiV.b).take (k+1)).map aDc=((ols.map LiV.b).take k).map aDc++[aDc ols[k].b]):=by
      unfold Hid
      rw [List.take_succ_eq_append_getElem (by simpa using hlt),List.map_append,List.getElem_map]
      rfl
     have hBs:B<wr.heap.size:=aAs hblk
     have HW1:=hide (show W1.heap.size≤wr.heap.size from hI.size)
     have hBW:B<W1.heap.size:=aAs HKX.out
     have hWX:=HWX.out
     have hXW:X.heap.size≤W1.heap.size:=HB11.out.size
     have NB:=hide (fun W (hW:Below W1.heap.size wr W)=>(hW.block B hBW).trans hblk)
     have N1:Hid (∀ W,Below W1.heap.size wr W→W.cell? ⟨B,7,none⟩=some (.slice va LL.length vc)):=fun W hW=>aA0 ((hW.block B hBW).trans hblk) rfl
     have HROW:=hide hrow
     have HIH:=hide hI
     generalize ols[k]=x at *
     obtain ⟨ln,lpt,ltl,lh,⟨ck,cs,cn⟩,lf,lnd,la,lc⟩:=x
     obtain ⟨r1,r2,r3,r4⟩:=rx
     have CS:=fun W=>hide (aAw ln W r1)
     have CN:=fun W=>hide (aAw lh W r2)
     have CE:=fun W=>hide (aDt ⟨ck,cs,cn⟩ W r3)
     have CL:=fun W (h:Below wr.heap.size wr W)=>hide (aSs (.slice la lnd.length lc) lnd W (Sl.below hA h) r4)
     have HBK:=hide hblk
     clear hrow HEND hch hI r1 r2 r3 r4 hblk hA
     dsimp only [LiV.v] at *
     go_wp2_with fail
     clear qo qx0 qx1 qx2 qx3 qx4 qx5 qx6 qx7 qx8
     have n1:∀ W,SX W1.heap.size wr wr.heap.size (.cells #[.string ln,.int .i64 lpt,.bool ltl,.string lh,.int .i64 ck,.string cs,.string cn,.int .i64 lf,.slice la lnd.length lc] 67) W→W.cell? ⟨B,7,none⟩=some (.slice va LL.length vc):=fun W hW=>N1.out W hW.b
     have m0:∀ W,SX W1.heap.size wr wr.heap.size (.cells #[.string ln,.int .i64 lpt,.bool ltl,.string lh,.int .i64 ck,.string cs,.string cn,.int .i64 lf,.slice la lnd.length lc] 67) W→W.cell? ⟨wr.heap.size,0,none⟩=some (.string ln):=fun W hW=>aA0 hW.h rfl
     have m1:∀ W,SX W1.heap.size wr wr.heap.size (.cells #[.string ln,.int .i64 lpt,.bool ltl,.string lh,.int .i64 ck,.string cs,.string cn,.int .i64 lf,.slice la lnd.length lc] 67) W→W.cell? ⟨wr.heap.size,1,none⟩=some (.int .i64 lpt):=fun W hW=>aA0 hW.h rfl
     have m2:∀ W,SX W1.heap.size wr wr.heap.size (.cells #[.string ln,.int .i64 lpt,.bool ltl,.string lh,.int .i64 ck,.string cs,.string cn,.int .i64 lf,.slice la lnd.length lc] 67) W→W.cell? ⟨wr.heap.size,2,none⟩=some (.bool ltl):=fun W hW=>aA0 hW.h rfl
     have m3:∀ W,SX W1.heap.size wr wr.heap.size (.cells #[.string ln,.int .i64 lpt,.bool ltl,.string lh,.int .i64 ck,.string cs,.string cn,.int .i64 lf,.slice la lnd.length lc] 67) W→W.cell? ⟨wr.heap.size,3,none⟩=some (.string lh):=fun W hW=>aA0 hW.h rfl
     have m4:∀ W,SX W1.heap.size wr wr.heap.size (.cells #[.string ln,.int .i64 lpt,.bool ltl,.string lh,.int .i64 ck,.string cs,.string cn,.int .i64 lf,.slice la lnd.length lc] 67) W→W.cell? ⟨wr.heap.size,4,none⟩=some (.int .i64 ck):=fun W hW=>aA0 hW.h rfl
     have m5:∀ W,SX W1.heap.size wr wr.heap.size (.cells #[.string ln,.int .i64 lpt,.bool ltl,.string lh,.int .i64 ck,.string cs,.string cn,.int .i64 lf,.slice la lnd.length lc] 67) W→W.cell? ⟨wr.heap.size,5,none⟩=some (.string cs):=fun W hW=>aA0 hW.h rfl
     have m6:∀ W,SX W1.heap.size wr wr.heap.size (.cells #[.string ln,.int .i64 lpt,.bool ltl,.string lh,.int .i64 ck,.string cs,.string cn,.int .i64 lf,.slice la lnd.length lc] 67) W→W.cell? ⟨wr.heap.size,6,none⟩=some (.string cn):=fun W hW=>aA0 hW.h rfl
     have m7:∀ W,SX W1.heap.size wr wr.heap.size (.cells #[.string ln,.int .i64 lpt,.bool ltl,.string lh,.int .i64 ck,.string cs,.string cn,.int .i64 lf,.slice la lnd.length lc] 67) W→W.cell? ⟨wr.heap.size,7,none⟩=some (.int .i64 lf):=fun W hW=>aA0 hW.h rfl
     have m8:∀ W,SX W1.heap.size wr wr.heap.size (.cells #[.string ln,.int .i64 lpt,.bool ltl,.string lh,.int .i64 ck,.string cs,.string cn,.int .i64 lf,.slice la lnd.length lc] 67) W→W.cell? ⟨wr.heap.size,8,none⟩=some (.slice la lnd.length lc):=fun W hW=>aA0 hW.h rfl
     refine aB4 24 (fun W=>SX W1.heap.size wr wr.heap.size (.cells #[.string ln,.int .i64 lpt,.bool ltl,.string lh,.int .i64 ck,.string cs,.string cn,.int .i64 lf,.slice la lnd.length lc] 67) W) (by kernel_rfl) (⟨((Below.refl _ _).alloc HW1.out _).drew,aA7 wr _⟩) ?_
     refine zzG 0 5 (.pointer (some ⟨B,7,none⟩)) rfl (by kernel_rfl) (fun _ _ _ h=>h) (by rfl) (fun w1 hS=>?_) ?_
     ·(try dsimp only at hS)
      go_simp
     simp only [Act.put,zzB,zzC,zzD]
     refine zzG 1 5 (.slice va LL.length vc) rfl (by kernel_rfl) (fun _ _ _ h=>h) (by rfl) (fun w1 hS=>?_) ?_
     ·(try dsimp only at hS)
      go_simp
     simp only [Act.put,zzB,zzC,zzD]
     refine zzG 2 5 (.pointer (some ⟨wr.heap.size,0,none⟩)) rfl (by kernel_rfl) (fun _ _ _ h=>h) (by rfl) (fun w1 hS=>?_) ?_
     ·(try dsimp only at hS)
      go_simp
     simp only [Act.put,zzB,zzC,zzD]
     refine zzG 3 5 (.string ln) rfl (by kernel_rfl) (fun _ _ _ h=>h) (by rfl) (fun w1 hS=>?_) ?_
     ·(try dsimp only at hS)
      go_simp
     simp only [Act.put,zzB,zzC,zzD]
     refine zzG 5 5 (.pointer (some ⟨wr.heap.size,1,none⟩)) rfl (by kernel_rfl) (fun _ _ _ h=>h) (by rfl) (fun w1 hS=>?_) ?_
     ·(try dsimp only at hS)
      go_simp
     simp only [Act.put,zzB,zzC,zzD]
     refine zzG 6 5 (.int .i64 lpt) rfl (by kernel_rfl) (fun _ _ _ h=>h) (by rfl) (fun w1 hS=>?_) ?_
     ·(try dsimp only at hS)
      go_simp
     simp only [Act.put,zzB,zzC,zzD]
     refine zzG 7 5 (.pointer (some ⟨wr.heap.size,2,none⟩)) rfl (by kernel_rfl) (fun _ _ _ h=>h) (by rfl) (fun w1 hS=>?_) ?_
     ·(try dsimp only at hS)
      go_simp
     simp only [Act.put,zzB,zzC,zzD]
     refine zzG 8 5 (.bool ltl) rfl (by kernel_rfl) (fun _ _ _ h=>h) (by rfl) (fun w1 hS=>?_) ?_
     ·(try dsimp only at hS)
      go_simp
     simp only [Act.put,zzB,zzC,zzD]
     refine zzG 9 5 (.pointer (some ⟨wr.heap.size,3,none⟩)) rfl (by kernel_rfl) (fun _ _ _ h=>h) (by rfl) (fun w1 hS=>?_) ?_
     ·(try dsimp only at hS)
      go_simp
     simp only [Act.put,zzB,zzC,zzD]
     refine zzG 10 5 (.string lh) rfl (by kernel_rfl) (fun _ _ _ h=>h) (by rfl) (fun w1 hS=>?_) ?_
     ·(try dsimp only at hS)
      go_simp
     simp only [Act.put,zzB,zzC,zzD]
     refine zzG 12 5 (.pointer (some ⟨wr.heap.size,4,none⟩)) rfl (by kernel_rfl) (fun _ _ _ h=>h) (by rfl) (fun w1 hS=>?_) ?_
     ·(try dsimp only at hS)
      go_simp
     simp only [Act.put,zzB,zzC,zzD]
     refine zzG 13 5 (.agg #[.int .i64 ck,.string cs,.string cn]) rfl (by kernel_rfl) (fun _ _ _ h=>h) (by rfl) (fun w1 hS=>?_) ?_
     ·(try dsimp only at hS)
      go_simp
     simp only [Act.put,zzB,zzC,zzD]
     refine zzG 15 5 (.pointer (some ⟨wr.heap.size,7,none⟩)) rfl (by kernel_rfl) (fun _ _ _ h=>h) (by rfl) (fun w1 hS=>?_) ?_
     ·(try dsimp only at hS)
      go_simp
     simp only [Act.put,zzB,zzC,zzD]
     refine zzG 16 5 (.int .i64 lf) rfl (by kernel_rfl) (fun _ _ _ h=>h) (by rfl) (fun w1 hS=>?_) ?_
     ·(try dsimp only at hS)
      go_simp
     simp only [Act.put,zzB,zzC,zzD]
     refine zzG 17 5 (.pointer (some ⟨wr.heap.size,8,none⟩)) rfl (by kernel_rfl) (fun _ _ _ h=>h) (by rfl) (fun w1 hS=>?_) ?_
     ·(try dsimp only at hS)
      go_simp
     simp only [Act.put,zzB,zzC,zzD]
     refine zzG 18 5 (.slice la lnd.length lc) rfl (by kernel_rfl) (fun _ _ _ h=>h) (by rfl) (fun w1 hS=>?_) ?_
     ·(try dsimp only at hS)
      go_simp
     simp only [Act.put,zzB,zzC,zzD]
     clear n1 m0 m1 m2 m3 m4 m5 m6 m7 m8
     refine zzG 4 5 (.string (fewB ln)) rfl (by kernel_rfl) (fun _ _ _ h=>h) (by rfl) (fun w1 hS=>?_) ?_
     ·(try dsimp only at hS)
      go_simp
      exact (CS _).out.mono (fun _ _ ⟨he,hb⟩=>by subst hb;exact ⟨he,Grow.refl _,hS⟩)
     simp only [Act.put,zzB,zzC,zzD]
     refine zzG 11 5 (.string (fewB lh)) rfl (by kernel_rfl) (fun _ _ _ h=>h) (by rfl) (fun w1 hS=>?_) ?_
     ·(try dsimp only at hS)
      go_simp
      exact (CN _).out.mono (fun _ _ ⟨he,hb⟩=>by subst hb;exact ⟨he,Grow.refl _,hS⟩)
     simp only [Act.put,zzB,zzC,zzD]
     refine zzG 14 5 (.agg #[.int .i64 ck,.string (fewB cs),.string (fewB cn)]) rfl (by kernel_rfl) (fun _ _ _ h=>h) (by rfl) (fun w1 hS=>?_) ?_
     ·(try dsimp only at hS)
      go_simp
      exact (CE _).out.mono (fun _ _ ⟨he,hb⟩=>⟨he,hb,hS.grow hb (by have:=hS.b.size;have:=HW1.out;omega)⟩)
     simp only [Act.put,zzB,zzC,zzD]
     refine aAf (rs:=[19]) (by kernel_rfl) (by simp) (fun wn hGn hSn i hi=>?_)
     obtain rfl:i=19:=by simpa using hi
     clear hi
     have hBn:Below wr.heap.size wr wn:=(((Below.refl _ _).alloc (Nat.le_refl _) _).drew).trans (hGn.mono (by simp [World.drew]))
     refine aAb rfl (by rfl) (fun K' hK'=>?_)
     replace hK':=hide hK'
     go_simp
     refine ((CL _ hBn).out).mono ?_
     rintro e xn ⟨un,rfl,LN,hLN,hrn,hon,hbn⟩
     have HLN:=hide hLN
     have HON:=hide hon
     clear hLN hon
     obtain ⟨na,nc,hun⟩:=aAj hrn
     subst hun
     have hBx:Below wr.heap.size wr xn:=hBn.trans (hbn.mono hBn.size)
     go_wp2_with fail
     refine hK'.out _ _ (aAx (by decide) (hSn.grow hbn (by have:=hBn.size;have:=HW1.out;omega)) ?_)
     clear hK' K' hGn hSn hbn hBn
     refine zzG 20 5 (.agg #[.string (fewB ln),.int .i64 lpt,.bool ltl,.string (fewB lh),.int .i64 ck,.string (fewB cs),.string (fewB cn),.int .i64 lf,.slice na LN.length nc]) rfl (by kernel_rfl) (fun _ _ _ h=>h) (by rfl) (fun w1 hS=>?_) ?_
     ·(try dsimp only at hS)
      go_simp
     simp only [Act.put,zzB,zzC,zzD]
     refine aAf (rs:=[21]) (by kernel_rfl) (by simp) (fun wd hGd hSd i hi=>?_)
     obtain rfl:i=21:=by simpa using hi
     clear hi
     have hBd:Below wr.heap.size wr wd:=hBx.trans (hGd.mono hBx.size)
     refine aAb rfl (by rfl) (fun K' hK'=>?_)
     replace hK':=hide hK'
     go_simp
     refine hK'.out _ _ (aAx (by decide) (hSd.grow ((Below.refl _ _).alloc (Nat.le_refl _) _) (by have:=hBd.size;have:=HW1.out;omega)) ?_)
     clear hK' K'
     refine aAf (rs:=[22]) (by kernel_rfl) (by simp) (fun we hGe hSe i hi=>?_)
     obtain rfl:i=22:=by simpa using hi
     clear hi
     have hde:=aA8 hGe
     have hBe:Below wr.heap.size wr we:=hBd.trans (hde.mono hBd.size)
     have hxe:Below xn.heap.size xn we:=hGd.trans hde
     have RW:we.ownsRow W1.heap.size 67 ELi.n (.slice va LL.length vc) LL.length (ELi.flat LL):=aA4 HROW.out hBe
     have OY:LiV.own ⟨fewB ln,lpt,ltl,fewB lh,⟨ck,fewB cs,fewB cn⟩,lf,LN,na,nc⟩ we:=⟨⟨_,aA4 hrn hxe⟩,fun n hn=>(HON.out n hn).below hxe⟩
     have SLW:Sl ELi we (.slice (some ⟨wd.heap.size,0,none⟩) 1 1) [⟨fewB ln,lpt,ltl,fewB lh,⟨ck,fewB cs,fewB cn⟩,lf,LN,na,nc⟩]:=Sl.at_block (E:=ELi) (x:=⟨fewB ln,lpt,ltl,fewB lh,⟨ck,fewB cs,fewB cn⟩,lf,LN,na,nc⟩) (aB7 hGe) OY.at_
     refine aAb rfl (by rfl) (fun K' hK'=>?_)
     refine aBy (E:=ELi) 30 67 _ 120 Tryz.underlying30 Tryz.infoLi rfl (by decide) _ _ _ rfl W1.heap.size _ _ _ rfl RW _ _ rfl SLW (by have:=HKL.out;simp;omega) (by have:=HW1.out;have:=hBe.size;omega) ?_
     intro v5 w5 hr5 hg5
     have hS5:=hSe.grown hg5 (by have:=HW1.out;have:=hBe.size;omega) (fun j e=>aAe RW e) (fun j e=>Nat.ne_of_lt (aE6 HROW.out e))
     have OW5:=hide (fun x (hx:x∈LL++[⟨fewB ln,lpt,ltl,fewB lh,⟨ck,fewB cs,fewB cn⟩,lf,LN,na,nc⟩])=>(show LiV.own x w5 from by
      rcases List.mem_append.1 hx with h | h
      ·exact ((hown.out x h).below hBe).grown RW (by decide) (by decide) hg5
      ·rw [List.mem_singleton] at h
       subst h
       exact OY.grown RW (by decide) (by decide) hg5))
     obtain ⟨a5,c5,hv5⟩:=aAj hr5
     subst hv5
     refine hK' _ _ (aAx (by decide) hS5 ?_)
     clear hK' K' hGd hSd hGe hSe RW SLW hg5 OY hxe hBe hde hBd hBx hrn
     try simp only [Act.put,zzB,zzC,zzD]
     refine zzG 23 5 (.pointer (some ⟨B,7,none⟩)) rfl (by kernel_rfl) (fun _ _ _ h=>h) (by rfl) (fun w1 hS=>?_) ?_
     ·(try dsimp only at hS)
      go_simp
     simp only [Act.put,zzB,zzC,zzD]
     refine aAf (rs:=[24]) (by kernel_rfl) (by simp) (fun wf hGf hSf i hi=>?_)
     obtain rfl:i=24:=by simpa using hi
     clear hi
     have hz:=NB.out wf hSf.b
     have z2:=aA0 hz (i:=7) rfl
     have lz:=aAl hz
     refine aAb rfl (by rfl) (fun K' hK'=>?_)
     go_simp
     refine hK' _ _ (aBq (by decide) ?_)
     clear hK' K' z2 lz
     have KB:=aDh (g:=B) (t:=36) [.int .i64 ork,.string (fewB ors),.string (fewB orn),.bool ogd,.slice lsa (aAc olb).length lsc,.slice pa (opo.take 9).length pc,.string (fewB ocs)] [.slice none 0 0,.slice none 0 0,.slice none 0 0,.slice fsa (aA9 ofr).length fsc,.slice tsa (aA9 oto).length tsc] (.slice va LL.length vc) (.slice a5 (LL.length+1) c5) wf hz
     have KS:BX B W1.heap.size W1 (setL wf B 7 [.slice a5 (LL.length+1) c5]):=(HIH.out.below hSf.b).setL 7 _
     have KR:=aCn (W:=wf) (g:=B) (k:=7) (cs:=[.slice a5 (LL.length+1) c5]) (aA4 hr5 hGf) hBW
     have KO2:Hid (∀ x∈LL++[⟨fewB ln,lpt,ltl,fewB lh,⟨ck,fewB cs,fewB cn⟩,lf,LN,na,nc⟩],x.own (setL wf B 7 [.slice a5 (LL.length+1) c5])):=fun x hx=>((OW5.out x hx).below hGf).bx ((BX.refl B wf.heap.size wf).setL 7 _) hz (by decide) (by decide)
     refine aBf (by kernel_rfl) ?_
     change Exit.inBlock _ _ _ _ (setL wf B 7 [.slice a5 (LL.length+1) c5])
     change (setL wf B 7 [.slice a5 (LL.length+1) c5]).heap[B]?=_ at KB
     generalize setL wf B 7 [.slice a5 (LL.length+1) c5]=w6 at *
     clear hz hGf hSf hr5 hS5 NB HROW OW5
     go_wp2_with fail
     exact ⟨⟨k+1,a5,c5,LL++[⟨fewB ln,lpt,ltl,fewB lh,⟨ck,fewB cs,fewB cn⟩,lf,LN,na,nc⟩],by omega,by omega,by go_num,KS,by rw [List.length_append];exact KB,by rw [List.length_append];exact KR,(by unfold Hid;rw [List.map_append,hmap.out,HN.out];exact congrArg (fun z=>_++[z]) (by unfold LiV.b aDc;dsimp only;rw [HLN.out];rfl)),KO2⟩,by simp [intOf];omega⟩
    ·have h9':¬ (k:Int)<9:=by omega
     have HE:=hide (HEND.out (by omega))
     clear HEND
     have HR:=hide hrow
     have HIH:=hide hI
     have HBK:=hide hblk
     clear hrow hI hblk
     go_wp2_with fail
     go_meet
     case rel=>exact ⟨va,vc,LL,HIH.out,HBK.out,HR.out,HE.out,hown.out⟩
   ·have hlt':¬ (k:Int)<(ols.length:Int):=by omega
    have HE:=hide (HEND.out (by omega))
    clear HEND
    have HR:=hide hrow
    have HIH:=hide hI
    have HBK:=hide hblk
    clear hrow hI hblk
    go_wp2_with fail
    go_meet
    case rel=>exact ⟨va,vc,LL,HIH.out,HBK.out,HR.out,HE.out,hown.out⟩
 case rest =>
 obtain ⟨ia,ic,LI,hI,hblk,hrow,hmap,hown⟩:=hcut
 have HB12:=hide (HB11.out.trans (hI.less HB11.out.size))
 have HKX2:=hide hblk
 have HQ72:=hide (match HQ7.out with | ⟨b,h⟩=>(⟨b,hI.row HKX.out h (by decide)⟩:∃ b,wc.ownsRow b _ _ _ _ _))
 have HQ132:=hide (match HQ13.out with | ⟨b,h⟩=>(⟨b,hI.row HKX.out h (by decide)⟩:∃ b,wc.ownsRow b _ _ _ _ _))
 have HQ162:=hide (match HQ16.out with | ⟨b,h⟩=>(⟨b,hI.row HKX.out h (by decide)⟩:∃ b,wc.ownsRow b _ _ _ _ _))
 have HP2:=hide (match HP.out with | ⟨b,h⟩=>(⟨b,hI.row HKX.out h (by decide)⟩:∃ b,wc.ownsRow b _ _ _ _ _))
 have HLI2:Hid (∃ b,wc.ownsRow b 67 ELi.n (.slice ia LI.length ic) LI.length (ELi.flat LI)):=hide ⟨_,hrow⟩
 have HLIM:=hide hmap
 have HLIA2:=hide hown
 clear HB11 HKX HQ7 HQ13 HQ16 HP hI hblk hrow hmap hown
 clear W1
 generalize wc=W1 at *
 have HB11:=HB12
 clear HB12
 have HKX:=HKX2
 clear HKX2
 have HQ7:=HQ72
 clear HQ72
 have HQ13:=HQ132
 clear HQ132
 have HQ16:=HQ162
 clear HQ162
 have HP:=HP2
 clear HP2
 have HLI:=HLI2
 clear HLI2
 have HLIA:=HLIA2
 clear HLIA2
 go_upto_block 4 with fail
 go_cut [7] from 94 to 126 (fun _ wx=>∃ (qa:Option Addr) (qc:Nat),BX B W1.heap.size W1 wx∧wx.heap[B]?=some (.cells #[.int .i64 ork,.string (fewB ors),.string (fewB orn),.bool ogd,.slice lsa (aAc olb).length lsc,.slice pa (opo.take 9).length pc,.string (fewB ocs),.slice ia LI.length ic,.slice qa ((opa.take 5).map aBb).length qc,.slice none 0 0,.slice none 0 0,.slice fsa (aA9 ofr).length fsc,.slice tsa (aA9 oto).length tsc] 36)∧wx.ownsRow W1.heap.size 70 EPt.n (.slice qa ((opa.take 5).map aBb).length qc) ((opa.take 5).map aBb).length (EPt.flat ((opa.take 5).map aBb)))
 case first =>
  go_wp2_with fail
  go_loopw [7] (fun i wr=>∃ (k:Nat) (va:Option Addr) (vc:Nat),k≤opa.length∧k≤5∧i=.int .i64 k∧BX B W1.heap.size W1 wr∧wr.heap[B]?=some (.cells #[.int .i64 ork,.string (fewB ors),.string (fewB orn),.bool ogd,.slice lsa (aAc olb).length lsc,.slice pa (opo.take 9).length pc,.string (fewB ocs),.slice ia LI.length ic,.slice va ((opa.take k).map aBb).length vc,.slice none 0 0,.slice none 0 0,.slice fsa (aA9 ofr).length fsc,.slice tsa (aA9 oto).length tsc] 36)∧wr.ownsRow W1.heap.size 70 EPt.n (.slice va ((opa.take k).map aBb).length vc) ((opa.take k).map aBb).length (EPt.flat ((opa.take k).map aBb))) (fun i _=>5 - (intOf i).toNat)
  case atStart=>exact ⟨0,none,0,Nat.zero_le _,by omega,rfl,BX.refl _ _ _,HKX.out,World.ownsRow_nil _ _ _ _⟩
  case round =>
   obtain ⟨k,va,vc,hk,hk9,rfl,hI,hblk,hrow⟩:=hrel
   have hch:=HB11.out.trans (hI.less HB11.out.size)
   have hkl:((opa.take k).map aBb).length=k:=by simp;omega
   have HKL:=hide hkl
   have HEND:Hid (¬ (k<opa.length∧k<5)→(opa.take k).map aBb=(opa.take 5).map aBb):=fun h=>by
    rcases (show k=5∨opa.length≤k by omega) with h1 | h1
    ·rw [h1]
    ·rw [List.take_of_length_le h1,List.take_of_length_le (by omega)]
   clear hkl
   have qo:=aA0 (HO.out wr hch) (i:=8) rfl
   by_cases hlt:k<opa.length
   ·have hlt':(k:Int)<(opa.length:Int):=by omega
    by_cases h9:k<5
    ·have h9':(k:Int)<5:=by omega
     obtain ⟨_,g,off,rfl,hg,qx0,qx1,qx2,qx3⟩:=aDs HX.out.pars (HUN.out wr hch) hlt
     have rx:=HRAW.out.pars _ (List.getElem_mem hlt)
     have HN:Hid ((opa.take (k+1)).map aBb=(opa.take k).map aBb++[aBb opa[k]]):=by
      unfold Hid
      rw [List.take_succ_eq_append_getElem hlt,List.map_append]
      rfl
     have hBs:B<wr.heap.size:=aAs hblk
     have HW1:=hide (show W1.heap.size≤wr.heap.size from hI.size)
     have hBW:B<W1.heap.size:=aAs HKX.out
     have hWX:=HWX.out
     have hXW:X.heap.size≤W1.heap.size:=HB11.out.size
     have NB:=hide (fun W (hW:Below W1.heap.size wr W)=>(hW.block B hBW).trans hblk)
     have n1:∀ W,Below W1.heap.size wr W→W.cell? ⟨B,8,none⟩=some (.slice va ((opa.take k).map aBb).length vc):=fun W hW=>aA0 ((hW.block B hBW).trans hblk) rfl
     have HROW:=hide hrow
     have HIH:=hide hI
     generalize opa[k]=x at *
     obtain ⟨ps,pn,pe,pp⟩:=x
     obtain ⟨r1,r2,r3⟩:=rx
     have CS:=fun W=>hide (aAw ps W r1)
     have CN:=fun W=>hide (aAw pn W r2)
     have CE:=fun W=>hide (aAw pe W r3)
     generalize hR0:(opa.take k).map aBb=R0 at *
     have HR0:=hide hR0
     have HBK:=hide hblk
     clear hR0 hrow HEND hch hI r1 r2 r3 hblk
     dsimp only at *
     have N1:=hide n1
     clear n1
     go_wp2_with fail
     clear qo qx0 qx1 qx2 qx3
     have n1:∀ W,SX W1.heap.size wr wr.heap.size (.cells #[.string ps,.string pn,.string pe,.int .i64 pp] 70) W→W.cell? ⟨B,8,none⟩=some (.slice va R0.length vc):=fun W hW=>N1.out W hW.b
     have m0:∀ W,SX W1.heap.size wr wr.heap.size (.cells #[.string ps,.string pn,.string pe,.int .i64 pp] 70) W→W.cell? ⟨wr.heap.size,0,none⟩=some (.string ps):=fun W hW=>aA0 hW.h rfl
     have m1:∀ W,SX W1.heap.size wr wr.heap.size (.cells #[.string ps,.string pn,.string pe,.int .i64 pp] 70) W→W.cell? ⟨wr.heap.size,1,none⟩=some (.string pn):=fun W hW=>aA0 hW.h rfl
     have m2:∀ W,SX W1.heap.size wr wr.heap.size (.cells #[.string ps,.string pn,.string pe,.int .i64 pp] 70) W→W.cell? ⟨wr.heap.size,2,none⟩=some (.string pe):=fun W hW=>aA0 hW.h rfl
     have m3:∀ W,SX W1.heap.size wr wr.heap.size (.cells #[.string ps,.string pn,.string pe,.int .i64 pp] 70) W→W.cell? ⟨wr.heap.size,3,none⟩=some (.int .i64 pp):=fun W hW=>aA0 hW.h rfl
     refine aB4 17 (fun W=>SX W1.heap.size wr wr.heap.size (.cells #[.string ps,.string pn,.string pe,.int .i64 pp] 70) W) (by kernel_rfl) (⟨((Below.refl _ _).alloc HW1.out _).drew,aA7 wr _⟩) ?_
     refine zzG 0 5 (.pointer (some ⟨B,8,none⟩)) rfl (by kernel_rfl) (fun _ _ _ h=>h) (by rfl) (fun w1 hS=>?_) ?_
     ·(try dsimp only at hS)
      go_simp
     simp only [Act.put,zzB,zzC,zzD]
     refine zzG 1 5 (.slice va R0.length vc) rfl (by kernel_rfl) (fun _ _ _ h=>h) (by rfl) (fun w1 hS=>?_) ?_
     ·(try dsimp only at hS)
      go_simp
     simp only [Act.put,zzB,zzC,zzD]
     refine zzG 2 5 (.pointer (some ⟨wr.heap.size,0,none⟩)) rfl (by kernel_rfl) (fun _ _ _ h=>h) (by rfl) (fun w1 hS=>?_) ?_
     ·(try dsimp only at hS)
      go_simp
     simp only [Act.put,zzB,zzC,zzD]
     refine zzG 3 5 (.string ps) rfl (by kernel_rfl) (fun _ _ _ h=>h) (by rfl) (fun w1 hS=>?_) ?_
     ·(try dsimp only at hS)
      go_simp
     simp only [Act.put,zzB,zzC,zzD]
     refine zzG 5 5 (.pointer (some ⟨wr.heap.size,1,none⟩)) rfl (by kernel_rfl) (fun _ _ _ h=>h) (by rfl) (fun w1 hS=>?_) ?_
     ·(try dsimp only at hS)
      go_simp
     simp only [Act.put,zzB,zzC,zzD]
     refine zzG 6 5 (.string pn) rfl (by kernel_rfl) (fun _ _ _ h=>h) (by rfl) (fun w1 hS=>?_) ?_
     ·(try dsimp only at hS)
      go_simp
     simp only [Act.put,zzB,zzC,zzD]
     refine zzG 8 5 (.pointer (some ⟨wr.heap.size,2,none⟩)) rfl (by kernel_rfl) (fun _ _ _ h=>h) (by rfl) (fun w1 hS=>?_) ?_
     ·(try dsimp only at hS)
      go_simp
     simp only [Act.put,zzB,zzC,zzD]
     refine zzG 9 5 (.string pe) rfl (by kernel_rfl) (fun _ _ _ h=>h) (by rfl) (fun w1 hS=>?_) ?_
     ·(try dsimp only at hS)
      go_simp
     simp only [Act.put,zzB,zzC,zzD]
     refine zzG 11 5 (.pointer (some ⟨wr.heap.size,3,none⟩)) rfl (by kernel_rfl) (fun _ _ _ h=>h) (by rfl) (fun w1 hS=>?_) ?_
     ·(try dsimp only at hS)
      go_simp
     simp only [Act.put,zzB,zzC,zzD]
     refine zzG 12 5 (.int .i64 pp) rfl (by kernel_rfl) (fun _ _ _ h=>h) (by rfl) (fun w1 hS=>?_) ?_
     ·(try dsimp only at hS)
      go_simp
     simp only [Act.put,zzB,zzC,zzD]
     clear n1 m0 m1 m2 m3
     refine zzG 4 5 (.string (fewB ps)) rfl (by kernel_rfl) (fun _ _ _ h=>h) (by rfl) (fun w1 hS=>?_) ?_
     ·(try dsimp only at hS)
      go_simp
      exact (CS _).out.mono (fun _ _ ⟨he,hb⟩=>by subst hb;exact ⟨he,Grow.refl _,hS⟩)
     simp only [Act.put,zzB,zzC,zzD]
     refine zzG 7 5 (.string (fewB pn)) rfl (by kernel_rfl) (fun _ _ _ h=>h) (by rfl) (fun w1 hS=>?_) ?_
     ·(try dsimp only at hS)
      go_simp
      exact (CN _).out.mono (fun _ _ ⟨he,hb⟩=>by subst hb;exact ⟨he,Grow.refl _,hS⟩)
     simp only [Act.put,zzB,zzC,zzD]
     refine zzG 10 5 (.string (fewB pe)) rfl (by kernel_rfl) (fun _ _ _ h=>h) (by rfl) (fun w1 hS=>?_) ?_
     ·(try dsimp only at hS)
      go_simp
      exact (CE _).out.mono (fun _ _ ⟨he,hb⟩=>by subst hb;exact ⟨he,Grow.refl _,hS⟩)
     simp only [Act.put,zzB,zzC,zzD]
     refine zzG 13 5 (.agg #[.string (fewB ps),.string (fewB pn),.string (fewB pe),.int .i64 pp]) rfl (by kernel_rfl) (fun _ _ _ h=>h) (by rfl) (fun w1 hS=>?_) ?_
     ·(try dsimp only at hS)
      go_simp
     simp only [Act.put,zzB,zzC,zzD]
     refine aAf (rs:=[14]) (by kernel_rfl) (by simp) (fun wd hGd hSd i hi=>?_)
     obtain rfl:i=14:=by simpa using hi
     clear hi
     have hszd:wr.heap.size<wd.heap.size:=aAs hSd.h
     refine aAb rfl (by rfl) (fun K' hK'=>?_)
     replace hK':=hide hK'
     go_simp
     refine hK'.out _ _ (aAx (by decide) (hSd.grow ((Below.refl _ _).alloc (Nat.le_refl _) _) (by have:=HW1.out;omega)) ?_)
     clear hK' K'
     refine aAf (rs:=[15]) (by kernel_rfl) (by simp) (fun we hGe hSe i hi=>?_)
     obtain rfl:i=15:=by simpa using hi
     clear hi
     have RW:we.ownsRow W1.heap.size 70 EPt.n (.slice va R0.length vc) R0.length (EPt.flat R0):=aA4 (aA4 (aA4 HROW.out (((Below.refl _ _).alloc (Nat.le_refl _) _).drew)) (hGd.mono (by simp [World.drew]))) (aA8 hGe)
     have SLW:Sl EPt we (.slice (some ⟨wd.heap.size,0,none⟩) 1 1) [⟨fewB ps,fewB pn,fewB pe,pp⟩]:=Sl.at_block (E:=EPt) (x:=⟨fewB ps,fewB pn,fewB pe,pp⟩) (aB7 hGe) trivial
     refine aAb rfl (by rfl) (fun K' hK'=>?_)
     have hsze:wr.heap.size<we.heap.size:=aAs hSe.h
     refine aBy (E:=EPt) 31 70 _ 56 Tryz.underlying31 Tryz.infoPt rfl (by decide) _ _ _ rfl W1.heap.size _ _ _ rfl RW _ _ rfl SLW (by have:=HKL.out;simp;omega) (by have:=HW1.out;omega) ?_
     intro v5 w5 hr5 hg5
     have hS5:=hSe.grown hg5 (by have:=HW1.out;omega) (fun j e=>aAe RW e) (fun j e=>Nat.ne_of_lt (aE6 HROW.out e))
     obtain ⟨a5,c5,hv5⟩:=aAj hr5
     subst hv5
     refine hK' _ _ (aAx (by decide) hS5 ?_)
     clear hK' K' hGd hSd hGe hSe RW SLW hg5
     try simp only [Act.put,zzB,zzC,zzD]
     refine zzG 16 5 (.pointer (some ⟨B,8,none⟩)) rfl (by kernel_rfl) (fun _ _ _ h=>h) (by rfl) (fun w1 hS=>?_) ?_
     ·(try dsimp only at hS)
      go_simp
     simp only [Act.put,zzB,zzC,zzD]
     refine aAf (rs:=[17]) (by kernel_rfl) (by simp) (fun wf hGf hSf i hi=>?_)
     obtain rfl:i=17:=by simpa using hi
     clear hi
     have hz:=NB.out wf hSf.b
     have z2:=aA0 hz (i:=8) rfl
     have lz:=aAl hz
     refine aAb rfl (by rfl) (fun K' hK'=>?_)
     go_simp
     refine hK' _ _ (aBq (by decide) ?_)
     clear hK' K' z2 lz
     have KB:=aDh (g:=B) (t:=36) [.int .i64 ork,.string (fewB ors),.string (fewB orn),.bool ogd,.slice lsa (aAc olb).length lsc,.slice pa (opo.take 9).length pc,.string (fewB ocs),.slice ia LI.length ic] [.slice none 0 0,.slice none 0 0,.slice fsa (aA9 ofr).length fsc,.slice tsa (aA9 oto).length tsc] (.slice va R0.length vc) (.slice a5 (R0.length+1) c5) wf hz
     have KS:BX B W1.heap.size W1 (setL wf B 8 [.slice a5 (R0.length+1) c5]):=(HIH.out.below hSf.b).setL 8 _
     have KR:=aCn (W:=wf) (g:=B) (k:=8) (cs:=[.slice a5 (R0.length+1) c5]) (aA4 hr5 hGf) hBW
     refine aBf (by kernel_rfl) ?_
     change Exit.inBlock _ _ _ _ (setL wf B 8 [.slice a5 (R0.length+1) c5])
     change (setL wf B 8 [.slice a5 (R0.length+1) c5]).heap[B]?=_ at KB
     generalize setL wf B 8 [.slice a5 (R0.length+1) c5]=w6 at *
     clear hz hGf hSf hr5 hS5 NB HROW
     go_wp2_with fail
     exact ⟨⟨k+1,a5,c5,by omega,by omega,by go_num,KS,by rw [HN.out,List.length_append];exact KB,by rw [HN.out,List.length_append];exact KR⟩,by simp [intOf];omega⟩
    ·have h9':¬ (k:Int)<5:=by omega
     have HE:=hide (HEND.out (by omega))
     clear HEND
     have HR:=hide hrow
     have HIH:=hide hI
     have HBK:=hide hblk
     clear hrow hI hblk
     go_wp2_with fail
     go_meet
     case rel=>exact ⟨va,vc,HIH.out,by rw [←HE.out];exact HBK.out,by rw [←HE.out];exact HR.out⟩
   ·have hlt':¬ (k:Int)<(opa.length:Int):=by omega
    have HE:=hide (HEND.out (by omega))
    clear HEND
    have HR:=hide hrow
    have HIH:=hide hI
    have HBK:=hide hblk
    clear hrow hI hblk
    go_wp2_with fail
    go_meet
    case rel=>exact ⟨va,vc,HIH.out,by rw [←HE.out];exact HBK.out,by rw [←HE.out];exact HR.out⟩
 case rest =>
 obtain ⟨qa,qc,hI,hblk,hrow⟩:=hcut
 have HB12:=hide (HB11.out.trans (hI.less HB11.out.size))
 have HKX2:=hide hblk
 have HQ72:=hide (match HQ7.out with | ⟨b,h⟩=>(⟨b,hI.row HKX.out h (by decide)⟩:∃ b,wc.ownsRow b _ _ _ _ _))
 have HQ132:=hide (match HQ13.out with | ⟨b,h⟩=>(⟨b,hI.row HKX.out h (by decide)⟩:∃ b,wc.ownsRow b _ _ _ _ _))
 have HQ162:=hide (match HQ16.out with | ⟨b,h⟩=>(⟨b,hI.row HKX.out h (by decide)⟩:∃ b,wc.ownsRow b _ _ _ _ _))
 have HP2:=hide (match HP.out with | ⟨b,h⟩=>(⟨b,hI.row HKX.out h (by decide)⟩:∃ b,wc.ownsRow b _ _ _ _ _))
 have HLI2:=hide (match HLI.out with | ⟨b,h⟩=>(⟨b,hI.row HKX.out h (by decide)⟩:∃ b,wc.ownsRow b _ _ _ _ _))
 have HLIA2:=hide (fun x hx=>(HLIA.out x hx).bx hI HKX.out (by decide) (by decide))
 have HPS2:Hid (∃ b,wc.ownsRow b 70 EPt.n (.slice qa ((opa.take 5).map aBb).length qc) ((opa.take 5).map aBb).length (EPt.flat ((opa.take 5).map aBb))):=hide ⟨_,hrow⟩
 have HQG:Hid (∀ g,Value.ownBlock (.slice qa ((opa.take 5).map aBb).length qc)=some g→w.heap.size≤g):=hide fun g e=>by have:=aAe hrow e;have:=HB11.out.size;have:=hXs.out;omega
 clear HB11 HKX HQ7 HQ13 HQ16 HP HLI HLIA hI hblk hrow
 clear W1
 generalize wc=W1 at *
 have HB11:=HB12
 clear HB12
 have HKX:=HKX2
 clear HKX2
 have HQ7:=HQ72
 clear HQ72
 have HQ13:=HQ132
 clear HQ132
 have HQ16:=HQ162
 clear HQ162
 have HP:=HP2
 clear HP2
 have HLI:=HLI2
 clear HLI2
 have HLIA:=HLIA2
 clear HLIA2
 have HPS:=HPS2
 clear HPS2
 go_upto_block 6 with fail
 go_cut [9] from 127 to 148 (fun _ wx=>∃ (ha:Option Addr) (hc:Nat),BX B W1.heap.size W1 wx∧wx.heap[B]?=some (.cells #[.int .i64 ork,.string (fewB ors),.string (fewB orn),.bool ogd,.slice lsa (aAc olb).length lsc,.slice pa (opo.take 9).length pc,.string (fewB ocs),.slice ia LI.length ic,.slice qa ((opa.take 5).map aBb).length qc,.slice ha ((oho.take 5).map fewB).length hc,.slice none 0 0,.slice fsa (aA9 ofr).length fsc,.slice tsa (aA9 oto).length tsc] 36)∧wx.ownsRow W1.heap.size 9 ES.n (.slice ha ((oho.take 5).map fewB).length hc) ((oho.take 5).map fewB).length (ES.flat ((oho.take 5).map fewB)))
 case first =>
  go_wp2_with fail
  go_loopw [9] (fun i wr=>∃ (k:Nat) (va:Option Addr) (vc:Nat),k≤oho.length∧k≤5∧i=.int .i64 k∧BX B W1.heap.size W1 wr∧wr.heap[B]?=some (.cells #[.int .i64 ork,.string (fewB ors),.string (fewB orn),.bool ogd,.slice lsa (aAc olb).length lsc,.slice pa (opo.take 9).length pc,.string (fewB ocs),.slice ia LI.length ic,.slice qa ((opa.take 5).map aBb).length qc,.slice va ((oho.take k).map fewB).length vc,.slice none 0 0,.slice fsa (aA9 ofr).length fsc,.slice tsa (aA9 oto).length tsc] 36)∧wr.ownsRow W1.heap.size 9 ES.n (.slice va ((oho.take k).map fewB).length vc) ((oho.take k).map fewB).length (ES.flat ((oho.take k).map fewB))) (fun i _=>5 - (intOf i).toNat)
  case atStart=>exact ⟨0,none,0,Nat.zero_le _,by omega,rfl,BX.refl _ _ _,HKX.out,World.ownsRow_nil _ _ _ _⟩
  case round =>
   obtain ⟨k,va,vc,hk,hk9,rfl,hI,hblk,hrow⟩:=hrel
   have hch:=HB11.out.trans (hI.less HB11.out.size)
   have hkl:((oho.take k).map fewB).length=k:=by simp;omega
   have HKL:=hide hkl
   have HEND:Hid (¬ (k<oho.length∧k<5)→(oho.take k).map fewB=(oho.take 5).map fewB):=fun h=>by
    rcases (show k=5∨oho.length≤k by omega) with h1 | h1
    ·rw [h1]
    ·rw [List.take_of_length_le h1,List.take_of_length_le (by omega)]
   clear hkl
   have qo:=aA0 (HO.out wr hch) (i:=9) rfl
   by_cases hlt:k<oho.length
   ·have hlt':(k:Int)<(oho.length:Int):=by omega
    by_cases h9:k<5
    ·have h9':(k:Int)<5:=by omega
     obtain ⟨_,g,off,rfl,hg,qx⟩:=oneS HX.out.hosts (HUN.out wr hch) hlt
     have rx:=HRAW.out.hosts _ (List.getElem_mem hlt)
     have HN:Hid ((oho.take (k+1)).map fewB=(oho.take k).map fewB++[fewB oho[k]]):=by
      unfold Hid
      rw [List.take_succ_eq_append_getElem hlt,List.map_append]
      rfl
     have hBs:B<wr.heap.size:=aAs hblk
     have HW1:=hide (show W1.heap.size≤wr.heap.size from hI.size)
     have hBW:B<W1.heap.size:=aAs HKX.out
     have hWX:=HWX.out
     have hXW:X.heap.size≤W1.heap.size:=HB11.out.size
     have n1:∀ W,Below W1.heap.size wr W→W.cell? ⟨B,9,none⟩=some (.slice va ((oho.take k).map fewB).length vc):=fun W hW=>aA0 ((hW.block B hBW).trans hblk) rfl
     have n2:∀ W,Below W1.heap.size wr W→W.cell? ⟨w.heap.size,9,none⟩=some (.slice (some ⟨g,off,none⟩) oho.length och):=fun W hW=>(hW.cell (p:=⟨w.heap.size,9,none⟩) (by show w.heap.size<_;omega)).trans qo
     have n3:∀ W,Below W1.heap.size wr W→W.cell? ⟨g,off+k,none⟩=some (.string oho[k]):=fun W hW=>(hW.cell (p:=⟨g,off+k,none⟩) (by show g<_;omega)).trans qx
     have CS:=fun W=>hide (aAw oho[k] W rx)
     have NB:=hide (fun W (hW:Below W1.heap.size wr W)=>(hW.block B hBW).trans hblk)
     have HROW:=hide hrow
     have HIH:=hide hI
     generalize oho[k]=x at *
     generalize hR0:(oho.take k).map fewB=R0 at *
     have HR0:=hide hR0
     clear hR0 hrow qx HEND hch hI rx
     go_wp2_with fail
     clear qo
     refine aB4 11 (fun W=>Below W1.heap.size wr W) (by kernel_rfl) ((Below.refl _ _).drew) ?_
     refine zzG 0 5 (.pointer (some ⟨B,9,none⟩)) rfl (by kernel_rfl) (fun _ _ _ h=>h) (by rfl) (fun w1 hS=>?_) ?_
     ·(try dsimp only at hS)
      go_simp
     simp only [Act.put,zzB,zzC,zzD]
     refine zzG 1 5 (.slice va R0.length vc) rfl (by kernel_rfl) (fun _ _ _ h=>h) (by rfl) (fun w1 hS=>?_) ?_
     ·(try dsimp only at hS)
      go_simp
     simp only [Act.put,zzB,zzC,zzD]
     refine zzG 2 5 (.pointer (some ⟨w.heap.size,9,none⟩)) rfl (by kernel_rfl) (fun _ _ _ h=>h) (by rfl) (fun w1 hS=>?_) ?_
     ·(try dsimp only at hS)
      go_simp
     simp only [Act.put,zzB,zzC,zzD]
     refine zzG 3 5 (.slice (some ⟨g,off,none⟩) oho.length och) rfl (by kernel_rfl) (fun _ _ _ h=>h) (by rfl) (fun w1 hS=>?_) ?_
     ·(try dsimp only at hS)
      go_simp
     simp only [Act.put,zzB,zzC,zzD]
     refine zzG 4 5 (.int .i64 k) rfl (by kernel_rfl) (fun _ _ _ h=>h) (by rfl) (fun w1 hS=>?_) ?_
     ·(try dsimp only at hS)
      go_simp
     simp only [Act.put,zzB,zzC,zzD]
     refine zzG 5 5 (.pointer (some ⟨g,off+k,none⟩)) rfl (by kernel_rfl) (fun _ _ _ h=>h) (by rfl) (fun w1 hS=>?_) ?_
     ·(try dsimp only at hS)
      go_simp
     simp only [Act.put,zzB,zzC,zzD]
     refine zzG 6 5 (.string x) rfl (by kernel_rfl) (fun _ _ _ h=>h) (by rfl) (fun w1 hS=>?_) ?_
     ·(try dsimp only at hS)
      go_simp
     simp only [Act.put,zzB,zzC,zzD]
     clear n1 n2 n3
     refine zzG 7 5 (.string (fewB x)) rfl (by kernel_rfl) (fun _ _ _ h=>h) (by rfl) (fun w1 hS=>?_) ?_
     ·(try dsimp only at hS)
      go_simp
      exact aAq hS (CS _).out
     simp only [Act.put,zzB,zzC,zzD]
     refine aAf (rs:=[8]) (by kernel_rfl) (by simp) (fun wd hGd hSd i hi=>?_)
     obtain rfl:i=8:=by simpa using hi
     clear hi
     refine aAb rfl (by rfl) (fun K' hK'=>?_)
     replace hK':=hide hK'
     go_simp
     refine hK'.out _ _ (aAx (by decide) (hSd.alloc (by have:=hSd.size;have:=HW1.out;omega) _) ?_)
     clear hK' K'
     refine aAf (rs:=[9]) (by kernel_rfl) (by simp) (fun we hGe hSe i hi=>?_)
     obtain rfl:i=9:=by simpa using hi
     clear hi
     have RW:we.ownsRow W1.heap.size 9 ES.n (.slice va R0.length vc) R0.length (ES.flat R0):=aA4 (aA4 (aA4 HROW.out ((Below.refl _ _).drew)) hGd) (aA8 hGe)
     have SLW:Sl ES we (.slice (some ⟨wd.heap.size,0,none⟩) 1 1) [fewB x]:=Sl.at_block (E:=ES) (x:=fewB x) (aB7 hGe) trivial
     refine aAb rfl (by rfl) (fun K' hK'=>?_)
     refine aBy (E:=ES) 32 9 _ 16 Tryz.underlying32 Tryz.infoStr rfl (by decide) _ _ _ rfl W1.heap.size _ _ _ rfl RW _ _ rfl SLW (by have:=HKL.out;simp;omega) (by have:=hSe.size;have:=HW1.out;omega) ?_
     intro v5 w5 hr5 hg5
     have hS5:Below W1.heap.size wr w5:=hSe.grown hg5 (by have:=hSe.size;have:=HW1.out;omega) (fun j e=>aAe RW e)
     obtain ⟨a5,c5,hv5⟩:=aAj hr5
     subst hv5
     refine hK' _ _ (aAx (by decide) hS5 ?_)
     clear hK' K' hGd hSd hGe hSe RW SLW hg5
     try simp only [Act.put,zzB,zzC,zzD]
     refine zzG 10 5 (.pointer (some ⟨B,9,none⟩)) rfl (by kernel_rfl) (fun _ _ _ h=>h) (by rfl) (fun w1 hS=>?_) ?_
     ·(try dsimp only at hS)
      go_simp
     simp only [Act.put,zzB,zzC,zzD]
     refine aAf (rs:=[11]) (by kernel_rfl) (by simp) (fun wf hGf hSf i hi=>?_)
     obtain rfl:i=11:=by simpa using hi
     clear hi
     have hz:=NB.out wf hSf
     have z2:=aA0 hz (i:=9) rfl
     have lz:=aAl hz
     refine aAb rfl (by rfl) (fun K' hK'=>?_)
     go_simp
     refine hK' _ _ (aBq (by decide) ?_)
     clear hK' K' z2 lz
     have KB:=aDh (g:=B) (t:=36) [.int .i64 ork,.string (fewB ors),.string (fewB orn),.bool ogd,.slice lsa (aAc olb).length lsc,.slice pa (opo.take 9).length pc,.string (fewB ocs),.slice ia LI.length ic,.slice qa ((opa.take 5).map aBb).length qc] [.slice none 0 0,.slice fsa (aA9 ofr).length fsc,.slice tsa (aA9 oto).length tsc] (.slice va R0.length vc) (.slice a5 (R0.length+1) c5) wf hz
     have KS:BX B W1.heap.size W1 (setL wf B 9 [.slice a5 (R0.length+1) c5]):=(HIH.out.below hSf).setL 9 _
     have KR:=aCn (W:=wf) (g:=B) (k:=9) (cs:=[.slice a5 (R0.length+1) c5]) (aA4 hr5 hGf) hBW
     refine aBf (by kernel_rfl) ?_
     change Exit.inBlock _ _ _ _ (setL wf B 9 [.slice a5 (R0.length+1) c5])
     change (setL wf B 9 [.slice a5 (R0.length+1) c5]).heap[B]?=_ at KB
     generalize setL wf B 9 [.slice a5 (R0.length+1) c5]=w6 at *
     clear hz hGf hSf hr5 hS5 NB HROW hblk
     go_wp2_with fail
     exact ⟨⟨k+1,a5,c5,by omega,by omega,by go_num,KS,by rw [HN.out,List.length_append];exact KB,by rw [HN.out,List.length_append];exact KR⟩,by simp [intOf];omega⟩
    ·have h9':¬ (k:Int)<5:=by omega
     have HE:=hide (HEND.out (by omega))
     clear HEND
     have HR:=hide hrow
     have HIH:=hide hI
     have HBK:=hide hblk
     clear hrow hI hblk
     go_wp2_with fail
     go_meet
     case rel=>exact ⟨va,vc,HIH.out,by rw [←HE.out];exact HBK.out,by rw [←HE.out];exact HR.out⟩
   ·have hlt':¬ (k:Int)<(oho.length:Int):=by omega
    have HE:=hide (HEND.out (by omega))
    clear HEND
    have HR:=hide hrow
    have HIH:=hide hI
    have HBK:=hide hblk
    clear hrow hI hblk
    go_wp2_with fail
    go_meet
    case rel=>exact ⟨va,vc,HIH.out,by rw [←HE.out];exact HBK.out,by rw [←HE.out];exact HR.out⟩
 case rest =>
 obtain ⟨ha,hc,hI,hblk,hrow⟩:=hcut
 have HB12:=hide (HB11.out.trans (hI.less HB11.out.size))
 have HKX2:=hide hblk
 have HQ72:=hide (match HQ7.out with | ⟨b,h⟩=>(⟨b,hI.row HKX.out h (by decide)⟩:∃ b,wc.ownsRow b _ _ _ _ _))
 have HQ132:=hide (match HQ13.out with | ⟨b,h⟩=>(⟨b,hI.row HKX.out h (by decide)⟩:∃ b,wc.ownsRow b _ _ _ _ _))
 have HQ162:=hide (match HQ16.out with | ⟨b,h⟩=>(⟨b,hI.row HKX.out h (by decide)⟩:∃ b,wc.ownsRow b _ _ _ _ _))
 have HP2:=hide (match HP.out with | ⟨b,h⟩=>(⟨b,hI.row HKX.out h (by decide)⟩:∃ b,wc.ownsRow b _ _ _ _ _))
 have HLI2:=hide (match HLI.out with | ⟨b,h⟩=>(⟨b,hI.row HKX.out h (by decide)⟩:∃ b,wc.ownsRow b _ _ _ _ _))
 have HLIA2:=hide (fun x hx=>(HLIA.out x hx).bx hI HKX.out (by decide) (by decide))
 have HPS2:=hide (match HPS.out with | ⟨b,h⟩=>(⟨b,hI.row HKX.out h (by decide)⟩:∃ b,wc.ownsRow b _ _ _ _ _))
 have HHO2:Hid (∃ b,wc.ownsRow b 9 ES.n (.slice ha ((oho.take 5).map fewB).length hc) ((oho.take 5).map fewB).length (ES.flat ((oho.take 5).map fewB))):=hide ⟨_,hrow⟩
 clear HB11 HKX HQ7 HQ13 HQ16 HP HLI HLIA HPS hI hblk hrow
 clear W1
 generalize wc=W1 at *
 have HB11:=HB12
 clear HB12
 have HKX:=HKX2
 clear HKX2
 have HQ7:=HQ72
 clear HQ72
 have HQ13:=HQ132
 clear HQ132
 have HQ16:=HQ162
 clear HQ162
 have HP:=HP2
 clear HP2
 have HLI:=HLI2
 clear HLI2
 have HLIA:=HLIA2
 clear HLIA2
 have HPS:=HPS2
 clear HPS2
 have HHO:=HHO2
 clear HHO2
 go_upto_block 8 with fail
 go_cut [10] from 149 to 240 (fun _ wx=>∃ (ra:Option Addr) (rc:Nat) (RL:List RlV),BX B W1.heap.size W1 wx∧wx.heap[B]?=some (.cells #[.int .i64 ork,.string (fewB ors),.string (fewB orn),.bool ogd,.slice lsa (aAc olb).length lsc,.slice pa (opo.take 9).length pc,.string (fewB ocs),.slice ia LI.length ic,.slice qa ((opa.take 5).map aBb).length qc,.slice ha ((oho.take 5).map fewB).length hc,.slice ra RL.length rc,.slice fsa (aA9 ofr).length fsc,.slice tsa (aA9 oto).length tsc] 36)∧wx.ownsRow W1.heap.size 76 ERl.n (.slice ra RL.length rc) RL.length (ERl.flat RL)∧RL.map RlV.b=((oru.map RlV.b).take 7).map aDd∧(∀ x∈RL,x.own wx)∧aFr w.heap.size RL)
 case first =>
  go_wp2_with fail
  go_loopw [10] (fun i wr=>∃ (k:Nat) (va:Option Addr) (vc:Nat) (LL:List RlV),k≤oru.length∧k≤7∧i=.int .i64 k∧BX B W1.heap.size W1 wr∧wr.heap[B]?=some (.cells #[.int .i64 ork,.string (fewB ors),.string (fewB orn),.bool ogd,.slice lsa (aAc olb).length lsc,.slice pa (opo.take 9).length pc,.string (fewB ocs),.slice ia LI.length ic,.slice qa ((opa.take 5).map aBb).length qc,.slice ha ((oho.take 5).map fewB).length hc,.slice va LL.length vc,.slice fsa (aA9 ofr).length fsc,.slice tsa (aA9 oto).length tsc] 36)∧wr.ownsRow W1.heap.size 76 ERl.n (.slice va LL.length vc) LL.length (ERl.flat LL)∧Hid (LL.map RlV.b=((oru.map RlV.b).take k).map aDd)∧Hid ((∀ x∈LL,x.own wr)∧aFr w.heap.size LL)) (fun i _=>7 - (intOf i).toNat)
  case atStart=>exact ⟨0,none,0,[],Nat.zero_le _,by omega,rfl,BX.refl _ _ _,HKX.out,World.ownsRow_nil _ _ _ _,rfl,⟨fun x hx=>absurd hx (by simp),⟨fun x hx=>absurd hx (by simp),List.Pairwise.nil⟩⟩⟩
  case round =>
   obtain ⟨k,va,vc,LL,hk,hk9,rfl,hI,hblk,hrow,hmap,hown⟩:=hrel
   have hch:=HB11.out.trans (hI.less HB11.out.size)
   have hkl:LL.length=k:=by
    have:=congrArg List.length hmap.out
    simp at this
    omega
   have HKL:=hide hkl
   have HEND:Hid (¬ (k<oru.length∧k<7)→LL.map RlV.b=((oru.map RlV.b).take 7).map aDd):=fun h=>by
    rw [hmap.out]
    rcases (show k=7∨oru.length≤k by omega) with h1 | h1
    ·rw [h1]
    ·rw [List.take_of_length_le (by rw [List.length_map];exact h1),List.take_of_length_le (by rw [List.length_map];omega)]
   clear hkl
   have qo:=aA0 (HO.out wr hch) (i:=10) rfl
   by_cases hlt:k<oru.length
   ·have hlt':(k:Int)<(oru.length:Int):=by omega
    by_cases h9:k<7
    ·have h9':(k:Int)<7:=by omega
     obtain ⟨hA,g,off,rfl,hg,qx0,qx1,qx2⟩:=aG7 HX.out.rules (HUN.out wr hch) hlt
     have rx:=HRAW.out.rules _ (List.getElem_mem hlt)
     have HN:Hid (((oru.map RlV.b).take (k+1)).map aDd=((oru.map RlV.b).take k).map aDd++[aDd oru[k].b]):=by
      unfold Hid
      rw [List.take_succ_eq_append_getElem (by simpa using hlt),List.map_append,List.getElem_map]
      rfl
     have hBs:B<wr.heap.size:=aAs hblk
     have HWG:=hide (show w.heap.size≤wr.heap.size by have:=hch.size;have:=hXs.out;omega)
     have HW1:=hide (show W1.heap.size≤wr.heap.size from hI.size)
     have hBW:B<W1.heap.size:=aAs HKX.out
     have hWX:=HWX.out
     have hXW:X.heap.size≤W1.heap.size:=HB11.out.size
     have HOR:=hide (HO.out wr hch)
     have HGR:=hide (show g<wr.heap.size by have:=(HUN.out wr hch).size;omega)
     have HROW:=hide hrow
     have HIH:=hide hI
     have HBK:=hide hblk
     generalize oru[k]=x at *
     obtain ⟨xms,xam,xcm,xfs,xaf,xcf,xbs,xab,xcb⟩:=x
     have CF:=hide (aT5 (.slice xaf xfs.length xcf) xfs wr hA.fs rx.fs)
     have HXA:=hide hA
     have HXR:=hide rx
     have QX:=hide (And.intro qx0 (And.intro qx1 qx2))
     clear hrow HEND hch hI hblk hA rx
     dsimp only [RlV.vm,RlV.vf,RlV.vb] at *
     go_wp2_with fail
     refine CF.out.mono ?_
     rintro e wf ⟨u,rfl,hrf,hbf⟩
     obtain ⟨fa,fc,hu⟩:=aAj hrf
     subst hu
     clear qo qx0 qx1 qx2 CF
     go_upto_block 10 with fail
     obtain ⟨W2,hW2⟩:∃ z,z=wf.alloc (.cells #[.slice none 0 0,.slice fa (aB6 xfs).length fc,.slice none 0 0] 76):=⟨_,rfl⟩
     have HB2:=hide (show Below wr.heap.size wr W2 by rw [hW2];exact hbf.alloc hbf.size _)
     have HD2:=hide (show W2.heap[wf.heap.size]?=some (.cells #[.slice none 0 0,.slice fa (aB6 xfs).length fc,.slice none 0 0] 76) by rw [hW2];exact aA7 wf _)
     have HF2:Hid (∃ b,W2.ownsRow b 108 EF.n (.slice fa (aB6 xfs).length fc) (aB6 xfs).length (EF.flat (aB6 xfs))):=hide ⟨_,by rw [hW2];exact aA4 hrf ((Below.refl _ _).alloc (Nat.le_refl _) _)⟩
     have HDL:=hide hbf.size
     rw [←hW2]
     clear hW2 hrf hbf
     generalize wf.heap.size=D at *
     clear wf
     go_cut [12] from 168 to 197 (fun _ wx=>∃ (ma:Option Addr) (mc:Nat) (ML:List MV),BX D W2.heap.size W2 wx∧wx.heap[D]?=some (.cells #[.slice ma ML.length mc,.slice fa (aB6 xfs).length fc,.slice none 0 0] 76)∧wx.ownsRow W2.heap.size 88 EM.n (.slice ma ML.length mc) ML.length (EM.flat ML)∧ML.map (fun m=>m.m)=((xms.map (fun m=>m.m)).take 5).map fewM∧∀ m∈ML,m.own wx)
     case first =>
      obtain ⟨wo,rfl⟩:∃ x,x=wr:=⟨wr,rfl⟩
      go_wp2_with fail
      go_loopw [12] (fun i wr=>∃ (m:Nat) (va2:Option Addr) (vc2:Nat) (ML:List MV),m≤xms.length∧m≤5∧i=.int .i64 m∧BX D W2.heap.size W2 wr∧wr.heap[D]?=some (.cells #[.slice va2 ML.length vc2,.slice fa (aB6 xfs).length fc,.slice none 0 0] 76)∧wr.ownsRow W2.heap.size 88 EM.n (.slice va2 ML.length vc2) ML.length (EM.flat ML)∧Hid (ML.map (fun m=>m.m)=((xms.map (fun m=>m.m)).take m).map fewM)∧Hid (∀ x∈ML,x.own wr)) (fun i _=>5 - (intOf i).toNat)
      case atStart=>exact ⟨0,none,0,[],Nat.zero_le _,by omega,rfl,BX.refl _ _ _,HD2.out,World.ownsRow_nil _ _ _ _,rfl,fun x hx=>absurd hx (by simp)⟩
      case round =>
       obtain ⟨m,va2,vc2,ML,hm,hm5,rfl,hI2,hblk2,hrow2,hmap2,hown2⟩:=hrel
       have hch:=HB2.out.trans (hI2.under (m:=wo.heap.size) HDL.out HB2.out.size)
       have hml:ML.length=m:=by
        have:=congrArg List.length hmap2.out
        simp at this
        omega
       have HML:=hide hml
       have HEND2:Hid (¬ (m<xms.length∧m<5)→ML.map (fun m=>m.m)=((xms.map (fun m=>m.m)).take 5).map fewM):=fun h=>by
        rw [hmap2.out]
        rcases (show m=5∨xms.length≤m by omega) with h1 | h1
        ·rw [h1]
        ·rw [List.take_of_length_le (by rw [List.length_map];exact h1),List.take_of_length_le (by rw [List.length_map];omega)]
       clear hml
       have hwl:w.heap.size<wo.heap.size:=by have:=HW1.out;omega
       have qo:=aA0 ((hch.block w.heap.size hwl).trans HOR.out) (i:=10) rfl
       have qr:=(hch.cell (p:=⟨g,off+k*3,none⟩) HGR.out).trans QX.out.1
       by_cases hlt2:m<xms.length
       ·have hlt2':(m:Int)<(xms.length:Int):=by omega
        by_cases h5:m<5
        ·have h5':(m:Int)<5:=by omega
         obtain ⟨hA2,g2,off2,rfl,hg2,qm0,qm1,qm2,qm3,qm4⟩:=oneM HXA.out.ms hch hlt2
         have rx:=HXR.out.ms _ (List.getElem_mem hlt2)
         have HN2:Hid (((xms.map (fun m=>m.m)).take (m+1)).map fewM=((xms.map (fun m=>m.m)).take m).map fewM++[fewM xms[m].m]):=by
          unfold Hid
          rw [List.take_succ_eq_append_getElem (by simpa using hlt2),List.map_append,List.getElem_map]
          rfl
         have HW2:=hide (show W2.heap.size≤wr.heap.size from hI2.size)
         have hDW:D<W2.heap.size:=aAs HD2.out
         have hgo:=HGR.out
         have hoW:wo.heap.size≤W2.heap.size:=HB2.out.size
         have NB2:=hide (fun W (hW:Below W2.heap.size wr W)=>(hW.block D hDW).trans hblk2)
         have n1:∀ W,Below W2.heap.size wr W→W.cell? ⟨D,0,none⟩=some (.slice va2 ML.length vc2):=fun W hW=>aA0 ((hW.block D hDW).trans hblk2) rfl
         have n2:∀ W,Below W2.heap.size wr W→W.cell? ⟨w.heap.size,10,none⟩=some (.slice (some ⟨g,off,none⟩) oru.length ocr):=fun W hW=>(hW.cell (p:=⟨w.heap.size,10,none⟩) (by show w.heap.size<_;omega)).trans qo
         have n3:∀ W,Below W2.heap.size wr W→W.cell? ⟨g,off+k*3,none⟩=some (.slice (some ⟨g2,off2,none⟩) xms.length xcm):=fun W hW=>(hW.cell (p:=⟨g,off+k*3,none⟩) (by show g<_;omega)).trans qr
         have HROW2:=hide hrow2
         have HIH2:=hide hI2
         have HBK2:=hide hblk2
         generalize xms[m]=x at *
         obtain ⟨⟨mk,mv,mt,mh,mq⟩,mah,mch,maq,mcq⟩:=x
         have CM:=fun W (h:Below wr.heap.size wr W)=>hide (aSt ⟨mk,mv,mt,mh,mq⟩ (.slice mah mh.length mch) (.slice maq mq.length mcq) W rx (hA2.1.below h) (hA2.2.below h))
         dsimp only [MV.vh,MV.vq] at *
         have m0:∀ W,Below W2.heap.size wr W→W.cell? ⟨g2,off2+m*5,none⟩=some (.int .i64 mk):=fun W hW=>(hW.cell (p:=⟨g2,off2+m*5,none⟩) (by show g2<_;omega)).trans qm0
         have m1:∀ W,Below W2.heap.size wr W→W.cell? ⟨g2,off2+m*5+1,none⟩=some (.string mv):=fun W hW=>(hW.cell (p:=⟨g2,off2+m*5+1,none⟩) (by show g2<_;omega)).trans qm1
         have m2:∀ W,Below W2.heap.size wr W→W.cell? ⟨g2,off2+m*5+2,none⟩=some (.string mt):=fun W hW=>(hW.cell (p:=⟨g2,off2+m*5+2,none⟩) (by show g2<_;omega)).trans qm2
         have m3:∀ W,Below W2.heap.size wr W→W.cell? ⟨g2,off2+m*5+3,none⟩=some (.slice mah mh.length mch):=fun W hW=>(hW.cell (p:=⟨g2,off2+m*5+3,none⟩) (by show g2<_;omega)).trans qm3
         have m4:∀ W,Below W2.heap.size wr W→W.cell? ⟨g2,off2+m*5+4,none⟩=some (.slice maq mq.length mcq):=fun W hW=>(hW.cell (p:=⟨g2,off2+m*5+4,none⟩) (by show g2<_;omega)).trans qm4
         clear hrow2 HEND2 hch hI2 hblk2 hA2 rx qm0 qm1 qm2 qm3 qm4
         go_wp2_with fail
         clear qo qr
         refine aB4 15 (fun W=>Below W2.heap.size wr W) (by kernel_rfl) ((Below.refl _ _).drew) ?_
         refine zzG 0 5 (.pointer (some ⟨D,0,none⟩)) rfl (by kernel_rfl) (fun _ _ _ h=>h) (by rfl) (fun w1 hS=>?_) ?_
         ·(try dsimp only at hS)
          go_simp
         simp only [Act.put,zzB,zzC,zzD]
         refine zzG 1 5 (.slice va2 ML.length vc2) rfl (by kernel_rfl) (fun _ _ _ h=>h) (by rfl) (fun w1 hS=>?_) ?_
         ·(try dsimp only at hS)
          go_simp
         simp only [Act.put,zzB,zzC,zzD]
         refine zzG 2 5 (.pointer (some ⟨w.heap.size,10,none⟩)) rfl (by kernel_rfl) (fun _ _ _ h=>h) (by rfl) (fun w1 hS=>?_) ?_
         ·(try dsimp only at hS)
          go_simp
         simp only [Act.put,zzB,zzC,zzD]
         refine zzG 3 5 (.slice (some ⟨g,off,none⟩) oru.length ocr) rfl (by kernel_rfl) (fun _ _ _ h=>h) (by rfl) (fun w1 hS=>?_) ?_
         ·(try dsimp only at hS)
          go_simp
         simp only [Act.put,zzB,zzC,zzD]
         refine zzG 4 5 (.int .i64 k) rfl (by kernel_rfl) (fun _ _ _ h=>h) (by rfl) (fun w1 hS=>?_) ?_
         ·(try dsimp only at hS)
          go_simp
         simp only [Act.put,zzB,zzC,zzD]
         refine zzG 5 5 (.pointer (some ⟨g,off+k*3,none⟩)) rfl (by kernel_rfl) (fun _ _ _ h=>h) (by rfl) (fun w1 hS=>?_) ?_
         ·(try dsimp only at hS)
          go_simp
         simp only [Act.put,zzB,zzC,zzD]
         refine zzG 6 5 (.pointer (some ⟨g,off+k*3,none⟩)) rfl (by kernel_rfl) (fun _ _ _ h=>h) (by rfl) (fun w1 hS=>?_) ?_
         ·(try dsimp only at hS)
          go_simp
         simp only [Act.put,zzB,zzC,zzD]
         refine zzG 7 5 (.slice (some ⟨g2,off2,none⟩) xms.length xcm) rfl (by kernel_rfl) (fun _ _ _ h=>h) (by rfl) (fun w1 hS=>?_) ?_
         ·(try dsimp only at hS)
          go_simp
         simp only [Act.put,zzB,zzC,zzD]
         refine zzG 8 5 (.int .i64 m) rfl (by kernel_rfl) (fun _ _ _ h=>h) (by rfl) (fun w1 hS=>?_) ?_
         ·(try dsimp only at hS)
          go_simp
         simp only [Act.put,zzB,zzC,zzD]
         refine zzG 9 5 (.pointer (some ⟨g2,off2+m*5,none⟩)) rfl (by kernel_rfl) (fun _ _ _ h=>h) (by rfl) (fun w1 hS=>?_) ?_
         ·(try dsimp only at hS)
          go_simp
         simp only [Act.put,zzB,zzC,zzD]
         refine zzG 10 5 (.agg #[.int .i64 mk,.string mv,.string mt,.slice mah mh.length mch,.slice maq mq.length mcq]) rfl (by kernel_rfl) (fun _ _ _ h=>h) (by rfl) (fun w1 hS=>?_) ?_
         ·(try dsimp only at hS)
          go_simp
         simp only [Act.put,zzB,zzC,zzD]
         clear n1 n2 n3 m0 m1 m2 m3 m4
         refine aAf (rs:=[11]) (by kernel_rfl) (by simp) (fun wn hGn hSn i hi=>?_)
         obtain rfl:i=11:=by simpa using hi
         clear hi
         have hBn:Below wr.heap.size wr wn:=((Below.refl _ _).drew).trans hGn
         refine aAb rfl (by rfl) (fun K' hK'=>?_)
         replace hK':=hide hK'
         go_simp
         refine ((CM _ hBn).out).mono ?_
         rintro e xn ⟨y,rfl,hy,hoy,hbn⟩
         have HY:=hide hy
         have HOY:=hide hoy
         clear hy hoy
         obtain ⟨⟨yk,yv,yt,yh,yq⟩,yah,ych,yaq,ycq⟩:=y
         dsimp only [MV.vh,MV.vq] at *
         have hBx:Below wr.heap.size wr xn:=hBn.trans (hbn.mono hBn.size)
         go_wp2_with fail
         refine hK'.out _ _ (aAx (by decide) (hSn.trans (hbn.mono (by have:=hBn.size;have:=HW2.out;omega))) ?_)
         clear hK' K' hGn hSn hbn hBn
         refine aAf (rs:=[12]) (by kernel_rfl) (by simp) (fun wd hGd hSd i hi=>?_)
         obtain rfl:i=12:=by simpa using hi
         clear hi
         have hBd:Below wr.heap.size wr wd:=hBx.trans (hGd.mono hBx.size)
         refine aAb rfl (by rfl) (fun K' hK'=>?_)
         replace hK':=hide hK'
         go_simp
         refine hK'.out _ _ (aAx (by decide) (hSd.alloc (by have:=hBd.size;have:=HW2.out;omega) _) ?_)
         clear hK' K'
         refine aAf (rs:=[13]) (by kernel_rfl) (by simp) (fun we hGe hSe i hi=>?_)
         obtain rfl:i=13:=by simpa using hi
         clear hi
         have hde:=aA8 hGe
         have hBe:Below wr.heap.size wr we:=hBd.trans (hde.mono hBd.size)
         have hxe:Below xn.heap.size xn we:=hGd.trans hde
         have RW:we.ownsRow W2.heap.size 88 EM.n (.slice va2 ML.length vc2) ML.length (EM.flat ML):=aA4 HROW2.out hBe
         have OY:MV.own ⟨⟨yk,yv,yt,yh,yq⟩,yah,ych,yaq,ycq⟩ we:=HOY.out.below hxe
         have SLW:Sl EM we (.slice (some ⟨wd.heap.size,0,none⟩) 1 1) [⟨⟨yk,yv,yt,yh,yq⟩,yah,ych,yaq,ycq⟩]:=Sl.at_block (E:=EM) (x:=⟨⟨yk,yv,yt,yh,yq⟩,yah,ych,yaq,ycq⟩) (aB7 hGe) OY.at_
         refine aAb rfl (by rfl) (fun K' hK'=>?_)
         refine aBy (E:=EM) 72 88 _ 88 Tryz.underlying72 Tryz.infoMt rfl (by decide) _ _ _ rfl W2.heap.size _ _ _ rfl RW _ _ rfl SLW (by have:=HML.out;simp;omega) (by have:=HW2.out;have:=hBe.size;omega) ?_
         intro v5 w5 hr5 hg5
         have hS5:Below W2.heap.size wr w5:=hSe.grown hg5 (by have:=HW2.out;have:=hBe.size;omega) (fun j e=>aAe RW e)
         have OW5:=hide (fun x (hx:x∈ML++[(⟨⟨yk,yv,yt,yh,yq⟩,yah,ych,yaq,ycq⟩:MV)])=>(show MV.own x w5 from by
          rcases List.mem_append.1 hx with h | h
          ·exact ((hown2.out x h).below hBe).grownB RW (by decide) hg5
          ·rw [List.mem_singleton] at h
           subst h
           exact OY.grownB RW (by decide) hg5))
         obtain ⟨a5,c5,hv5⟩:=aAj hr5
         subst hv5
         refine hK' _ _ (aAx (by decide) hS5 ?_)
         clear hK' K' hGd hSd hGe hSe RW SLW hg5 OY hxe hBe hde hBd hBx
         try simp only [Act.put,zzB,zzC,zzD]
         refine zzG 14 5 (.pointer (some ⟨D,0,none⟩)) rfl (by kernel_rfl) (fun _ _ _ h=>h) (by rfl) (fun w1 hS=>?_) ?_
         ·(try dsimp only at hS)
          go_simp
         simp only [Act.put,zzB,zzC,zzD]
         refine aAf (rs:=[15]) (by kernel_rfl) (by simp) (fun wf hGf hSf i hi=>?_)
         obtain rfl:i=15:=by simpa using hi
         clear hi
         have hz:=NB2.out wf hSf
         have z2:=aA0 hz (i:=0) rfl
         have lz:=aAl hz
         refine aAb rfl (by rfl) (fun K' hK'=>?_)
         go_simp
         refine hK' _ _ (aBq (by decide) ?_)
         clear hK' K' z2 lz
         have KB:=aDh (g:=D) (t:=76) [] [.slice fa (aB6 xfs).length fc,.slice none 0 0] (.slice va2 ML.length vc2) (.slice a5 (ML.length+1) c5) wf hz
         have KS:BX D W2.heap.size W2 (setL wf D 0 [.slice a5 (ML.length+1) c5]):=(HIH2.out.below hSf).setL 0 _
         have KR:=aCn (W:=wf) (g:=D) (k:=0) (cs:=[.slice a5 (ML.length+1) c5]) (aA4 hr5 hGf) hDW
         have KO2:Hid (∀ x∈ML++[(⟨⟨yk,yv,yt,yh,yq⟩,yah,ych,yaq,ycq⟩:MV)],x.own (setL wf D 0 [.slice a5 (ML.length+1) c5])):=fun x hx=>((OW5.out x hx).below hGf).bx ((BX.refl D wf.heap.size wf).setL 0 _) hz (by decide)
         refine aBf (by kernel_rfl) ?_
         change Exit.inBlock _ _ _ _ (setL wf D 0 [.slice a5 (ML.length+1) c5])
         change (setL wf D 0 [.slice a5 (ML.length+1) c5]).heap[D]?=_ at KB
         generalize setL wf D 0 [.slice a5 (ML.length+1) c5]=w6 at *
         clear hz hGf hSf hr5 hS5 NB2 HROW2 OW5
         go_wp2_with fail
         exact ⟨⟨m+1,a5,c5,ML++[⟨⟨yk,yv,yt,yh,yq⟩,yah,ych,yaq,ycq⟩],by omega,by omega,by go_num,KS,by rw [List.length_append];exact KB,by rw [List.length_append];exact KR,(by unfold Hid;rw [List.map_append,hmap2.out,HN2.out,←HY.out];rfl),KO2⟩,by simp [intOf];omega⟩
        ·have h5':¬ (m:Int)<5:=by omega
         have HE:=hide (HEND2.out (by omega))
         clear HEND2
         have HR:=hide hrow2
         have HIH2:=hide hI2
         have HBK2:=hide hblk2
         clear hrow2 hI2 hblk2
         go_wp2_with fail
         go_meet
         case rel=>exact ⟨va2,vc2,ML,HIH2.out,HBK2.out,HR.out,HE.out,hown2.out⟩
       ·have hlt2':¬ (m:Int)<(xms.length:Int):=by omega
        have HE:=hide (HEND2.out (by omega))
        clear HEND2
        have HR:=hide hrow2
        have HIH2:=hide hI2
        have HBK2:=hide hblk2
        clear hrow2 hI2 hblk2
        go_wp2_with fail
        go_meet
        case rel=>exact ⟨va2,vc2,ML,HIH2.out,HBK2.out,HR.out,HE.out,hown2.out⟩
     case rest =>
      obtain ⟨ma,mc,ML,hI2,hb2,hr2,hm2,ho2⟩:=hcut
      have HB3:=hide (HB2.out.trans (hI2.under (m:=wr.heap.size) HDL.out HB2.out.size))
      have HF3:Hid (∃ b,wc.ownsRow b 108 EF.n (.slice fa (aB6 xfs).length fc) (aB6 xfs).length (EF.flat (aB6 xfs))):=hide (match HF2.out with | ⟨b,h⟩=>⟨b,hI2.row HD2.out h (by decide)⟩)
      have HD3:=hide hb2
      have HM3:Hid (∃ b,wc.ownsRow b 88 EM.n (.slice ma ML.length mc) ML.length (EM.flat ML)):=hide ⟨_,hr2⟩
      have HMM:=hide hm2
      have HMO:=hide ho2
      clear HB2 HF2 HD2 hI2 hb2 hr2 hm2 ho2
      clear W2
      generalize wc=W2 at *
      go_upto_block 12 with fail
      go_cut [13] from 198 to 234 (fun _ wx=>∃ (ba:Option Addr) (bc:Nat),BX D W2.heap.size W2 wx∧wx.heap[D]?=some (.cells #[.slice ma ML.length mc,.slice fa (aB6 xfs).length fc,.slice ba ((xbs.take 5).map aBx).length bc] 76)∧wx.ownsRow W2.heap.size 91 EK.n (.slice ba ((xbs.take 5).map aBx).length bc) ((xbs.take 5).map aBx).length (EK.flat ((xbs.take 5).map aBx)))
      case first =>
       obtain ⟨wo,rfl⟩:∃ x,x=wr:=⟨wr,rfl⟩
       go_wp2_with fail
       go_loopw [13] (fun i wr=>∃ (m:Nat) (va2:Option Addr) (vc2:Nat),m≤xbs.length∧m≤5∧i=.int .i64 m∧BX D W2.heap.size W2 wr∧wr.heap[D]?=some (.cells #[.slice ma ML.length mc,.slice fa (aB6 xfs).length fc,.slice va2 ((xbs.take m).map aBx).length vc2] 76)∧wr.ownsRow W2.heap.size 91 EK.n (.slice va2 ((xbs.take m).map aBx).length vc2) ((xbs.take m).map aBx).length (EK.flat ((xbs.take m).map aBx))) (fun i _=>5 - (intOf i).toNat)
       case atStart=>exact ⟨0,none,0,Nat.zero_le _,by omega,rfl,BX.refl _ _ _,HD3.out,World.ownsRow_nil _ _ _ _⟩
       case round =>
        obtain ⟨m,va2,vc2,hm,hm5,rfl,hI2,hblk2,hrow2⟩:=hrel
        have hch:=HB3.out.trans (hI2.under (m:=wo.heap.size) HDL.out HB3.out.size)
        have hml:((xbs.take m).map aBx).length=m:=by simp;omega
        have HML:=hide hml
        have HEND2:Hid (¬ (m<xbs.length∧m<5)→(xbs.take m).map aBx=(xbs.take 5).map aBx):=fun h=>by
         rcases (show m=5∨xbs.length≤m by omega) with h1 | h1
         ·rw [h1]
         ·rw [List.take_of_length_le h1,List.take_of_length_le (by omega)]
        clear hml
        have hwl:w.heap.size<wo.heap.size:=by have:=HW1.out;omega
        have qo:=aA0 ((hch.block w.heap.size hwl).trans HOR.out) (i:=10) rfl
        have qr:=(hch.cell (p:=⟨g,off+k*3+2,none⟩) HGR.out).trans QX.out.2.2
        by_cases hlt2:m<xbs.length
        ·have hlt2':(m:Int)<(xbs.length:Int):=by omega
         by_cases h5:m<5
         ·have h5':(m:Int)<5:=by omega
          obtain ⟨_,g2,off2,rfl,hg2,qm0,qm1,qm2,qm3,qm4⟩:=oneK HXA.out.bs hch hlt2
          have rx:=HXR.out.bs _ (List.getElem_mem hlt2)
          have HN2:Hid ((xbs.take (m+1)).map aBx=(xbs.take m).map aBx++[aBx xbs[m]]):=by
           unfold Hid
           rw [List.take_succ_eq_append_getElem hlt2,List.map_append]
           rfl
          have HW2:=hide (show W2.heap.size≤wr.heap.size from hI2.size)
          have hDW:D<W2.heap.size:=aAs HD3.out
          have hgo:=HGR.out
          have hoW:wo.heap.size≤W2.heap.size:=HB3.out.size
          have NB2:=hide (fun W (hW:Below W2.heap.size wr W)=>(hW.block D hDW).trans hblk2)
          have HROW2:=hide hrow2
          have HIH2:=hide hI2
          have HBK2:=hide hblk2
          generalize xbs[m]=x at *
          obtain ⟨⟨bk,bs,bn⟩,bp,bw⟩:=x
          have CE:=fun W=>hide (aDt ⟨bk,bs,bn⟩ W rx)
          generalize hR0:(xbs.take m).map aBx=R0 at *
          have HR0:=hide hR0
          have N1:=hide (fun W (hW:Below W2.heap.size wr W)=>(show W.cell? ⟨D,2,none⟩=some (.slice va2 R0.length vc2) from aA0 ((hW.block D hDW).trans hblk2) rfl))
          clear hR0 hrow2 HEND2 hch hI2 rx hblk2
          dsimp only at *
          go_wp2_with fail
          clear qo qr qm0 qm1 qm2 qm3 qm4
          have n1:∀ W,SX W2.heap.size wr wr.heap.size (.cells #[.int .i64 bk,.string bs,.string bn,.int .i64 bp,.int .i64 bw] 91) W→W.cell? ⟨D,2,none⟩=some (.slice va2 R0.length vc2):=fun W hW=>N1.out W hW.b
          have m0:∀ W,SX W2.heap.size wr wr.heap.size (.cells #[.int .i64 bk,.string bs,.string bn,.int .i64 bp,.int .i64 bw] 91) W→W.cell? ⟨wr.heap.size,0,none⟩=some (.int .i64 bk):=fun W hW=>aA0 hW.h rfl
          have m1:∀ W,SX W2.heap.size wr wr.heap.size (.cells #[.int .i64 bk,.string bs,.string bn,.int .i64 bp,.int .i64 bw] 91) W→W.cell? ⟨wr.heap.size,1,none⟩=some (.string bs):=fun W hW=>aA0 hW.h rfl
          have m2:∀ W,SX W2.heap.size wr wr.heap.size (.cells #[.int .i64 bk,.string bs,.string bn,.int .i64 bp,.int .i64 bw] 91) W→W.cell? ⟨wr.heap.size,2,none⟩=some (.string bn):=fun W hW=>aA0 hW.h rfl
          have m3:∀ W,SX W2.heap.size wr wr.heap.size (.cells #[.int .i64 bk,.string bs,.string bn,.int .i64 bp,.int .i64 bw] 91) W→W.cell? ⟨wr.heap.size,3,none⟩=some (.int .i64 bp):=fun W hW=>aA0 hW.h rfl
          have m4:∀ W,SX W2.heap.size wr wr.heap.size (.cells #[.int .i64 bk,.string bs,.string bn,.int .i64 bp,.int .i64 bw] 91) W→W.cell? ⟨wr.heap.size,4,none⟩=some (.int .i64 bw):=fun W hW=>aA0 hW.h rfl
          refine aB4 13 (fun W=>SX W2.heap.size wr wr.heap.size (.cells #[.int .i64 bk,.string bs,.string bn,.int .i64 bp,.int .i64 bw] 91) W) (by kernel_rfl) (⟨((Below.refl _ _).alloc HW2.out _).drew,aA7 wr _⟩) ?_
          refine zzG 0 5 (.pointer (some ⟨D,2,none⟩)) rfl (by kernel_rfl) (fun _ _ _ h=>h) (by rfl) (fun w1 hS=>?_) ?_
          ·(try dsimp only at hS)
           go_simp
          simp only [Act.put,zzB,zzC,zzD]
          refine zzG 1 5 (.slice va2 R0.length vc2) rfl (by kernel_rfl) (fun _ _ _ h=>h) (by rfl) (fun w1 hS=>?_) ?_
          ·(try dsimp only at hS)
           go_simp
          simp only [Act.put,zzB,zzC,zzD]
          refine zzG 2 5 (.pointer (some ⟨wr.heap.size,0,none⟩)) rfl (by kernel_rfl) (fun _ _ _ h=>h) (by rfl) (fun w1 hS=>?_) ?_
          ·(try dsimp only at hS)
           go_simp
          simp only [Act.put,zzB,zzC,zzD]
          refine zzG 3 5 (.agg #[.int .i64 bk,.string bs,.string bn]) rfl (by kernel_rfl) (fun _ _ _ h=>h) (by rfl) (fun w1 hS=>?_) ?_
          ·(try dsimp only at hS)
           go_simp
          simp only [Act.put,zzB,zzC,zzD]
          refine zzG 5 5 (.pointer (some ⟨wr.heap.size,3,none⟩)) rfl (by kernel_rfl) (fun _ _ _ h=>h) (by rfl) (fun w1 hS=>?_) ?_
          ·(try dsimp only at hS)
           go_simp
          simp only [Act.put,zzB,zzC,zzD]
          refine zzG 6 5 (.int .i64 bp) rfl (by kernel_rfl) (fun _ _ _ h=>h) (by rfl) (fun w1 hS=>?_) ?_
          ·(try dsimp only at hS)
           go_simp
          simp only [Act.put,zzB,zzC,zzD]
          refine zzG 7 5 (.pointer (some ⟨wr.heap.size,4,none⟩)) rfl (by kernel_rfl) (fun _ _ _ h=>h) (by rfl) (fun w1 hS=>?_) ?_
          ·(try dsimp only at hS)
           go_simp
          simp only [Act.put,zzB,zzC,zzD]
          refine zzG 8 5 (.int .i64 bw) rfl (by kernel_rfl) (fun _ _ _ h=>h) (by rfl) (fun w1 hS=>?_) ?_
          ·(try dsimp only at hS)
           go_simp
          simp only [Act.put,zzB,zzC,zzD]
          clear n1 m0 m1 m2 m3 m4
          refine zzG 4 5 (.agg #[.int .i64 bk,.string (fewB bs),.string (fewB bn)]) rfl (by kernel_rfl) (fun _ _ _ h=>h) (by rfl) (fun w1 hS=>?_) ?_
          ·(try dsimp only at hS)
           go_simp
           exact (CE _).out.mono (fun _ _ ⟨he,hb⟩=>⟨he,hb,hS.grow hb (by have:=hS.b.size;have:=HW2.out;omega)⟩)
          simp only [Act.put,zzB,zzC,zzD]
          refine zzG 9 5 (.agg #[.int .i64 bk,.string (fewB bs),.string (fewB bn),.int .i64 bp,.int .i64 bw]) rfl (by kernel_rfl) (fun _ _ _ h=>h) (by rfl) (fun w1 hS=>?_) ?_
          ·(try dsimp only at hS)
           go_simp
          simp only [Act.put,zzB,zzC,zzD]
          refine aAf (rs:=[10]) (by kernel_rfl) (by simp) (fun wd hGd hSd i hi=>?_)
          obtain rfl:i=10:=by simpa using hi
          clear hi
          have hszd:wr.heap.size<wd.heap.size:=aAs hSd.h
          refine aAb rfl (by rfl) (fun K' hK'=>?_)
          replace hK':=hide hK'
          go_simp
          refine hK'.out _ _ (aAx (by decide) (hSd.grow ((Below.refl _ _).alloc (Nat.le_refl _) _) (by have:=HW2.out;omega)) ?_)
          clear hK' K'
          refine aAf (rs:=[11]) (by kernel_rfl) (by simp) (fun we hGe hSe i hi=>?_)
          obtain rfl:i=11:=by simpa using hi
          clear hi
          have RW:we.ownsRow W2.heap.size 91 EK.n (.slice va2 R0.length vc2) R0.length (EK.flat R0):=aA4 (aA4 (aA4 HROW2.out (((Below.refl _ _).alloc (Nat.le_refl _) _).drew)) (hGd.mono (by simp [World.drew]))) (aA8 hGe)
          have SLW:Sl EK we (.slice (some ⟨wd.heap.size,0,none⟩) 1 1) [⟨⟨bk,fewB bs,fewB bn⟩,bp,bw⟩]:=Sl.at_block (E:=EK) (x:=⟨⟨bk,fewB bs,fewB bn⟩,bp,bw⟩) (aB7 hGe) trivial
          refine aAb rfl (by rfl) (fun K' hK'=>?_)
          have hsze:wr.heap.size<we.heap.size:=aAs hSe.h
          refine aBy (E:=EK) 74 91 _ 56 Tryz.underlying74 Tryz.infoBk rfl (by decide) _ _ _ rfl W2.heap.size _ _ _ rfl RW _ _ rfl SLW (by have:=HML.out;simp;omega) (by have:=HW2.out;omega) ?_
          intro v5 w5 hr5 hg5
          have hS5:=hSe.grown hg5 (by have:=HW2.out;omega) (fun j e=>aAe RW e) (fun j e=>Nat.ne_of_lt (aE6 HROW2.out e))
          obtain ⟨a5,c5,hv5⟩:=aAj hr5
          subst hv5
          refine hK' _ _ (aAx (by decide) hS5 ?_)
          clear hK' K' hGd hSd hGe hSe RW SLW hg5
          try simp only [Act.put,zzB,zzC,zzD]
          refine zzG 12 5 (.pointer (some ⟨D,2,none⟩)) rfl (by kernel_rfl) (fun _ _ _ h=>h) (by rfl) (fun w1 hS=>?_) ?_
          ·(try dsimp only at hS)
           go_simp
          simp only [Act.put,zzB,zzC,zzD]
          refine aAf (rs:=[13]) (by kernel_rfl) (by simp) (fun wf hGf hSf i hi=>?_)
          obtain rfl:i=13:=by simpa using hi
          clear hi
          have hz:=NB2.out wf hSf.b
          have z2:=aA0 hz (i:=2) rfl
          have lz:=aAl hz
          refine aAb rfl (by rfl) (fun K' hK'=>?_)
          go_simp
          refine hK' _ _ (aBq (by decide) ?_)
          clear hK' K' z2 lz
          have KB:=aDh (g:=D) (t:=76) [.slice ma ML.length mc,.slice fa (aB6 xfs).length fc] [] (.slice va2 R0.length vc2) (.slice a5 (R0.length+1) c5) wf hz
          have KS:BX D W2.heap.size W2 (setL wf D 2 [.slice a5 (R0.length+1) c5]):=(HIH2.out.below hSf.b).setL 2 _
          have KR:=aCn (W:=wf) (g:=D) (k:=2) (cs:=[.slice a5 (R0.length+1) c5]) (aA4 hr5 hGf) hDW
          refine aBf (by kernel_rfl) ?_
          change Exit.inBlock _ _ _ _ (setL wf D 2 [.slice a5 (R0.length+1) c5])
          change (setL wf D 2 [.slice a5 (R0.length+1) c5]).heap[D]?=_ at KB
          generalize setL wf D 2 [.slice a5 (R0.length+1) c5]=w6 at *
          clear hz hGf hSf hr5 hS5 NB2 HROW2
          go_wp2_with fail
          exact ⟨⟨m+1,a5,c5,by omega,by omega,by go_num,KS,by rw [HN2.out,List.length_append];exact KB,by rw [HN2.out,List.length_append];exact KR⟩,by simp [intOf];omega⟩
         ·have h5':¬ (m:Int)<5:=by omega
          have HE:=hide (HEND2.out (by omega))
          clear HEND2
          have HR:=hide hrow2
          have HIH2:=hide hI2
          have HBK2:=hide hblk2
          clear hrow2 hI2 hblk2
          go_wp2_with fail
          go_meet
          case rel=>exact ⟨va2,vc2,HIH2.out,by rw [←HE.out];exact HBK2.out,by rw [←HE.out];exact HR.out⟩
        ·have hlt2':¬ (m:Int)<(xbs.length:Int):=by omega
         have HE:=hide (HEND2.out (by omega))
         clear HEND2
         have HR:=hide hrow2
         have HIH2:=hide hI2
         have HBK2:=hide hblk2
         clear hrow2 hI2 hblk2
         go_wp2_with fail
         go_meet
         case rel=>exact ⟨va2,vc2,HIH2.out,by rw [←HE.out];exact HBK2.out,by rw [←HE.out];exact HR.out⟩
      case rest =>
       obtain ⟨ba,bc,hI2,hb2,hr2⟩:=hcut
       have HB4:=hide (HB3.out.trans (hI2.under (m:=wr.heap.size) HDL.out HB3.out.size))
       have HOWN:Hid (RlV.own ⟨ML,ma,mc,aB6 xfs,fa,fc,(xbs.take 5).map aBx,ba,bc⟩ wc):=hide ⟨match HM3.out with | ⟨b,h⟩=>⟨b,hI2.row HD3.out h (by decide)⟩,fun m hm=>(HMO.out m hm).bx hI2 HD3.out (by decide),match HF3.out with | ⟨b,h⟩=>⟨b,hI2.row HD3.out h (by decide)⟩,⟨_,hr2⟩⟩
       have HD4:=hide hb2
       have HGE:Hid (∀ g,(Value.slice ba ((xbs.take 5).map aBx).length bc).ownBlock=some g→wr.heap.size≤g):=hide fun g e=>by have:=aAe hr2 e;have:=HB3.out.size;omega
       clear HB3 HM3 HMO HF3 HD3 hI2 hb2 hr2
       clear W2
       generalize hBK5:(xbs.take 5).map aBx=BK5 at *
       have HBK5:=hide hBK5
       clear hBK5
       have hz0:=(HB4.out.block B hBs).trans HBK.out
       have q10:=aA0 hz0 (i:=10) rfl
       obtain ⟨d0,d1,d2⟩:_∧_∧_:=⟨aA0 HD4.out (i:=0) rfl,aA0 HD4.out (i:=1) rfl,aA0 HD4.out (i:=2) rfl⟩
       have BA:=hide ((Below.refl wc.heap.size wc).alloc (Nat.le_refl _) (.cells #[.slice ma ML.length mc,.slice fa (aB6 xfs).length fc,.slice ba BK5.length bc] 76))
       have RWA:=hide (aA4 (aA4 HROW.out HB4.out) BA.out)
       have SLA:=hide (Sl.at_block (E:=ERl) (x:=⟨ML,ma,mc,aB6 xfs,fa,fc,BK5,ba,bc⟩) (aA7 wc (.cells #[.slice ma ML.length mc,.slice fa (aB6 xfs).length fc,.slice ba BK5.length bc] 76)) (HOWN.out.at_.below BA.out))
       have HZA:=hide (aA2 hz0 BA.out)
       have HSA:=hide (show W1.heap.size≤(wc.alloc (.cells #[.slice ma ML.length mc,.slice fa (aB6 xfs).length fc,.slice ba BK5.length bc] 76)).heap.size by have:=HW1.out;have:=HB4.out.size;simp;omega)
       clear hz0
       go_wp2_with (at_builtin;refine aAg (E:=ERl) 33 76 _ 72 Tryz.underlying33 Tryz.infoRl rfl (by decide) _ _ _ rfl (by rfl) W1.heap.size _ _ _ rfl RWA.out _ _ rfl SLA.out (by have:=HKL.out;simp;omega) HSA.out ?_;intro v' w3 hown' hgrow;obtain ⟨a5,c5,hv'⟩:=aAj hown';subst hv';have hz3:=(hgrow.block B (aAs HZA.out) (fun e=>by have:=aAe RWA.out e.symm;omega)).trans HZA.out;have z3:=aA0 hz3 (i:=10) rfl;have lz3:=aAl hz3)
       clear z3 lz3 q10 d0 d1 d2
       have HBw:Below W1.heap.size wr w3:=((HB4.out.trans (BA.out.mono HB4.out.size)).mono HW1.out).grown hgrow HSA.out (fun j e=>aAe RWA.out e)
       have KB:=aDh (g:=B) (t:=36) [.int .i64 ork,.string (fewB ors),.string (fewB orn),.bool ogd,.slice lsa (aAc olb).length lsc,.slice pa (opo.take 9).length pc,.string (fewB ocs),.slice ia LI.length ic,.slice qa ((opa.take 5).map aBb).length qc,.slice ha ((oho.take 5).map fewB).length hc] [.slice fsa (aA9 ofr).length fsc,.slice tsa (aA9 oto).length tsc] (.slice va LL.length vc) (.slice a5 (LL.length+1) c5) w3 hz3
       have KS:BX B W1.heap.size W1 (setL w3 B 10 [.slice a5 (LL.length+1) c5]):=(HIH.out.below HBw).setL 10 _
       have KR:=aCn (W:=w3) (g:=B) (k:=10) (cs:=[.slice a5 (LL.length+1) c5]) hown' hBW
       have KO2:Hid ((∀ x∈LL++[(⟨ML,ma,mc,aB6 xfs,fa,fc,BK5,ba,bc⟩:RlV)],x.own (setL w3 B 10 [.slice a5 (LL.length+1) c5]))∧aFr w.heap.size (LL++[(⟨ML,ma,mc,aB6 xfs,fa,fc,BK5,ba,bc⟩:RlV)])):=⟨fun x hx=>by
        refine RlV.own.bx (w:=w3) ?_ ((BX.refl B w3.heap.size w3).setL 10 _) hz3
        rcases List.mem_append.1 hx with h | h
        ·exact (((hown.out.1 x h).below HB4.out).below BA.out).grown RWA.out hgrow
        ·rw [List.mem_singleton] at h
         subst h
         exact (HOWN.out.below BA.out).grown RWA.out hgrow,aN6 hown.out.2 hown.out.1 HGE.out HWG.out⟩
       change (setL w3 B 10 [.slice a5 (LL.length+1) c5]).heap[B]?=_ at KB
       have HRES:=hide (And.intro KS (And.intro KB KR))
       clear KS KB KR hz3 HBw hown' hgrow
       exact ⟨⟨k+1,a5,c5,LL++[⟨ML,ma,mc,aB6 xfs,fa,fc,BK5,ba,bc⟩],by omega,by omega,by go_num,HRES.out.1,by rw [List.length_append];exact HRES.out.2.1,by rw [List.length_append];exact HRES.out.2.2,(by unfold Hid;rw [List.map_append,hmap.out,HN.out];exact congrArg (fun z=>_++[z]) (by unfold RlV.b aDd;dsimp only;rw [HMM.out,←HBK5.out])),KO2⟩,by simp [intOf];omega⟩
    ·have h9':¬ (k:Int)<7:=by omega
     have HE:=hide (HEND.out (by omega))
     clear HEND
     have HR:=hide hrow
     have HIH:=hide hI
     have HBK:=hide hblk
     clear hrow hI hblk
     go_wp2_with fail
     go_meet
     case rel=>exact ⟨va,vc,LL,HIH.out,HBK.out,HR.out,HE.out,hown.out⟩
   ·have hlt':¬ (k:Int)<(oru.length:Int):=by omega
    have HE:=hide (HEND.out (by omega))
    clear HEND
    have HR:=hide hrow
    have HIH:=hide hI
    have HBK:=hide hblk
    clear hrow hI hblk
    go_wp2_with fail
    go_meet
    case rel=>exact ⟨va,vc,LL,HIH.out,HBK.out,HR.out,HE.out,hown.out⟩
 case rest =>
 obtain ⟨ra,rc,RL,hI,hblk,hrow,hmap,hown⟩:=hcut
 have HB12:=hide (HB11.out.trans (hI.less HB11.out.size))
 have HKX2:=hide hblk
 have HQ72:=hide (match HQ7.out with | ⟨b,h⟩=>(⟨b,hI.row HKX.out h (by decide)⟩:∃ b,wc.ownsRow b _ _ _ _ _))
 have HQ132:=hide (match HQ13.out with | ⟨b,h⟩=>(⟨b,hI.row HKX.out h (by decide)⟩:∃ b,wc.ownsRow b _ _ _ _ _))
 have HQ162:=hide (match HQ16.out with | ⟨b,h⟩=>(⟨b,hI.row HKX.out h (by decide)⟩:∃ b,wc.ownsRow b _ _ _ _ _))
 have HP2:=hide (match HP.out with | ⟨b,h⟩=>(⟨b,hI.row HKX.out h (by decide)⟩:∃ b,wc.ownsRow b _ _ _ _ _))
 have HLI2:=hide (match HLI.out with | ⟨b,h⟩=>(⟨b,hI.row HKX.out h (by decide)⟩:∃ b,wc.ownsRow b _ _ _ _ _))
 have HLIA2:=hide (fun x hx=>(HLIA.out x hx).bx hI HKX.out (by decide) (by decide))
 have HPS2:=hide (match HPS.out with | ⟨b,h⟩=>(⟨b,hI.row HKX.out h (by decide)⟩:∃ b,wc.ownsRow b _ _ _ _ _))
 have HHO2:=hide (match HHO.out with | ⟨b,h⟩=>(⟨b,hI.row HKX.out h (by decide)⟩:∃ b,wc.ownsRow b _ _ _ _ _))
 have HRL2:Hid (∃ b,wc.ownsRow b 76 ERl.n (.slice ra RL.length rc) RL.length (ERl.flat RL)):=hide ⟨_,hrow⟩
 have HRLM:=hide hmap
 have HRLA2:=hide hown
 clear HB11 HKX HQ7 HQ13 HQ16 HP HLI HLIA HPS HHO hI hblk hrow hmap hown
 clear W1
 generalize wc=W1 at *
 have HB11:=HB12
 clear HB12
 have HKX:=HKX2
 clear HKX2
 have HQ7:=HQ72
 clear HQ72
 have HQ13:=HQ132
 clear HQ132
 have HQ16:=HQ162
 clear HQ162
 have HP:=HP2
 clear HP2
 have HLI:=HLI2
 clear HLI2
 have HLIA:=HLIA2
 clear HLIA2
 have HPS:=HPS2
 clear HPS2
 have HHO:=HHO2
 clear HHO2
 have HRL:=HRL2
 clear HRL2
 have HRLA:=HRLA2
 clear HRLA2
 generalize hP9:opo.take 9=P9 at *
 generalize hP5:(opa.take 5).map aBb=P5 at *
 generalize hH5:(oho.take 5).map fewB=H5 at *
 have HH9:=hide hP9
 have HH5:=hide hP5
 have HHH:=hide hH5
 clear hP9 hP5 hH5
 have hb:=HB11.out
 have hsz:=hXs.out
 have hz:=HKX.out
 have hr:=(HB11.out.block (w.heap.size+1) (by omega) (by have:=HBL.out;omega)).trans K1.out
 have q:=aA0 hz (i:=0) rfl
 obtain ⟨q0,q1,q2,q3,q4,q5,q6,q7,q8,q9,q10,q11,q12⟩:_∧_∧_∧_∧_∧_∧_∧_∧_∧_∧_∧_∧_:=⟨aA0 hz (i:=0) rfl,aA0 hz (i:=1) rfl,aA0 hz (i:=2) rfl,aA0 hz (i:=3) rfl,aA0 hz (i:=4) rfl,aA0 hz (i:=5) rfl,aA0 hz (i:=6) rfl,aA0 hz (i:=7) rfl,aA0 hz (i:=8) rfl,aA0 hz (i:=9) rfl,aA0 hz (i:=10) rfl,aA0 hz (i:=11) rfl,aA0 hz (i:=12) rfl⟩
 obtain ⟨z0,z1,z2,z3,z4,z5,z6,z7,z8,z9,z10,z11,z12⟩:_∧_∧_∧_∧_∧_∧_∧_∧_∧_∧_∧_∧_:=⟨aA0 hr (i:=0) rfl,aA0 hr (i:=1) rfl,aA0 hr (i:=2) rfl,aA0 hr (i:=3) rfl,aA0 hr (i:=4) rfl,aA0 hr (i:=5) rfl,aA0 hr (i:=6) rfl,aA0 hr (i:=7) rfl,aA0 hr (i:=8) rfl,aA0 hr (i:=9) rfl,aA0 hr (i:=10) rfl,aA0 hr (i:=11) rfl,aA0 hr (i:=12) rfl⟩
 have lz:=aAl hr
 have OY:OV.own ⟨⟨ork,fewB ors,fewB orn⟩,ogd,aAc olb,lsa,lsc,P9,pa,pc,fewB ocs,LI,ia,ic,P5,qa,qc,H5,ha,hc,RL,ra,rc,aA9 ofr,fsa,fsc,aA9 oto,tsa,tsc⟩ W1 :=
  ⟨HQ7.out,HP.out,HLI.out,HLIA.out,HPS.out,HHO.out,HRL.out,HRLA.out.1,HQ13.out,HQ16.out⟩
 have OYB:=hide (OY.bx ((BX.refl (w.heap.size+1) W1.heap.size W1).setL 0 [.int .i64 ork,.string (fewB ors),.string (fewB orn),.bool ogd,.slice lsa (aAc olb).length lsc,.slice pa P9.length pc,.string (fewB ocs),.slice ia LI.length ic,.slice qa P5.length qc,.slice ha H5.length hc,.slice ra RL.length rc,.slice fsa (aA9 ofr).length fsc,.slice tsa (aA9 oto).length tsc]) hr)
 have KS:=hide (aAh (w:=w) (B:=w.heap.size) (g:=w.heap.size+1) (by omega) [.int .i64 ork,.string (fewB ors),.string (fewB orn),.bool ogd,.slice lsa (aAc olb).length lsc,.slice pa P9.length pc,.string (fewB ocs),.slice ia LI.length ic,.slice qa P5.length qc,.slice ha H5.length hc,.slice ra RL.length rc,.slice fsa (aA9 ofr).length fsc,.slice tsa (aA9 oto).length tsc] W1 0 (HUN.out W1 HB11.out))
 have KR:=hide (aB2 [.int .i64 ork,.string (fewB ors),.string (fewB orn),.bool ogd,.slice lsa (aAc olb).length lsc,.slice pa P9.length pc,.string (fewB ocs),.slice ia LI.length ic,.slice qa P5.length qc,.slice ha H5.length hc,.slice ra RL.length rc,.slice fsa (aA9 ofr).length fsc,.slice tsa (aA9 oto).length tsc] hr rfl)
 clear hb hz hr OY q hsz hXs K1 KO HO
 generalize w.heap.size+1=R at *
 go_wp2_with fail
 clear q0 q1 q2 q3 q4 q5 q6 q7 q8 q9 q10 q11 q12 z0 z1 z2 z3 z4 z5 z6 z7 z8 z9 z10 z11 z12 lz
 change bodyPost _ _ _ _ _ (setL W1 R 0 [.int .i64 ork,.string (fewB ors),.string (fewB orn),.bool ogd,.slice lsa (aAc olb).length lsc,.slice pa P9.length pc,.string (fewB ocs),.slice ia LI.length ic,.slice qa P5.length qc,.slice ha H5.length hc,.slice ra RL.length rc,.slice fsa (aA9 ofr).length fsc,.slice tsa (aA9 oto).length tsc])
 replace KS:=KS.out
 replace KR:=KR.out
 replace OYB:=OYB.out
 generalize setL W1 R 0 [.int .i64 ork,.string (fewB ors),.string (fewB orn),.bool ogd,.slice lsa (aAc olb).length lsc,.slice pa P9.length pc,.string (fewB ocs),.slice ia LI.length ic,.slice qa P5.length qc,.slice ha H5.length hc,.slice ra RL.length rc,.slice fsa (aA9 ofr).length fsc,.slice tsa (aA9 oto).length tsc]=WZ at *
 obtain ⟨e0,e1,e2,e3,e4,e5,e6,e7,e8,e9,e10,e11,e12⟩:_∧_∧_∧_∧_∧_∧_∧_∧_∧_∧_∧_∧_:=⟨aA0 KR (i:=0) rfl,aA0 KR (i:=1) rfl,aA0 KR (i:=2) rfl,aA0 KR (i:=3) rfl,aA0 KR (i:=4) rfl,aA0 KR (i:=5) rfl,aA0 KR (i:=6) rfl,aA0 KR (i:=7) rfl,aA0 KR (i:=8) rfl,aA0 KR (i:=9) rfl,aA0 KR (i:=10) rfl,aA0 KR (i:=11) rfl,aA0 KR (i:=12) rfl⟩
 exact bodyPost_ret (v:=.agg #[.int .i64 ork,.string (fewB ors),.string (fewB orn),.bool ogd,.slice lsa (aAc olb).length lsc,.slice pa P9.length pc,.string (fewB ocs),.slice ia LI.length ic,.slice qa P5.length qc,.slice ha H5.length hc,.slice ra RL.length rc,.slice fsa (aA9 ofr).length fsc,.slice tsa (aA9 oto).length tsc]) (by simp [results,Tryz.f24,go_sem,e0,e1,e2,e3,e4,e5,e6,e7,e8,e9,e10,e11,e12]) rfl ⟨_,rfl,by unfold OV.b fewO;dsimp only;rw [HLIM.out,HRLM.out,←HH9.out,←HH5.out,←HHH.out];rfl,OYB,KS,HRLA.out.2,HQG.out⟩
theorem aT6 (x:OV) (w:World) (hx:x.at_ w) (raw:RawO x) :
  Calls Tryz.prog 24 #[oV x] w fun e w'=>∃ y:OV,e=.returned (oV y)∧y.b=fewO x.b∧y.own w'∧Below w.heap.size w w' :=
 (aOz x w hx raw).mono fun _ _ ⟨y,h1,h2,h3,h4,_⟩=>⟨y,h1,h2,h3,h4⟩
end Go.Proofs.YthnodpdiocppgaaGreatDoor
