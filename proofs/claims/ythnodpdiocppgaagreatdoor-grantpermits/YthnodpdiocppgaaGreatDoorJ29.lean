/-
  Walks: Find (of package grant).
-/
import Derived.Test.YthnodpdiocppgaaGreatDoorJ27
import Derived.Test.YthnodpdiocppgaaGreatDoorJ28
set_option maxHeartbeats 6400000
set_option maxRecDepth 20000
namespace Go.Proofs.YthnodpdiocppgaaGreatDoor
open Go Go.RowKit Go.Shelf
attribute [local go_sem] Oper.semAt_some
theorem aBm {W W':World} {row:Option Nat} {b e s n:Nat} {v:Value} {xs:List Value} (h:W.ownsRow b e s v n xs) (hg:W.grownBy W' row) (hr:∀ r,row=some r→∃ o:Obj,W.heap[r]?=some o∧o.isCells=false):W'.ownsRow b e s v n xs:=by
 obtain ⟨h1,h2⟩:=h
 refine ⟨h1,?_⟩
 rcases h2 with h2 | ⟨g,cap,cur,hv,hb,hh,r⟩
 ·exact .inl h2
 ·refine .inr ⟨g,cap,cur,hv,hb,(hg.block g (aAs hh) (fun e=>?_)).trans hh,r⟩
  obtain ⟨o,ho,hc⟩:=hr _ e.symm
  rw [hh] at ho
  cases ho
  cases hc
theorem RlV.own.turn {x:RlV} {W W':World} {row:Option Nat} (h:x.own W) (hg:W.grownBy W' row) (hr:∀ r,row=some r→∃ o:Obj,W.heap[r]?=some o∧o.isCells=false):x.own W':=by
 obtain ⟨⟨b,h1⟩,h2,⟨c,h3⟩,⟨d,h4⟩⟩:=h
 refine ⟨⟨b,aBm h1 hg hr⟩,fun m hm=>?_,⟨c,aBm h3 hg hr⟩,⟨d,aBm h4 hg hr⟩⟩
 obtain ⟨⟨b1,g1⟩,c1,g2⟩:=h2 m hm
 exact ⟨⟨b1,aBm g1 hg hr⟩,c1,aBm g2 hg hr⟩
theorem OV.own.turn {x:OV} {W W':World} {row:Option Nat} (h:x.own W) (hg:W.grownBy W' row) (hr:∀ r,row=some r→∃ o:Obj,W.heap[r]?=some o∧o.isCells=false):x.own W':=by
 obtain ⟨⟨b1,h1⟩,⟨b2,h2⟩,⟨b3,h3⟩,h4,⟨b5,h5⟩,⟨b6,h6⟩,⟨b7,h7⟩,h8,⟨b9,h9⟩,⟨b10,h10⟩⟩:=h
 refine ⟨⟨b1,aBm h1 hg hr⟩,⟨b2,aBm h2 hg hr⟩,⟨b3,aBm h3 hg hr⟩,fun l hl=>?_,⟨b5,aBm h5 hg hr⟩,⟨b6,aBm h6 hg hr⟩,⟨b7,aBm h7 hg hr⟩,fun r hr2=>(h8 r hr2).turn hg hr,⟨b9,aBm h9 hg hr⟩,⟨b10,aBm h10 hg hr⟩⟩
 obtain ⟨⟨c1,g1⟩,g2⟩:=h4 l hl
 exact ⟨⟨c1,aBm g1 hg hr⟩,fun n hn=>by
  obtain ⟨c2,g3⟩:=g2 n hn
  exact ⟨c2,aBm g3 hg hr⟩⟩
theorem aGd (g:Nat):∀ (cs:List Value) (W:World) (k:Nat),KeepsOthers W (setL W g k cs)
 | [],W,_=>KeepsOthers.refl W
 | c::cs,W,k=>(KeepsOthers.setCell W ⟨g,k,none⟩ c).trans (aGd g cs _ (k+1))
theorem aMc {W W':World} (h:Below W.heap.size W W'):KeepsOthers W W':=⟨h.size,fun k _ hk _=>(h.block k (Array.getElem?_eq_some_iff.1 hk).1).trans hk⟩
abbrev zOV:OV:=⟨⟨0,⟨#[]⟩,⟨#[]⟩⟩,false,[],none,0,[],none,0,⟨#[]⟩,[],none,0,[],none,0,[],none,0,[],none,0,[],none,0,[],none,0⟩
theorem aRy (w:World):zOV.at_ w:=⟨Prs.nil w,Sl.nil w,Sl.nil w,Sl.nil w,Sl.nil w,Sl.nil w,Sl.nil w,Sl.nil w⟩
theorem aMd (L:List OV) (r:RfB):Gr.find (L.map OV.b) r=(L.filter fun o=>Ob.eqR o.ref r).head?.map OV.b:=by
 unfold Gr.find
 rw [List.find?_map,List.head?_filter]
 rfl
theorem aRz (x:OV) (r:RfB) (b0:Nat) (w:World) (h0:w.heap[b0]?=some (bxR r)) :
  Calls Tryz.prog 28 #[oV x,pt b0] w fun e w'=>e=.returned (.bool (Ob.eqR x.ref r))∧Below w.heap.size w w':=by
 obtain ⟨X,hX⟩:∃ z,z=w.alloc (.cells #[.int .i64 x.ref.kind,.string x.ref.space,.string x.ref.name,.bool x.good,.slice x.al x.labels.length x.cl,.slice x.ap x.ports.length x.cp,.string x.cls,.slice x.ai x.lis.length x.ci,.slice x.aq x.pars.length x.cq,.slice x.ah x.hosts.length x.ch,.slice x.ar x.rules.length x.cr,.slice x.af x.frm.length x.cf,.slice x.ao x.tos.length x.co] 36):=⟨_,rfl⟩
 have B1:Below w.heap.size w X:=by rw [hX];exact (Below.refl _ _).alloc (Nat.le_refl _) _
 have y0:=aA0 (aA2 h0 B1) (i:=0) rfl
 have y1:=aA0 (aA2 h0 B1) (i:=1) rfl
 have y2:=aA0 (aA2 h0 B1) (i:=2) rfl
 rw [hX] at y0 y1 y2
 have EQ:=aG9 x.ref r
 have HB1:=hide B1
 clear B1 h0
 go_enter Tryz.func28,Tryz.ntmps28
 go_wp2_with fail
 rw [←hX]
 go_ret
 exact ⟨rfl,HB1.out⟩
structure aEj (w0:World) (A:Nat) (r:RfB) (v:Value) (W:World):Prop where
 b:Below w0.heap.size w0 W
 h0:W.heap[A]?=some (bxR r)
 h3:W.heap[A+3]?=some (bxL v)
 h4:W.heap[A+3+1]?=some (bxF (.func (.func 28) #[] #[pt A]))
theorem aEj.grow {w0:World} {A:Nat} {r:RfB} {v:Value} {W W':World} (h:aEj w0 A r v W) (hb:Below W.heap.size W W'):aEj w0 A r v W' :=
 ⟨h.b.trans (hb.mono h.b.size),aA2 h.h0 hb,aA2 h.h3 hb,aA2 h.h4 hb⟩
theorem aEj.own {w0:World} {A:Nat} {r:RfB} {v:Value} {W W':World} {row:Option Nat} (h:aEj w0 A r v W) (hg:W.grownBy W' row) (hr:∀ r,row=some r→A+5≤r) (hA:w0.heap.size≤A):aEj w0 A r v W':=by
 have y:∀ i o,i<A+5→W.heap[i]?=some o→W'.heap[i]?=some o:=fun i o hi ho=>(hg.block i (aAs ho) (fun e=>by have:=hr i e.symm;omega)).trans ho
 exact ⟨h.b.grown hg h.b.size (fun r e=>by have:=hr r e;omega),y _ _ (by omega) h.h0,y _ _ (by omega) h.h3,y _ _ (by omega) h.h4⟩
theorem aPi (n:Nat) {a:Option Addr} {cap:Nat} {L:List OV} {w0:World} (hL:Sl EO w0 (.slice a L.length cap) L) (A:Nat) (r:RfB) :
  aEy Fence.wide n Tryz.prog 51 #[pt (A+3),pt (A+3+1)] ((L.filter fun o=>Ob.eqR o.ref r).map oV) (aEj w0 A r (.slice a L.length cap)) :=
 aHo n (A+3) a cap L 28 #[pt A] (fun o=>Ob.eqR o.ref r) w0 hL (enters_of Tryz.func28 (by kernel_rfl) rfl) _
  (fun W h=>⟨h.b,h.h3,h.h4⟩) (fun W W' h hb=>h.grow hb) (fun W h i hi=>aRz L[i] r A W h.h0)
set_option maxRecDepth 100000 in
theorem aH0 {a:Option Addr} {cap:Nat} {L:List OV} (r:RfB) (w:World) (hL:Sl EO w (.slice a L.length cap) L) (ln:∀ o∈L,LenO o) :
  Calls Tryz.prog 10 #[.slice a L.length cap,rfV r] w fun e w'=>∃ y:OV,e=.returned (.tuple #[oV y,.bool (Gr.find (L.map OV.b) r).isSome])∧y.b=(Gr.find (L.map OV.b) r).getD zOV.b∧y.at_ w'∧Below w.heap.size w w':=by
 rw [aMd]
 obtain ⟨rk,rs,rn⟩:=r
 have HST:=hide (fun A=>aPi 7 hL A ⟨rk,rs,rn⟩)
 have HALL:=hide (fun x (hx:x∈L.filter fun o=>Ob.eqR o.ref ⟨rk,rs,rn⟩) W (h:Below w.heap.size w W)=>aRm x W ((hL.all x (List.mem_filter.1 hx).1).below h) (ln x (List.mem_filter.1 hx).1))
 have hlen:=hL.len
 generalize (L.filter fun o=>Ob.eqR o.ref ⟨rk,rs,rn⟩)=F at *
 clear hL ln
 refine (callsIn_wide (n:=8)).1 ?_
 refine callsIn_of_wp_marks Tryz.func10 rfl trivial ?_ rfl
 simp only [Tryz.ntmps10,List.size_toArray,List.length_cons,List.length_nil,Nat.reduceAdd,Nat.reduceSub,Array.replicate_succ,Array.replicate_zero,List.push_toArray,List.append_toArray,List.nil_append,List.cons_append]
 gi_wp2_with fail
 refine ⟨trivial,(callsIn_wide.2 (aGx _ _ ⟨_,_,rfl⟩ ⟨_,_,_,rfl⟩ _)).mono ?_⟩
 rintro e w2 ⟨rfl,hw2⟩
 have BX:Below w.heap.size w (((w.alloc (.cells #[.int .i64 rk,.string rs,.string rn] 24)).alloc (.cells #[.int .i64 0,.string ⟨#[]⟩,.string ⟨#[]⟩,.bool false,.slice none 0 0,.slice none 0 0,.string ⟨#[]⟩,.slice none 0 0,.slice none 0 0,.slice none 0 0,.slice none 0 0,.slice none 0 0,.slice none 0 0] 36)).alloc (.cells #[.bool false] 4)):=(((Below.refl _ _).alloc (Nat.le_refl _) _).alloc (by simp) _).alloc (by simp;omega) _
 have hsz:w2.heap.size=w.heap.size+5:=by rw [hw2,aCh];simp
 have hk0:(((w.alloc (.cells #[.int .i64 rk,.string rs,.string rn] 24)).alloc (.cells #[.int .i64 0,.string ⟨#[]⟩,.string ⟨#[]⟩,.bool false,.slice none 0 0,.slice none 0 0,.string ⟨#[]⟩,.slice none 0 0,.slice none 0 0,.slice none 0 0,.slice none 0 0,.slice none 0 0,.slice none 0 0] 36)).alloc (.cells #[.bool false] 4)).heap[w.heap.size]?=some (.cells #[.int .i64 rk,.string rs,.string rn] 24):=aBo [.cells #[.int .i64 rk,.string rs,.string rn] 24,.cells #[.int .i64 0,.string ⟨#[]⟩,.string ⟨#[]⟩,.bool false,.slice none 0 0,.slice none 0 0,.string ⟨#[]⟩,.slice none 0 0,.slice none 0 0,.slice none 0 0,.slice none 0 0,.slice none 0 0,.slice none 0 0] 36,.cells #[.bool false] 4] w 0 _ rfl
 have hk1:(((w.alloc (.cells #[.int .i64 rk,.string rs,.string rn] 24)).alloc (.cells #[.int .i64 0,.string ⟨#[]⟩,.string ⟨#[]⟩,.bool false,.slice none 0 0,.slice none 0 0,.string ⟨#[]⟩,.slice none 0 0,.slice none 0 0,.slice none 0 0,.slice none 0 0,.slice none 0 0,.slice none 0 0] 36)).alloc (.cells #[.bool false] 4)).heap[w.heap.size+1]?=some (.cells #[.int .i64 0,.string ⟨#[]⟩,.string ⟨#[]⟩,.bool false,.slice none 0 0,.slice none 0 0,.string ⟨#[]⟩,.slice none 0 0,.slice none 0 0,.slice none 0 0,.slice none 0 0,.slice none 0 0,.slice none 0 0] 36):=aBo [.cells #[.int .i64 rk,.string rs,.string rn] 24,.cells #[.int .i64 0,.string ⟨#[]⟩,.string ⟨#[]⟩,.bool false,.slice none 0 0,.slice none 0 0,.string ⟨#[]⟩,.slice none 0 0,.slice none 0 0,.slice none 0 0,.slice none 0 0,.slice none 0 0,.slice none 0 0] 36,.cells #[.bool false] 4] w 1 _ rfl
 have hk2:(((w.alloc (.cells #[.int .i64 rk,.string rs,.string rn] 24)).alloc (.cells #[.int .i64 0,.string ⟨#[]⟩,.string ⟨#[]⟩,.bool false,.slice none 0 0,.slice none 0 0,.string ⟨#[]⟩,.slice none 0 0,.slice none 0 0,.slice none 0 0,.slice none 0 0,.slice none 0 0,.slice none 0 0] 36)).alloc (.cells #[.bool false] 4)).heap[w.heap.size+1+1]?=some (.cells #[.bool false] 4):=aBo [.cells #[.int .i64 rk,.string rs,.string rn] 24,.cells #[.int .i64 0,.string ⟨#[]⟩,.string ⟨#[]⟩,.bool false,.slice none 0 0,.slice none 0 0,.string ⟨#[]⟩,.slice none 0 0,.slice none 0 0,.slice none 0 0,.slice none 0 0,.slice none 0 0,.slice none 0 0] 36,.cells #[.bool false] 4] w 2 _ rfl
 have B2:=aBk [bxL (.slice a L.length cap),bxF (.func (.func 28) #[] #[pt w.heap.size])] (((w.alloc (.cells #[.int .i64 rk,.string rs,.string rn] 24)).alloc (.cells #[.int .i64 0,.string ⟨#[]⟩,.string ⟨#[]⟩,.bool false,.slice none 0 0,.slice none 0 0,.string ⟨#[]⟩,.slice none 0 0,.slice none 0 0,.slice none 0 0,.slice none 0 0,.slice none 0 0,.slice none 0 0] 36)).alloc (.cells #[.bool false] 4)) _ (Nat.le_refl _)
 have y3:=aBo [bxL (.slice a L.length cap),bxF (.func (.func 28) #[] #[pt w.heap.size])] (((w.alloc (.cells #[.int .i64 rk,.string rs,.string rn] 24)).alloc (.cells #[.int .i64 0,.string ⟨#[]⟩,.string ⟨#[]⟩,.bool false,.slice none 0 0,.slice none 0 0,.string ⟨#[]⟩,.slice none 0 0,.slice none 0 0,.slice none 0 0,.slice none 0 0,.slice none 0 0,.slice none 0 0] 36)).alloc (.cells #[.bool false] 4)) 0 _ rfl
 have y4:=aBo [bxL (.slice a L.length cap),bxF (.func (.func 28) #[] #[pt w.heap.size])] (((w.alloc (.cells #[.int .i64 rk,.string rs,.string rn] 24)).alloc (.cells #[.int .i64 0,.string ⟨#[]⟩,.string ⟨#[]⟩,.bool false,.slice none 0 0,.slice none 0 0,.string ⟨#[]⟩,.slice none 0 0,.slice none 0 0,.slice none 0 0,.slice none 0 0,.slice none 0 0,.slice none 0 0] 36)).alloc (.cells #[.bool false] 4)) 1 _ rfl
 have hw3:w2=aCz (((w.alloc (.cells #[.int .i64 rk,.string rs,.string rn] 24)).alloc (.cells #[.int .i64 0,.string ⟨#[]⟩,.string ⟨#[]⟩,.bool false,.slice none 0 0,.slice none 0 0,.string ⟨#[]⟩,.slice none 0 0,.slice none 0 0,.slice none 0 0,.slice none 0 0,.slice none 0 0,.slice none 0 0] 36)).alloc (.cells #[.bool false] 4)) [bxL (.slice a L.length cap),bxF (.func (.func 28) #[] #[pt w.heap.size])]:=hw2
 simp only [World.size_alloc] at y3 y4
 rw [←hw3] at B2 y3 y4
 have hN:aEj w w.heap.size ⟨rk,rs,rn⟩ (.slice a L.length cap) w2:=⟨BX.trans (B2.mono (by simp;omega)),aA2 hk0 B2,y3,y4⟩
 have kr2:=aA2 hk1 B2
 have kb2:Boxed w2 (w.heap.size+1+1) 4 (.bool false):=aA2 hk2 B2
 clear hw2 hw3 hk0 hk1 hk2 B2 y3 y4 BX
 gi_wp2_with fail
 refine aDo rfl (by omega) (gf:=51) (lb:=#[pt (w.heap.size+3),pt (w.heap.size+3+1)]) rfl trivial (enters_of Tryz.func51 (by kernel_rfl) rfl)
  (HST.out w.heap.size) rfl
  (fun i W=>aEj w w.heap.size ⟨rk,rs,rn⟩ (.slice a L.length cap) W∧W.heap[w.heap.size+1]?=some (.cells #[.int .i64 0,.string ⟨#[]⟩,.string ⟨#[]⟩,.bool false,.slice none 0 0,.slice none 0 0,.string ⟨#[]⟩,.slice none 0 0,.slice none 0 0,.slice none 0 0,.slice none 0 0,.slice none 0 0,.slice none 0 0] 36)∧Boxed W (w.heap.size+1+1) 4 (.bool false)∧i=0)
  (fun c _ W=>c=.ret∧(∃ y x:OV,F[0]?=some x∧W.heap[w.heap.size+1]?=some (.cells #[.int .i64 y.ref.kind,.string y.ref.space,.string y.ref.name,.bool y.good,.slice y.al y.labels.length y.cl,.slice y.ap y.ports.length y.cp,.string y.cls,.slice y.ai y.lis.length y.ci,.slice y.aq y.pars.length y.cq,.slice y.ah y.hosts.length y.ch,.slice y.ar y.rules.length y.cr,.slice y.af y.frm.length y.cf,.slice y.ao y.tos.length y.co] 36)∧y.b=x.b∧y.own W)∧Boxed W (w.heap.size+1+1) 4 (.bool true)∧Below w.heap.size w W)
  (OwnFrom.and (fun _ _ _ _ h hg hr=>h.own hg (fun r e=>by have:=(hr r e).1;omega) (by omega)) (OwnFrom.and (Own.from (aGr (fun _=>_) (fun _=>_) (fun _=>_)) _) (OwnFrom.and (Own.from (boxed_own _ _ _) _) (fun _ _ _ _ h _ _=>h))))
  (fun c=>OwnFrom.and (fun _ _ _ _ h _ _=>h) (OwnFrom.and (fun _ W W' row ⟨y,x,h1,h2,h3,h4⟩ hg hr=>⟨y,x,h1,(aGr (β:=Unit) (fun _=>_) (fun _=>_) (fun _=>_)) () W W' row h2 hg (fun r e=>(hr r e).2),h3,h4.turn hg (fun r e=>(hr r e).2)⟩) (OwnFrom.and (Own.from (boxed_own _ _ _) _) (ownFrom_below (Nat.le_refl _) (by omega)))))
  (aAk.and (fun _ _ _ h hb=>h.grow hb) (aAk.and (fun _ _ _ h hb=>aA2 h hb) (aAk.and (aAk.boxed _ _ _) (aAk.const _))))
  (fun c=>aAk.and (aAk.const _) (aAk.and (fun _ _ _ ⟨y,x,h1,h2,h3,h4⟩ hb=>⟨y,x,h1,aA2 h2 hb,h3,h4.below hb⟩) (aAk.and (aAk.boxed _ _ _) (aAk.below _ _ (Nat.le_refl _)))))
  (fun _ _ h=>h.1) ⟨hN,kr2,kb2,rfl⟩
  (fun i p=>{ tmps:=#[.slice a L.length cap,rfV ⟨rk,rs,rn⟩,undef,pt w.heap.size,pt (w.heap.size+1),pt (w.heap.size+1+1),(.func (.func 28) #[] #[pt w.heap.size]),pt p,(.func (.func 28) #[] #[pt w.heap.size]),.slice a L.length cap,(.func (.func 28) #[] #[pt w.heap.size]),.func (.func 51) #[] #[pt (w.heap.size+3),pt (w.heap.size+3+1)],aTx F[i]?,undef,undef,undef],defers:=[] }) (OBox F) (OBox.own F _) ?assign ?body ?done ?stop
 case assign =>
  intro l i W hi2 K hK
  have hi3:i<F.length:=by rw [List.length_map] at hi2;exact hi2
  have hx:(F.map oV)[i]=oV F[i]:=List.getElem_map ..
  rw [hx]
  have HF:=hide (List.getElem?_eq_getElem hi3)
  clear hx
  generalize F[i]=x at *
  simp
  gi_wp2
  have hK2:=hK _ _ ((Below.refl _ W).alloc (Nat.le_refl _) _) ⟨x,HF.out,aA7 _ _⟩
  rw [HF.out] at hK2
  exact hK2
 case body =>
  rintro l i p W hi2 ⟨hN,kr,hb,rfl⟩ ⟨x,hx,kb⟩
  have CFR:=hide (HALL.out x (List.mem_of_getElem? hx) W hN.b)
  have HX:=hide hx
  have HNN:=hide hN
  rw [hx]
  obtain ⟨x0,x1,x2,x3,x4,x5,x6,x7,x8,x9,x10,x11,x12⟩:_∧_∧_∧_∧_∧_∧_∧_∧_∧_∧_∧_∧_:=⟨aA0 kb (i:=0) rfl,aA0 kb (i:=1) rfl,aA0 kb (i:=2) rfl,aA0 kb (i:=3) rfl,aA0 kb (i:=4) rfl,aA0 kb (i:=5) rfl,aA0 kb (i:=6) rfl,aA0 kb (i:=7) rfl,aA0 kb (i:=8) rfl,aA0 kb (i:=9) rfl,aA0 kb (i:=10) rfl,aA0 kb (i:=11) rfl,aA0 kb (i:=12) rfl⟩
  clear hN hx hi2 kb
  gi_wp2_with fail
  refine ⟨trivial,(CallsIn.inRound l (callsIn_wide.2 CFR.out)).mono ?_⟩
  rintro e w5 ⟨y,rfl,hy,hyo,hb5⟩
  have k5:=aA2 kr hb5
  have b5:=aGz hb hb5
  have HY:=hide hy
  have lz:=aAl k5
  obtain ⟨z0,z1,z2,z3,z4,z5,z6,z7,z8,z9,z10,z11,z12⟩:_∧_∧_∧_∧_∧_∧_∧_∧_∧_∧_∧_∧_:=⟨aA0 k5 (i:=0) rfl,aA0 k5 (i:=1) rfl,aA0 k5 (i:=2) rfl,aA0 k5 (i:=3) rfl,aA0 k5 (i:=4) rfl,aA0 k5 (i:=5) rfl,aA0 k5 (i:=6) rfl,aA0 k5 (i:=7) rfl,aA0 k5 (i:=8) rfl,aA0 k5 (i:=9) rfl,aA0 k5 (i:=10) rfl,aA0 k5 (i:=11) rfl,aA0 k5 (i:=12) rfl⟩
  have q5:(((((((((((((w5.setCell ⟨w.heap.size+1,0,none⟩ (.int .i64 y.ref.kind)).setCell ⟨w.heap.size+1,1,none⟩ (.string y.ref.space)).setCell ⟨w.heap.size+1,2,none⟩ (.string y.ref.name)).setCell ⟨w.heap.size+1,3,none⟩ (.bool y.good)).setCell ⟨w.heap.size+1,4,none⟩ (.slice y.al y.labels.length y.cl)).setCell ⟨w.heap.size+1,5,none⟩ (.slice y.ap y.ports.length y.cp)).setCell ⟨w.heap.size+1,6,none⟩ (.string y.cls)).setCell ⟨w.heap.size+1,7,none⟩ (.slice y.ai y.lis.length y.ci)).setCell ⟨w.heap.size+1,8,none⟩ (.slice y.aq y.pars.length y.cq)).setCell ⟨w.heap.size+1,9,none⟩ (.slice y.ah y.hosts.length y.ch)).setCell ⟨w.heap.size+1,10,none⟩ (.slice y.ar y.rules.length y.cr)).setCell ⟨w.heap.size+1,11,none⟩ (.slice y.af y.frm.length y.cf)).setCell ⟨w.heap.size+1,12,none⟩ (.slice y.ao y.tos.length y.co)).heap[w.heap.size+1+1]?=some (.cells #[.bool false] 4):=(aCf (show w.heap.size+1+1≠w.heap.size+1 by omega) [.int .i64 y.ref.kind,.string y.ref.space,.string y.ref.name,.bool y.good,.slice y.al y.labels.length y.cl,.slice y.ap y.ports.length y.cp,.string y.cls,.slice y.ai y.lis.length y.ci,.slice y.aq y.pars.length y.cq,.slice y.ah y.hosts.length y.ch,.slice y.ar y.rules.length y.cr,.slice y.af y.frm.length y.cf,.slice y.ao y.tos.length y.co] w5 0).trans b5
  have hc5:=aA0 q5 (i:=0) rfl
  have hl5:=aAl q5
  have K6:=hide (show (setL w5 (w.heap.size+1) 0 [.int .i64 y.ref.kind,.string y.ref.space,.string y.ref.name,.bool y.good,.slice y.al y.labels.length y.cl,.slice y.ap y.ports.length y.cp,.string y.cls,.slice y.ai y.lis.length y.ci,.slice y.aq y.pars.length y.cq,.slice y.ah y.hosts.length y.ch,.slice y.ar y.rules.length y.cr,.slice y.af y.frm.length y.cf,.slice y.ao y.tos.length y.co]).heap[w.heap.size+1]?=_ from aB2 [.int .i64 y.ref.kind,.string y.ref.space,.string y.ref.name,.bool y.good,.slice y.al y.labels.length y.cl,.slice y.ap y.ports.length y.cp,.string y.cls,.slice y.ai y.lis.length y.ci,.slice y.aq y.pars.length y.cq,.slice y.ah y.hosts.length y.ch,.slice y.ar y.rules.length y.cr,.slice y.af y.frm.length y.cf,.slice y.ao y.tos.length y.co] k5 rfl)
  have O6:=hide (hyo.bx ((BX.refl (w.heap.size+1) w5.heap.size w5).setL 0 [.int .i64 y.ref.kind,.string y.ref.space,.string y.ref.name,.bool y.good,.slice y.al y.labels.length y.cl,.slice y.ap y.ports.length y.cp,.string y.cls,.slice y.ai y.lis.length y.ci,.slice y.aq y.pars.length y.cq,.slice y.ah y.hosts.length y.ch,.slice y.ar y.rules.length y.cr,.slice y.af y.frm.length y.cf,.slice y.ao y.tos.length y.co]) k5)
  have Q5:=hide q5
  have HB5:=hide hb5
  clear x0 x1 x2 x3 x4 x5 x6 x7 x8 x9 x10 x11 x12 hy hyo k5 b5 q5 hb5 kr
  gi_wp2_with fail
  change aEz _ _ _ _ _ _ ((setL w5 (w.heap.size+1) 0 [.int .i64 y.ref.kind,.string y.ref.space,.string y.ref.name,.bool y.good,.slice y.al y.labels.length y.cl,.slice y.ap y.ports.length y.cp,.string y.cls,.slice y.ai y.lis.length y.ci,.slice y.aq y.pars.length y.cq,.slice y.ah y.hosts.length y.ch,.slice y.ar y.rules.length y.cr,.slice y.af y.frm.length y.cf,.slice y.ao y.tos.length y.co]).setCell ⟨w.heap.size+1+1,0,none⟩ (.bool true))
  have S6:=aAh (w:=w) (B:=w.heap.size) (g:=w.heap.size+1) (Nat.le_succ _) [.int .i64 y.ref.kind,.string y.ref.space,.string y.ref.name,.bool y.good,.slice y.al y.labels.length y.cl,.slice y.ap y.ports.length y.cp,.string y.cls,.slice y.ai y.lis.length y.ci,.slice y.aq y.pars.length y.cq,.slice y.ah y.hosts.length y.ch,.slice y.ar y.rules.length y.cr,.slice y.af y.frm.length y.cf,.slice y.ao y.tos.length y.co] w5 0 (HNN.out.b.trans (HB5.out.mono HNN.out.b.size))
  have KO6:=aGd (w.heap.size+1) [.int .i64 y.ref.kind,.string y.ref.space,.string y.ref.name,.bool y.good,.slice y.al y.labels.length y.cl,.slice y.ap y.ports.length y.cp,.string y.cls,.slice y.ai y.lis.length y.ci,.slice y.aq y.pars.length y.cq,.slice y.ah y.hosts.length y.ch,.slice y.ar y.rules.length y.cr,.slice y.af y.frm.length y.cf,.slice y.ao y.tos.length y.co] w5 0
  have k6:=K6.out
  have o6:=O6.out
  have qq5:(setL w5 (w.heap.size+1) 0 [.int .i64 y.ref.kind,.string y.ref.space,.string y.ref.name,.bool y.good,.slice y.al y.labels.length y.cl,.slice y.ap y.ports.length y.cp,.string y.cls,.slice y.ai y.lis.length y.ci,.slice y.aq y.pars.length y.cq,.slice y.ah y.hosts.length y.ch,.slice y.ar y.rules.length y.cr,.slice y.af y.frm.length y.cf,.slice y.ao y.tos.length y.co]).heap[w.heap.size+1+1]?=some (.cells #[.bool false] 4):=Q5.out
  clear K6 O6 Q5 z0 z1 z2 z3 z4 z5 z6 z7 z8 z9 z10 z11 z12 lz hc5 hl5
  generalize setL w5 (w.heap.size+1) 0 [.int .i64 y.ref.kind,.string y.ref.space,.string y.ref.name,.bool y.good,.slice y.al y.labels.length y.cl,.slice y.ap y.ports.length y.cp,.string y.cls,.slice y.ai y.lis.length y.ci,.slice y.aq y.pars.length y.cq,.slice y.ah y.hosts.length y.ch,.slice y.ar y.rules.length y.cr,.slice y.af y.frm.length y.cf,.slice y.ao y.tos.length y.co]=W6 at *
  refine ⟨((aMc HB5.out).trans KO6).trans (KeepsOthers.setCell _ _ _),rfl,⟨y,x,(by first | exact HX.out | rfl),(Below.heap_setCell _ _ _ _ (by show w.heap.size+1≠w.heap.size+1+1;omega)).trans k6,HY.out,?_⟩,Boxed.set _ (qq5:Boxed W6 _ 4 (.bool false)),S6.setCell (p:=⟨w.heap.size+1+1,0,none⟩) (by show _≤w.heap.size+1+1;omega) _⟩
  exact o6.bxt ((BX.refl (w.heap.size+1+1) W6.heap.size W6).setL 0 [.bool true]) qq5 (by decide)
 case done =>
  rintro D W hD ⟨hN,kr,hb,h0⟩ hK
  have hF:F=[]:=by rw [List.length_map] at h0;exact List.eq_nil_of_length_eq_zero h0
  have HF:=hide hF
  have HNN:=hide hN
  have lz:=aAl kr
  obtain ⟨z0,z1,z2,z3,z4,z5,z6,z7,z8,z9,z10,z11,z12⟩:_∧_∧_∧_∧_∧_∧_∧_∧_∧_∧_∧_∧_:=⟨aA0 kr (i:=0) rfl,aA0 kr (i:=1) rfl,aA0 kr (i:=2) rfl,aA0 kr (i:=3) rfl,aA0 kr (i:=4) rfl,aA0 kr (i:=5) rfl,aA0 kr (i:=6) rfl,aA0 kr (i:=7) rfl,aA0 kr (i:=8) rfl,aA0 kr (i:=9) rfl,aA0 kr (i:=10) rfl,aA0 kr (i:=11) rfl,aA0 kr (i:=12) rfl⟩
  have q5:(((((((((((((W.setCell ⟨w.heap.size+1,0,none⟩ (.int .i64 0)).setCell ⟨w.heap.size+1,1,none⟩ (.string ⟨#[]⟩)).setCell ⟨w.heap.size+1,2,none⟩ (.string ⟨#[]⟩)).setCell ⟨w.heap.size+1,3,none⟩ (.bool false)).setCell ⟨w.heap.size+1,4,none⟩ (.slice none 0 0)).setCell ⟨w.heap.size+1,5,none⟩ (.slice none 0 0)).setCell ⟨w.heap.size+1,6,none⟩ (.string ⟨#[]⟩)).setCell ⟨w.heap.size+1,7,none⟩ (.slice none 0 0)).setCell ⟨w.heap.size+1,8,none⟩ (.slice none 0 0)).setCell ⟨w.heap.size+1,9,none⟩ (.slice none 0 0)).setCell ⟨w.heap.size+1,10,none⟩ (.slice none 0 0)).setCell ⟨w.heap.size+1,11,none⟩ (.slice none 0 0)).setCell ⟨w.heap.size+1,12,none⟩ (.slice none 0 0)).heap[w.heap.size+1+1]?=some (.cells #[.bool false] 4):=(aCf (show w.heap.size+1+1≠w.heap.size+1 by omega) [.int .i64 0,.string ⟨#[]⟩,.string ⟨#[]⟩,.bool false,.slice none 0 0,.slice none 0 0,.string ⟨#[]⟩,.slice none 0 0,.slice none 0 0,.slice none 0 0,.slice none 0 0,.slice none 0 0,.slice none 0 0] W 0).trans hb
  have hc5:=aA0 q5 (i:=0) rfl
  have hl5:=aAl q5
  have K6:=hide (aB2 [.int .i64 0,.string ⟨#[]⟩,.string ⟨#[]⟩,.bool false,.slice none 0 0,.slice none 0 0,.string ⟨#[]⟩,.slice none 0 0,.slice none 0 0,.slice none 0 0,.slice none 0 0,.slice none 0 0,.slice none 0 0] kr rfl)
  have Q5:=hide q5
  clear hN h0 hF kr hb q5
  gi_wp2_with fail
  have S6:=aAh (w:=w) (B:=w.heap.size) (g:=w.heap.size+1) (Nat.le_succ _) [.int .i64 0,.string ⟨#[]⟩,.string ⟨#[]⟩,.bool false,.slice none 0 0,.slice none 0 0,.string ⟨#[]⟩,.slice none 0 0,.slice none 0 0,.slice none 0 0,.slice none 0 0,.slice none 0 0,.slice none 0 0] W 0 HNN.out.b
  have KO6:=aGd (w.heap.size+1) [.int .i64 0,.string ⟨#[]⟩,.string ⟨#[]⟩,.bool false,.slice none 0 0,.slice none 0 0,.string ⟨#[]⟩,.slice none 0 0,.slice none 0 0,.slice none 0 0,.slice none 0 0,.slice none 0 0,.slice none 0 0] W 0
  have k6:=K6.out
  have qq5:(setL W (w.heap.size+1) 0 [.int .i64 0,.string ⟨#[]⟩,.string ⟨#[]⟩,.bool false,.slice none 0 0,.slice none 0 0,.string ⟨#[]⟩,.slice none 0 0,.slice none 0 0,.slice none 0 0,.slice none 0 0,.slice none 0 0,.slice none 0 0]).heap[w.heap.size+1+1]?=some (.cells #[.bool false] 4):=Q5.out
  clear K6 Q5 z0 z1 z2 z3 z4 z5 z6 z7 z8 z9 z10 z11 z12 lz hc5 hl5
  change bodyPostM _ _ _ _ _ _ _ ((setL W (w.heap.size+1) 0 [.int .i64 0,.string ⟨#[]⟩,.string ⟨#[]⟩,.bool false,.slice none 0 0,.slice none 0 0,.string ⟨#[]⟩,.slice none 0 0,.slice none 0 0,.slice none 0 0,.slice none 0 0,.slice none 0 0,.slice none 0 0]).setCell ⟨w.heap.size+1+1,0,none⟩ (.bool false))
  generalize setL W (w.heap.size+1) 0 [.int .i64 0,.string ⟨#[]⟩,.string ⟨#[]⟩,.bool false,.slice none 0 0,.slice none 0 0,.string ⟨#[]⟩,.slice none 0 0,.slice none 0 0,.slice none 0 0,.slice none 0 0,.slice none 0 0,.slice none 0 0]=W6 at *
  have hK':=(KO6.trans (KeepsOthers.setCell W6 ⟨w.heap.size+1+1,0,none⟩ (.bool false))).same D _ hK rfl
  have k7:(W6.setCell ⟨w.heap.size+1+1,0,none⟩ (.bool false)).heap[w.heap.size+1]?=some (.cells #[.int .i64 0,.string ⟨#[]⟩,.string ⟨#[]⟩,.bool false,.slice none 0 0,.slice none 0 0,.string ⟨#[]⟩,.slice none 0 0,.slice none 0 0,.slice none 0 0,.slice none 0 0,.slice none 0 0,.slice none 0 0] 36):=(Below.heap_setCell _ _ _ _ (by show w.heap.size+1≠w.heap.size+1+1;omega)).trans k6
  have q7:Boxed (W6.setCell ⟨w.heap.size+1+1,0,none⟩ (.bool false)) (w.heap.size+1+1) 4 (.bool false):=Boxed.set _ (qq5:Boxed W6 _ 4 (.bool false))
  have S7:=S6.setCell (p:=⟨w.heap.size+1+1,0,none⟩) (by show _≤w.heap.size+1+1;omega) (.bool false)
  generalize W6.setCell ⟨w.heap.size+1+1,0,none⟩ (.bool false)=W7 at *
  have hne:w.heap.size+1≠D:=by omega
  have hne2:w.heap.size+1+1≠D:=by omega
  refine ⟨by simp,.inl ⟨_,_,rfl,run_takeDeferred hK',?_⟩⟩
  have k8:=(World.putObj_heap_other (w:=W7) (o:=.deferred none) hne).trans k7
  have q8:=(World.putObj_heap_other (w:=W7) (o:=.deferred none) hne2).trans q7
  obtain ⟨e0,e1,e2,e3,e4,e5,e6,e7,e8,e9,e10,e11,e12⟩:_∧_∧_∧_∧_∧_∧_∧_∧_∧_∧_∧_∧_:=⟨aA0 k8 (i:=0) rfl,aA0 k8 (i:=1) rfl,aA0 k8 (i:=2) rfl,aA0 k8 (i:=3) rfl,aA0 k8 (i:=4) rfl,aA0 k8 (i:=5) rfl,aA0 k8 (i:=6) rfl,aA0 k8 (i:=7) rfl,aA0 k8 (i:=8) rfl,aA0 k8 (i:=9) rfl,aA0 k8 (i:=10) rfl,aA0 k8 (i:=11) rfl,aA0 k8 (i:=12) rfl⟩
  have e13:=aA0 q8 (i:=0) rfl
  refine ⟨.tuple #[oV zOV,.bool false],?_,zOV,?_,?_,aRy _,S7.trans (belowK_b (w:=w) (Nat.le_refl _) W7 D _ _ (by omega) hK' rfl rfl)⟩
  ·simp [results,Tryz.f10,go_sem,e0,e1,e2,e3,e4,e5,e6,e7,e8,e9,e10,e11,e12,e13]
  ·rw [HF.out]
   rfl
  ·rw [HF.out]
   rfl
 case stop =>
  rintro D c i W hD hi2 ⟨rfl,⟨y,x,hx,ky,hy,hyo⟩,hb,hB⟩ hK
  have HF:=hide hx
  have HY:=hide hy
  have HO:=hide hyo
  have hne:w.heap.size+1≠D:=by omega
  have hne2:w.heap.size+1+1≠D:=by omega
  have k7:(W.putObj D (.deferred none)).heap[w.heap.size+1]?=_:=(World.putObj_heap_other hne).trans ky
  have q7:(W.putObj D (.deferred none)).heap[w.heap.size+1+1]?=_:=(World.putObj_heap_other hne2).trans hb
  have K7:=hide k7
  have Q7:=hide q7
  clear hx hy hyo ky hb k7 q7
  gi_wp2_with fail
  refine ⟨by simp,.inl ⟨_,_,rfl,run_takeDeferred hK,?_⟩⟩
  obtain ⟨e0,e1,e2,e3,e4,e5,e6,e7,e8,e9,e10,e11,e12⟩:_∧_∧_∧_∧_∧_∧_∧_∧_∧_∧_∧_∧_:=⟨aA0 K7.out (i:=0) rfl,aA0 K7.out (i:=1) rfl,aA0 K7.out (i:=2) rfl,aA0 K7.out (i:=3) rfl,aA0 K7.out (i:=4) rfl,aA0 K7.out (i:=5) rfl,aA0 K7.out (i:=6) rfl,aA0 K7.out (i:=7) rfl,aA0 K7.out (i:=8) rfl,aA0 K7.out (i:=9) rfl,aA0 K7.out (i:=10) rfl,aA0 K7.out (i:=11) rfl,aA0 K7.out (i:=12) rfl⟩
  have e13:=aA0 Q7.out (i:=0) rfl
  refine ⟨.tuple #[oV y,.bool true],?_,y,?_,?_,(HO.out.turn (grownBy_putObj' _ _ _) (fun r e=>by cases e;exact ⟨_,hK,rfl⟩)).at_,hB.trans (belowK_b (w:=w) (Nat.le_refl _) W D _ _ (by omega) hK rfl rfl)⟩
  ·simp [results,Tryz.f10,go_sem,e0,e1,e2,e3,e4,e5,e6,e7,e8,e9,e10,e11,e12,e13]
  ·rw [List.head?_eq_getElem?,HF.out]
   rfl
  ·rw [List.head?_eq_getElem?,HF.out]
   exact HY.out
end Go.Proofs.YthnodpdiocppgaaGreatDoor
namespace Go.Proofs.YthnodpdiocppgaaGreatDoor
open Go Go.RowKit Go.Shelf
theorem aH1 (r:RfB) (sp:ByteArray) (w:World) :
  Calls Tryz.prog 13 #[rfV r,.string sp] w fun e w'=>e=.returned (rfV (Ob.near sp r))∧Below w.heap.size w w':=by
 obtain ⟨k,s,n⟩:=r
 have B2:=hide (((Below.refl w.heap.size w).alloc (Nat.le_refl _) (.cells #[.int .i64 k,.string s,.string n] 24)).alloc (by simp) (.cells #[.int .i64 k,.string s,.string n] 24))
 have B3:=hide (((Below.refl w.heap.size w).alloc (Nat.le_refl _) (.cells #[.int .i64 k,.string sp,.string n] 24)).alloc (by simp) (.cells #[.int .i64 k,.string sp,.string n] 24))
 have HN:Hid (Ob.near sp ⟨k,s,n⟩=if (s.toList.isEmpty&&(decide (k≠1)&&decide (k≠2))) then ⟨k,sp,n⟩ else ⟨k,s,n⟩):=by
  unfold Hid Ob.near
  rw [aBs]
 have ret:∀ q,Ob.near sp ⟨k,s,n⟩=q→Ending.returned (rfV q)=Ending.returned (rfV (Ob.near sp ⟨k,s,n⟩)):=fun q h=>by rw [h]
 have HRET:=hide ret
 clear ret
 by_cases h1:k=1
 ·subst h1
  have HE:Hid (Ob.near sp ⟨1,s,n⟩=⟨1,s,n⟩):=by rw [HN.out];simp [Hid]
  clear HN
  cases he:s.toList.isEmpty
  all_goals
   go_enter Tryz.func13,Tryz.ntmps13
   go_wp2_with fail
   refine bodyPost_ret (v:=.agg #[.int .i64 1,.string s,.string n]) (by simp [results,Tryz.f13,go_sem]) rfl ⟨HRET.out _ HE.out,?_⟩
   exact B2.out
 ·have h1b:(k == 1)=false:=by simpa using h1
  have h1c:(k != 1)=true:=by simpa using h1
  by_cases h2:k=2
  ·subst h2
   have HE:Hid (Ob.near sp ⟨2,s,n⟩=⟨2,s,n⟩):=by rw [HN.out];simp [Hid]
   clear HN h1
   cases he:s.toList.isEmpty
   all_goals
    go_enter Tryz.func13,Tryz.ntmps13
    go_wp2_with fail
    refine bodyPost_ret (v:=.agg #[.int .i64 2,.string s,.string n]) (by simp [results,Tryz.f13,go_sem]) rfl ⟨HRET.out _ HE.out,?_⟩
    exact B2.out
  ·have h2b:(k == 2)=false:=by simpa using h2
   have h2c:(k != 2)=true:=by simpa using h2
   cases he:s.toList.isEmpty
   ·have HE:Hid (Ob.near sp ⟨k,s,n⟩=⟨k,s,n⟩):=by rw [HN.out,he];simp [Hid]
    clear HN h1 h2
    go_enter Tryz.func13,Tryz.ntmps13
    go_wp2_with fail
    refine bodyPost_ret (v:=.agg #[.int .i64 k,.string s,.string n]) (by simp [results,Tryz.f13,go_sem]) rfl ⟨HRET.out _ HE.out,?_⟩
    exact B2.out
   ·have HE:Hid (Ob.near sp ⟨k,s,n⟩=⟨k,sp,n⟩):=by rw [HN.out,he];simp [Hid,h1,h2]
    clear HN h1 h2
    go_enter Tryz.func13,Tryz.ntmps13
    go_wp2_with fail
    refine bodyPost_ret (v:=.agg #[.int .i64 k,.string sp,.string n]) (by simp [results,Tryz.f13,go_sem]) rfl ⟨HRET.out _ HE.out,?_⟩
    exact B3.out
theorem aPj (r:RfB) (sp:ByteArray) (w:World) :
  Calls Tryz.prog 14 #[rfV r,.string sp] w fun e w'=>e=.returned (rfV (Ob.near sp r))∧Below w.heap.size w w':=by
 obtain ⟨k,s,n⟩:=r
 have B2:=hide (((Below.refl w.heap.size w).alloc (Nat.le_refl _) (.cells #[.int .i64 k,.string s,.string n] 24)).alloc (by simp) (.cells #[.int .i64 k,.string s,.string n] 24))
 have B3:=hide (((Below.refl w.heap.size w).alloc (Nat.le_refl _) (.cells #[.int .i64 k,.string sp,.string n] 24)).alloc (by simp) (.cells #[.int .i64 k,.string sp,.string n] 24))
 have HN:Hid (Ob.near sp ⟨k,s,n⟩=if (s.toList.isEmpty&&(decide (k≠1)&&decide (k≠2))) then ⟨k,sp,n⟩ else ⟨k,s,n⟩):=by
  unfold Hid Ob.near
  rw [aBs]
 have ret:∀ q,Ob.near sp ⟨k,s,n⟩=q→Ending.returned (rfV q)=Ending.returned (rfV (Ob.near sp ⟨k,s,n⟩)):=fun q h=>by rw [h]
 have HRET:=hide ret
 clear ret
 by_cases h1:k=1
 ·subst h1
  have HE:Hid (Ob.near sp ⟨1,s,n⟩=⟨1,s,n⟩):=by rw [HN.out];simp [Hid]
  clear HN
  cases he:s.toList.isEmpty
  all_goals
   go_enter Tryz.func14,Tryz.ntmps14
   go_wp2_with fail
   refine bodyPost_ret (v:=.agg #[.int .i64 1,.string s,.string n]) (by simp [results,Tryz.f14,go_sem]) rfl ⟨HRET.out _ HE.out,?_⟩
   exact B2.out
 ·have h1b:(k == 1)=false:=by simpa using h1
  have h1c:(k != 1)=true:=by simpa using h1
  by_cases h2:k=2
  ·subst h2
   have HE:Hid (Ob.near sp ⟨2,s,n⟩=⟨2,s,n⟩):=by rw [HN.out];simp [Hid]
   clear HN h1
   cases he:s.toList.isEmpty
   all_goals
    go_enter Tryz.func14,Tryz.ntmps14
    go_wp2_with fail
    refine bodyPost_ret (v:=.agg #[.int .i64 2,.string s,.string n]) (by simp [results,Tryz.f14,go_sem]) rfl ⟨HRET.out _ HE.out,?_⟩
    exact B2.out
  ·have h2b:(k == 2)=false:=by simpa using h2
   have h2c:(k != 2)=true:=by simpa using h2
   cases he:s.toList.isEmpty
   ·have HE:Hid (Ob.near sp ⟨k,s,n⟩=⟨k,s,n⟩):=by rw [HN.out,he];simp [Hid]
    clear HN h1 h2
    go_enter Tryz.func14,Tryz.ntmps14
    go_wp2_with fail
    refine bodyPost_ret (v:=.agg #[.int .i64 k,.string s,.string n]) (by simp [results,Tryz.f14,go_sem]) rfl ⟨HRET.out _ HE.out,?_⟩
    exact B2.out
   ·have HE:Hid (Ob.near sp ⟨k,s,n⟩=⟨k,sp,n⟩):=by rw [HN.out,he];simp [Hid,h1,h2]
    clear HN h1 h2
    go_enter Tryz.func14,Tryz.ntmps14
    go_wp2_with fail
    refine bodyPost_ret (v:=.agg #[.int .i64 k,.string sp,.string n]) (by simp [results,Tryz.f14,go_sem]) rfl ⟨HRET.out _ HE.out,?_⟩
    exact B3.out
end Go.Proofs.YthnodpdiocppgaaGreatDoor
