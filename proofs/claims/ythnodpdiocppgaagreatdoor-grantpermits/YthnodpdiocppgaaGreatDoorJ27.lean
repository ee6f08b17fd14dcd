/-
  Walks: slices.Index, slices.Contains (at sides), names, Lets.
-/
import Derived.Test.YthnodpdiocppgaaGreatDoorJ13
import Derived.Test.YthnodpdiocppgaaGreatDoorJ15
import Derived.Test.YthnodpdiocppgaaGreatDoorJ14
import Derived.Test.YthnodpdiocppgaaGreatDoorJ23
import Derived.Test.YthnodpdiocppgaaGreatDoorJ4
import Derived.Test.YthnodpdiocppgaaGreatDoorJ26
import Derived.Shelf.Abstract
import Derived.Shelf.RegionOpen
import Derived.OwnWalkIn
import Derived.TacticsInMore
import Derived.LoopNIn
import Derived.LoopIn
import Derived.Test.YthnodpdiocppgaaGreatDoorJ16
set_option maxHeartbeats 6400000
set_option linter.unusedVariables false
set_option maxRecDepth 20000
namespace Go.Proofs.YthnodpdiocppgaaGreatDoor
open Go Go.RowKit Go.Shelf
theorem aTd (va:Value) (l:List RfB) (r:RfB) (w:World) (hv:Sl ER w va l) :
  Calls Tryz.prog 64 #[va,rfV r] w fun e w'=>e=.returned (.int .i64 (idxG (Ob.eqR r) l))∧Below w.heap.size w w':=by
 have hlen:=hv.len
 obtain ⟨a,cap,rfl⟩:=hv.form
 have HC:=hide (fun W (hB:Below w.heap.size w W) k (hk:k<l.length)=>oneD hv hB hk)
 clear hv
 obtain ⟨X,hX⟩:∃ z,z=w.alloc (.cells #[.int .i64 r.kind,.string r.space,.string r.name] 53):=⟨_,rfl⟩
 have B1:Below w.heap.size w X:=by rw [hX];exact (Below.refl _ _).alloc (Nat.le_refl _) _
 have K0:X.heap[w.heap.size]?=some (.cells #[.int .i64 r.kind,.string r.space,.string r.name] 53):=by rw [hX];exact aA7 _ _
 have HB1:=hide B1
 have HK0:=hide K0
 clear B1 K0
 go_enter Tryz.func64,Tryz.ntmps64
 go_wp2_with fail
 go_loopw [8] (fun i wr=>∃ k:Nat,k≤l.length∧i=.int .i64 k∧Hid (∀ j (h:j<l.length),j<k→Ob.eqR r l[j]=false)∧Below X.heap.size X wr) (fun i _=>l.length - (intOf i).toNat)
 case atStart=>exact ⟨0,Nat.zero_le _,rfl,fun j h hj=>absurd hj (by omega),by rw [hX];exact Below.refl _ _⟩
 case round =>
  clear hX
  obtain ⟨k,hk,rfl,hno,hB⟩:=hrel
  have hBw:=hide (bb2 HB1.out hB)
  have kb:=aA2 HK0.out hB
  have z0:=aA0 kb (i:=0) rfl
  have z1:=aA0 kb (i:=1) rfl
  have z2:=aA0 kb (i:=2) rfl
  clear kb
  by_cases hlt:k<l.length
  ·have hlt':(k:Int)<(l.length:Int):=by omega
   obtain ⟨hA,gg,off,rfl,hgg,c0,c1,c2⟩:=HC.out _ hBw.out k hlt
   clear hA
   have HN:Hid (Ob.eqR r l[k]=false→∀ j (h:j<l.length),j<k+1→Ob.eqR r l[j]=false):=fun h j h1 hj=>by
    rcases Nat.lt_or_ge j k with h2 | h2
    ·exact hno.out j h1 h2
    ·obtain rfl:j=k:=by omega
     exact h
   have HI:Hid (Ob.eqR r l[k]=true→(k:Int)=idxG (Ob.eqR r) l):=fun h=>(aBw hlt hno.out h).symm
   generalize l[k]=y at *
   have HQ:Hid (∀ W,(Op.equalIn 10000 53 (rfV r) (rfV y)).run Tryz.prog W=.ok (Ob.eqR r y) W):=by
    intro W
    rw [aIu _ _ _ _ _ _ W]
    unfold Ob.eqR
    simp only [aB3]
   cases hq:Ob.eqR r y
   ·have EQF:=HQ.out
    have hn:=hide (HN.out hq)
    rw [hq] at EQF
    clear hq HQ HN HI
    go_wp2_with fail
    go_region
    go_wp2_with fail
    exact ⟨⟨k+1,by omega,by go_num,hn.out,hB.drew⟩,by simp [intOf];omega⟩
   ·have EQF:=HQ.out
    have hn:=hide (HI.out hq)
    rw [hq] at EQF
    clear hq HQ HN HI
    go_wp2_with fail
    go_region
    go_wp2_with fail
    go_ret
    exact ⟨aAp hn.out,hBw.out.drew⟩
  ·have hlt':¬ (k:Int)<(l.length:Int):=by omega
   have HI:Hid (-1=idxG (Ob.eqR r) l):=(aC6 (fun j h=>hno.out j h (by omega))).symm
   go_wp2_with fail
   go_ret
   exact ⟨aAp HI.out,hBw.out⟩
theorem aM5 (va:Value) (l:List RfB) (r:RfB) (w:World) (hv:Sl ER w va l) :
  Calls Tryz.prog 36 #[va,rfV r] w fun e w'=>e=.returned (.bool (l.any (Ob.eqR r)))∧Below w.heap.size w w':=by
 have HE:=hide (aC7 (Ob.eqR r) l)
 have B1:Below w.heap.size w (w.alloc (.cells #[.int .i64 r.kind,.string r.space,.string r.name] 53)):=(Below.refl _ _).alloc (Nat.le_refl _) _
 have C1:=hide (aTd va l r _ (hv.below B1))
 have HB1:=hide B1
 clear hv B1
 go_enter Tryz.func36,Tryz.ntmps36
 go_wp2_with fail
 refine (C1.out).mono ?_
 rintro e w1 ⟨rfl,hb1⟩
 go_wp2_with fail
 go_ret
 exact ⟨aA1 HE.out,bb2 HB1.out hb1⟩
theorem aPf {o:OB} (hk:o.ref.kind=7) (hm:Ob.mayO o=true) (k:Int) (sp:ByteArray) (t:RfB) :
  (o.frm.any (Ob.eqR ⟨k,sp,Ob.nil⟩)=o.frm.any (Gr.frmS k sp))∧((o.tos.any (Ob.eqR ⟨t.kind,Ob.nil,Ob.nil⟩)||o.tos.any (Ob.eqR ⟨t.kind,Ob.nil,t.name⟩))=o.tos.any (Gr.toS t)):=by
 have hg:=Ob.may7 hm (by omega) (by omega) (by omega) (by omega) (by omega) (by omega)
 unfold Ob.mayGr at hg
 rw [Bool.and_eq_true,Bool.and_eq_true] at hg
 have hf:=(Ob.cnt_iff.1 hg.2.1).2.2
 have ht:=(Ob.cnt_iff.1 hg.2.2).2.2
 constructor
 ·rw [Bool.eq_iff_iff,List.any_eq_true,List.any_eq_true]
  refine exists_congr fun s=>and_congr_right fun hs=>?_
  have hn:=hf s hs
  unfold Ob.mayFr at hn
  rw [Bool.and_eq_true,Bool.and_eq_true] at hn
  have hn2:=Ob.e0_iff.1 hn.2.2
  unfold Ob.eqR Gr.frmS
  rw [hn2]
  simp only [decide_eq_true_eq,Bool.and_eq_true,and_true]
  exact ⟨fun ⟨a,b⟩=>⟨a.symm,b.symm⟩,fun ⟨a,b⟩=>⟨a.symm,b.symm⟩⟩
 ·rw [Bool.eq_iff_iff,Bool.or_eq_true,List.any_eq_true,List.any_eq_true,List.any_eq_true,←exists_or]
  refine exists_congr fun s=>?_
  rw [←and_or_left]
  refine and_congr_right fun hs=>?_
  have hn:=ht s hs
  unfold Ob.mayTo at hn
  rw [Bool.and_eq_true,Bool.and_eq_true] at hn
  have hn2:=Ob.e0_iff.1 hn.2.1
  unfold Ob.eqR Gr.toS
  rw [hn2]
  simp only [decide_eq_true_eq,Bool.and_eq_true,Bool.or_eq_true,Ob.e0_iff,true_and]
  constructor
  ·rintro (⟨a,b⟩ | ⟨a,b⟩)
   ·exact ⟨a.symm,.inl b.symm⟩
   ·exact ⟨a.symm,.inr b.symm⟩
  ·rintro ⟨a,b | b⟩
   ·exact .inl ⟨a.symm,b.symm⟩
   ·exact .inr ⟨a.symm,b.symm⟩
theorem aPg (va:Value) (l:List RfB) (t:RfB) (w:World) (hv:Sl ER w va l) :
  Calls Tryz.prog 37 #[va,rfV t] w fun e w'=>e=.returned (.bool (l.any (Ob.eqR ⟨t.kind,Ob.nil,Ob.nil⟩)||l.any (Ob.eqR ⟨t.kind,Ob.nil,t.name⟩)))∧Below w.heap.size w w':=by
 obtain ⟨tk,ts,tn⟩:=t
 obtain ⟨X,hX⟩:∃ z,z=((w.alloc (.cells #[.int .i64 tk,.string ts,.string tn] 24)).alloc (.cells #[.int .i64 tk,.string ⟨#[]⟩,.string ⟨#[]⟩] 53)).alloc (.cells #[.int .i64 tk,.string ⟨#[]⟩,.string tn] 53):=⟨_,rfl⟩
 have B1:Below w.heap.size w X:=by rw [hX];exact (((Below.refl _ _).alloc (Nat.le_refl _) _).alloc (by simp) _).alloc (by simp;omega) _
 have K2:X.heap[w.heap.size+1+1]?=some (.cells #[.int .i64 tk,.string ⟨#[]⟩,.string tn] 53):=by
  rw [hX]
  have:=aA7 ((w.alloc (.cells #[.int .i64 tk,.string ts,.string tn] 24)).alloc (.cells #[.int .i64 tk,.string ⟨#[]⟩,.string ⟨#[]⟩] 53)) (.cells #[.int .i64 tk,.string ⟨#[]⟩,.string tn] 53)
  simpa using this
 have C1:=fun W (h:Below X.heap.size X W) r=>hide (aM5 va l r W (hv.below (bb2 B1 h)))
 have c0:=fun q:GB X=>aA0 (aA2 K2 q.h) (i:=0) rfl
 have c1:=fun q:GB X=>aA0 (aA2 K2 q.h) (i:=1) rfl
 have c2:=fun q:GB X=>aA0 (aA2 K2 q.h) (i:=2) rfl
 have HB1:=hide B1
 dsimp only
 cases h1:l.any (Ob.eqR ⟨tk,Ob.nil,Ob.nil⟩)
 ·have H1:=hide h1
  clear hv B1 K2 h1
  go_enter Tryz.func37,Tryz.ntmps37
  go_wp2_with fail
  rw [←hX]
  clear hX
  refine (aA5 ((C1 _ (Below.refl _ _) ⟨tk,Ob.nil,Ob.nil⟩).out)).mono ?_
  rintro e x ⟨rfl,q,rfl⟩
  rw [H1.out]
  go_wp2_with fail
  refine (aA3 ((C1 _ q.h ⟨tk,Ob.nil,tn⟩).out)).mono ?_
  rintro e x ⟨rfl,q,rfl⟩
  go_wp2_with fail
  go_ret
  exact ⟨aA1 (Bool.false_or _).symm,bb2 HB1.out q.h⟩
 ·have H1:=hide h1
  clear hv B1 K2 h1
  go_enter Tryz.func37,Tryz.ntmps37
  go_wp2_with fail
  rw [←hX]
  clear hX
  refine (aA5 ((C1 _ (Below.refl _ _) ⟨tk,Ob.nil,Ob.nil⟩).out)).mono ?_
  rintro e x ⟨rfl,q,rfl⟩
  rw [H1.out]
  go_wp2_with fail
  go_ret
  exact ⟨aA1 (Bool.true_or _).symm,bb2 HB1.out q.h⟩
theorem aKc {o:OB} {k:Int} {sp:ByteArray} {t:RfB} (h:o.ref.kind≠7):Gr.lets o k sp t=false:=by
 unfold Gr.lets
 rw [decide_eq_false h,Bool.false_and]
theorem aKd {o:OB} {k:Int} {sp:ByteArray} {t:RfB} (h:o.ref.space≠t.space):Gr.lets o k sp t=false:=by
 unfold Gr.lets
 rw [decide_eq_false h,Bool.false_and,Bool.and_false]
theorem aKe {o:OB} {k:Int} {sp:ByteArray} {t:RfB} (h:Ob.mayO o=false):Gr.lets o k sp t=false:=by
 unfold Gr.lets
 rw [h,Bool.false_and,Bool.and_false,Bool.and_false]
theorem aTe {o:OB} {k:Int} {sp:ByteArray} {t:RfB} (h1:o.ref.kind=7) (h2:o.ref.space=t.space) (h3:Ob.mayO o=true) :
  Gr.lets o k sp t=(o.frm.any (Ob.eqR ⟨k,sp,Ob.nil⟩)&&(o.tos.any (Ob.eqR ⟨t.kind,Ob.nil,Ob.nil⟩)||o.tos.any (Ob.eqR ⟨t.kind,Ob.nil,t.name⟩))):=by
 obtain ⟨e1,e2⟩:=aPf h1 h3 k sp t
 unfold Gr.lets
 rw [e1,e2,decide_eq_true h1,decide_eq_true h2,h3,Bool.true_and,Bool.true_and,Bool.true_and]
theorem aM6 (x:OV) (k:Int) (sp:ByteArray) (t:RfB) (w:World) (hx:x.at_ w) (ok:OkO x) :
  Calls Tryz.prog 15 #[oV x,.int .i64 k,.string sp,rfV t] w fun e w'=>e=.returned (.bool (Gr.lets x.b k sp t))∧Below w.heap.size w w':=by
 obtain ⟨tk,ts,tn⟩:=t
 obtain ⟨X,hX⟩:∃ z,z=(w.alloc (.cells #[.int .i64 x.ref.kind,.string x.ref.space,.string x.ref.name,.bool x.good,x.vl,x.vp,.string x.cls,x.vi,x.vq,x.vh,x.vr,x.vf,x.vo] 36)).alloc (.cells #[.int .i64 tk,.string ts,.string tn] 24):=⟨_,rfl⟩
 have B1:Below w.heap.size w X:=by rw [hX];exact ((Below.refl _ _).alloc (Nat.le_refl _) _).alloc (by simp) _
 have K0:X.heap[w.heap.size]?=some (.cells #[.int .i64 x.ref.kind,.string x.ref.space,.string x.ref.name,.bool x.good,x.vl,x.vp,.string x.cls,x.vi,x.vq,x.vh,x.vr,x.vf,x.vo] 36):=by rw [hX];exact aA2 (aA7 w _) ((Below.refl _ _).alloc (Nat.le_refl _) _)
 have K1:X.heap[w.heap.size+1]?=some (.cells #[.int .i64 tk,.string ts,.string tn] 24):=by
  rw [hX]
  have:=aA7 (w.alloc (.cells #[.int .i64 x.ref.kind,.string x.ref.space,.string x.ref.name,.bool x.good,x.vl,x.vp,.string x.cls,x.vi,x.vq,x.vh,x.vr,x.vf,x.vo] 36)) (.cells #[.int .i64 tk,.string ts,.string tn] 24)
  simpa using this
 obtain ⟨a0,a1,a2,a3,a4,a5,a6,a7,a8,a9,a10,a11,a12⟩:=q13 K0
 have b0:=fun q:GB X=>aA0 (aA2 K1 q.h) (i:=0) rfl
 have b1:=fun q:GB X=>aA0 (aA2 K1 q.h) (i:=1) rfl
 have b2:=fun q:GB X=>aA0 (aA2 K1 q.h) (i:=2) rfl
 have C1:=fun W (h:Below X.heap.size X W)=>hide (aT4 x W (hx.below (bb2 B1 h)) ok)
 have C2:=fun W (h:Below X.heap.size X W)=>hide (aM5 x.vf x.frm ⟨k,sp,Ob.nil⟩ W (hx.frm.below (bb2 B1 h)))
 have C3:=fun W (h:Below X.heap.size X W)=>hide (aPg x.vo x.tos ⟨tk,ts,tn⟩ W (hx.tos.below (bb2 B1 h)))
 have HB1:=hide B1
 have L1:=hide (@aKc x.b k sp ⟨tk,ts,tn⟩)
 have L2:=hide (@aKd x.b k sp ⟨tk,ts,tn⟩)
 have L3:=hide (@aKe x.b k sp ⟨tk,ts,tn⟩)
 have L4:=hide (@aTe x.b k sp ⟨tk,ts,tn⟩)
 clear K0 K1 B1 hx ok
 by_cases h7:x.ref.kind=7
 ·have t7:(x.ref.kind == 7)=true:=by rw [h7];rfl
  by_cases hs:x.ref.space=ts
  ·have t8:(x.ref.space.toList == ts.toList)=true:=by rw [hs];simp
   cases hm:Ob.mayO x.b
   ·have HE:=hide (L3.out hm)
    have HM:=hide hm
    clear L1 L2 L3 L4 hm h7 hs C2 C3
    go_enter Tryz.func15,Tryz.ntmps15
    go_wp2_with fail
    rw [←hX]
    clear hX
    refine (aA5 ((C1 _ (Below.refl _ _)).out)).mono ?_
    rintro e x ⟨rfl,q,rfl⟩
    rw [HM.out]
    go_wp2_with fail
    go_ret
    exact ⟨aA1 HE.out.symm,bb2 HB1.out q.h⟩
   ·have HE:Hid (Gr.lets x.b k sp ⟨tk,ts,tn⟩=(x.frm.any (Ob.eqR ⟨k,sp,Ob.nil⟩)&&(x.tos.any (Ob.eqR ⟨tk,Ob.nil,Ob.nil⟩)||x.tos.any (Ob.eqR ⟨tk,Ob.nil,tn⟩)))):=L4.out h7 hs hm
    have HM:=hide hm
    clear L1 L2 L3 L4 hm h7 hs
    generalize (x.frm.any (Ob.eqR ⟨k,sp,Ob.nil⟩))=y1 at *
    generalize (x.tos.any (Ob.eqR ⟨tk,Ob.nil,Ob.nil⟩)||x.tos.any (Ob.eqR ⟨tk,Ob.nil,tn⟩))=y2 at *
    go_enter Tryz.func15,Tryz.ntmps15
    go_wp2_with fail
    rw [←hX]
    clear hX
    refine (aA5 ((C1 _ (Below.refl _ _)).out)).mono ?_
    rintro e x ⟨rfl,q,rfl⟩
    rw [HM.out]
    go_wp2_with fail
    refine (aA3 ((C2 _ q.h).out)).mono ?_
    rintro e x ⟨rfl,q,rfl⟩
    cases y1
    ·go_wp2_with fail
     go_ret
     exact ⟨aA1 HE.out.symm,bb2 HB1.out q.h⟩
    ·go_wp2_with fail
     refine (aA3 ((C3 _ q.h).out)).mono ?_
     rintro e x ⟨rfl,q,rfl⟩
     go_wp2_with fail
     go_ret
     exact ⟨aA1 HE.out.symm,bb2 HB1.out q.h⟩
  ·have t8:(x.ref.space.toList == ts.toList)=false:=by simpa [aB3] using hs
   have HE:=hide (L2.out hs)
   clear L1 L2 L3 L4 h7 hs C1 C2 C3
   go_enter Tryz.func15,Tryz.ntmps15
   go_wp2_with fail
   go_ret
   exact ⟨aA1 HE.out.symm,by rw [hX] at HB1;exact HB1.out⟩
 ·have t7:(x.ref.kind == 7)=false:=by simpa using h7
  have HE:=hide (L1.out h7)
  clear L1 L2 L3 L4 h7 C1 C2 C3
  go_enter Tryz.func15,Tryz.ntmps15
  go_wp2_with fail
  go_ret
  exact ⟨aA1 HE.out.symm,by rw [hX] at HB1;exact HB1.out⟩
end Go.Proofs.YthnodpdiocppgaaGreatDoor
namespace Go.Proofs.YthnodpdiocppgaaGreatDoor
open Go Go.RowKit Go.Shelf
attribute [local go_sem] Oper.semAt_some
def aCz (w:World):List Obj→World
 | []=>w
 | o::l=>aCz (w.alloc o) l
theorem aBk:∀ (l:List Obj) (w:World) (n:Nat),n≤w.heap.size→Below n w (aCz w l)
 | [],w,n,_=>Below.refl n w
 | o::l,w,n,h=>((Below.refl n w).alloc h o).trans (aBk l (w.alloc o) n (by simp;omega))
theorem aCh:∀ (l:List Obj) (w:World),(aCz w l).heap.size=w.heap.size+l.length
 | [],_=>rfl
 | o::l,w=>by
   rw [aCz,aCh l (w.alloc o),World.size_alloc,List.length_cons]
   omega
theorem aBo:∀ (l:List Obj) (w:World) (i:Nat) (o:Obj),l[i]?=some o→(aCz w l).heap[w.heap.size+i]?=some o
 | [],_,_,_,h=>by simp at h
 | o::l,w,0,x,h=>by
   simp at h
   subst h
   have h1:=aBk l (w.alloc o) (w.heap.size+1) (by simp)
   exact (h1.block _ (by omega)).trans (aA7 w o)
 | o::l,w,i+1,x,h=>by
   have:=aBo l (w.alloc o) i x (by simpa using h)
   rw [World.size_alloc] at this
   rw [show w.heap.size+(i+1)=w.heap.size+1+i by omega]
   exact this
abbrev bxK (k:Int):Obj:=.cells #[.int .i64 k] 3
abbrev bxS (s:ByteArray):Obj:=.cells #[.string s] 9
abbrev bxR (t:RfB):Obj:=.cells #[.int .i64 t.kind,.string t.space,.string t.name] 24
abbrev bxL (v:Value):Obj:=.cells #[v] 22
abbrev bxF (v:Value):Obj:=.cells #[v] 57
theorem aHn (k:Int) (s:ByteArray) (t:RfB) (w:World) :
  Calls Tryz.prog 38 #[.int .i64 k,.string s,rfV t] w fun e w'=>e=.returned (.func (.func 65) #[] #[.pointer (some ⟨w.heap.size,0,none⟩),.pointer (some ⟨w.heap.size+1,0,none⟩),.pointer (some ⟨w.heap.size+1+1,0,none⟩)])∧w'=aCz w [bxK k,bxS s,bxR t]:=by
 go_enter Tryz.func38,Tryz.ntmps38
 go_wp2_with fail
 go_ret
 exact ⟨rfl,rfl⟩
theorem aM7 (x:OV) (k:Int) (s:ByteArray) (t:RfB) (b0 b1 b2:Nat) (w:World) (hx:x.at_ w) (ok:OkO x) (h0:w.heap[b0]?=some (bxK k)) (h1:w.heap[b1]?=some (bxS s)) (h2:w.heap[b2]?=some (bxR t)) :
  Calls Tryz.prog 65 #[oV x,.pointer (some ⟨b0,0,none⟩),.pointer (some ⟨b1,0,none⟩),.pointer (some ⟨b2,0,none⟩)] w fun e w'=>e=.returned (.bool (Gr.lets x.b k s t))∧Below w.heap.size w w':=by
 obtain ⟨tk,ts,tn⟩:=t
 obtain ⟨X,hX⟩:∃ z,z=(w.alloc (.cells #[.int .i64 x.ref.kind,.string x.ref.space,.string x.ref.name,.bool x.good,x.vl,x.vp,.string x.cls,x.vi,x.vq,x.vh,x.vr,x.vf,x.vo] 36)):=⟨_,rfl⟩
 have B1:Below w.heap.size w X:=by rw [hX];exact (Below.refl _ _).alloc (Nat.le_refl _) _
 have K0:X.heap[w.heap.size]?=some (.cells #[.int .i64 x.ref.kind,.string x.ref.space,.string x.ref.name,.bool x.good,x.vl,x.vp,.string x.cls,x.vi,x.vq,x.vh,x.vr,x.vf,x.vo] 36):=by rw [hX];exact aA7 w _
 have y0:=aA0 (aA2 h0 B1) (i:=0) rfl
 have y1:=aA0 (aA2 h1 B1) (i:=0) rfl
 have y2:=aA0 (aA2 h2 B1) (i:=0) rfl
 have y3:=aA0 (aA2 h2 B1) (i:=1) rfl
 have y4:=aA0 (aA2 h2 B1) (i:=2) rfl
 rw [hX] at y0 y1 y2 y3 y4
 have C1:=hide (aM6 x k s ⟨tk,ts,tn⟩ X (hx.below B1) ok)
 have HB1:=hide B1
 clear hx ok h0 h1 h2 K0 B1
 go_enter Tryz.func65,Tryz.ntmps65
 go_wp2_with fail
 rw [←hX]
 clear hX y0 y1 y2 y3 y4
 refine (C1.out).mono ?_
 rintro e w1 ⟨rfl,hb1⟩
 go_wp2_with fail
 go_ret
 exact ⟨rfl,bb2 HB1.out hb1⟩
theorem aGx (v:Value) (f:Value) (hf:∃ fn lb,f=.func fn #[] lb) (hv:∃ a n c,v=.slice a n c) (w:World) :
  Calls Tryz.prog 29 #[v,f] w fun e w'=>e=.returned (.func (.func 51) #[] #[.pointer (some ⟨w.heap.size,0,none⟩),.pointer (some ⟨w.heap.size+1,0,none⟩)])∧w'=aCz w [bxL v,bxF f]:=by
 obtain ⟨fn,lb,rfl⟩:=hf
 obtain ⟨a,n,c,rfl⟩:=hv
 go_enter Tryz.func29,Tryz.ntmps29
 go_wp2_with fail
 go_ret
 exact ⟨rfl,rfl⟩
theorem aNs (L:List OV) (p:OV→Bool) (k:Nat) (hk:k<L.length) (hp:p L[k]=true) :
  ∃ h:((L.take k).filter p).length<((L.filter p).map oV).length,((L.filter p).map oV)[((L.take k).filter p).length]=oV L[k]:=by
 have e:L=L.take k++(L[k]::L.drop (k+1)):=by
  rw [←List.drop_eq_getElem_cons hk,List.take_append_drop]
 have e2:(L.filter p).map oV=((L.take k).filter p).map oV++(oV L[k]::((L.drop (k+1)).filter p).map oV):=by
  conv=>lhs;rw [e]
  rw [List.filter_append,List.filter_cons_of_pos (by exact hp),List.map_append,List.map_cons]
 have hl:(((L.take k).filter p).map oV).length=((L.take k).filter p).length:=List.length_map ..
 refine ⟨?_,?_⟩
 ·rw [e2,List.length_append,List.length_cons,hl]
  omega
 ·have hlt:((L.take k).filter p).length<((L.filter p).map oV).length:=by rw [e2,List.length_append,List.length_cons,hl];omega
  have:((L.filter p).map oV)[((L.take k).filter p).length]?=some (oV L[k]):=by
   rw [e2,List.getElem?_append_right (by rw [hl];exact Nat.le_refl _),hl,Nat.sub_self]
   rfl
  rw [List.getElem?_eq_getElem hlt] at this
  exact Option.some.inj this
theorem aTf {L:List OV} {p:OV→Bool} {k:Nat} (hk:k<L.length) (hp:p L[k]=true):((L.take (k+1)).filter p).length=((L.take k).filter p).length+1:=by
 rw [List.take_succ_eq_append_getElem hk,List.filter_append,List.filter_cons_of_pos (by exact hp),List.length_append]
 rfl
theorem aVd {L:List OV} {p:OV→Bool} {k:Nat} (hk:k<L.length) (hp:p L[k]=false):((L.take (k+1)).filter p).length=((L.take k).filter p).length:=by
 rw [List.take_succ_eq_append_getElem hk,List.filter_append,List.filter_cons_of_neg (by rw [hp];decide)]
 simp
set_option maxRecDepth 100000 in
theorem aHo (n B:Nat) (a:Option Addr) (cap:Nat) (L:List OV) (sf:Nat) (slb:Array Value) (p:OV→Bool) (w0:World) (hL:Sl EO w0 (.slice a L.length cap) L)
  (hent:∀ (args:Array Value) (w:World),(callFunc sf args).run Tryz.prog w=.ok (.enter sf args) w) (Need:World→Prop)
  (hneed:∀ W,Need W→Below w0.heap.size w0 W∧W.heap[B]?=some (bxL (.slice a L.length cap))∧W.heap[B+1]?=some (bxF (.func (.func sf) #[] slb)))
  (hgrow:∀ W W',Need W→Below W.heap.size W W'→Need W')
  (hso:∀ W,Need W→∀ k (hk:k<L.length),Calls Tryz.prog sf (#[oV L[k]]++slb) W fun e w'=>e=.returned (.bool (p L[k]))∧Below W.heap.size W w') :
  aEy Fence.wide n Tryz.prog 51 #[.pointer (some ⟨B,0,none⟩),.pointer (some ⟨B+1,0,none⟩)] ((L.filter p).map oV) Need:=by
 intro l J Jx W gJ gJx nJ hY hJ0
 have hlen:=hL.len
 have HO:=hide (fun W (hB:Below w0.heap.size w0 W) k (hk:k<L.length)=>oneO hL hB hk)
 have HN:=hide (fun W h=>hneed W h)
 have HG:=hide hgrow
 have HS:=hide hso
 have HY:=hide hY
 have HgJ:=hide gJ
 have HgJx:=hide gJx
 have HnJ:=hide nJ
 obtain ⟨_,k1,k2⟩:=hneed W (nJ 0 W hJ0)
 have g0:=aA0 k1 (i:=0) rfl
 clear hL hneed hgrow hso hY gJ gJx nJ k1 k2
 refine callsIn_of_wp Tryz.func51 rfl trivial ?_ rfl
 simp only [Tryz.ntmps51,List.size_toArray,List.length_cons,List.length_nil,Nat.reduceAdd,Nat.reduceSub,Array.replicate_succ,Array.replicate_zero,List.push_toArray,List.append_toArray,List.nil_append,List.cons_append]
 gi_wp2
 gi_loopw [8] (fun i wr=>∃ k:Nat,k≤L.length∧i=.int .i64 k∧J ((L.take k).filter p).length wr) (fun i _=>L.length - (intOf i).toNat)
 case atStart=>exact ⟨0,Nat.zero_le _,rfl,hJ0⟩
 case round =>
  clear g0 hJ0
  obtain ⟨k,hk,rfl,hJk⟩:=hrel
  by_cases hlt:k<L.length
  ·have hlt':(k:Int)<(L.length:Int):=by omega
   have hN:=HnJ.out _ _ hJk
   obtain ⟨hB0,n1,n2⟩:=HN.out _ hN
   obtain ⟨hA,gg,off,rfl,hgg,c0,c1,c2,c3,c4,c5,c6,c7,c8,c9,c10,c11,c12⟩:=HO.out _ hB0 k hlt
   clear hA hgg
   have HSk:=hide (fun W (h:Need W)=>HS.out W h k hlt)
   have HNo:Hid (p L[k]=false→∀ W1,J ((L.take k).filter p).length W1→J ((L.take (k+1)).filter p).length W1):=fun h W1 hJ=>by rw [aVd hlt h];exact hJ
   have HYes:Hid (p L[k]=true→∀ W1,J (((L.take k).filter p).length+1) W1→J ((L.take (k+1)).filter p).length W1):=fun h W1 hJ=>by rw [aTf hlt h];exact hJ
   have HYk:Hid (p L[k]=true→∀ W1,J ((L.take k).filter p).length W1→YieldAt Fence.wide (n - 1) Tryz.prog l #[oV L[k]] W1 fun e W'=>(e=.returned (.bool true)∧J (((L.take k).filter p).length+1) W')∨(e=.returned (.bool false)∧Jx (((L.take k).filter p).length+1) W')):=fun h W1 hJ=>by
    obtain ⟨h1,h2⟩:=aNs L p k hlt h
    have:=HY.out _ W1 h1 hJ
    rw [h2] at this
    exact this
   have HLt:Hid (p L[k]=true→((L.take k).filter p).length<((L.filter p).map oV).length):=fun h=>(aNs L p k hlt h).1
   generalize L[k]=x at *
   obtain ⟨X,hX⟩:∃ z,z=wr.alloc (.cells #[.int .i64 x.ref.kind,.string x.ref.space,.string x.ref.name,.bool x.good,.slice x.al x.labels.length x.cl,.slice x.ap x.ports.length x.cp,.string x.cls,.slice x.ai x.lis.length x.ci,.slice x.aq x.pars.length x.cq,.slice x.ah x.hosts.length x.ch,.slice x.ar x.rules.length x.cr,.slice x.af x.frm.length x.cf,.slice x.ao x.tos.length x.co] 36):=⟨_,rfl⟩
   have B1:Below wr.heap.size wr X:=by rw [hX];exact (Below.refl _ _).alloc (Nat.le_refl _) _
   have K0:X.heap[wr.heap.size]?=some (.cells #[.int .i64 x.ref.kind,.string x.ref.space,.string x.ref.name,.bool x.good,.slice x.al x.labels.length x.cl,.slice x.ap x.ports.length x.cp,.string x.cls,.slice x.ai x.lis.length x.ci,.slice x.aq x.pars.length x.cq,.slice x.ah x.hosts.length x.ch,.slice x.ar x.rules.length x.cr,.slice x.af x.frm.length x.cf,.slice x.ao x.tos.length x.co] 36):=by rw [hX];exact aA7 wr _
   have xf:X.cell? ⟨B+1,0,none⟩=some (.func (.func sf) #[] slb):=aA0 (aA2 n2 B1) (i:=0) rfl
   rw [hX] at xf
   have NX:=HG.out _ _ hN B1
   have C1:=hide (HSk.out _ NX)
   have HJX:=hide (HgJ.out _ _ _ hJk B1)
   have HK0:=hide K0
   clear K0 n1 n2 HSk HS HO HN HY hJk hN hB0
   cases hp:p x
   ·have HP:=hide hp
    have HM:=hide (HNo.out hp)
    clear hp HNo HYes HYk HLt
    gi_wp2_with fail
    rw [←hX]
    refine ⟨trivial,aCr,(callsIn_wide.2 C1.out).mono ?_⟩
    clear hX xf c0 c1 c2 c3 c4 c5 c6 c7 c8 c9 c10 c11 c12
    rintro e w1 ⟨rfl,hb1⟩
    rw [HP.out]
    gi_wp2_with fail
    refine ⟨(fun _ h=>by cases h),?_⟩
    gi_wp2_with fail
    exact ⟨⟨k+1,by omega,by go_num,HM.out _ (HgJ.out _ _ _ HJX.out hb1)⟩,by simp [intOf];omega⟩
   ·have HP:=hide hp
    have HM:=hide (HYes.out hp)
    have HR:=hide (HYk.out hp)
    have HL:=hide (HLt.out hp)
    clear hp HNo HYes HYk HLt
    gi_wp2_with fail
    rw [←hX]
    refine ⟨trivial,aCr,(callsIn_wide.2 C1.out).mono ?_⟩
    clear hX xf c0 c1 c2 c3 c4 c5 c6 c7 c8 c9 c10 c11 c12
    rintro e w1 ⟨rfl,hb1⟩
    rw [HP.out]
    have kb:=aA2 HK0.out hb1
    obtain ⟨o0,o1,o2,o3,o4,o5,o6,o7,o8,o9,o10,o11,o12⟩:=w13 kb
    obtain ⟨fn,tmps,assign,body,hy,hRR⟩:=HR.out w1 (HgJ.out _ _ _ HJX.out hb1)
    clear kb
    gi_wp2_with fail
    refine ⟨aCr,hRR.mono ?_⟩
    rintro e W3 (⟨rfl,hJ3⟩ | ⟨rfl,hJx3⟩)
    ·gi_wp2_with fail
     exact ⟨⟨k+1,by omega,by go_num,HM.out _ hJ3⟩,by simp [intOf];omega⟩
    ·gi_wp2_with fail
     refine bodyPost_ret (results_none rfl _ _ _) rfl ?_
     exact ⟨⟨_,rfl⟩,.inr ⟨_,HL.out,hJx3⟩⟩
  ·have hlt':¬ (k:Int)<(L.length:Int):=by omega
   have hk2:k=L.length:=by omega
   subst hk2
   gi_wp2_with fail
   go_end0
   refine ⟨⟨_,rfl⟩,.inl ?_⟩
   rw [List.take_length] at hJk
   exact hJk
end Go.Proofs.YthnodpdiocppgaaGreatDoor
namespace Go.Proofs.YthnodpdiocppgaaGreatDoor
open Go Go.RowKit Go.Shelf
attribute [local go_sem] Oper.semAt_some
abbrev pt (b:Nat):Value:=.pointer (some ⟨b,0,none⟩)
structure aCa (w0:World) (A:Nat) (k:Int) (s:ByteArray) (t:RfB) (v:Value) (W:World):Prop where
 b:Below w0.heap.size w0 W
 h0:W.heap[A]?=some (bxK k)
 h1:W.heap[A+1]?=some (bxS s)
 h2:W.heap[A+1+1]?=some (bxR t)
 h3:W.heap[A+3]?=some (bxL v)
 h4:W.heap[A+3+1]?=some (bxF (.func (.func 65) #[] #[pt A,pt (A+1),pt (A+1+1)]))
theorem aCa.grow {w0:World} {A:Nat} {k:Int} {s:ByteArray} {t:RfB} {v:Value} {W W':World} (h:aCa w0 A k s t v W) (hb:Below W.heap.size W W'):aCa w0 A k s t v W' :=
 ⟨h.b.trans (hb.mono h.b.size),aA2 h.h0 hb,aA2 h.h1 hb,aA2 h.h2 hb,aA2 h.h3 hb,aA2 h.h4 hb⟩
theorem aCa.of_allocs {w0 w W:World} {k:Int} {s:ByteArray} {t:RfB} {v:Value} (hb:Below w0.heap.size w0 w)
  (hW:W=aCz (aCz w [bxK k,bxS s,bxR t]) [bxL v,bxF (.func (.func 65) #[] #[pt w.heap.size,pt (w.heap.size+1),pt (w.heap.size+1+1)])]):aCa w0 w.heap.size k s t v W:=by
 subst hW
 have z:=aCh [bxK k,bxS s,bxR t] w
 have B2:=aBk [bxL v,bxF (.func (.func 65) #[] #[pt w.heap.size,pt (w.heap.size+1),pt (w.heap.size+1+1)])] (aCz w [bxK k,bxS s,bxR t]) _ (Nat.le_refl _)
 have y:=fun i o=>aBo [bxL v,bxF (.func (.func 65) #[] #[pt w.heap.size,pt (w.heap.size+1),pt (w.heap.size+1+1)])] (aCz w [bxK k,bxS s,bxR t]) i o
 rw [z] at y
 exact ⟨(hb.trans ((aBk _ w _ (Nat.le_refl _)).mono hb.size)).trans (B2.mono (by rw [z];have:=hb.size;omega)),aA2 (aBo [bxK k,bxS s,bxR t] w 0 _ rfl) B2,aA2 (aBo [bxK k,bxS s,bxR t] w 1 _ rfl) B2,aA2 (aBo [bxK k,bxS s,bxR t] w 2 _ rfl) B2,y 0 _ rfl,y 1 _ rfl⟩
theorem aCa.own {w0:World} {A:Nat} {k:Int} {s:ByteArray} {t:RfB} {v:Value} {W W':World} {row:Option Nat} (h:aCa w0 A k s t v W) (hg:W.grownBy W' row) (hr:∀ r,row=some r→A+5≤r) (hA:w0.heap.size≤A):aCa w0 A k s t v W':=by
 have y:∀ i o,i<A+5→W.heap[i]?=some o→W'.heap[i]?=some o:=fun i o hi ho=>(hg.block i (aAs ho) (fun e=>by have:=hr i e.symm;omega)).trans ho
 exact ⟨h.b.grown hg h.b.size (fun r e=>by have:=hr r e;omega),y _ _ (by omega) h.h0,y _ _ (by omega) h.h1,y _ _ (by omega) h.h2,y _ _ (by omega) h.h3,y _ _ (by omega) h.h4⟩
theorem aJ2 (n:Nat) {a:Option Addr} {cap:Nat} {L:List OV} {w0:World} (hL:Sl EO w0 (.slice a L.length cap) L) (ok:∀ o∈L,OkO o) (A:Nat) (k:Int) (s:ByteArray) (t:RfB) :
  aEy Fence.wide n Tryz.prog 51 #[pt (A+3),pt (A+3+1)] ((L.filter fun o=>Gr.lets o.b k s t).map oV) (aCa w0 A k s t (.slice a L.length cap)) :=
 aHo n (A+3) a cap L 65 #[pt A,pt (A+1),pt (A+1+1)] (fun o=>Gr.lets o.b k s t) w0 hL (enters_of Tryz.func65 (by kernel_rfl) rfl) _
  (fun W h=>⟨h.b,h.h3,h.h4⟩) (fun W W' h hb=>h.grow hb) (fun W h i hi=>aM7 L[i] k s t A (A+1) (A+1+1) W (oneO hL h.b hi).1 (ok _ (List.getElem_mem hi)) h.h0 h.h1 h.h2)
theorem aM8 {L:List OV} {k:Int} {s:ByteArray} {t:RfB} (hs:s≠t.space) (h:((L.filter fun o=>Gr.lets o.b k s t).map oV).length=0):Gr.permits (L.map OV.b) k s t=false:=by
 unfold Gr.permits
 rw [decide_eq_false hs,Bool.false_or,List.any_map]
 rw [List.length_map] at h
 have:=List.eq_nil_of_length_eq_zero h
 rw [List.any_eq_false]
 intro o ho hc
 have:o∈L.filter fun o=>Gr.lets o.b k s t:=List.mem_filter.2 ⟨ho,hc⟩
 simp_all
theorem aM9 {L:List OV} {k:Int} {s:ByteArray} {t:RfB} {i:Nat} (h:i<((L.filter fun o=>Gr.lets o.b k s t).map oV).length):Gr.permits (L.map OV.b) k s t=true:=by
 unfold Gr.permits
 rw [List.any_map,Bool.or_eq_true]
 right
 rw [List.length_map] at h
 have hm:=List.getElem_mem h
 obtain ⟨h1,h2⟩:=List.mem_filter.1 hm
 exact List.any_eq_true.2 ⟨_,h1,h2⟩
set_option maxRecDepth 100000 in
theorem aGy {a:Option Addr} {cap:Nat} {L:List OV} (k:Int) (s:ByteArray) (t:RfB) (w:World) (hL:Sl EO w (.slice a L.length cap) L) (ok:∀ o∈L,OkO o) :
  Calls Tryz.prog 17 #[.slice a L.length cap,.int .i64 k,.string s,rfV t] w fun e w'=>e=.returned (.bool (Gr.permits (L.map OV.b) k s t))∧Below w.heap.size w w':=by
 obtain ⟨tk,ts,tn⟩:=t
 by_cases hs:s=ts
 ·have hq:(ts.toList == s.toList)=true:=by rw [hs];simp
  have HR:Hid (Gr.permits (L.map OV.b) k s ⟨tk,ts,tn⟩=true):=by unfold Hid Gr.permits;rw [decide_eq_true hs,Bool.true_or]
  clear hs hL ok
  go_enter Tryz.func17,Tryz.ntmps17
  go_wp2_with fail
  refine bodyPost_ret (v:=.bool true) (by simp [results,Tryz.f17,go_sem]) rfl ⟨aA1 HR.out.symm,?_⟩
  exact ((Below.refl _ _).alloc (Nat.le_refl _) _).alloc (by simp) _
 ·have hq:(ts.toList == s.toList)=false:=by
   have:¬ ts=s:=fun e=>hs e.symm
   simpa [aB3] using this
  have HN:Hid (((L.filter fun o=>Gr.lets o.b k s ⟨tk,ts,tn⟩).map oV).length=0→Gr.permits (L.map OV.b) k s ⟨tk,ts,tn⟩=false):=fun h=>aM8 (fun e=>hs e) h
  have HS:Hid (∀ i,i<((L.filter fun o=>Gr.lets o.b k s ⟨tk,ts,tn⟩).map oV).length→Gr.permits (L.map OV.b) k s ⟨tk,ts,tn⟩=true):=fun i h=>aM9 h
  have HST:=hide (fun A=>aJ2 7 hL ok A k s ⟨tk,ts,tn⟩)
  have hlen:=hL.len
  clear hs hL ok
  refine (callsIn_wide (n:=8)).1 ?_
  refine callsIn_of_wp_marks Tryz.func17 rfl trivial ?_ rfl
  simp only [Tryz.ntmps17,List.size_toArray,List.length_cons,List.length_nil,Nat.reduceAdd,Nat.reduceSub,Array.replicate_succ,Array.replicate_zero,List.push_toArray,List.append_toArray,List.nil_append,List.cons_append]
  gi_wp2_with fail
  refine ⟨trivial,(callsIn_wide.2 (aHn _ _ ⟨tk,ts,tn⟩ _)).mono ?_⟩
  rintro e w1 ⟨rfl,hw1⟩
  have hsz1:w1.heap.size=w.heap.size+1+1+3:=by rw [hw1,aCh];simp
  have HW1:=hide hw1
  clear hw1
  gi_wp2_with fail
  refine ⟨trivial,(callsIn_wide.2 (aGx _ _ ⟨_,_,rfl⟩ ⟨_,_,_,rfl⟩ _)).mono ?_⟩
  rintro e w2 ⟨rfl,hw2⟩
  have BX:Below w.heap.size w ((w.alloc (.cells #[.int .i64 tk,.string ts,.string tn] 24)).alloc (.cells #[.bool false] 4)):=((Below.refl _ _).alloc (Nat.le_refl _) _).alloc (by simp) _
  have hb0:Boxed ((w.alloc (.cells #[.int .i64 tk,.string ts,.string tn] 24)).alloc (.cells #[.bool false] 4)) (w.heap.size+1) 4 (.bool false):=by
   have:=Boxed.new (w.alloc (.cells #[.int .i64 tk,.string ts,.string tn] 24)) 4 (.bool false)
   rw [World.size_alloc] at this
   exact this
  have hw1:=HW1.out
  have hsz:w2.heap.size=w.heap.size+7:=by rw [hw2,aCh,hsz1];rfl
  have hN:=aCa.of_allocs (k:=k) (s:=s) (t:=⟨tk,ts,tn⟩) (v:=.slice a L.length cap) BX (by rw [hw2,hw1];simp only [World.size_alloc]:w2=_)
  simp only [World.size_alloc] at hN
  have hb2:Boxed w2 (w.heap.size+1) 4 (.bool false):=by
   rw [hw2]
   refine aA2 (?_:w1.heap[_]?=_) (aBk _ _ _ (Nat.le_refl _))
   rw [hw1]
   exact aA2 hb0 (aBk _ _ _ (Nat.le_refl _))
  have HW:=hide (And.intro hw1 hw2)
  clear hw1 hw2 BX hb0
  gi_wp2_with fail
  refine aG1 rfl (by omega) (gf:=51) (lb:=#[pt (w.heap.size+1+1+3),pt (w.heap.size+1+1+3+1)]) rfl trivial (enters_of Tryz.func51 (by kernel_rfl) rfl)
   (HST.out (w.heap.size+1+1)) rfl
   (fun i W=>aCa w (w.heap.size+1+1) k s ⟨tk,ts,tn⟩ (.slice a L.length cap) W∧Boxed W (w.heap.size+1) 4 (.bool false)∧i=0)
   (fun c _ W=>c=.ret∧Boxed W (w.heap.size+1) 4 (.bool true)∧Below w.heap.size w W)
   (OwnFrom.and (fun _ _ _ _ h hg hr=>h.own hg (fun r e=>by have:=(hr r e).1;omega) (by omega)) (OwnFrom.and (Own.from (boxed_own _ _ _) _) (fun _ _ _ _ h _ _=>h)))
   (fun c=>OwnFrom.and (fun _ _ _ _ h _ _=>h) (OwnFrom.and (Own.from (boxed_own _ _ _) _) (ownFrom_below (Nat.le_refl _) (by omega))))
   (aAk.and (fun _ _ _ h hb=>h.grow hb) (aAk.and (aAk.boxed _ _ _) (aAk.const _)))
   (fun c=>aAk.and (aAk.const _) (aAk.and (aAk.boxed _ _ _) (aAk.below _ _ (Nat.le_refl _))))
   (fun _ _ h=>h.1) ⟨hN,hb2,rfl⟩
   (fun x=>{ tmps:=#[.slice a L.length cap,.int .i64 k,.string s,rfV ⟨tk,ts,tn⟩,undef,undef,undef,pt w.heap.size,pt (w.heap.size+1),.pointer (some ⟨w.heap.size,1,none⟩),.string ts,.string s,.bool false,.slice a L.length cap,.int .i64 k,.string s,.agg #[.int .i64 tk,.string ts,.string tn],.func (.func 65) #[] #[pt (w.heap.size+1+1),pt (w.heap.size+1+1+1),pt (w.heap.size+1+1+1+1)],.func (.func 51) #[] #[pt (w.heap.size+1+1+3),pt (w.heap.size+1+1+3+1)],x],defers:=[] }) ?assign ?body ?done ?stop
  case assign =>
   intro l x W K hK
   gi_wp2
   simp
   exact hK
  case body =>
   rintro l i W hi ⟨hN,hb,rfl⟩
   have hc:=hb.cell
   have hf:=hb.frozen
   have HNN:=hide hN
   clear hN
   gi_wp2_with fail
   refine ⟨KeepsOthers.setCell _ _ _,rfl,hb.set _,HNN.out.b.setCell (p:=⟨w.heap.size+1,0,none⟩) (by show _≤w.heap.size+1;omega) _⟩
  case done =>
   rintro D W hD ⟨hN,hb,h0⟩ hK
   have HE:=hide (HN.out h0)
   have HNN:=hide hN
   clear hN h0
   have hc:=hb.cell
   have hf:=hb.frozen
   gi_wp2_with fail
   have hK':=(KeepsOthers.setCell W ⟨w.heap.size+1,0,none⟩ (.bool false)).same D _ hK rfl
   refine ⟨by simp,.inl ⟨_,_,rfl,run_takeDeferred hK',?_⟩⟩
   have hc5:=cell_kept (World.cell?_setCell_same' W ⟨w.heap.size+1,0,none⟩ (.bool false) (by rw [hc];rfl)) (grownBy_putObj' _ D (.deferred none)) (fun r e=>by cases e;exact ⟨_,hK',rfl⟩)
   refine ⟨.bool false,?_,aA1 HE.out.symm,(HNN.out.b.setCell (p:=⟨w.heap.size+1,0,none⟩) (by show _≤w.heap.size+1;omega) _).trans (belowK_b (w:=w) (Nat.le_refl _) _ D _ _ (by omega) hK' rfl rfl)⟩
   simp [results,Tryz.f17,go_sem,hc5]
  case stop =>
   rintro D c i W hD hi ⟨rfl,hb,hB⟩ hK
   have HE:=hide (HS.out i hi)
   have hc:=hb.cell
   gi_wp2_with fail
   refine ⟨by simp,.inl ⟨_,_,rfl,run_takeDeferred hK,?_⟩⟩
   have hc5:=cell_kept hc (grownBy_putObj' _ D (.deferred none)) (fun r e=>by cases e;exact ⟨_,hK,rfl⟩)
   refine ⟨.bool true,?_,aA1 HE.out.symm,hB.trans (belowK_b (w:=w) (Nat.le_refl _) W D _ _ (by omega) hK rfl rfl)⟩
   simp [results,Tryz.f17,go_sem,hc5]
theorem aCa.set {w0:World} {A:Nat} {k:Int} {s:ByteArray} {t:RfB} {v:Value} {W:World} (h:aCa w0 A k s t v W) {b:Nat} (h1:w0.heap.size≤b) (h2:b<A) (u:Value):aCa w0 A k s t v (W.setCell ⟨b,0,none⟩ u):=by
 have y:∀ i o,A≤i→W.heap[i]?=some o→(W.setCell ⟨b,0,none⟩ u).heap[i]?=some o:=fun i o hi ho=>(Below.heap_setCell W ⟨b,0,none⟩ u i (by show i≠b;omega)).trans ho
 exact ⟨h.b.setCell (p:=⟨b,0,none⟩) h1 u,y _ _ (by omega) h.h0,y _ _ (by omega) h.h1,y _ _ (by omega) h.h2,y _ _ (by omega) h.h3,y _ _ (by omega) h.h4⟩
theorem aMa (L:List OV) (k:Int) (s:ByteArray) (t:RfB):Gr.by_ (L.map OV.b) k s t=(L.filter fun o=>Gr.lets o.b k s t).map fun o=>o.ref:=by
 unfold Gr.by_
 rw [List.filter_map,List.map_map]
 rfl
def aTx:Option OV→Value
 | some x=>oV x
 | none=>undef
def OBox (F:List OV) (i p:Nat) (V:World):Prop:=∃ x,F[i]?=some x∧V.heap[p]?=some (.cells #[.int .i64 x.ref.kind,.string x.ref.space,.string x.ref.name,.bool x.good,.slice x.al x.labels.length x.cl,.slice x.ap x.ports.length x.cp,.string x.cls,.slice x.ai x.lis.length x.ci,.slice x.aq x.pars.length x.cq,.slice x.ah x.hosts.length x.ch,.slice x.ar x.rules.length x.cr,.slice x.af x.frm.length x.cf,.slice x.ao x.tos.length x.co] 36)
theorem OBox.own (F:List OV) (B i:Nat):OwnFrom B (OBox F i):=fun p W W' row h hg hr=>by
 obtain ⟨x,hx,hb⟩:=h
 exact ⟨x,hx,(aGr (β:=Unit) (fun _=>_) (fun _=>_) (fun _=>p)) () W W' row hb hg (fun r e=>(hr r e).2)⟩
theorem aGz {W W':World} {B:Nat} {t:TypeId} {v:Value} (h:Boxed W B t v) (hb:Below W.heap.size W W'):Boxed W' B t v:=(hb.block B h.lt).trans h
set_option maxRecDepth 100000 in
theorem aVe {a:Option Addr} {cap:Nat} {L:List OV} (k:Int) (s:ByteArray) (t:RfB) (w:World) (hL:Sl EO w (.slice a L.length cap) L) (ok:∀ o∈L,OkO o) (hl:L.length≤1000) :
  Calls Tryz.prog 20 #[.slice a L.length cap,.int .i64 k,.string s,rfV t] w fun e w'=>∃ v,e=.returned v∧Sl ER w' v (Gr.by_ (L.map OV.b) k s t)∧Below w.heap.size w w':=by
 rw [aMa]
 obtain ⟨tk,ts,tn⟩:=t
 have HST:=hide (fun A=>aJ2 7 hL ok A k s ⟨tk,ts,tn⟩)
 have hfl:(L.filter fun o=>Gr.lets o.b k s ⟨tk,ts,tn⟩).length≤1000:=Nat.le_trans (List.length_filter_le _ _) hl
 have hlen:=hL.len
 generalize (L.filter fun o=>Gr.lets o.b k s ⟨tk,ts,tn⟩)=F at *
 obtain ⟨i0,hi,hz0,hz1,hz2⟩:=info_parts Tryz.infoRef
 clear hL ok
 refine (callsIn_wide (n:=8)).1 ?_
 refine callsIn_of_wp_marks Tryz.func20 rfl trivial ?_ rfl
 simp only [Tryz.ntmps20,List.size_toArray,List.length_cons,List.length_nil,Nat.reduceAdd,Nat.reduceSub,Array.replicate_succ,Array.replicate_zero,List.push_toArray,List.append_toArray,List.nil_append,List.cons_append]
 gi_wp2_with fail
 refine ⟨trivial,(callsIn_wide.2 (aHn _ _ ⟨tk,ts,tn⟩ _)).mono ?_⟩
 rintro e w1 ⟨rfl,hw1⟩
 have hsz1:w1.heap.size=w.heap.size+1+1+3:=by rw [hw1,aCh];simp
 have HW1:=hide hw1
 clear hw1
 gi_wp2_with fail
 refine ⟨trivial,(callsIn_wide.2 (aGx _ _ ⟨_,_,rfl⟩ ⟨_,_,_,rfl⟩ _)).mono ?_⟩
 rintro e w2 ⟨rfl,hw2⟩
 have BX:Below w.heap.size w ((w.alloc (.cells #[.int .i64 tk,.string ts,.string tn] 24)).alloc (.cells #[.slice none 0 0] 44)):=((Below.refl _ _).alloc (Nat.le_refl _) _).alloc (by simp) _
 have hb0:Boxed ((w.alloc (.cells #[.int .i64 tk,.string ts,.string tn] 24)).alloc (.cells #[.slice none 0 0] 44)) (w.heap.size+1) 44 (.slice none 0 0):=by
  have:=Boxed.new (w.alloc (.cells #[.int .i64 tk,.string ts,.string tn] 24)) 44 (.slice none 0 0)
  rw [World.size_alloc] at this
  exact this
 have hw1:=HW1.out
 have hsz:w2.heap.size=w.heap.size+7:=by rw [hw2,aCh,hsz1];rfl
 have hN:=aCa.of_allocs (k:=k) (s:=s) (t:=⟨tk,ts,tn⟩) (v:=.slice a L.length cap) BX (by rw [hw2,hw1];simp only [World.size_alloc]:w2=_)
 simp only [World.size_alloc] at hN
 have hb2:Boxed w2 (w.heap.size+1) 44 (.slice none 0 0):=by
  rw [hw2]
  refine aA2 (?_:w1.heap[_]?=_) (aBk _ _ _ (Nat.le_refl _))
  rw [hw1]
  exact aA2 hb0 (aBk _ _ _ (Nat.le_refl _))
 have HW:=hide (And.intro hw1 hw2)
 clear hw1 hw2 BX hb0
 gi_wp2_with fail
 refine aDo rfl (by omega) (gf:=51) (lb:=#[pt (w.heap.size+1+1+3),pt (w.heap.size+1+1+3+1)]) rfl trivial (enters_of Tryz.func51 (by kernel_rfl) rfl)
  (HST.out (w.heap.size+1+1)) rfl
  (fun i W=>aCa w (w.heap.size+1+1) k s ⟨tk,ts,tn⟩ (.slice a L.length cap) W∧(∃ v,Boxed W (w.heap.size+1) 44 v∧W.ownsRow (w.heap.size+7) 24 3 v i (ER.flat ((F.take i).map fun o=>o.ref))∧True)∧w.heap.size+7≤W.heap.size)
  (fun _ _ _=>False)
  (OwnFrom.and (fun _ _ _ _ h hg hr=>h.own hg (fun r e=>by have:=(hr r e).1;omega) (by omega)) (OwnFrom.and (Own.from (holdsRow_own (w.heap.size+7) (w.heap.size+1) 44 24 3 (fun i=>i) (fun i=>ER.flat ((F.take i).map fun o=>o.ref)) (fun _ _=>True)) _) (fun _ _ _ _ h hg _=>Nat.le_trans h hg.size)))
  (fun c _ _ _ _ h _ _=>h)
  (aAk.and (fun _ _ _ h hb=>h.grow hb) (aAk.and (fun i W W' ⟨v,hv,hr,_⟩ hb=>⟨v,aGz hv hb,aA4 hr hb,trivial⟩) (aAk.size _)))
  (fun c _ _ _ h _=>h)
  (fun _ _ h=>h.1) ⟨hN,⟨_,hb2,World.ownsRow_nil _ _ _ _,trivial⟩,by omega⟩
  (fun i p=>{ tmps:=#[.slice a L.length cap,.int .i64 k,.string s,rfV ⟨tk,ts,tn⟩,undef,undef,undef,pt w.heap.size,.slice none 0 0,pt (w.heap.size+1),pt p,.slice a L.length cap,.int .i64 k,.string s,.agg #[.int .i64 tk,.string ts,.string tn],.func (.func 65) #[] #[pt (w.heap.size+1+1),pt (w.heap.size+1+1+1),pt (w.heap.size+1+1+1+1)],.func (.func 51) #[] #[pt (w.heap.size+1+1+3),pt (w.heap.size+1+1+3+1)],aTx F[i]?,undef,undef,undef,undef,undef,undef],defers:=[] }) (OBox F) (OBox.own F _) ?assign ?body ?done ?stop
 case assign =>
  intro l i W hi2 K hK
  have hi3:i<F.length:=by rw [List.length_map] at hi2;exact hi2
  have hx:(F.map oV)[i]=oV F[i]:=List.getElem_map ..
  rw [hx]
  have HF:=hide (List.getElem?_eq_getElem hi3)
  clear hx
  generalize F[i]=x at *
  simp
  gi_wp2
  have hK2:=hK _ _ ((Below.refl _ W).alloc (Nat.le_refl _) _) ⟨x,HF.out,aA7 _ _⟩
  rw [HF.out] at hK2
  exact hK2
 case body =>
  rintro l i p W hi2 ⟨hN,⟨v,hv,hrow,_⟩,hWs⟩ ⟨x,hx,kb⟩
  have hi3:i<F.length:=by rw [List.length_map] at hi2;exact hi2
  have HSN:Hid (ER.flat ((F.take (i+1)).map fun o=>o.ref)=ER.flat ((F.take i).map fun o=>o.ref)++[.int .i64 x.ref.kind,.string x.ref.space,.string x.ref.name]):=by
   have hy:F[i]=x:=by rw [List.getElem?_eq_getElem hi3] at hx;exact Option.some.inj hx
   unfold Hid
   rw [List.take_succ_eq_append_getElem hi3,List.map_append,Elem.flat_append,hy]
   rfl
  rw [hx]
  have HNN:=hide hN
  have x0:=aA0 kb (i:=0) rfl
  have x1:=aA0 kb (i:=1) rfl
  have x2:=aA0 kb (i:=2) rfl
  clear hN hx hi2 kb
  obtain ⟨va,vc,rfl⟩:∃ va vc,v=.slice va i vc:=aAj hrow
  have hc:=hv.cell
  have hf:=hv.frozen
  gi_wp2_with (gi_at_builtin;refine wpListIn_append_own _ rfl _ _ 44 rfl (w.heap.size+7) 24 i0 (.agg #[.int .i64 0,.string ⟨#[]⟩,.string ⟨#[]⟩]) 3 40 Tryz.underlying44 hi hz0 hz1 hz2 rfl (by decide) _ _ _ rfl (hrow.alloc _) ⟨W.heap.size,0,none⟩ 1 1 [.int .i64 x.ref.kind,.string x.ref.space,.string x.ref.name] rfl rfl (World.news_of_block (heap_alloc_new _ _)) (by simp [Value.oneCell']) (by unfold maxLen;omega) (by omega) (by simp;omega) ?_;intro v' w5 hown' hgrow _;obtain ⟨g',cap',rfl⟩:=ownsRow_succ hown';obtain ⟨hv1,hv2,hr2,hk2,hb5⟩:=hv.appended (by decide) (aEt hrow (show w.heap.size≤w.heap.size+7 by omega)) (by omega) (show w.heap.size≤w.heap.size+1 by omega) (aEt hown' (show w.heap.size≤w.heap.size+7 by omega)) hgrow;have hcA:=hv1.cell;have hfA:=hv1.frozen)
  have hr6:=ownsRow_setCell_below hown' (a:=⟨w.heap.size+1,0,none⟩) (by show w.heap.size+1<_;omega) (.slice (some ⟨g',0,none⟩) (i+1) cap')
  rw [←HSN.out] at hr6
  refine ⟨hk2,?_,⟨_,hv2,hr6,trivial⟩,?_⟩
  ·refine aCa.set ?_ (by omega) (by omega) _
   exact aCa.own (HNN.out.grow ((Below.refl _ _).alloc (Nat.le_refl _) _)) hgrow (fun r e=>by have:=aAe hrow e;omega) (by omega)
  ·have:=hb5.size
   omega
 case done =>
  rintro D W hD ⟨hN,⟨v,hv,hrow,_⟩,hWs⟩ hK
  have hrow2:W.ownsRow (w.heap.size+7) 24 ER.n v (F.map fun o=>o.ref).length (ER.flat (F.map fun o=>o.ref)):=by
   have h2:=hrow
   rw [List.length_map,List.take_length] at h2
   rw [List.length_map]
   exact h2
  obtain ⟨va,vc,rfl⟩:=aAj hrow2
  have HRW:=hide hrow2
  have HNN:=hide hN
  clear hN hrow hrow2
  have hc:=hv.cell
  have hf:=hv.frozen
  gi_wp2_with fail
  refine ⟨by simp,.inl ⟨_,_,rfl,run_takeDeferred hK,?_⟩⟩
  refine ⟨.slice va (F.map fun o=>o.ref).length vc,?_,_,rfl,Sl.of_row (E:=ER) rfl (ownsRow_putObj HRW.out (.deferred none) hK rfl) (fun _ _=>trivial),HNN.out.b.trans (belowK_b (w:=w) (Nat.le_refl _) W D _ _ (by omega) hK rfl rfl)⟩
  simp [results,Tryz.f20,go_sem]
 case stop =>
  rintro D c i W hD hi2 h hK
  exact h.elim
end Go.Proofs.YthnodpdiocppgaaGreatDoor
namespace Go.Proofs.YthnodpdiocppgaaGreatDoor
open Go Go.RowKit Go.Shelf
theorem Tryz.infoObj:(Tryz.prog.info? 36).map (fun i=>(i.zero,i.size,i.bytes))=some (some (.agg #[.int .i64 0,.string ⟨#[]⟩,.string ⟨#[]⟩,.bool false,.slice none 0 0,.slice none 0 0,.string ⟨#[]⟩,.slice none 0 0,.slice none 0 0,.slice none 0 0,.slice none 0 0,.slice none 0 0,.slice none 0 0]),13,256):=by kernel_rfl
def aDw (l:List OB):List OB:=(l.take 24).map fewO
theorem aPh {L:List OV} {k:Nat} (hk:k<L.length):(L.take (k+1)).map (fun o=>fewO o.b)=(L.take k).map (fun o=>fewO o.b)++[fewO L[k].b]:=by
 rw [List.take_succ_eq_append_getElem hk,List.map_append]
 rfl
theorem aKf {L:List OV} {k:Nat} (hk:k≤L.length) (h9:k≤24) (h:¬ (k<L.length∧k<24)):(L.take k).map (fun o=>fewO o.b)=aDw (L.map OV.b):=by
 unfold aDw
 rw [←List.map_take,List.map_map]
 rcases (show k=24∨L.length≤k by omega) with h1 | h1
 ·rw [h1]
  rfl
 ·rw [List.take_of_length_le h1,List.take_of_length_le (by omega)]
  rfl
theorem aMb {L':List OV} {l:List OB} (h:L'.map OV.b=aDw l):(∀ o∈L',OkO o)∧L'.length≤24:=by
 refine ⟨fun o ho=>?_,?_⟩
 ·have:o.b∈aDw l:=by rw [←h];exact List.mem_map.2 ⟨o,ho,rfl⟩
  obtain ⟨b,_,hb⟩:=List.mem_map.1 this
  exact aV5 hb.symm
 ·have:=congrArg List.length h
  unfold aDw at this
  simp at this
  omega
theorem aKg {a:Option Addr} {cap:Nat} {L:List OV} (w:World) (hL:Sl EO w (.slice a L.length cap) L) (raw:∀ x∈L,RawO x) :
  Calls Tryz.prog 23 #[.slice a L.length cap] w fun e w'=>∃ a' c' L',e=.returned (.slice a' (List.length L') c')∧L'.map OV.b=aDw (L.map OV.b)∧OwL w.heap.size (.slice a' L'.length c') L' w'∧Below w.heap.size w w':=by
 have hlen:=hL.len
 have HO:=hide (fun W (hB:Below w.heap.size w W) k (hk:k<L.length)=>oneO hL hB hk)
 have HRAW:=hide raw
 clear hL raw
 go_enter Tryz.func23,Tryz.ntmps23
 go_wp2_with fail
 go_loopw [3,4] (fun o i wr=>∃ k:Nat,k≤L.length∧k≤24∧i=.int .i64 k∧(∃ L',L'.map OV.b=(L.take k).map (fun o=>fewO o.b)∧OwL w.heap.size o L' wr)∧Below w.heap.size w wr) (fun _ i _=>24 - (intOf i).toNat)
 case atStart=>exact ⟨0,Nat.zero_le _,by omega,rfl,⟨[],rfl,OwL.nil _ _⟩,Below.refl _ _⟩
 case round =>
  obtain ⟨k,hk,hk24,rfl,⟨L',hL',hown⟩,hB⟩:=hrel
  have hl':L'.length=k:=by have:=congrArg List.length hL';simp at this;omega
  obtain ⟨va,vc,rfl⟩:=aAj hown.row
  have HL':=hide hL'
  have HOWN:=hide hown
  have HLEN:=hide hl'
  clear hL' hown hl'
  by_cases hlt:k<L.length
  ·have hlt':(k:Int)<(L.length:Int):=by omega
   by_cases h24:k<24
   ·have h24':(k:Int)<24:=by omega
    obtain ⟨hA,gg,off,rfl,hgg,c0,c1,c2,c3,c4,c5,c6,c7,c8,c9,c10,c11,c12⟩:=HO.out _ hB k hlt
    have CF:=hide (aT6 L[k] wr hA (HRAW.out _ (List.getElem_mem hlt)))
    have HN:=hide (aPh hlt)
    clear hA hgg
    generalize L[k]=x at *
    go_wp2_with fail
    refine CF.out.mono ?_
    rintro e w1 ⟨y,rfl,hy,hyo,hb1⟩
    clear c0 c1 c2 c3 c4 c5 c6 c7 c8 c9 c10 c11 c12 CF
    have ba:=(Below.refl w1.heap.size w1).alloc (Nat.le_refl _) (.cells #[.int .i64 y.ref.kind,.string y.ref.space,.string y.ref.name,.bool y.good,.slice y.al y.labels.length y.cl,.slice y.ap y.ports.length y.cp,.string y.cls,.slice y.ai y.lis.length y.ci,.slice y.aq y.pars.length y.cq,.slice y.ah y.hosts.length y.ch,.slice y.ar y.rules.length y.cr,.slice y.af y.frm.length y.cf,.slice y.ao y.tos.length y.co] 36)
    have hbs:=bb2 hB hb1
    have SL:Sl EO (w1.alloc (.cells #[.int .i64 y.ref.kind,.string y.ref.space,.string y.ref.name,.bool y.good,.slice y.al y.labels.length y.cl,.slice y.ap y.ports.length y.cp,.string y.cls,.slice y.ai y.lis.length y.ci,.slice y.aq y.pars.length y.cq,.slice y.ah y.hosts.length y.ch,.slice y.ar y.rules.length y.cr,.slice y.af y.frm.length y.cf,.slice y.ao y.tos.length y.co] 36)) (.slice (some ⟨w1.heap.size,0,none⟩) 1 1) [y]:=Sl.at_block (aA7 w1 _) (hyo.below ba).at_
    have OW2:=(HOWN.out.below hb1).below ba
    have HR3:=OW2.row
    have hl3:L'.length≤23:=by rw [HLEN.out];omega
    go_wp2_with (at_builtin;refine aAg (E:=EO) 22 36 _ 256 Tryz.underlying22 Tryz.infoObj rfl (by decide) _ _ _ rfl (by rfl) w.heap.size _ _ _ rfl HR3 _ _ rfl SL (by simp;omega) (by simp;have:=hbs.size;omega) ?_;intro v' w3 hown' hgrow)
    have hz:=hbs.size
    refine ⟨⟨k+1,by omega,by omega,by go_num,⟨L'++[y],?_,OW2.snoc (hyo.below ba) hown' hgrow⟩,?_⟩,by simp [intOf];omega⟩
    ·rw [List.map_append,HL'.out,HN.out,←hy]
     rfl
    ·exact (hbs.trans (ba.mono hz)).grown hgrow (by simp;omega) (fun j e=>aAe HR3 e)
   ·have h24':¬ (k:Int)<24:=by omega
    have HE:=hide (aKf hk hk24 (by omega))
    go_wp2_with fail
    go_ret
    exact ⟨_,_,L',rfl,by rw [HL'.out];exact HE.out,HOWN.out,hB⟩
  ·have hlt':¬ (k:Int)<(L.length:Int):=by omega
   have HE:=hide (aKf hk hk24 (by omega))
   go_wp2_with fail
   go_ret
   exact ⟨_,_,L',rfl,by rw [HL'.out];exact HE.out,HOWN.out,hB⟩
theorem OwL.bxt {base B t:Nat} {v:Value} {L:List OV} {w w':World} {old:Array Value} (h:OwL base v L w) (hx:BX B w.heap.size w w') (hz:w.heap[B]?=some (.cells old t)) (ht:∀ e∈ownT,e≠t) (hO:36≠t):OwL base v L w' :=
 ⟨hx.row hz h.row hO,fun o ho=>(h.own o ho).bxt hx hz ht⟩
abbrev akC (v:Value) (k:Int) (s:ByteArray) (r:RfB):Array Value:=#[v,.int .i64 k,.string s,.int .i64 r.kind,.string r.space,.string r.name]
theorem aXy {a:Option Addr} {cap:Nat} {L:List OV} (k:Int) (s:ByteArray) (r:RfB) (w:World) (hL:Sl EO w (.slice a L.length cap) L) (raw:∀ x∈L,RawO x) (hs:s.size≤maxLen) (rr:aCw r) :
  Calls Tryz.prog 9 #[akG a cap L k s r] w fun e w'=>∃ a' c' L',e=.returned (akG a' c' L' k (fewB s) (aC1 r))∧L'.map OV.b=aDw (L.map OV.b)∧OwL w.heap.size (.slice a' L'.length c') L' w'∧Below w.heap.size w w':=by
 obtain ⟨rk,rs,rn⟩:=r
 obtain ⟨X,hX⟩:∃ z,z=(w.alloc (.cells (akC (.slice a L.length cap) k s ⟨rk,rs,rn⟩) 26)).alloc (.cells #[.slice none 0 0,.int .i64 0,.string ⟨#[]⟩,.int .i64 0,.string ⟨#[]⟩,.string ⟨#[]⟩] 26):=⟨_,rfl⟩
 have B1:Below w.heap.size w X:=by rw [hX];exact ((Below.refl _ _).alloc (Nat.le_refl _) _).alloc (by simp) _
 have K0:X.heap[w.heap.size]?=some (.cells (akC (.slice a L.length cap) k s ⟨rk,rs,rn⟩) 26):=by rw [hX];exact aA2 (aA7 w _) ((Below.refl _ _).alloc (Nat.le_refl _) _)
 have K1:X.heap[w.heap.size+1]?=some (.cells #[.slice none 0 0,.int .i64 0,.string ⟨#[]⟩,.int .i64 0,.string ⟨#[]⟩,.string ⟨#[]⟩] 26):=by
  rw [hX]
  have:=aA7 (w.alloc (.cells (akC (.slice a L.length cap) k s ⟨rk,rs,rn⟩) 26)) (.cells #[.slice none 0 0,.int .i64 0,.string ⟨#[]⟩,.int .i64 0,.string ⟨#[]⟩,.string ⟨#[]⟩] 26)
  simpa using this
 have C1:=fun W (h:Below X.heap.size X W)=>hide (aKg W (hL.below (bb2 B1 h)) raw)
 have C2:=fun W=>hide (aAw s W hs)
 have C3:=fun W=>hide (aDt ⟨rk,rs,rn⟩ W rr)
 have m0:=fun W (h:Below X.heap.size X W)=>aA0 (aA2 K0 h) (i:=0) rfl
 have m1:=fun W (h:Below X.heap.size X W)=>aA0 (aA2 K0 h) (i:=1) rfl
 have m2:=fun W (h:Below X.heap.size X W)=>aA0 (aA2 K0 h) (i:=2) rfl
 have m3:=fun W (h:Below X.heap.size X W)=>aA0 (aA2 K0 h) (i:=3) rfl
 have m4:=fun W (h:Below X.heap.size X W)=>aA0 (aA2 K0 h) (i:=4) rfl
 have m5:=fun W (h:Below X.heap.size X W)=>aA0 (aA2 K0 h) (i:=5) rfl
 have HB1:=hide B1
 have HK1:=hide K1
 clear hL raw hs rr K0 K1 B1
 go_enter Tryz.func9,Tryz.ntmps9
 go_wp2_with fail
 rw [←hX]
 clear hX
 refine aB4 12 (fun W=>Below X.heap.size X W) (by kernel_rfl) ((Below.refl _ _).drew) ?_
 refine zzG 0 5 (.pointer (some ⟨w.heap.size,0,none⟩)) rfl (by kernel_rfl) (fun _ _ _ h=>h) (by rfl) (fun w1 hS=>?_) ?_
 ·(try dsimp only at hS)
  go_simp
 simp only [Act.put,zzB,zzC,zzD]
 refine zzG 1 5 (.slice a L.length cap) rfl (by kernel_rfl) (fun _ _ _ h=>h) (by rfl) (fun w1 hS=>?_) ?_
 ·(try dsimp only at hS)
  go_simp
 simp only [Act.put,zzB,zzC,zzD]
 refine zzG 3 5 (.pointer (some ⟨w.heap.size,1,none⟩)) rfl (by kernel_rfl) (fun _ _ _ h=>h) (by rfl) (fun w1 hS=>?_) ?_
 ·(try dsimp only at hS)
  go_simp
 simp only [Act.put,zzB,zzC,zzD]
 refine zzG 4 5 (.int .i64 k) rfl (by kernel_rfl) (fun _ _ _ h=>h) (by rfl) (fun w1 hS=>?_) ?_
 ·(try dsimp only at hS)
  go_simp
 simp only [Act.put,zzB,zzC,zzD]
 refine zzG 5 5 (.pointer (some ⟨w.heap.size,2,none⟩)) rfl (by kernel_rfl) (fun _ _ _ h=>h) (by rfl) (fun w1 hS=>?_) ?_
 ·(try dsimp only at hS)
  go_simp
 simp only [Act.put,zzB,zzC,zzD]
 refine zzG 6 5 (.string s) rfl (by kernel_rfl) (fun _ _ _ h=>h) (by rfl) (fun w1 hS=>?_) ?_
 ·(try dsimp only at hS)
  go_simp
 simp only [Act.put,zzB,zzC,zzD]
 refine zzG 8 5 (.pointer (some ⟨w.heap.size,3,none⟩)) rfl (by kernel_rfl) (fun _ _ _ h=>h) (by rfl) (fun w1 hS=>?_) ?_
 ·(try dsimp only at hS)
  go_simp
 simp only [Act.put,zzB,zzC,zzD]
 refine zzG 9 5 (.agg #[.int .i64 rk,.string rs,.string rn]) rfl (by kernel_rfl) (fun _ _ _ h=>h) (by rfl) (fun w1 hS=>?_) ?_
 ·(try dsimp only at hS)
  go_simp
 simp only [Act.put,zzB,zzC,zzD]
 clear m0 m1 m2 m3 m4 m5
 refine aAf (rs:=[2]) (by kernel_rfl) (by simp) (fun W1 hG1 hS1 i hi=>?_)
 obtain rfl:i=2:=by simpa using hi
 clear hi
 refine aAb rfl (by rfl) (fun K' hK'=>?_)
 replace hK':=hide hK'
 go_simp
 refine (C1 _ hS1).out.mono ?_
 rintro e w2 ⟨a',c',L',rfl,hL',hown,hb2⟩
 have BK1:=hS1.trans (hb2.mono hS1.size)
 go_wp2_with fail
 refine hK'.out _ _ (aAx (by decide) BK1 ?_)
 have HL':=hide hL'
 have hw2:=hS1.size
 clear hK' K' hG1 hb2 BK1 hS1 hL'
 refine zzG 7 5 (.string (fewB s)) rfl (by kernel_rfl) (fun _ _ _ h=>h) (by rfl) (fun w1 hS=>?_) ?_
 ·(try dsimp only at hS)
  go_simp
  exact aAq hS (C2 _).out
 simp only [Act.put,zzB,zzC,zzD]
 refine zzG 10 5 (.agg #[.int .i64 rk,.string (fewB rs),.string (fewB rn)]) rfl (by kernel_rfl) (fun _ _ _ h=>h) (by rfl) (fun w1 hS=>?_) ?_
 ·(try dsimp only at hS)
  go_simp
  exact aFv hS (Nat.le_refl _) (C3 _).out
 simp only [Act.put,zzB,zzC,zzD]
 refine zzG 11 5 (.agg #[.slice a' L'.length c',.int .i64 k,.string (fewB s),.int .i64 rk,.string (fewB rs),.string (fewB rn)]) rfl (by kernel_rfl) (fun _ _ _ h=>h) (by rfl) (fun w1 hS=>?_) ?_
 ·(try dsimp only at hS)
  go_simp
 simp only [Act.put,zzB,zzC,zzD]
 refine aAf (rs:=[12]) (by kernel_rfl) (by simp) (fun W hG hS i hi=>?_)
 obtain rfl:i=12:=by simpa using hi
 clear hi
 have kb:=aA2 HK1.out hS
 have BB:=hide (bb2 HB1.out hS)
 have OW:=hide (OwL.below hown hG)
 have HK:=hide kb
 obtain ⟨z0,z1,z2,z3,z4,z5⟩:_∧_∧_∧_∧_∧_:=⟨aA0 kb (i:=0) rfl,aA0 kb (i:=1) rfl,aA0 kb (i:=2) rfl,aA0 kb (i:=3) rfl,aA0 kb (i:=4) rfl,aA0 kb (i:=5) rfl⟩
 have lz:=aAl kb
 clear kb hG hS hown
 refine aAb rfl (by rfl) (fun K' hK'=>?_)
 go_simp
 refine hK' _ _ (aBq (by decide) ?_)
 clear hK' K' z0 z1 z2 z3 z4 z5 lz
 refine aBf (by kernel_rfl) ?_
 have S1:=aAh (w:=w) (B:=w.heap.size) (g:=w.heap.size+1) (Nat.le_succ _) [.slice a' L'.length c',.int .i64 k,.string (fewB s),.int .i64 rk,.string (fewB rs),.string (fewB rn)] _ 0 BB.out
 have K4:=aB2 [.slice a' L'.length c',.int .i64 k,.string (fewB s),.int .i64 rk,.string (fewB rs),.string (fewB rn)] HK.out rfl
 have O4:=OW.out.bxt ((BX.refl (w.heap.size+1) W.heap.size W).setL 0 [.slice a' L'.length c',.int .i64 k,.string (fewB s),.int .i64 rk,.string (fewB rs),.string (fewB rn)]) HK.out (by decide) (by decide)
 change Exit.then _ _ _ _ (setL W (w.heap.size+1) 0 [.slice a' L'.length c',.int .i64 k,.string (fewB s),.int .i64 rk,.string (fewB rs),.string (fewB rn)])
 generalize setL W (w.heap.size+1) 0 [.slice a' L'.length c',.int .i64 k,.string (fewB s),.int .i64 rk,.string (fewB rs),.string (fewB rn)]=W9 at *
 obtain ⟨e0,e1,e2,e3,e4,e5⟩:_∧_∧_∧_∧_∧_:=⟨aA0 K4 (i:=0) rfl,aA0 K4 (i:=1) rfl,aA0 K4 (i:=2) rfl,aA0 K4 (i:=3) rfl,aA0 K4 (i:=4) rfl,aA0 K4 (i:=5) rfl⟩
 go_wp2_with fail
 refine bodyPost_ret (v:=akG a' c' L' k (fewB s) (aC1 ⟨rk,rs,rn⟩)) (by simp [results,Tryz.f9,go_sem,e0,e1,e2,e3,e4,e5];exact ⟨rfl,rfl,rfl⟩) rfl ⟨a',c',L',rfl,HL'.out,?_,S1⟩
 exact ⟨aEt O4.row (by have:=HB1.out.size;omega),O4.own⟩
abbrev gWeb:ByteArray:=⟨#[119,101,98]⟩
abbrev gApp:ByteArray:=⟨#[97,112,112]⟩
abbrev gApi:ByteArray:=⟨#[97,112,105]⟩
abbrev gDb:ByteArray:=⟨#[100,98]⟩
abbrev gOps:ByteArray:=⟨#[111,112,115]⟩
theorem aNe (s n:ByteArray) (w:World):Calls Tryz.prog 39 #[.string s,.string n] w fun e w'=>e=.returned (.agg #[.int .i64 3,.string s,.string n])∧Below w.heap.size w w':=by
 go_enter Tryz.func39,Tryz.ntmps39
 go_wp2_with fail
 refine bodyPost_ret (v:=.agg #[.int .i64 3,.string s,.string n]) (by simp [results,Tryz.f39,go_sem]) rfl ⟨rfl,?_⟩
 exact (Below.refl _ _).alloc (Nat.le_refl _) _
abbrev exG (b c:Nat):OV:=⟨⟨7,gApp,⟨#[103]⟩⟩,false,[],none,0,[],none,0,⟨#[]⟩,[],none,0,[],none,0,[],none,0,[],none,0,[⟨6,gWeb,⟨#[]⟩⟩],some ⟨b,0,none⟩,1,[⟨3,⟨#[]⟩,gApi⟩],some ⟨c,0,none⟩,1⟩
theorem aW7 (b c:Nat):OkO (exG b c):=⟨⟨Nat.le_of_ble_eq_true rfl,Nat.le_of_ble_eq_true rfl⟩,fun p hp=>absurd hp (by simp),Nat.le_of_ble_eq_true rfl,fun p hp=>absurd hp (by simp),fun p hp=>absurd hp (by simp),fun p hp=>absurd hp (by simp),fun p hp=>absurd hp (by simp),fun r hr=>by obtain rfl:=List.mem_singleton.1 hr;exact ⟨by decide,by decide⟩,fun r hr=>by obtain rfl:=List.mem_singleton.1 hr;exact ⟨by decide,by decide⟩⟩
theorem ex_1 (b c:Nat):Gr.permits [(exG b c).b] 6 gWeb ⟨3,gApp,gApi⟩=true:=by kernel_rfl
theorem ex_2 (b c:Nat):Gr.permits [(exG b c).b] 6 gWeb ⟨3,gApp,gDb⟩=false:=by kernel_rfl
theorem ex_3 (b c:Nat):Gr.permits [(exG b c).b] 6 gOps ⟨3,gApp,gApi⟩=false:=by kernel_rfl
theorem aEi (w:World):Calls Tryz.prog 22 #[] w fun e w'=>e=.returned (.bool true)∧Below w.heap.size w w':=by
 obtain ⟨X,hX⟩:∃ z,z=((w.alloc (.cells #[.int .i64 6,.string gWeb,.string ⟨#[]⟩] 53)).alloc (.cells #[.int .i64 3,.string ⟨#[]⟩,.string gApi] 53)).alloc (.cells #[.int .i64 7,.string gApp,.string ⟨#[103]⟩,.bool false,.slice none 0 0,.slice none 0 0,.string ⟨#[]⟩,.slice none 0 0,.slice none 0 0,.slice none 0 0,.slice none 0 0,.slice (some ⟨w.heap.size,0,none⟩) 1 1,.slice (some ⟨w.heap.size+1,0,none⟩) 1 1] 36):=⟨_,rfl⟩
 have B1:Below w.heap.size w X:=by rw [hX];exact aBk [(.cells #[.int .i64 6,.string gWeb,.string ⟨#[]⟩] 53),(.cells #[.int .i64 3,.string ⟨#[]⟩,.string gApi] 53),(.cells #[.int .i64 7,.string gApp,.string ⟨#[103]⟩,.bool false,.slice none 0 0,.slice none 0 0,.string ⟨#[]⟩,.slice none 0 0,.slice none 0 0,.slice none 0 0,.slice none 0 0,.slice (some ⟨w.heap.size,0,none⟩) 1 1,.slice (some ⟨w.heap.size+1,0,none⟩) 1 1] 36)] w _ (Nat.le_refl _)
 have K0:X.heap[w.heap.size]?=some (.cells #[.int .i64 6,.string gWeb,.string ⟨#[]⟩] 53):=by rw [hX];exact aBo [(.cells #[.int .i64 6,.string gWeb,.string ⟨#[]⟩] 53),(.cells #[.int .i64 3,.string ⟨#[]⟩,.string gApi] 53),(.cells #[.int .i64 7,.string gApp,.string ⟨#[103]⟩,.bool false,.slice none 0 0,.slice none 0 0,.string ⟨#[]⟩,.slice none 0 0,.slice none 0 0,.slice none 0 0,.slice none 0 0,.slice (some ⟨w.heap.size,0,none⟩) 1 1,.slice (some ⟨w.heap.size+1,0,none⟩) 1 1] 36)] w 0 _ rfl
 have K1:X.heap[w.heap.size+1]?=some (.cells #[.int .i64 3,.string ⟨#[]⟩,.string gApi] 53):=by rw [hX];exact aBo [(.cells #[.int .i64 6,.string gWeb,.string ⟨#[]⟩] 53),(.cells #[.int .i64 3,.string ⟨#[]⟩,.string gApi] 53),(.cells #[.int .i64 7,.string gApp,.string ⟨#[103]⟩,.bool false,.slice none 0 0,.slice none 0 0,.string ⟨#[]⟩,.slice none 0 0,.slice none 0 0,.slice none 0 0,.slice none 0 0,.slice (some ⟨w.heap.size,0,none⟩) 1 1,.slice (some ⟨w.heap.size+1,0,none⟩) 1 1] 36)] w 1 _ rfl
 have K2:X.heap[w.heap.size+1+1]?=some (.cells #[.int .i64 7,.string gApp,.string ⟨#[103]⟩,.bool false,.slice none 0 0,.slice none 0 0,.string ⟨#[]⟩,.slice none 0 0,.slice none 0 0,.slice none 0 0,.slice none 0 0,.slice (some ⟨w.heap.size,0,none⟩) 1 1,.slice (some ⟨w.heap.size+1,0,none⟩) 1 1] 36):=by rw [hX];exact aBo [(.cells #[.int .i64 6,.string gWeb,.string ⟨#[]⟩] 53),(.cells #[.int .i64 3,.string ⟨#[]⟩,.string gApi] 53),(.cells #[.int .i64 7,.string gApp,.string ⟨#[103]⟩,.bool false,.slice none 0 0,.slice none 0 0,.string ⟨#[]⟩,.slice none 0 0,.slice none 0 0,.slice none 0 0,.slice none 0 0,.slice (some ⟨w.heap.size,0,none⟩) 1 1,.slice (some ⟨w.heap.size+1,0,none⟩) 1 1] 36)] w 2 _ rfl
 have HA:(exG w.heap.size (w.heap.size+1)).at_ X:=⟨Prs.nil X,Sl.nil X,Sl.nil X,Sl.nil X,Sl.nil X,Sl.nil X,Sl.at_block (E:=ER) (x:=⟨6,gWeb,⟨#[]⟩⟩) K0 trivial,Sl.at_block (E:=ER) (x:=⟨3,⟨#[]⟩,gApi⟩) K1 trivial⟩
 have HS:Sl EO X (.slice (some ⟨w.heap.size+1+1,0,none⟩) 1 1) [exG w.heap.size (w.heap.size+1)]:=Sl.at_block (E:=EO) K2 HA
 have CS:=fun s n W=>hide (aNe s n W)
 have CP:=fun W (h:Below X.heap.size X W) s t=>hide (aGy 6 s t W (L:=[exG w.heap.size (w.heap.size+1)]) (hL:=HS.below h) (fun o ho=>by obtain rfl:=List.mem_singleton.1 ho;exact aW7 _ _))
 have HB1:=hide B1
 have e1:=hide (ex_1 w.heap.size (w.heap.size+1))
 have e2:=hide (ex_2 w.heap.size (w.heap.size+1))
 have e3:=hide (ex_3 w.heap.size (w.heap.size+1))
 clear B1 K0 K1 K2 HA HS
 go_enter Tryz.func22,Tryz.ntmps22
 go_wp2_with fail
 rw [←hX]
 clear hX
 refine (aA5 ((CS _ _ _).out)).mono ?_
 rintro e x ⟨rfl,q,rfl⟩
 go_wp2_with fail
 refine (aA3 ((CP _ q.h gWeb ⟨3,gApp,gApi⟩).out)).mono ?_
 rintro e x ⟨rfl,q,rfl⟩
 rw [show Gr.permits (List.map OV.b [exG w.heap.size (w.heap.size+1)]) 6 gWeb ⟨3,gApp,gApi⟩=true from e1.out]
 go_wp2_with fail
 refine (aA3 ((CS _ _ _).out)).mono ?_
 rintro e x ⟨rfl,q,rfl⟩
 go_wp2_with fail
 refine (aA3 ((CP _ q.h gWeb ⟨3,gApp,gDb⟩).out)).mono ?_
 rintro e x ⟨rfl,q,rfl⟩
 rw [show Gr.permits (List.map OV.b [exG w.heap.size (w.heap.size+1)]) 6 gWeb ⟨3,gApp,gDb⟩=false from e2.out]
 go_wp2_with fail
 refine (aA3 ((CS _ _ _).out)).mono ?_
 rintro e x ⟨rfl,q,rfl⟩
 go_wp2_with fail
 refine (aA3 ((CP _ q.h gOps ⟨3,gApp,gApi⟩).out)).mono ?_
 rintro e x ⟨rfl,q,rfl⟩
 rw [show Gr.permits (List.map OV.b [exG w.heap.size (w.heap.size+1)]) 6 gOps ⟨3,gApp,gApi⟩=false from e3.out]
 go_wp2_with fail
 go_ret
 exact ⟨rfl,bb2 HB1.out q.h⟩
end Go.Proofs.YthnodpdiocppgaaGreatDoor
