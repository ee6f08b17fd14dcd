/-
  Walks: the document's Same (of objects).
-/
import Derived.Test.YthnodpdiocppgaaGreatDoorJ23
import Derived.Test.YthnodpdiocppgaaGreatDoorJ21
import Derived.Test.YthnodpdiocppgaaGreatDoorJ2
import Derived.Test.YthnodpdiocppgaaGreatDoorJ24
import Derived.Test.YthnodpdiocppgaaGreatDoorJ15
import Derived.BigQuiet
import Derived.Deep.CutRange
set_option maxHeartbeats 12800000
set_option linter.unusedVariables false
set_option linter.unusedSimpArgs false
set_option maxRecDepth 20000
namespace Go.Proofs.YthnodpdiocppgaaGreatDoor
open Go Go.RowKit Go.Shelf
attribute [local go_sem] aAu
def saO (x y:OV):Bool:=Ob.eqR x.ref y.ref&&(decide (x.good=y.good)&&((x.cls.toList == y.cls.toList)&&(decide (x.labels=y.labels)&&(decide (x.hosts=y.hosts) &&
 (Ob.eqL Ob.eqI x.ports y.ports&&(Ob.eqL Ob.sameLiV x.lis y.lis&&(Ob.eqL Ob.eqP x.pars y.pars&&(Ob.eqL Ob.sameRlV x.rules y.rules&&(Ob.eqL Ob.eqR x.frm y.frm&&Ob.eqL Ob.eqR x.tos y.tos)))))))))
def saG (x y:OV) (gx gy:Bool):Bool:=Ob.eqR x.ref y.ref&&(decide (gx=gy)&&((x.cls.toList == y.cls.toList)&&(decide (x.labels=y.labels)&&(decide (x.hosts=y.hosts) &&
 (Ob.eqL Ob.eqI x.ports y.ports&&(Ob.eqL Ob.sameLiV x.lis y.lis&&(Ob.eqL Ob.eqP x.pars y.pars&&(Ob.eqL Ob.sameRlV x.rules y.rules&&(Ob.eqL Ob.eqR x.frm y.frm&&Ob.eqL Ob.eqR x.tos y.tos)))))))))
theorem aWb (x y:OV):saO x y=Ob.sameO x.b y.b:=by
 unfold saO Ob.sameO OV.b
 dsimp only
 rw [aHk,aHl,aNo]
 have e:(x.good == y.good)=decide (x.good=y.good):=by cases x.good<;>cases y.good<;>rfl
 rw [e]
 generalize Ob.eqR x.ref y.ref=b1
 generalize decide (x.good=y.good)=b2
 generalize (x.cls.toList == y.cls.toList)=b3
 generalize decide (x.labels=y.labels)=b4
 generalize decide (x.hosts=y.hosts)=b5
 generalize decide (x.ports=y.ports)=b6
 generalize Ob.eqL Ob.sameLi (x.lis.map LiV.b) (y.lis.map LiV.b)=b7
 generalize Ob.eqL Ob.eqP x.pars y.pars=b8
 generalize Ob.eqL Ob.sameRl (x.rules.map RlV.b) (y.rules.map RlV.b)=b9
 cases b1<;>cases b2<;>cases b3<;>cases b4<;>cases b5<;>cases b6<;>cases b7<;>cases b8<;>cases b9<;>rfl
theorem aTg {x y:OV} {gx gy:Bool} (h:Ob.eqL Ob.eqI x.ports y.ports=false):saG x y gx gy=false:=by
 unfold saG
 rw [h]
 simp only [Bool.false_and,Bool.and_false]
theorem aWc {x y:OV} {gx gy:Bool} (h:Ob.eqL Ob.sameLiV x.lis y.lis=false):saG x y gx gy=false:=by
 unfold saG
 rw [h]
 simp only [Bool.false_and,Bool.and_false]
theorem aVf {x y:OV} {gx gy:Bool} (h:Ob.eqL Ob.eqP x.pars y.pars=false):saG x y gx gy=false:=by
 unfold saG
 rw [h]
 simp only [Bool.false_and,Bool.and_false]
theorem aTh {x y:OV} {gx gy:Bool} (h:Ob.eqL Ob.sameRlV x.rules y.rules=false):saG x y gx gy=false:=by
 unfold saG
 rw [h]
 simp only [Bool.false_and,Bool.and_false]
theorem aWd {x y:OV} {gx gy:Bool} (h:Ob.eqL Ob.eqR x.frm y.frm=false):saG x y gx gy=false:=by
 unfold saG
 rw [h]
 simp only [Bool.false_and,Bool.and_false]
theorem aWe {x y:OV} {gx gy:Bool} (h:Ob.eqL Ob.eqR x.tos y.tos=false):saG x y gx gy=false:=by
 unfold saG
 rw [h]
 simp only [Bool.false_and,Bool.and_false]
theorem aTi (x y:OV) (gx gy:Bool) (w:World) (hx:x.at_ w) (hy:y.at_ w) :
  Calls Tryz.prog 12 #[.agg #[.int .i64 x.ref.kind,.string x.ref.space,.string x.ref.name,.bool gx,x.vl,x.vp,.string x.cls,x.vi,x.vq,x.vh,x.vr,x.vf,x.vo],.agg #[.int .i64 y.ref.kind,.string y.ref.space,.string y.ref.name,.bool gy,y.vl,y.vp,.string y.cls,y.vi,y.vq,y.vh,y.vr,y.vf,y.vo]] w fun e w'=>e=.returned (.bool (saG x y gx gy))∧Below w.heap.size w w':=by
 obtain ⟨X,hX⟩:∃ z,z=(w.alloc (.cells #[.int .i64 x.ref.kind,.string x.ref.space,.string x.ref.name,.bool gx,x.vl,x.vp,.string x.cls,x.vi,x.vq,x.vh,x.vr,x.vf,x.vo] 36)).alloc (.cells #[.int .i64 y.ref.kind,.string y.ref.space,.string y.ref.name,.bool gy,y.vl,y.vp,.string y.cls,y.vi,y.vq,y.vh,y.vr,y.vf,y.vo] 36):=⟨_,rfl⟩
 have HB0:Hid (Below w.heap.size w ((w.alloc (.cells #[.int .i64 x.ref.kind,.string x.ref.space,.string x.ref.name,.bool gx,x.vl,x.vp,.string x.cls,x.vi,x.vq,x.vh,x.vr,x.vf,x.vo] 36)).alloc (.cells #[.int .i64 y.ref.kind,.string y.ref.space,.string y.ref.name,.bool gy,y.vl,y.vp,.string y.cls,y.vi,y.vq,y.vh,y.vr,y.vf,y.vo] 36))):=((Below.refl _ _).alloc (Nat.le_refl _) _).alloc (by simp) _
 have B1:Below w.heap.size w X:=by rw [hX];exact HB0.out
 have K0:X.heap[w.heap.size]?=some (.cells #[.int .i64 x.ref.kind,.string x.ref.space,.string x.ref.name,.bool gx,x.vl,x.vp,.string x.cls,x.vi,x.vq,x.vh,x.vr,x.vf,x.vo] 36):=by rw [hX];exact aA2 (aA7 w _) ((Below.refl _ _).alloc (Nat.le_refl _) _)
 have K1:X.heap[w.heap.size+1]?=some (.cells #[.int .i64 y.ref.kind,.string y.ref.space,.string y.ref.name,.bool gy,y.vl,y.vp,.string y.cls,y.vi,y.vq,y.vh,y.vr,y.vf,y.vo] 36):=by
  rw [hX]
  have:=aA7 (w.alloc (.cells #[.int .i64 x.ref.kind,.string x.ref.space,.string x.ref.name,.bool gx,x.vl,x.vp,.string x.cls,x.vi,x.vq,x.vh,x.vr,x.vf,x.vo] 36)) (.cells #[.int .i64 y.ref.kind,.string y.ref.space,.string y.ref.name,.bool gy,y.vl,y.vp,.string y.cls,y.vi,y.vq,y.vh,y.vr,y.vf,y.vo] 36)
  simpa using this
 have HKX:=hide K0
 have HKY:=hide K1
 have HB1:=hide B1
 have HX:=hide hx
 have HY:=hide hy
 obtain ⟨zv,hzv⟩:∃ z,z=saG x y gx gy:=⟨_,rfl⟩
 have HP:Hid (zv=(Ob.eqR x.ref y.ref&&(decide (gx=gy)&&((x.cls.toList == y.cls.toList)&&(decide (x.labels=y.labels)&&(decide (x.hosts=y.hosts) &&
  (Ob.eqL Ob.eqI x.ports y.ports&&(Ob.eqL Ob.sameLiV x.lis y.lis&&(Ob.eqL Ob.eqP x.pars y.pars&&(Ob.eqL Ob.sameRlV x.rules y.rules&&(Ob.eqL Ob.eqR x.frm y.frm&&Ob.eqL Ob.eqR x.tos y.tos))))))))))):=hzv
 have HNports:Hid (Ob.eqL Ob.eqI x.ports y.ports=false→zv=false):=fun h=>by rw [hzv];exact aTg h
 have HNlis:Hid (Ob.eqL Ob.sameLiV x.lis y.lis=false→zv=false):=fun h=>by rw [hzv];exact aWc h
 have HNpars:Hid (Ob.eqL Ob.eqP x.pars y.pars=false→zv=false):=fun h=>by rw [hzv];exact aVf h
 have HNrules:Hid (Ob.eqL Ob.sameRlV x.rules y.rules=false→zv=false):=fun h=>by rw [hzv];exact aTh h
 have HNfrm:Hid (Ob.eqL Ob.eqR x.frm y.frm=false→zv=false):=fun h=>by rw [hzv];exact aWd h
 have HNtos:Hid (Ob.eqL Ob.eqR x.tos y.tos=false→zv=false):=fun h=>by rw [hzv];exact aWe h
 rw [←hzv]
 clear hzv
 have C1:=fun W (h:Below X.heap.size X W)=>hide (aGo W x.vl y.vl x.labels y.labels (hx.labels.below (bb2 B1 h)) (hy.labels.below (bb2 B1 h)))
 have C2:=fun W (h:Below X.heap.size X W)=>hide (aIm W x.vh y.vh x.hosts y.hosts (hx.hosts.below (bb2 B1 h)) (hy.hosts.below (bb2 B1 h)))
 have EQ:∀ W,(Op.equalIn 10000 24 (rfV x.ref) (rfV y.ref)).run Tryz.prog W=.ok (Ob.eqR x.ref y.ref) W:=fun W=>by
  rw [aG8]
  unfold Ob.eqR
  simp only [aB3]
 clear B1 hx hy
 obtain ⟨_,_,_,_,_,b5,_,b7,b8,b9,b10,b11,b12⟩:=q13 K0
 obtain ⟨_,_,_,_,_,b5b,_,b7b,b8b,b9b,b10b,b11b,b12b⟩:=q13 K1
 clear K0 K1
 generalize decide (x.labels=y.labels)=y1 at *
 generalize decide (x.hosts=y.hosts)=y2 at *
 generalize Ob.eqR x.ref y.ref=e1 at *
 cases e1
 ·go_enter Tryz.func12,Tryz.ntmps12
  go_wp2_with fail
  go_ret
  exact ⟨aA1 (by rw [HP.out];simp),HB0.out⟩
 ·by_cases hg:gx=gy
  ·subst hg
   rw [decide_eq_true rfl] at HP
   cases hc:(x.cls.toList == y.cls.toList)
   ·rw [hc] at HP
    go_enter Tryz.func12,Tryz.ntmps12
    go_wp2_with fail
    go_ret
    exact ⟨aA1 (by rw [HP.out];simp),HB0.out⟩
   ·rw [hc] at HP
    go_enter Tryz.func12,Tryz.ntmps12
    go_wp2_with fail
    rw [←hX]
    clear hX
    cases y1
    ·refine (aA5 ((C1 _ (Below.refl _ _)).out)).mono ?_
     rintro e x ⟨rfl,q,rfl⟩
     go_wp2_with fail
     go_ret
     exact ⟨aA1 (by rw [HP.out];simp),bb2 HB1.out q.h⟩
    ·refine (aA5 ((C1 _ (Below.refl _ _)).out)).mono ?_
     rintro e x ⟨rfl,q,rfl⟩
     go_wp2_with fail
     cases y2
     ·refine (aA3 ((C2 _ q.h).out)).mono ?_
      rintro e x ⟨rfl,q,rfl⟩
      go_wp2_with fail
      go_ret
      exact ⟨aA1 (by rw [HP.out];simp),bb2 HB1.out q.h⟩
     ·cases hports:((x.ports.length:Int) != (y.ports.length:Int))
      ·have HL1:=hide (aDv hports)
       cases hlis:((x.lis.length:Int) != (y.lis.length:Int))
       ·have HL2:=hide (aDv hlis)
        cases hpars:((x.pars.length:Int) != (y.pars.length:Int))
        ·have HL3:=hide (aDv hpars)
         cases hrules:((x.rules.length:Int) != (y.rules.length:Int))
         ·have HL4:=hide (aDv hrules)
          cases hfrm:((x.frm.length:Int) != (y.frm.length:Int))
          ·have HL5:=hide (aDv hfrm)
           cases htos:((x.tos.length:Int) != (y.tos.length:Int))
           ·have HL6:=hide (aDv htos)
            refine (aA3 ((C2 _ q.h).out)).mono ?_
            rintro e x ⟨rfl,q,rfl⟩
            go_wp2_with fail
            clear hports hlis hpars hrules hfrm htos
            have HS0:Hid (zv=(Ob.eqL Ob.eqI x.ports y.ports&&(Ob.eqL Ob.sameLiV x.lis y.lis&&(Ob.eqL Ob.eqP x.pars y.pars&&(Ob.eqL Ob.sameRlV x.rules y.rules&&(Ob.eqL Ob.eqR x.frm y.frm&&Ob.eqL Ob.eqR x.tos y.tos)))))):=by
             unfold Hid
             rw [HP.out]
             simp
            clear HP
            clear b5 b5b b7 b7b b8 b8b b10 b10b b11 b11b b12 b12b
            go_loopw [5] (fun i wr=>∃ k:Nat,k≤x.ports.length∧i=.int .i64 k∧Hid (∀ j,j<k→∀ (h1:j<x.ports.length) (h2:j<y.ports.length),Ob.eqI x.ports[j] y.ports[j]=true)∧Below X.heap.size X wr) (fun i _=>x.ports.length - (intOf i).toNat)
            case atStart=>exact ⟨0,Nat.zero_le _,rfl,fun j hj=>absurd hj (by omega),q.h⟩
            case round =>
             clear q
             obtain ⟨k,hk,rfl,hall,hB⟩:=hrel
             have hBw:=bb2 HB1.out hB
             have hlen:=HX.out.ports.len
             have hlen2:=HY.out.ports.len
             have kb:=aA2 HKX.out hB
             have kc:=aA2 HKY.out hB
             have o1:wr.cell? ⟨w.heap.size,5,none⟩=some (.slice x.ap x.ports.length x.cp):=aA0 kb (i:=5) rfl
             have oq1:∀ q:GB wr,q.W.cell? ⟨w.heap.size,5,none⟩=some (.slice x.ap x.ports.length x.cp):=fun q=>aA0 (aA2 kb q.h) (i:=5) rfl
             have oq2:∀ q:GB wr,q.W.cell? ⟨w.heap.size+1,5,none⟩=some (.slice y.ap y.ports.length y.cp):=fun q=>aA0 (aA2 kc q.h) (i:=5) rfl
             clear kb kc
             by_cases hlt:k<x.ports.length
             ·have hlb:k<y.ports.length:=by rw [←HL1.out];exact hlt
              have hlt':(k:Int)<(x.ports.length:Int):=by omega
              have hlb':(k:Int)<(y.ports.length:Int):=by omega
              obtain ⟨hE,g,off,ha,hg,p0⟩:=oneI HX.out.ports hBw hlt
              obtain ⟨hE2,g2,off2,ha2,hg2,q0⟩:=oneI HY.out.ports hBw hlb
              have px0:=fun q:GB wr=>(q.h.cell (p:=⟨g,off+k,none⟩) (Nat.lt_of_lt_of_le hg hBw.size)).trans p0
              have py0:=fun q:GB wr=>(q.h.cell (p:=⟨g2,off2+k,none⟩) (Nat.lt_of_lt_of_le hg2 hBw.size)).trans q0
              rw [ha] at o1 oq1
              rw [ha2] at oq2
              have HT:Hid (Ob.eqI x.ports[k] y.ports[k]=true→∀ j,j<k+1→∀ (h1:j<x.ports.length) (h2:j<y.ports.length),Ob.eqI x.ports[j] y.ports[j]=true):=fun h=>aC9 hall.out (fun _ _=>h)
              have HG:Hid (Ob.eqI x.ports[k] y.ports[k]=false→zv=false):=fun h=>HNports.out (Ob.eqL_not x.ports y.ports k hlt hlb h)
              clear hall ha ha2 hg hg2 p0 q0
              clear hE hE2
              have HE:Hid (Ob.eqI x.ports[k] y.ports[k]=decide (x.ports[k]=y.ports[k])):=by unfold Hid Ob.eqI;rfl
              generalize Ob.eqI x.ports[k] y.ports[k]=e1 at *
              generalize x.ports[k]=s at *
              generalize y.ports[k]=t at *
              by_cases he:s=t
              ·subst he
               rw [decide_eq_true rfl] at HE
               have HT2:=hide (HT.out HE.out)
               clear HG HT HE
               go_wp2_with fail
               refine aA6 (by kernel_rfl) (by kernel_rfl) ?_
               repeat (first | go_big_quiet_step (fail) | quiet_step (fail))
               refine wpQuiet_nil ?_
               intro _ hw'
               obtain ⟨qq,hw2⟩:=hw'
               subst hw2
               have hq:=qq.h
               go_wp2_with fail
               exact ⟨⟨k+1,by omega,by go_num,HT2.out,bb2 hB hq⟩,by simp [intOf];omega⟩
              ·have he1:(s == t)=false:=by simpa using he
               have he2:(s != t)=true:=by simpa using he
               rw [decide_eq_false he] at HE
               have HG2:=hide (HG.out HE.out)
               clear HG HT HE he
               go_wp2_with fail
               refine aA6 (by kernel_rfl) (by kernel_rfl) ?_
               repeat (first | go_big_quiet_step (fail) | quiet_step (fail))
               refine wpQuiet_nil ?_
               intro _ hw'
               obtain ⟨qq,hw2⟩:=hw'
               subst hw2
               have hq:=qq.h
               go_wp2_with fail
               go_ret
               exact ⟨aA1 HG2.out.symm,bb2 (bb2 HB1.out hB) hq⟩
             ·obtain rfl:k=x.ports.length:=by omega
              have hlt':¬ (x.ports.length:Int)<(x.ports.length:Int):=by omega
              have HE1:Hid (Ob.eqL Ob.eqI x.ports y.ports=true):=Ob.eqL_yes x.ports y.ports HL1.out (fun j h1 h2=>hall.out j h1 h1 h2)
              clear hall
              go_wp2_with fail
              clear o1 oq1 oq2 hlen hlen2 hlt hlt' hk hBw
              go_loopw [6] (fun i wr=>∃ k:Nat,k≤x.lis.length∧i=.int .i64 k∧Hid (∀ j,j<k→∀ (h1:j<x.lis.length) (h2:j<y.lis.length),Ob.sameLiV x.lis[j] y.lis[j]=true)∧Below X.heap.size X wr) (fun i _=>x.lis.length - (intOf i).toNat)
              case atStart=>exact ⟨0,Nat.zero_le _,rfl,fun j hj=>absurd hj (by omega),hB⟩
              case round =>
               clear hB
               obtain ⟨k,hk,rfl,hall,hB⟩:=hrel
               have hBw:=bb2 HB1.out hB
               have hlen:=HX.out.lis.len
               have hlen2:=HY.out.lis.len
               have kb:=aA2 HKX.out hB
               have kc:=aA2 HKY.out hB
               have o1:wr.cell? ⟨w.heap.size,7,none⟩=some (.slice x.ai x.lis.length x.ci):=aA0 kb (i:=7) rfl
               have oq1:∀ q:GB wr,q.W.cell? ⟨w.heap.size,7,none⟩=some (.slice x.ai x.lis.length x.ci):=fun q=>aA0 (aA2 kb q.h) (i:=7) rfl
               have oq2:∀ q:GB wr,q.W.cell? ⟨w.heap.size+1,7,none⟩=some (.slice y.ai y.lis.length y.ci):=fun q=>aA0 (aA2 kc q.h) (i:=7) rfl
               clear kb kc
               by_cases hlt:k<x.lis.length
               ·have hlb:k<y.lis.length:=by rw [←HL2.out];exact hlt
                have hlt':(k:Int)<(x.lis.length:Int):=by omega
                have hlb':(k:Int)<(y.lis.length:Int):=by omega
                obtain ⟨hE,g,off,ha,hg,p0,p1,p2,p3,p4,p5,p6,p7,p8⟩:=aE5 HX.out.lis hBw hlt
                obtain ⟨hE2,g2,off2,ha2,hg2,q0,q1,q2,q3,q4,q5,q6,q7,q8⟩:=aE5 HY.out.lis hBw hlb
                have px0:=fun q:GB wr=>(q.h.cell (p:=⟨g,off+k*9,none⟩) (Nat.lt_of_lt_of_le hg hBw.size)).trans p0
                have px1:=fun q:GB wr=>(q.h.cell (p:=⟨g,off+k*9+1,none⟩) (Nat.lt_of_lt_of_le hg hBw.size)).trans p1
                have px2:=fun q:GB wr=>(q.h.cell (p:=⟨g,off+k*9+2,none⟩) (Nat.lt_of_lt_of_le hg hBw.size)).trans p2
                have px3:=fun q:GB wr=>(q.h.cell (p:=⟨g,off+k*9+3,none⟩) (Nat.lt_of_lt_of_le hg hBw.size)).trans p3
                have px4:=fun q:GB wr=>(q.h.cell (p:=⟨g,off+k*9+4,none⟩) (Nat.lt_of_lt_of_le hg hBw.size)).trans p4
                have px5:=fun q:GB wr=>(q.h.cell (p:=⟨g,off+k*9+5,none⟩) (Nat.lt_of_lt_of_le hg hBw.size)).trans p5
                have px6:=fun q:GB wr=>(q.h.cell (p:=⟨g,off+k*9+6,none⟩) (Nat.lt_of_lt_of_le hg hBw.size)).trans p6
                have px7:=fun q:GB wr=>(q.h.cell (p:=⟨g,off+k*9+7,none⟩) (Nat.lt_of_lt_of_le hg hBw.size)).trans p7
                have px8:=fun q:GB wr=>(q.h.cell (p:=⟨g,off+k*9+8,none⟩) (Nat.lt_of_lt_of_le hg hBw.size)).trans p8
                have py0:=fun q:GB wr=>(q.h.cell (p:=⟨g2,off2+k*9,none⟩) (Nat.lt_of_lt_of_le hg2 hBw.size)).trans q0
                have py1:=fun q:GB wr=>(q.h.cell (p:=⟨g2,off2+k*9+1,none⟩) (Nat.lt_of_lt_of_le hg2 hBw.size)).trans q1
                have py2:=fun q:GB wr=>(q.h.cell (p:=⟨g2,off2+k*9+2,none⟩) (Nat.lt_of_lt_of_le hg2 hBw.size)).trans q2
                have py3:=fun q:GB wr=>(q.h.cell (p:=⟨g2,off2+k*9+3,none⟩) (Nat.lt_of_lt_of_le hg2 hBw.size)).trans q3
                have py4:=fun q:GB wr=>(q.h.cell (p:=⟨g2,off2+k*9+4,none⟩) (Nat.lt_of_lt_of_le hg2 hBw.size)).trans q4
                have py5:=fun q:GB wr=>(q.h.cell (p:=⟨g2,off2+k*9+5,none⟩) (Nat.lt_of_lt_of_le hg2 hBw.size)).trans q5
                have py6:=fun q:GB wr=>(q.h.cell (p:=⟨g2,off2+k*9+6,none⟩) (Nat.lt_of_lt_of_le hg2 hBw.size)).trans q6
                have py7:=fun q:GB wr=>(q.h.cell (p:=⟨g2,off2+k*9+7,none⟩) (Nat.lt_of_lt_of_le hg2 hBw.size)).trans q7
                have py8:=fun q:GB wr=>(q.h.cell (p:=⟨g2,off2+k*9+8,none⟩) (Nat.lt_of_lt_of_le hg2 hBw.size)).trans q8
                rw [ha] at o1 oq1
                rw [ha2] at oq2
                have HT:Hid (Ob.sameLiV x.lis[k] y.lis[k]=true→∀ j,j<k+1→∀ (h1:j<x.lis.length) (h2:j<y.lis.length),Ob.sameLiV x.lis[j] y.lis[j]=true):=fun h=>aC9 hall.out (fun _ _=>h)
                have HG:Hid (Ob.sameLiV x.lis[k] y.lis[k]=false→zv=false):=fun h=>HNlis.out (Ob.eqL_not x.lis y.lis k hlt hlb h)
                clear hall ha ha2 hg hg2 p0 p1 p2 p3 p4 p5 p6 p7 p8 q0 q1 q2 q3 q4 q5 q6 q7 q8
                have hE1:Sl EN wr x.lis[k].v x.lis[k].nd:=hE
                have hE3:Sl EN wr y.lis[k].v y.lis[k].nd:=hE2
                have C1:=fun W (h:Below wr.heap.size wr W)=>hide (aPc x.lis[k].v y.lis[k].v x.lis[k].nd y.lis[k].nd W (hE1.below h) (hE3.below h))
                have HP:Hid (Ob.sameLiV x.lis[k] y.lis[k]=((x.lis[k].name.toList == y.lis[k].name.toList)&&((x.lis[k].port == y.lis[k].port)&&((x.lis[k].tls == y.lis[k].tls)&&((x.lis[k].host.toList == y.lis[k].host.toList)&&(Ob.eqR x.lis[k].cert y.lis[k].cert&&((x.lis[k].frm == y.lis[k].frm)&&La.sameL (nbs x.lis[k].nd) (nbs y.lis[k].nd)))))))):=rfl
                have EQ:∀ W,(Op.equalIn 10000 24 (rfV x.lis[k].cert) (rfV y.lis[k].cert)).run Tryz.prog W=.ok (Ob.eqR x.lis[k].cert y.lis[k].cert) W:=fun W=>by
                 rw [aG8]
                 unfold Ob.eqR
                 simp only [aB3]
                clear hE hE2 hE1 hE3
                generalize Ob.sameLiV x.lis[k] y.lis[k]=zz at *
                generalize La.sameL (nbs x.lis[k].nd) (nbs y.lis[k].nd)=y1 at *
                generalize Ob.eqR x.lis[k].cert y.lis[k].cert=e1 at *
                generalize x.lis[k]=s at *
                generalize y.lis[k]=t at *
                obtain ⟨n0,p0,t0,h0,⟨ck0,cs0,cn0⟩,f0,nd0,a0,c0⟩:=s
                obtain ⟨n1,p1,t1,h1,⟨ck1,cs1,cn1⟩,f1,nd1,a1,c1⟩:=t
                dsimp only [LiV.v,rfV] at *
                go_wp2_with fail
                refine aId [some 125,some 126,some 127,some 128,some 129,some 130,some 131,some 132,some 133,some 134,some 7,some 8] (fun f W=>∃ ga gb:Nat,f 10=.pointer (some ⟨ga,0,none⟩)∧f 11=.pointer (some ⟨gb,0,none⟩)∧W.heap[ga]?=some (.cells #[.string n0,.int .i64 p0,.bool t0,.string h0,.int .i64 ck0,.string cs0,.string cn0,.int .i64 f0,.slice a0 nd0.length c0] 67)∧W.heap[gb]?=some (.cells #[.string n1,.int .i64 p1,.bool t1,.string h1,.int .i64 ck1,.string cs1,.string cn1,.int .i64 f1,.slice a1 nd1.length c1] 67)∧Below wr.heap.size wr W) ?_ ?_
                ·refine aNd (fun W=>Below wr.heap.size wr W) (by kernel_rfl) ?_
                 refine aCg (i:=0) (v:=.pointer (some ⟨w.heap.size,7,none⟩)) rfl (by kernel_rfl) (by kernel_rfl) (by kernel_rfl) (fun _ _ _ h=>by cases h.1) (Or.inl ⟨by rfl,fun w1 hS=>?_⟩) ?_
                 ·(try dsimp only at hS)
                  go_simp
                 simp only [Act.put,zzB,zzC,zzD]
                 refine aCg (i:=1) (v:=.slice (some ⟨g,off,none⟩) x.lis.length x.ci) rfl (by kernel_rfl) (by kernel_rfl) (by kernel_rfl) (fun _ _ _ h=>by cases h.1) (Or.inl ⟨by rfl,fun w1 hS=>?_⟩) ?_
                 ·(try dsimp only at hS)
                  have e0:=oq1 ⟨w1,hS⟩
                  go_simp
                 simp only [Act.put,zzB,zzC,zzD]
                 refine aCg (i:=2) (v:=.int .i64 k) rfl (by kernel_rfl) (by kernel_rfl) (by kernel_rfl) (fun _ _ _ h=>by cases h.1) (Or.inl ⟨by rfl,fun w1 hS=>?_⟩) ?_
                 ·(try dsimp only at hS)
                  go_simp
                 simp only [Act.put,zzB,zzC,zzD]
                 refine aCg (i:=3) (v:=.pointer (some ⟨g,off+k*9,none⟩)) rfl (by kernel_rfl) (by kernel_rfl) (by kernel_rfl) (fun _ _ _ h=>by cases h.1) (Or.inl ⟨by rfl,fun w1 hS=>?_⟩) ?_
                 ·(try dsimp only at hS)
                  go_simp
                 simp only [Act.put,zzB,zzC,zzD]
                 refine aCg (i:=4) (v:=.agg #[.string n0,.int .i64 p0,.bool t0,.string h0,.int .i64 ck0,.string cs0,.string cn0,.int .i64 f0,.slice a0 nd0.length c0]) rfl (by kernel_rfl) (by kernel_rfl) (by kernel_rfl) (fun _ _ _ h=>by cases h.1) (Or.inl ⟨by rfl,fun w1 hS=>?_⟩) ?_
                 ·(try dsimp only at hS)
                  have e0:=px0 ⟨w1,hS⟩
                  have e1:=px1 ⟨w1,hS⟩
                  have e2:=px2 ⟨w1,hS⟩
                  have e3:=px3 ⟨w1,hS⟩
                  have e4:=px4 ⟨w1,hS⟩
                  have e5:=px5 ⟨w1,hS⟩
                  have e6:=px6 ⟨w1,hS⟩
                  have e7:=px7 ⟨w1,hS⟩
                  have e8:=px8 ⟨w1,hS⟩
                  go_simp
                 simp only [Act.put,zzB,zzC,zzD]
                 refine aCg (i:=5) (v:=.pointer (some ⟨(w.heap.size+1),7,none⟩)) rfl (by kernel_rfl) (by kernel_rfl) (by kernel_rfl) (fun _ _ _ h=>by cases h.1) (Or.inl ⟨by rfl,fun w1 hS=>?_⟩) ?_
                 ·(try dsimp only at hS)
                  go_simp
                 simp only [Act.put,zzB,zzC,zzD]
                 refine aCg (i:=6) (v:=.slice (some ⟨g2,off2,none⟩) y.lis.length y.ci) rfl (by kernel_rfl) (by kernel_rfl) (by kernel_rfl) (fun _ _ _ h=>by cases h.1) (Or.inl ⟨by rfl,fun w1 hS=>?_⟩) ?_
                 ·(try dsimp only at hS)
                  have e0:=oq2 ⟨w1,hS⟩
                  go_simp
                 simp only [Act.put,zzB,zzC,zzD]
                 refine aCg (i:=7) (v:=.int .i64 k) rfl (by kernel_rfl) (by kernel_rfl) (by kernel_rfl) (fun _ _ _ h=>by cases h.1) (Or.inl ⟨by rfl,fun w1 hS=>?_⟩) ?_
                 ·(try dsimp only at hS)
                  go_simp
                 simp only [Act.put,zzB,zzC,zzD]
                 refine aCg (i:=8) (v:=.pointer (some ⟨g2,off2+k*9,none⟩)) rfl (by kernel_rfl) (by kernel_rfl) (by kernel_rfl) (fun _ _ _ h=>by cases h.1) (Or.inl ⟨by rfl,fun w1 hS=>?_⟩) ?_
                 ·(try dsimp only at hS)
                  go_simp
                 simp only [Act.put,zzB,zzC,zzD]
                 refine aCg (i:=9) (v:=.agg #[.string n1,.int .i64 p1,.bool t1,.string h1,.int .i64 ck1,.string cs1,.string cn1,.int .i64 f1,.slice a1 nd1.length c1]) rfl (by kernel_rfl) (by kernel_rfl) (by kernel_rfl) (fun _ _ _ h=>by cases h.1) (Or.inl ⟨by rfl,fun w1 hS=>?_⟩) ?_
                 ·(try dsimp only at hS)
                  have e0:=py0 ⟨w1,hS⟩
                  have e1:=py1 ⟨w1,hS⟩
                  have e2:=py2 ⟨w1,hS⟩
                  have e3:=py3 ⟨w1,hS⟩
                  have e4:=py4 ⟨w1,hS⟩
                  have e5:=py5 ⟨w1,hS⟩
                  have e6:=py6 ⟨w1,hS⟩
                  have e7:=py7 ⟨w1,hS⟩
                  have e8:=py8 ⟨w1,hS⟩
                  go_simp
                 simp only [Act.put,zzB,zzC,zzD]
                 refine aD4 (rs:=[10,11]) (by kernel_rfl) (by simp) ((Below.refl _ _).drew) (fun i hi=>?_)
                 have hi2:i=10∨i=11:=by simpa using hi
                 clear hi
                 rcases hi2 with rfl | rfl
                 ·refine aAb rfl (by rfl) (fun K hK=>?_)
                  go_simp
                  refine hK _ _ ?_
                  clear hK K
                  refine aD4 (rs:=[11]) (by kernel_rfl) (by simp) (((Below.refl _ _).drew).alloc (Nat.le_refl _) _) (fun i hi=>?_)
                  obtain rfl:i=11:=by simpa using hi
                  clear hi
                  refine aAb rfl (by rfl) (fun K hK=>?_)
                  go_simp
                  refine hK _ _ ?_
                  clear hK K
                  change wpS _ _ _ _ _ _ _ _ (((wr.drew).alloc (.cells #[.string ⟨#[]⟩,.int .i64 0,.bool false,.string ⟨#[]⟩,.int .i64 0,.string ⟨#[]⟩,.string ⟨#[]⟩,.int .i64 0,.slice none 0 0] 67)).alloc (.cells #[.string ⟨#[]⟩,.int .i64 0,.bool false,.string ⟨#[]⟩,.int .i64 0,.string ⟨#[]⟩,.string ⟨#[]⟩,.int .i64 0,.slice none 0 0] 67))
                  have HB:Below wr.heap.size wr (((wr.drew).alloc (.cells #[.string ⟨#[]⟩,.int .i64 0,.bool false,.string ⟨#[]⟩,.int .i64 0,.string ⟨#[]⟩,.string ⟨#[]⟩,.int .i64 0,.slice none 0 0] 67)).alloc (.cells #[.string ⟨#[]⟩,.int .i64 0,.bool false,.string ⟨#[]⟩,.int .i64 0,.string ⟨#[]⟩,.string ⟨#[]⟩,.int .i64 0,.slice none 0 0] 67)):=(((Below.refl _ _).drew).alloc (Nat.le_refl _) _).alloc (by simp) _
                  have z1:(((wr.drew).alloc (.cells #[.string ⟨#[]⟩,.int .i64 0,.bool false,.string ⟨#[]⟩,.int .i64 0,.string ⟨#[]⟩,.string ⟨#[]⟩,.int .i64 0,.slice none 0 0] 67)).alloc (.cells #[.string ⟨#[]⟩,.int .i64 0,.bool false,.string ⟨#[]⟩,.int .i64 0,.string ⟨#[]⟩,.string ⟨#[]⟩,.int .i64 0,.slice none 0 0] 67)).heap[wr.heap.size]?=some (.cells #[.string ⟨#[]⟩,.int .i64 0,.bool false,.string ⟨#[]⟩,.int .i64 0,.string ⟨#[]⟩,.string ⟨#[]⟩,.int .i64 0,.slice none 0 0] 67):=aA2 (aA7 (wr.drew) _) ((Below.refl _ _).alloc (Nat.le_refl _) _)
                  have z2:(((wr.drew).alloc (.cells #[.string ⟨#[]⟩,.int .i64 0,.bool false,.string ⟨#[]⟩,.int .i64 0,.string ⟨#[]⟩,.string ⟨#[]⟩,.int .i64 0,.slice none 0 0] 67)).alloc (.cells #[.string ⟨#[]⟩,.int .i64 0,.bool false,.string ⟨#[]⟩,.int .i64 0,.string ⟨#[]⟩,.string ⟨#[]⟩,.int .i64 0,.slice none 0 0] 67)).heap[wr.heap.size+1]?=some (.cells #[.string ⟨#[]⟩,.int .i64 0,.bool false,.string ⟨#[]⟩,.int .i64 0,.string ⟨#[]⟩,.string ⟨#[]⟩,.int .i64 0,.slice none 0 0] 67):=by
                   have:=aA7 ((wr.drew).alloc (.cells #[.string ⟨#[]⟩,.int .i64 0,.bool false,.string ⟨#[]⟩,.int .i64 0,.string ⟨#[]⟩,.string ⟨#[]⟩,.int .i64 0,.slice none 0 0] 67)) (.cells #[.string ⟨#[]⟩,.int .i64 0,.bool false,.string ⟨#[]⟩,.int .i64 0,.string ⟨#[]⟩,.string ⟨#[]⟩,.int .i64 0,.slice none 0 0] 67)
                   simpa using this
                  generalize ((wr.drew).alloc (.cells #[.string ⟨#[]⟩,.int .i64 0,.bool false,.string ⟨#[]⟩,.int .i64 0,.string ⟨#[]⟩,.string ⟨#[]⟩,.int .i64 0,.slice none 0 0] 67)).alloc (.cells #[.string ⟨#[]⟩,.int .i64 0,.bool false,.string ⟨#[]⟩,.int .i64 0,.string ⟨#[]⟩,.string ⟨#[]⟩,.int .i64 0,.slice none 0 0] 67)=V at *
                  have nab:wr.heap.size≠(wr.heap.size+1):=by omega
                  have hBga:wr.heap.size≤wr.heap.size:=by omega
                  have hBgb:wr.heap.size≤(wr.heap.size+1):=by omega
                  have zga:=z1
                  have zgb:=z2
                  clear z1 z2
                  refine aD4 (rs:=[12]) (by kernel_rfl) (by simp) HB (fun i hi=>?_)
                  obtain rfl:i=12:=by simpa using hi
                  clear hi
                  have lz:=aAl zga
                  have HZga:=hide zga
                  obtain ⟨y0,y1,y2,y3,y4,y5,y6,y7,y8⟩:_∧_∧_∧_∧_∧_∧_∧_∧_:=⟨aA0 zga (i:=0) rfl,aA0 zga (i:=1) rfl,aA0 zga (i:=2) rfl,aA0 zga (i:=3) rfl,aA0 zga (i:=4) rfl,aA0 zga (i:=5) rfl,aA0 zga (i:=6) rfl,aA0 zga (i:=7) rfl,aA0 zga (i:=8) rfl⟩
                  refine aAb rfl (by rfl) (fun K hK=>?_)
                  go_simp
                  refine hK _ _ ?_
                  clear hK K lz y0 y1 y2 y3 y4 y5 y6 y7 y8
                  change wpS _ _ _ _ _ _ _ _ (setL V wr.heap.size 0 [.string n0,.int .i64 p0,.bool t0,.string h0,.int .i64 ck0,.string cs0,.string cn0,.int .i64 f0,.slice a0 nd0.length c0])
                  have kga:=aB2 [.string n0,.int .i64 p0,.bool t0,.string h0,.int .i64 ck0,.string cs0,.string cn0,.int .i64 f0,.slice a0 nd0.length c0] HZga.out rfl
                  have qgb:=(aCf (nab.symm) [.string n0,.int .i64 p0,.bool t0,.string h0,.int .i64 ck0,.string cs0,.string cn0,.int .i64 f0,.slice a0 nd0.length c0] V 0).trans zgb
                  have HB2:=aAh hBga [.string n0,.int .i64 p0,.bool t0,.string h0,.int .i64 ck0,.string cs0,.string cn0,.int .i64 f0,.slice a0 nd0.length c0] V 0 HB
                  clear HZga zga HB zgb
                  generalize setL V wr.heap.size 0 [.string n0,.int .i64 p0,.bool t0,.string h0,.int .i64 ck0,.string cs0,.string cn0,.int .i64 f0,.slice a0 nd0.length c0]=V0 at *
                  have zgb:=qgb
                  have HB:=HB2
                  clear qgb HB2
                  refine aD4 (rs:=[13]) (by kernel_rfl) (by simp) HB (fun i hi=>?_)
                  obtain rfl:i=13:=by simpa using hi
                  clear hi
                  have lz:=aAl zgb
                  have HZgb:=hide zgb
                  obtain ⟨y0,y1,y2,y3,y4,y5,y6,y7,y8⟩:_∧_∧_∧_∧_∧_∧_∧_∧_:=⟨aA0 zgb (i:=0) rfl,aA0 zgb (i:=1) rfl,aA0 zgb (i:=2) rfl,aA0 zgb (i:=3) rfl,aA0 zgb (i:=4) rfl,aA0 zgb (i:=5) rfl,aA0 zgb (i:=6) rfl,aA0 zgb (i:=7) rfl,aA0 zgb (i:=8) rfl⟩
                  refine aAb rfl (by rfl) (fun K hK=>?_)
                  go_simp
                  refine hK _ _ ?_
                  clear hK K lz y0 y1 y2 y3 y4 y5 y6 y7 y8
                  change wpS _ _ _ _ _ _ _ _ (setL V0 (wr.heap.size+1) 0 [.string n1,.int .i64 p1,.bool t1,.string h1,.int .i64 ck1,.string cs1,.string cn1,.int .i64 f1,.slice a1 nd1.length c1])
                  have kgb:=aB2 [.string n1,.int .i64 p1,.bool t1,.string h1,.int .i64 ck1,.string cs1,.string cn1,.int .i64 f1,.slice a1 nd1.length c1] HZgb.out rfl
                  have qga:=(aCf (nab) [.string n1,.int .i64 p1,.bool t1,.string h1,.int .i64 ck1,.string cs1,.string cn1,.int .i64 f1,.slice a1 nd1.length c1] V0 0).trans kga
                  have HB2:=aAh hBgb [.string n1,.int .i64 p1,.bool t1,.string h1,.int .i64 ck1,.string cs1,.string cn1,.int .i64 f1,.slice a1 nd1.length c1] V0 0 HB
                  clear HZgb zgb HB kga
                  generalize setL V0 (wr.heap.size+1) 0 [.string n1,.int .i64 p1,.bool t1,.string h1,.int .i64 ck1,.string cs1,.string cn1,.int .i64 f1,.slice a1 nd1.length c1]=V1 at *
                  have kga:=qga
                  have HB:=HB2
                  clear qga HB2
                  refine aNq (by kernel_rfl) HB ⟨rfl,(fun i=>([.pointer (some ⟨w.heap.size,7,none⟩),.slice (some ⟨g,off,none⟩) x.lis.length x.ci,.int .i64 k,.pointer (some ⟨g,off+k*9,none⟩),.agg #[.string n0,.int .i64 p0,.bool t0,.string h0,.int .i64 ck0,.string cs0,.string cn0,.int .i64 f0,.slice a0 nd0.length c0],.pointer (some ⟨(w.heap.size+1),7,none⟩),.slice (some ⟨g2,off2,none⟩) y.lis.length y.ci,.int .i64 k,.pointer (some ⟨g2,off2+k*9,none⟩),.agg #[.string n1,.int .i64 p1,.bool t1,.string h1,.int .i64 ck1,.string cs1,.string cn1,.int .i64 f1,.slice a1 nd1.length c1],.pointer (some ⟨wr.heap.size,0,none⟩),.pointer (some ⟨(wr.heap.size+1),0,none⟩)]:List Value).getD i undef),(by simp only [putF,Act.put,zzB,zzC,zzD,Nat.reduceAdd,List.getD_cons_zero,List.getD_cons_succ]),wr.heap.size,(wr.heap.size+1),rfl,rfl,kga,kgb,HB⟩
                 ·refine aAb rfl (by rfl) (fun K hK=>?_)
                  go_simp
                  refine hK _ _ ?_
                  clear hK K
                  refine aD4 (rs:=[10]) (by kernel_rfl) (by simp) (((Below.refl _ _).drew).alloc (Nat.le_refl _) _) (fun i hi=>?_)
                  obtain rfl:i=10:=by simpa using hi
                  clear hi
                  refine aAb rfl (by rfl) (fun K hK=>?_)
                  go_simp
                  refine hK _ _ ?_
                  clear hK K
                  change wpS _ _ _ _ _ _ _ _ (((wr.drew).alloc (.cells #[.string ⟨#[]⟩,.int .i64 0,.bool false,.string ⟨#[]⟩,.int .i64 0,.string ⟨#[]⟩,.string ⟨#[]⟩,.int .i64 0,.slice none 0 0] 67)).alloc (.cells #[.string ⟨#[]⟩,.int .i64 0,.bool false,.string ⟨#[]⟩,.int .i64 0,.string ⟨#[]⟩,.string ⟨#[]⟩,.int .i64 0,.slice none 0 0] 67))
                  have HB:Below wr.heap.size wr (((wr.drew).alloc (.cells #[.string ⟨#[]⟩,.int .i64 0,.bool false,.string ⟨#[]⟩,.int .i64 0,.string ⟨#[]⟩,.string ⟨#[]⟩,.int .i64 0,.slice none 0 0] 67)).alloc (.cells #[.string ⟨#[]⟩,.int .i64 0,.bool false,.string ⟨#[]⟩,.int .i64 0,.string ⟨#[]⟩,.string ⟨#[]⟩,.int .i64 0,.slice none 0 0] 67)):=(((Below.refl _ _).drew).alloc (Nat.le_refl _) _).alloc (by simp) _
                  have z1:(((wr.drew).alloc (.cells #[.string ⟨#[]⟩,.int .i64 0,.bool false,.string ⟨#[]⟩,.int .i64 0,.string ⟨#[]⟩,.string ⟨#[]⟩,.int .i64 0,.slice none 0 0] 67)).alloc (.cells #[.string ⟨#[]⟩,.int .i64 0,.bool false,.string ⟨#[]⟩,.int .i64 0,.string ⟨#[]⟩,.string ⟨#[]⟩,.int .i64 0,.slice none 0 0] 67)).heap[wr.heap.size]?=some (.cells #[.string ⟨#[]⟩,.int .i64 0,.bool false,.string ⟨#[]⟩,.int .i64 0,.string ⟨#[]⟩,.string ⟨#[]⟩,.int .i64 0,.slice none 0 0] 67):=aA2 (aA7 (wr.drew) _) ((Below.refl _ _).alloc (Nat.le_refl _) _)
                  have z2:(((wr.drew).alloc (.cells #[.string ⟨#[]⟩,.int .i64 0,.bool false,.string ⟨#[]⟩,.int .i64 0,.string ⟨#[]⟩,.string ⟨#[]⟩,.int .i64 0,.slice none 0 0] 67)).alloc (.cells #[.string ⟨#[]⟩,.int .i64 0,.bool false,.string ⟨#[]⟩,.int .i64 0,.string ⟨#[]⟩,.string ⟨#[]⟩,.int .i64 0,.slice none 0 0] 67)).heap[wr.heap.size+1]?=some (.cells #[.string ⟨#[]⟩,.int .i64 0,.bool false,.string ⟨#[]⟩,.int .i64 0,.string ⟨#[]⟩,.string ⟨#[]⟩,.int .i64 0,.slice none 0 0] 67):=by
                   have:=aA7 ((wr.drew).alloc (.cells #[.string ⟨#[]⟩,.int .i64 0,.bool false,.string ⟨#[]⟩,.int .i64 0,.string ⟨#[]⟩,.string ⟨#[]⟩,.int .i64 0,.slice none 0 0] 67)) (.cells #[.string ⟨#[]⟩,.int .i64 0,.bool false,.string ⟨#[]⟩,.int .i64 0,.string ⟨#[]⟩,.string ⟨#[]⟩,.int .i64 0,.slice none 0 0] 67)
                   simpa using this
                  generalize ((wr.drew).alloc (.cells #[.string ⟨#[]⟩,.int .i64 0,.bool false,.string ⟨#[]⟩,.int .i64 0,.string ⟨#[]⟩,.string ⟨#[]⟩,.int .i64 0,.slice none 0 0] 67)).alloc (.cells #[.string ⟨#[]⟩,.int .i64 0,.bool false,.string ⟨#[]⟩,.int .i64 0,.string ⟨#[]⟩,.string ⟨#[]⟩,.int .i64 0,.slice none 0 0] 67)=V at *
                  have nab:(wr.heap.size+1)≠wr.heap.size:=by omega
                  have hBga:wr.heap.size≤(wr.heap.size+1):=by omega
                  have hBgb:wr.heap.size≤wr.heap.size:=by omega
                  have zgb:=z1
                  have zga:=z2
                  clear z1 z2
                  refine aD4 (rs:=[12]) (by kernel_rfl) (by simp) HB (fun i hi=>?_)
                  obtain rfl:i=12:=by simpa using hi
                  clear hi
                  have lz:=aAl zga
                  have HZga:=hide zga
                  obtain ⟨y0,y1,y2,y3,y4,y5,y6,y7,y8⟩:_∧_∧_∧_∧_∧_∧_∧_∧_:=⟨aA0 zga (i:=0) rfl,aA0 zga (i:=1) rfl,aA0 zga (i:=2) rfl,aA0 zga (i:=3) rfl,aA0 zga (i:=4) rfl,aA0 zga (i:=5) rfl,aA0 zga (i:=6) rfl,aA0 zga (i:=7) rfl,aA0 zga (i:=8) rfl⟩
                  refine aAb rfl (by rfl) (fun K hK=>?_)
                  go_simp
                  refine hK _ _ ?_
                  clear hK K lz y0 y1 y2 y3 y4 y5 y6 y7 y8
                  change wpS _ _ _ _ _ _ _ _ (setL V (wr.heap.size+1) 0 [.string n0,.int .i64 p0,.bool t0,.string h0,.int .i64 ck0,.string cs0,.string cn0,.int .i64 f0,.slice a0 nd0.length c0])
                  have kga:=aB2 [.string n0,.int .i64 p0,.bool t0,.string h0,.int .i64 ck0,.string cs0,.string cn0,.int .i64 f0,.slice a0 nd0.length c0] HZga.out rfl
                  have qgb:=(aCf (nab.symm) [.string n0,.int .i64 p0,.bool t0,.string h0,.int .i64 ck0,.string cs0,.string cn0,.int .i64 f0,.slice a0 nd0.length c0] V 0).trans zgb
                  have HB2:=aAh hBga [.string n0,.int .i64 p0,.bool t0,.string h0,.int .i64 ck0,.string cs0,.string cn0,.int .i64 f0,.slice a0 nd0.length c0] V 0 HB
                  clear HZga zga HB zgb
                  generalize setL V (wr.heap.size+1) 0 [.string n0,.int .i64 p0,.bool t0,.string h0,.int .i64 ck0,.string cs0,.string cn0,.int .i64 f0,.slice a0 nd0.length c0]=V0 at *
                  have zgb:=qgb
                  have HB:=HB2
                  clear qgb HB2
                  refine aD4 (rs:=[13]) (by kernel_rfl) (by simp) HB (fun i hi=>?_)
                  obtain rfl:i=13:=by simpa using hi
                  clear hi
                  have lz:=aAl zgb
                  have HZgb:=hide zgb
                  obtain ⟨y0,y1,y2,y3,y4,y5,y6,y7,y8⟩:_∧_∧_∧_∧_∧_∧_∧_∧_:=⟨aA0 zgb (i:=0) rfl,aA0 zgb (i:=1) rfl,aA0 zgb (i:=2) rfl,aA0 zgb (i:=3) rfl,aA0 zgb (i:=4) rfl,aA0 zgb (i:=5) rfl,aA0 zgb (i:=6) rfl,aA0 zgb (i:=7) rfl,aA0 zgb (i:=8) rfl⟩
                  refine aAb rfl (by rfl) (fun K hK=>?_)
                  go_simp
                  refine hK _ _ ?_
                  clear hK K lz y0 y1 y2 y3 y4 y5 y6 y7 y8
                  change wpS _ _ _ _ _ _ _ _ (setL V0 wr.heap.size 0 [.string n1,.int .i64 p1,.bool t1,.string h1,.int .i64 ck1,.string cs1,.string cn1,.int .i64 f1,.slice a1 nd1.length c1])
                  have kgb:=aB2 [.string n1,.int .i64 p1,.bool t1,.string h1,.int .i64 ck1,.string cs1,.string cn1,.int .i64 f1,.slice a1 nd1.length c1] HZgb.out rfl
                  have qga:=(aCf (nab) [.string n1,.int .i64 p1,.bool t1,.string h1,.int .i64 ck1,.string cs1,.string cn1,.int .i64 f1,.slice a1 nd1.length c1] V0 0).trans kga
                  have HB2:=aAh hBgb [.string n1,.int .i64 p1,.bool t1,.string h1,.int .i64 ck1,.string cs1,.string cn1,.int .i64 f1,.slice a1 nd1.length c1] V0 0 HB
                  clear HZgb zgb HB kga
                  generalize setL V0 wr.heap.size 0 [.string n1,.int .i64 p1,.bool t1,.string h1,.int .i64 ck1,.string cs1,.string cn1,.int .i64 f1,.slice a1 nd1.length c1]=V1 at *
                  have kga:=qga
                  have HB:=HB2
                  clear qga HB2
                  refine aNq (by kernel_rfl) HB ⟨rfl,(fun i=>([.pointer (some ⟨w.heap.size,7,none⟩),.slice (some ⟨g,off,none⟩) x.lis.length x.ci,.int .i64 k,.pointer (some ⟨g,off+k*9,none⟩),.agg #[.string n0,.int .i64 p0,.bool t0,.string h0,.int .i64 ck0,.string cs0,.string cn0,.int .i64 f0,.slice a0 nd0.length c0],.pointer (some ⟨(w.heap.size+1),7,none⟩),.slice (some ⟨g2,off2,none⟩) y.lis.length y.ci,.int .i64 k,.pointer (some ⟨g2,off2+k*9,none⟩),.agg #[.string n1,.int .i64 p1,.bool t1,.string h1,.int .i64 ck1,.string cs1,.string cn1,.int .i64 f1,.slice a1 nd1.length c1],.pointer (some ⟨(wr.heap.size+1),0,none⟩),.pointer (some ⟨wr.heap.size,0,none⟩)]:List Value).getD i undef),(by simp only [putF,Act.put,zzB,zzC,zzD,Nat.reduceAdd,List.getD_cons_zero,List.getD_cons_succ]),(wr.heap.size+1),wr.heap.size,rfl,rfl,kga,kgb,HB⟩
                rintro f W ⟨ga,gb,pa,pb,ka,kb,hBv⟩
                clear px0 px1 px2 px3 px4 px5 px6 px7 px8 py0 py1 py2 py3 py4 py5 py6 py7 py8 oq1 oq2 o1
                simp only [putF,List.getD_cons_zero,List.getD_cons_succ,Act.put,zzB,zzC,zzD,Nat.reduceAdd]
                simp only [pa,pb]
                clear pa pb
                have CL:=fun W2 (h:Below W.heap.size W W2)=>C1 W2 (bb2 hBv h)
                clear C1
                have za0:=aA0 ka (i:=0) rfl
                have zb0:=aA0 kb (i:=0) rfl
                have zqa0:=fun q:GB W=>aA0 (aA2 ka q.h) (i:=0) rfl
                have zqb0:=fun q:GB W=>aA0 (aA2 kb q.h) (i:=0) rfl
                have za1:=aA0 ka (i:=1) rfl
                have zb1:=aA0 kb (i:=1) rfl
                have zqa1:=fun q:GB W=>aA0 (aA2 ka q.h) (i:=1) rfl
                have zqb1:=fun q:GB W=>aA0 (aA2 kb q.h) (i:=1) rfl
                have za2:=aA0 ka (i:=2) rfl
                have zb2:=aA0 kb (i:=2) rfl
                have zqa2:=fun q:GB W=>aA0 (aA2 ka q.h) (i:=2) rfl
                have zqb2:=fun q:GB W=>aA0 (aA2 kb q.h) (i:=2) rfl
                have za3:=aA0 ka (i:=3) rfl
                have zb3:=aA0 kb (i:=3) rfl
                have zqa3:=fun q:GB W=>aA0 (aA2 ka q.h) (i:=3) rfl
                have zqb3:=fun q:GB W=>aA0 (aA2 kb q.h) (i:=3) rfl
                have za4:=aA0 ka (i:=4) rfl
                have zb4:=aA0 kb (i:=4) rfl
                have zqa4:=fun q:GB W=>aA0 (aA2 ka q.h) (i:=4) rfl
                have zqb4:=fun q:GB W=>aA0 (aA2 kb q.h) (i:=4) rfl
                have za5:=aA0 ka (i:=5) rfl
                have zb5:=aA0 kb (i:=5) rfl
                have zqa5:=fun q:GB W=>aA0 (aA2 ka q.h) (i:=5) rfl
                have zqb5:=fun q:GB W=>aA0 (aA2 kb q.h) (i:=5) rfl
                have za6:=aA0 ka (i:=6) rfl
                have zb6:=aA0 kb (i:=6) rfl
                have zqa6:=fun q:GB W=>aA0 (aA2 ka q.h) (i:=6) rfl
                have zqb6:=fun q:GB W=>aA0 (aA2 kb q.h) (i:=6) rfl
                have za7:=aA0 ka (i:=7) rfl
                have zb7:=aA0 kb (i:=7) rfl
                have zqa7:=fun q:GB W=>aA0 (aA2 ka q.h) (i:=7) rfl
                have zqb7:=fun q:GB W=>aA0 (aA2 kb q.h) (i:=7) rfl
                have za8:=aA0 ka (i:=8) rfl
                have zb8:=aA0 kb (i:=8) rfl
                have zqa8:=fun q:GB W=>aA0 (aA2 ka q.h) (i:=8) rfl
                have zqb8:=fun q:GB W=>aA0 (aA2 kb q.h) (i:=8) rfl
                clear ka kb
                cases hsn0:(n0.toList == n1.toList)
                ·rw [hsn0] at HP
                 go_wp2_with fail
                 go_ret
                 exact ⟨aA1 (HG.out (by rw [HP.out];simp)).symm,bb2 (bb2 HB1.out hB) hBv⟩
                ·rw [hsn0] at HP
                 by_cases hsp0:p0=p1
                 ·subst hsp0
                  by_cases hst0:t0=t1
                  ·subst hst0
                   cases hsh0:(h0.toList == h1.toList)
                   ·rw [hsh0] at HP
                    go_wp2_with fail
                    go_ret
                    exact ⟨aA1 (HG.out (by rw [HP.out];simp)).symm,bb2 (bb2 HB1.out hB) hBv⟩
                   ·rw [hsh0] at HP
                    cases e1
                    ·go_wp2_with fail
                     go_ret
                     exact ⟨aA1 (HG.out (by rw [HP.out];simp)).symm,bb2 (bb2 HB1.out hB) hBv⟩
                    ·by_cases hsf0:f0=f1
                     ·subst hsf0
                      go_wp2_with fail
                      cases y1
                      ·refine (aA5 ((CL _ (Below.refl _ _)).out)).mono ?_
                       rintro e x ⟨rfl,q,rfl⟩
                       go_wp2_with fail
                       go_ret
                       exact ⟨aA1 (HG.out (by rw [HP.out];simp)).symm,bb2 (bb2 (bb2 HB1.out hB) hBv) q.h⟩
                      ·refine (aA5 ((CL _ (Below.refl _ _)).out)).mono ?_
                       rintro e x ⟨rfl,q,rfl⟩
                       go_wp2_with fail
                       exact ⟨⟨k+1,by omega,by go_num,HT.out (by rw [HP.out];simp),bb2 (bb2 hB hBv) q.h⟩,by simp [intOf];omega⟩
                     ·have hs1:(f0 == f1)=false:=by simpa using hsf0
                      have hs2:(f0 != f1)=true:=by simpa using hsf0
                      rw [hs1] at HP
                      clear hsf0
                      go_wp2_with fail
                      go_ret
                      exact ⟨aA1 (HG.out (by rw [HP.out];simp)).symm,bb2 (bb2 HB1.out hB) hBv⟩
                  ·have hs1:(t0 == t1)=false:=by simpa using hst0
                   have hs2:(t0 != t1)=true:=by simpa using hst0
                   rw [hs1] at HP
                   clear hst0
                   go_wp2_with fail
                   go_ret
                   exact ⟨aA1 (HG.out (by rw [HP.out];simp)).symm,bb2 (bb2 HB1.out hB) hBv⟩
                 ·have hs1:(p0 == p1)=false:=by simpa using hsp0
                  have hs2:(p0 != p1)=true:=by simpa using hsp0
                  rw [hs1] at HP
                  clear hsp0
                  go_wp2_with fail
                  go_ret
                  exact ⟨aA1 (HG.out (by rw [HP.out];simp)).symm,bb2 (bb2 HB1.out hB) hBv⟩
               ·obtain rfl:k=x.lis.length:=by omega
                have hlt':¬ (x.lis.length:Int)<(x.lis.length:Int):=by omega
                have HE2:Hid (Ob.eqL Ob.sameLiV x.lis y.lis=true):=Ob.eqL_yes x.lis y.lis HL2.out (fun j h1 h2=>hall.out j h1 h1 h2)
                clear hall
                go_wp2_with fail
                clear o1 oq1 oq2 hlen hlen2 hlt hlt' hk hBw
                go_loopw [9] (fun i wr=>∃ k:Nat,k≤x.pars.length∧i=.int .i64 k∧Hid (∀ j,j<k→∀ (h1:j<x.pars.length) (h2:j<y.pars.length),Ob.eqP x.pars[j] y.pars[j]=true)∧Below X.heap.size X wr) (fun i _=>x.pars.length - (intOf i).toNat)
                case atStart=>exact ⟨0,Nat.zero_le _,rfl,fun j hj=>absurd hj (by omega),hB⟩
                case round =>
                 clear hB
                 obtain ⟨k,hk,rfl,hall,hB⟩:=hrel
                 have hBw:=bb2 HB1.out hB
                 have hlen:=HX.out.pars.len
                 have hlen2:=HY.out.pars.len
                 have kb:=aA2 HKX.out hB
                 have kc:=aA2 HKY.out hB
                 have o1:wr.cell? ⟨w.heap.size,8,none⟩=some (.slice x.aq x.pars.length x.cq):=aA0 kb (i:=8) rfl
                 have oq1:∀ q:GB wr,q.W.cell? ⟨w.heap.size,8,none⟩=some (.slice x.aq x.pars.length x.cq):=fun q=>aA0 (aA2 kb q.h) (i:=8) rfl
                 have oq2:∀ q:GB wr,q.W.cell? ⟨w.heap.size+1,8,none⟩=some (.slice y.aq y.pars.length y.cq):=fun q=>aA0 (aA2 kc q.h) (i:=8) rfl
                 clear kb kc
                 by_cases hlt:k<x.pars.length
                 ·have hlb:k<y.pars.length:=by rw [←HL3.out];exact hlt
                  have hlt':(k:Int)<(x.pars.length:Int):=by omega
                  have hlb':(k:Int)<(y.pars.length:Int):=by omega
                  obtain ⟨hE,g,off,ha,hg,p0,p1,p2,p3⟩:=aDs HX.out.pars hBw hlt
                  obtain ⟨hE2,g2,off2,ha2,hg2,q0,q1,q2,q3⟩:=aDs HY.out.pars hBw hlb
                  have px0:=fun q:GB wr=>(q.h.cell (p:=⟨g,off+k*4,none⟩) (Nat.lt_of_lt_of_le hg hBw.size)).trans p0
                  have px1:=fun q:GB wr=>(q.h.cell (p:=⟨g,off+k*4+1,none⟩) (Nat.lt_of_lt_of_le hg hBw.size)).trans p1
                  have px2:=fun q:GB wr=>(q.h.cell (p:=⟨g,off+k*4+2,none⟩) (Nat.lt_of_lt_of_le hg hBw.size)).trans p2
                  have px3:=fun q:GB wr=>(q.h.cell (p:=⟨g,off+k*4+3,none⟩) (Nat.lt_of_lt_of_le hg hBw.size)).trans p3
                  have py0:=fun q:GB wr=>(q.h.cell (p:=⟨g2,off2+k*4,none⟩) (Nat.lt_of_lt_of_le hg2 hBw.size)).trans q0
                  have py1:=fun q:GB wr=>(q.h.cell (p:=⟨g2,off2+k*4+1,none⟩) (Nat.lt_of_lt_of_le hg2 hBw.size)).trans q1
                  have py2:=fun q:GB wr=>(q.h.cell (p:=⟨g2,off2+k*4+2,none⟩) (Nat.lt_of_lt_of_le hg2 hBw.size)).trans q2
                  have py3:=fun q:GB wr=>(q.h.cell (p:=⟨g2,off2+k*4+3,none⟩) (Nat.lt_of_lt_of_le hg2 hBw.size)).trans q3
                  rw [ha] at o1 oq1
                  rw [ha2] at oq2
                  have HT:Hid (Ob.eqP x.pars[k] y.pars[k]=true→∀ j,j<k+1→∀ (h1:j<x.pars.length) (h2:j<y.pars.length),Ob.eqP x.pars[j] y.pars[j]=true):=fun h=>aC9 hall.out (fun _ _=>h)
                  have HG:Hid (Ob.eqP x.pars[k] y.pars[k]=false→zv=false):=fun h=>HNpars.out (Ob.eqL_not x.pars y.pars k hlt hlb h)
                  clear hall ha ha2 hg hg2 p0 p1 p2 p3 q0 q1 q2 q3
                  have EQ:∀ W,(Op.equalIn 10000 70 (ptV x.pars[k]) (ptV y.pars[k])).run Tryz.prog W=.ok (Ob.eqP x.pars[k] y.pars[k]) W:=fun W=>by
                   rw [aIv]
                   unfold Ob.eqP
                   simp only [aB3]
                  clear hE hE2
                  generalize Ob.eqP x.pars[k] y.pars[k]=e1 at *
                  generalize x.pars[k]=s at *
                  generalize y.pars[k]=t at *
                  obtain ⟨s0,n0,t0,p0⟩:=s
                  obtain ⟨s1,n1,t1,p1⟩:=t
                  dsimp only at *
                  cases e1
                  ·go_wp2_with fail
                   refine aA6 (by kernel_rfl) (by kernel_rfl) ?_
                   repeat (first | go_big_quiet_step (fail) | quiet_step (fail))
                   refine wpQuiet_nil ?_
                   intro _ hw'
                   obtain ⟨qq,hw2⟩:=hw'
                   subst hw2
                   have hq:=qq.h
                   go_wp2_with fail
                   go_ret
                   exact ⟨aA1 (HG.out (by simp)).symm,bb2 (bb2 HB1.out hB) hq⟩
                  ·go_wp2_with fail
                   refine aA6 (by kernel_rfl) (by kernel_rfl) ?_
                   repeat (first | go_big_quiet_step (fail) | quiet_step (fail))
                   refine wpQuiet_nil ?_
                   intro _ hw'
                   obtain ⟨qq,hw2⟩:=hw'
                   subst hw2
                   have hq:=qq.h
                   go_wp2_with fail
                   exact ⟨⟨k+1,by omega,by go_num,HT.out (by simp),bb2 hB hq⟩,by simp [intOf];omega⟩
                 ·obtain rfl:k=x.pars.length:=by omega
                  have hlt':¬ (x.pars.length:Int)<(x.pars.length:Int):=by omega
                  have HE3:Hid (Ob.eqL Ob.eqP x.pars y.pars=true):=Ob.eqL_yes x.pars y.pars HL3.out (fun j h1 h2=>hall.out j h1 h1 h2)
                  clear hall
                  go_wp2_with fail
                  clear o1 oq1 oq2 hlen hlen2 hlt hlt' hk hBw
                  go_loopw [10] (fun i wr=>∃ k:Nat,k≤x.frm.length∧i=.int .i64 k∧Hid (∀ j,j<k→∀ (h1:j<x.frm.length) (h2:j<y.frm.length),Ob.eqR x.frm[j] y.frm[j]=true)∧Below X.heap.size X wr) (fun i _=>x.frm.length - (intOf i).toNat)
                  case atStart=>exact ⟨0,Nat.zero_le _,rfl,fun j hj=>absurd hj (by omega),hB⟩
                  case round =>
                   clear hB
                   obtain ⟨k,hk,rfl,hall,hB⟩:=hrel
                   have hBw:=bb2 HB1.out hB
                   have hlen:=HX.out.frm.len
                   have hlen2:=HY.out.frm.len
                   have kb:=aA2 HKX.out hB
                   have kc:=aA2 HKY.out hB
                   have o1:wr.cell? ⟨w.heap.size,11,none⟩=some (.slice x.af x.frm.length x.cf):=aA0 kb (i:=11) rfl
                   have oq1:∀ q:GB wr,q.W.cell? ⟨w.heap.size,11,none⟩=some (.slice x.af x.frm.length x.cf):=fun q=>aA0 (aA2 kb q.h) (i:=11) rfl
                   have oq2:∀ q:GB wr,q.W.cell? ⟨w.heap.size+1,11,none⟩=some (.slice y.af y.frm.length y.cf):=fun q=>aA0 (aA2 kc q.h) (i:=11) rfl
                   clear kb kc
                   by_cases hlt:k<x.frm.length
                   ·have hlb:k<y.frm.length:=by rw [←HL5.out];exact hlt
                    have hlt':(k:Int)<(x.frm.length:Int):=by omega
                    have hlb':(k:Int)<(y.frm.length:Int):=by omega
                    obtain ⟨hE,g,off,ha,hg,p0,p1,p2⟩:=oneD HX.out.frm hBw hlt
                    obtain ⟨hE2,g2,off2,ha2,hg2,q0,q1,q2⟩:=oneD HY.out.frm hBw hlb
                    have px0:=fun q:GB wr=>(q.h.cell (p:=⟨g,off+k*3,none⟩) (Nat.lt_of_lt_of_le hg hBw.size)).trans p0
                    have px1:=fun q:GB wr=>(q.h.cell (p:=⟨g,off+k*3+1,none⟩) (Nat.lt_of_lt_of_le hg hBw.size)).trans p1
                    have px2:=fun q:GB wr=>(q.h.cell (p:=⟨g,off+k*3+2,none⟩) (Nat.lt_of_lt_of_le hg hBw.size)).trans p2
                    have py0:=fun q:GB wr=>(q.h.cell (p:=⟨g2,off2+k*3,none⟩) (Nat.lt_of_lt_of_le hg2 hBw.size)).trans q0
                    have py1:=fun q:GB wr=>(q.h.cell (p:=⟨g2,off2+k*3+1,none⟩) (Nat.lt_of_lt_of_le hg2 hBw.size)).trans q1
                    have py2:=fun q:GB wr=>(q.h.cell (p:=⟨g2,off2+k*3+2,none⟩) (Nat.lt_of_lt_of_le hg2 hBw.size)).trans q2
                    rw [ha] at o1 oq1
                    rw [ha2] at oq2
                    have HT:Hid (Ob.eqR x.frm[k] y.frm[k]=true→∀ j,j<k+1→∀ (h1:j<x.frm.length) (h2:j<y.frm.length),Ob.eqR x.frm[j] y.frm[j]=true):=fun h=>aC9 hall.out (fun _ _=>h)
                    have HG:Hid (Ob.eqR x.frm[k] y.frm[k]=false→zv=false):=fun h=>HNfrm.out (Ob.eqL_not x.frm y.frm k hlt hlb h)
                    clear hall ha ha2 hg hg2 p0 p1 p2 q0 q1 q2
                    have EQ:∀ W,(Op.equalIn 10000 53 (rfV x.frm[k]) (rfV y.frm[k])).run Tryz.prog W=.ok (Ob.eqR x.frm[k] y.frm[k]) W:=fun W=>by
                     rw [aIu]
                     unfold Ob.eqR
                     simp only [aB3]
                    clear hE hE2
                    generalize Ob.eqR x.frm[k] y.frm[k]=e1 at *
                    generalize x.frm[k]=s at *
                    generalize y.frm[k]=t at *
                    obtain ⟨k0,s0,n0⟩:=s
                    obtain ⟨k1,s1,n1⟩:=t
                    dsimp only at *
                    cases e1
                    ·go_wp2_with fail
                     refine aA6 (by kernel_rfl) (by kernel_rfl) ?_
                     repeat (first | go_big_quiet_step (fail) | quiet_step (fail))
                     refine wpQuiet_nil ?_
                     intro _ hw'
                     obtain ⟨qq,hw2⟩:=hw'
                     subst hw2
                     have hq:=qq.h
                     go_wp2_with fail
                     go_ret
                     exact ⟨aA1 (HG.out (by simp)).symm,bb2 (bb2 HB1.out hB) hq⟩
                    ·go_wp2_with fail
                     refine aA6 (by kernel_rfl) (by kernel_rfl) ?_
                     repeat (first | go_big_quiet_step (fail) | quiet_step (fail))
                     refine wpQuiet_nil ?_
                     intro _ hw'
                     obtain ⟨qq,hw2⟩:=hw'
                     subst hw2
                     have hq:=qq.h
                     go_wp2_with fail
                     exact ⟨⟨k+1,by omega,by go_num,HT.out (by simp),bb2 hB hq⟩,by simp [intOf];omega⟩
                   ·obtain rfl:k=x.frm.length:=by omega
                    have hlt':¬ (x.frm.length:Int)<(x.frm.length:Int):=by omega
                    have HE4:Hid (Ob.eqL Ob.eqR x.frm y.frm=true):=Ob.eqL_yes x.frm y.frm HL5.out (fun j h1 h2=>hall.out j h1 h1 h2)
                    clear hall
                    go_wp2_with fail
                    clear o1 oq1 oq2 hlen hlen2 hlt hlt' hk hBw
                    go_loopw [11] (fun i wr=>∃ k:Nat,k≤x.tos.length∧i=.int .i64 k∧Hid (∀ j,j<k→∀ (h1:j<x.tos.length) (h2:j<y.tos.length),Ob.eqR x.tos[j] y.tos[j]=true)∧Below X.heap.size X wr) (fun i _=>x.tos.length - (intOf i).toNat)
                    case atStart=>exact ⟨0,Nat.zero_le _,rfl,fun j hj=>absurd hj (by omega),hB⟩
                    case round =>
                     clear hB
                     obtain ⟨k,hk,rfl,hall,hB⟩:=hrel
                     have hBw:=bb2 HB1.out hB
                     have hlen:=HX.out.tos.len
                     have hlen2:=HY.out.tos.len
                     have kb:=aA2 HKX.out hB
                     have kc:=aA2 HKY.out hB
                     have o1:wr.cell? ⟨w.heap.size,12,none⟩=some (.slice x.ao x.tos.length x.co):=aA0 kb (i:=12) rfl
                     have oq1:∀ q:GB wr,q.W.cell? ⟨w.heap.size,12,none⟩=some (.slice x.ao x.tos.length x.co):=fun q=>aA0 (aA2 kb q.h) (i:=12) rfl
                     have oq2:∀ q:GB wr,q.W.cell? ⟨w.heap.size+1,12,none⟩=some (.slice y.ao y.tos.length y.co):=fun q=>aA0 (aA2 kc q.h) (i:=12) rfl
                     clear kb kc
                     by_cases hlt:k<x.tos.length
                     ·have hlb:k<y.tos.length:=by rw [←HL6.out];exact hlt
                      have hlt':(k:Int)<(x.tos.length:Int):=by omega
                      have hlb':(k:Int)<(y.tos.length:Int):=by omega
                      obtain ⟨hE,g,off,ha,hg,p0,p1,p2⟩:=oneD HX.out.tos hBw hlt
                      obtain ⟨hE2,g2,off2,ha2,hg2,q0,q1,q2⟩:=oneD HY.out.tos hBw hlb
                      have px0:=fun q:GB wr=>(q.h.cell (p:=⟨g,off+k*3,none⟩) (Nat.lt_of_lt_of_le hg hBw.size)).trans p0
                      have px1:=fun q:GB wr=>(q.h.cell (p:=⟨g,off+k*3+1,none⟩) (Nat.lt_of_lt_of_le hg hBw.size)).trans p1
                      have px2:=fun q:GB wr=>(q.h.cell (p:=⟨g,off+k*3+2,none⟩) (Nat.lt_of_lt_of_le hg hBw.size)).trans p2
                      have py0:=fun q:GB wr=>(q.h.cell (p:=⟨g2,off2+k*3,none⟩) (Nat.lt_of_lt_of_le hg2 hBw.size)).trans q0
                      have py1:=fun q:GB wr=>(q.h.cell (p:=⟨g2,off2+k*3+1,none⟩) (Nat.lt_of_lt_of_le hg2 hBw.size)).trans q1
                      have py2:=fun q:GB wr=>(q.h.cell (p:=⟨g2,off2+k*3+2,none⟩) (Nat.lt_of_lt_of_le hg2 hBw.size)).trans q2
                      rw [ha] at o1 oq1
                      rw [ha2] at oq2
                      have HT:Hid (Ob.eqR x.tos[k] y.tos[k]=true→∀ j,j<k+1→∀ (h1:j<x.tos.length) (h2:j<y.tos.length),Ob.eqR x.tos[j] y.tos[j]=true):=fun h=>aC9 hall.out (fun _ _=>h)
                      have HG:Hid (Ob.eqR x.tos[k] y.tos[k]=false→zv=false):=fun h=>HNtos.out (Ob.eqL_not x.tos y.tos k hlt hlb h)
                      clear hall ha ha2 hg hg2 p0 p1 p2 q0 q1 q2
                      have EQ:∀ W,(Op.equalIn 10000 53 (rfV x.tos[k]) (rfV y.tos[k])).run Tryz.prog W=.ok (Ob.eqR x.tos[k] y.tos[k]) W:=fun W=>by
                       rw [aIu]
                       unfold Ob.eqR
                       simp only [aB3]
                      clear hE hE2
                      generalize Ob.eqR x.tos[k] y.tos[k]=e1 at *
                      generalize x.tos[k]=s at *
                      generalize y.tos[k]=t at *
                      obtain ⟨k0,s0,n0⟩:=s
                      obtain ⟨k1,s1,n1⟩:=t
                      dsimp only at *
                      cases e1
                      ·go_wp2_with fail
                       refine aA6 (by kernel_rfl) (by kernel_rfl) ?_
                       repeat (first | go_big_quiet_step (fail) | quiet_step (fail))
                       refine wpQuiet_nil ?_
                       intro _ hw'
                       obtain ⟨qq,hw2⟩:=hw'
                       subst hw2
                       have hq:=qq.h
                       go_wp2_with fail
                       go_ret
                       exact ⟨aA1 (HG.out (by simp)).symm,bb2 (bb2 HB1.out hB) hq⟩
                      ·go_wp2_with fail
                       refine aA6 (by kernel_rfl) (by kernel_rfl) ?_
                       repeat (first | go_big_quiet_step (fail) | quiet_step (fail))
                       refine wpQuiet_nil ?_
                       intro _ hw'
                       obtain ⟨qq,hw2⟩:=hw'
                       subst hw2
                       have hq:=qq.h
                       go_wp2_with fail
                       exact ⟨⟨k+1,by omega,by go_num,HT.out (by simp),bb2 hB hq⟩,by simp [intOf];omega⟩
                     ·obtain rfl:k=x.tos.length:=by omega
                      have hlt':¬ (x.tos.length:Int)<(x.tos.length:Int):=by omega
                      have HE5:Hid (Ob.eqL Ob.eqR x.tos y.tos=true):=Ob.eqL_yes x.tos y.tos HL6.out (fun j h1 h2=>hall.out j h1 h1 h2)
                      clear hall
                      go_wp2_with fail
                      clear o1 oq1 oq2 hlen hlen2 hlt hlt' hk hBw
                      go_loopw [12] (fun i wr=>∃ k:Nat,k≤x.rules.length∧i=.int .i64 k∧Hid (∀ j,j<k→∀ (h1:j<x.rules.length) (h2:j<y.rules.length),Ob.sameRlV x.rules[j] y.rules[j]=true)∧Below X.heap.size X wr) (fun i _=>x.rules.length - (intOf i).toNat)
                      case atStart=>exact ⟨0,Nat.zero_le _,rfl,fun j hj=>absurd hj (by omega),hB⟩
                      case round =>
                       clear hB
                       obtain ⟨k,hk,rfl,hall,hB⟩:=hrel
                       have hBw:=bb2 HB1.out hB
                       have hlen:=HX.out.rules.len
                       have hlen2:=HY.out.rules.len
                       have kb:=aA2 HKX.out hB
                       have kc:=aA2 HKY.out hB
                       have o1:wr.cell? ⟨w.heap.size,10,none⟩=some (.slice x.ar x.rules.length x.cr):=aA0 kb (i:=10) rfl
                       have oq1:∀ q:GB wr,q.W.cell? ⟨w.heap.size,10,none⟩=some (.slice x.ar x.rules.length x.cr):=fun q=>aA0 (aA2 kb q.h) (i:=10) rfl
                       have oq2:∀ q:GB wr,q.W.cell? ⟨w.heap.size+1,10,none⟩=some (.slice y.ar y.rules.length y.cr):=fun q=>aA0 (aA2 kc q.h) (i:=10) rfl
                       clear kb kc
                       by_cases hlt:k<x.rules.length
                       ·have hlb:k<y.rules.length:=by rw [←HL4.out];exact hlt
                        have hlt':(k:Int)<(x.rules.length:Int):=by omega
                        have hlb':(k:Int)<(y.rules.length:Int):=by omega
                        obtain ⟨hE,g,off,ha,hg,p0,p1,p2⟩:=aG7 HX.out.rules hBw hlt
                        obtain ⟨hE2,g2,off2,ha2,hg2,q0,q1,q2⟩:=aG7 HY.out.rules hBw hlb
                        have px0:=fun q:GB wr=>(q.h.cell (p:=⟨g,off+k*3,none⟩) (Nat.lt_of_lt_of_le hg hBw.size)).trans p0
                        have px1:=fun q:GB wr=>(q.h.cell (p:=⟨g,off+k*3+1,none⟩) (Nat.lt_of_lt_of_le hg hBw.size)).trans p1
                        have px2:=fun q:GB wr=>(q.h.cell (p:=⟨g,off+k*3+2,none⟩) (Nat.lt_of_lt_of_le hg hBw.size)).trans p2
                        have py0:=fun q:GB wr=>(q.h.cell (p:=⟨g2,off2+k*3,none⟩) (Nat.lt_of_lt_of_le hg2 hBw.size)).trans q0
                        have py1:=fun q:GB wr=>(q.h.cell (p:=⟨g2,off2+k*3+1,none⟩) (Nat.lt_of_lt_of_le hg2 hBw.size)).trans q1
                        have py2:=fun q:GB wr=>(q.h.cell (p:=⟨g2,off2+k*3+2,none⟩) (Nat.lt_of_lt_of_le hg2 hBw.size)).trans q2
                        rw [ha] at o1 oq1
                        rw [ha2] at oq2
                        have HT:Hid (Ob.sameRlV x.rules[k] y.rules[k]=true→∀ j,j<k+1→∀ (h1:j<x.rules.length) (h2:j<y.rules.length),Ob.sameRlV x.rules[j] y.rules[j]=true):=fun h=>aC9 hall.out (fun _ _=>h)
                        have HG:Hid (Ob.sameRlV x.rules[k] y.rules[k]=false→zv=false):=fun h=>HNrules.out (Ob.eqL_not x.rules y.rules k hlt hlb h)
                        clear hall ha ha2 hg hg2 p0 p1 p2 q0 q1 q2
                        have hE1:x.rules[k].at_ wr:=hE
                        have hE3:y.rules[k].at_ wr:=hE2
                        have C1:=fun W (h:Below wr.heap.size wr W)=>hide (aNc x.rules[k] y.rules[k] W (hE1.below h) (hE3.below h))
                        clear hE hE1 hE2 hE3
                        generalize Ob.sameRlV x.rules[k] y.rules[k]=e1 at *
                        generalize x.rules[k]=s at *
                        generalize y.rules[k]=t at *
                        obtain ⟨ms0,am0,cm0,fs0,af0,cf0,bs0,ab0,cb0⟩:=s
                        obtain ⟨ms1,am1,cm1,fs1,af1,cf1,bs1,ab1,cb1⟩:=t
                        dsimp only [RlV.vm,RlV.vf,RlV.vb,rlV] at *
                        cases e1
                        ·go_wp2_with fail
                         refine aA6 (by kernel_rfl) (by kernel_rfl) ?_
                         repeat (first | go_big_quiet_step ((go_at_call 34;exact aA3 (C1 _ (GB.h _)).out)) | quiet_step ((go_at_call 34;exact aA3 (C1 _ (GB.h _)).out)))
                         refine wpQuiet_nil ?_
                         intro _ hw'
                         obtain ⟨qq,hw2⟩:=hw'
                         subst hw2
                         have hq:=qq.h
                         go_wp2_with fail
                         go_ret
                         exact ⟨aA1 (HG.out (by simp)).symm,bb2 (bb2 HB1.out hB) hq⟩
                        ·go_wp2_with fail
                         refine aA6 (by kernel_rfl) (by kernel_rfl) ?_
                         repeat (first | go_big_quiet_step ((go_at_call 34;exact aA3 (C1 _ (GB.h _)).out)) | quiet_step ((go_at_call 34;exact aA3 (C1 _ (GB.h _)).out)))
                         refine wpQuiet_nil ?_
                         intro _ hw'
                         obtain ⟨qq,hw2⟩:=hw'
                         subst hw2
                         have hq:=qq.h
                         go_wp2_with fail
                         exact ⟨⟨k+1,by omega,by go_num,HT.out (by simp),bb2 hB hq⟩,by simp [intOf];omega⟩
                       ·obtain rfl:k=x.rules.length:=by omega
                        have hlt':¬ (x.rules.length:Int)<(x.rules.length:Int):=by omega
                        have HE6:Hid (Ob.eqL Ob.sameRlV x.rules y.rules=true):=Ob.eqL_yes x.rules y.rules HL4.out (fun j h1 h2=>hall.out j h1 h1 h2)
                        clear hall
                        have HF:Hid (zv=true):=by
                         unfold Hid
                         rw [HS0.out,HE1.out,HE2.out,HE3.out,HE4.out,HE5.out,HE6.out]
                         rfl
                        go_wp2_with fail
                        go_ret
                        exact ⟨aA1 HF.out.symm,bb2 HB1.out hB⟩
           ·have HF:Hid (zv=false):=HNtos.out (Ob.eqL_len _ _ (aDu htos))
            refine (aA3 ((C2 _ q.h).out)).mono ?_
            rintro e x ⟨rfl,q,rfl⟩
            go_wp2_with fail
            go_ret
            exact ⟨aA1 HF.out.symm,bb2 HB1.out q.h⟩
          ·have HF:Hid (zv=false):=HNfrm.out (Ob.eqL_len _ _ (aDu hfrm))
           refine (aA3 ((C2 _ q.h).out)).mono ?_
           rintro e x ⟨rfl,q,rfl⟩
           go_wp2_with fail
           go_ret
           exact ⟨aA1 HF.out.symm,bb2 HB1.out q.h⟩
         ·have HF:Hid (zv=false):=HNrules.out (Ob.eqL_len _ _ (aDu hrules))
          refine (aA3 ((C2 _ q.h).out)).mono ?_
          rintro e x ⟨rfl,q,rfl⟩
          go_wp2_with fail
          go_ret
          exact ⟨aA1 HF.out.symm,bb2 HB1.out q.h⟩
        ·have HF:Hid (zv=false):=HNpars.out (Ob.eqL_len _ _ (aDu hpars))
         refine (aA3 ((C2 _ q.h).out)).mono ?_
         rintro e x ⟨rfl,q,rfl⟩
         go_wp2_with fail
         go_ret
         exact ⟨aA1 HF.out.symm,bb2 HB1.out q.h⟩
       ·have HF:Hid (zv=false):=HNlis.out (Ob.eqL_len _ _ (aDu hlis))
        refine (aA3 ((C2 _ q.h).out)).mono ?_
        rintro e x ⟨rfl,q,rfl⟩
        go_wp2_with fail
        go_ret
        exact ⟨aA1 HF.out.symm,bb2 HB1.out q.h⟩
      ·have HF:Hid (zv=false):=HNports.out (Ob.eqL_len _ _ (aDu hports))
       refine (aA3 ((C2 _ q.h).out)).mono ?_
       rintro e x ⟨rfl,q,rfl⟩
       go_wp2_with fail
       go_ret
       exact ⟨aA1 HF.out.symm,bb2 HB1.out q.h⟩
  ·have hg1:(gx != gy)=true:=by simpa using hg
   have hg2:(gx == gy)=false:=by simpa using hg
   rw [decide_eq_false hg] at HP
   clear hg
   go_enter Tryz.func12,Tryz.ntmps12
   go_wp2_with fail
   go_ret
   exact ⟨aA1 (by rw [HP.out];simp),HB0.out⟩
theorem aTj (x y:OV) (w:World) (hx:x.at_ w) (hy:y.at_ w) :
  Calls Tryz.prog 12 #[oV x,oV y] w fun e w'=>e=.returned (.bool (saO x y))∧Below w.heap.size w w':=aTi x y x.good y.good w hx hy
theorem aCe (x y:OV) (w:World) (hx:x.at_ w) (hy:y.at_ w) :
  Calls Tryz.prog 12 #[oV x,oV y] w fun e w'=>e=.returned (.bool (Ob.sameO x.b y.b))∧Below w.heap.size w w':=by
 rw [←aWb]
 exact aTj x y w hx hy
end Go.Proofs.YthnodpdiocppgaaGreatDoor
namespace Go.Proofs.YthnodpdiocppgaaGreatDoor
open Go Go.RowKit Go.Shelf
attribute [local go_sem] aAu
theorem aJ3 (a b c:Bool):(a&&(b&&c))=(a&&(c&&b)):=by cases a<;>cases b<;>cases c<;>rfl
abbrev aGf (x:OV):OV:={ zV x.ref with good:=x.good }
theorem aTk {x:OV} {w:World} (h:x.at_ w):(aGf x).at_ w:=⟨Prs.nil w,Sl.nil w,Sl.nil w,Sl.nil w,Sl.nil w,Sl.nil w,Sl.nil w,Sl.nil w⟩
theorem aWf (x:OV) (hk:x.ref.kind=1):Ob.mayO x.b=(Ob.mayRef x.ref&&(true&&Ob.sameO (aGf x).b x.b)):=by
 have hk2:x.b.ref.kind=1:=hk
 have hm:Ob.mayK x.b=Ob.mayGood x.b:=by
  unfold Ob.mayK
  rw [hk2]
  rfl
 unfold Ob.mayO
 rw [hm]
 have hs:Ob.sameO x.b (aGf x).b=Ob.sameO (aGf x).b x.b:=Ob.sameO_comm _ _
 show (Ob.mayRef x.ref&&_)=_
 rw [Bool.true_and,←hs]
 rfl
abbrev aGg (x:OV):OV:={ zV x.ref with labels:=x.labels,al:=x.al,cl:=x.cl }
theorem aTl {x:OV} {w:World} (h:x.at_ w):(aGg x).at_ w:=⟨h.labels,Sl.nil w,Sl.nil w,Sl.nil w,Sl.nil w,Sl.nil w,Sl.nil w,Sl.nil w⟩
theorem aWg (x:OV) (hk:x.ref.kind=2):Ob.mayO x.b=(Ob.mayRef x.ref&&(La.mayL x.labels&&Ob.sameO (aGg x).b x.b)):=by
 have hk2:x.b.ref.kind=2:=hk
 have hm:Ob.mayK x.b=Ob.maySp x.b:=by
  unfold Ob.mayK
  rw [hk2]
  rfl
 unfold Ob.mayO
 rw [hm]
 have hs:Ob.sameO x.b (aGg x).b=Ob.sameO (aGg x).b x.b:=Ob.sameO_comm _ _
 show (Ob.mayRef x.ref&&_)=_
 rw [←hs,aJ3]
 rfl
abbrev aGh (x:OV):OV:={ zV x.ref with ports:=x.ports,ap:=x.ap,cp:=x.cp }
theorem aTm {x:OV} {w:World} (h:x.at_ w):(aGh x).at_ w:=⟨Prs.nil w,h.ports,Sl.nil w,Sl.nil w,Sl.nil w,Sl.nil w,Sl.nil w,Sl.nil w⟩
theorem aWh (x:OV) (hk:x.ref.kind=3):Ob.mayO x.b=(Ob.mayRef x.ref&&((Ob.cnt x.ports 1 8 Ob.isPort&&(Ob.srt x.ports&&Ob.dif Ob.eqI x.ports))&&Ob.sameO (aGh x).b x.b)):=by
 have hk2:x.b.ref.kind=3:=hk
 have hm:Ob.mayK x.b=Ob.maySv x.b:=by
  unfold Ob.mayK
  rw [hk2]
  rfl
 unfold Ob.mayO
 rw [hm]
 have hs:Ob.sameO x.b (aGh x).b=Ob.sameO (aGh x).b x.b:=Ob.sameO_comm _ _
 show (Ob.mayRef x.ref&&_)=_
 rw [←hs,aJ3]
 rfl
abbrev aGi (x:OV):OV:={ zV x.ref with good:=x.good }
theorem aTn {x:OV} {w:World} (h:x.at_ w):(aGi x).at_ w:=⟨Prs.nil w,Sl.nil w,Sl.nil w,Sl.nil w,Sl.nil w,Sl.nil w,Sl.nil w,Sl.nil w⟩
theorem aWi (x:OV) (hk:x.ref.kind=4):Ob.mayO x.b=(Ob.mayRef x.ref&&(true&&Ob.sameO (aGi x).b x.b)):=by
 have hk2:x.b.ref.kind=4:=hk
 have hm:Ob.mayK x.b=Ob.mayGood x.b:=by
  unfold Ob.mayK
  rw [hk2]
  rfl
 unfold Ob.mayO
 rw [hm]
 have hs:Ob.sameO x.b (aGi x).b=Ob.sameO (aGi x).b x.b:=Ob.sameO_comm _ _
 show (Ob.mayRef x.ref&&_)=_
 rw [Bool.true_and,←hs]
 rfl
abbrev aFd (x:OV):OV:={ zV x.ref with cls:=x.cls,lis:=x.lis,ai:=x.ai,ci:=x.ci }
theorem aTo {x:OV} {w:World} (h:x.at_ w):(aFd x).at_ w:=⟨Prs.nil w,Sl.nil w,h.lis,Sl.nil w,Sl.nil w,Sl.nil w,Sl.nil w,Sl.nil w⟩
theorem aWj (x:OV) (hk:x.ref.kind=5):Ob.mayO x.b=(Ob.mayRef x.ref&&((Ob.isN x.cls&&(Ob.cnt x.lis 1 8 (fun l=>Ob.mayLi l.b)&&Ob.dif (fun a b=>Ob.nameLi a.b b.b) x.lis))&&Ob.sameO (aFd x).b x.b)):=by
 have hk2:x.b.ref.kind=5:=hk
 have hm:Ob.mayK x.b=Ob.mayGw x.b:=by
  unfold Ob.mayK
  rw [hk2]
  rfl
 unfold Ob.mayO
 rw [hm]
 have hs:Ob.sameO x.b (aFd x).b=Ob.sameO (aFd x).b x.b:=Ob.sameO_comm _ _
 show (Ob.mayRef x.ref&&_)=_
 have e:Ob.mayGw x.b=(Ob.sameO x.b (aFd x).b&&(Ob.isN x.cls&&(Ob.cnt x.lis 1 8 (fun l=>Ob.mayLi l.b)&&Ob.dif (fun a b=>Ob.nameLi a.b b.b) x.lis))):=by
  unfold Ob.mayGw OV.b
  dsimp only
  rw [aE1,aLr]
  rfl
 rw [e,hs,aJ3]
abbrev aGj (x:OV):OV:={ zV x.ref with pars:=x.pars,aq:=x.aq,cq:=x.cq,hosts:=x.hosts,ah:=x.ah,ch:=x.ch,rules:=x.rules,ar:=x.ar,cr:=x.cr }
theorem aTp {x:OV} {w:World} (h:x.at_ w):(aGj x).at_ w:=⟨Prs.nil w,Sl.nil w,Sl.nil w,h.pars,h.hosts,h.rules,Sl.nil w,Sl.nil w⟩
theorem aWk (x:OV) (hk:x.ref.kind=6):Ob.mayO x.b=(Ob.mayRef x.ref&&(rtV x&&Ob.sameO (aGj x).b x.b)):=by
 have hk2:x.b.ref.kind=6:=hk
 have hm:Ob.mayK x.b=Ob.mayRt x.b:=by
  unfold Ob.mayK
  rw [hk2]
  rfl
 unfold Ob.mayO
 rw [hm]
 have hs:Ob.sameO x.b (aGj x).b=Ob.sameO (aGj x).b x.b:=Ob.sameO_comm _ _
 show (Ob.mayRef x.ref&&_)=_
 rw [aWa,←hs,aJ3]
 rfl
abbrev aGk (x:OV):OV:={ zV x.ref with frm:=x.frm,af:=x.af,cf:=x.cf,tos:=x.tos,ao:=x.ao,co:=x.co }
theorem aTq {x:OV} {w:World} (h:x.at_ w):(aGk x).at_ w:=⟨Prs.nil w,Sl.nil w,Sl.nil w,Sl.nil w,Sl.nil w,Sl.nil w,h.frm,h.tos⟩
theorem aWl (x:OV) (hk:x.ref.kind=7):Ob.mayO x.b=(Ob.mayRef x.ref&&((Ob.cnt x.frm 1 4 Ob.mayFr&&Ob.cnt x.tos 1 4 Ob.mayTo)&&Ob.sameO (aGk x).b x.b)):=by
 have hk2:x.b.ref.kind=7:=hk
 have hm:Ob.mayK x.b=Ob.mayGr x.b:=by
  unfold Ob.mayK
  rw [hk2]
  rfl
 unfold Ob.mayO
 rw [hm]
 have hs:Ob.sameO x.b (aGk x).b=Ob.sameO (aGk x).b x.b:=Ob.sameO_comm _ _
 show (Ob.mayRef x.ref&&_)=_
 rw [←hs,aJ3]
 rfl
def svTo (l:List Int) (k:Nat):Prop:=(1≤l.length∧l.length≤8)∧∀ j,j<k→∀ (h:j<l.length),Ob.isPort l[j]=true∧(j=0∨∃ (h2:j - 1<l.length),l[j - 1]<l[j])
theorem aS1 (l:List Int):svTo l 0↔1≤l.length∧l.length≤8:=⟨fun h=>h.1,fun h=>⟨h,fun j hj=>absurd hj (by omega)⟩⟩
theorem aS2 {l:List Int} {k:Nat} (hk:k<l.length):svTo l (k+1)↔svTo l k∧Ob.isPort l[k]=true∧(k=0∨∃ (h2:k - 1<l.length),l[k - 1]<l[k]):=by
 refine ⟨fun h=>⟨⟨h.1,fun j hj=>h.2 j (by omega)⟩,h.2 k (by omega) hk⟩,fun h=>⟨h.1.1,fun j hj hl=>?_⟩⟩
 rcases Nat.lt_or_ge j k with h3 | h3
 ·exact h.1.2 j h3 hl
 ·obtain rfl:j=k:=by omega
  exact h.2
theorem aTr (l:List Int):svTo l l.length↔(Ob.cnt l 1 8 Ob.isPort&&(Ob.srt l&&Ob.dif Ob.eqI l))=true:=by
 rw [Bool.and_eq_true,Bool.and_eq_true,Ob.cnt_iff]
 constructor
 ·intro h
  have hs:∀ k (hk:k+1<l.length),l[k]<l[k+1]:=fun k hk=>by
   rcases (h.2 (k+1) hk hk).2 with h0 | ⟨_,h1⟩
   ·omega
   ·exact h1
  have hp:∀ i j (hi:i<l.length) (hj:j<l.length),i<j→l[i]<l[j]:=fun i j=>by
   induction j with
   | zero=>intro _ _ h;omega
   | succ j ih =>
     intro hi hj hij
     rcases Nat.lt_or_ge i j with h1 | h1
     ·exact Int.lt_trans (ih hi (by omega) h1) (hs j hj)
     ·obtain rfl:i=j:=by omega
      exact hs i hj
  refine ⟨⟨by have:=h.1.1;omega,by have:=h.1.2;omega,fun x hx=>?_⟩,aNp fun k hk=>Int.le_of_lt (hs k hk),?_⟩
  ·obtain ⟨j,hj,rfl⟩:=List.getElem_of_mem hx
   exact (h.2 j hj hj).1
  ·rw [Ob.dif_iff,List.pairwise_iff_getElem]
   intro i j hi hj hij
   have:=hp i j hi hj hij
   unfold Ob.eqI
   rw [beq_eq_false_iff_ne]
   omega
 ·rintro ⟨⟨h1,h2,h3⟩,hs,hd⟩
  refine ⟨⟨by omega,by omega⟩,fun j _ hj=>⟨h3 _ (List.getElem_mem hj),?_⟩⟩
  rcases Nat.eq_zero_or_pos j with h0 | h0
  ·exact .inl h0
  ·refine .inr ⟨by omega,?_⟩
   unfold Ob.srt at hs
   rw [decide_eq_true_eq,List.pairwise_iff_getElem] at hs
   rw [Ob.dif_iff,List.pairwise_iff_getElem] at hd
   have a:=hs (j - 1) j (by omega) hj (by omega)
   have b:=hd (j - 1) j (by omega) hj (by omega)
   unfold Ob.eqI at b
   rw [beq_eq_false_iff_ne] at b
   omega
theorem aWm (x:OV) (w:World) (hx:x.at_ w) (ok:OkO x) (hk:x.ref.kind=1) :
  Calls Tryz.prog 27 #[oV x] w fun e w'=>e=.returned (.bool (Ob.mayO x.b))∧Below w.heap.size w w':=by
 have EO:oV x=.agg #[.int .i64 1,.string x.ref.space,.string x.ref.name,.bool x.good,.slice x.al x.labels.length x.cl,.slice x.ap x.ports.length x.cp,.string x.cls,.slice x.ai x.lis.length x.ci,.slice x.aq x.pars.length x.cq,.slice x.ah x.hosts.length x.ch,.slice x.ar x.rules.length x.cr,.slice x.af x.frm.length x.cf,.slice x.ao x.tos.length x.co]:=by show Value.agg #[.int .i64 x.ref.kind,.string x.ref.space,.string x.ref.name,.bool x.good,.slice x.al x.labels.length x.cl,.slice x.ap x.ports.length x.cp,.string x.cls,.slice x.ai x.lis.length x.ci,.slice x.aq x.pars.length x.cq,.slice x.ah x.hosts.length x.ch,.slice x.ar x.rules.length x.cr,.slice x.af x.frm.length x.cf,.slice x.ao x.tos.length x.co]=_;rw [hk]
 rw [EO]
 have HP:Hid (Ob.mayO x.b=_):=aWf x hk
 obtain ⟨X,hX⟩:∃ z,z=w.alloc (.cells #[.int .i64 1,.string x.ref.space,.string x.ref.name,.bool x.good,.slice x.al x.labels.length x.cl,.slice x.ap x.ports.length x.cp,.string x.cls,.slice x.ai x.lis.length x.ci,.slice x.aq x.pars.length x.cq,.slice x.ah x.hosts.length x.ch,.slice x.ar x.rules.length x.cr,.slice x.af x.frm.length x.cf,.slice x.ao x.tos.length x.co] 36):=⟨_,rfl⟩
 have HB0:Hid (Below w.heap.size w (w.alloc (.cells #[.int .i64 1,.string x.ref.space,.string x.ref.name,.bool x.good,.slice x.al x.labels.length x.cl,.slice x.ap x.ports.length x.cp,.string x.cls,.slice x.ai x.lis.length x.ci,.slice x.aq x.pars.length x.cq,.slice x.ah x.hosts.length x.ch,.slice x.ar x.rules.length x.cr,.slice x.af x.frm.length x.cf,.slice x.ao x.tos.length x.co] 36))):=(Below.refl _ _).alloc (Nat.le_refl _) _
 have B1:Below w.heap.size w X:=by rw [hX];exact HB0.out
 have K0:X.heap[w.heap.size]?=some (.cells #[.int .i64 1,.string x.ref.space,.string x.ref.name,.bool x.good,.slice x.al x.labels.length x.cl,.slice x.ap x.ports.length x.cp,.string x.cls,.slice x.ai x.lis.length x.ci,.slice x.aq x.pars.length x.cq,.slice x.ah x.hosts.length x.ch,.slice x.ar x.rules.length x.cr,.slice x.af x.frm.length x.cf,.slice x.ao x.tos.length x.co] 36):=by rw [hX];exact aA7 _ _
 have HK0:=hide K0
 have HB1:=hide B1
 have C0:=aC5 x.ref X ok.ref
 have C9:∀ W,Below w.heap.size w W→Calls Tryz.prog 12 #[.agg #[.int .i64 x.ref.kind,.string x.ref.space,.string x.ref.name,.bool x.good,.slice none 0 0,.slice none 0 0,.string ⟨#[]⟩,.slice none 0 0,.slice none 0 0,.slice none 0 0,.slice none 0 0,.slice none 0 0,.slice none 0 0],.agg #[.int .i64 x.ref.kind,.string x.ref.space,.string x.ref.name,.bool x.good,.slice x.al x.labels.length x.cl,.slice x.ap x.ports.length x.cp,.string x.cls,.slice x.ai x.lis.length x.ci,.slice x.aq x.pars.length x.cq,.slice x.ah x.hosts.length x.ch,.slice x.ar x.rules.length x.cr,.slice x.af x.frm.length x.cf,.slice x.ao x.tos.length x.co]] W fun e w'=>e=.returned (.bool (Ob.sameO (aGf x).b x.b))∧Below W.heap.size W w':=fun W h=>aCe (aGf x) x W (aTk (hx.below h)) (hx.below h)
 rw [show rfV x.ref=.agg #[.int .i64 1,.string x.ref.space,.string x.ref.name] by show Value.agg #[.int .i64 x.ref.kind,_,_]=_;rw [hk]] at C0
 rw [hk] at C9
 have HC0:=hide C0
 have HC9:=hide C9
 have HX:=hide hx
 clear C0 C9 B1 K0 hx ok hk EO
 generalize Ob.mayO x.b=zv at *
 generalize Ob.mayRef x.ref=y0 at *
 generalize Ob.sameO (aGf x).b x.b=y9 at *
 go_enter Tryz.func27,Tryz.ntmps27
 go_wp2_with fail
 rw [←hX]
 clear hX
 refine HC0.out.mono ?_
 rintro e w1 ⟨rfl,hb1⟩
 have hB1:=bb2 HB1.out hb1
 have kb:=aA2 HK0.out hb1
 have hlt0:w.heap.size<w1.heap.size:=aAs kb
 obtain ⟨o0,o1,o2,o3,o4,o5,o6,o7,o8,o9,o10,o11,o12⟩:=w13 kb
 cases y0
 ·go_wp2_with fail
  go_ret
  exact ⟨aA1 (by rw [HP.out];simp),hB1⟩
 ·obtain ⟨Y,hY⟩:∃ z,z=w1.alloc (.cells #[.int .i64 1,.string x.ref.space,.string x.ref.name,.bool x.good,.slice none 0 0,.slice none 0 0,.string ⟨#[]⟩,.slice none 0 0,.slice none 0 0,.slice none 0 0,.slice none 0 0,.slice none 0 0,.slice none 0 0] 36):=⟨_,rfl⟩
  have hBY1:Below w1.heap.size w1 Y:=by rw [hY];exact (Below.refl _ _).alloc (Nat.le_refl _) _
  have kz:Y.heap[w1.heap.size]?=some (.cells #[.int .i64 1,.string x.ref.space,.string x.ref.name,.bool x.good,.slice none 0 0,.slice none 0 0,.string ⟨#[]⟩,.slice none 0 0,.slice none 0 0,.slice none 0 0,.slice none 0 0,.slice none 0 0,.slice none 0 0] 36):=by rw [hY];exact aA7 _ _
  have HBY:=hide (bb2 hB1 hBY1)
  obtain ⟨zq0,zq1,zq2,zq3,zq4,zq5,zq6,zq7,zq8,zq9,zq10,zq11,zq12⟩:=q13 kz
  obtain ⟨oq0,oq1,oq2,oq3,oq4,oq5,oq6,oq7,oq8,oq9,oq10,oq11,oq12⟩:=q13 (aA2 kb hBY1)
  clear hBY1 kz
  go_wp2_with fail
  rw [←hY]
  clear hY
  refine (HC9.out _ HBY.out).mono ?_
  rintro e w9 ⟨rfl,hb9⟩
  go_wp2_with fail
  go_ret
  exact ⟨aA1 (by rw [HP.out];simp),bb2 HBY.out hb9⟩
theorem aWn (x:OV) (w:World) (hx:x.at_ w) (ok:OkO x) (hk:x.ref.kind=2) :
  Calls Tryz.prog 27 #[oV x] w fun e w'=>e=.returned (.bool (Ob.mayO x.b))∧Below w.heap.size w w':=by
 have EO:oV x=.agg #[.int .i64 2,.string x.ref.space,.string x.ref.name,.bool x.good,.slice x.al x.labels.length x.cl,.slice x.ap x.ports.length x.cp,.string x.cls,.slice x.ai x.lis.length x.ci,.slice x.aq x.pars.length x.cq,.slice x.ah x.hosts.length x.ch,.slice x.ar x.rules.length x.cr,.slice x.af x.frm.length x.cf,.slice x.ao x.tos.length x.co]:=by show Value.agg #[.int .i64 x.ref.kind,.string x.ref.space,.string x.ref.name,.bool x.good,.slice x.al x.labels.length x.cl,.slice x.ap x.ports.length x.cp,.string x.cls,.slice x.ai x.lis.length x.ci,.slice x.aq x.pars.length x.cq,.slice x.ah x.hosts.length x.ch,.slice x.ar x.rules.length x.cr,.slice x.af x.frm.length x.cf,.slice x.ao x.tos.length x.co]=_;rw [hk]
 rw [EO]
 have HP:Hid (Ob.mayO x.b=_):=aWg x hk
 obtain ⟨X,hX⟩:∃ z,z=w.alloc (.cells #[.int .i64 2,.string x.ref.space,.string x.ref.name,.bool x.good,.slice x.al x.labels.length x.cl,.slice x.ap x.ports.length x.cp,.string x.cls,.slice x.ai x.lis.length x.ci,.slice x.aq x.pars.length x.cq,.slice x.ah x.hosts.length x.ch,.slice x.ar x.rules.length x.cr,.slice x.af x.frm.length x.cf,.slice x.ao x.tos.length x.co] 36):=⟨_,rfl⟩
 have HB0:Hid (Below w.heap.size w (w.alloc (.cells #[.int .i64 2,.string x.ref.space,.string x.ref.name,.bool x.good,.slice x.al x.labels.length x.cl,.slice x.ap x.ports.length x.cp,.string x.cls,.slice x.ai x.lis.length x.ci,.slice x.aq x.pars.length x.cq,.slice x.ah x.hosts.length x.ch,.slice x.ar x.rules.length x.cr,.slice x.af x.frm.length x.cf,.slice x.ao x.tos.length x.co] 36))):=(Below.refl _ _).alloc (Nat.le_refl _) _
 have B1:Below w.heap.size w X:=by rw [hX];exact HB0.out
 have K0:X.heap[w.heap.size]?=some (.cells #[.int .i64 2,.string x.ref.space,.string x.ref.name,.bool x.good,.slice x.al x.labels.length x.cl,.slice x.ap x.ports.length x.cp,.string x.cls,.slice x.ai x.lis.length x.ci,.slice x.aq x.pars.length x.cq,.slice x.ah x.hosts.length x.ch,.slice x.ar x.rules.length x.cr,.slice x.af x.frm.length x.cf,.slice x.ao x.tos.length x.co] 36):=by rw [hX];exact aA7 _ _
 have HK0:=hide K0
 have HB1:=hide B1
 have C0:=aC5 x.ref X ok.ref
 have C9:∀ W,Below w.heap.size w W→Calls Tryz.prog 12 #[.agg #[.int .i64 x.ref.kind,.string x.ref.space,.string x.ref.name,.bool false,.slice x.al x.labels.length x.cl,.slice none 0 0,.string ⟨#[]⟩,.slice none 0 0,.slice none 0 0,.slice none 0 0,.slice none 0 0,.slice none 0 0,.slice none 0 0],.agg #[.int .i64 x.ref.kind,.string x.ref.space,.string x.ref.name,.bool x.good,.slice x.al x.labels.length x.cl,.slice x.ap x.ports.length x.cp,.string x.cls,.slice x.ai x.lis.length x.ci,.slice x.aq x.pars.length x.cq,.slice x.ah x.hosts.length x.ch,.slice x.ar x.rules.length x.cr,.slice x.af x.frm.length x.cf,.slice x.ao x.tos.length x.co]] W fun e w'=>e=.returned (.bool (Ob.sameO (aGg x).b x.b))∧Below W.heap.size W w':=fun W h=>aCe (aGg x) x W (aTl (hx.below h)) (hx.below h)
 rw [show rfV x.ref=.agg #[.int .i64 2,.string x.ref.space,.string x.ref.name] by show Value.agg #[.int .i64 x.ref.kind,_,_]=_;rw [hk]] at C0
 rw [hk] at C9
 have HC0:=hide C0
 have HC9:=hide C9
 have C5:∀ W,Below w.heap.size w W→Calls Tryz.prog 46 #[.slice x.al x.labels.length x.cl] W fun e w'=>e=.returned (.bool (La.mayL x.labels))∧Below W.heap.size W w':=fun W h=>aRo x.vl x.labels W (hx.labels.below h) ok.labels
 have HC5:=hide C5
 clear C5
 have HX:=hide hx
 clear C0 C9 B1 K0 hx ok hk EO
 generalize Ob.mayO x.b=zv at *
 generalize Ob.mayRef x.ref=y0 at *
 generalize Ob.sameO (aGg x).b x.b=y9 at *
 generalize La.mayL x.labels=y5 at *
 go_enter Tryz.func27,Tryz.ntmps27
 go_wp2_with fail
 rw [←hX]
 clear hX
 refine HC0.out.mono ?_
 rintro e w1 ⟨rfl,hb1⟩
 have hB1:=bb2 HB1.out hb1
 have kb:=aA2 HK0.out hb1
 have hlt0:w.heap.size<w1.heap.size:=aAs kb
 obtain ⟨o0,o1,o2,o3,o4,o5,o6,o7,o8,o9,o10,o11,o12⟩:=w13 kb
 cases y0
 ·go_wp2_with fail
  go_ret
  exact ⟨aA1 (by rw [HP.out];simp),hB1⟩
 ·obtain ⟨Y,hY⟩:∃ z,z=w1.alloc (.cells #[.int .i64 2,.string x.ref.space,.string x.ref.name,.bool false,.slice x.al x.labels.length x.cl,.slice none 0 0,.string ⟨#[]⟩,.slice none 0 0,.slice none 0 0,.slice none 0 0,.slice none 0 0,.slice none 0 0,.slice none 0 0] 36):=⟨_,rfl⟩
  have hBY1:Below w1.heap.size w1 Y:=by rw [hY];exact (Below.refl _ _).alloc (Nat.le_refl _) _
  have kz:Y.heap[w1.heap.size]?=some (.cells #[.int .i64 2,.string x.ref.space,.string x.ref.name,.bool false,.slice x.al x.labels.length x.cl,.slice none 0 0,.string ⟨#[]⟩,.slice none 0 0,.slice none 0 0,.slice none 0 0,.slice none 0 0,.slice none 0 0,.slice none 0 0] 36):=by rw [hY];exact aA7 _ _
  have HBY:=hide (bb2 hB1 hBY1)
  obtain ⟨zq0,zq1,zq2,zq3,zq4,zq5,zq6,zq7,zq8,zq9,zq10,zq11,zq12⟩:=q13 kz
  obtain ⟨oq0,oq1,oq2,oq3,oq4,oq5,oq6,oq7,oq8,oq9,oq10,oq11,oq12⟩:=q13 (aA2 kb hBY1)
  clear hBY1 kz
  go_wp2_with fail
  rw [←hY]
  clear hY
  cases y5
  ·refine (aA5 ((HC5.out _ HBY.out))).mono ?_
   rintro e x ⟨rfl,q,rfl⟩
   go_wp2_with fail
   go_ret
   exact ⟨aA1 (by rw [HP.out];simp),bb2 HBY.out q.h⟩
  ·refine (aA5 ((HC5.out _ HBY.out))).mono ?_
   rintro e x ⟨rfl,q,rfl⟩
   go_wp2_with fail
   have hq:=bb2 HBY.out q.h
   refine (HC9.out _ hq).mono ?_
   rintro e w9 ⟨rfl,hb9⟩
   go_wp2_with fail
   go_ret
   exact ⟨aA1 (by rw [HP.out];simp),bb2 hq hb9⟩
theorem aWo (x:OV) (w:World) (hx:x.at_ w) (ok:OkO x) (hk:x.ref.kind=4) :
  Calls Tryz.prog 27 #[oV x] w fun e w'=>e=.returned (.bool (Ob.mayO x.b))∧Below w.heap.size w w':=by
 have EO:oV x=.agg #[.int .i64 4,.string x.ref.space,.string x.ref.name,.bool x.good,.slice x.al x.labels.length x.cl,.slice x.ap x.ports.length x.cp,.string x.cls,.slice x.ai x.lis.length x.ci,.slice x.aq x.pars.length x.cq,.slice x.ah x.hosts.length x.ch,.slice x.ar x.rules.length x.cr,.slice x.af x.frm.length x.cf,.slice x.ao x.tos.length x.co]:=by show Value.agg #[.int .i64 x.ref.kind,.string x.ref.space,.string x.ref.name,.bool x.good,.slice x.al x.labels.length x.cl,.slice x.ap x.ports.length x.cp,.string x.cls,.slice x.ai x.lis.length x.ci,.slice x.aq x.pars.length x.cq,.slice x.ah x.hosts.length x.ch,.slice x.ar x.rules.length x.cr,.slice x.af x.frm.length x.cf,.slice x.ao x.tos.length x.co]=_;rw [hk]
 rw [EO]
 have HP:Hid (Ob.mayO x.b=_):=aWi x hk
 obtain ⟨X,hX⟩:∃ z,z=w.alloc (.cells #[.int .i64 4,.string x.ref.space,.string x.ref.name,.bool x.good,.slice x.al x.labels.length x.cl,.slice x.ap x.ports.length x.cp,.string x.cls,.slice x.ai x.lis.length x.ci,.slice x.aq x.pars.length x.cq,.slice x.ah x.hosts.length x.ch,.slice x.ar x.rules.length x.cr,.slice x.af x.frm.length x.cf,.slice x.ao x.tos.length x.co] 36):=⟨_,rfl⟩
 have HB0:Hid (Below w.heap.size w (w.alloc (.cells #[.int .i64 4,.string x.ref.space,.string x.ref.name,.bool x.good,.slice x.al x.labels.length x.cl,.slice x.ap x.ports.length x.cp,.string x.cls,.slice x.ai x.lis.length x.ci,.slice x.aq x.pars.length x.cq,.slice x.ah x.hosts.length x.ch,.slice x.ar x.rules.length x.cr,.slice x.af x.frm.length x.cf,.slice x.ao x.tos.length x.co] 36))):=(Below.refl _ _).alloc (Nat.le_refl _) _
 have B1:Below w.heap.size w X:=by rw [hX];exact HB0.out
 have K0:X.heap[w.heap.size]?=some (.cells #[.int .i64 4,.string x.ref.space,.string x.ref.name,.bool x.good,.slice x.al x.labels.length x.cl,.slice x.ap x.ports.length x.cp,.string x.cls,.slice x.ai x.lis.length x.ci,.slice x.aq x.pars.length x.cq,.slice x.ah x.hosts.length x.ch,.slice x.ar x.rules.length x.cr,.slice x.af x.frm.length x.cf,.slice x.ao x.tos.length x.co] 36):=by rw [hX];exact aA7 _ _
 have HK0:=hide K0
 have HB1:=hide B1
 have C0:=aC5 x.ref X ok.ref
 have C9:∀ W,Below w.heap.size w W→Calls Tryz.prog 12 #[.agg #[.int .i64 x.ref.kind,.string x.ref.space,.string x.ref.name,.bool x.good,.slice none 0 0,.slice none 0 0,.string ⟨#[]⟩,.slice none 0 0,.slice none 0 0,.slice none 0 0,.slice none 0 0,.slice none 0 0,.slice none 0 0],.agg #[.int .i64 x.ref.kind,.string x.ref.space,.string x.ref.name,.bool x.good,.slice x.al x.labels.length x.cl,.slice x.ap x.ports.length x.cp,.string x.cls,.slice x.ai x.lis.length x.ci,.slice x.aq x.pars.length x.cq,.slice x.ah x.hosts.length x.ch,.slice x.ar x.rules.length x.cr,.slice x.af x.frm.length x.cf,.slice x.ao x.tos.length x.co]] W fun e w'=>e=.returned (.bool (Ob.sameO (aGi x).b x.b))∧Below W.heap.size W w':=fun W h=>aCe (aGi x) x W (aTn (hx.below h)) (hx.below h)
 rw [show rfV x.ref=.agg #[.int .i64 4,.string x.ref.space,.string x.ref.name] by show Value.agg #[.int .i64 x.ref.kind,_,_]=_;rw [hk]] at C0
 rw [hk] at C9
 have HC0:=hide C0
 have HC9:=hide C9
 have HX:=hide hx
 clear C0 C9 B1 K0 hx ok hk EO
 generalize Ob.mayO x.b=zv at *
 generalize Ob.mayRef x.ref=y0 at *
 generalize Ob.sameO (aGi x).b x.b=y9 at *
 go_enter Tryz.func27,Tryz.ntmps27
 go_wp2_with fail
 rw [←hX]
 clear hX
 refine HC0.out.mono ?_
 rintro e w1 ⟨rfl,hb1⟩
 have hB1:=bb2 HB1.out hb1
 have kb:=aA2 HK0.out hb1
 have hlt0:w.heap.size<w1.heap.size:=aAs kb
 obtain ⟨o0,o1,o2,o3,o4,o5,o6,o7,o8,o9,o10,o11,o12⟩:=w13 kb
 cases y0
 ·go_wp2_with fail
  go_ret
  exact ⟨aA1 (by rw [HP.out];simp),hB1⟩
 ·obtain ⟨Y,hY⟩:∃ z,z=w1.alloc (.cells #[.int .i64 4,.string x.ref.space,.string x.ref.name,.bool x.good,.slice none 0 0,.slice none 0 0,.string ⟨#[]⟩,.slice none 0 0,.slice none 0 0,.slice none 0 0,.slice none 0 0,.slice none 0 0,.slice none 0 0] 36):=⟨_,rfl⟩
  have hBY1:Below w1.heap.size w1 Y:=by rw [hY];exact (Below.refl _ _).alloc (Nat.le_refl _) _
  have kz:Y.heap[w1.heap.size]?=some (.cells #[.int .i64 4,.string x.ref.space,.string x.ref.name,.bool x.good,.slice none 0 0,.slice none 0 0,.string ⟨#[]⟩,.slice none 0 0,.slice none 0 0,.slice none 0 0,.slice none 0 0,.slice none 0 0,.slice none 0 0] 36):=by rw [hY];exact aA7 _ _
  have HBY:=hide (bb2 hB1 hBY1)
  obtain ⟨zq0,zq1,zq2,zq3,zq4,zq5,zq6,zq7,zq8,zq9,zq10,zq11,zq12⟩:=q13 kz
  obtain ⟨oq0,oq1,oq2,oq3,oq4,oq5,oq6,oq7,oq8,oq9,oq10,oq11,oq12⟩:=q13 (aA2 kb hBY1)
  clear hBY1 kz
  go_wp2_with fail
  rw [←hY]
  clear hY
  refine (HC9.out _ HBY.out).mono ?_
  rintro e w9 ⟨rfl,hb9⟩
  go_wp2_with fail
  go_ret
  exact ⟨aA1 (by rw [HP.out];simp),bb2 HBY.out hb9⟩
theorem aWp (x:OV) (w:World) (hx:x.at_ w) (ok:OkO x) (hk:x.ref.kind=5) :
  Calls Tryz.prog 27 #[oV x] w fun e w'=>e=.returned (.bool (Ob.mayO x.b))∧Below w.heap.size w w':=by
 have EO:oV x=.agg #[.int .i64 5,.string x.ref.space,.string x.ref.name,.bool x.good,.slice x.al x.labels.length x.cl,.slice x.ap x.ports.length x.cp,.string x.cls,.slice x.ai x.lis.length x.ci,.slice x.aq x.pars.length x.cq,.slice x.ah x.hosts.length x.ch,.slice x.ar x.rules.length x.cr,.slice x.af x.frm.length x.cf,.slice x.ao x.tos.length x.co]:=by show Value.agg #[.int .i64 x.ref.kind,.string x.ref.space,.string x.ref.name,.bool x.good,.slice x.al x.labels.length x.cl,.slice x.ap x.ports.length x.cp,.string x.cls,.slice x.ai x.lis.length x.ci,.slice x.aq x.pars.length x.cq,.slice x.ah x.hosts.length x.ch,.slice x.ar x.rules.length x.cr,.slice x.af x.frm.length x.cf,.slice x.ao x.tos.length x.co]=_;rw [hk]
 rw [EO]
 have HP:Hid (Ob.mayO x.b=_):=aWj x hk
 obtain ⟨X,hX⟩:∃ z,z=w.alloc (.cells #[.int .i64 5,.string x.ref.space,.string x.ref.name,.bool x.good,.slice x.al x.labels.length x.cl,.slice x.ap x.ports.length x.cp,.string x.cls,.slice x.ai x.lis.length x.ci,.slice x.aq x.pars.length x.cq,.slice x.ah x.hosts.length x.ch,.slice x.ar x.rules.length x.cr,.slice x.af x.frm.length x.cf,.slice x.ao x.tos.length x.co] 36):=⟨_,rfl⟩
 have HB0:Hid (Below w.heap.size w (w.alloc (.cells #[.int .i64 5,.string x.ref.space,.string x.ref.name,.bool x.good,.slice x.al x.labels.length x.cl,.slice x.ap x.ports.length x.cp,.string x.cls,.slice x.ai x.lis.length x.ci,.slice x.aq x.pars.length x.cq,.slice x.ah x.hosts.length x.ch,.slice x.ar x.rules.length x.cr,.slice x.af x.frm.length x.cf,.slice x.ao x.tos.length x.co] 36))):=(Below.refl _ _).alloc (Nat.le_refl _) _
 have B1:Below w.heap.size w X:=by rw [hX];exact HB0.out
 have K0:X.heap[w.heap.size]?=some (.cells #[.int .i64 5,.string x.ref.space,.string x.ref.name,.bool x.good,.slice x.al x.labels.length x.cl,.slice x.ap x.ports.length x.cp,.string x.cls,.slice x.ai x.lis.length x.ci,.slice x.aq x.pars.length x.cq,.slice x.ah x.hosts.length x.ch,.slice x.ar x.rules.length x.cr,.slice x.af x.frm.length x.cf,.slice x.ao x.tos.length x.co] 36):=by rw [hX];exact aA7 _ _
 have HK0:=hide K0
 have HB1:=hide B1
 have C0:=aC5 x.ref X ok.ref
 have C9:∀ W,Below w.heap.size w W→Calls Tryz.prog 12 #[.agg #[.int .i64 x.ref.kind,.string x.ref.space,.string x.ref.name,.bool false,.slice none 0 0,.slice none 0 0,.string x.cls,.slice x.ai x.lis.length x.ci,.slice none 0 0,.slice none 0 0,.slice none 0 0,.slice none 0 0,.slice none 0 0],.agg #[.int .i64 x.ref.kind,.string x.ref.space,.string x.ref.name,.bool x.good,.slice x.al x.labels.length x.cl,.slice x.ap x.ports.length x.cp,.string x.cls,.slice x.ai x.lis.length x.ci,.slice x.aq x.pars.length x.cq,.slice x.ah x.hosts.length x.ch,.slice x.ar x.rules.length x.cr,.slice x.af x.frm.length x.cf,.slice x.ao x.tos.length x.co]] W fun e w'=>e=.returned (.bool (Ob.sameO (aFd x).b x.b))∧Below W.heap.size W w':=fun W h=>aCe (aFd x) x W (aTo (hx.below h)) (hx.below h)
 rw [show rfV x.ref=.agg #[.int .i64 5,.string x.ref.space,.string x.ref.name] by show Value.agg #[.int .i64 x.ref.kind,_,_]=_;rw [hk]] at C0
 rw [hk] at C9
 have HC0:=hide C0
 have HC9:=hide C9
 have C5:∀ W,Below w.heap.size w W→Calls Tryz.prog 48 #[.agg #[.int .i64 x.ref.kind,.string x.ref.space,.string x.ref.name,.bool x.good,.slice x.al x.labels.length x.cl,.slice x.ap x.ports.length x.cp,.string x.cls,.slice x.ai x.lis.length x.ci,.slice x.aq x.pars.length x.cq,.slice x.ah x.hosts.length x.ch,.slice x.ar x.rules.length x.cr,.slice x.af x.frm.length x.cf,.slice x.ao x.tos.length x.co]] W fun e w'=>e=.returned (.bool ((Ob.isN x.cls&&(Ob.cnt x.lis 1 8 (fun l=>Ob.mayLi l.b)&&Ob.dif (fun a b=>Ob.nameLi a.b b.b) x.lis))))∧Below W.heap.size W w':=fun W h=>aMe x W (hx.below h) ok
 rw [hk] at C5
 have HC5:=hide C5
 clear C5
 have HX:=hide hx
 clear C0 C9 B1 K0 hx ok hk EO
 generalize Ob.mayO x.b=zv at *
 generalize Ob.mayRef x.ref=y0 at *
 generalize Ob.sameO (aFd x).b x.b=y9 at *
 generalize (Ob.isN x.cls&&(Ob.cnt x.lis 1 8 (fun l=>Ob.mayLi l.b)&&Ob.dif (fun a b=>Ob.nameLi a.b b.b) x.lis))=y5 at *
 go_enter Tryz.func27,Tryz.ntmps27
 go_wp2_with fail
 rw [←hX]
 clear hX
 refine HC0.out.mono ?_
 rintro e w1 ⟨rfl,hb1⟩
 have hB1:=bb2 HB1.out hb1
 have kb:=aA2 HK0.out hb1
 have hlt0:w.heap.size<w1.heap.size:=aAs kb
 obtain ⟨o0,o1,o2,o3,o4,o5,o6,o7,o8,o9,o10,o11,o12⟩:=w13 kb
 cases y0
 ·go_wp2_with fail
  go_ret
  exact ⟨aA1 (by rw [HP.out];simp),hB1⟩
 ·obtain ⟨Y,hY⟩:∃ z,z=w1.alloc (.cells #[.int .i64 5,.string x.ref.space,.string x.ref.name,.bool false,.slice none 0 0,.slice none 0 0,.string x.cls,.slice x.ai x.lis.length x.ci,.slice none 0 0,.slice none 0 0,.slice none 0 0,.slice none 0 0,.slice none 0 0] 36):=⟨_,rfl⟩
  have hBY1:Below w1.heap.size w1 Y:=by rw [hY];exact (Below.refl _ _).alloc (Nat.le_refl _) _
  have kz:Y.heap[w1.heap.size]?=some (.cells #[.int .i64 5,.string x.ref.space,.string x.ref.name,.bool false,.slice none 0 0,.slice none 0 0,.string x.cls,.slice x.ai x.lis.length x.ci,.slice none 0 0,.slice none 0 0,.slice none 0 0,.slice none 0 0,.slice none 0 0] 36):=by rw [hY];exact aA7 _ _
  have HBY:=hide (bb2 hB1 hBY1)
  obtain ⟨zq0,zq1,zq2,zq3,zq4,zq5,zq6,zq7,zq8,zq9,zq10,zq11,zq12⟩:=q13 kz
  obtain ⟨oq0,oq1,oq2,oq3,oq4,oq5,oq6,oq7,oq8,oq9,oq10,oq11,oq12⟩:=q13 (aA2 kb hBY1)
  clear hBY1 kz
  go_wp2_with fail
  rw [←hY]
  clear hY
  cases y5
  ·refine (aA5 ((HC5.out _ HBY.out))).mono ?_
   rintro e x ⟨rfl,q,rfl⟩
   go_wp2_with fail
   go_ret
   exact ⟨aA1 (by rw [HP.out];simp),bb2 HBY.out q.h⟩
  ·refine (aA5 ((HC5.out _ HBY.out))).mono ?_
   rintro e x ⟨rfl,q,rfl⟩
   go_wp2_with fail
   have hq:=bb2 HBY.out q.h
   refine (HC9.out _ hq).mono ?_
   rintro e w9 ⟨rfl,hb9⟩
   go_wp2_with fail
   go_ret
   exact ⟨aA1 (by rw [HP.out];simp),bb2 hq hb9⟩
theorem aWq (x:OV) (w:World) (hx:x.at_ w) (ok:OkO x) (hk:x.ref.kind=6) :
  Calls Tryz.prog 27 #[oV x] w fun e w'=>e=.returned (.bool (Ob.mayO x.b))∧Below w.heap.size w w':=by
 have EO:oV x=.agg #[.int .i64 6,.string x.ref.space,.string x.ref.name,.bool x.good,.slice x.al x.labels.length x.cl,.slice x.ap x.ports.length x.cp,.string x.cls,.slice x.ai x.lis.length x.ci,.slice x.aq x.pars.length x.cq,.slice x.ah x.hosts.length x.ch,.slice x.ar x.rules.length x.cr,.slice x.af x.frm.length x.cf,.slice x.ao x.tos.length x.co]:=by show Value.agg #[.int .i64 x.ref.kind,.string x.ref.space,.string x.ref.name,.bool x.good,.slice x.al x.labels.length x.cl,.slice x.ap x.ports.length x.cp,.string x.cls,.slice x.ai x.lis.length x.ci,.slice x.aq x.pars.length x.cq,.slice x.ah x.hosts.length x.ch,.slice x.ar x.rules.length x.cr,.slice x.af x.frm.length x.cf,.slice x.ao x.tos.length x.co]=_;rw [hk]
 rw [EO]
 have HP:Hid (Ob.mayO x.b=_):=aWk x hk
 obtain ⟨X,hX⟩:∃ z,z=w.alloc (.cells #[.int .i64 6,.string x.ref.space,.string x.ref.name,.bool x.good,.slice x.al x.labels.length x.cl,.slice x.ap x.ports.length x.cp,.string x.cls,.slice x.ai x.lis.length x.ci,.slice x.aq x.pars.length x.cq,.slice x.ah x.hosts.length x.ch,.slice x.ar x.rules.length x.cr,.slice x.af x.frm.length x.cf,.slice x.ao x.tos.length x.co] 36):=⟨_,rfl⟩
 have HB0:Hid (Below w.heap.size w (w.alloc (.cells #[.int .i64 6,.string x.ref.space,.string x.ref.name,.bool x.good,.slice x.al x.labels.length x.cl,.slice x.ap x.ports.length x.cp,.string x.cls,.slice x.ai x.lis.length x.ci,.slice x.aq x.pars.length x.cq,.slice x.ah x.hosts.length x.ch,.slice x.ar x.rules.length x.cr,.slice x.af x.frm.length x.cf,.slice x.ao x.tos.length x.co] 36))):=(Below.refl _ _).alloc (Nat.le_refl _) _
 have B1:Below w.heap.size w X:=by rw [hX];exact HB0.out
 have K0:X.heap[w.heap.size]?=some (.cells #[.int .i64 6,.string x.ref.space,.string x.ref.name,.bool x.good,.slice x.al x.labels.length x.cl,.slice x.ap x.ports.length x.cp,.string x.cls,.slice x.ai x.lis.length x.ci,.slice x.aq x.pars.length x.cq,.slice x.ah x.hosts.length x.ch,.slice x.ar x.rules.length x.cr,.slice x.af x.frm.length x.cf,.slice x.ao x.tos.length x.co] 36):=by rw [hX];exact aA7 _ _
 have HK0:=hide K0
 have HB1:=hide B1
 have C0:=aC5 x.ref X ok.ref
 have C9:∀ W,Below w.heap.size w W→Calls Tryz.prog 12 #[.agg #[.int .i64 x.ref.kind,.string x.ref.space,.string x.ref.name,.bool false,.slice none 0 0,.slice none 0 0,.string ⟨#[]⟩,.slice none 0 0,.slice x.aq x.pars.length x.cq,.slice x.ah x.hosts.length x.ch,.slice x.ar x.rules.length x.cr,.slice none 0 0,.slice none 0 0],.agg #[.int .i64 x.ref.kind,.string x.ref.space,.string x.ref.name,.bool x.good,.slice x.al x.labels.length x.cl,.slice x.ap x.ports.length x.cp,.string x.cls,.slice x.ai x.lis.length x.ci,.slice x.aq x.pars.length x.cq,.slice x.ah x.hosts.length x.ch,.slice x.ar x.rules.length x.cr,.slice x.af x.frm.length x.cf,.slice x.ao x.tos.length x.co]] W fun e w'=>e=.returned (.bool (Ob.sameO (aGj x).b x.b))∧Below W.heap.size W w':=fun W h=>aCe (aGj x) x W (aTp (hx.below h)) (hx.below h)
 rw [show rfV x.ref=.agg #[.int .i64 6,.string x.ref.space,.string x.ref.name] by show Value.agg #[.int .i64 x.ref.kind,_,_]=_;rw [hk]] at C0
 rw [hk] at C9
 have HC0:=hide C0
 have HC9:=hide C9
 have C5:∀ W,Below w.heap.size w W→Calls Tryz.prog 49 #[.agg #[.int .i64 x.ref.kind,.string x.ref.space,.string x.ref.name,.bool x.good,.slice x.al x.labels.length x.cl,.slice x.ap x.ports.length x.cp,.string x.cls,.slice x.ai x.lis.length x.ci,.slice x.aq x.pars.length x.cq,.slice x.ah x.hosts.length x.ch,.slice x.ar x.rules.length x.cr,.slice x.af x.frm.length x.cf,.slice x.ao x.tos.length x.co]] W fun e w'=>e=.returned (.bool (rtV x))∧Below W.heap.size W w':=fun W h=>aPl x W (hx.below h) ok
 rw [hk] at C5
 have HC5:=hide C5
 clear C5
 have HX:=hide hx
 clear C0 C9 B1 K0 hx ok hk EO
 generalize Ob.mayO x.b=zv at *
 generalize Ob.mayRef x.ref=y0 at *
 generalize Ob.sameO (aGj x).b x.b=y9 at *
 generalize rtV x=y5 at *
 go_enter Tryz.func27,Tryz.ntmps27
 go_wp2_with fail
 rw [←hX]
 clear hX
 refine HC0.out.mono ?_
 rintro e w1 ⟨rfl,hb1⟩
 have hB1:=bb2 HB1.out hb1
 have kb:=aA2 HK0.out hb1
 have hlt0:w.heap.size<w1.heap.size:=aAs kb
 obtain ⟨o0,o1,o2,o3,o4,o5,o6,o7,o8,o9,o10,o11,o12⟩:=w13 kb
 cases y0
 ·go_wp2_with fail
  go_ret
  exact ⟨aA1 (by rw [HP.out];simp),hB1⟩
 ·obtain ⟨Y,hY⟩:∃ z,z=w1.alloc (.cells #[.int .i64 6,.string x.ref.space,.string x.ref.name,.bool false,.slice none 0 0,.slice none 0 0,.string ⟨#[]⟩,.slice none 0 0,.slice x.aq x.pars.length x.cq,.slice x.ah x.hosts.length x.ch,.slice x.ar x.rules.length x.cr,.slice none 0 0,.slice none 0 0] 36):=⟨_,rfl⟩
  have hBY1:Below w1.heap.size w1 Y:=by rw [hY];exact (Below.refl _ _).alloc (Nat.le_refl _) _
  have kz:Y.heap[w1.heap.size]?=some (.cells #[.int .i64 6,.string x.ref.space,.string x.ref.name,.bool false,.slice none 0 0,.slice none 0 0,.string ⟨#[]⟩,.slice none 0 0,.slice x.aq x.pars.length x.cq,.slice x.ah x.hosts.length x.ch,.slice x.ar x.rules.length x.cr,.slice none 0 0,.slice none 0 0] 36):=by rw [hY];exact aA7 _ _
  have HBY:=hide (bb2 hB1 hBY1)
  obtain ⟨zq0,zq1,zq2,zq3,zq4,zq5,zq6,zq7,zq8,zq9,zq10,zq11,zq12⟩:=q13 kz
  obtain ⟨oq0,oq1,oq2,oq3,oq4,oq5,oq6,oq7,oq8,oq9,oq10,oq11,oq12⟩:=q13 (aA2 kb hBY1)
  clear hBY1 kz
  go_wp2_with fail
  rw [←hY]
  clear hY
  cases y5
  ·refine (aA5 ((HC5.out _ HBY.out))).mono ?_
   rintro e x ⟨rfl,q,rfl⟩
   go_wp2_with fail
   go_ret
   exact ⟨aA1 (by rw [HP.out];simp),bb2 HBY.out q.h⟩
  ·refine (aA5 ((HC5.out _ HBY.out))).mono ?_
   rintro e x ⟨rfl,q,rfl⟩
   go_wp2_with fail
   have hq:=bb2 HBY.out q.h
   refine (HC9.out _ hq).mono ?_
   rintro e w9 ⟨rfl,hb9⟩
   go_wp2_with fail
   go_ret
   exact ⟨aA1 (by rw [HP.out];simp),bb2 hq hb9⟩
theorem aWr (x:OV) (w:World) (hx:x.at_ w) (ok:OkO x) (hk:x.ref.kind=7) :
  Calls Tryz.prog 27 #[oV x] w fun e w'=>e=.returned (.bool (Ob.mayO x.b))∧Below w.heap.size w w':=by
 have EO:oV x=.agg #[.int .i64 7,.string x.ref.space,.string x.ref.name,.bool x.good,.slice x.al x.labels.length x.cl,.slice x.ap x.ports.length x.cp,.string x.cls,.slice x.ai x.lis.length x.ci,.slice x.aq x.pars.length x.cq,.slice x.ah x.hosts.length x.ch,.slice x.ar x.rules.length x.cr,.slice x.af x.frm.length x.cf,.slice x.ao x.tos.length x.co]:=by show Value.agg #[.int .i64 x.ref.kind,.string x.ref.space,.string x.ref.name,.bool x.good,.slice x.al x.labels.length x.cl,.slice x.ap x.ports.length x.cp,.string x.cls,.slice x.ai x.lis.length x.ci,.slice x.aq x.pars.length x.cq,.slice x.ah x.hosts.length x.ch,.slice x.ar x.rules.length x.cr,.slice x.af x.frm.length x.cf,.slice x.ao x.tos.length x.co]=_;rw [hk]
 rw [EO]
 have HP:Hid (Ob.mayO x.b=_):=aWl x hk
 obtain ⟨X,hX⟩:∃ z,z=w.alloc (.cells #[.int .i64 7,.string x.ref.space,.string x.ref.name,.bool x.good,.slice x.al x.labels.length x.cl,.slice x.ap x.ports.length x.cp,.string x.cls,.slice x.ai x.lis.length x.ci,.slice x.aq x.pars.length x.cq,.slice x.ah x.hosts.length x.ch,.slice x.ar x.rules.length x.cr,.slice x.af x.frm.length x.cf,.slice x.ao x.tos.length x.co] 36):=⟨_,rfl⟩
 have HB0:Hid (Below w.heap.size w (w.alloc (.cells #[.int .i64 7,.string x.ref.space,.string x.ref.name,.bool x.good,.slice x.al x.labels.length x.cl,.slice x.ap x.ports.length x.cp,.string x.cls,.slice x.ai x.lis.length x.ci,.slice x.aq x.pars.length x.cq,.slice x.ah x.hosts.length x.ch,.slice x.ar x.rules.length x.cr,.slice x.af x.frm.length x.cf,.slice x.ao x.tos.length x.co] 36))):=(Below.refl _ _).alloc (Nat.le_refl _) _
 have B1:Below w.heap.size w X:=by rw [hX];exact HB0.out
 have K0:X.heap[w.heap.size]?=some (.cells #[.int .i64 7,.string x.ref.space,.string x.ref.name,.bool x.good,.slice x.al x.labels.length x.cl,.slice x.ap x.ports.length x.cp,.string x.cls,.slice x.ai x.lis.length x.ci,.slice x.aq x.pars.length x.cq,.slice x.ah x.hosts.length x.ch,.slice x.ar x.rules.length x.cr,.slice x.af x.frm.length x.cf,.slice x.ao x.tos.length x.co] 36):=by rw [hX];exact aA7 _ _
 have HK0:=hide K0
 have HB1:=hide B1
 have C0:=aC5 x.ref X ok.ref
 have C9:∀ W,Below w.heap.size w W→Calls Tryz.prog 12 #[.agg #[.int .i64 x.ref.kind,.string x.ref.space,.string x.ref.name,.bool false,.slice none 0 0,.slice none 0 0,.string ⟨#[]⟩,.slice none 0 0,.slice none 0 0,.slice none 0 0,.slice none 0 0,.slice x.af x.frm.length x.cf,.slice x.ao x.tos.length x.co],.agg #[.int .i64 x.ref.kind,.string x.ref.space,.string x.ref.name,.bool x.good,.slice x.al x.labels.length x.cl,.slice x.ap x.ports.length x.cp,.string x.cls,.slice x.ai x.lis.length x.ci,.slice x.aq x.pars.length x.cq,.slice x.ah x.hosts.length x.ch,.slice x.ar x.rules.length x.cr,.slice x.af x.frm.length x.cf,.slice x.ao x.tos.length x.co]] W fun e w'=>e=.returned (.bool (Ob.sameO (aGk x).b x.b))∧Below W.heap.size W w':=fun W h=>aCe (aGk x) x W (aTq (hx.below h)) (hx.below h)
 rw [show rfV x.ref=.agg #[.int .i64 7,.string x.ref.space,.string x.ref.name] by show Value.agg #[.int .i64 x.ref.kind,_,_]=_;rw [hk]] at C0
 rw [hk] at C9
 have HC0:=hide C0
 have HC9:=hide C9
 have C5:∀ W,Below w.heap.size w W→Calls Tryz.prog 50 #[.agg #[.int .i64 x.ref.kind,.string x.ref.space,.string x.ref.name,.bool x.good,.slice x.al x.labels.length x.cl,.slice x.ap x.ports.length x.cp,.string x.cls,.slice x.ai x.lis.length x.ci,.slice x.aq x.pars.length x.cq,.slice x.ah x.hosts.length x.ch,.slice x.ar x.rules.length x.cr,.slice x.af x.frm.length x.cf,.slice x.ao x.tos.length x.co]] W fun e w'=>e=.returned (.bool ((Ob.cnt x.frm 1 4 Ob.mayFr&&Ob.cnt x.tos 1 4 Ob.mayTo)))∧Below W.heap.size W w':=fun W h=>aPd x W (hx.below h) ok
 rw [hk] at C5
 have HC5:=hide C5
 clear C5
 have HX:=hide hx
 clear C0 C9 B1 K0 hx ok hk EO
 generalize Ob.mayO x.b=zv at *
 generalize Ob.mayRef x.ref=y0 at *
 generalize Ob.sameO (aGk x).b x.b=y9 at *
 generalize (Ob.cnt x.frm 1 4 Ob.mayFr&&Ob.cnt x.tos 1 4 Ob.mayTo)=y5 at *
 go_enter Tryz.func27,Tryz.ntmps27
 go_wp2_with fail
 rw [←hX]
 clear hX
 refine HC0.out.mono ?_
 rintro e w1 ⟨rfl,hb1⟩
 have hB1:=bb2 HB1.out hb1
 have kb:=aA2 HK0.out hb1
 have hlt0:w.heap.size<w1.heap.size:=aAs kb
 obtain ⟨o0,o1,o2,o3,o4,o5,o6,o7,o8,o9,o10,o11,o12⟩:=w13 kb
 cases y0
 ·go_wp2_with fail
  go_ret
  exact ⟨aA1 (by rw [HP.out];simp),hB1⟩
 ·obtain ⟨Y,hY⟩:∃ z,z=w1.alloc (.cells #[.int .i64 7,.string x.ref.space,.string x.ref.name,.bool false,.slice none 0 0,.slice none 0 0,.string ⟨#[]⟩,.slice none 0 0,.slice none 0 0,.slice none 0 0,.slice none 0 0,.slice x.af x.frm.length x.cf,.slice x.ao x.tos.length x.co] 36):=⟨_,rfl⟩
  have hBY1:Below w1.heap.size w1 Y:=by rw [hY];exact (Below.refl _ _).alloc (Nat.le_refl _) _
  have kz:Y.heap[w1.heap.size]?=some (.cells #[.int .i64 7,.string x.ref.space,.string x.ref.name,.bool false,.slice none 0 0,.slice none 0 0,.string ⟨#[]⟩,.slice none 0 0,.slice none 0 0,.slice none 0 0,.slice none 0 0,.slice x.af x.frm.length x.cf,.slice x.ao x.tos.length x.co] 36):=by rw [hY];exact aA7 _ _
  have HBY:=hide (bb2 hB1 hBY1)
  obtain ⟨zq0,zq1,zq2,zq3,zq4,zq5,zq6,zq7,zq8,zq9,zq10,zq11,zq12⟩:=q13 kz
  obtain ⟨oq0,oq1,oq2,oq3,oq4,oq5,oq6,oq7,oq8,oq9,oq10,oq11,oq12⟩:=q13 (aA2 kb hBY1)
  clear hBY1 kz
  go_wp2_with fail
  rw [←hY]
  clear hY
  cases y5
  ·refine (aA5 ((HC5.out _ HBY.out))).mono ?_
   rintro e x ⟨rfl,q,rfl⟩
   go_wp2_with fail
   go_ret
   exact ⟨aA1 (by rw [HP.out];simp),bb2 HBY.out q.h⟩
  ·refine (aA5 ((HC5.out _ HBY.out))).mono ?_
   rintro e x ⟨rfl,q,rfl⟩
   go_wp2_with fail
   have hq:=bb2 HBY.out q.h
   refine (HC9.out _ hq).mono ?_
   rintro e w9 ⟨rfl,hb9⟩
   go_wp2_with fail
   go_ret
   exact ⟨aA1 (by rw [HP.out];simp),bb2 hq hb9⟩
end Go.Proofs.YthnodpdiocppgaaGreatDoor
namespace Go.Proofs.YthnodpdiocppgaaGreatDoor
open Go Go.RowKit Go.Shelf
attribute [local go_sem] aAu
theorem aWs (x:OV) (w:World) (hx:x.at_ w) (ok:OkO x) (hk:x.ref.kind=3) :
  Calls Tryz.prog 27 #[oV x] w fun e w'=>e=.returned (.bool (Ob.mayO x.b))∧Below w.heap.size w w':=by
 have EO:oV x=.agg #[.int .i64 3,.string x.ref.space,.string x.ref.name,.bool x.good,.slice x.al x.labels.length x.cl,.slice x.ap x.ports.length x.cp,.string x.cls,.slice x.ai x.lis.length x.ci,.slice x.aq x.pars.length x.cq,.slice x.ah x.hosts.length x.ch,.slice x.ar x.rules.length x.cr,.slice x.af x.frm.length x.cf,.slice x.ao x.tos.length x.co]:=by show Value.agg #[.int .i64 x.ref.kind,.string x.ref.space,.string x.ref.name,.bool x.good,.slice x.al x.labels.length x.cl,.slice x.ap x.ports.length x.cp,.string x.cls,.slice x.ai x.lis.length x.ci,.slice x.aq x.pars.length x.cq,.slice x.ah x.hosts.length x.ch,.slice x.ar x.rules.length x.cr,.slice x.af x.frm.length x.cf,.slice x.ao x.tos.length x.co]=_;rw [hk]
 rw [EO]
 have HP:Hid (Ob.mayO x.b=_):=aWh x hk
 obtain ⟨X,hX⟩:∃ z,z=w.alloc (.cells #[.int .i64 3,.string x.ref.space,.string x.ref.name,.bool x.good,.slice x.al x.labels.length x.cl,.slice x.ap x.ports.length x.cp,.string x.cls,.slice x.ai x.lis.length x.ci,.slice x.aq x.pars.length x.cq,.slice x.ah x.hosts.length x.ch,.slice x.ar x.rules.length x.cr,.slice x.af x.frm.length x.cf,.slice x.ao x.tos.length x.co] 36):=⟨_,rfl⟩
 have HB0:Hid (Below w.heap.size w (w.alloc (.cells #[.int .i64 3,.string x.ref.space,.string x.ref.name,.bool x.good,.slice x.al x.labels.length x.cl,.slice x.ap x.ports.length x.cp,.string x.cls,.slice x.ai x.lis.length x.ci,.slice x.aq x.pars.length x.cq,.slice x.ah x.hosts.length x.ch,.slice x.ar x.rules.length x.cr,.slice x.af x.frm.length x.cf,.slice x.ao x.tos.length x.co] 36))):=(Below.refl _ _).alloc (Nat.le_refl _) _
 have B1:Below w.heap.size w X:=by rw [hX];exact HB0.out
 have K0:X.heap[w.heap.size]?=some (.cells #[.int .i64 3,.string x.ref.space,.string x.ref.name,.bool x.good,.slice x.al x.labels.length x.cl,.slice x.ap x.ports.length x.cp,.string x.cls,.slice x.ai x.lis.length x.ci,.slice x.aq x.pars.length x.cq,.slice x.ah x.hosts.length x.ch,.slice x.ar x.rules.length x.cr,.slice x.af x.frm.length x.cf,.slice x.ao x.tos.length x.co] 36):=by rw [hX];exact aA7 _ _
 have HK0:=hide K0
 have HB1:=hide B1
 have C0:=aC5 x.ref X ok.ref
 have C9:∀ W,Below w.heap.size w W→Calls Tryz.prog 12 #[.agg #[.int .i64 x.ref.kind,.string x.ref.space,.string x.ref.name,.bool false,.slice none 0 0,.slice x.ap x.ports.length x.cp,.string ⟨#[]⟩,.slice none 0 0,.slice none 0 0,.slice none 0 0,.slice none 0 0,.slice none 0 0,.slice none 0 0],.agg #[.int .i64 x.ref.kind,.string x.ref.space,.string x.ref.name,.bool x.good,.slice x.al x.labels.length x.cl,.slice x.ap x.ports.length x.cp,.string x.cls,.slice x.ai x.lis.length x.ci,.slice x.aq x.pars.length x.cq,.slice x.ah x.hosts.length x.ch,.slice x.ar x.rules.length x.cr,.slice x.af x.frm.length x.cf,.slice x.ao x.tos.length x.co]] W fun e w'=>e=.returned (.bool (Ob.sameO (aGh x).b x.b))∧Below W.heap.size W w':=fun W h=>aCe (aGh x) x W (aTm (hx.below h)) (hx.below h)
 rw [show rfV x.ref=.agg #[.int .i64 3,.string x.ref.space,.string x.ref.name] by show Value.agg #[.int .i64 x.ref.kind,_,_]=_;rw [hk]] at C0
 rw [hk] at C9
 have HC0:=hide C0
 have HC9:=hide C9
 have HX:=hide hx
 clear C0 C9 B1 K0 hx ok hk EO
 generalize Ob.mayO x.b=zv at *
 generalize Ob.mayRef x.ref=y0 at *
 generalize Ob.sameO (aGh x).b x.b=y9 at *
 go_enter Tryz.func27,Tryz.ntmps27
 go_wp2_with fail
 rw [←hX]
 clear hX
 refine HC0.out.mono ?_
 rintro e w1 ⟨rfl,hb1⟩
 have hB1:=bb2 HB1.out hb1
 have kb:=aA2 HK0.out hb1
 have hlt0:w.heap.size<w1.heap.size:=aAs kb
 obtain ⟨o0,o1,o2,o3,o4,o5,o6,o7,o8,o9,o10,o11,o12⟩:=w13 kb
 cases y0
 ·go_wp2_with fail
  go_ret
  exact ⟨aA1 (by rw [HP.out];simp),hB1⟩
 ·obtain ⟨Y,hY⟩:∃ z,z=w1.alloc (.cells #[.int .i64 3,.string x.ref.space,.string x.ref.name,.bool false,.slice none 0 0,.slice x.ap x.ports.length x.cp,.string ⟨#[]⟩,.slice none 0 0,.slice none 0 0,.slice none 0 0,.slice none 0 0,.slice none 0 0,.slice none 0 0] 36):=⟨_,rfl⟩
  have hBY1:Below w1.heap.size w1 Y:=by rw [hY];exact (Below.refl _ _).alloc (Nat.le_refl _) _
  have kz:Y.heap[w1.heap.size]?=some (.cells #[.int .i64 3,.string x.ref.space,.string x.ref.name,.bool false,.slice none 0 0,.slice x.ap x.ports.length x.cp,.string ⟨#[]⟩,.slice none 0 0,.slice none 0 0,.slice none 0 0,.slice none 0 0,.slice none 0 0,.slice none 0 0] 36):=by rw [hY];exact aA7 _ _
  have HBY:=hide (bb2 hB1 hBY1)
  obtain ⟨zq0,zq1,zq2,zq3,zq4,zq5,zq6,zq7,zq8,zq9,zq10,zq11,zq12⟩:=q13 kz
  obtain ⟨oq0,oq1,oq2,oq3,oq4,oq5,oq6,oq7,oq8,oq9,oq10,oq11,oq12⟩:=q13 (aA2 kb hBY1)
  have kz0:=kz
  have hBY0:=hBY1
  clear hBY1 kz
  have KZ:=hide kz0
  have OQA:Hid (∀ W,Below Y.heap.size Y W→∀ (i:Nat) (c:Value),(#[.int .i64 3,.string x.ref.space,.string x.ref.name,.bool x.good,.slice x.al x.labels.length x.cl,.slice x.ap x.ports.length x.cp,.string x.cls,.slice x.ai x.lis.length x.ci,.slice x.aq x.pars.length x.cq,.slice x.ah x.hosts.length x.ch,.slice x.ar x.rules.length x.cr,.slice x.af x.frm.length x.cf,.slice x.ao x.tos.length x.co]:Array Value)[i]?=some c→W.cell? ⟨w.heap.size,i,none⟩=some c):=fun W h i c hc=>aA0 (aA2 (aA2 kb hBY0) h) hc
  have OQ5:=oq5
  have hlen0:=HX.out.ports.len
  clear zq0 zq1 zq2 zq3 zq4 zq5 zq6 zq7 zq8 zq9 zq10 zq11 zq12 oq0 oq1 oq2 oq3 oq4 oq5 oq6 oq7 oq8 oq9 oq10 oq11 oq12 kz0 hBY0
  go_upto_region 14 with fail
  go_cut [4] from 35 (fun g wx=>∃ b:Bool,.bool b=g∧Hid (b=true↔svTo x.ports 0)∧Below Y.heap.size Y wx)
  case first =>
   have HZ:=hide (aS1 x.ports)
   cases a1:decide ((1:Int)≤(x.ports.length:Int))
   ·have HB0b:Hid (false=true↔svTo x.ports 0):=hide ⟨fun h=>(by cases h),fun h=>absurd (decide_eq_false_iff_not.1 a1) (fun f=>f (by have:=(HZ.out.1 h).1;omega))⟩
    go_wp2_with fail
    go_meet
    case rel=>exact ⟨false,rfl,HB0b,by rw [hY];exact Below.refl _ _⟩
   ·cases a2:decide ((x.ports.length:Int)≤8)
    ·have HB0b:Hid (false=true↔svTo x.ports 0):=hide ⟨fun h=>(by cases h),fun h=>absurd (decide_eq_false_iff_not.1 a2) (fun f=>f (by have:=(HZ.out.1 h).2;omega))⟩
     go_wp2_with fail
     go_meet
     case rel=>exact ⟨false,rfl,HB0b,by rw [hY];exact Below.refl _ _⟩
    ·have HB0b:=hide (HZ.out.2 ⟨by have:=of_decide_eq_true a1;omega,by have:=of_decide_eq_true a2;omega⟩)
     go_wp2_with fail
     go_meet
     case rel=>exact ⟨true,rfl,(by unfold Hid;simpa using HB0b.out),by rw [hY];exact Below.refl _ _⟩
  case rest =>
   clear hY
   obtain ⟨b0,rfl,HB0b,hB00⟩:=hcut
   go_wp2_with fail
   go_loopw [4,5] (fun g i wr=>∃ (k:Nat) (b:Bool),k≤x.ports.length∧g=.bool b∧i=.int .i64 k∧Hid (b=true↔svTo x.ports k)∧Below Y.heap.size Y wr) (fun _ i _=>x.ports.length - (intOf i).toNat)
   case atStart=>exact ⟨0,b0,Nat.zero_le _,rfl,rfl,HB0b,hB00⟩
   case round =>
    clear HB0b hB00
    obtain ⟨k,b,hk,rfl,rfl,hb,hB⟩:=hrel
    have hBy:=bb2 HBY.out hB
    have hlen:=HX.out.ports.len
    have o5:wr.cell? ⟨w.heap.size,5,none⟩=some (.slice x.ap x.ports.length x.cp):=OQ5 ⟨wr,hB⟩
    have oq5:∀ q:GB wr,q.W.cell? ⟨w.heap.size,5,none⟩=some (.slice x.ap x.ports.length x.cp):=fun q=>OQ5 ⟨q.W,bb2 hB q.h⟩
    by_cases hlt:k<x.ports.length
    ·have hlt':(k:Int)<(x.ports.length:Int):=by omega
     obtain ⟨_,g,off,ha,hg,p0⟩:=oneI HX.out.ports hBy hlt
     have c1:=fun q:GB wr=>(q.h.cell (p:=⟨g,off+k,none⟩) (Nat.lt_of_lt_of_le hg hBy.size)).trans p0
     rw [ha] at o5 oq5
     have HN:Hid (svTo x.ports (k+1)↔svTo x.ports k∧Ob.isPort x.ports[k]=true∧(k=0∨∃ (h2:k - 1<x.ports.length),x.ports[k - 1]<x.ports[k])):=aS2 hlt
     have CP:=fun W (h:Below wr.heap.size wr W)=>hide (aE8 x.ports[k] W)
     cases b
     ·have HBN:Hid (false=true↔svTo x.ports (k+1)):=hide ⟨fun h=>(by cases h),fun h=>hb.out.2 (HN.out.1 h).1⟩
      clear hb HN ha hg p0
      go_wp2_with fail
      refine aA6 (by kernel_rfl) (by kernel_rfl) ?_
      repeat (first | go_big_quiet_step (fail) | quiet_step (fail))
      refine wpQuiet_nil ?_
      intro _ hw'
      obtain ⟨qq,hw2⟩:=hw'
      subst hw2
      have hq:=qq.h
      go_wp2_with fail
      exact ⟨⟨k+1,false,by omega,rfl,by go_num,HBN.out,bb2 hB hq⟩,by simp [intOf];omega⟩
     ·cases hpt:Ob.isPort x.ports[k]
      ·have HBN:Hid (false=true↔svTo x.ports (k+1)):=hide ⟨fun h=>(by cases h),fun h=>by have:=(HN.out.1 h).2.1;rw [hpt] at this;cases this⟩
       rw [hpt] at CP
       clear hb HN ha hg p0 hpt
       go_wp2_with fail
       refine aA6 (by kernel_rfl) (by kernel_rfl) ?_
       repeat (first | go_big_quiet_step ((go_at_call 47;exact aA3 (CP _ (GB.h _)).out)) | quiet_step ((go_at_call 47;exact aA3 (CP _ (GB.h _)).out)))
       refine wpQuiet_nil ?_
       intro _ hw'
       obtain ⟨qq,hw2⟩:=hw'
       subst hw2
       have hq:=qq.h
       go_wp2_with fail
       exact ⟨⟨k+1,false,by omega,rfl,by go_num,HBN.out,bb2 hB hq⟩,by simp [intOf];omega⟩
      ·by_cases hk0:k=0
       ·have HBN:Hid (true=true↔svTo x.ports (k+1)):=hide ⟨fun _=>HN.out.2 ⟨hb.out.1 rfl,hpt,.inl hk0⟩,fun _=>rfl⟩
        have hkb:((k:Int) == 0)=true:=by rw [hk0];rfl
        have HK0:=hide hk0
        rw [hpt] at CP
        clear hb HN ha hg p0 hpt hk0
        go_wp2_with fail
        refine aA6 (by kernel_rfl) (by kernel_rfl) ?_
        repeat (first | go_big_quiet_step ((go_at_call 47;exact aA3 (CP _ (GB.h _)).out)) | quiet_step ((go_at_call 47;exact aA3 (CP _ (GB.h _)).out)))
        refine wpQuiet_nil ?_
        intro _ hw'
        obtain ⟨qq,hw2⟩:=hw'
        subst hw2
        have hq:=qq.h
        go_wp2_with fail
        exact ⟨⟨k+1,true,by omega,rfl,by go_num,(by unfold Hid;simpa using HBN.out),bb2 hB hq⟩,by simp [intOf];omega⟩
       ·obtain ⟨m,hm⟩:∃ m,k=m+1:=⟨k - 1,by omega⟩
        have hml:m<x.ports.length:=by omega
        have hml':(m:Int)<(x.ports.length:Int):=by omega
        obtain ⟨_,g2,off2,ha2,hg2,p1⟩:=oneI HX.out.ports hBy hml
        rw [ha] at ha2
        injection ha2 with ha2
        injection ha2 with e1 e2
        subst e1
        subst e2
        have c2:=fun q:GB wr=>(q.h.cell (p:=⟨g,off+m,none⟩) (Nat.lt_of_lt_of_le hg hBy.size)).trans p1
        have hwr:IntKind.i64.wrap ((k:Int) - 1)=(m:Int):=by rw [IntKind.wrap_i64];omega
        have hkb:((k:Int) == 0)=false:=by rw [beq_eq_false_iff_ne];omega
        have HN2:Hid (svTo x.ports (k+1)↔x.ports[m]<x.ports[k]):=hide ⟨fun h=>by
         rcases (HN.out.1 h).2.2 with h0 | ⟨h2,h3⟩
         ·exact absurd h0 hk0
         ·have:k - 1=m:=by omega
          simp only [this] at h3
          exact h3,fun h=>HN.out.2 ⟨hb.out.1 rfl,hpt,.inr ⟨by omega,by
           have:k - 1=m:=by omega
           simp only [this]
           exact h⟩⟩⟩
        rw [hpt] at CP
        have HMM:=hide hm
        clear hb HN ha hg p0 p1 hpt hk0 hm hg2
        cases hd:decide (x.ports[m]<x.ports[k])
        ·have HBN:Hid (false=true↔svTo x.ports (k+1)):=hide ⟨fun h=>(by cases h),fun h=>absurd (HN2.out.1 h) (of_decide_eq_false hd)⟩
         clear HN2
         go_wp2_with fail
         refine aA6 (by kernel_rfl) (by kernel_rfl) ?_
         repeat (first | go_big_quiet_step ((go_at_call 47;exact aA3 (CP _ (GB.h _)).out)) | quiet_step ((go_at_call 47;exact aA3 (CP _ (GB.h _)).out)))
         refine wpQuiet_nil ?_
         intro _ hw'
         obtain ⟨qq,hw2⟩:=hw'
         subst hw2
         have hq:=qq.h
         go_wp2_with fail
         exact ⟨⟨k+1,false,by omega,rfl,by go_num,HBN.out,bb2 hB hq⟩,by simp [intOf];omega⟩
        ·have HBN:Hid (true=true↔svTo x.ports (k+1)):=hide ⟨fun _=>HN2.out.2 (of_decide_eq_true hd),fun _=>rfl⟩
         clear HN2
         go_wp2_with fail
         refine aA6 (by kernel_rfl) (by kernel_rfl) ?_
         repeat (first | go_big_quiet_step ((go_at_call 47;exact aA3 (CP _ (GB.h _)).out)) | quiet_step ((go_at_call 47;exact aA3 (CP _ (GB.h _)).out)))
         refine wpQuiet_nil ?_
         intro _ hw'
         obtain ⟨qq,hw2⟩:=hw'
         subst hw2
         have hq:=qq.h
         go_wp2_with fail
         exact ⟨⟨k+1,true,by omega,rfl,by go_num,(by unfold Hid;simpa using HBN.out),bb2 hB hq⟩,by simp [intOf];omega⟩
    ·obtain rfl:k=x.ports.length:=by omega
     have hlt':¬ (x.ports.length:Int)<(x.ports.length:Int):=by omega
     have HGD:Hid (b=(Ob.cnt x.ports 1 8 Ob.isPort&&(Ob.srt x.ports&&Ob.dif Ob.eqI x.ports))):=by
      unfold Hid
      rw [Bool.eq_iff_iff,hb.out,aTr]
     have HP2:Hid (zv=(b&&y9)):=by
      unfold Hid
      rw [HP.out,Bool.true_and,←HGD.out]
     clear hb HGD HP
     cases b
     ·go_wp2_with fail
      go_ret
      exact ⟨aA1 (by rw [HP2.out];simp),hBy⟩
     ·have zq:=fun i (c:Value) (h:(#[.int .i64 3,.string x.ref.space,.string x.ref.name,.bool false,.slice none 0 0,.slice x.ap x.ports.length x.cp,.string ⟨#[]⟩,.slice none 0 0,.slice none 0 0,.slice none 0 0,.slice none 0 0,.slice none 0 0,.slice none 0 0]:Array Value)[i]?=some c)=>aA0 (aA2 KZ.out hB) (i:=i) h
      have zz0:=zq 0 _ rfl
      have xx0:=OQA.out wr hB 0 _ rfl
      have zz1:=zq 1 _ rfl
      have xx1:=OQA.out wr hB 1 _ rfl
      have zz2:=zq 2 _ rfl
      have xx2:=OQA.out wr hB 2 _ rfl
      have zz3:=zq 3 _ rfl
      have xx3:=OQA.out wr hB 3 _ rfl
      have zz4:=zq 4 _ rfl
      have xx4:=OQA.out wr hB 4 _ rfl
      have zz5:=zq 5 _ rfl
      have xx5:=OQA.out wr hB 5 _ rfl
      have zz6:=zq 6 _ rfl
      have xx6:=OQA.out wr hB 6 _ rfl
      have zz7:=zq 7 _ rfl
      have xx7:=OQA.out wr hB 7 _ rfl
      have zz8:=zq 8 _ rfl
      have xx8:=OQA.out wr hB 8 _ rfl
      have zz9:=zq 9 _ rfl
      have xx9:=OQA.out wr hB 9 _ rfl
      have zz10:=zq 10 _ rfl
      have xx10:=OQA.out wr hB 10 _ rfl
      have zz11:=zq 11 _ rfl
      have xx11:=OQA.out wr hB 11 _ rfl
      have zz12:=zq 12 _ rfl
      have xx12:=OQA.out wr hB 12 _ rfl
      clear zq
      go_wp2_with fail
      refine (HC9.out _ hBy).mono ?_
      rintro e w9 ⟨rfl,hb9⟩
      go_wp2_with fail
      go_ret
      exact ⟨aA1 (by rw [HP2.out];simp),bb2 hBy hb9⟩
theorem aS3 (x:OV) (w:World) (hx:x.at_ w) (ok:OkO x) :
  Calls Tryz.prog 27 #[oV x] w fun e w'=>e=.returned (.bool (Ob.mayO x.b))∧Below w.heap.size w w':=by
 by_cases k1:x.ref.kind=1
 ·exact aWm x w hx ok k1
 by_cases k2:x.ref.kind=2
 ·exact aWn x w hx ok k2
 by_cases k3:x.ref.kind=3
 ·exact aWs x w hx ok k3
 by_cases k4:x.ref.kind=4
 ·exact aWo x w hx ok k4
 by_cases k5:x.ref.kind=5
 ·exact aWp x w hx ok k5
 by_cases k6:x.ref.kind=6
 ·exact aWq x w hx ok k6
 by_cases k7:x.ref.kind=7
 ·exact aWr x w hx ok k7
 have hr:Ob.mayRef x.ref=false:=by
  cases h:Ob.mayRef x.ref
  ·rfl
  ·have:=Ob.mayRef_kind h
   omega
 have hm:Ob.mayO x.b=false:=by
  unfold Ob.mayO
  rw [show Ob.mayRef x.b.ref=false from hr]
  rfl
 have HM:=hide hm
 have B1:Below w.heap.size w (w.alloc (.cells #[.int .i64 x.ref.kind,.string x.ref.space,.string x.ref.name,.bool x.good,x.vl,x.vp,.string x.cls,x.vi,x.vq,x.vh,x.vr,x.vf,x.vo] 36)):=(Below.refl _ _).alloc (Nat.le_refl _) _
 have C0:=fun W=>hide (aC5 x.ref W ok.ref)
 rw [hr] at C0
 have HB1:=hide B1
 clear hx ok k1 k2 k3 k4 k5 k6 k7 hr hm B1
 go_enter Tryz.func27,Tryz.ntmps27
 go_wp2_with fail
 refine (C0 _).out.mono ?_
 rintro e w1 ⟨rfl,hb1⟩
 go_wp2_with fail
 go_ret
 exact ⟨aA1 HM.out.symm,bb2 HB1.out hb1⟩
end Go.Proofs.YthnodpdiocppgaaGreatDoor
