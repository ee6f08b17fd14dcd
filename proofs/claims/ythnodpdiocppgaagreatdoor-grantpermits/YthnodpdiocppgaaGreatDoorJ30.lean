/-
  Walks: the document's Lets (of layer 11).
-/
import Derived.Test.YthnodpdiocppgaaGreatDoorJ27
import Derived.Test.YthnodpdiocppgaaGreatDoorJ25
import Derived.BigQuiet
import Derived.Test.YthnodpdiocppgaaGreatDoorJ29
set_option maxHeartbeats 6400000
set_option linter.unusedVariables false
set_option maxRecDepth 20000
namespace Go.Proofs.YthnodpdiocppgaaGreatDoor
open Go Go.RowKit Go.Shelf
attribute [local go_sem] aAu
theorem aKh (x:OV) (k:Int) (s:ByteArray) (t:RfB) (w:World) (hx:x.at_ w) (ok:OkO x) :
  Calls Tryz.prog 16 #[oV x,.int .i64 k,.string s,rfV t] w fun e w'=>e=.returned (.bool (Gr.lets x.b k s t))∧Below w.heap.size w w':=by
 obtain ⟨rk,rs,rn⟩:=t
 obtain ⟨X,hX⟩:∃ z,z=(w.alloc (.cells #[.int .i64 x.ref.kind,.string x.ref.space,.string x.ref.name,.bool x.good,.slice x.al x.labels.length x.cl,.slice x.ap x.ports.length x.cp,.string x.cls,.slice x.ai x.lis.length x.ci,.slice x.aq x.pars.length x.cq,.slice x.ah x.hosts.length x.ch,.slice x.ar x.rules.length x.cr,.slice x.af x.frm.length x.cf,.slice x.ao x.tos.length x.co] 36)).alloc (.cells #[.int .i64 rk,.string rs,.string rn] 24):=⟨_,rfl⟩
 have B1:Below w.heap.size w X:=by rw [hX];exact ((Below.refl _ _).alloc (Nat.le_refl _) _).alloc (by simp) _
 have K0:X.heap[w.heap.size]?=some (.cells #[.int .i64 x.ref.kind,.string x.ref.space,.string x.ref.name,.bool x.good,.slice x.al x.labels.length x.cl,.slice x.ap x.ports.length x.cp,.string x.cls,.slice x.ai x.lis.length x.ci,.slice x.aq x.pars.length x.cq,.slice x.ah x.hosts.length x.ch,.slice x.ar x.rules.length x.cr,.slice x.af x.frm.length x.cf,.slice x.ao x.tos.length x.co] 36):=by rw [hX];exact aA2 (aA7 w _) ((Below.refl _ _).alloc (Nat.le_refl _) _)
 have K1:X.heap[w.heap.size+1]?=some (.cells #[.int .i64 rk,.string rs,.string rn] 24):=by
  rw [hX]
  have:=aA7 (w.alloc (.cells #[.int .i64 x.ref.kind,.string x.ref.space,.string x.ref.name,.bool x.good,.slice x.al x.labels.length x.cl,.slice x.ap x.ports.length x.cp,.string x.cls,.slice x.ai x.lis.length x.ci,.slice x.aq x.pars.length x.cq,.slice x.ah x.hosts.length x.ch,.slice x.ar x.rules.length x.cr,.slice x.af x.frm.length x.cf,.slice x.ao x.tos.length x.co] 36)) (.cells #[.int .i64 rk,.string rs,.string rn] 24)
  simpa using this
 have C1:=fun W (h:Below X.heap.size X W)=>hide (aS3 x W (hx.below (bb2 B1 h)) ok)
 have HB1:=hide B1
 have HX:=hide (hx.below B1)
 have hlf:=hx.frm.len
 have hlt:=hx.tos.len
 have L1:=hide (@aKc x.b k s ⟨rk,rs,rn⟩)
 have L2:=hide (@aKd x.b k s ⟨rk,rs,rn⟩)
 have L3:=hide (@aKe x.b k s ⟨rk,rs,rn⟩)
 have HK0:=hide K0
 have HK1:=hide K1
 clear hx B1 K0 K1
 by_cases h7:x.ref.kind=7
 ·have t7:(x.ref.kind == 7)=true:=by rw [h7];rfl
  have t7b:(x.ref.kind != 7)=false:=by rw [h7];rfl
  by_cases hs:x.ref.space=rs
  ·have t8:(x.ref.space.toList == rs.toList)=true:=by rw [hs];simp
   have t8b:(x.ref.space.toList != rs.toList)=false:=by rw [hs];simp
   cases hm:Ob.mayO x.b
   ·have HE:=hide (L3.out hm)
    have HM:=hide hm
    clear L1 L2 L3 hm h7 hs
    go_enter Tryz.func16,Tryz.ntmps16
    go_wp2_with fail
    rw [←hX]
    clear hX
    refine (aA5 ((C1 _ (Below.refl _ _)).out)).mono ?_
    rintro e x ⟨rfl,q,rfl⟩
    rw [HM.out]
    go_wp2_with fail
    go_ret
    exact ⟨aA1 HE.out.symm,bb2 HB1.out q.h⟩
   ·have HE:Hid (Gr.lets x.b k s ⟨rk,rs,rn⟩=(x.frm.any (Gr.frmS k s)&&x.tos.any (Gr.toS ⟨rk,rs,rn⟩))):=by
     unfold Hid Gr.lets
     rw [show decide (x.b.ref.kind=7)=true from decide_eq_true h7,show decide (x.b.ref.space=(⟨rk,rs,rn⟩:RfB).space)=true from decide_eq_true hs,hm,Bool.true_and,Bool.true_and,Bool.true_and]
     rfl
    have HM:=hide hm
    clear L1 L2 L3 hm h7 hs
    go_enter Tryz.func16,Tryz.ntmps16
    go_wp2_with fail
    rw [←hX]
    clear hX
    refine (aA5 ((C1 _ (Below.refl _ _)).out)).mono ?_
    rintro e xx ⟨rfl,q1,rfl⟩
    rw [HM.out]
    have b1:=q1.h
    have HB:=hide b1
    clear C1
    go_wp2_with fail
    go_loopw [9] (fun i wr=>∃ j:Nat,j≤x.frm.length∧i=.int .i64 j∧Hid ((x.frm.take j).any (Gr.frmS k s)=false∨x.tos.any (Gr.toS ⟨rk,rs,rn⟩)=false)∧Below X.heap.size X wr) (fun i _=>x.frm.length - (intOf i).toNat)
    case atStart=>exact ⟨0,Nat.zero_le _,rfl,.inl rfl,b1⟩
    case round =>
     clear b1
     obtain ⟨j,hj,rfl,hno,hB⟩:=hrel
     have kx:=aA2 HK0.out hB
     obtain ⟨o0,o1,o2,o3,o4,o5,o6,o7,o8,o9,o10,o11,o12⟩:_∧_∧_∧_∧_∧_∧_∧_∧_∧_∧_∧_∧_:=⟨aA0 kx (i:=0) rfl,aA0 kx (i:=1) rfl,aA0 kx (i:=2) rfl,aA0 kx (i:=3) rfl,aA0 kx (i:=4) rfl,aA0 kx (i:=5) rfl,aA0 kx (i:=6) rfl,aA0 kx (i:=7) rfl,aA0 kx (i:=8) rfl,aA0 kx (i:=9) rfl,aA0 kx (i:=10) rfl,aA0 kx (i:=11) rfl,aA0 kx (i:=12) rfl⟩
     by_cases hlj:j<x.frm.length
     ·have hlj':(j:Int)<(x.frm.length:Int):=by omega
      obtain ⟨_,gf,off,haf,hgf,c0,c1,c2⟩:=oneD HX.out.frm hB hlj
      have HF:Hid (∀ W,Below X.heap.size X W→W.cell? ⟨gf,off+j*3,none⟩=some (.int .i64 x.frm[j].kind)∧W.cell? ⟨gf,off+j*3+1,none⟩=some (.string x.frm[j].space)):=fun W h=>by
       obtain ⟨_,g2,o2,h3,_,h4,h5,_⟩:=oneD HX.out.frm h hlj
       rw [haf] at h3
       injection h3 with h3
       injection h3 with e1 e2
       subst e1 e2
       exact ⟨h4,h5⟩
      have HKX:Hid (∀ W,Below X.heap.size X W→W.cell? ⟨w.heap.size,11,none⟩=some (.slice (some ⟨gf,off,none⟩) x.frm.length x.cf)∧W.cell? ⟨w.heap.size,12,none⟩=some (.slice x.ao x.tos.length x.co)):=fun W h=>⟨by rw [←haf];exact aA0 (aA2 HK0.out h) (i:=11) rfl,aA0 (aA2 HK0.out h) (i:=12) rfl⟩
      have HAF:Hid ((x.frm.take (j+1)).any (Gr.frmS k s)=((x.frm.take j).any (Gr.frmS k s)||(Gr.frmS k s) x.frm[j])):=by
       unfold Hid
       rw [List.take_succ_eq_append_getElem hlj,List.any_append]
       simp only [List.any_cons,List.any_nil,Bool.or_false]
      have HIN:Hid ((Gr.frmS k s) x.frm[j]=true→x.frm.any (Gr.frmS k s)=true):=fun h=>List.any_eq_true.2 ⟨_,List.getElem_mem hlj,h⟩
      clear c0 c1 c2 kx haf o0 o1 o2 o3 o4 o5 o6 o7 o8 o9 o10 o11 o12
      obtain ⟨fk,hfk⟩:∃ z,x.frm[j].kind=z:=⟨_,rfl⟩
      obtain ⟨fs,hfs⟩:∃ z,x.frm[j].space=z:=⟨_,rfl⟩
      have HPF:Hid ((Gr.frmS k s) x.frm[j]=((fk == k)&&(fs.toList == s.toList))):=by
       have e:decide (fs=s)=(fs.toList == s.toList):=by rw [Bool.eq_iff_iff,decide_eq_true_eq,beq_iff_eq,aB3]
       unfold Hid Gr.frmS
       rw [hfk,hfs,e]
       rfl
      rw [hfk,hfs] at HF
      clear hfk hfs
      generalize (Gr.frmS k s) x.frm[j]=pf at *
      have ks:=HKX.out _ hB
      obtain ⟨o11,o12⟩:=ks
      go_wp2_with fail
      go_loopw [10] (fun i wr=>∃ m:Nat,m≤x.tos.length∧i=.int .i64 m∧Hid (pf=true→(x.tos.take m).any (Gr.toS ⟨rk,rs,rn⟩)=false)∧Below X.heap.size X wr) (fun i _=>x.tos.length - (intOf i).toNat)
      case atStart=>exact ⟨0,Nat.zero_le _,rfl,fun _=>rfl,hB⟩
      case round =>
       clear o11 o12
       obtain ⟨m,hm,rfl,hpm,hB2⟩:=hrel
       have hKx:=HKX.out _ hB2
       obtain ⟨o11,o12⟩:=hKx
       by_cases hlm:m<x.tos.length
       ·have hlm':(m:Int)<(x.tos.length:Int):=by omega
        obtain ⟨_,gt,oft,hat,hgt,d0,d1,d2⟩:=oneD HX.out.tos hB2 hlm
        have HT:Hid (∀ W,Below X.heap.size X W→W.cell? ⟨gt,oft+m*3,none⟩=some (.int .i64 x.tos[m].kind)∧W.cell? ⟨gt,oft+m*3+2,none⟩=some (.string x.tos[m].name)):=fun W h=>by
         obtain ⟨_,g2,o2,h3,_,h4,_,h6⟩:=oneD HX.out.tos h hlm
         rw [hat] at h3
         injection h3 with h3
         injection h3 with e1 e2
         subst e1 e2
         exact ⟨h4,h6⟩
        have HKY:Hid (∀ W,Below X.heap.size X W→W.cell? ⟨w.heap.size,12,none⟩=some (.slice (some ⟨gt,oft,none⟩) x.tos.length x.co)):=fun W h=>by rw [←hat];exact (HKX.out W h).2
        have HAT:Hid ((x.tos.take (m+1)).any (Gr.toS ⟨rk,rs,rn⟩)=((x.tos.take m).any (Gr.toS ⟨rk,rs,rn⟩)||(Gr.toS ⟨rk,rs,rn⟩) x.tos[m])):=by
         unfold Hid
         rw [List.take_succ_eq_append_getElem hlm,List.any_append]
         simp only [List.any_cons,List.any_nil,Bool.or_false]
        have HIT:Hid ((Gr.toS ⟨rk,rs,rn⟩) x.tos[m]=true→x.tos.any (Gr.toS ⟨rk,rs,rn⟩)=true):=fun h=>List.any_eq_true.2 ⟨_,List.getElem_mem hlm,h⟩
        rw [hat] at o12
        clear d0 d1 d2 hat
        obtain ⟨tk,htk⟩:∃ z,x.tos[m].kind=z:=⟨_,rfl⟩
        obtain ⟨tn,htn⟩:∃ z,x.tos[m].name=z:=⟨_,rfl⟩
        have HPT:Hid ((Gr.toS ⟨rk,rs,rn⟩) x.tos[m]=((tk == rk)&&(tn.toList.isEmpty||(tn.toList == rn.toList)))):=by
         have e:decide (tn=rn)=(tn.toList == rn.toList):=by rw [Bool.eq_iff_iff,decide_eq_true_eq,beq_iff_eq,aB3]
         unfold Hid Gr.toS
         rw [htk,htn,e,aBs]
         rfl
        rw [htk,htn] at HT
        clear htk htn
        generalize (Gr.toS ⟨rk,rs,rn⟩) x.tos[m]=ptv at *
        have q0:=fun q:GB wr=>(HF.out _ (bb2 hB2 q.h)).1
        have q1:=fun q:GB wr=>(HF.out _ (bb2 hB2 q.h)).2
        have q2:=fun q:GB wr=>(HKX.out _ (bb2 hB2 q.h)).1
        have q3:=fun q:GB wr=>HKY.out _ (bb2 hB2 q.h)
        have q4:=fun q:GB wr=>(HT.out _ (bb2 hB2 q.h)).1
        have q5:=fun q:GB wr=>(HT.out _ (bb2 hB2 q.h)).2
        have krq:=fun q:GB wr=>aA2 HK1.out (bb2 hB2 q.h)
        obtain ⟨q6,q7,q8⟩:_∧_∧_:=⟨fun q:GB wr=>aA0 (krq q) (i:=0) rfl,fun q:GB wr=>aA0 (krq q) (i:=1) rfl,fun q:GB wr=>aA0 (krq q) (i:=2) rfl⟩
        clear krq
        have HNX:Hid (pf=false∨ptv=false→pf=true→(x.tos.take (m+1)).any (Gr.toS ⟨rk,rs,rn⟩)=false):=fun h hp=>by
         rw [HAT.out,hpm.out hp,Bool.false_or]
         rcases h with h | h
         ·rw [h] at hp;cases hp
         ·exact h
        have HYES:Hid (pf=true→ptv=true→Gr.lets x.b k s ⟨rk,rs,rn⟩=true):=fun h1 h2=>by
         rw [HE.out,HIN.out h1,HIT.out h2]
         rfl
        clear hpm HAT HIT
        cases h1:(fk == k)
        ·rw [h1] at HPF
         replace HNX:=hide (HNX.out (.inl HPF.out))
         go_wp2_with fail
         refine aA6 (by kernel_rfl) (by kernel_rfl) ?_
         repeat (first | go_big_quiet_step (fail) | quiet_step (fail))
         refine wpQuiet_nil ?_
         intro _ hw'
         obtain ⟨zz,hw2⟩:=hw'
         subst hw2
         have hzz:=zz.h
         go_wp2_with fail
         exact ⟨⟨m+1,by omega,by go_num,HNX.out,bb2 hB2 hzz⟩,by simp [intOf];omega⟩
        ·rw [h1] at HPF
         cases h2:(fs.toList == s.toList)
         ·rw [h2] at HPF
          replace HNX:=hide (HNX.out (.inl HPF.out))
          go_wp2_with fail
          refine aA6 (by kernel_rfl) (by kernel_rfl) ?_
          repeat (first | go_big_quiet_step (fail) | quiet_step (fail))
          refine wpQuiet_nil ?_
          intro _ hw'
          obtain ⟨zz,hw2⟩:=hw'
          subst hw2
          have hzz:=zz.h
          go_wp2_with fail
          exact ⟨⟨m+1,by omega,by go_num,HNX.out,bb2 hB2 hzz⟩,by simp [intOf];omega⟩
         ·rw [h2] at HPF
          cases h3:(tk == rk)
          ·rw [h3] at HPT
           replace HNX:=hide (HNX.out (.inr HPT.out))
           go_wp2_with fail
           refine aA6 (by kernel_rfl) (by kernel_rfl) ?_
           repeat (first | go_big_quiet_step (fail) | quiet_step (fail))
           refine wpQuiet_nil ?_
           intro _ hw'
           obtain ⟨zz,hw2⟩:=hw'
           subst hw2
           have hzz:=zz.h
           go_wp2_with fail
           exact ⟨⟨m+1,by omega,by go_num,HNX.out,bb2 hB2 hzz⟩,by simp [intOf];omega⟩
          ·rw [h3] at HPT
           cases h4:tn.toList.isEmpty
           ·rw [h4] at HPT
            cases h5:(tn.toList == rn.toList)
            ·rw [h5] at HPT
             replace HNX:=hide (HNX.out (.inr HPT.out))
             go_wp2_with fail
             refine aA6 (by kernel_rfl) (by kernel_rfl) ?_
             repeat (first | go_big_quiet_step (fail) | quiet_step (fail))
             refine wpQuiet_nil ?_
             intro _ hw'
             obtain ⟨zz,hw2⟩:=hw'
             subst hw2
             have hzz:=zz.h
             go_wp2_with fail
             exact ⟨⟨m+1,by omega,by go_num,HNX.out,bb2 hB2 hzz⟩,by simp [intOf];omega⟩
            ·rw [h5] at HPT
             replace HYES:=hide (HYES.out HPF.out HPT.out)
             clear HNX
             go_wp2_with fail
             refine aA6 (by kernel_rfl) (by kernel_rfl) ?_
             repeat (first | go_big_quiet_step (fail) | quiet_step (fail))
             refine wpQuiet_nil ?_
             intro _ hw'
             obtain ⟨zz,hw2⟩:=hw'
             subst hw2
             have hzz:=zz.h
             go_wp2_with fail
             go_ret
             exact ⟨aA1 HYES.out.symm,bb2 HB1.out (bb2 hB2 hzz)⟩
           ·rw [h4] at HPT
            replace HYES:=hide (HYES.out HPF.out HPT.out)
            clear HNX
            go_wp2_with fail
            refine aA6 (by kernel_rfl) (by kernel_rfl) ?_
            repeat (first | go_big_quiet_step (fail) | quiet_step (fail))
            refine wpQuiet_nil ?_
            intro _ hw'
            obtain ⟨zz,hw2⟩:=hw'
            subst hw2
            have hzz:=zz.h
            go_wp2_with fail
            go_ret
            exact ⟨aA1 HYES.out.symm,bb2 HB1.out (bb2 hB2 hzz)⟩
       ·have hlm':¬ (m:Int)<(x.tos.length:Int):=by omega
        have hm2:m=x.tos.length:=by omega
        have HN2:Hid ((x.frm.take (j+1)).any (Gr.frmS k s)=false∨x.tos.any (Gr.toS ⟨rk,rs,rn⟩)=false):=by
         rcases hno.out with h | h
         ·cases hpf:pf
          ·left
           rw [HAF.out,h,hpf]
           rfl
          ·right
           have:=hpm.out hpf
           rw [hm2,List.take_length] at this
           exact this
         ·exact .inr h
        go_wp2_with fail
        exact ⟨⟨j+1,by omega,by go_num,HN2.out,hB2⟩,by simp [intOf];omega⟩
     ·have hlj':¬ (j:Int)<(x.frm.length:Int):=by omega
      have hj2:j=x.frm.length:=by omega
      have HEF:Hid (Gr.lets x.b k s ⟨rk,rs,rn⟩=false):=by
       rcases hno.out with h | h
       ·rw [hj2,List.take_length] at h
        unfold Hid
        rw [HE.out,h]
        rfl
       ·unfold Hid
        rw [HE.out,h,Bool.and_false]
      go_wp2_with fail
      go_ret
      exact ⟨aA1 HEF.out.symm,bb2 HB1.out hB⟩
  ·have t8:(x.ref.space.toList == rs.toList)=false:=by simpa [aB3] using hs
   have t8b:(x.ref.space.toList != rs.toList)=true:=by simpa [aB3] using hs
   have HE:=hide (L2.out hs)
   clear L1 L2 L3 h7 hs C1
   go_enter Tryz.func16,Tryz.ntmps16
   go_wp2_with fail
   go_ret
   exact ⟨aA1 HE.out.symm,by rw [hX] at HB1;exact HB1.out⟩
 ·have t7:(x.ref.kind == 7)=false:=by simpa using h7
  have t7b:(x.ref.kind != 7)=true:=by simpa using h7
  have HE:=hide (L1.out h7)
  clear L1 L2 L3 h7 C1
  go_enter Tryz.func16,Tryz.ntmps16
  go_wp2_with fail
  go_ret
  exact ⟨aA1 HE.out.symm,by rw [hX] at HB1;exact HB1.out⟩
theorem aNt {a:Option Addr} {cap:Nat} {L:List OV} (k:Int) (s:ByteArray) (t:RfB) (w:World) (hL:Sl EO w (.slice a L.length cap) L) (ok:∀ o∈L,OkO o) (hl:L.length≤1000) :
  Calls Tryz.prog 21 #[.slice a L.length cap,.int .i64 k,.string s,rfV t] w fun e w'=>∃ a' c',e=.returned (.slice a' (Gr.by_ (L.map OV.b) k s t).length c')∧Sl ER w' (.slice a' (Gr.by_ (L.map OV.b) k s t).length c') (Gr.by_ (L.map OV.b) k s t)∧Below w.heap.size w w':=by
 rw [aMa]
 obtain ⟨rk,rs,rn⟩:=t
 obtain ⟨X,hX⟩:∃ z,z=w.alloc (.cells #[.int .i64 rk,.string rs,.string rn] 24):=⟨_,rfl⟩
 have B1:Below w.heap.size w X:=by rw [hX];exact (Below.refl _ _).alloc (Nat.le_refl _) _
 have HK1:=hide (show X.heap[w.heap.size]?=some (.cells #[.int .i64 rk,.string rs,.string rn] 24) by rw [hX];exact aA7 _ _)
 have HB1:=hide B1
 have hlen:=hL.len
 have HO:=hide (fun W (h:Below X.heap.size X W) j (hj:j<L.length)=>oneO hL (bb2 B1 h) hj)
 have HCL:=hide (fun j (hj:j<L.length) W (h:Below X.heap.size X W)=>hide (aKh L[j] k s ⟨rk,rs,rn⟩ W (oneO hL (bb2 B1 h) hj).1 (ok _ (List.getElem_mem hj))))
 clear hL B1 ok
 go_enter Tryz.func21,Tryz.ntmps21
 go_wp2_with fail
 go_loopw [9,10] (fun o i wr=>∃ j:Nat,j≤L.length∧i=.int .i64 j∧wr.ownsRow X.heap.size 24 3 o (((L.take j).filter fun o=>Gr.lets o.b k s ⟨rk,rs,rn⟩).map fun o=>o.ref).length (ER.flat (((L.take j).filter fun o=>Gr.lets o.b k s ⟨rk,rs,rn⟩).map fun o=>o.ref))∧Below X.heap.size X wr) (fun _ i _=>L.length - (intOf i).toNat)
 case atStart=>exact ⟨0,Nat.zero_le _,rfl,World.ownsRow_nil _ _ _ _,by rw [hX];exact Below.refl _ _⟩
 case round =>
  clear hX
  obtain ⟨j,hj,rfl,hrow,hB⟩:=hrel
  obtain ⟨vo,vc,rfl⟩:=aAj hrow
  have HROW:=hide hrow
  clear hrow
  by_cases hlt:j<L.length
  ·have hlt':(j:Int)<(L.length:Int):=by omega
   obtain ⟨hA,gg,off,rfl,hgg,c0,c1,c2,c3,c4,c5,c6,c7,c8,c9,c10,c11,c12⟩:=HO.out _ hB j hlt
   have hgw:gg<wr.heap.size:=by
    have:=aAs HK1.out
    have:=hB.size
    have:=HB1.out.size
    omega
   have CL:=fun W (h:Below wr.heap.size wr W)=>HCL.out j hlt W (bb2 hB h)
   have q0:=fun q:GB wr=>(q.h.cell (p:=⟨gg,off+j*13,none⟩) hgw).trans c0
   have q1:=fun q:GB wr=>(q.h.cell (p:=⟨gg,off+j*13+1,none⟩) hgw).trans c1
   have q2:=fun q:GB wr=>(q.h.cell (p:=⟨gg,off+j*13+2,none⟩) hgw).trans c2
   have q3:=fun q:GB wr=>(q.h.cell (p:=⟨gg,off+j*13+3,none⟩) hgw).trans c3
   have q4:=fun q:GB wr=>(q.h.cell (p:=⟨gg,off+j*13+4,none⟩) hgw).trans c4
   have q5:=fun q:GB wr=>(q.h.cell (p:=⟨gg,off+j*13+5,none⟩) hgw).trans c5
   have q6:=fun q:GB wr=>(q.h.cell (p:=⟨gg,off+j*13+6,none⟩) hgw).trans c6
   have q7:=fun q:GB wr=>(q.h.cell (p:=⟨gg,off+j*13+7,none⟩) hgw).trans c7
   have q8:=fun q:GB wr=>(q.h.cell (p:=⟨gg,off+j*13+8,none⟩) hgw).trans c8
   have q9:=fun q:GB wr=>(q.h.cell (p:=⟨gg,off+j*13+9,none⟩) hgw).trans c9
   have q10:=fun q:GB wr=>(q.h.cell (p:=⟨gg,off+j*13+10,none⟩) hgw).trans c10
   have q11:=fun q:GB wr=>(q.h.cell (p:=⟨gg,off+j*13+11,none⟩) hgw).trans c11
   have q12:=fun q:GB wr=>(q.h.cell (p:=⟨gg,off+j*13+12,none⟩) hgw).trans c12
   have krq:=fun q:GB wr=>aA2 HK1.out (bb2 hB q.h)
   obtain ⟨r0,r1,r2⟩:_∧_∧_:=⟨fun q:GB wr=>aA0 (krq q) (i:=0) rfl,fun q:GB wr=>aA0 (krq q) (i:=1) rfl,fun q:GB wr=>aA0 (krq q) (i:=2) rfl⟩
   have hl3:(((L.take j).filter fun o=>Gr.lets o.b k s ⟨rk,rs,rn⟩).map fun o=>o.ref).length≤1000:=by rw [List.length_map];exact Nat.le_trans (List.length_filter_le _ _) (by rw [List.length_take];omega)
   clear krq hA
   cases hp:Gr.lets L[j].b k s ⟨rk,rs,rn⟩
   ·have HD:Hid (((L.take (j+1)).filter fun o=>Gr.lets o.b k s ⟨rk,rs,rn⟩)=((L.take j).filter fun o=>Gr.lets o.b k s ⟨rk,rs,rn⟩)):=by
     unfold Hid
     rw [List.take_succ_eq_append_getElem hlt,List.filter_append,List.filter_cons_of_neg (by rw [hp];decide),List.filter_nil,List.append_nil]
    rw [hp] at CL
    clear hp
    generalize L[j]=x at *
    go_wp2_with fail
    refine aA6 (by kernel_rfl) (by kernel_rfl) ?_
    repeat (first | go_big_quiet_step ((go_at_call 16;exact aA3 (CL _ (GB.h _)).out)) | quiet_step ((go_at_call 16;exact aA3 (CL _ (GB.h _)).out)))
    refine wpQuiet_nil ?_
    intro _ hw'
    obtain ⟨qq,hw2⟩:=hw'
    subst hw2
    have hqq:=qq.h
    go_wp2_with fail
    exact ⟨⟨j+1,by omega,by go_num,by rw [HD.out];exact aA4 HROW.out hqq,bb2 hB hqq⟩,by simp [intOf];omega⟩
   ·have HD:Hid ((((L.take (j+1)).filter fun o=>Gr.lets o.b k s ⟨rk,rs,rn⟩).map fun o=>o.ref)=(((L.take j).filter fun o=>Gr.lets o.b k s ⟨rk,rs,rn⟩).map fun o=>o.ref)++[L[j].ref]):=by
     unfold Hid
     rw [List.take_succ_eq_append_getElem hlt,List.filter_append,List.filter_cons_of_pos (by exact hp),List.map_append]
     rfl
    rw [hp] at CL
    clear hp
    generalize L[j]=x at *
    generalize (((L.take j).filter fun o=>Gr.lets o.b k s ⟨rk,rs,rn⟩).map fun o=>o.ref)=R at *
    go_wp2_with fail
    refine aA6 (by kernel_rfl) (by kernel_rfl) ?_
    repeat (first | go_big_quiet_step ((go_at_call 16;exact aA3 (CL _ (GB.h _)).out)) | quiet_step ((go_at_call 16;exact aA3 (CL _ (GB.h _)).out)))
    refine wpQuiet_nil ?_
    intro _ hw'
    obtain ⟨qq,hw2⟩:=hw'
    subst hw2
    have hqq:=qq.h
    have x0:=q0 qq
    have x1:=q1 qq
    have x2:=q2 qq
    have ba:=(Below.refl qq.W.heap.size qq.W).alloc (Nat.le_refl _) (.cells #[.int .i64 x.ref.kind,.string x.ref.space,.string x.ref.name] 24)
    have SLX:Sl ER (qq.W.alloc (.cells #[.int .i64 x.ref.kind,.string x.ref.space,.string x.ref.name] 24)) (.slice (some ⟨qq.W.heap.size,0,none⟩) 1 1) [x.ref]:=Sl.at_block (E:=ER) (x:=x.ref) (aA7 qq.W _) trivial
    have HR3:=aA4 HROW.out (bb2 hqq ba)
    have hz3:=hB.size
    have hz5:=hqq.size
    go_wp2_with (at_builtin;refine aAg (E:=ER) 44 24 _ 40 Tryz.underlying44 Tryz.infoRef rfl (by decide) _ _ _ rfl (by rfl) X.heap.size _ _ _ rfl HR3 _ _ rfl SLX (by simp;omega) (by simp;omega) ?_;intro v' w4 hown' hgrow)
    refine ⟨⟨j+1,by omega,by go_num,by rw [HD.out,List.length_append];exact hown',?_⟩,by simp [intOf];omega⟩
    exact (bb2 hB (bb2 hqq ba)).grown hgrow (by simp;omega) (fun j e=>aAe HR3 e)
  ·have hlt':¬ (j:Int)<(L.length:Int):=by omega
   have hj2:j=L.length:=by omega
   have e1:((L.take j).filter fun o=>Gr.lets o.b k s ⟨rk,rs,rn⟩)=L.filter fun o=>Gr.lets o.b k s ⟨rk,rs,rn⟩:=by rw [hj2,List.take_length]
   have hrow:=HROW.out
   rw [e1] at hrow ⊢
   have HRW:=hide hrow
   clear e1 hlt HROW hrow hj2
   go_wp2_with fail
   go_ret
   exact ⟨vo,vc,rfl,Sl.of_row (E:=ER) rfl (by rw [List.length_map];have h:=HRW.out;rw [List.length_map] at h;exact h) (fun _ _=>trivial),bb2 HB1.out hB⟩
theorem aPo (l:List OB) (k:Int) (s:ByteArray) (t:RfB):Gr.permits l k s t=(decide (s=t.space)||decide (0<(Gr.by_ l k s t).length)):=by
 rw [Gr.by_empty]
 rfl
theorem aMh {a:Option Addr} {cap:Nat} {L:List OV} (k:Int) (s:ByteArray) (t:RfB) (w:World) (hL:Sl EO w (.slice a L.length cap) L) (ok:∀ o∈L,OkO o) (hl:L.length≤1000) :
  Calls Tryz.prog 18 #[.slice a L.length cap,.int .i64 k,.string s,rfV t] w fun e w'=>e=.returned (.bool (Gr.permits (L.map OV.b) k s t))∧Below w.heap.size w w':=by
 rw [aPo]
 have hby:(Gr.by_ (L.map OV.b) k s t).length≤1000:=by rw [aMa,List.length_map];exact Nat.le_trans (List.length_filter_le _ _) hl
 obtain ⟨rk,rs,rn⟩:=t
 obtain ⟨X,hX⟩:∃ z,z=w.alloc (.cells #[.int .i64 rk,.string rs,.string rn] 24):=⟨_,rfl⟩
 have B1:Below w.heap.size w X:=by rw [hX];exact (Below.refl _ _).alloc (Nat.le_refl _) _
 have CB:=hide (aNt k s ⟨rk,rs,rn⟩ X (hL.below B1) ok hl)
 have HB1:=hide B1
 clear hL ok hl
 generalize Gr.by_ (L.map OV.b) k s ⟨rk,rs,rn⟩=R at *
 by_cases hs:s=rs
 ·have t1:(s.toList == rs.toList)=true:=by rw [hs];simp
  have HE:Hid (true=(decide (s=(⟨rk,rs,rn⟩:RfB).space)||decide (0<R.length))):=by
   have:decide (s=(⟨rk,rs,rn⟩:RfB).space)=true:=decide_eq_true hs
   unfold Hid
   rw [this,Bool.true_or]
  clear hs CB B1
  go_enter Tryz.func18,Tryz.ntmps18
  go_wp2_with fail
  rw [←hX]
  go_ret
  exact ⟨aA1 HE.out,HB1.out⟩
 ·have t1:(s.toList == rs.toList)=false:=by simpa [aB3] using hs
  have HE:Hid (decide (0<R.length)=(decide (s=(⟨rk,rs,rn⟩:RfB).space)||decide (0<R.length))):=by
   have:decide (s=(⟨rk,rs,rn⟩:RfB).space)=false:=decide_eq_false hs
   unfold Hid
   rw [this,Bool.false_or]
  clear hs B1
  go_enter Tryz.func18,Tryz.ntmps18
  go_wp2_with fail
  rw [←hX]
  clear hX
  refine CB.out.mono ?_
  rintro e w2 ⟨a',c',rfl,_,hb2⟩
  by_cases h0:0<R.length
  ·have h1:(0:Int)<(R.length:Int):=by omega
   go_wp2_with fail
   go_ret
   exact ⟨aA1 (by rw [←HE.out];exact (decide_eq_true h0).symm),bb2 HB1.out hb2⟩
  ·have h1:¬ (0:Int)<(R.length:Int):=by omega
   go_wp2_with fail
   go_ret
   exact ⟨aA1 (by rw [←HE.out];exact (decide_eq_false h0).symm),bb2 HB1.out hb2⟩
end Go.Proofs.YthnodpdiocppgaaGreatDoor
namespace Go.Proofs.YthnodpdiocppgaaGreatDoor
open Go Go.RowKit Go.Shelf
attribute [local go_sem] aAu
theorem aS5 {a:Option Addr} {cap:Nat} {L:List OV} (r:RfB) (w:World) (hL:Sl EO w (.slice a L.length cap) L) :
  Calls Tryz.prog 11 #[.slice a L.length cap,rfV r] w fun e w'=>∃ y:OV,e=.returned (.tuple #[oV y,.bool (Gr.find (L.map OV.b) r).isSome])∧y.b=(Gr.find (L.map OV.b) r).getD zOV.b∧y.at_ w'∧Below w.heap.size w w':=by
 obtain ⟨rk,rs,rn⟩:=r
 have HFI:Hid (∀ j (hj:j<L.length),(∀ i (hi:i<L.length),i<j→Ob.eqR L[i].ref ⟨rk,rs,rn⟩=false)→Ob.eqR L[j].ref ⟨rk,rs,rn⟩=true→Gr.find (L.map OV.b) ⟨rk,rs,rn⟩=some L[j].b):=fun j hj hno h=>by
  have hm:j<(L.map OV.b).length:=by rw [List.length_map];exact hj
  have:=Gr.find_at (l:=L.map OV.b) (r:=⟨rk,rs,rn⟩) hm (by rw [List.getElem_map];exact Ob.eqR_iff.1 h) (fun i hi hij=>by
   rw [List.getElem_map]
   intro e
   have h2:=hno i (by omega) hij
   have h3:Ob.eqR L[i].ref ⟨rk,rs,rn⟩=true:=Ob.eqR_iff.2 e
   rw [h3] at h2
   cases h2)
  rw [this,List.getElem_map]
 have HFN:Hid ((∀ i (hi:i<L.length),Ob.eqR L[i].ref ⟨rk,rs,rn⟩=false)→Gr.find (L.map OV.b) ⟨rk,rs,rn⟩=none):=fun h=>Gr.find_none (fun o ho e=>by
  obtain ⟨o2,ho2,rfl⟩:=List.mem_map.1 ho
  obtain ⟨i,hi,rfl⟩:=List.getElem_of_mem ho2
  have h2:=h i hi
  have h3:Ob.eqR L[i].ref ⟨rk,rs,rn⟩=true:=Ob.eqR_iff.2 e
  rw [h3] at h2
  cases h2)
 generalize Gr.find (L.map OV.b) ⟨rk,rs,rn⟩=FF at *
 obtain ⟨X,hX⟩:∃ z,z=(w.alloc (.cells #[.int .i64 rk,.string rs,.string rn] 24)).alloc (.cells #[.int .i64 0,.string ⟨#[]⟩,.string ⟨#[]⟩,.bool false,.slice none 0 0,.slice none 0 0,.string ⟨#[]⟩,.slice none 0 0,.slice none 0 0,.slice none 0 0,.slice none 0 0,.slice none 0 0,.slice none 0 0] 36):=⟨_,rfl⟩
 have B1:Below w.heap.size w X:=by rw [hX];exact ((Below.refl _ _).alloc (Nat.le_refl _) _).alloc (by simp) _
 have HK0:=hide (show X.heap[w.heap.size]?=some (.cells #[.int .i64 rk,.string rs,.string rn] 24) by rw [hX];exact aA2 (aA7 w _) ((Below.refl _ _).alloc (Nat.le_refl _) _))
 have K1:X.heap[w.heap.size+1]?=some (.cells #[.int .i64 0,.string ⟨#[]⟩,.string ⟨#[]⟩,.bool false,.slice none 0 0,.slice none 0 0,.string ⟨#[]⟩,.slice none 0 0,.slice none 0 0,.slice none 0 0,.slice none 0 0,.slice none 0 0,.slice none 0 0] 36):=by
  rw [hX]
  have:=aA7 (w.alloc (.cells #[.int .i64 rk,.string rs,.string rn] 24)) (.cells #[.int .i64 0,.string ⟨#[]⟩,.string ⟨#[]⟩,.bool false,.slice none 0 0,.slice none 0 0,.string ⟨#[]⟩,.slice none 0 0,.slice none 0 0,.slice none 0 0,.slice none 0 0,.slice none 0 0,.slice none 0 0] 36)
  simpa using this
 have HK1:=hide K1
 have HB1:=hide B1
 have hlen:=hL.len
 have HO:=hide (fun W (h:Below X.heap.size X W) j (hj:j<L.length)=>oneO hL (bb2 B1 h) hj)
 have HA0:=hide (fun x (hx:x∈L)=>hL.all x hx)
 clear hL B1 K1
 go_enter Tryz.func11,Tryz.ntmps11
 go_wp2_with fail
 go_loopw [6] (fun i wr=>∃ j:Nat,j≤L.length∧i=.int .i64 j∧Hid (∀ i (hi:i<L.length),i<j→Ob.eqR L[i].ref ⟨rk,rs,rn⟩=false)∧Below X.heap.size X wr) (fun i _=>L.length - (intOf i).toNat)
 case atStart=>exact ⟨0,Nat.zero_le _,rfl,fun i hi h=>absurd h (by omega),by rw [hX];exact Below.refl _ _⟩
 case round =>
  clear hX
  obtain ⟨j,hj,rfl,hno,hB⟩:=hrel
  have kr:=aA2 HK0.out hB
  have kz:=aA2 HK1.out hB
  obtain ⟨r0,r1,r2⟩:_∧_∧_:=⟨aA0 kr (i:=0) rfl,aA0 kr (i:=1) rfl,aA0 kr (i:=2) rfl⟩
  by_cases hlt:j<L.length
  ·have hlt':(j:Int)<(L.length:Int):=by omega
   obtain ⟨hA,gg,off,rfl,hgg,c0,c1,c2,c3,c4,c5,c6,c7,c8,c9,c10,c11,c12⟩:=HO.out _ hB j hlt
   have EQ:=aG9 L[j].ref ⟨rk,rs,rn⟩
   have HT:Hid (Ob.eqR L[j].ref ⟨rk,rs,rn⟩=false→∀ i (hi:i<L.length),i<j+1→Ob.eqR L[i].ref ⟨rk,rs,rn⟩=false):=fun h i hi hij=>by
    rcases Nat.lt_or_ge i j with h1 | h1
    ·exact hno.out i hi h1
    ·obtain rfl:i=j:=by omega
     exact h
   have HFJ:=hide (HFI.out j hlt hno.out)
   have krq:=fun q:GB wr=>aA2 kr q.h
   obtain ⟨s0,s1,s2⟩:_∧_∧_:=⟨fun q:GB wr=>aA0 (krq q) (i:=0) rfl,fun q:GB wr=>aA0 (krq q) (i:=1) rfl,fun q:GB wr=>aA0 (krq q) (i:=2) rfl⟩
   have hgw:gg<wr.heap.size:=by
    have:=hB.size
    have:=HB1.out.size
    omega
   have q0:=fun q:GB wr=>(q.h.cell (p:=⟨gg,off+j*13,none⟩) hgw).trans c0
   have q1:=fun q:GB wr=>(q.h.cell (p:=⟨gg,off+j*13+1,none⟩) hgw).trans c1
   have q2:=fun q:GB wr=>(q.h.cell (p:=⟨gg,off+j*13+2,none⟩) hgw).trans c2
   have q3:=fun q:GB wr=>(q.h.cell (p:=⟨gg,off+j*13+3,none⟩) hgw).trans c3
   have q4:=fun q:GB wr=>(q.h.cell (p:=⟨gg,off+j*13+4,none⟩) hgw).trans c4
   have q5:=fun q:GB wr=>(q.h.cell (p:=⟨gg,off+j*13+5,none⟩) hgw).trans c5
   have q6:=fun q:GB wr=>(q.h.cell (p:=⟨gg,off+j*13+6,none⟩) hgw).trans c6
   have q7:=fun q:GB wr=>(q.h.cell (p:=⟨gg,off+j*13+7,none⟩) hgw).trans c7
   have q8:=fun q:GB wr=>(q.h.cell (p:=⟨gg,off+j*13+8,none⟩) hgw).trans c8
   have q9:=fun q:GB wr=>(q.h.cell (p:=⟨gg,off+j*13+9,none⟩) hgw).trans c9
   have q10:=fun q:GB wr=>(q.h.cell (p:=⟨gg,off+j*13+10,none⟩) hgw).trans c10
   have q11:=fun q:GB wr=>(q.h.cell (p:=⟨gg,off+j*13+11,none⟩) hgw).trans c11
   have q12:=fun q:GB wr=>(q.h.cell (p:=⟨gg,off+j*13+12,none⟩) hgw).trans c12
   clear krq
   cases hq:Ob.eqR L[j].ref ⟨rk,rs,rn⟩
   ·have HN:=hide (HT.out hq)
    rw [hq] at EQ
    clear hq HT HFJ kz kr hA
    generalize L[j]=x at *
    go_wp2_with fail
    refine aA6 (by kernel_rfl) (by kernel_rfl) ?_
    repeat (first | go_big_quiet_step (fail) | quiet_step (fail))
    refine wpQuiet_nil ?_
    intro _ hw'
    obtain ⟨qq,hw2⟩:=hw'
    subst hw2
    have hqq:=qq.h
    go_wp2_with fail
    exact ⟨⟨j+1,by omega,by go_num,HN.out,bb2 hB hqq⟩,by simp [intOf];omega⟩
   ·have HFF:=HFJ.out hq
    rw [hq] at EQ
    have HAX:=hide (HA0.out _ (List.getElem_mem hlt))
    clear hq HT HFJ HFI HFN hno HO
    generalize L[j]=x at *
    subst HFF
    go_wp2_with fail
    refine aA6 (by kernel_rfl) (by kernel_rfl) ?_
    repeat (first | go_big_quiet_step (fail) | quiet_step (fail))
    refine wpQuiet_nil ?_
    intro _ hw'
    obtain ⟨qq,hw2⟩:=hw'
    subst hw2
    have hqq:=qq.h
    have k5:=aA2 kz hqq
    have lz:=aAl k5
    obtain ⟨z0,z1,z2,z3,z4,z5,z6,z7,z8,z9,z10,z11,z12⟩:_∧_∧_∧_∧_∧_∧_∧_∧_∧_∧_∧_∧_:=⟨aA0 k5 (i:=0) rfl,aA0 k5 (i:=1) rfl,aA0 k5 (i:=2) rfl,aA0 k5 (i:=3) rfl,aA0 k5 (i:=4) rfl,aA0 k5 (i:=5) rfl,aA0 k5 (i:=6) rfl,aA0 k5 (i:=7) rfl,aA0 k5 (i:=8) rfl,aA0 k5 (i:=9) rfl,aA0 k5 (i:=10) rfl,aA0 k5 (i:=11) rfl,aA0 k5 (i:=12) rfl⟩
    have x0:=q0 qq
    have x1:=q1 qq
    have x2:=q2 qq
    have x3:=q3 qq
    have x4:=q4 qq
    have x5:=q5 qq
    have x6:=q6 qq
    have x7:=q7 qq
    have x8:=q8 qq
    have x9:=q9 qq
    have x10:=q10 qq
    have x11:=q11 qq
    have x12:=q12 qq
    have K6:=hide (show (setL qq.W (w.heap.size+1) 0 [.int .i64 x.ref.kind,.string x.ref.space,.string x.ref.name,.bool x.good,.slice x.al x.labels.length x.cl,.slice x.ap x.ports.length x.cp,.string x.cls,.slice x.ai x.lis.length x.ci,.slice x.aq x.pars.length x.cq,.slice x.ah x.hosts.length x.ch,.slice x.ar x.rules.length x.cr,.slice x.af x.frm.length x.cf,.slice x.ao x.tos.length x.co]).heap[w.heap.size+1]?=_ from aB2 [.int .i64 x.ref.kind,.string x.ref.space,.string x.ref.name,.bool x.good,.slice x.al x.labels.length x.cl,.slice x.ap x.ports.length x.cp,.string x.cls,.slice x.ai x.lis.length x.ci,.slice x.aq x.pars.length x.cq,.slice x.ah x.hosts.length x.ch,.slice x.ar x.rules.length x.cr,.slice x.af x.frm.length x.cf,.slice x.ao x.tos.length x.co] k5 rfl)
    have BB:=hide (bb2 HB1.out (bb2 hB hqq))
    clear kz kr k5 hA q0 c0 q1 c1 q2 c2 q3 c3 q4 c4 q5 c5 q6 c6 q7 c7 q8 c8 q9 c9 q10 c10 q11 c11 q12 c12
    go_wp2_with fail
    change bodyPost _ _ _ _ _ (setL qq.W (w.heap.size+1) 0 [.int .i64 x.ref.kind,.string x.ref.space,.string x.ref.name,.bool x.good,.slice x.al x.labels.length x.cl,.slice x.ap x.ports.length x.cp,.string x.cls,.slice x.ai x.lis.length x.ci,.slice x.aq x.pars.length x.cq,.slice x.ah x.hosts.length x.ch,.slice x.ar x.rules.length x.cr,.slice x.af x.frm.length x.cf,.slice x.ao x.tos.length x.co])
    have S6:=aAh (w:=w) (B:=w.heap.size) (g:=w.heap.size+1) (Nat.le_succ _) [.int .i64 x.ref.kind,.string x.ref.space,.string x.ref.name,.bool x.good,.slice x.al x.labels.length x.cl,.slice x.ap x.ports.length x.cp,.string x.cls,.slice x.ai x.lis.length x.ci,.slice x.aq x.pars.length x.cq,.slice x.ah x.hosts.length x.ch,.slice x.ar x.rules.length x.cr,.slice x.af x.frm.length x.cf,.slice x.ao x.tos.length x.co] qq.W 0 BB.out
    have AT6:x.at_ (setL qq.W (w.heap.size+1) 0 [.int .i64 x.ref.kind,.string x.ref.space,.string x.ref.name,.bool x.good,.slice x.al x.labels.length x.cl,.slice x.ap x.ports.length x.cp,.string x.cls,.slice x.ai x.lis.length x.ci,.slice x.aq x.pars.length x.cq,.slice x.ah x.hosts.length x.ch,.slice x.ar x.rules.length x.cr,.slice x.af x.frm.length x.cf,.slice x.ao x.tos.length x.co]):=EO.below _ _ _ HAX.out S6
    have k6:=K6.out
    generalize setL qq.W (w.heap.size+1) 0 [.int .i64 x.ref.kind,.string x.ref.space,.string x.ref.name,.bool x.good,.slice x.al x.labels.length x.cl,.slice x.ap x.ports.length x.cp,.string x.cls,.slice x.ai x.lis.length x.ci,.slice x.aq x.pars.length x.cq,.slice x.ah x.hosts.length x.ch,.slice x.ar x.rules.length x.cr,.slice x.af x.frm.length x.cf,.slice x.ao x.tos.length x.co]=W6 at *
    obtain ⟨e0,e1,e2,e3,e4,e5,e6,e7,e8,e9,e10,e11,e12⟩:_∧_∧_∧_∧_∧_∧_∧_∧_∧_∧_∧_∧_:=⟨aA0 k6 (i:=0) rfl,aA0 k6 (i:=1) rfl,aA0 k6 (i:=2) rfl,aA0 k6 (i:=3) rfl,aA0 k6 (i:=4) rfl,aA0 k6 (i:=5) rfl,aA0 k6 (i:=6) rfl,aA0 k6 (i:=7) rfl,aA0 k6 (i:=8) rfl,aA0 k6 (i:=9) rfl,aA0 k6 (i:=10) rfl,aA0 k6 (i:=11) rfl,aA0 k6 (i:=12) rfl⟩
    exact bodyPost_ret (v:=.tuple #[.agg #[.int .i64 x.ref.kind,.string x.ref.space,.string x.ref.name,.bool x.good,.slice x.al x.labels.length x.cl,.slice x.ap x.ports.length x.cp,.string x.cls,.slice x.ai x.lis.length x.ci,.slice x.aq x.pars.length x.cq,.slice x.ah x.hosts.length x.ch,.slice x.ar x.rules.length x.cr,.slice x.af x.frm.length x.cf,.slice x.ao x.tos.length x.co],.bool true]) (by simp [results,Tryz.f11,go_sem,e0,e1,e2,e3,e4,e5,e6,e7,e8,e9,e10,e11,e12]) rfl ⟨x,rfl,rfl,AT6,S6⟩
  ·have hlt':¬ (j:Int)<(L.length:Int):=by omega
   have HFF:=HFN.out (fun i hi=>hno.out i hi (by omega))
   subst HFF
   have lz:=aAl kz
   obtain ⟨z0,z1,z2,z3,z4,z5,z6,z7,z8,z9,z10,z11,z12⟩:_∧_∧_∧_∧_∧_∧_∧_∧_∧_∧_∧_∧_:=⟨aA0 kz (i:=0) rfl,aA0 kz (i:=1) rfl,aA0 kz (i:=2) rfl,aA0 kz (i:=3) rfl,aA0 kz (i:=4) rfl,aA0 kz (i:=5) rfl,aA0 kz (i:=6) rfl,aA0 kz (i:=7) rfl,aA0 kz (i:=8) rfl,aA0 kz (i:=9) rfl,aA0 kz (i:=10) rfl,aA0 kz (i:=11) rfl,aA0 kz (i:=12) rfl⟩
   have K6:=hide (show (setL wr (w.heap.size+1) 0 [.int .i64 0,.string ⟨#[]⟩,.string ⟨#[]⟩,.bool false,.slice none 0 0,.slice none 0 0,.string ⟨#[]⟩,.slice none 0 0,.slice none 0 0,.slice none 0 0,.slice none 0 0,.slice none 0 0,.slice none 0 0]).heap[w.heap.size+1]?=_ from aB2 [.int .i64 0,.string ⟨#[]⟩,.string ⟨#[]⟩,.bool false,.slice none 0 0,.slice none 0 0,.string ⟨#[]⟩,.slice none 0 0,.slice none 0 0,.slice none 0 0,.slice none 0 0,.slice none 0 0,.slice none 0 0] kz rfl)
   have BB:=hide (bb2 HB1.out hB)
   clear kz kr HFI HFN HO hno r0 r1 r2
   go_wp2_with fail
   change bodyPost _ _ _ _ _ (setL wr (w.heap.size+1) 0 [.int .i64 0,.string ⟨#[]⟩,.string ⟨#[]⟩,.bool false,.slice none 0 0,.slice none 0 0,.string ⟨#[]⟩,.slice none 0 0,.slice none 0 0,.slice none 0 0,.slice none 0 0,.slice none 0 0,.slice none 0 0])
   have S6:=aAh (w:=w) (B:=w.heap.size) (g:=w.heap.size+1) (Nat.le_succ _) [.int .i64 0,.string ⟨#[]⟩,.string ⟨#[]⟩,.bool false,.slice none 0 0,.slice none 0 0,.string ⟨#[]⟩,.slice none 0 0,.slice none 0 0,.slice none 0 0,.slice none 0 0,.slice none 0 0,.slice none 0 0] wr 0 BB.out
   have k6:=K6.out
   generalize setL wr (w.heap.size+1) 0 [.int .i64 0,.string ⟨#[]⟩,.string ⟨#[]⟩,.bool false,.slice none 0 0,.slice none 0 0,.string ⟨#[]⟩,.slice none 0 0,.slice none 0 0,.slice none 0 0,.slice none 0 0,.slice none 0 0,.slice none 0 0]=W6 at *
   obtain ⟨e0,e1,e2,e3,e4,e5,e6,e7,e8,e9,e10,e11,e12⟩:_∧_∧_∧_∧_∧_∧_∧_∧_∧_∧_∧_∧_:=⟨aA0 k6 (i:=0) rfl,aA0 k6 (i:=1) rfl,aA0 k6 (i:=2) rfl,aA0 k6 (i:=3) rfl,aA0 k6 (i:=4) rfl,aA0 k6 (i:=5) rfl,aA0 k6 (i:=6) rfl,aA0 k6 (i:=7) rfl,aA0 k6 (i:=8) rfl,aA0 k6 (i:=9) rfl,aA0 k6 (i:=10) rfl,aA0 k6 (i:=11) rfl,aA0 k6 (i:=12) rfl⟩
   exact bodyPost_ret (v:=.tuple #[oV zOV,.bool false]) (by simp [results,Tryz.f11,go_sem,e0,e1,e2,e3,e4,e5,e6,e7,e8,e9,e10,e11,e12]) rfl ⟨zOV,rfl,rfl,aRy _,S6⟩
end Go.Proofs.YthnodpdiocppgaaGreatDoor
