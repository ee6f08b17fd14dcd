/-
  Walks: the document's gateway.
-/
import Derived.Test.YthnodpdiocppgaaGreatDoorJ23
import Derived.Test.YthnodpdiocppgaaGreatDoorJ21
import Derived.Test.YthnodpdiocppgaaGreatDoorJ19
set_option maxHeartbeats 6400000
set_option linter.unusedVariables false
set_option maxRecDepth 20000
namespace Go.Proofs.YthnodpdiocppgaaGreatDoor
open Go Go.RowKit Go.Shelf
attribute [local go_sem] aAu
theorem aS0:La.needs (nbs [])=true:=by decide
theorem aPk (nm:ByteArray) (po:Int) (tl:Bool) (ho:ByteArray) (ck:Int) (cs cn:ByteArray) (fr:Int) (nd:List NV) (a:Option Addr) (c:Nat) :
  Ob.mayLi (LiV.b ⟨nm,po,tl,ho,⟨ck,cs,cn⟩,fr,nd,a,c⟩)=(Ob.isL nm&&(Ob.isPort po&&(may ho.data.toList&&(La.needs (nbs nd)&&((decide (fr=2)||(!decide (fr<0)&&(!decide (2<fr)&&!decide (0<nd.length))))&&(if tl then decide (ck=4)&&(Ob.isSpace cs&&Ob.isN cn) else Ob.eqR ⟨ck,cs,cn⟩ Ob.zR)))))):=by
 have hl:Ob.mayLet (LiV.b ⟨nm,po,tl,ho,⟨ck,cs,cn⟩,fr,nd,a,c⟩)=(La.needs (nbs nd)&&(decide (fr=2)||(!decide (fr<0)&&(!decide (2<fr)&&!decide (0<nd.length))))):=by
  unfold Ob.mayLet LiV.b
  dsimp only
  by_cases h2:fr=2
  ·rw [if_pos h2,decide_eq_true h2,Bool.true_or,Bool.and_true]
  ·rw [if_neg h2,decide_eq_false h2,Bool.false_or]
   cases nd with
   | nil =>
     rw [aS0]
     have e1:(decide (fr=0)||decide (fr=1))=(!decide (fr<0)&&!decide (2<fr)):=by
      rw [Bool.eq_iff_iff]
      simp only [Bool.or_eq_true,Bool.and_eq_true,Bool.not_eq_true',decide_eq_true_eq,decide_eq_false_iff_not]
      omega
     rw [e1]
     simp
   | cons n nd=>simp
 unfold Ob.mayLi Ob.mayCert
 rw [hl]
 dsimp only [LiV.b]
 generalize Ob.isL nm=b1
 generalize Ob.isPort po=b2
 generalize may ho.data.toList=b3
 generalize La.needs (nbs nd)=b4
 generalize (decide (fr=2)||(!decide (fr<0)&&(!decide (2<fr)&&!decide (0<nd.length))))=b5
 cases b1<;>cases b2<;>cases b3<;>cases b4<;>cases b5<;>simp
 all_goals (cases tl<;>rfl)
theorem aW8 {l:List LiV} (h1:∀ j (hj:j<l.length),Ob.mayLi l[j].b=true) (h2:∀ j (hj:j<l.length),(l.take j).any (fun b=>Ob.nameLi l[j].b b.b)=false) :
  (Ob.cnt l 1 8 (fun l=>Ob.mayLi l.b)&&Ob.dif (fun a b=>Ob.nameLi a.b b.b) l)=(decide ((1:Int)≤(l.length:Int))&&decide ((l.length:Int)≤8)):=by
 rw [aEs (p:=fun l:LiV=>Ob.mayLi l.b) h1,Ob.dif_yes (same:=fun a b:LiV=>Ob.nameLi a.b b.b) h2,Bool.and_true]
theorem aHp (a b:LiB):Ob.nameLi a b=Ob.nameLi b a:=by
 unfold Ob.nameLi
 rw [Bool.eq_iff_iff,beq_iff_eq,beq_iff_eq]
 exact eq_comm
theorem aMe (x:OV) (w:World) (hx:x.at_ w) (ok:OkO x) :
  Calls Tryz.prog 48 #[oV x] w fun e w'=>e=.returned (.bool (Ob.isN x.cls&&(Ob.cnt x.lis 1 8 (fun l=>Ob.mayLi l.b)&&Ob.dif (fun a b=>Ob.nameLi a.b b.b) x.lis)))∧Below w.heap.size w w':=by
 obtain ⟨X,hX⟩:∃ z,z=w.alloc (.cells #[.int .i64 x.ref.kind,.string x.ref.space,.string x.ref.name,.bool x.good,x.vl,x.vp,.string x.cls,x.vi,x.vq,x.vh,x.vr,x.vf,x.vo] 36):=⟨_,rfl⟩
 have HB0:Hid (Below w.heap.size w (w.alloc (.cells #[.int .i64 x.ref.kind,.string x.ref.space,.string x.ref.name,.bool x.good,x.vl,x.vp,.string x.cls,x.vi,x.vq,x.vh,x.vr,x.vf,x.vo] 36))):=(Below.refl _ _).alloc (Nat.le_refl _) _
 have B1:Below w.heap.size w X:=by rw [hX];exact HB0.out
 have K0:X.heap[w.heap.size]?=some (.cells #[.int .i64 x.ref.kind,.string x.ref.space,.string x.ref.name,.bool x.good,x.vl,x.vp,.string x.cls,x.vi,x.vq,x.vh,x.vr,x.vf,x.vo] 36):=by rw [hX];exact aA7 _ _
 have HK0:=hide K0
 have HB1:=hide B1
 have HX:=hide hx
 have HOK:=hide ok
 clear B1 K0 hx ok
 go_enter Tryz.func48,Tryz.ntmps48
 go_wp2_with fail
 go_loopw [4] (fun i wr=>∃ k:Nat,k≤x.lis.length∧i=.int .i64 k∧Hid (∀ j,j<k→∀ (hj:j<x.lis.length),Ob.mayLi x.lis[j].b=true∧(x.lis.take j).any (fun b=>Ob.nameLi x.lis[j].b b.b)=false)∧Below X.heap.size X wr) (fun i _=>x.lis.length - (intOf i).toNat)
 case atStart=>exact ⟨0,Nat.zero_le _,rfl,fun j hj=>absurd hj (by omega),by rw [hX];exact Below.refl _ _⟩
 case round =>
  clear hX
  obtain ⟨k,hk,rfl,hall,hB⟩:=hrel
  obtain ⟨wo,rfl⟩:∃ z,z=wr:=⟨wr,rfl⟩
  have hBw:=bb2 HB1.out hB
  have HBO:=hide hBw
  have HBX:=hide hB
  have hlen:=HX.out.lis.len
  by_cases hlt:k<x.lis.length
  ·have hlt':(k:Int)<(x.lis.length:Int):=by omega
   obtain ⟨hE,g,off,ha,hg,p0,p1,p2,p3,p4,p5,p6,p7,p8⟩:=aE5 HX.out.lis hBw hlt
   rw [show x.vi=.slice (some ⟨g,off,none⟩) x.lis.length x.ci from by unfold OV.vi;rw [ha]]
   have HE:Hid (Sl EN wo x.lis[k].v x.lis[k].nd):=hE
   have HA:=hide ha
   have ok1:=HOK.out.lis _ (List.getElem_mem hlt)
   have HOK1:=hide ok1
   have HT0:Hid (Ob.mayLi x.lis[k].b=true→(x.lis.take k).any (fun b=>Ob.nameLi x.lis[k].b b.b)=false→∀ j,j<k+1→∀ (hj:j<x.lis.length),Ob.mayLi x.lis[j].b=true∧(x.lis.take j).any (fun b=>Ob.nameLi x.lis[j].b b.b)=false):=fun h h'=>aC9 hall.out (fun _=>⟨h,h'⟩)
   have HG0:Hid (Ob.mayLi x.lis[k].b=false→(Ob.isN x.cls&&(Ob.cnt x.lis 1 8 (fun l=>Ob.mayLi l.b)&&Ob.dif (fun a b=>Ob.nameLi a.b b.b) x.lis))=false):=fun h=>by rw [aFs (p:=fun l:LiV=>Ob.mayLi l.b) hlt h,Bool.false_and,Bool.and_false]
   have HG1:Hid ((x.lis.take k).any (fun b=>Ob.nameLi x.lis[k].b b.b)=true→(Ob.isN x.cls&&(Ob.cnt x.lis 1 8 (fun l=>Ob.mayLi l.b)&&Ob.dif (fun a b=>Ob.nameLi a.b b.b) x.lis))=false):=fun h=>by rw [Ob.dif_not (same:=fun a b:LiV=>Ob.nameLi a.b b.b) hlt h,Bool.and_false,Bool.and_false]
   clear hall ha hE ok1 hB
   go_wp2_with fail
   go_loopw [6] (fun i wr=>∃ m:Nat,m≤k∧i=.int .i64 m∧Hid ((x.lis.take m).any (fun b=>Ob.nameLi x.lis[k].b b.b)=false)∧Below wo.heap.size wo wr∧wr.heap[wo.heap.size]?=some (.cells #[.string x.lis[k].name,.int .i64 x.lis[k].port,.bool x.lis[k].tls,.string x.lis[k].host,.int .i64 x.lis[k].cert.kind,.string x.lis[k].cert.space,.string x.lis[k].cert.name,.int .i64 x.lis[k].frm,x.lis[k].v] 67)) (fun i _=>k - (intOf i).toNat)
   case atStart=>exact ⟨0,Nat.zero_le _,rfl,rfl,(Below.refl _ _).alloc (Nat.le_refl _) _,aA7 _ _⟩
   case round =>
    clear p0 p1 p2 p3 p4 p5 p6 p7 p8
    obtain ⟨m,hm,rfl,hany,hB,kz⟩:=hrel
    by_cases hmk:m<k
    ·have hmk':(m:Int)<(k:Int):=by omega
     have hml:m<x.lis.length:=by omega
     have hml':(m:Int)<(x.lis.length:Int):=by omega
     obtain ⟨hE,g2,off2,ha2,hg2,p0,_⟩:=aE5 HX.out.lis (bb2 hBw hB) hml
     rw [HA.out] at ha2
     injection ha2 with ha2
     injection ha2 with e1 e2
     subst e1
     subst e2
     have z0:=aA0 kz (i:=0) rfl
     have HANY:Hid ((x.lis.take (m+1)).any (fun b=>Ob.nameLi x.lis[k].b b.b)=(x.lis[m].name.toList == x.lis[k].name.toList)):=by
      unfold Hid
      rw [List.take_succ_eq_append_getElem hml,List.any_append,hany.out,Bool.false_or]
      simp only [List.any_cons,List.any_nil,Bool.or_false]
      exact aHp _ _
     have HANY2:Hid ((x.lis[m].name.toList == x.lis[k].name.toList)=true→(x.lis.take k).any (fun b=>Ob.nameLi x.lis[k].b b.b)=true):=fun h=>by
      rw [List.any_eq_true]
      refine ⟨x.lis[m],List.mem_take_iff_getElem.2 ⟨m,by omega,rfl⟩,?_⟩
      rw [aHp]
      exact h
     have HZ:=hide kz
     clear hE hany kz
     cases hq:(x.lis[m].name.toList == x.lis[k].name.toList)
     ·rw [hq] at HANY
      go_wp2_with fail
      go_region
      go_wp2_with fail
      exact ⟨⟨m+1,by omega,by go_num,HANY.out,hB.trans ((Below.refl _ _).drew.mono hB.size),aA2 HZ.out (Below.refl _ _).drew⟩,by simp [intOf];omega⟩
     ·have HF:=hide (HG1.out (HANY2.out hq))
      go_wp2_with fail
      go_region
      go_wp2_with fail
      go_ret
      exact ⟨aA1 HF.out.symm,bb2 (bb2 HBO.out hB) (Below.refl _ _).drew⟩
    ·obtain rfl:m=k:=by omega
     have hmk':¬ (m:Int)<(m:Int):=by omega
     have hE2:Sl EN wr x.lis[m].v x.lis[m].nd:=HE.out.below hB
     have HT:Hid (Ob.mayLi x.lis[m].b=true→∀ j,j<m+1→∀ (hj:j<x.lis.length),Ob.mayLi x.lis[j].b=true∧(x.lis.take j).any (fun b=>Ob.nameLi x.lis[j].b b.b)=false):=fun h=>HT0.out h hany.out
     have HG:=HG0
     have ok1:=HOK1.out
     have z0:=aA0 kz (i:=0) rfl
     have zq0:=fun q:GB wr=>aA0 (aA2 kz q.h) (i:=0) rfl
     have z1:=aA0 kz (i:=1) rfl
     have zq1:=fun q:GB wr=>aA0 (aA2 kz q.h) (i:=1) rfl
     have z2:=aA0 kz (i:=2) rfl
     have zq2:=fun q:GB wr=>aA0 (aA2 kz q.h) (i:=2) rfl
     have z3:=aA0 kz (i:=3) rfl
     have zq3:=fun q:GB wr=>aA0 (aA2 kz q.h) (i:=3) rfl
     have z4:=aA0 kz (i:=4) rfl
     have zq4:=fun q:GB wr=>aA0 (aA2 kz q.h) (i:=4) rfl
     have z5:=aA0 kz (i:=5) rfl
     have zq5:=fun q:GB wr=>aA0 (aA2 kz q.h) (i:=5) rfl
     have z6:=aA0 kz (i:=6) rfl
     have zq6:=fun q:GB wr=>aA0 (aA2 kz q.h) (i:=6) rfl
     have z7:=aA0 kz (i:=7) rfl
     have zq7:=fun q:GB wr=>aA0 (aA2 kz q.h) (i:=7) rfl
     have z8:=aA0 kz (i:=8) rfl
     have zq8:=fun q:GB wr=>aA0 (aA2 kz q.h) (i:=8) rfl
     clear HT0 HG0 HG1 HOK1 kz hany HE HA
     generalize x.lis[m]=s at *
     obtain ⟨nm,po,tl,ho,⟨ck,cs,cn⟩,fr,nd,a,c⟩:=s
     dsimp only at *
     have HP:Hid (_=_):=aPk nm po tl ho ck cs cn fr nd a c
     have C1:=fun W (h:Below wr.heap.size wr W)=>hide (aI1 nm W (sm ok1.name))
     have C2:=fun W (h:Below wr.heap.size wr W)=>hide (aE8 po W)
     have C3:=fun W (h:Below wr.heap.size wr W)=>hide (aKa ho W ok1.host)
     have C4:=fun W (h:Below wr.heap.size wr W)=>hide (aNa _ nd W (hE2.below h) ok1.nd)
     have C5:=fun W (h:Below wr.heap.size wr W)=>hide (aDl cs W ok1.cert.space)
     have C6:=fun W (h:Below wr.heap.size wr W)=>hide (aEr cn W ok1.cert.name)
     have EQ:∀ W,(Op.equalIn 10000 24 (.agg #[.int .i64 ck,.string cs,.string cn]) (.agg #[.int .i64 0,.string ⟨#[]⟩,.string ⟨#[]⟩])).run Tryz.prog W=.ok (Ob.eqR ⟨ck,cs,cn⟩ Ob.zR) W:=fun W=>by
      rw [aG8]
      unfold Ob.eqR
      simp only [aB3]
     clear hE2 ok1
     generalize Ob.mayLi (LiV.b ⟨nm,po,tl,ho,⟨ck,cs,cn⟩,fr,nd,a,c⟩)=zz at *
     generalize Ob.isL nm=y1 at *
     generalize Ob.isPort po=y2 at *
     generalize may ho.data.toList=y3 at *
     generalize La.needs (nbs nd)=y4 at *
     generalize Ob.isSpace cs=y5 at *
     generalize Ob.isN cn=y6 at *
     generalize Ob.eqR ⟨ck,cs,cn⟩ Ob.zR=e13 at *
     dsimp only [LiV.v] at *
     go_wp2_with fail
     cases y1
     ·refine (aA5 ((C1 _ (Below.refl _ _)).out)).mono ?_
      rintro e x ⟨rfl,q,rfl⟩
      go_wp2_with fail
      go_ret
      exact ⟨aA1 (HG.out (by rw [HP.out];simp)).symm,bb2 (bb2 HBO.out hB) q.h⟩
     ·refine (aA5 ((C1 _ (Below.refl _ _)).out)).mono ?_
      rintro e x ⟨rfl,q,rfl⟩
      go_wp2_with fail
      cases y2
      ·refine (aA3 ((C2 _ q.h).out)).mono ?_
       rintro e x ⟨rfl,q,rfl⟩
       go_wp2_with fail
       go_ret
       exact ⟨aA1 (HG.out (by rw [HP.out];simp)).symm,bb2 (bb2 HBO.out hB) q.h⟩
      ·refine (aA3 ((C2 _ q.h).out)).mono ?_
       rintro e x ⟨rfl,q,rfl⟩
       go_wp2_with fail
       cases y3
       ·refine (aA3 ((C3 _ q.h).out)).mono ?_
        rintro e x ⟨rfl,q,rfl⟩
        go_wp2_with fail
        go_ret
        exact ⟨aA1 (HG.out (by rw [HP.out];simp)).symm,bb2 (bb2 HBO.out hB) q.h⟩
       ·by_cases hn1:fr=2
        ·subst hn1
         refine (aA3 ((C3 _ q.h).out)).mono ?_
         rintro e x ⟨rfl,q,rfl⟩
         go_wp2_with fail
         cases y4
         ·refine (aA3 ((C4 _ q.h).out)).mono ?_
          rintro e x ⟨rfl,q,rfl⟩
          go_wp2_with fail
          go_ret
          exact ⟨aA1 (HG.out (by rw [HP.out];simp)).symm,bb2 (bb2 HBO.out hB) q.h⟩
         ·cases ht2:(tl)
          ·rw [ht2] at HP
           cases e13
           ·refine (aA3 ((C4 _ q.h).out)).mono ?_
            rintro e x ⟨rfl,q,rfl⟩
            go_wp2_with fail
            go_ret
            exact ⟨aA1 (HG.out (by rw [HP.out];simp)).symm,bb2 (bb2 HBO.out hB) q.h⟩
           ·refine (aA3 ((C4 _ q.h).out)).mono ?_
            rintro e x ⟨rfl,q,rfl⟩
            go_wp2_with fail
            exact ⟨⟨m+1,by omega,by go_num,HT.out (by rw [HP.out];simp),bb2 (bb2 HBX.out hB) q.h⟩,by simp [intOf];omega⟩
          ·rw [ht2] at HP
           by_cases hn3:ck=4
           ·subst hn3
            refine (aA3 ((C4 _ q.h).out)).mono ?_
            rintro e x ⟨rfl,q,rfl⟩
            go_wp2_with fail
            cases y5
            ·refine (aA3 ((C5 _ q.h).out)).mono ?_
             rintro e x ⟨rfl,q,rfl⟩
             go_wp2_with fail
             go_ret
             exact ⟨aA1 (HG.out (by rw [HP.out];simp)).symm,bb2 (bb2 HBO.out hB) q.h⟩
            ·refine (aA3 ((C5 _ q.h).out)).mono ?_
             rintro e x ⟨rfl,q,rfl⟩
             go_wp2_with fail
             cases y6
             ·refine (aA3 ((C6 _ q.h).out)).mono ?_
              rintro e x ⟨rfl,q,rfl⟩
              go_wp2_with fail
              go_ret
              exact ⟨aA1 (HG.out (by rw [HP.out];simp)).symm,bb2 (bb2 HBO.out hB) q.h⟩
             ·refine (aA3 ((C6 _ q.h).out)).mono ?_
              rintro e x ⟨rfl,q,rfl⟩
              go_wp2_with fail
              exact ⟨⟨m+1,by omega,by go_num,HT.out (by rw [HP.out];simp),bb2 (bb2 HBX.out hB) q.h⟩,by simp [intOf];omega⟩
           ·have hn31:(ck == 4)=false:=by simpa using hn3
            have hn32:(ck != 4)=true:=by simpa using hn3
            have hn33:=hide hn3
            rw [decide_eq_false hn3] at HP
            clear hn3
            refine (aA3 ((C4 _ q.h).out)).mono ?_
            rintro e x ⟨rfl,q,rfl⟩
            go_wp2_with fail
            go_ret
            exact ⟨aA1 (HG.out (by rw [HP.out];simp)).symm,bb2 (bb2 HBO.out hB) q.h⟩
        ·have hn11:(fr == 2)=false:=by simpa using hn1
         have hn12:(fr != 2)=true:=by simpa using hn1
         have hn13:=hide hn1
         rw [decide_eq_false hn1] at HP
         clear hn1
         cases ht4:(decide (fr<0))
         ·rw [ht4] at HP
          cases ht5:(decide (2<fr))
          ·rw [ht5] at HP
           refine (aA3 ((C3 _ q.h).out)).mono ?_
           rintro e x ⟨rfl,q,rfl⟩
           go_wp2_with fail
           cases y4
           ·refine (aA3 ((C4 _ q.h).out)).mono ?_
            rintro e x ⟨rfl,q,rfl⟩
            go_wp2_with fail
            go_ret
            exact ⟨aA1 (HG.out (by rw [HP.out];simp)).symm,bb2 (bb2 HBO.out hB) q.h⟩
           ·cases ht6:(decide (0<nd.length))
            ·rw [ht6] at HP
             cases ht7:(tl)
             ·rw [ht7] at HP
              cases e13
              ·refine (aA3 ((C4 _ q.h).out)).mono ?_
               rintro e x ⟨rfl,q,rfl⟩
               go_wp2_with fail
               go_ret
               exact ⟨aA1 (HG.out (by rw [HP.out];simp)).symm,bb2 (bb2 HBO.out hB) q.h⟩
              ·refine (aA3 ((C4 _ q.h).out)).mono ?_
               rintro e x ⟨rfl,q,rfl⟩
               go_wp2_with fail
               exact ⟨⟨m+1,by omega,by go_num,HT.out (by rw [HP.out];simp),bb2 (bb2 HBX.out hB) q.h⟩,by simp [intOf];omega⟩
             ·rw [ht7] at HP
              by_cases hn8:ck=4
              ·subst hn8
               refine (aA3 ((C4 _ q.h).out)).mono ?_
               rintro e x ⟨rfl,q,rfl⟩
               go_wp2_with fail
               cases y5
               ·refine (aA3 ((C5 _ q.h).out)).mono ?_
                rintro e x ⟨rfl,q,rfl⟩
                go_wp2_with fail
                go_ret
                exact ⟨aA1 (HG.out (by rw [HP.out];simp)).symm,bb2 (bb2 HBO.out hB) q.h⟩
               ·refine (aA3 ((C5 _ q.h).out)).mono ?_
                rintro e x ⟨rfl,q,rfl⟩
                go_wp2_with fail
                cases y6
                ·refine (aA3 ((C6 _ q.h).out)).mono ?_
                 rintro e x ⟨rfl,q,rfl⟩
                 go_wp2_with fail
                 go_ret
                 exact ⟨aA1 (HG.out (by rw [HP.out];simp)).symm,bb2 (bb2 HBO.out hB) q.h⟩
                ·refine (aA3 ((C6 _ q.h).out)).mono ?_
                 rintro e x ⟨rfl,q,rfl⟩
                 go_wp2_with fail
                 exact ⟨⟨m+1,by omega,by go_num,HT.out (by rw [HP.out];simp),bb2 (bb2 HBX.out hB) q.h⟩,by simp [intOf];omega⟩
              ·have hn81:(ck == 4)=false:=by simpa using hn8
               have hn82:(ck != 4)=true:=by simpa using hn8
               have hn83:=hide hn8
               rw [decide_eq_false hn8] at HP
               clear hn8
               refine (aA3 ((C4 _ q.h).out)).mono ?_
               rintro e x ⟨rfl,q,rfl⟩
               go_wp2_with fail
               go_ret
               exact ⟨aA1 (HG.out (by rw [HP.out];simp)).symm,bb2 (bb2 HBO.out hB) q.h⟩
            ·rw [ht6] at HP
             refine (aA3 ((C4 _ q.h).out)).mono ?_
             rintro e x ⟨rfl,q,rfl⟩
             go_wp2_with fail
             go_ret
             exact ⟨aA1 (HG.out (by rw [HP.out];simp)).symm,bb2 (bb2 HBO.out hB) q.h⟩
          ·rw [ht5] at HP
           refine (aA3 ((C3 _ q.h).out)).mono ?_
           rintro e x ⟨rfl,q,rfl⟩
           go_wp2_with fail
           go_ret
           exact ⟨aA1 (HG.out (by rw [HP.out];simp)).symm,bb2 (bb2 HBO.out hB) q.h⟩
         ·rw [ht4] at HP
          refine (aA3 ((C3 _ q.h).out)).mono ?_
          rintro e x ⟨rfl,q,rfl⟩
          go_wp2_with fail
          go_ret
          exact ⟨aA1 (HG.out (by rw [HP.out];simp)).symm,bb2 (bb2 HBO.out hB) q.h⟩
  ·obtain rfl:k=x.lis.length:=by omega
   have hlt':¬ (x.lis.length:Int)<(x.lis.length:Int):=by omega
   dsimp only [OV.vi]
   have HALL:=hide (aW8 (fun j hj=>(hall.out j hj hj).1) (fun j hj=>(hall.out j hj hj).2))
   have CN:=fun W (h:Below wo.heap.size wo W)=>hide (aEr x.cls W HOK.out.cls)
   have o6:wo.cell? ⟨w.heap.size,6,none⟩=some (.string x.cls):=aA0 (aA2 HK0.out hB) (i:=6) rfl
   have HBB:=hide hBw
   clear hall
   obtain ⟨yc,hyc⟩:∃ z,z=Ob.isN x.cls:=⟨_,rfl⟩
   have HF:Hid ((Ob.isN x.cls&&(Ob.cnt x.lis 1 8 (fun l=>Ob.mayLi l.b)&&Ob.dif (fun a b=>Ob.nameLi a.b b.b) x.lis))=(yc&&(decide ((1:Int)≤(x.lis.length:Int))&&decide ((x.lis.length:Int)≤8)))):=by
    unfold Hid
    rw [HALL.out,hyc]
   rw [←hyc] at CN
   clear hyc
   go_wp2_with fail
   cases yc
   ·refine (CN _ (Below.refl _ _)).out.mono ?_
    rintro e w1 ⟨rfl,hb1⟩
    go_wp2_with fail
    go_ret
    exact ⟨aA1 (by rw [HF.out];try rfl),bb2 HBB.out hb1⟩
   ·cases h1:decide ((1:Int)≤(x.lis.length:Int))
    ·rw [h1] at HF
     refine (CN _ (Below.refl _ _)).out.mono ?_
     rintro e w1 ⟨rfl,hb1⟩
     go_wp2_with fail
     go_ret
     exact ⟨aA1 (by rw [HF.out];try rfl),bb2 HBB.out hb1⟩
    ·rw [h1] at HF
     cases h2:decide ((x.lis.length:Int)≤8)
     ·rw [h2] at HF
      refine (CN _ (Below.refl _ _)).out.mono ?_
      rintro e w1 ⟨rfl,hb1⟩
      go_wp2_with fail
      go_ret
      exact ⟨aA1 (by rw [HF.out];try rfl),bb2 HBB.out hb1⟩
     ·rw [h2] at HF
      refine (CN _ (Below.refl _ _)).out.mono ?_
      rintro e w1 ⟨rfl,hb1⟩
      go_wp2_with fail
      go_ret
      exact ⟨aA1 (by rw [HF.out];try rfl),bb2 HBB.out hb1⟩
end Go.Proofs.YthnodpdiocppgaaGreatDoor
namespace Go.Proofs.YthnodpdiocppgaaGreatDoor
open Go Go.RowKit Go.Shelf
attribute [local go_sem] aAu
def rtV (x:OV):Bool:=Ob.cnt x.pars 0 4 Ob.mayPt&&(Ob.dif Ob.eqP x.pars&&(Ob.cnt x.hosts 0 4 Ob.mayHo&&(Ob.dif Ob.eqS x.hosts&&Ob.cnt x.rules 0 6 (fun r=>Ob.mayRl r.b))))
theorem aGe (a b:PtB):Ob.eqP a b=Ob.eqP b a:=by
 rw [Bool.eq_iff_iff,Ob.eqP_iff,Ob.eqP_iff]
 exact eq_comm
theorem aMf (a b:ByteArray):Ob.eqS a b=Ob.eqS b a:=by
 rw [Bool.eq_iff_iff,Ob.eqS_iff,Ob.eqS_iff]
 exact eq_comm
theorem aXz {x:OV} {k:Nat} (hk:k<x.pars.length) (h:Ob.mayPt x.pars[k]=false):rtV x=false:=by
 unfold rtV
 rw [aFs hk h,Bool.false_and]
theorem aTy {x:OV} {k:Nat} (hk:k<x.pars.length) (h:(x.pars.take k).any (Ob.eqP x.pars[k])=true):rtV x=false:=by
 unfold rtV
 rw [Ob.dif_not hk h,Bool.false_and,Bool.and_false]
theorem aY0 {x:OV} {k:Nat} (hk:k<x.hosts.length) (h:Ob.mayHo x.hosts[k]=false):rtV x=false:=by
 unfold rtV
 rw [aFs hk h,Bool.false_and,Bool.and_false,Bool.and_false]
theorem aY1 {x:OV} {k:Nat} (hk:k<x.hosts.length) (h:(x.hosts.take k).any (Ob.eqS x.hosts[k])=true):rtV x=false:=by
 unfold rtV
 rw [Ob.dif_not hk h,Bool.false_and,Bool.and_false,Bool.and_false,Bool.and_false]
theorem aY2 {x:OV} {k:Nat} (hk:k<x.rules.length) (h:Ob.mayRl x.rules[k].b=false):rtV x=false:=by
 unfold rtV
 rw [aFs (p:=fun r:RlV=>Ob.mayRl r.b) hk h,Bool.and_false,Bool.and_false,Bool.and_false,Bool.and_false]
theorem aW9 {x:OV} (h1:∀ j (hj:j<x.pars.length),Ob.mayPt x.pars[j]=true∧(x.pars.take j).any (Ob.eqP x.pars[j])=false) (h2:∀ j (hj:j<x.hosts.length),Ob.mayHo x.hosts[j]=true∧(x.hosts.take j).any (Ob.eqS x.hosts[j])=false) (h3:∀ j (hj:j<x.rules.length),Ob.mayRl x.rules[j].b=true) :
  rtV x=(decide ((x.pars.length:Int)≤4)&&(decide ((x.hosts.length:Int)≤4)&&decide ((x.rules.length:Int)≤6))):=by
 unfold rtV
 rw [aEs (fun j hj=>(h1 j hj).1),Ob.dif_yes (fun j hj=>(h1 j hj).2),aEs (fun j hj=>(h2 j hj).1),Ob.dif_yes (fun j hj=>(h2 j hj).2),aEs (p:=fun r:RlV=>Ob.mayRl r.b) h3]
 have e (n:Nat):decide ((0:Int)≤(n:Int))=true:=decide_eq_true (by omega)
 rw [e,e,e]
 rfl
theorem aWa (x:OV):rtV x=(Ob.cnt x.b.pars 0 4 Ob.mayPt&&(Ob.dif Ob.eqP x.b.pars&&(Ob.cnt x.b.hosts 0 4 Ob.mayHo&&(Ob.dif Ob.eqS x.b.hosts&&Ob.cnt x.b.rules 0 6 Ob.mayRl)))):=by
 unfold rtV OV.b
 dsimp only
 rw [aE1]
theorem aPl (x:OV) (w:World) (hx:x.at_ w) (ok:OkO x) :
  Calls Tryz.prog 49 #[oV x] w fun e w'=>e=.returned (.bool (rtV x))∧Below w.heap.size w w':=by
 obtain ⟨X,hX⟩:∃ z,z=w.alloc (.cells #[.int .i64 x.ref.kind,.string x.ref.space,.string x.ref.name,.bool x.good,x.vl,x.vp,.string x.cls,x.vi,x.vq,x.vh,x.vr,x.vf,x.vo] 36):=⟨_,rfl⟩
 have HB0:Hid (Below w.heap.size w (w.alloc (.cells #[.int .i64 x.ref.kind,.string x.ref.space,.string x.ref.name,.bool x.good,x.vl,x.vp,.string x.cls,x.vi,x.vq,x.vh,x.vr,x.vf,x.vo] 36))):=(Below.refl _ _).alloc (Nat.le_refl _) _
 have B1:Below w.heap.size w X:=by rw [hX];exact HB0.out
 have K0:X.heap[w.heap.size]?=some (.cells #[.int .i64 x.ref.kind,.string x.ref.space,.string x.ref.name,.bool x.good,x.vl,x.vp,.string x.cls,x.vi,x.vq,x.vh,x.vr,x.vf,x.vo] 36):=by rw [hX];exact aA7 _ _
 have HK0:=hide K0
 have HB1:=hide B1
 have HX:=hide hx
 have HOK:=hide ok
 clear B1 K0 hx ok
 go_enter Tryz.func49,Tryz.ntmps49
 go_wp2_with fail
 go_loopw [3] (fun i wr=>∃ k:Nat,k≤x.pars.length∧i=.int .i64 k∧Hid (∀ j,j<k→∀ (hj:j<x.pars.length),Ob.mayPt x.pars[j]=true∧(x.pars.take j).any (Ob.eqP x.pars[j])=false)∧Below X.heap.size X wr) (fun i _=>x.pars.length - (intOf i).toNat)
 case atStart=>exact ⟨0,Nat.zero_le _,rfl,fun j hj=>absurd hj (by omega),by rw [hX];exact Below.refl _ _⟩
 case round =>
  clear hX
  obtain ⟨k,hk,rfl,hall,hB⟩:=hrel
  obtain ⟨wo,rfl⟩:∃ z,z=wr:=⟨wr,rfl⟩
  have hBw:=bb2 HB1.out hB
  have hlen:=HX.out.pars.len
  have kb:wo.heap[w.heap.size]?=some (.cells #[.int .i64 x.ref.kind,.string x.ref.space,.string x.ref.name,.bool x.good,x.vl,x.vp,.string x.cls,x.vi,x.vq,x.vh,x.vr,x.vf,x.vo] 36):=aA2 HK0.out hB
  have o8:wo.cell? ⟨w.heap.size,8,none⟩=some (.slice x.aq x.pars.length x.cq):=aA0 kb (i:=8) rfl
  have oq8:∀ q:GB wo,q.W.cell? ⟨w.heap.size,8,none⟩=some (.slice x.aq x.pars.length x.cq):=fun q=>aA0 (aA2 kb q.h) (i:=8) rfl
  clear kb
  by_cases hlt:k<x.pars.length
  ·have hlt':(k:Int)<(x.pars.length:Int):=by omega
   obtain ⟨_,g,off,ha,hg,p0,p1,p2,p3⟩:=aDs HX.out.pars hBw hlt
   rw [ha] at o8
   clear oq8
   have ok1:=HOK.out.pars _ (List.getElem_mem hlt)
   have HP:Hid (Ob.mayPt x.pars[k]=(Ob.isSpace x.pars[k].space&&(Ob.isN x.pars[k].name&&(Ob.isSpace x.pars[k].sect&&(decide (x.pars[k].port=0)||Ob.isPort x.pars[k].port))))):=rfl
   have HG:Hid (Ob.mayPt x.pars[k]=false→rtV x=false):=fun h=>aXz hlt h
   by_cases hp0:x.pars[k].port=0
   ·replace p3:=p3.trans (congrArg (fun z=>some (Value.int .i64 z)) hp0)
    have HPORT:Hid (decide (x.pars[k].port=0)=true):=decide_eq_true hp0
    rw [HPORT.out] at HP
    have HP0:=hide hp0
    clear hp0
    obtain ⟨Y,hY⟩:∃ z,z=wo.alloc (.cells #[.string x.pars[k].space,.string x.pars[k].name,.string x.pars[k].sect,.int .i64 0] 70):=⟨_,rfl⟩
    have hYY:Below wo.heap.size wo Y:=by rw [hY];exact (Below.refl _ _).alloc (Nat.le_refl _) _
    have hBY:Below X.heap.size X Y:=bb2 hB hYY
    have kz:Y.heap[wo.heap.size]?=some (.cells #[.string x.pars[k].space,.string x.pars[k].name,.string x.pars[k].sect,.int .i64 0] 70):=by rw [hY];exact aA7 _ _
    have HZ:Hid (Y.heap[wo.heap.size]?=some (.cells #[.string x.pars[k].space,.string x.pars[k].name,.string x.pars[k].sect,.int .i64 x.pars[k].port] 70)):=hide (kz.trans (congrArg (fun z=>some (Obj.cells #[.string x.pars[k].space,.string x.pars[k].name,.string x.pars[k].sect,.int .i64 z] 70)) HP0.out.symm))
    have zq0:=fun q:GB Y=>aA0 (aA2 kz q.h) (i:=0) rfl
    have zq1:=fun q:GB Y=>aA0 (aA2 kz q.h) (i:=1) rfl
    have zq2:=fun q:GB Y=>aA0 (aA2 kz q.h) (i:=2) rfl
    have zq3:=fun q:GB Y=>aA0 (aA2 kz q.h) (i:=3) rfl
    have oq8:∀ q:GB Y,q.W.cell? ⟨w.heap.size,8,none⟩=some (.slice x.aq x.pars.length x.cq):=fun q=>aA0 (aA2 HK0.out (bb2 hBY q.h)) (i:=8) rfl
    have C1:=fun W (h:Below Y.heap.size Y W)=>hide (aDl x.pars[k].space W ok1.space)
    have C2:=fun W (h:Below Y.heap.size Y W)=>hide (aEr x.pars[k].name W ok1.name)
    have C3:=fun W (h:Below Y.heap.size Y W)=>hide (aDl x.pars[k].sect W ok1.sect)
    have C4:=fun W (h:Below Y.heap.size Y W)=>hide (aE8 x.pars[k].port W)
    clear ok1 kz ha hg hBw hB hYY
    generalize Ob.isSpace x.pars[k].space=y1 at *
    generalize Ob.isN x.pars[k].name=y2 at *
    generalize Ob.isSpace x.pars[k].sect=y3 at *
    generalize Ob.isPort x.pars[k].port=y4 at *
    go_wp2_with fail
    rw [←hY]
    clear hY p0 p1 p2 p3 o8
    cases y1
    ·refine (aA5 ((C1 _ (Below.refl _ _)).out)).mono ?_
     rintro e x ⟨rfl,q,rfl⟩
     go_wp2_with fail
     go_ret
     exact ⟨aA1 (HG.out (by rw [HP.out];simp)).symm,bb2 (bb2 HB1.out hBY) q.h⟩
    ·refine (aA5 ((C1 _ (Below.refl _ _)).out)).mono ?_
     rintro e x ⟨rfl,q,rfl⟩
     go_wp2_with fail
     cases y2
     ·refine (aA3 ((C2 _ q.h).out)).mono ?_
      rintro e x ⟨rfl,q,rfl⟩
      go_wp2_with fail
      go_ret
      exact ⟨aA1 (HG.out (by rw [HP.out];simp)).symm,bb2 (bb2 HB1.out hBY) q.h⟩
     ·refine (aA3 ((C2 _ q.h).out)).mono ?_
      rintro e x ⟨rfl,q,rfl⟩
      go_wp2_with fail
      cases y3
      ·refine (aA3 ((C3 _ q.h).out)).mono ?_
       rintro e x ⟨rfl,q,rfl⟩
       go_wp2_with fail
       go_ret
       exact ⟨aA1 (HG.out (by rw [HP.out];simp)).symm,bb2 (bb2 HB1.out hBY) q.h⟩
      ·refine (aA3 ((C3 _ q.h).out)).mono ?_
       rintro e x ⟨rfl,q,rfl⟩
       go_wp2_with fail
       have HMH:Hid (Ob.mayPt x.pars[k]=true):=by
        unfold Hid
        rw [HP.out]
        simp
       have HT:Hid ((x.pars.take k).any (Ob.eqP x.pars[k])=false→∀ j,j<k+1→∀ (hj:j<x.pars.length),Ob.mayPt x.pars[j]=true∧(x.pars.take j).any (Ob.eqP x.pars[j])=false):=fun h=>aC9 hall.out (fun _=>⟨HMH.out,h⟩)
       clear HP HPORT HMH hall HG
       go_loopw [5] (fun i wr=>∃ m:Nat,m≤k∧i=.int .i64 m∧Hid ((x.pars.take m).any (Ob.eqP x.pars[k])=false)∧Below X.heap.size X wr∧wr.heap[wo.heap.size]?=some (.cells #[.string x.pars[k].space,.string x.pars[k].name,.string x.pars[k].sect,.int .i64 x.pars[k].port] 70)) (fun i _=>k - (intOf i).toNat)
       case atStart=>exact ⟨0,Nat.zero_le _,rfl,rfl,bb2 hBY q.h,aA2 HZ.out q.h⟩
       case round =>
        clear zq0 zq1 zq2 zq3 oq8 hBY q
        obtain ⟨m,hm,rfl,hany,hB,kz⟩:=hrel
        have hBw:=bb2 HB1.out hB
        have kb:wr.heap[w.heap.size]?=some (.cells #[.int .i64 x.ref.kind,.string x.ref.space,.string x.ref.name,.bool x.good,x.vl,x.vp,.string x.cls,x.vi,x.vq,x.vh,x.vr,x.vf,x.vo] 36):=aA2 HK0.out hB
        have o8:wr.cell? ⟨w.heap.size,8,none⟩=some (.slice x.aq x.pars.length x.cq):=aA0 kb (i:=8) rfl
        have oq8:∀ q:GB wr,q.W.cell? ⟨w.heap.size,8,none⟩=some (.slice x.aq x.pars.length x.cq):=fun q=>aA0 (aA2 kb q.h) (i:=8) rfl
        clear kb
        by_cases hmk:m<k
        ·have hmk':(m:Int)<(k:Int):=by omega
         have hml:m<x.pars.length:=by omega
         have hml':(m:Int)<(x.pars.length:Int):=by omega
         have hkl':(k:Int)<(x.pars.length:Int):=by omega
         obtain ⟨_,g,off,ha,hg,p0,p1,p2,p3⟩:=aDs HX.out.pars hBw hml
         rw [ha] at o8 oq8
         have HANY:Hid ((x.pars.take (m+1)).any (Ob.eqP x.pars[k])=Ob.eqP x.pars[m] x.pars[k]):=by
          unfold Hid
          rw [List.take_succ_eq_append_getElem hml,List.any_append,hany.out,Bool.false_or]
          simp only [List.any_cons,List.any_nil,Bool.or_false]
          exact aGe _ _
         have HANY2:Hid (Ob.eqP x.pars[m] x.pars[k]=true→rtV x=false):=fun h=>aTy hlt (by
          rw [List.any_eq_true]
          refine ⟨x.pars[m],List.mem_take_iff_getElem.2 ⟨m,by omega,rfl⟩,?_⟩
          rw [aGe]
          exact h)
         have EQ:∀ W,(Op.equalIn 10000 70 (ptV x.pars[m]) (ptV x.pars[k])).run Tryz.prog W=.ok (Ob.eqP x.pars[m] x.pars[k]) W:=fun W=>by
          rw [aIv]
          unfold Ob.eqP
          simp only [aB3]
         obtain ⟨z0,z1,z2,z3⟩:_∧_∧_∧_:=⟨aA0 kz (i:=0) rfl,aA0 kz (i:=1) rfl,aA0 kz (i:=2) rfl,aA0 kz (i:=3) rfl⟩
         clear ha hg hany
         generalize Ob.eqP x.pars[m] x.pars[k]=yq at *
         cases yq
         ·have HS:=hide (Below.refl wr.heap.size wr).drew
          have HZ2:=hide (aA2 kz HS.out)
          go_wp2_with fail
          go_region
          go_wp2_with fail
          exact ⟨⟨m+1,by omega,by go_num,HANY.out,bb2 hB (Below.refl _ _).drew,HZ2.out⟩,by simp [intOf];omega⟩
         ·go_wp2_with fail
          go_region
          go_wp2_with fail
          go_ret
          exact ⟨aA1 (HANY2.out (by simp)).symm,bb2 (bb2 HB1.out hB) (Below.refl _ _).drew⟩
        ·obtain rfl:m=k:=by omega
         have hmk':¬ (m:Int)<(m:Int):=by omega
         have HT2:=hide (HT.out hany.out)
         clear hany
         go_wp2_with fail
         exact ⟨⟨m+1,by omega,by go_num,HT2.out,hB⟩,by simp [intOf];omega⟩
   ·have hpb:(x.pars[k].port == 0)=false:=by simpa using hp0
    have hpb2:(x.pars[k].port != 0)=true:=by simpa using hp0
    have HPORT:Hid (decide (x.pars[k].port=0)=false):=decide_eq_false hp0
    rw [HPORT.out] at HP
    clear hp0
    obtain ⟨Y,hY⟩:∃ z,z=wo.alloc (.cells #[.string x.pars[k].space,.string x.pars[k].name,.string x.pars[k].sect,.int .i64 x.pars[k].port] 70):=⟨_,rfl⟩
    have hYY:Below wo.heap.size wo Y:=by rw [hY];exact (Below.refl _ _).alloc (Nat.le_refl _) _
    have hBY:Below X.heap.size X Y:=bb2 hB hYY
    have kz:Y.heap[wo.heap.size]?=some (.cells #[.string x.pars[k].space,.string x.pars[k].name,.string x.pars[k].sect,.int .i64 x.pars[k].port] 70):=by rw [hY];exact aA7 _ _
    have HZ:=hide kz
    have zq0:=fun q:GB Y=>aA0 (aA2 kz q.h) (i:=0) rfl
    have zq1:=fun q:GB Y=>aA0 (aA2 kz q.h) (i:=1) rfl
    have zq2:=fun q:GB Y=>aA0 (aA2 kz q.h) (i:=2) rfl
    have zq3:=fun q:GB Y=>aA0 (aA2 kz q.h) (i:=3) rfl
    have oq8:∀ q:GB Y,q.W.cell? ⟨w.heap.size,8,none⟩=some (.slice x.aq x.pars.length x.cq):=fun q=>aA0 (aA2 HK0.out (bb2 hBY q.h)) (i:=8) rfl
    have C1:=fun W (h:Below Y.heap.size Y W)=>hide (aDl x.pars[k].space W ok1.space)
    have C2:=fun W (h:Below Y.heap.size Y W)=>hide (aEr x.pars[k].name W ok1.name)
    have C3:=fun W (h:Below Y.heap.size Y W)=>hide (aDl x.pars[k].sect W ok1.sect)
    have C4:=fun W (h:Below Y.heap.size Y W)=>hide (aE8 x.pars[k].port W)
    clear ok1 kz ha hg hBw hB hYY
    generalize Ob.isSpace x.pars[k].space=y1 at *
    generalize Ob.isN x.pars[k].name=y2 at *
    generalize Ob.isSpace x.pars[k].sect=y3 at *
    generalize Ob.isPort x.pars[k].port=y4 at *
    go_wp2_with fail
    rw [←hY]
    clear hY p0 p1 p2 p3 o8
    cases y1
    ·refine (aA5 ((C1 _ (Below.refl _ _)).out)).mono ?_
     rintro e x ⟨rfl,q,rfl⟩
     go_wp2_with fail
     go_ret
     exact ⟨aA1 (HG.out (by rw [HP.out];simp)).symm,bb2 (bb2 HB1.out hBY) q.h⟩
    ·refine (aA5 ((C1 _ (Below.refl _ _)).out)).mono ?_
     rintro e x ⟨rfl,q,rfl⟩
     go_wp2_with fail
     cases y2
     ·refine (aA3 ((C2 _ q.h).out)).mono ?_
      rintro e x ⟨rfl,q,rfl⟩
      go_wp2_with fail
      go_ret
      exact ⟨aA1 (HG.out (by rw [HP.out];simp)).symm,bb2 (bb2 HB1.out hBY) q.h⟩
     ·refine (aA3 ((C2 _ q.h).out)).mono ?_
      rintro e x ⟨rfl,q,rfl⟩
      go_wp2_with fail
      cases y3
      ·refine (aA3 ((C3 _ q.h).out)).mono ?_
       rintro e x ⟨rfl,q,rfl⟩
       go_wp2_with fail
       go_ret
       exact ⟨aA1 (HG.out (by rw [HP.out];simp)).symm,bb2 (bb2 HB1.out hBY) q.h⟩
      ·refine (aA3 ((C3 _ q.h).out)).mono ?_
       rintro e x ⟨rfl,q,rfl⟩
       go_wp2_with fail
       cases y4
       ·refine (aA3 ((C4 _ q.h).out)).mono ?_
        rintro e x ⟨rfl,q,rfl⟩
        go_wp2_with fail
        go_ret
        exact ⟨aA1 (HG.out (by rw [HP.out];simp)).symm,bb2 (bb2 HB1.out hBY) q.h⟩
       ·refine (aA3 ((C4 _ q.h).out)).mono ?_
        rintro e x ⟨rfl,q,rfl⟩
        go_wp2_with fail
        have HMH:Hid (Ob.mayPt x.pars[k]=true):=by
         unfold Hid
         rw [HP.out]
         simp
        have HT:Hid ((x.pars.take k).any (Ob.eqP x.pars[k])=false→∀ j,j<k+1→∀ (hj:j<x.pars.length),Ob.mayPt x.pars[j]=true∧(x.pars.take j).any (Ob.eqP x.pars[j])=false):=fun h=>aC9 hall.out (fun _=>⟨HMH.out,h⟩)
        clear HP HPORT HMH hall HG
        go_loopw [5] (fun i wr=>∃ m:Nat,m≤k∧i=.int .i64 m∧Hid ((x.pars.take m).any (Ob.eqP x.pars[k])=false)∧Below X.heap.size X wr∧wr.heap[wo.heap.size]?=some (.cells #[.string x.pars[k].space,.string x.pars[k].name,.string x.pars[k].sect,.int .i64 x.pars[k].port] 70)) (fun i _=>k - (intOf i).toNat)
        case atStart=>exact ⟨0,Nat.zero_le _,rfl,rfl,bb2 hBY q.h,aA2 HZ.out q.h⟩
        case round =>
         clear zq0 zq1 zq2 zq3 oq8 hBY q
         obtain ⟨m,hm,rfl,hany,hB,kz⟩:=hrel
         have hBw:=bb2 HB1.out hB
         have kb:wr.heap[w.heap.size]?=some (.cells #[.int .i64 x.ref.kind,.string x.ref.space,.string x.ref.name,.bool x.good,x.vl,x.vp,.string x.cls,x.vi,x.vq,x.vh,x.vr,x.vf,x.vo] 36):=aA2 HK0.out hB
         have o8:wr.cell? ⟨w.heap.size,8,none⟩=some (.slice x.aq x.pars.length x.cq):=aA0 kb (i:=8) rfl
         have oq8:∀ q:GB wr,q.W.cell? ⟨w.heap.size,8,none⟩=some (.slice x.aq x.pars.length x.cq):=fun q=>aA0 (aA2 kb q.h) (i:=8) rfl
         clear kb
         by_cases hmk:m<k
         ·have hmk':(m:Int)<(k:Int):=by omega
          have hml:m<x.pars.length:=by omega
          have hml':(m:Int)<(x.pars.length:Int):=by omega
          have hkl':(k:Int)<(x.pars.length:Int):=by omega
          obtain ⟨_,g,off,ha,hg,p0,p1,p2,p3⟩:=aDs HX.out.pars hBw hml
          rw [ha] at o8 oq8
          have HANY:Hid ((x.pars.take (m+1)).any (Ob.eqP x.pars[k])=Ob.eqP x.pars[m] x.pars[k]):=by
           unfold Hid
           rw [List.take_succ_eq_append_getElem hml,List.any_append,hany.out,Bool.false_or]
           simp only [List.any_cons,List.any_nil,Bool.or_false]
           exact aGe _ _
          have HANY2:Hid (Ob.eqP x.pars[m] x.pars[k]=true→rtV x=false):=fun h=>aTy hlt (by
           rw [List.any_eq_true]
           refine ⟨x.pars[m],List.mem_take_iff_getElem.2 ⟨m,by omega,rfl⟩,?_⟩
           rw [aGe]
           exact h)
          have EQ:∀ W,(Op.equalIn 10000 70 (ptV x.pars[m]) (ptV x.pars[k])).run Tryz.prog W=.ok (Ob.eqP x.pars[m] x.pars[k]) W:=fun W=>by
           rw [aIv]
           unfold Ob.eqP
           simp only [aB3]
          obtain ⟨z0,z1,z2,z3⟩:_∧_∧_∧_:=⟨aA0 kz (i:=0) rfl,aA0 kz (i:=1) rfl,aA0 kz (i:=2) rfl,aA0 kz (i:=3) rfl⟩
          clear ha hg hany
          generalize Ob.eqP x.pars[m] x.pars[k]=yq at *
          cases yq
          ·have HS:=hide (Below.refl wr.heap.size wr).drew
           have HZ2:=hide (aA2 kz HS.out)
           go_wp2_with fail
           go_region
           go_wp2_with fail
           exact ⟨⟨m+1,by omega,by go_num,HANY.out,bb2 hB (Below.refl _ _).drew,HZ2.out⟩,by simp [intOf];omega⟩
          ·go_wp2_with fail
           go_region
           go_wp2_with fail
           go_ret
           exact ⟨aA1 (HANY2.out (by simp)).symm,bb2 (bb2 HB1.out hB) (Below.refl _ _).drew⟩
         ·obtain rfl:m=k:=by omega
          have hmk':¬ (m:Int)<(m:Int):=by omega
          have HT2:=hide (HT.out hany.out)
          clear hany
          go_wp2_with fail
          exact ⟨⟨m+1,by omega,by go_num,HT2.out,hB⟩,by simp [intOf];omega⟩
  ·obtain rfl:k=x.pars.length:=by omega
   have hlt':¬ (x.pars.length:Int)<(x.pars.length:Int):=by omega
   have HALL1:=hide (show ∀ j (hj:j<x.pars.length),Ob.mayPt x.pars[j]=true∧(x.pars.take j).any (Ob.eqP x.pars[j])=false from fun j hj=>hall.out j hj hj)
   clear hall
   go_wp2_with fail
   clear o8 oq8 hlen hlt hlt' hk hBw
   go_loopw [6] (fun i wr=>∃ k:Nat,k≤x.hosts.length∧i=.int .i64 k∧Hid (∀ j,j<k→∀ (hj:j<x.hosts.length),Ob.mayHo x.hosts[j]=true∧(x.hosts.take j).any (Ob.eqS x.hosts[j])=false)∧Below X.heap.size X wr) (fun i _=>x.hosts.length - (intOf i).toNat)
   case atStart=>exact ⟨0,Nat.zero_le _,rfl,fun j hj=>absurd hj (by omega),hB⟩
   case round =>
    clear hB
    obtain ⟨k,hk,rfl,hall,hB⟩:=hrel
    obtain ⟨wo,rfl⟩:∃ z,z=wr:=⟨wr,rfl⟩
    have hBw:=bb2 HB1.out hB
    have HBX:=hide hB
    have hlen:=HX.out.hosts.len
    have kb:wo.heap[w.heap.size]?=some (.cells #[.int .i64 x.ref.kind,.string x.ref.space,.string x.ref.name,.bool x.good,x.vl,x.vp,.string x.cls,x.vi,x.vq,x.vh,x.vr,x.vf,x.vo] 36):=aA2 HK0.out hB
    have o9:wo.cell? ⟨w.heap.size,9,none⟩=some (.slice x.ah x.hosts.length x.ch):=aA0 kb (i:=9) rfl
    have oq9:∀ q:GB wo,q.W.cell? ⟨w.heap.size,9,none⟩=some (.slice x.ah x.hosts.length x.ch):=fun q=>aA0 (aA2 kb q.h) (i:=9) rfl
    clear kb
    by_cases hlt:k<x.hosts.length
    ·have hlt':(k:Int)<(x.hosts.length:Int):=by omega
     obtain ⟨_,g,off,ha,hg,hp0⟩:=oneS HX.out.hosts hBw hlt
     have p0:=hp0
     have p0q:=fun q:GB wo=>(q.h.cell (p:=⟨g,off+k,none⟩) (Nat.lt_of_lt_of_le hg hBw.size)).trans hp0
     rw [ha] at o9 oq9
     have ok1:=HOK.out.hosts _ (List.getElem_mem hlt)
     have HP:Hid (Ob.mayHo x.hosts[k]=(!x.hosts[k].toList.isEmpty&&may x.hosts[k].data.toList)):=by unfold Hid Ob.mayHo;rw [aBs]
     have HG:Hid (Ob.mayHo x.hosts[k]=false→rtV x=false):=fun h=>aY0 hlt h
     have C1:=fun W (h:Below wo.heap.size wo W)=>hide (aKa x.hosts[k] W ok1)
     clear ha hg ok1
     generalize may x.hosts[k].data.toList=y1 at *
     cases ht1:(x.hosts[k].toList.isEmpty)
     ·rw [ht1] at HP
      go_wp2_with fail
      cases y1
      ·refine (aA5 ((C1 _ (Below.refl _ _)).out)).mono ?_
       rintro e x ⟨rfl,q,rfl⟩
       go_wp2_with fail
       go_ret
       exact ⟨aA1 (HG.out (by rw [HP.out];simp)).symm,bb2 (bb2 HB1.out HBX.out) q.h⟩
      ·refine (aA5 ((C1 _ (Below.refl _ _)).out)).mono ?_
       rintro e x ⟨rfl,q,rfl⟩
       go_wp2_with fail
       have HMH:Hid (Ob.mayHo x.hosts[k]=true):=by
        unfold Hid
        rw [HP.out]
        simp
       have HT:Hid ((x.hosts.take k).any (Ob.eqS x.hosts[k])=false→∀ j,j<k+1→∀ (hj:j<x.hosts.length),Ob.mayHo x.hosts[j]=true∧(x.hosts.take j).any (Ob.eqS x.hosts[j])=false):=fun h=>aC9 hall.out (fun _=>⟨HMH.out,h⟩)
       clear HP HMH hall HG p0 p0q hp0
       go_loopw [7] (fun i wr=>∃ m:Nat,m≤k∧i=.int .i64 m∧Hid ((x.hosts.take m).any (Ob.eqS x.hosts[k])=false)∧Below X.heap.size X wr) (fun i _=>k - (intOf i).toNat)
       case atStart=>exact ⟨0,Nat.zero_le _,rfl,rfl,bb2 HBX.out q.h⟩
       case round =>
        clear o9 oq9 hB hBw ht1 q
        obtain ⟨m,hm,rfl,hany,hB⟩:=hrel
        have hBw:=bb2 HB1.out hB
        have kb:wr.heap[w.heap.size]?=some (.cells #[.int .i64 x.ref.kind,.string x.ref.space,.string x.ref.name,.bool x.good,x.vl,x.vp,.string x.cls,x.vi,x.vq,x.vh,x.vr,x.vf,x.vo] 36):=aA2 HK0.out hB
        have o9:wr.cell? ⟨w.heap.size,9,none⟩=some (.slice x.ah x.hosts.length x.ch):=aA0 kb (i:=9) rfl
        have oq9:∀ q:GB wr,q.W.cell? ⟨w.heap.size,9,none⟩=some (.slice x.ah x.hosts.length x.ch):=fun q=>aA0 (aA2 kb q.h) (i:=9) rfl
        clear kb
        by_cases hmk:m<k
        ·have hmk':(m:Int)<(k:Int):=by omega
         have hml:m<x.hosts.length:=by omega
         have hml':(m:Int)<(x.hosts.length:Int):=by omega
         have hkl':(k:Int)<(x.hosts.length:Int):=by omega
         obtain ⟨_,g,off,ha,hg,p0⟩:=oneS HX.out.hosts hBw hml
         obtain ⟨_,g2,off2,ha2,hg2,r0⟩:=oneS HX.out.hosts hBw hlt
         rw [ha] at ha2
         injection ha2 with ha2
         injection ha2 with e1 e2
         subst e1 e2
         rw [ha] at o9 oq9
         have HANY:Hid ((x.hosts.take (m+1)).any (Ob.eqS x.hosts[k])=Ob.eqS x.hosts[m] x.hosts[k]):=by
          unfold Hid
          rw [List.take_succ_eq_append_getElem hml,List.any_append,hany.out,Bool.false_or]
          simp only [List.any_cons,List.any_nil,Bool.or_false]
          exact aMf _ _
         have HANY2:Hid (Ob.eqS x.hosts[m] x.hosts[k]=true→rtV x=false):=fun h=>aY1 hlt (by
          rw [List.any_eq_true]
          refine ⟨x.hosts[m],List.mem_take_iff_getElem.2 ⟨m,by omega,rfl⟩,?_⟩
          rw [aMf]
          exact h)
         clear ha hg hg2 hany
         have HEQ:Hid (Ob.eqS x.hosts[m] x.hosts[k]=(x.hosts[m].toList == x.hosts[k].toList)):=rfl
         rw [HEQ.out] at HANY HANY2
         clear HEQ
         cases hq:(x.hosts[m].toList == x.hosts[k].toList)<;>rw [hq] at HANY HANY2
         ·have HS:=hide (Below.refl wr.heap.size wr).drew
          go_wp2_with fail
          go_region
          go_wp2_with fail
          exact ⟨⟨m+1,by omega,by go_num,HANY.out,bb2 hB (Below.refl _ _).drew⟩,by simp [intOf];omega⟩
         ·go_wp2_with fail
          go_region
          go_wp2_with fail
          go_ret
          exact ⟨aA1 (HANY2.out (by simp)).symm,bb2 (bb2 HB1.out hB) (Below.refl _ _).drew⟩
        ·obtain rfl:m=k:=by omega
         have hmk':¬ (m:Int)<(m:Int):=by omega
         have HT2:=hide (HT.out hany.out)
         clear hany
         go_wp2_with fail
         exact ⟨⟨m+1,by omega,by go_num,HT2.out,hB⟩,by simp [intOf];omega⟩
     ·rw [ht1] at HP
      go_wp2_with fail
      go_ret
      exact ⟨aA1 (HG.out (by rw [HP.out];simp)).symm,bb2 HB1.out HBX.out⟩
    ·obtain rfl:k=x.hosts.length:=by omega
     have hlt':¬ (x.hosts.length:Int)<(x.hosts.length:Int):=by omega
     have HALL2:=hide (show ∀ j (hj:j<x.hosts.length),Ob.mayHo x.hosts[j]=true∧(x.hosts.take j).any (Ob.eqS x.hosts[j])=false from fun j hj=>hall.out j hj hj)
     clear hall
     go_wp2_with fail
     clear o9 oq9 hlen hlt hlt' hk hBw HBX
     go_loopw [8] (fun i wr=>∃ k:Nat,k≤x.rules.length∧i=.int .i64 k∧Hid (∀ j,j<k→∀ (hj:j<x.rules.length),Ob.mayRl x.rules[j].b=true)∧Below X.heap.size X wr) (fun i _=>x.rules.length - (intOf i).toNat)
     case atStart=>exact ⟨0,Nat.zero_le _,rfl,fun j hj=>absurd hj (by omega),hB⟩
     case round =>
      clear hB
      obtain ⟨k,hk,rfl,hall,hB⟩:=hrel
      have hBw:=bb2 HB1.out hB
      have hlen:=HX.out.rules.len
      have hlenp:=HX.out.pars.len
      have hlenh:=HX.out.hosts.len
      have kb:wr.heap[w.heap.size]?=some (.cells #[.int .i64 x.ref.kind,.string x.ref.space,.string x.ref.name,.bool x.good,x.vl,x.vp,.string x.cls,x.vi,x.vq,x.vh,x.vr,x.vf,x.vo] 36):=aA2 HK0.out hB
      have o10:wr.cell? ⟨w.heap.size,10,none⟩=some (.slice x.ar x.rules.length x.cr):=aA0 kb (i:=10) rfl
      have oq10:∀ q:GB wr,q.W.cell? ⟨w.heap.size,10,none⟩=some (.slice x.ar x.rules.length x.cr):=fun q=>aA0 (aA2 kb q.h) (i:=10) rfl
      have o8:wr.cell? ⟨w.heap.size,8,none⟩=some (.slice x.aq x.pars.length x.cq):=aA0 kb (i:=8) rfl
      have oq8:∀ q:GB wr,q.W.cell? ⟨w.heap.size,8,none⟩=some (.slice x.aq x.pars.length x.cq):=fun q=>aA0 (aA2 kb q.h) (i:=8) rfl
      have o9:wr.cell? ⟨w.heap.size,9,none⟩=some (.slice x.ah x.hosts.length x.ch):=aA0 kb (i:=9) rfl
      have oq9:∀ q:GB wr,q.W.cell? ⟨w.heap.size,9,none⟩=some (.slice x.ah x.hosts.length x.ch):=fun q=>aA0 (aA2 kb q.h) (i:=9) rfl
      clear kb
      by_cases hlt:k<x.rules.length
      ·have hlt':(k:Int)<(x.rules.length:Int):=by omega
       obtain ⟨hE,g,off,ha,hg,p0,p1,p2⟩:=aG7 HX.out.rules hBw hlt
       rw [ha] at o10 oq10
       have ok1:=HOK.out.rules _ (List.getElem_mem hlt)
       have HT:Hid (Ob.mayRl x.rules[k].b=true→∀ j,j<k+1→∀ (hj:j<x.rules.length),Ob.mayRl x.rules[j].b=true):=fun h=>aC9 hall.out (fun _=>h)
       have HG:Hid (Ob.mayRl x.rules[k].b=false→rtV x=false):=fun h=>aY2 hlt h
       have hE2:x.rules[k].at_ wr:=hE
       have C1:=fun W (h:Below wr.heap.size wr W)=>hide (aRx x.rules[k] W (hE2.below h) ok1)
       clear hall ha hg hE hE2 ok1 o8 oq8 o9 oq9
       generalize Ob.mayRl x.rules[k].b=y1 at *
       generalize x.rules[k]=s at *
       obtain ⟨ms,am,cm,fs,af,cf,bs,ab,cb⟩:=s
       dsimp only [RlV.vm,RlV.vf,RlV.vb,rlV] at *
       go_wp2_with fail
       cases y1
       ·refine (aA5 ((C1 _ (Below.refl _ _)).out)).mono ?_
        rintro e x ⟨rfl,q,rfl⟩
        go_wp2_with fail
        go_ret
        exact ⟨aA1 (HG.out (by simp)).symm,bb2 (bb2 HB1.out hB) q.h⟩
       ·refine (aA5 ((C1 _ (Below.refl _ _)).out)).mono ?_
        rintro e x ⟨rfl,q,rfl⟩
        go_wp2_with fail
        exact ⟨⟨k+1,by omega,by go_num,HT.out (by simp),bb2 hB q.h⟩,by simp [intOf];omega⟩
      ·obtain rfl:k=x.rules.length:=by omega
       have hlt':¬ (x.rules.length:Int)<(x.rules.length:Int):=by omega
       have HF:Hid ((rtV x)=(decide ((x.pars.length:Int)≤4)&&(decide ((x.hosts.length:Int)≤4)&&(decide ((x.rules.length:Int)≤6))))):=by
        unfold Hid
        exact aW9 HALL1.out HALL2.out (fun j hj=>hall.out j hj hj)
       cases a1:decide ((x.pars.length:Int)≤4)
       ·rw [a1] at HF
        go_wp2_with fail
        go_ret
        exact ⟨aA1 (by rw [HF.out];try rfl),bb2 HB1.out hB⟩
       ·rw [a1] at HF
        cases a2:decide ((x.hosts.length:Int)≤4)
        ·rw [a2] at HF
         go_wp2_with fail
         go_ret
         exact ⟨aA1 (by rw [HF.out];try rfl),bb2 HB1.out hB⟩
        ·rw [a2] at HF
         cases a3:decide ((x.rules.length:Int)≤6)
         ·rw [a3] at HF
          go_wp2_with fail
          go_ret
          exact ⟨aA1 (by rw [HF.out];try rfl),bb2 HB1.out hB⟩
         ·rw [a3] at HF
          go_wp2_with fail
          go_ret
          exact ⟨aA1 (by rw [HF.out];try rfl),bb2 HB1.out hB⟩
end Go.Proofs.YthnodpdiocppgaaGreatDoor
