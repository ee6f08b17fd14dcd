/-
  Walks: the document's Same (of needs).
-/
import Derived.Test.YthnodpdiocppgaaGreatDoorJ10
import Derived.Test.YthnodpdiocppgaaGreatDoorJ12
import Derived.BigQuiet
import Derived.Test.YthnodpdiocppgaaGreatDoorJ5
import Derived.Test.YthnodpdiocppgaaGreatDoorJ2
import Derived.Deep.RegionHeld3
set_option maxHeartbeats 3200000
set_option maxRecDepth 20000
namespace Go.Proofs.YthnodpdiocppgaaGreatDoor
open Go Go.RowKit Go.Shelf
attribute [local go_sem] aAu
theorem aPc (va vb:Value) (A B:List NV) (w:World) (ha:Sl EN w va A) (hb:Sl EN w vb B) :
  Calls Tryz.prog 33 #[va,vb] w fun e w'=>e=.returned (.bool (La.sameL (nbs A) (nbs B)))∧Below w.heap.size w w':=by
 have hlen:=ha.len
 obtain ⟨a,ca,rfl⟩:=ha.form
 obtain ⟨b,cb,rfl⟩:=hb.form
 have HA:=hide (fun k (hk:k<A.length)=>aLl ha hk)
 have HB:=hide (fun k (hk:k<B.length)=>aLl hb hk)
 clear ha hb
 by_cases hne:A.length=B.length
 ·have hx:((A.length:Int) != (B.length:Int))=false:=by rw [bne_eq_false_iff_eq];omega
  have HN:=hide hne
  clear hne
  go_enter Tryz.func33,Tryz.ntmps33
  go_wp2_with fail
  go_loopw [5] (fun i wr=>∃ k:Nat,k≤A.length∧i=.int .i64 k∧Hid (La.sameL ((nbs A).take k) ((nbs B).take k)=true)∧Below w.heap.size w wr) (fun i _=>A.length - (intOf i).toNat)
  case atStart=>exact ⟨0,Nat.zero_le _,rfl,rfl,Below.refl _ _⟩
  case round =>
   obtain ⟨k,hk,rfl,hall,hB⟩:=hrel
   by_cases hlt:k<A.length
   ·have hlb:k<B.length:=by rw [←HN.out];exact hlt
    have hlt':(k:Int)<(A.length:Int):=by omega
    have hlb':(k:Int)<(B.length:Int):=by omega
    obtain ⟨g,off,rfl,hg,hA1,cA⟩:=HA.out k hlt
    obtain ⟨g2,off2,rfl,hg2,hA2,cB⟩:=HB.out k hlb
    have HT:Hid (La.sameN A[k].n B[k].n=true→La.sameL ((nbs A).take (k+1)) ((nbs B).take (k+1))=true):=fun h=>by
     have:=La.sameL_take (nbs A) (nbs B) k (by simpa using hlt) (by simpa using hlb)
     rw [this,hall.out]
     simpa using h
    have HG:Hid (La.sameN A[k].n B[k].n=false→La.sameL (nbs A) (nbs B)=false):=fun h =>
     La.sameL_not (nbs A) (nbs B) k (by simpa using hlt) (by simpa using hlb) (by simpa using h)
    have HS:=hide (fun W (h:Below wr.heap.size wr W)=>aIm W A[k].v B[k].v A[k].n.vals B[k].n.vals (hA1.below (bb2 hB h)) (hA2.below (bb2 hB h)))
    have p0:=fun W (h:Below wr.heap.size wr W)=>(cA W (bb2 hB h)).1
    have p1:=fun W (h:Below wr.heap.size wr W)=>(cA W (bb2 hB h)).2.1
    have p2:=fun W (h:Below wr.heap.size wr W)=>(cA W (bb2 hB h)).2.2
    have r0:=fun W (h:Below wr.heap.size wr W)=>(cB W (bb2 hB h)).1
    have r1:=fun W (h:Below wr.heap.size wr W)=>(cB W (bb2 hB h)).2.1
    have r2:=fun W (h:Below wr.heap.size wr W)=>(cB W (bb2 hB h)).2.2
    clear cA cB hA1 hA2 HA HB
    have HE:Hid (La.sameN A[k].n B[k].n=(decide (A[k].n.kind=B[k].n.kind)&&decide (A[k].n.name=B[k].n.name)&&decide (A[k].n.vals=B[k].n.vals))):=rfl
    generalize A[k]=x at *
    generalize B[k]=y at *
    obtain ⟨⟨kk,nm,vs⟩,xa,xc⟩:=x
    obtain ⟨⟨kk2,nm2,vs2⟩,ya,yc⟩:=y
    dsimp only at *
    by_cases h1:kk=kk2
    ·subst h1
     rw [decide_eq_true rfl] at HE
     cases h2:(nm.toList == nm2.toList)
     ·have h3:decide (nm=nm2)=false:=decide_eq_false (fun e=>by rw [e] at h2;simp at h2)
      rw [h3] at HE
      clear h3
      have p0q:=fun q:GB wr=>p0 q.W q.h
      have r0q:=fun q:GB wr=>r0 q.W q.h
      have p1q:=fun q:GB wr=>p1 q.W q.h
      have r1q:=fun q:GB wr=>r1 q.W q.h
      go_wp2_with fail
      refine aA6 (by kernel_rfl) (by kernel_rfl) ?_
      repeat (first | go_big_quiet_step (fail) | quiet_step (fail))
      refine wpQuiet_nil ?_
      intro _ hw'
      obtain ⟨qq,hw2⟩:=hw'
      subst hw2
      have hHeld:=qq.h
      go_wp2_with fail
      go_ret
      exact ⟨aA1 (HG.out (by rw [HE.out];rfl)).symm,bb2 hB hHeld⟩
     ·have h3:decide (nm=nm2)=true:=decide_eq_true (aCp h2)
      rw [h3] at HE
      clear h3
      cases h4:decide (vs=vs2)
      ·rw [h4] at HE HS
       clear h4
       have p0q:=fun q:GB wr=>p0 q.W q.h
       have r0q:=fun q:GB wr=>r0 q.W q.h
       have p1q:=fun q:GB wr=>p1 q.W q.h
       have r1q:=fun q:GB wr=>r1 q.W q.h
       have p2q:=fun q:GB wr=>p2 q.W q.h
       have r2q:=fun q:GB wr=>r2 q.W q.h
       go_wp2_with fail
       refine aA6 (by kernel_rfl) (by kernel_rfl) ?_
       repeat (first | go_big_quiet_step ((go_at_call 32;exact aA3 (HS.out _ (GB.h _)))) | quiet_step ((go_at_call 32;exact aA3 (HS.out _ (GB.h _)))))
       refine wpQuiet_nil ?_
       intro _ hw'
       obtain ⟨qq,hw2⟩:=hw'
       subst hw2
       have hHeld:=qq.h
       go_wp2_with fail
       go_ret
       exact ⟨aA1 (HG.out (by rw [HE.out];rfl)).symm,bb2 hB hHeld⟩
      ·rw [h4] at HE HS
       clear h4
       have p0q:=fun q:GB wr=>p0 q.W q.h
       have r0q:=fun q:GB wr=>r0 q.W q.h
       have p1q:=fun q:GB wr=>p1 q.W q.h
       have r1q:=fun q:GB wr=>r1 q.W q.h
       have p2q:=fun q:GB wr=>p2 q.W q.h
       have r2q:=fun q:GB wr=>r2 q.W q.h
       go_wp2_with fail
       refine aA6 (by kernel_rfl) (by kernel_rfl) ?_
       repeat (first | go_big_quiet_step ((go_at_call 32;exact aA3 (HS.out _ (GB.h _)))) | quiet_step ((go_at_call 32;exact aA3 (HS.out _ (GB.h _)))))
       refine wpQuiet_nil ?_
       intro _ hw'
       obtain ⟨qq,hw2⟩:=hw'
       subst hw2
       have hHeld:=qq.h
       go_wp2_with fail
       exact ⟨⟨k+1,by omega,by go_num,HT.out (by rw [HE.out];rfl),bb2 hB hHeld⟩,by simp [intOf];omega⟩
    ·have h1':(kk == kk2)=false:=by simpa using h1
     have h1'':(kk != kk2)=true:=by simpa using h1
     rw [decide_eq_false h1] at HE
     clear h1
     have p0q:=fun q:GB wr=>p0 q.W q.h
     have r0q:=fun q:GB wr=>r0 q.W q.h
     go_wp2_with fail
     refine aA6 (by kernel_rfl) (by kernel_rfl) ?_
     repeat (first | go_big_quiet_step (fail) | quiet_step (fail))
     refine wpQuiet_nil ?_
     intro _ hw'
     obtain ⟨qq,hw2⟩:=hw'
     subst hw2
     have hHeld:=qq.h
     go_wp2_with fail
     go_ret
     exact ⟨aA1 (HG.out (by rw [HE.out];rfl)).symm,bb2 hB hHeld⟩
   ·have hlt':¬ (k:Int)<(A.length:Int):=by omega
    have hq:=hide (aIn (a:=nbs A) (b:=nbs B) (k:=k) (by simp;omega) (by have:=HN.out;simp;omega) hall.out)
    go_wp2_with fail
    go_ret
    exact ⟨aA1 (by rw [hq.out]),hB⟩
 ·have hx:((A.length:Int) != (B.length:Int))=true:=by rw [bne_iff_ne];omega
  have hd:=hide (La.sameL_len (nbs A) (nbs B) (by simpa using hne))
  clear hne
  go_enter Tryz.func33,Tryz.ntmps33
  go_wp2_with fail
  go_ret
  exact ⟨aA1 hd.out.symm,Below.refl _ _⟩
end Go.Proofs.YthnodpdiocppgaaGreatDoor
namespace Go.Proofs.YthnodpdiocppgaaGreatDoor
open Go Go.RowKit Go.Shelf
theorem aE7 (s:ByteArray) (w:World) (hs:s.size≤maxLen) :
  Calls Tryz.prog 69 #[.string s] w fun e w'=>e=.returned (.bool (La.mayV s))∧w'=w:=by
 have hm:Hid (La.mayV s=((s.toList == [])||D.isLabel s.data.toList)):=rfl
 cases h:(s.toList == [])
 ·rw [h] at hm
  go_enter Tryz.func69,Tryz.ntmps69
  go_wp2_with fail
  refine (aD8 s w hs).mono ?_
  rintro e x ⟨rfl,rfl⟩
  go_wp2_with fail
  go_ret
  exact ⟨aA1 (by rw [hm.out];rfl),rfl⟩
 ·rw [h] at hm
  go_enter Tryz.func69,Tryz.ntmps69
  go_wp2_with fail
  go_ret
  exact ⟨aA1 (by rw [hm.out];rfl),rfl⟩
theorem aRn {k:Int} {nm:ByteArray} {vs:List ByteArray} (h:vs.all La.mayV=false):La.mayN ⟨k,nm,vs⟩=false:=by
 unfold La.mayN La.mayVs
 rw [h,Bool.and_false]
 have:decide (vs.length=0)=false:=decide_eq_false (fun e=>by
  have:=List.eq_nil_of_length_eq_zero e
  subst this
  simp at h)
 split
 ·rw [Bool.and_false]
 ·split
  ·rw [this,Bool.and_false]
  ·rw [Bool.and_false]
def oneB (k:Int) (nm:ByteArray) (n:Nat):Bool:=if k=1∨k=2 then (D.isName nm.data.toList&&decide ((1:Int)≤(n:Int)))&&decide ((n:Int)≤8) else if k=3∨k=4 then D.isName nm.data.toList&&((n:Int) == 0) else false
theorem aV9 {k:Int} {nm:ByteArray} {vs:List ByteArray} (h:vs.all La.mayV=true):La.mayN ⟨k,nm,vs⟩=oneB k nm vs.length:=by
 have e1:decide ((1:Int)≤(vs.length:Int))=decide (1≤vs.length):=by congr 1;simp;omega
 have e2:decide ((vs.length:Int)≤8)=decide (vs.length≤8):=by congr 1;simp;omega
 have e3:((vs.length:Int) == 0)=decide (vs.length=0):=by
  by_cases h:vs.length=0
  ·have h':((vs.length:Int) == 0)=true:=by simpa using h
   rw [h',decide_eq_true h]
  ·have h':((vs.length:Int) == 0)=false:=by simpa using h
   rw [h',decide_eq_false h]
 unfold La.mayN La.mayVs oneB La.isNm
 rw [h,Bool.and_true,e1,e2,e3]
 split
 ·rw [Bool.and_assoc]
 ·split
  ·rfl
  ·rw [Bool.and_false]
theorem aT8 (x:NV) (w:World) (hx:Sl ES w x.v x.n.vals) (hr:OkN x.n) :
  Calls Tryz.prog 94 #[nV x] w fun e w'=>e=.returned (.bool (La.mayN x.n))∧Below w.heap.size w w':=by
 obtain ⟨⟨kd,nm,vs⟩,a,c⟩:=x
 have hnm:=hr.name
 have HOK:=hide hr.raw.vals
 have hlen:=hr.len
 obtain ⟨a',cap',hv,_,_,hc⟩:=hx
 injection hv with e1 e2 e3
 subst e1 e3
 have HC:=hide hc
 clear hc hr e2
 dsimp only at *
 go_enter Tryz.func94,Tryz.ntmps94
 go_wp2_with fail
 go_loopw [3] (fun i wr=>∃ k:Nat,k≤vs.length∧i=.int .i64 k∧Hid ((vs.take k).all La.mayV=true)∧wr=w.alloc (.cells #[.int .i64 kd,.string nm,.slice a vs.length c] 105)) (fun i _=>vs.length - (intOf i).toNat)
 case atStart=>exact ⟨0,Nat.zero_le _,rfl,rfl,rfl⟩
 case round =>
  obtain ⟨k,hk,rfl,hall,rfl⟩:=hrel
  by_cases hlt:k<vs.length
  ·have hlt':(k:Int)<(vs.length:Int):=by omega
   obtain ⟨_,g,off,rfl,hg,c1⟩:=HC.out k hlt
   replace c1:=aEf c1
   rw [show off+k*ES.n=off+k from by show off+k*1=_;rw [Nat.mul_one]] at c1
   replace c1:=(((Below.refl w.heap.size w).alloc (Nat.le_refl _) (.cells #[.int .i64 kd,.string nm,.slice (some ⟨g,off,none⟩) vs.length c] 105)).cell (p:=⟨g,off+k,none⟩) hg).trans c1
   have o1:=HOK.out _ (List.getElem_mem hlt)
   have HT:=hide (fun h=>aF8 (p:=La.mayV) hlt hall.out h)
   have HG:=hide (fun h=>aF9 (p:=La.mayV) hlt h)
   have HM:=hide (fun h=>aRn (k:=kd) (nm:=nm) (vs:=vs) h)
   generalize vs[k]=s at *
   cases hq:La.mayV s
   ·have hq2:=hide (HM.out (HG.out hq))
    go_wp2_with fail
    refine (aE7 s _ o1).mono ?_
    rintro e x ⟨rfl,hx⟩
    subst x
    rw [hq]
    go_wp2_with fail
    go_ret
    exact ⟨aA1 (by rw [hq2.out]),(Below.refl _ _).alloc (Nat.le_refl _) _⟩
   ·have hq2:=hide (HT.out hq)
    go_wp2_with fail
    refine (aE7 s _ o1).mono ?_
    rintro e x ⟨rfl,hx⟩
    subst x
    rw [hq]
    go_wp2_with fail
    exact ⟨⟨k+1,by omega,by go_num,hq2.out,trivial⟩,by simp [intOf];omega⟩
  ·have hlt':¬ (k:Int)<(vs.length:Int):=by omega
   have HE:=hide (aV9 (k:=kd) (nm:=nm) (aG4 (p:=La.mayV) (by omega) hall.out))
   have HR:=hide (fun W=>aD3 nm W (by omega))
   clear HC HOK hall
   generalize vs.length=n at *
   have aAo:(n=0)∨(decide (1≤n)=true∧decide ((1:Int)≤(n:Int))=true∧decide (n≤8)=true∧decide ((n:Int)≤8)=true)∨(decide (1≤n)=true∧decide ((1:Int)≤(n:Int))=true∧decide (n≤8)=false∧decide ((n:Int)≤8)=false):=by
    rcases (show n=0∨(1≤n∧n≤8)∨8<n by omega) with h | h | h
    ·exact .inl h
    ·exact .inr (.inl ⟨decide_eq_true h.1,decide_eq_true (by omega),decide_eq_true h.2,decide_eq_true (by omega)⟩)
    ·exact .inr (.inr ⟨decide_eq_true (by omega),decide_eq_true (by omega),decide_eq_false (by omega),decide_eq_false (by omega)⟩)
   have PZ:((n:Int) == 0)=decide (n=0):=by
    by_cases h:n=0
    ·have h':((n:Int) == 0)=true:=by simpa using h
     rw [h',decide_eq_true h]
    ·have h':((n:Int) == 0)=false:=by simpa using h
     rw [h',decide_eq_false h]
   have PZ:=hide PZ
   clear hlen hlt hk
   rcases aLb kd with rfl | rfl | rfl | rfl | ⟨h1,h2,h3,h4⟩
   ·have hd:Hid (La.mayN ⟨1,nm,vs⟩=((D.isName nm.data.toList&&decide ((1:Int)≤(n:Int)))&&decide ((n:Int)≤8))):=HE.out
    clear HE PZ
    generalize D.isName nm.data.toList=r at *
    cases r
    ·clear aAo
     go_wp2_with fail
     refine (HR.out _).mono ?_
     rintro e w1 ⟨rfl,hb1⟩
     go_wp2_with fail
     go_ret
     exact ⟨aA1 (by rw [hd.out];rfl),aA8 hb1⟩
    ·rcases aAo with rfl | ⟨p1,p2,p3,p4⟩ | ⟨p1,p2,p3,p4⟩
     ·go_wp2_with fail
      refine (HR.out _).mono ?_
      rintro e w1 ⟨rfl,hb1⟩
      obtain ⟨c0,c1,c2⟩:=boxN hb1
      go_wp2_with fail
      go_ret
      exact ⟨aA1 (by rw [hd.out];rfl),aA8 hb1⟩
     ·rw [p2,p4] at hd
      go_wp2_with fail
      refine (HR.out _).mono ?_
      rintro e w1 ⟨rfl,hb1⟩
      obtain ⟨c0,c1,c2⟩:=boxN hb1
      go_wp2_with fail
      go_ret
      exact ⟨aA1 (by rw [hd.out];rfl),aA8 hb1⟩
     ·rw [p2,p4] at hd
      go_wp2_with fail
      refine (HR.out _).mono ?_
      rintro e w1 ⟨rfl,hb1⟩
      obtain ⟨c0,c1,c2⟩:=boxN hb1
      go_wp2_with fail
      go_ret
      exact ⟨aA1 (by rw [hd.out];rfl),aA8 hb1⟩
   ·have hd:Hid (La.mayN ⟨2,nm,vs⟩=((D.isName nm.data.toList&&decide ((1:Int)≤(n:Int)))&&decide ((n:Int)≤8))):=HE.out
    clear HE PZ
    generalize D.isName nm.data.toList=r at *
    cases r
    ·clear aAo
     go_wp2_with fail
     refine (HR.out _).mono ?_
     rintro e w1 ⟨rfl,hb1⟩
     go_wp2_with fail
     go_ret
     exact ⟨aA1 (by rw [hd.out];rfl),aA8 hb1⟩
    ·rcases aAo with rfl | ⟨p1,p2,p3,p4⟩ | ⟨p1,p2,p3,p4⟩
     ·go_wp2_with fail
      refine (HR.out _).mono ?_
      rintro e w1 ⟨rfl,hb1⟩
      obtain ⟨c0,c1,c2⟩:=boxN hb1
      go_wp2_with fail
      go_ret
      exact ⟨aA1 (by rw [hd.out];rfl),aA8 hb1⟩
     ·rw [p2,p4] at hd
      go_wp2_with fail
      refine (HR.out _).mono ?_
      rintro e w1 ⟨rfl,hb1⟩
      obtain ⟨c0,c1,c2⟩:=boxN hb1
      go_wp2_with fail
      go_ret
      exact ⟨aA1 (by rw [hd.out];rfl),aA8 hb1⟩
     ·rw [p2,p4] at hd
      go_wp2_with fail
      refine (HR.out _).mono ?_
      rintro e w1 ⟨rfl,hb1⟩
      obtain ⟨c0,c1,c2⟩:=boxN hb1
      go_wp2_with fail
      go_ret
      exact ⟨aA1 (by rw [hd.out];rfl),aA8 hb1⟩
   ·have hd:Hid (La.mayN ⟨3,nm,vs⟩=(D.isName nm.data.toList&&((n:Int) == 0))):=HE.out
    clear HE aAo
    generalize D.isName nm.data.toList=r at *
    cases r
    ·clear PZ
     go_wp2_with fail
     refine (HR.out _).mono ?_
     rintro e w1 ⟨rfl,hb1⟩
     go_wp2_with fail
     go_ret
     exact ⟨aA1 (by rw [hd.out];rfl),aA8 hb1⟩
    ·by_cases hn:n=0
     ·subst hn
      go_wp2_with fail
      refine (HR.out _).mono ?_
      rintro e w1 ⟨rfl,hb1⟩
      obtain ⟨c0,c1,c2⟩:=boxN hb1
      go_wp2_with fail
      go_ret
      exact ⟨aA1 (by rw [hd.out];rfl),aA8 hb1⟩
     ·have hz:((n:Int) == 0)=false:=by rw [PZ.out,decide_eq_false hn]
      rw [hz] at hd
      go_wp2_with fail
      refine (HR.out _).mono ?_
      rintro e w1 ⟨rfl,hb1⟩
      obtain ⟨c0,c1,c2⟩:=boxN hb1
      go_wp2_with fail
      go_ret
      exact ⟨aA1 (by rw [hd.out];rfl),aA8 hb1⟩
   ·have hd:Hid (La.mayN ⟨4,nm,vs⟩=(D.isName nm.data.toList&&((n:Int) == 0))):=HE.out
    clear HE aAo
    generalize D.isName nm.data.toList=r at *
    cases r
    ·clear PZ
     go_wp2_with fail
     refine (HR.out _).mono ?_
     rintro e w1 ⟨rfl,hb1⟩
     go_wp2_with fail
     go_ret
     exact ⟨aA1 (by rw [hd.out];rfl),aA8 hb1⟩
    ·by_cases hn:n=0
     ·subst hn
      go_wp2_with fail
      refine (HR.out _).mono ?_
      rintro e w1 ⟨rfl,hb1⟩
      obtain ⟨c0,c1,c2⟩:=boxN hb1
      go_wp2_with fail
      go_ret
      exact ⟨aA1 (by rw [hd.out];rfl),aA8 hb1⟩
     ·have hz:((n:Int) == 0)=false:=by rw [PZ.out,decide_eq_false hn]
      rw [hz] at hd
      go_wp2_with fail
      refine (HR.out _).mono ?_
      rintro e w1 ⟨rfl,hb1⟩
      obtain ⟨c0,c1,c2⟩:=boxN hb1
      go_wp2_with fail
      go_ret
      exact ⟨aA1 (by rw [hd.out];rfl),aA8 hb1⟩
   ·have hd:Hid (La.mayN ⟨kd,nm,vs⟩=false):=by
     unfold Hid
     rw [HE.out]
     simp at h1 h2 h3 h4
     simp [oneB,h1,h2,h3,h4]
    clear HE aAo PZ
    go_wp2_with fail
    go_ret
    exact ⟨aA1 hd.out.symm,(Below.refl _ _).alloc (Nat.le_refl _) _⟩
end Go.Proofs.YthnodpdiocppgaaGreatDoor
namespace Go.Proofs.YthnodpdiocppgaaGreatDoor
open Go Go.RowKit Go.Shelf
attribute [local go_sem] aAu
theorem aJ0 {P:Program} {f:FuncId} {args:Array Value} {w:World} {v:Value} (h:Calls P f args w fun e w'=>e=.returned v∧w'=w):Calls P f args w fun e w'=>e=.returned v∧Below w.heap.size w w' :=
 h.mono fun _ _ ⟨he,hw⟩=>⟨he,by rw [hw];exact Below.refl _ _⟩
theorem aRo (v:Value) (l:List aAa) (w:World) (hv:Prs w v l) (hok:∀ p∈l,okB p) :
  Calls Tryz.prog 46 #[v] w fun e w'=>e=.returned (.bool (La.mayL l))∧Below w.heap.size w w':=by
 have hlen:=hv.len
 obtain ⟨a,cap,rfl,_,_,hc⟩:=hv
 have HC:=hide hc
 have HOK:=hide hok
 clear hc hok
 go_enter Tryz.func46,Tryz.ntmps46
 go_wp2_with fail
 go_loopw [3] (fun i wr=>∃ k:Nat,k≤l.length∧i=.int .i64 k∧Hid (La.okTo l k=true)∧Below w.heap.size w wr) (fun i _=>l.length - (intOf i).toNat)
 case atStart=>exact ⟨0,Nat.zero_le _,rfl,rfl,Below.refl _ _⟩
 case round =>
  obtain ⟨k,hk,rfl,hall,hB⟩:=hrel
  by_cases hlt:k<l.length
  ·have hlt':(k:Int)<(l.length:Int):=by omega
   obtain ⟨o1,o2⟩:=HOK.out _ (List.getElem_mem hlt)
   replace o1:l[k].1.size≤1000:=by omega
   replace o2:l[k].2.size≤maxLen:=by unfold maxLen;omega
   have HY:=hide (fun h=>La.okTo_succ (k:=k) hall.out h)
   have HN:=hide (fun h=>La.mayL_not hlt h)
   by_cases h0:k=0
   ·subst h0
    obtain ⟨g,off,rfl,hg,c1,c2⟩:=HC.out 0 hlt
    rw [Nat.zero_mul,Nat.add_zero] at c1 c2
    have c1':=fun W (hW:Below wr.heap.size wr W)=>((bb2 hB hW).cell (p:=⟨g,off,none⟩) hg).trans c1
    have c2':=fun W (hW:Below wr.heap.size wr W)=>((bb2 hB hW).cell (p:=⟨g,off+1,none⟩) hg).trans c2
    have HE:=hide (La.okAt_first hlt)
    clear c1 c2 HC HOK
    generalize l[0].1=p1 at *
    generalize l[0].2=p2 at *
    generalize La.okAt l 0=r at *
    have E1:La.isNm p1=D.isName p1.data.toList:=rfl
    rw [E1] at HE
    have HR:=hide (fun W=>aD3 p1 W o1)
    have HV:=hide (fun W=>aJ0 (aE7 p2 W o2))
    clear o1 o2 E1
    generalize D.isName p1.data.toList=r1 at *
    generalize La.mayV p2=r2 at *
    cases r1
    ·have c1zq:=fun q:GB wr=>c1' q.W q.h
     go_wp2_with fail
     refine aA6 (by kernel_rfl) (by kernel_rfl) ?_
     repeat (first | go_big_quiet_step ((go_at_call 67;exact aA3 (HR.out _))) | quiet_step ((go_at_call 67;exact aA3 (HR.out _))))
     refine wpQuiet_nil ?_
     intro _ hw'
     obtain ⟨qq,hw2⟩:=hw'
     subst hw2
     have hHeld:=qq.h
     go_wp2_with fail
     go_ret
     exact ⟨aA1 (HN.out (by rw [HE.out];rfl)).symm,bb2 hB hHeld⟩
    ·cases r2
     ·have c1zq:=fun q:GB wr=>c1' q.W q.h
      have c2zq:=fun q:GB wr=>c2' q.W q.h
      go_wp2_with fail
      refine aA6 (by kernel_rfl) (by kernel_rfl) ?_
      repeat (first | go_big_quiet_step ((first | (go_at_call 67;exact aA3 (HR.out _)) | (go_at_call 69;exact aA3 (HV.out _)))) | quiet_step ((first | (go_at_call 67;exact aA3 (HR.out _)) | (go_at_call 69;exact aA3 (HV.out _)))))
      refine wpQuiet_nil ?_
      intro _ hw'
      obtain ⟨qq,hw2⟩:=hw'
      subst hw2
      have hHeld:=qq.h
      go_wp2_with fail
      go_ret
      exact ⟨aA1 (HN.out (by rw [HE.out];rfl)).symm,bb2 hB hHeld⟩
     ·have c1zq:=fun q:GB wr=>c1' q.W q.h
      have c2zq:=fun q:GB wr=>c2' q.W q.h
      go_wp2_with fail
      refine aA6 (by kernel_rfl) (by kernel_rfl) ?_
      repeat (first | go_big_quiet_step ((first | (go_at_call 67;exact aA3 (HR.out _)) | (go_at_call 69;exact aA3 (HV.out _)))) | quiet_step ((first | (go_at_call 67;exact aA3 (HR.out _)) | (go_at_call 69;exact aA3 (HV.out _)))))
      refine wpQuiet_nil ?_
      intro _ hw'
      obtain ⟨qq,hw2⟩:=hw'
      subst hw2
      have hHeld:=qq.h
      go_wp2_with fail
      exact ⟨⟨1,by omega,by go_num,HY.out (by rw [HE.out];rfl),bb2 hB hHeld⟩,by simp [intOf];omega⟩
   ·have h0':decide (0<k)=true:=decide_eq_true (by omega)
    obtain ⟨g,off,rfl,hg,c1,c2⟩:=HC.out k hlt
    obtain ⟨g',off',hgg,hg',c3,c4⟩:=HC.out (k - 1) (by omega)
    clear c4
    injection hgg with hgg
    injection hgg with e1 e2
    subst e1 e2
    have c1':=fun W (hW:Below wr.heap.size wr W)=>((bb2 hB hW).cell (p:=⟨g,off+k*2,none⟩) hg).trans c1
    have c2':=fun W (hW:Below wr.heap.size wr W)=>((bb2 hB hW).cell (p:=⟨g,off+k*2+1,none⟩) hg).trans c2
    have c3':=fun W (hW:Below wr.heap.size wr W)=>((bb2 hB hW).cell (p:=⟨g,off+(k - 1)*2,none⟩) hg).trans c3
    have HE:=hide (La.okAt_next hlt h0)
    have HT:=hide (La.less_total l[k - 1].1.toList l[k].1.toList)
    have hwr:IntKind.i64.wrap ((k:Int) - 1)=((k - 1:Nat):Int):=by rw [IntKind.wrap_i64];omega
    have hk2:((k - 1:Nat):Int)<(l.length:Int):=by omega
    clear c1 c2 c3 HC HOK
    unfold La.lessB at HE
    generalize l[k].1=p1 at *
    generalize l[k].2=p2 at *
    generalize l[k - 1].1=p0 at *
    generalize k - 1=j at *
    generalize La.okAt l k=r at *
    have E1:La.isNm p1=D.isName p1.data.toList:=rfl
    rw [E1] at HE
    have HR:=hide (fun W=>aD3 p1 W o1)
    have HV:=hide (fun W=>aJ0 (aE7 p2 W o2))
    clear o1 o2 E1
    generalize D.isName p1.data.toList=r1 at *
    generalize La.mayV p2=r2 at *
    generalize hl3:Op.bytesLess p0.toList p1.toList=r3 at *
    generalize hl4:Op.bytesLess p1.toList p0.toList=r4 at *
    generalize hl5:(p1.toList == p0.toList)=r5 at *
    cases r1
    ·clear hl3 hl4 hl5 HT
     have c1zq:=fun q:GB wr=>c1' q.W q.h
     go_wp2_with fail
     refine aA6 (by kernel_rfl) (by kernel_rfl) ?_
     repeat (first | go_big_quiet_step ((go_at_call 67;exact aA3 (HR.out _))) | quiet_step ((go_at_call 67;exact aA3 (HR.out _))))
     refine wpQuiet_nil ?_
     intro _ hw'
     obtain ⟨qq,hw2⟩:=hw'
     subst hw2
     have hHeld:=qq.h
     go_wp2_with fail
     go_ret
     exact ⟨aA1 (HN.out (by rw [HE.out];rfl)).symm,bb2 hB hHeld⟩
    ·cases r2
     ·clear hl3 hl4 hl5 HT
      have c1zq:=fun q:GB wr=>c1' q.W q.h
      have c2zq:=fun q:GB wr=>c2' q.W q.h
      go_wp2_with fail
      refine aA6 (by kernel_rfl) (by kernel_rfl) ?_
      repeat (first | go_big_quiet_step ((first | (go_at_call 67;exact aA3 (HR.out _)) | (go_at_call 69;exact aA3 (HV.out _)))) | quiet_step ((first | (go_at_call 67;exact aA3 (HR.out _)) | (go_at_call 69;exact aA3 (HV.out _)))))
      refine wpQuiet_nil ?_
      intro _ hw'
      obtain ⟨qq,hw2⟩:=hw'
      subst hw2
      have hHeld:=qq.h
      go_wp2_with fail
      go_ret
      exact ⟨aA1 (HN.out (by rw [HE.out];rfl)).symm,bb2 hB hHeld⟩
     ·cases r3
      ·cases r4
       ·cases r5
        ·exact absurd HT.out (by decide)
        ·clear HT
         have c1zq:=fun q:GB wr=>c1' q.W q.h
         have c2zq:=fun q:GB wr=>c2' q.W q.h
         have c3zq:=fun q:GB wr=>c3' q.W q.h
         go_wp2_with fail
         refine aA6 (by kernel_rfl) (by kernel_rfl) ?_
         repeat (first | go_big_quiet_step ((first | (go_at_call 67;exact aA3 (HR.out _)) | (go_at_call 69;exact aA3 (HV.out _)))) | quiet_step ((first | (go_at_call 67;exact aA3 (HR.out _)) | (go_at_call 69;exact aA3 (HV.out _)))))
         refine wpQuiet_nil ?_
         intro _ hw'
         obtain ⟨qq,hw2⟩:=hw'
         subst hw2
         have hHeld:=qq.h
         go_wp2_with fail
         go_ret
         exact ⟨aA1 (HN.out (by rw [HE.out];rfl)).symm,bb2 hB hHeld⟩
       ·cases r5
        ·clear HT
         have c1zq:=fun q:GB wr=>c1' q.W q.h
         have c2zq:=fun q:GB wr=>c2' q.W q.h
         have c3zq:=fun q:GB wr=>c3' q.W q.h
         go_wp2_with fail
         refine aA6 (by kernel_rfl) (by kernel_rfl) ?_
         repeat (first | go_big_quiet_step ((first | (go_at_call 67;exact aA3 (HR.out _)) | (go_at_call 69;exact aA3 (HV.out _)))) | quiet_step ((first | (go_at_call 67;exact aA3 (HR.out _)) | (go_at_call 69;exact aA3 (HV.out _)))))
         refine wpQuiet_nil ?_
         intro _ hw'
         obtain ⟨qq,hw2⟩:=hw'
         subst hw2
         have hHeld:=qq.h
         go_wp2_with fail
         go_ret
         exact ⟨aA1 (HN.out (by rw [HE.out];rfl)).symm,bb2 hB hHeld⟩
        ·clear HT
         have c1zq:=fun q:GB wr=>c1' q.W q.h
         have c2zq:=fun q:GB wr=>c2' q.W q.h
         have c3zq:=fun q:GB wr=>c3' q.W q.h
         go_wp2_with fail
         refine aA6 (by kernel_rfl) (by kernel_rfl) ?_
         repeat (first | go_big_quiet_step ((first | (go_at_call 67;exact aA3 (HR.out _)) | (go_at_call 69;exact aA3 (HV.out _)))) | quiet_step ((first | (go_at_call 67;exact aA3 (HR.out _)) | (go_at_call 69;exact aA3 (HV.out _)))))
         refine wpQuiet_nil ?_
         intro _ hw'
         obtain ⟨qq,hw2⟩:=hw'
         subst hw2
         have hHeld:=qq.h
         go_wp2_with fail
         go_ret
         exact ⟨aA1 (HN.out (by rw [HE.out];rfl)).symm,bb2 hB hHeld⟩
      ·cases r4
       ·cases r5
        ·clear HT
         have c1zq:=fun q:GB wr=>c1' q.W q.h
         have c2zq:=fun q:GB wr=>c2' q.W q.h
         have c3zq:=fun q:GB wr=>c3' q.W q.h
         go_wp2_with fail
         refine aA6 (by kernel_rfl) (by kernel_rfl) ?_
         repeat (first | go_big_quiet_step ((first | (go_at_call 67;exact aA3 (HR.out _)) | (go_at_call 69;exact aA3 (HV.out _)))) | quiet_step ((first | (go_at_call 67;exact aA3 (HR.out _)) | (go_at_call 69;exact aA3 (HV.out _)))))
         refine wpQuiet_nil ?_
         intro _ hw'
         obtain ⟨qq,hw2⟩:=hw'
         subst hw2
         have hHeld:=qq.h
         go_wp2_with fail
         exact ⟨⟨k+1,by omega,by go_num,HY.out (by rw [HE.out];rfl),bb2 hB hHeld⟩,by simp [intOf];omega⟩
        ·exact absurd HT.out (by decide)
       ·exact absurd HT.out (by cases r5<;>decide)
  ·have hlt':¬ (k:Int)<(l.length:Int):=by omega
   have hkl:k=l.length:=by omega
   have HE:Hid (La.mayL l=decide (l.length≤8)):=by
    unfold Hid La.mayL
    rw [←hkl,hall.out,Bool.and_true]
   by_cases h8:l.length≤8
   ·have p1:decide (l.length≤8)=true:=decide_eq_true h8
    have p2:decide ((l.length:Int)≤8)=true:=decide_eq_true (by omega)
    rw [p1] at HE
    clear hkl
    go_wp2_with fail
    go_ret
    exact ⟨aA1 HE.out.symm,hB⟩
   ·have p1:decide (l.length≤8)=false:=decide_eq_false h8
    have p2:decide ((l.length:Int)≤8)=false:=decide_eq_false (by omega)
    rw [p1] at HE
    clear hkl
    go_wp2_with fail
    go_ret
    exact ⟨aA1 HE.out.symm,hB⟩
theorem aNa (v:Value) (L:List NV) (w:World) (hv:Sl EN w v L) (hok:∀ x∈L,OkN x.n) :
  Calls Tryz.prog 71 #[v] w fun e w'=>e=.returned (.bool (La.needs (nbs L)))∧Below w.heap.size w w':=by
 have hlen:=hv.len
 obtain ⟨a,cap,rfl⟩:=hv.form
 have HC:=hide (fun W (hB:Below w.heap.size w W) k (hk:k<L.length)=>aIk hv hB hk)
 have HOK:=hide hok
 have HE:=hide (aLc L)
 clear hv hok
 go_enter Tryz.func71,Tryz.ntmps71
 go_wp2_with fail
 go_loopw [3] (fun i wr=>∃ k:Nat,k≤L.length∧i=.int .i64 k∧Hid ((L.take k).all (fun x=>La.mayN x.n)=true)∧Below w.heap.size w wr) (fun i _=>L.length - (intOf i).toNat)
 case atStart=>exact ⟨0,Nat.zero_le _,rfl,rfl,Below.refl _ _⟩
 case round =>
  obtain ⟨k,hk,rfl,hall,hB⟩:=hrel
  by_cases hlt:k<L.length
  ·have hlt':(k:Int)<(L.length:Int):=by omega
   obtain ⟨hA,g,off,rfl,hg,c0,c1,c2⟩:=HC.out _ hB k hlt
   have o1:=HOK.out _ (List.getElem_mem hlt)
   have HT:=hide (fun h=>aF8 (p:=fun x:NV=>La.mayN x.n) hlt hall.out h)
   have HG:=hide (fun h=>aF9 (p:=fun x:NV=>La.mayN x.n) hlt h)
   generalize L[k]=x at *
   have HM:=hide (aT8 x wr hA o1)
   clear o1 hA
   obtain ⟨⟨kk,nm,vs⟩,xa,xc⟩:=x
   dsimp only at *
   cases hq:La.mayN ⟨kk,nm,vs⟩
   ·have hq2:=hide (HG.out hq)
    rw [hq] at HM
    go_wp2_with fail
    refine (HM.out).mono ?_
    rintro e w1 ⟨rfl,hb1⟩
    go_wp2_with fail
    go_ret
    exact ⟨aA1 (by rw [HE.out,hq2.out,Bool.and_false]),bb2 hB hb1⟩
   ·have hq2:=hide (HT.out hq)
    rw [hq] at HM
    go_wp2_with fail
    refine (HM.out).mono ?_
    rintro e w1 ⟨rfl,hb1⟩
    go_wp2_with fail
    exact ⟨⟨k+1,by omega,by go_num,hq2.out,bb2 hB hb1⟩,by simp [intOf];omega⟩
  ·have hlt':¬ (k:Int)<(L.length:Int):=by omega
   have hq:=hide (aG4 (p:=fun x:NV=>La.mayN x.n) (by omega) hall.out)
   by_cases h8:L.length≤8
   ·have p1:decide (L.length≤8)=true:=decide_eq_true h8
    have p2:decide ((L.length:Int)≤8)=true:=decide_eq_true (by omega)
    rw [hq.out,p1] at HE
    go_wp2_with fail
    go_ret
    exact ⟨aA1 HE.out.symm,hB⟩
   ·have p1:decide (L.length≤8)=false:=decide_eq_false h8
    have p2:decide ((L.length:Int)≤8)=false:=decide_eq_false (by omega)
    rw [hq.out,p1] at HE
    go_wp2_with fail
    go_ret
    exact ⟨aA1 HE.out.symm,hB⟩
end Go.Proofs.YthnodpdiocppgaaGreatDoor
