/-
  Walks: the document's kind, port, near, grant.
-/
import Derived.Test.YthnodpdiocppgaaGreatDoorJ15
import Derived.Test.YthnodpdiocppgaaGreatDoorJ5
import Derived.Test.YthnodpdiocppgaaGreatDoorJ13
import Derived.Test.YthnodpdiocppgaaGreatDoorJ22
import Derived.BigQuiet
import Derived.Test.YthnodpdiocppgaaGreatDoorJ2
import Derived.Test.YthnodpdiocppgaaGreatDoorJ20
set_option maxHeartbeats 6400000
set_option linter.unusedVariables false
set_option maxRecDepth 20000
namespace Go.Proofs.YthnodpdiocppgaaGreatDoor
open Go Go.RowKit Go.Shelf
attribute [local go_sem] aAu
theorem aGw (n:Int) (w:World):Calls Tryz.prog 74 #[.int .i64 n] w fun e w'=>e=.returned (.bool (Ob.isKind n))∧Below w.heap.size w w':=by
 have HE:Hid (Ob.isKind n=(decide (1≤n)&&decide (n≤7))):=by unfold Hid Ob.isKind;rw [Bool.decide_and]
 generalize Ob.isKind n=z at *
 by_cases h1:1≤n
 ·rw [decide_eq_true h1] at HE
  by_cases h2:n≤7
  ·rw [decide_eq_true h2] at HE
   go_enter Tryz.func74,Tryz.ntmps74
   go_wp2_with fail
   go_ret
   exact ⟨aA1 HE.out.symm,Below.refl _ _⟩
  ·rw [decide_eq_false h2] at HE
   go_enter Tryz.func74,Tryz.ntmps74
   go_wp2_with fail
   go_ret
   exact ⟨aA1 HE.out.symm,Below.refl _ _⟩
 ·rw [decide_eq_false h1] at HE
  go_enter Tryz.func74,Tryz.ntmps74
  go_wp2_with fail
  go_ret
  exact ⟨aA1 HE.out.symm,Below.refl _ _⟩
theorem aE8 (n:Int) (w:World):Calls Tryz.prog 47 #[.int .i64 n] w fun e w'=>e=.returned (.bool (Ob.isPort n))∧Below w.heap.size w w':=by
 have HE:Hid (Ob.isPort n=(decide (1≤n)&&decide (n≤65535))):=by unfold Hid Ob.isPort;rw [Bool.decide_and]
 generalize Ob.isPort n=z at *
 by_cases h1:1≤n
 ·rw [decide_eq_true h1] at HE
  by_cases h2:n≤65535
  ·rw [decide_eq_true h2] at HE
   go_enter Tryz.func47,Tryz.ntmps47
   go_wp2_with fail
   go_ret
   exact ⟨aA1 HE.out.symm,Below.refl _ _⟩
  ·rw [decide_eq_false h2] at HE
   go_enter Tryz.func47,Tryz.ntmps47
   go_wp2_with fail
   go_ret
   exact ⟨aA1 HE.out.symm,Below.refl _ _⟩
 ·rw [decide_eq_false h1] at HE
  go_enter Tryz.func47,Tryz.ntmps47
  go_wp2_with fail
  go_ret
  exact ⟨aA1 HE.out.symm,Below.refl _ _⟩
theorem aI1 (s:ByteArray) (w:World) (hs:s.size≤maxLen) :
  Calls Tryz.prog 68 #[.string s] w fun e w'=>e=.returned (.bool (Ob.isL s))∧Below w.heap.size w w' :=
 (aD8 s w hs).mono fun _ _ h=>⟨h.1,by rw [h.2];exact Below.refl _ _⟩
theorem aEr (s:ByteArray) (w:World) (hs:s.size≤100) :
  Calls Tryz.prog 67 #[.string s] w fun e w'=>e=.returned (.bool (Ob.isN s))∧Below w.heap.size w w':=aD3 s w (by omega)
theorem aDl (s:ByteArray) (w:World) (hs:s.size≤100):Calls Tryz.prog 72 #[.string s] w fun e w'=>e=.returned (.bool (Ob.isSpace s))∧Below w.heap.size w w':=by
 have HE:Hid (Ob.isSpace s=(s.toList.isEmpty||Ob.isL s)):=by unfold Hid Ob.isSpace;rw [aBs]
 have C1:=hide (aI1 s w (sm hs))
 generalize Ob.isSpace s=z at *
 generalize Ob.isL s=y at *
 cases h1:s.toList.isEmpty
 ·rw [h1] at HE
  go_enter Tryz.func72,Tryz.ntmps72
  go_wp2_with fail
  refine (C1.out).mono ?_
  rintro e w1 ⟨rfl,hb1⟩
  go_wp2_with fail
  go_ret
  exact ⟨aA1 HE.out.symm,hb1⟩
 ·rw [h1] at HE
  go_enter Tryz.func72,Tryz.ntmps72
  go_wp2_with fail
  go_ret
  exact ⟨aA1 HE.out.symm,Below.refl _ _⟩
theorem w13 {W:World} {g t:Nat} {c0 c1 c2 c3 c4 c5 c6 c7 c8 c9 c10 c11 c12:Value} (h:W.heap[g]?=some (.cells #[c0,c1,c2,c3,c4,c5,c6,c7,c8,c9,c10,c11,c12] t)) :
  W.cell? ⟨g,0,none⟩=some c0∧W.cell? ⟨g,1,none⟩=some c1∧W.cell? ⟨g,2,none⟩=some c2∧W.cell? ⟨g,3,none⟩=some c3∧W.cell? ⟨g,4,none⟩=some c4∧W.cell? ⟨g,5,none⟩=some c5∧W.cell? ⟨g,6,none⟩=some c6∧W.cell? ⟨g,7,none⟩=some c7∧W.cell? ⟨g,8,none⟩=some c8∧W.cell? ⟨g,9,none⟩=some c9∧W.cell? ⟨g,10,none⟩=some c10∧W.cell? ⟨g,11,none⟩=some c11∧W.cell? ⟨g,12,none⟩=some c12:=⟨aA0 h (i:=0) rfl,aA0 h (i:=1) rfl,aA0 h (i:=2) rfl,aA0 h (i:=3) rfl,aA0 h (i:=4) rfl,aA0 h (i:=5) rfl,aA0 h (i:=6) rfl,aA0 h (i:=7) rfl,aA0 h (i:=8) rfl,aA0 h (i:=9) rfl,aA0 h (i:=10) rfl,aA0 h (i:=11) rfl,aA0 h (i:=12) rfl⟩
theorem q13 {X:World} {g t:Nat} {c0 c1 c2 c3 c4 c5 c6 c7 c8 c9 c10 c11 c12:Value} (h:X.heap[g]?=some (.cells #[c0,c1,c2,c3,c4,c5,c6,c7,c8,c9,c10,c11,c12] t)) :
  (∀ q:GB X,q.W.cell? ⟨g,0,none⟩=some c0)∧(∀ q:GB X,q.W.cell? ⟨g,1,none⟩=some c1)∧(∀ q:GB X,q.W.cell? ⟨g,2,none⟩=some c2)∧(∀ q:GB X,q.W.cell? ⟨g,3,none⟩=some c3)∧(∀ q:GB X,q.W.cell? ⟨g,4,none⟩=some c4)∧(∀ q:GB X,q.W.cell? ⟨g,5,none⟩=some c5)∧(∀ q:GB X,q.W.cell? ⟨g,6,none⟩=some c6)∧(∀ q:GB X,q.W.cell? ⟨g,7,none⟩=some c7)∧(∀ q:GB X,q.W.cell? ⟨g,8,none⟩=some c8)∧(∀ q:GB X,q.W.cell? ⟨g,9,none⟩=some c9)∧(∀ q:GB X,q.W.cell? ⟨g,10,none⟩=some c10)∧(∀ q:GB X,q.W.cell? ⟨g,11,none⟩=some c11)∧(∀ q:GB X,q.W.cell? ⟨g,12,none⟩=some c12):=⟨fun q=>aA0 (aA2 h q.h) (i:=0) rfl,fun q=>aA0 (aA2 h q.h) (i:=1) rfl,fun q=>aA0 (aA2 h q.h) (i:=2) rfl,fun q=>aA0 (aA2 h q.h) (i:=3) rfl,fun q=>aA0 (aA2 h q.h) (i:=4) rfl,fun q=>aA0 (aA2 h q.h) (i:=5) rfl,fun q=>aA0 (aA2 h q.h) (i:=6) rfl,fun q=>aA0 (aA2 h q.h) (i:=7) rfl,fun q=>aA0 (aA2 h q.h) (i:=8) rfl,fun q=>aA0 (aA2 h q.h) (i:=9) rfl,fun q=>aA0 (aA2 h q.h) (i:=10) rfl,fun q=>aA0 (aA2 h q.h) (i:=11) rfl,fun q=>aA0 (aA2 h q.h) (i:=12) rfl⟩
theorem aFs {α:Type} {l:List α} {lo hi:Int} {p:α→Bool} {k:Nat} (hk:k<l.length) (h:p l[k]=false):Ob.cnt l lo hi p=false:=by
 unfold Ob.cnt
 have:l.all p=false:=by
  rw [List.all_eq_false]
  exact ⟨l[k],List.getElem_mem hk,by rw [h];simp⟩
 rw [this,Bool.and_false]
theorem aEs {α:Type} {l:List α} {lo hi:Int} {p:α→Bool} (h:∀ j (hj:j<l.length),p l[j]=true):Ob.cnt l lo hi p=(decide (lo≤(l.length:Int))&&decide ((l.length:Int)≤hi)):=by
 unfold Ob.cnt
 have:l.all p=true:=by
  rw [List.all_eq_true]
  intro x hx
  obtain ⟨j,hj,rfl⟩:=List.getElem_of_mem hx
  exact h j hj
 rw [this,Bool.and_true,Bool.decide_and]
theorem aC9 {P:Nat→Prop} {k:Nat} (h:∀ j,j<k→P j) (hk:P k):∀ j,j<k+1→P j:=fun j hj=>by
 rcases Nat.lt_or_ge j k with h3 | h3
 ·exact h j h3
 ·obtain rfl:j=k:=by omega
  exact hk
theorem aPd (x:OV) (w:World) (hx:x.at_ w) (ok:OkO x) :
  Calls Tryz.prog 50 #[oV x] w fun e w'=>e=.returned (.bool (Ob.cnt x.frm 1 4 Ob.mayFr&&Ob.cnt x.tos 1 4 Ob.mayTo))∧Below w.heap.size w w':=by
 obtain ⟨X,hX⟩:∃ z,z=w.alloc (.cells #[.int .i64 x.ref.kind,.string x.ref.space,.string x.ref.name,.bool x.good,x.vl,x.vp,.string x.cls,x.vi,x.vq,x.vh,x.vr,x.vf,x.vo] 36):=⟨_,rfl⟩
 have HB0:Hid (Below w.heap.size w (w.alloc (.cells #[.int .i64 x.ref.kind,.string x.ref.space,.string x.ref.name,.bool x.good,x.vl,x.vp,.string x.cls,x.vi,x.vq,x.vh,x.vr,x.vf,x.vo] 36))):=(Below.refl _ _).alloc (Nat.le_refl _) _
 have B1:Below w.heap.size w X:=by rw [hX];exact HB0.out
 have K0:X.heap[w.heap.size]?=some (.cells #[.int .i64 x.ref.kind,.string x.ref.space,.string x.ref.name,.bool x.good,x.vl,x.vp,.string x.cls,x.vi,x.vq,x.vh,x.vr,x.vf,x.vo] 36):=by rw [hX];exact aA7 _ _
 have HK0:=hide K0
 have HB1:=hide B1
 have HX:=hide hx
 have HOK:=hide ok
 clear B1 K0 hx ok
 go_enter Tryz.func50,Tryz.ntmps50
 go_wp2_with fail
 go_loopw [3] (fun i wr=>∃ k:Nat,k≤x.frm.length∧i=.int .i64 k∧Hid (∀ j,j<k→∀ (hj:j<x.frm.length),Ob.mayFr x.frm[j]=true)∧Below X.heap.size X wr) (fun i _=>x.frm.length - (intOf i).toNat)
 case atStart=>exact ⟨0,Nat.zero_le _,rfl,fun j hj=>absurd hj (by omega),by rw [hX];exact Below.refl _ _⟩
 case round =>
  clear hX
  obtain ⟨k,hk,rfl,hall,hB⟩:=hrel
  have hBw:=bb2 HB1.out hB
  have hlen:=HX.out.frm.len
  have kb:wr.heap[w.heap.size]?=some (.cells #[.int .i64 x.ref.kind,.string x.ref.space,.string x.ref.name,.bool x.good,x.vl,x.vp,.string x.cls,x.vi,x.vq,x.vh,x.vr,x.vf,x.vo] 36):=aA2 HK0.out hB
  have o11:wr.cell? ⟨w.heap.size,11,none⟩=some (.slice x.af x.frm.length x.cf):=aA0 kb (i:=11) rfl
  have oq11:∀ q:GB wr,q.W.cell? ⟨w.heap.size,11,none⟩=some (.slice x.af x.frm.length x.cf):=fun q=>aA0 (aA2 kb q.h) (i:=11) rfl
  clear kb
  by_cases hlt:k<x.frm.length
  ·have hlt':(k:Int)<(x.frm.length:Int):=by omega
   obtain ⟨hE,g,off,ha,hg,p0,p1,p2⟩:=oneD HX.out.frm hBw hlt
   have p0q:=fun q:GB wr=>(q.h.cell (p:=⟨g,off+k*3,none⟩) (Nat.lt_of_lt_of_le hg hBw.size)).trans p0
   have p1q:=fun q:GB wr=>(q.h.cell (p:=⟨g,off+k*3+1,none⟩) (Nat.lt_of_lt_of_le hg hBw.size)).trans p1
   have p2q:=fun q:GB wr=>(q.h.cell (p:=⟨g,off+k*3+2,none⟩) (Nat.lt_of_lt_of_le hg hBw.size)).trans p2
   rw [ha] at o11 oq11
   have ok1:=HOK.out.frm _ (List.getElem_mem hlt)
   have HT:Hid (Ob.mayFr x.frm[k]=true→∀ j,j<k+1→∀ (hj:j<x.frm.length),Ob.mayFr x.frm[j]=true):=fun h=>aC9 hall.out (fun _=>h)
   have HG:Hid (Ob.mayFr x.frm[k]=false→(Ob.cnt x.frm 1 4 Ob.mayFr&&Ob.cnt x.tos 1 4 Ob.mayTo)=false):=fun h=>by rw [aFs hlt h,Bool.false_and]
   clear hall ha hg hE
   generalize x.frm[k]=s at *
   obtain ⟨sk,ss,sn⟩:=s
   dsimp only at *
   have HP:Hid (Ob.mayFr ⟨sk,ss,sn⟩=(Ob.isKind sk&&(Ob.isL ss&&sn.toList.isEmpty))):=by unfold Hid Ob.mayFr;rw [aBs]
   have C1:=fun W (h:Below wr.heap.size wr W)=>hide (aGw sk W)
   have C2:=fun W (h:Below wr.heap.size wr W)=>hide (aI1 ss W (sm ok1.space))
   generalize Ob.isKind sk=y1 at *
   generalize Ob.isL ss=y2 at *
   clear ok1
   go_wp2_with fail
   cases y1
   ·refine (aA5 ((C1 _ (Below.refl _ _)).out)).mono ?_
    rintro e x ⟨rfl,q,rfl⟩
    go_wp2_with fail
    go_ret
    exact ⟨aA1 (HG.out (by rw [HP.out];simp)).symm,bb2 (bb2 HB1.out hB) q.h⟩
   ·refine (aA5 ((C1 _ (Below.refl _ _)).out)).mono ?_
    rintro e x ⟨rfl,q,rfl⟩
    go_wp2_with fail
    cases y2
    ·refine (aA3 ((C2 _ q.h).out)).mono ?_
     rintro e x ⟨rfl,q,rfl⟩
     go_wp2_with fail
     go_ret
     exact ⟨aA1 (HG.out (by rw [HP.out];simp)).symm,bb2 (bb2 HB1.out hB) q.h⟩
    ·cases ht1:(sn.toList.isEmpty)
     ·rw [ht1] at HP
      refine (aA3 ((C2 _ q.h).out)).mono ?_
      rintro e x ⟨rfl,q,rfl⟩
      go_wp2_with fail
      go_ret
      exact ⟨aA1 (HG.out (by rw [HP.out];simp)).symm,bb2 (bb2 HB1.out hB) q.h⟩
     ·rw [ht1] at HP
      refine (aA3 ((C2 _ q.h).out)).mono ?_
      rintro e x ⟨rfl,q,rfl⟩
      go_wp2_with fail
      exact ⟨⟨k+1,by omega,by go_num,HT.out (by rw [HP.out];simp),bb2 hB q.h⟩,by simp [intOf];omega⟩
  ·obtain rfl:k=x.frm.length:=by omega
   have hlt':¬ (x.frm.length:Int)<(x.frm.length:Int):=by omega
   have HALL:=hide (show ∀ j (hj:j<x.frm.length),Ob.mayFr x.frm[j]=true from fun j hj=>hall.out j hj hj)
   clear hall
   go_wp2_with fail
   go_loopw [4] (fun i wr=>∃ k:Nat,k≤x.tos.length∧i=.int .i64 k∧Hid (∀ j,j<k→∀ (hj:j<x.tos.length),Ob.mayTo x.tos[j]=true)∧Below X.heap.size X wr) (fun i _=>x.tos.length - (intOf i).toNat)
   case atStart=>exact ⟨0,Nat.zero_le _,rfl,fun j hj=>absurd hj (by omega),hB⟩
   case round =>
    clear hB o11 oq11 hlen hlt hlt' hk
    obtain ⟨k,hk,rfl,hall,hB⟩:=hrel
    have hBw:=bb2 HB1.out hB
    have hlen:=HX.out.tos.len
    have kb:wr.heap[w.heap.size]?=some (.cells #[.int .i64 x.ref.kind,.string x.ref.space,.string x.ref.name,.bool x.good,x.vl,x.vp,.string x.cls,x.vi,x.vq,x.vh,x.vr,x.vf,x.vo] 36):=aA2 HK0.out hB
    have o12:wr.cell? ⟨w.heap.size,12,none⟩=some (.slice x.ao x.tos.length x.co):=aA0 kb (i:=12) rfl
    have oq12:∀ q:GB wr,q.W.cell? ⟨w.heap.size,12,none⟩=some (.slice x.ao x.tos.length x.co):=fun q=>aA0 (aA2 kb q.h) (i:=12) rfl
    clear kb
    by_cases hlt:k<x.tos.length
    ·have hlt':(k:Int)<(x.tos.length:Int):=by omega
     obtain ⟨hE,g,off,ha,hg,p0,p1,p2⟩:=oneD HX.out.tos hBw hlt
     have p0q:=fun q:GB wr=>(q.h.cell (p:=⟨g,off+k*3,none⟩) (Nat.lt_of_lt_of_le hg hBw.size)).trans p0
     have p1q:=fun q:GB wr=>(q.h.cell (p:=⟨g,off+k*3+1,none⟩) (Nat.lt_of_lt_of_le hg hBw.size)).trans p1
     have p2q:=fun q:GB wr=>(q.h.cell (p:=⟨g,off+k*3+2,none⟩) (Nat.lt_of_lt_of_le hg hBw.size)).trans p2
     rw [ha] at o12 oq12
     have ok1:=HOK.out.tos _ (List.getElem_mem hlt)
     have HT:Hid (Ob.mayTo x.tos[k]=true→∀ j,j<k+1→∀ (hj:j<x.tos.length),Ob.mayTo x.tos[j]=true):=fun h=>aC9 hall.out (fun _=>h)
     have HG:Hid (Ob.mayTo x.tos[k]=false→(Ob.cnt x.frm 1 4 Ob.mayFr&&Ob.cnt x.tos 1 4 Ob.mayTo)=false):=fun h=>by rw [aFs hlt h,Bool.and_false]
     clear hall ha hg hE
     generalize x.tos[k]=s at *
     obtain ⟨sk,ss,sn⟩:=s
     dsimp only at *
     have HP:Hid (Ob.mayTo ⟨sk,ss,sn⟩=(Ob.isKind sk&&(ss.toList.isEmpty&&(sn.toList.isEmpty||Ob.isN sn)))):=by unfold Hid Ob.mayTo;rw [aBs,aBs]
     have C1:=fun W (h:Below wr.heap.size wr W)=>hide (aGw sk W)
     have C2:=fun W (h:Below wr.heap.size wr W)=>hide (aEr sn W ok1.name)
     generalize Ob.isKind sk=y1 at *
     generalize Ob.isN sn=y2 at *
     clear ok1
     go_wp2_with fail
     cases y1
     ·refine (aA5 ((C1 _ (Below.refl _ _)).out)).mono ?_
      rintro e x ⟨rfl,q,rfl⟩
      go_wp2_with fail
      go_ret
      exact ⟨aA1 (HG.out (by rw [HP.out];simp)).symm,bb2 (bb2 HB1.out hB) q.h⟩
     ·cases ht1:(ss.toList.isEmpty)
      ·rw [ht1] at HP
       refine (aA5 ((C1 _ (Below.refl _ _)).out)).mono ?_
       rintro e x ⟨rfl,q,rfl⟩
       go_wp2_with fail
       go_ret
       exact ⟨aA1 (HG.out (by rw [HP.out];simp)).symm,bb2 (bb2 HB1.out hB) q.h⟩
      ·rw [ht1] at HP
       cases ht2:(sn.toList.isEmpty)
       ·rw [ht2] at HP
        refine (aA5 ((C1 _ (Below.refl _ _)).out)).mono ?_
        rintro e x ⟨rfl,q,rfl⟩
        go_wp2_with fail
        cases y2
        ·refine (aA3 ((C2 _ q.h).out)).mono ?_
         rintro e x ⟨rfl,q,rfl⟩
         go_wp2_with fail
         go_ret
         exact ⟨aA1 (HG.out (by rw [HP.out];simp)).symm,bb2 (bb2 HB1.out hB) q.h⟩
        ·refine (aA3 ((C2 _ q.h).out)).mono ?_
         rintro e x ⟨rfl,q,rfl⟩
         go_wp2_with fail
         exact ⟨⟨k+1,by omega,by go_num,HT.out (by rw [HP.out];simp),bb2 hB q.h⟩,by simp [intOf];omega⟩
       ·rw [ht2] at HP
        refine (aA5 ((C1 _ (Below.refl _ _)).out)).mono ?_
        rintro e x ⟨rfl,q,rfl⟩
        go_wp2_with fail
        exact ⟨⟨k+1,by omega,by go_num,HT.out (by rw [HP.out];simp),bb2 hB q.h⟩,by simp [intOf];omega⟩
    ·obtain rfl:k=x.tos.length:=by omega
     have hlt':¬ (x.tos.length:Int)<(x.tos.length:Int):=by omega
     have HALL2:=hide (show ∀ j (hj:j<x.tos.length),Ob.mayTo x.tos[j]=true from fun j hj=>hall.out j hj hj)
     clear hall
     have hlen2:=HX.out.frm.len
     have o11:wr.cell? ⟨w.heap.size,11,none⟩=some (.slice x.af x.frm.length x.cf):=aA0 (aA2 HK0.out hB) (i:=11) rfl
     have HF:Hid ((Ob.cnt x.frm 1 4 Ob.mayFr&&Ob.cnt x.tos 1 4 Ob.mayTo)=(decide ((1:Int)≤(x.frm.length:Int))&&(decide ((x.frm.length:Int)≤4)&&(decide ((1:Int)≤(x.tos.length:Int))&&(decide ((x.tos.length:Int)≤4)))))):=by
      unfold Hid
      rw [aEs HALL.out,aEs HALL2.out,Bool.and_assoc]
     cases a1:decide ((1:Int)≤(x.frm.length:Int))
     ·rw [a1] at HF
      go_wp2_with fail
      go_ret
      exact ⟨aA1 (by rw [HF.out];try rfl),bb2 HB1.out hB⟩
     ·rw [a1] at HF
      cases a2:decide ((x.frm.length:Int)≤4)
      ·rw [a2] at HF
       go_wp2_with fail
       go_ret
       exact ⟨aA1 (by rw [HF.out];try rfl),bb2 HB1.out hB⟩
      ·rw [a2] at HF
       cases a3:decide ((1:Int)≤(x.tos.length:Int))
       ·rw [a3] at HF
        go_wp2_with fail
        go_ret
        exact ⟨aA1 (by rw [HF.out];try rfl),bb2 HB1.out hB⟩
       ·rw [a3] at HF
        cases a4:decide ((x.tos.length:Int)≤4)
        ·rw [a4] at HF
         go_wp2_with fail
         go_ret
         exact ⟨aA1 (by rw [HF.out];try rfl),bb2 HB1.out hB⟩
        ·rw [a4] at HF
         go_wp2_with fail
         go_ret
         exact ⟨aA1 (by rw [HF.out];try rfl),bb2 HB1.out hB⟩
end Go.Proofs.YthnodpdiocppgaaGreatDoor
namespace Go.Proofs.YthnodpdiocppgaaGreatDoor
open Go Go.RowKit Go.Shelf
attribute [local go_sem] aAu
theorem aGc (x y:RlV):Ob.sameRlV x y=(Ob.eqL Ob.sameMV x.ms y.ms&&(Ob.eqL Ob.eqFi x.fs y.fs&&Ob.eqL Ob.eqK x.bs y.bs)):=by
 unfold Ob.sameRlV Ob.sameRl RlV.b
 rw [aIx]
theorem aRt {x y:RlV} (h:Ob.eqL Ob.sameMV x.ms y.ms=false):Ob.sameRlV x y=false:=by rw [aGc,h];rfl
theorem aRu {x y:RlV} (h:Ob.eqL Ob.eqFi x.fs y.fs=false):Ob.sameRlV x y=false:=by rw [aGc,h,Bool.false_and,Bool.and_false]
theorem aRv {x y:RlV} (h:Ob.eqL Ob.eqK x.bs y.bs=false):Ob.sameRlV x y=false:=by rw [aGc,h,Bool.and_false,Bool.and_false]
theorem aDu {m n:Nat} (h:((m:Int) != (n:Int))=true):m≠n:=fun e=>by rw [e] at h;simp at h
theorem aDv {m n:Nat} (h:((m:Int) != (n:Int))=false):m=n:=by
 have:=bne_eq_false_iff_eq.1 h
 omega
theorem aTc (x y:MV) (w:World) (hx:x.at_ w) (hy:y.at_ w) :
  Calls Tryz.prog 61 #[mV x.m x.vh x.vq,mV y.m y.vh y.vq] w fun e w'=>e=.returned (.bool (Ob.sameMV x y))∧Below w.heap.size w w':=aV8 x.m y.m x.vh x.vq y.vh y.vq w hx.1 hx.2 hy.1 hy.2
theorem aNc (x y:RlV) (w:World) (hx:x.at_ w) (hy:y.at_ w) :
  Calls Tryz.prog 34 #[rlV x,rlV y] w fun e w'=>e=.returned (.bool (Ob.sameRlV x y))∧Below w.heap.size w w':=by
 obtain ⟨X,hX⟩:∃ z,z=(w.alloc (.cells #[x.vm,x.vf,x.vb] 76)).alloc (.cells #[y.vm,y.vf,y.vb] 76):=⟨_,rfl⟩
 have HB0:Hid (Below w.heap.size w ((w.alloc (.cells #[x.vm,x.vf,x.vb] 76)).alloc (.cells #[y.vm,y.vf,y.vb] 76))):=((Below.refl _ _).alloc (Nat.le_refl _) _).alloc (by simp) _
 have B1:Below w.heap.size w X:=by rw [hX];exact HB0.out
 have K0:X.heap[w.heap.size]?=some (.cells #[x.vm,x.vf,x.vb] 76):=by rw [hX];exact aA2 (aA7 w _) ((Below.refl _ _).alloc (Nat.le_refl _) _)
 have K1:X.heap[w.heap.size+1]?=some (.cells #[y.vm,y.vf,y.vb] 76):=by
  rw [hX]
  have:=aA7 (w.alloc (.cells #[x.vm,x.vf,x.vb] 76)) (.cells #[y.vm,y.vf,y.vb] 76)
  simpa using this
 have HKX:=hide K0
 have HKY:=hide K1
 have HB1:=hide B1
 have HX:=hide hx
 have HY:=hide hy
 have hl1:=hx.ms.len
 have hl2:=hx.fs.len
 have hl3:=hx.bs.len
 clear B1 K0 K1 hx hy
 cases h1:((x.ms.length:Int) != (y.ms.length:Int))
 ·have HL1:=hide (aDv h1)
  cases h2:((x.fs.length:Int) != (y.fs.length:Int))
  ·have HL2:=hide (aDv h2)
   cases h3:((x.bs.length:Int) != (y.bs.length:Int))
   ·have HL3:=hide (aDv h3)
    go_enter Tryz.func34,Tryz.ntmps34
    go_wp2_with fail
    clear h1 h2 h3 hl1 hl2 hl3
    go_loopw [5] (fun i wr=>∃ k:Nat,k≤x.ms.length∧i=.int .i64 k∧Hid (∀ j,j<k→∀ (h1:j<x.ms.length) (h2:j<y.ms.length),Ob.sameMV x.ms[j] y.ms[j]=true)∧Below X.heap.size X wr) (fun i _=>x.ms.length - (intOf i).toNat)
    case atStart=>exact ⟨0,Nat.zero_le _,rfl,fun j hj=>absurd hj (by omega),by rw [hX];exact Below.refl _ _⟩
    case round =>
     clear hX
     obtain ⟨k,hk,rfl,hall,hB⟩:=hrel
     have hBw:=bb2 HB1.out hB
     have hlen:=HX.out.ms.len
     have hlen2:=HY.out.ms.len
     have kb:=aA2 HKX.out hB
     have kc:=aA2 HKY.out hB
     have o1:wr.cell? ⟨w.heap.size,0,none⟩=some (.slice x.am x.ms.length x.cm):=aA0 kb (i:=0) rfl
     have oq1:∀ q:GB wr,q.W.cell? ⟨w.heap.size,0,none⟩=some (.slice x.am x.ms.length x.cm):=fun q=>aA0 (aA2 kb q.h) (i:=0) rfl
     have oq2:∀ q:GB wr,q.W.cell? ⟨w.heap.size+1,0,none⟩=some (.slice y.am y.ms.length y.cm):=fun q=>aA0 (aA2 kc q.h) (i:=0) rfl
     clear kb kc
     by_cases hlt:k<x.ms.length
     ·have hlb:k<y.ms.length:=by rw [←HL1.out];exact hlt
      have hlt':(k:Int)<(x.ms.length:Int):=by omega
      have hlb':(k:Int)<(y.ms.length:Int):=by omega
      obtain ⟨hE,g,off,ha,hg,p0,p1,p2,p3,p4⟩:=oneM HX.out.ms hBw hlt
      obtain ⟨hE2,g2,off2,ha2,hg2,q0,q1,q2,q3,q4⟩:=oneM HY.out.ms hBw hlb
      have px0:=fun q:GB wr=>(q.h.cell (p:=⟨g,off+k*5,none⟩) (Nat.lt_of_lt_of_le hg hBw.size)).trans p0
      have px1:=fun q:GB wr=>(q.h.cell (p:=⟨g,off+k*5+1,none⟩) (Nat.lt_of_lt_of_le hg hBw.size)).trans p1
      have px2:=fun q:GB wr=>(q.h.cell (p:=⟨g,off+k*5+2,none⟩) (Nat.lt_of_lt_of_le hg hBw.size)).trans p2
      have px3:=fun q:GB wr=>(q.h.cell (p:=⟨g,off+k*5+3,none⟩) (Nat.lt_of_lt_of_le hg hBw.size)).trans p3
      have px4:=fun q:GB wr=>(q.h.cell (p:=⟨g,off+k*5+4,none⟩) (Nat.lt_of_lt_of_le hg hBw.size)).trans p4
      have py0:=fun q:GB wr=>(q.h.cell (p:=⟨g2,off2+k*5,none⟩) (Nat.lt_of_lt_of_le hg2 hBw.size)).trans q0
      have py1:=fun q:GB wr=>(q.h.cell (p:=⟨g2,off2+k*5+1,none⟩) (Nat.lt_of_lt_of_le hg2 hBw.size)).trans q1
      have py2:=fun q:GB wr=>(q.h.cell (p:=⟨g2,off2+k*5+2,none⟩) (Nat.lt_of_lt_of_le hg2 hBw.size)).trans q2
      have py3:=fun q:GB wr=>(q.h.cell (p:=⟨g2,off2+k*5+3,none⟩) (Nat.lt_of_lt_of_le hg2 hBw.size)).trans q3
      have py4:=fun q:GB wr=>(q.h.cell (p:=⟨g2,off2+k*5+4,none⟩) (Nat.lt_of_lt_of_le hg2 hBw.size)).trans q4
      rw [ha] at o1 oq1
      rw [ha2] at oq2
      have HT:Hid (Ob.sameMV x.ms[k] y.ms[k]=true→∀ j,j<k+1→∀ (h1:j<x.ms.length) (h2:j<y.ms.length),Ob.sameMV x.ms[j] y.ms[j]=true):=fun h=>aC9 hall.out (fun _ _=>h)
      have HG:Hid (Ob.sameMV x.ms[k] y.ms[k]=false→Ob.sameRlV x y=false):=fun h=>aRt (Ob.eqL_not x.ms y.ms k hlt hlb h)
      clear hall ha ha2 hg hg2 p0 p1 p2 p3 p4 q0 q1 q2 q3 q4
      have hE1:x.ms[k].at_ wr:=hE
      have hE3:y.ms[k].at_ wr:=hE2
      have C1:=fun W (h:Below wr.heap.size wr W)=>hide (aTc x.ms[k] y.ms[k] W (hE1.below h) (hE3.below h))
      clear hE hE1 hE2 hE3
      generalize Ob.sameMV x.ms[k] y.ms[k]=e1 at *
      generalize x.ms[k]=s at *
      generalize y.ms[k]=t at *
      obtain ⟨⟨k0,v0,m0,h0,q0⟩,ah0,ch0,aq0,cq0⟩:=s
      obtain ⟨⟨k1,v1,m1,h1,q1⟩,ah1,ch1,aq1,cq1⟩:=t
      dsimp only [MV.vh,MV.vq,mV] at *
      cases e1
      ·go_wp2_with fail
       refine aA6 (by kernel_rfl) (by kernel_rfl) ?_
       repeat (first | go_big_quiet_step ((go_at_call 61;exact aA3 (C1 _ (GB.h _)).out)) | quiet_step ((go_at_call 61;exact aA3 (C1 _ (GB.h _)).out)))
       refine wpQuiet_nil ?_
       intro _ hw'
       obtain ⟨qq,hw2⟩:=hw'
       subst hw2
       have hq:=qq.h
       go_wp2_with fail
       go_ret
       exact ⟨aA1 (HG.out (by simp)).symm,bb2 (bb2 HB1.out hB) hq⟩
      ·go_wp2_with fail
       refine aA6 (by kernel_rfl) (by kernel_rfl) ?_
       repeat (first | go_big_quiet_step ((go_at_call 61;exact aA3 (C1 _ (GB.h _)).out)) | quiet_step ((go_at_call 61;exact aA3 (C1 _ (GB.h _)).out)))
       refine wpQuiet_nil ?_
       intro _ hw'
       obtain ⟨qq,hw2⟩:=hw'
       subst hw2
       have hq:=qq.h
       go_wp2_with fail
       exact ⟨⟨k+1,by omega,by go_num,HT.out (by simp),bb2 hB hq⟩,by simp [intOf];omega⟩
     ·obtain rfl:k=x.ms.length:=by omega
      have hlt':¬ (x.ms.length:Int)<(x.ms.length:Int):=by omega
      have HM:Hid (Ob.eqL Ob.sameMV x.ms y.ms=true):=Ob.eqL_yes x.ms y.ms HL1.out (fun j h1 h2=>hall.out j h1 h1 h2)
      clear hall
      go_wp2_with fail
      clear o1 oq1 oq2 hlen hlen2 hlt hlt' hk hBw
      go_loopw [6] (fun i wr=>∃ k:Nat,k≤x.fs.length∧i=.int .i64 k∧Hid (∀ j,j<k→∀ (h1:j<x.fs.length) (h2:j<y.fs.length),Ob.eqFi x.fs[j] y.fs[j]=true)∧Below X.heap.size X wr) (fun i _=>x.fs.length - (intOf i).toNat)
      case atStart=>exact ⟨0,Nat.zero_le _,rfl,fun j hj=>absurd hj (by omega),hB⟩
      case round =>
       clear hB
       obtain ⟨k,hk,rfl,hall,hB⟩:=hrel
       have hBw:=bb2 HB1.out hB
       have hlen:=HX.out.fs.len
       have hlen2:=HY.out.fs.len
       have kb:=aA2 HKX.out hB
       have kc:=aA2 HKY.out hB
       have o1:wr.cell? ⟨w.heap.size,1,none⟩=some (.slice x.af x.fs.length x.cf):=aA0 kb (i:=1) rfl
       have oq1:∀ q:GB wr,q.W.cell? ⟨w.heap.size,1,none⟩=some (.slice x.af x.fs.length x.cf):=fun q=>aA0 (aA2 kb q.h) (i:=1) rfl
       have oq2:∀ q:GB wr,q.W.cell? ⟨w.heap.size+1,1,none⟩=some (.slice y.af y.fs.length y.cf):=fun q=>aA0 (aA2 kc q.h) (i:=1) rfl
       clear kb kc
       by_cases hlt:k<x.fs.length
       ·have hlb:k<y.fs.length:=by rw [←HL2.out];exact hlt
        have hlt':(k:Int)<(x.fs.length:Int):=by omega
        have hlb':(k:Int)<(y.fs.length:Int):=by omega
        obtain ⟨hE,g,off,ha,hg,p0,p1,p2,p3,p4,p5,p6,p7⟩:=oneF HX.out.fs hBw hlt
        obtain ⟨hE2,g2,off2,ha2,hg2,q0,q1,q2,q3,q4,q5,q6,q7⟩:=oneF HY.out.fs hBw hlb
        have px0:=fun q:GB wr=>(q.h.cell (p:=⟨g,off+k*8,none⟩) (Nat.lt_of_lt_of_le hg hBw.size)).trans p0
        have px1:=fun q:GB wr=>(q.h.cell (p:=⟨g,off+k*8+1,none⟩) (Nat.lt_of_lt_of_le hg hBw.size)).trans p1
        have px2:=fun q:GB wr=>(q.h.cell (p:=⟨g,off+k*8+2,none⟩) (Nat.lt_of_lt_of_le hg hBw.size)).trans p2
        have px3:=fun q:GB wr=>(q.h.cell (p:=⟨g,off+k*8+3,none⟩) (Nat.lt_of_lt_of_le hg hBw.size)).trans p3
        have px4:=fun q:GB wr=>(q.h.cell (p:=⟨g,off+k*8+4,none⟩) (Nat.lt_of_lt_of_le hg hBw.size)).trans p4
        have px5:=fun q:GB wr=>(q.h.cell (p:=⟨g,off+k*8+5,none⟩) (Nat.lt_of_lt_of_le hg hBw.size)).trans p5
        have px6:=fun q:GB wr=>(q.h.cell (p:=⟨g,off+k*8+6,none⟩) (Nat.lt_of_lt_of_le hg hBw.size)).trans p6
        have px7:=fun q:GB wr=>(q.h.cell (p:=⟨g,off+k*8+7,none⟩) (Nat.lt_of_lt_of_le hg hBw.size)).trans p7
        have py0:=fun q:GB wr=>(q.h.cell (p:=⟨g2,off2+k*8,none⟩) (Nat.lt_of_lt_of_le hg2 hBw.size)).trans q0
        have py1:=fun q:GB wr=>(q.h.cell (p:=⟨g2,off2+k*8+1,none⟩) (Nat.lt_of_lt_of_le hg2 hBw.size)).trans q1
        have py2:=fun q:GB wr=>(q.h.cell (p:=⟨g2,off2+k*8+2,none⟩) (Nat.lt_of_lt_of_le hg2 hBw.size)).trans q2
        have py3:=fun q:GB wr=>(q.h.cell (p:=⟨g2,off2+k*8+3,none⟩) (Nat.lt_of_lt_of_le hg2 hBw.size)).trans q3
        have py4:=fun q:GB wr=>(q.h.cell (p:=⟨g2,off2+k*8+4,none⟩) (Nat.lt_of_lt_of_le hg2 hBw.size)).trans q4
        have py5:=fun q:GB wr=>(q.h.cell (p:=⟨g2,off2+k*8+5,none⟩) (Nat.lt_of_lt_of_le hg2 hBw.size)).trans q5
        have py6:=fun q:GB wr=>(q.h.cell (p:=⟨g2,off2+k*8+6,none⟩) (Nat.lt_of_lt_of_le hg2 hBw.size)).trans q6
        have py7:=fun q:GB wr=>(q.h.cell (p:=⟨g2,off2+k*8+7,none⟩) (Nat.lt_of_lt_of_le hg2 hBw.size)).trans q7
        rw [ha] at o1 oq1
        rw [ha2] at oq2
        have HT:Hid (Ob.eqFi x.fs[k] y.fs[k]=true→∀ j,j<k+1→∀ (h1:j<x.fs.length) (h2:j<y.fs.length),Ob.eqFi x.fs[j] y.fs[j]=true):=fun h=>aC9 hall.out (fun _ _=>h)
        have HG:Hid (Ob.eqFi x.fs[k] y.fs[k]=false→Ob.sameRlV x y=false):=fun h=>aRu (Ob.eqL_not x.fs y.fs k hlt hlb h)
        clear hall ha ha2 hg hg2 p0 p1 p2 p3 p4 p5 p6 p7 q0 q1 q2 q3 q4 q5 q6 q7
        have EQ:∀ W,(Op.equalIn 10000 108 (fV x.fs[k]) (fV y.fs[k])).run Tryz.prog W=.ok (Ob.eqFi x.fs[k] y.fs[k]) W:=fun W=>by
         rw [aH5]
         unfold Ob.eqFi
         simp only [aB3]
        clear hE hE2
        generalize Ob.eqFi x.fs[k] y.fs[k]=e1 at *
        generalize x.fs[k]=s at *
        generalize y.fs[k]=t at *
        obtain ⟨k0,n0,v0,h0,p0,t0,b0,c0⟩:=s
        obtain ⟨k1,n1,v1,h1,p1,t1,b1,c1⟩:=t
        dsimp only at *
        cases e1
        ·go_wp2_with fail
         refine aA6 (by kernel_rfl) (by kernel_rfl) ?_
         repeat (first | go_big_quiet_step (fail) | quiet_step (fail))
         refine wpQuiet_nil ?_
         intro _ hw'
         obtain ⟨qq,hw2⟩:=hw'
         subst hw2
         have hq:=qq.h
         go_wp2_with fail
         go_ret
         exact ⟨aA1 (HG.out (by simp)).symm,bb2 (bb2 HB1.out hB) hq⟩
        ·go_wp2_with fail
         refine aA6 (by kernel_rfl) (by kernel_rfl) ?_
         repeat (first | go_big_quiet_step (fail) | quiet_step (fail))
         refine wpQuiet_nil ?_
         intro _ hw'
         obtain ⟨qq,hw2⟩:=hw'
         subst hw2
         have hq:=qq.h
         go_wp2_with fail
         exact ⟨⟨k+1,by omega,by go_num,HT.out (by simp),bb2 hB hq⟩,by simp [intOf];omega⟩
       ·obtain rfl:k=x.fs.length:=by omega
        have hlt':¬ (x.fs.length:Int)<(x.fs.length:Int):=by omega
        have HFF:Hid (Ob.eqL Ob.eqFi x.fs y.fs=true):=Ob.eqL_yes x.fs y.fs HL2.out (fun j h1 h2=>hall.out j h1 h1 h2)
        clear hall
        go_wp2_with fail
        clear o1 oq1 oq2 hlen hlen2 hlt hlt' hk hBw
        go_loopw [7] (fun i wr=>∃ k:Nat,k≤x.bs.length∧i=.int .i64 k∧Hid (∀ j,j<k→∀ (h1:j<x.bs.length) (h2:j<y.bs.length),Ob.eqK x.bs[j] y.bs[j]=true)∧Below X.heap.size X wr) (fun i _=>x.bs.length - (intOf i).toNat)
        case atStart=>exact ⟨0,Nat.zero_le _,rfl,fun j hj=>absurd hj (by omega),hB⟩
        case round =>
         clear hB
         obtain ⟨k,hk,rfl,hall,hB⟩:=hrel
         have hBw:=bb2 HB1.out hB
         have hlen:=HX.out.bs.len
         have hlen2:=HY.out.bs.len
         have kb:=aA2 HKX.out hB
         have kc:=aA2 HKY.out hB
         have o1:wr.cell? ⟨w.heap.size,2,none⟩=some (.slice x.ab x.bs.length x.cb):=aA0 kb (i:=2) rfl
         have oq1:∀ q:GB wr,q.W.cell? ⟨w.heap.size,2,none⟩=some (.slice x.ab x.bs.length x.cb):=fun q=>aA0 (aA2 kb q.h) (i:=2) rfl
         have oq2:∀ q:GB wr,q.W.cell? ⟨w.heap.size+1,2,none⟩=some (.slice y.ab y.bs.length y.cb):=fun q=>aA0 (aA2 kc q.h) (i:=2) rfl
         clear kb kc
         by_cases hlt:k<x.bs.length
         ·have hlb:k<y.bs.length:=by rw [←HL3.out];exact hlt
          have hlt':(k:Int)<(x.bs.length:Int):=by omega
          have hlb':(k:Int)<(y.bs.length:Int):=by omega
          obtain ⟨hE,g,off,ha,hg,p0,p1,p2,p3,p4⟩:=oneK HX.out.bs hBw hlt
          obtain ⟨hE2,g2,off2,ha2,hg2,q0,q1,q2,q3,q4⟩:=oneK HY.out.bs hBw hlb
          have px0:=fun q:GB wr=>(q.h.cell (p:=⟨g,off+k*5,none⟩) (Nat.lt_of_lt_of_le hg hBw.size)).trans p0
          have px1:=fun q:GB wr=>(q.h.cell (p:=⟨g,off+k*5+1,none⟩) (Nat.lt_of_lt_of_le hg hBw.size)).trans p1
          have px2:=fun q:GB wr=>(q.h.cell (p:=⟨g,off+k*5+2,none⟩) (Nat.lt_of_lt_of_le hg hBw.size)).trans p2
          have px3:=fun q:GB wr=>(q.h.cell (p:=⟨g,off+k*5+3,none⟩) (Nat.lt_of_lt_of_le hg hBw.size)).trans p3
          have px4:=fun q:GB wr=>(q.h.cell (p:=⟨g,off+k*5+4,none⟩) (Nat.lt_of_lt_of_le hg hBw.size)).trans p4
          have py0:=fun q:GB wr=>(q.h.cell (p:=⟨g2,off2+k*5,none⟩) (Nat.lt_of_lt_of_le hg2 hBw.size)).trans q0
          have py1:=fun q:GB wr=>(q.h.cell (p:=⟨g2,off2+k*5+1,none⟩) (Nat.lt_of_lt_of_le hg2 hBw.size)).trans q1
          have py2:=fun q:GB wr=>(q.h.cell (p:=⟨g2,off2+k*5+2,none⟩) (Nat.lt_of_lt_of_le hg2 hBw.size)).trans q2
          have py3:=fun q:GB wr=>(q.h.cell (p:=⟨g2,off2+k*5+3,none⟩) (Nat.lt_of_lt_of_le hg2 hBw.size)).trans q3
          have py4:=fun q:GB wr=>(q.h.cell (p:=⟨g2,off2+k*5+4,none⟩) (Nat.lt_of_lt_of_le hg2 hBw.size)).trans q4
          rw [ha] at o1 oq1
          rw [ha2] at oq2
          have HT:Hid (Ob.eqK x.bs[k] y.bs[k]=true→∀ j,j<k+1→∀ (h1:j<x.bs.length) (h2:j<y.bs.length),Ob.eqK x.bs[j] y.bs[j]=true):=fun h=>aC9 hall.out (fun _ _=>h)
          have HG:Hid (Ob.eqK x.bs[k] y.bs[k]=false→Ob.sameRlV x y=false):=fun h=>aRv (Ob.eqL_not x.bs y.bs k hlt hlb h)
          clear hall ha ha2 hg hg2 p0 p1 p2 p3 p4 q0 q1 q2 q3 q4
          have EQ:∀ W,(Op.equalIn 10000 91 (bkV x.bs[k]) (bkV y.bs[k])).run Tryz.prog W=.ok (Ob.eqK x.bs[k] y.bs[k]) W:=fun W=>by
           rw [aQs]
           unfold Ob.eqK
           simp only [aB3]
          clear hE hE2
          generalize Ob.eqK x.bs[k] y.bs[k]=e1 at *
          generalize x.bs[k]=s at *
          generalize y.bs[k]=t at *
          obtain ⟨⟨k0,s0,n0⟩,p0,z0⟩:=s
          obtain ⟨⟨k1,s1,n1⟩,p1,z1⟩:=t
          dsimp only at *
          cases e1
          ·go_wp2_with fail
           refine aA6 (by kernel_rfl) (by kernel_rfl) ?_
           repeat (first | go_big_quiet_step (fail) | quiet_step (fail))
           refine wpQuiet_nil ?_
           intro _ hw'
           obtain ⟨qq,hw2⟩:=hw'
           subst hw2
           have hq:=qq.h
           go_wp2_with fail
           go_ret
           exact ⟨aA1 (HG.out (by simp)).symm,bb2 (bb2 HB1.out hB) hq⟩
          ·go_wp2_with fail
           refine aA6 (by kernel_rfl) (by kernel_rfl) ?_
           repeat (first | go_big_quiet_step (fail) | quiet_step (fail))
           refine wpQuiet_nil ?_
           intro _ hw'
           obtain ⟨qq,hw2⟩:=hw'
           subst hw2
           have hq:=qq.h
           go_wp2_with fail
           exact ⟨⟨k+1,by omega,by go_num,HT.out (by simp),bb2 hB hq⟩,by simp [intOf];omega⟩
         ·obtain rfl:k=x.bs.length:=by omega
          have hlt':¬ (x.bs.length:Int)<(x.bs.length:Int):=by omega
          have HK:Hid (Ob.eqL Ob.eqK x.bs y.bs=true):=Ob.eqL_yes x.bs y.bs HL3.out (fun j h1 h2=>hall.out j h1 h1 h2)
          clear hall
          have HF:Hid (Ob.sameRlV x y=true):=by
           unfold Hid
           rw [aGc,HM.out,HFF.out,HK.out]
           rfl
          go_wp2_with fail
          go_ret
          exact ⟨aA1 HF.out.symm,bb2 HB1.out hB⟩
   ·have HF:Hid (Ob.sameRlV x y=false):=aRv (Ob.eqL_len _ _ (aDu h3))
    go_enter Tryz.func34,Tryz.ntmps34
    go_wp2_with fail
    go_ret
    exact ⟨aA1 HF.out.symm,HB0.out⟩
  ·have HF:Hid (Ob.sameRlV x y=false):=aRu (Ob.eqL_len _ _ (aDu h2))
   go_enter Tryz.func34,Tryz.ntmps34
   go_wp2_with fail
   go_ret
   exact ⟨aA1 HF.out.symm,HB0.out⟩
 ·have HF:Hid (Ob.sameRlV x y=false):=aRt (Ob.eqL_len _ _ (aDu h1))
  go_enter Tryz.func34,Tryz.ntmps34
  go_wp2_with fail
  go_ret
  exact ⟨aA1 HF.out.symm,HB0.out⟩
end Go.Proofs.YthnodpdiocppgaaGreatDoor
namespace Go.Proofs.YthnodpdiocppgaaGreatDoor
open Go Go.RowKit Go.Shelf
section
variable {P:Program} {md:Region.Mode} {ops:Array Oper} {Q:Exit→Act→World→Prop} {S:World→Prop}
def wpS (P:Program) (md:Region.Mode) (ops:Array Oper) (Q:Exit→Act→World→Prop) (S:World→Prop):Nat→Array Bool→Act→World→Prop
 | 0,listed,a,w=>S w∧Region.ready md ops listed=[]∧Q .normal a w
 | f + 1,listed,a,w=>S w∧(Region.ready md ops listed=[]→Q .normal a w) ∧
     ∀ i∈Region.ready md ops listed,wpOp P ops Q i (wpS P md ops Q S f (listed.setIfInBounds i true)) a w
theorem aJ1:∀ (f:Nat) (l:Array Bool) (a:Act) (w:World),wpS P md ops Q S f l a w→wpAny P md ops Q f l a w
 | 0,_,_,_,h=>h.2
 | f+1,_,_,_,h=>⟨h.2.1,fun i hi=>wpOp_mono (fun a' w2 k=>aJ1 f _ a' w2 k) (h.2.2 i hi)⟩
def aDb (P:Program) (ops:Array Oper) (S:World→Prop) (o:Oper) (v:Value) (a:Act):Prop :=
 (Region.wanted o (yielded ops a.tmps)=true∧∀ w,S w→o.quietAt P a (fun w2=>w2=w) w v)∨(Region.wanted o (yielded ops a.tmps)=false∧v=undef)
theorem aDb.same {o:Oper} {v:Value} {a a':Act} (h:aDb P ops S o v a) (he:execOp a'.eval o=execOp a.eval o) (hw:Region.wanted o (yielded ops a'.tmps)=Region.wanted o (yielded ops a.tmps)):aDb P ops S o v a':=by
 unfold aDb Oper.quietAt at *
 rw [he,hw]
 exact h
theorem aDb.run {i:Nat} {o:Oper} {v:Value} {a:Act} {w:World} {K:Act→World→Prop} (hi:ops[i]?=some o) (h:aDb P ops S o v a) (hs:S w) (hk:K (a.put o.dst v) w):wpOp P ops Q i K a w:=by
 unfold wpOp
 simp only [hi]
 rcases h with ⟨hw,h⟩ | ⟨hw,rfl⟩
 ·simp only [hw,if_true]
  refine .inl ?_
  have h1:=h w hs
  unfold Oper.quietAt at h1
  unfold Oper.wp
  generalize (execOp a.eval o).run P w=r at *
  cases r with
  | ok x w1 =>
    cases x<;>simp only [Oper.quietUpon] at h1<;>simp only [Oper.upon]
    case value u=>obtain ⟨rfl,rfl⟩:=h1;exact hk
    case skip=>obtain ⟨rfl,rfl⟩:=h1;exact hk
    case enter g args =>
     obtain ⟨rfl,hc⟩:=h1
     exact hc.mono fun e w2 ⟨he,h2⟩=>by subst he h2;exact hk
  | halt x w1=>simp only [Oper.quietUpon] at h1
 ·simp only [hw,Bool.false_eq_true,if_false]
  exact hk
theorem aRw {i:Nat} {oi:Oper} {v:Value} (hi:ops[i]?=some oi) (hsel:∀ (j:Nat) (o:Oper) cs b,ops[j]?=some o→o.op≠.select cs b)
  (hQ:∀ c a w,Q (.panic c) (a.put oi.dst v) w→Q (.panic c) a w) :
  ∀ (f:Nat) (l:Array Bool) (a:Act) (w:World),
    (∀ j oj,ops[j]?=some oj→j≠i→l.getD j true=false→(∀ e∈oj.after,Region.binds md e=true→e.on≠i)→oi.apart ops oj=true) →
    i∈Region.ready md ops l→aDb P ops S oi v a →
    wpS P md ops Q S f (l.setIfInBounds i true) (a.put oi.dst v) w→wpS P md ops Q S (f+1) l a w:=by
 intro f
 induction f with
 | zero =>
   intro l a w _ hr hy H
   refine ⟨H.1,fun h=>(by rw [h] at hr;cases hr),fun j hj=>?_⟩
   by_cases hji:j=i
   ·subst hji
    exact hy.run hi H.1 H
   ·have:=ready_mono hj hji
    rw [H.2.1] at this
    cases this
 | succ f ih =>
   intro l a w hfree hr hy H
   refine ⟨H.1,fun h=>(by rw [h] at hr;cases hr),fun j hj=>?_⟩
   by_cases hji:j=i
   ·subst hji
    exact hy.run hi H.1 H
   ·have h1:=H.2.2 j (ready_mono hj hji)
    obtain ⟨hjun,oj,hoj,hall⟩:=mem_ready.1 hj
    have hiun:l.getD i false=false:=by
     have h0:=(mem_ready.1 hr).1
     rcases Nat.lt_or_ge i l.size with h' | h'
     ·simp [h'] at h0 ⊢;exact h0
     ·simp [Array.getElem?_eq_none h']
    have hnot:∀ e∈oj.after,Region.binds md e=true→e.on≠i:=fun e he hb heq=>by
     have h2:=hall e he hb
     rw [heq,hiun] at h2
     cases h2
    have hap:=hfree j oj hoj hji hjun hnot
    obtain ⟨_,_,h3⟩:=Oper.apart_spec hap
    have h2:=aGp (Y:=fun a=>aDb P ops S oi v a) hoj hap (fun cs b=>hsel j oj cs b hoj) hQ
     (fun a u hya=>hya.same (execOp_put oi (fun cs b=>hsel i oi cs b hi) a oj.dst u h3) (wanted_put oi a oj.dst u h3)) (fun a d hya=>hya.same rfl rfl) hy h1
    refine wpOp_mono (fun a' w2 h4=>?_) h2
    refine ih (l.setIfInBounds j true) a' w2 ?_ (ready_mono hr (Ne.symm hji)) h4.1 ?_
    ·intro m om hm hmi hun hno
     refine hfree m om hm hmi ?_ hno
     by_cases hjm:j=m
     ·subst hjm;exact hjun
     ·rw [getD_set_ne true hjm] at hun;exact hun
    ·rw [Array.setIfInBounds_comm _ _ hji]
     exact h4.2
theorem aCg {i:Nat} {oi:Oper} {rest:List Oper} {v:Value} {f:Nat} {l:Array Bool} {a:Act} {w:World} (hi:ops.toList.drop i=oi::rest) (hs:Region.noSelect ops=true) (hf:Region.free md ops l i=true) (hr:(Region.ready md ops l).contains i=true)
  (hQ:∀ c a w,Q (.panic c) (a.put oi.dst v) w→Q (.panic c) a w) (hy:aDb P ops S oi v a)
  (h:wpS P md ops Q S f (l.setIfInBounds i true) (a.put oi.dst v) w):wpS P md ops Q S (f+1) l a w :=
 aRw (op_at hi) (Region.noSelect_spec hs) hQ f l a w (Region.free_spec (op_at hi) hf) (by simpa using hr) hy h
theorem aNd {id:Nat} {a:Act} {w:World} (S:World→Prop) (hm:P.follows .mixedOrders=true) (h:wpS P .any ops Q S ops.size (Array.replicate ops.size false) a w.drew):(Code.region id ops true).wp P Q a w :=
 wp_region_any hm (aJ1 _ _ _ _ h)
theorem aD4 {rs:List Nat} {f:Nat} {l:Array Bool} {a:Act} {w:World} (hr:Region.ready md ops l=rs) (hne:rs≠[]) (hs:S w)
  (h:∀ i∈rs,wpOp P ops Q i (wpS P md ops Q S f (l.setIfInBounds i true)) a w):wpS P md ops Q S (f+1) l a w :=
 ⟨hs,fun h0=>absurd (hr ▸ h0) hne,hr ▸ h⟩
theorem aNq {f:Nat} {l:Array Bool} {a:Act} {w:World} (hr:Region.ready md ops l=[]) (hs:S w) (h:Q .normal a w):wpS P md ops Q S f l a w:=by
 cases f with
 | zero=>exact ⟨hs,hr,h⟩
 | succ f=>exact ⟨hs,fun _=>h,fun i hi=>by rw [hr] at hi;cases hi⟩
end
end Go.Proofs.YthnodpdiocppgaaGreatDoor
namespace Go.Proofs.YthnodpdiocppgaaGreatDoor
open Go Go.RowKit Go.Shelf
attribute [local go_sem] aAu
theorem aPe (rk:Int) (rs rn:ByteArray) (p wt:Int) :
  Ob.mayBk ⟨⟨rk,rs,rn⟩,p,wt⟩=(Ob.isKind rk&&(Ob.isSpace rs&&(Ob.isN rn&&((decide (p=0)||Ob.isPort p)&&(!decide (wt<0)&&!decide (1000<wt)))))):=by
 unfold Ob.mayBk Ob.anyPort
 have e:decide (0≤wt∧wt≤1000)=(!decide (wt<0)&&!decide (1000<wt)):=by
  rw [Bool.eq_iff_iff]
  simp only [Bool.and_eq_true,Bool.not_eq_true',decide_eq_true_eq,decide_eq_false_iff_not]
  omega
 rw [e]
theorem aVc (x:RlV):Ob.mayRl x.b=(!decide ((4:Int)<(x.ms.length:Int))&&(!decide ((4:Int)<(x.bs.length:Int))&&(Fi.allF x.fs&&(x.ms.all (fun m=>mayM m.m)&&x.bs.all Ob.mayBk)))):=by
 unfold Ob.mayRl RlV.b
 rw [aE1]
 unfold Ob.cnt
 dsimp only
 have e (n:Nat):decide ((0:Int)≤(n:Int)∧(n:Int)≤4)=!decide ((4:Int)<(n:Int)):=by
  rw [Bool.eq_iff_iff]
  simp only [Bool.not_eq_true',decide_eq_true_eq,decide_eq_false_iff_not]
  omega
 rw [e,e]
 generalize Fi.allF x.fs=b1
 generalize x.ms.all (fun m=>mayM m.m)=b2
 generalize x.bs.all Ob.mayBk=b3
 generalize decide ((4:Int)<(x.ms.length:Int))=b4
 generalize decide ((4:Int)<(x.bs.length:Int))=b5
 cases b1<;>cases b2<;>cases b3<;>cases b4<;>cases b5<;>rfl
theorem aNr {α:Type} {p:α→Bool} {l:List α} (h:∀ j (hj:j<l.length),p l[j]=true):l.all p=true:=by
 rw [List.all_eq_true]
 intro x hx
 obtain ⟨j,hj,rfl⟩:=List.getElem_of_mem hx
 exact h j hj
theorem aM4 {α:Type} {p:α→Bool} {l:List α} {k:Nat} (hk:k<l.length) (h:p l[k]=false):l.all p=false:=by
 rw [List.all_eq_false]
 exact ⟨l[k],List.getElem_mem hk,by rw [h];simp⟩
theorem aRx (x:RlV) (w:World) (hx:x.at_ w) (ok:OkRl x) :
  Calls Tryz.prog 73 #[rlV x] w fun e w'=>e=.returned (.bool (Ob.mayRl x.b))∧Below w.heap.size w w':=by
 obtain ⟨X,hX⟩:∃ z,z=w.alloc (.cells #[x.vm,x.vf,x.vb] 76):=⟨_,rfl⟩
 have HB0:Hid (Below w.heap.size w (w.alloc (.cells #[x.vm,x.vf,x.vb] 76))):=(Below.refl _ _).alloc (Nat.le_refl _) _
 have B1:Below w.heap.size w X:=by rw [hX];exact HB0.out
 have K0:X.heap[w.heap.size]?=some (.cells #[x.vm,x.vf,x.vb] 76):=by rw [hX];exact aA7 _ _
 have HK0:=hide K0
 have HB1:=hide B1
 have HX:=hide hx
 have HOK:=hide ok
 have HP:Hid (_=_):=aVc x
 have C1:=fun W (h:Below X.heap.size X W)=>hide (aRs x.vf x.fs W (hx.fs.below (bb2 B1 h)) ok.fs (by have:=ok.fl;omega))
 have hl1:=hx.ms.len
 have hl2:=hx.bs.len
 clear B1 K0 hx ok
 generalize Fi.allF x.fs=y1 at *
 cases ht1:(decide ((4:Int)<(x.ms.length:Int)))
 ·rw [ht1] at HP
  cases ht2:(decide ((4:Int)<(x.bs.length:Int)))
  ·rw [ht2] at HP
   go_enter Tryz.func73,Tryz.ntmps73
   go_wp2_with fail
   rw [←hX]
   clear hX hl1 hl2
   cases y1
   ·refine (aA5 ((C1 _ (Below.refl _ _)).out)).mono ?_
    rintro e x ⟨rfl,q,rfl⟩
    go_wp2_with fail
    go_ret
    exact ⟨aA1 (by rw [HP.out];simp),bb2 HB1.out q.h⟩
   ·refine (aA5 ((C1 _ (Below.refl _ _)).out)).mono ?_
    rintro e x ⟨rfl,q,rfl⟩
    go_wp2_with fail
    have HV:Hid (Ob.mayRl x.b=(x.ms.all (fun m=>mayM m.m)&&x.bs.all Ob.mayBk)):=by
     unfold Hid
     rw [HP.out]
     simp
    clear HP
    go_loopw [3] (fun i wr=>∃ k:Nat,k≤x.ms.length∧i=.int .i64 k∧Hid (∀ j,j<k→∀ (hj:j<x.ms.length),mayM x.ms[j].m=true)∧Below X.heap.size X wr) (fun i _=>x.ms.length - (intOf i).toNat)
    case atStart=>exact ⟨0,Nat.zero_le _,rfl,fun j hj=>absurd hj (by omega),q.h⟩
    case round =>
     clear q
     obtain ⟨k,hk,rfl,hall,hB⟩:=hrel
     have hBw:=bb2 HB1.out hB
     have hlen:=HX.out.ms.len
     have kb:wr.heap[w.heap.size]?=some (.cells #[x.vm,x.vf,x.vb] 76):=aA2 HK0.out hB
     have o0:wr.cell? ⟨w.heap.size,0,none⟩=some (.slice x.am x.ms.length x.cm):=aA0 kb (i:=0) rfl
     have oq0:∀ q:GB wr,q.W.cell? ⟨w.heap.size,0,none⟩=some (.slice x.am x.ms.length x.cm):=fun q=>aA0 (aA2 kb q.h) (i:=0) rfl
     clear kb
     by_cases hlt:k<x.ms.length
     ·have hlt':(k:Int)<(x.ms.length:Int):=by omega
      obtain ⟨hE,g,off,ha,hg,p0,p1,p2,p3,p4⟩:=oneM HX.out.ms hBw hlt
      rw [ha] at o0 oq0
      have ok1:=HOK.out.ms _ (List.getElem_mem hlt)
      have HT:Hid (mayM x.ms[k].m=true→∀ j,j<k+1→∀ (hj:j<x.ms.length),mayM x.ms[j].m=true):=fun h=>aC9 hall.out (fun _=>h)
      have HG:Hid (mayM x.ms[k].m=false→Ob.mayRl x.b=false):=fun h=>by rw [HV.out,aM4 (p:=fun m:MV=>mayM m.m) hlt h,Bool.false_and]
      have hE2:x.ms[k].at_ wr:=hE
      have C2:=fun W (h:Below wr.heap.size wr W)=>hide (aW5 x.ms[k].m x.ms[k].vh x.ms[k].vq W (hE2.below h).1 (hE2.below h).2 ok1)
      have HP:Hid (0=0):=rfl
      clear hall ha hg hE hE2 ok1
      generalize mayM x.ms[k].m=y2 at *
      generalize x.ms[k]=s at *
      obtain ⟨⟨mk,mv,mm,mh,mq⟩,ah,ch,aq,cq⟩:=s
      dsimp only [MV.vh,MV.vq,mV] at *
      go_wp2_with fail
      cases y2
      ·refine (aA5 ((C2 _ (Below.refl _ _)).out)).mono ?_
       rintro e x ⟨rfl,q,rfl⟩
       go_wp2_with fail
       go_ret
       exact ⟨aA1 (HG.out (by simp)).symm,bb2 (bb2 HB1.out hB) q.h⟩
      ·refine (aA5 ((C2 _ (Below.refl _ _)).out)).mono ?_
       rintro e x ⟨rfl,q,rfl⟩
       go_wp2_with fail
       exact ⟨⟨k+1,by omega,by go_num,HT.out (by simp),bb2 hB q.h⟩,by simp [intOf];omega⟩
     ·obtain rfl:k=x.ms.length:=by omega
      have hlt':¬ (x.ms.length:Int)<(x.ms.length:Int):=by omega
      have HALL:Hid (x.ms.all (fun m=>mayM m.m)=true):=aNr (fun j hj=>hall.out j hj hj)
      clear hall
      go_wp2_with fail
      clear o0 oq0 hlen hlt hlt' hk hBw
      go_loopw [4] (fun i wr=>∃ k:Nat,k≤x.bs.length∧i=.int .i64 k∧Hid (∀ j,j<k→∀ (hj:j<x.bs.length),Ob.mayBk x.bs[j]=true)∧Below X.heap.size X wr) (fun i _=>x.bs.length - (intOf i).toNat)
      case atStart=>exact ⟨0,Nat.zero_le _,rfl,fun j hj=>absurd hj (by omega),hB⟩
      case round =>
       clear hB
       obtain ⟨k,hk,rfl,hall,hB⟩:=hrel
       have hBw:=bb2 HB1.out hB
       have hlen:=HX.out.bs.len
       have kb:wr.heap[w.heap.size]?=some (.cells #[x.vm,x.vf,x.vb] 76):=aA2 HK0.out hB
       have o2:wr.cell? ⟨w.heap.size,2,none⟩=some (.slice x.ab x.bs.length x.cb):=aA0 kb (i:=2) rfl
       have oq2:∀ q:GB wr,q.W.cell? ⟨w.heap.size,2,none⟩=some (.slice x.ab x.bs.length x.cb):=fun q=>aA0 (aA2 kb q.h) (i:=2) rfl
       clear kb
       by_cases hlt:k<x.bs.length
       ·have hlt':(k:Int)<(x.bs.length:Int):=by omega
        obtain ⟨hE,g,off,ha,hg,p0,p1,p2,p3,p4⟩:=oneK HX.out.bs hBw hlt
        rw [ha] at o2 oq2
        have ok1:=HOK.out.bs _ (List.getElem_mem hlt)
        have HT:Hid (Ob.mayBk x.bs[k]=true→∀ j,j<k+1→∀ (hj:j<x.bs.length),Ob.mayBk x.bs[j]=true):=fun h=>aC9 hall.out (fun _=>h)
        have HG:Hid (Ob.mayBk x.bs[k]=false→Ob.mayRl x.b=false):=fun h=>by rw [HV.out,aM4 hlt h,Bool.and_false]
        have hBO:=hB
        clear hall ha hg hE
        generalize x.bs[k]=s at *
        obtain ⟨⟨rk,rs,rn⟩,p,wt⟩:=s
        dsimp only at *
        have HP:Hid (_=_):=aPe rk rs rn p wt
        obtain ⟨Y,hY⟩:∃ z,z=wr.alloc (.cells #[.int .i64 rk,.string rs,.string rn,.int .i64 p,.int .i64 wt] 91):=⟨_,rfl⟩
        have hBY:Below wr.heap.size wr Y:=by rw [hY];exact (Below.refl _ _).alloc (Nat.le_refl _) _
        have hBX:=bb2 hB hBY
        have kz:Y.heap[wr.heap.size]?=some (.cells #[.int .i64 rk,.string rs,.string rn,.int .i64 p,.int .i64 wt] 91):=by rw [hY];exact aA7 _ _
        have zq0:=fun q:GB Y=>aA0 (aA2 kz q.h) (i:=0) rfl
        have zq1:=fun q:GB Y=>aA0 (aA2 kz q.h) (i:=1) rfl
        have zq2:=fun q:GB Y=>aA0 (aA2 kz q.h) (i:=2) rfl
        have zq3:=fun q:GB Y=>aA0 (aA2 kz q.h) (i:=3) rfl
        have zq4:=fun q:GB Y=>aA0 (aA2 kz q.h) (i:=4) rfl
        have C1:=fun W (h:Below Y.heap.size Y W)=>hide (aGw rk W)
        have C2:=fun W (h:Below Y.heap.size Y W)=>hide (aDl rs W ok1.space)
        have C3:=fun W (h:Below Y.heap.size Y W)=>hide (aEr rn W ok1.name)
        have C4:=fun W (h:Below Y.heap.size Y W)=>hide (aE8 p W)
        clear ok1 kz hBO
        generalize Ob.mayBk ⟨⟨rk,rs,rn⟩,p,wt⟩=zz at *
        generalize Ob.isKind rk=y1 at *
        generalize Ob.isSpace rs=y2 at *
        generalize Ob.isN rn=y3 at *
        generalize Ob.isPort p=y4 at *
        go_wp2_with fail
        rw [←hY]
        clear hY
        cases y1
        ·refine (aA5 ((C1 _ (Below.refl _ _)).out)).mono ?_
         rintro e x ⟨rfl,q,rfl⟩
         go_wp2_with fail
         go_ret
         exact ⟨aA1 (HG.out (by rw [HP.out];simp)).symm,bb2 (bb2 HB1.out hBX) q.h⟩
        ·refine (aA5 ((C1 _ (Below.refl _ _)).out)).mono ?_
         rintro e x ⟨rfl,q,rfl⟩
         go_wp2_with fail
         cases y2
         ·refine (aA3 ((C2 _ q.h).out)).mono ?_
          rintro e x ⟨rfl,q,rfl⟩
          go_wp2_with fail
          go_ret
          exact ⟨aA1 (HG.out (by rw [HP.out];simp)).symm,bb2 (bb2 HB1.out hBX) q.h⟩
         ·refine (aA3 ((C2 _ q.h).out)).mono ?_
          rintro e x ⟨rfl,q,rfl⟩
          go_wp2_with fail
          cases y3
          ·refine (aA3 ((C3 _ q.h).out)).mono ?_
           rintro e x ⟨rfl,q,rfl⟩
           go_wp2_with fail
           go_ret
           exact ⟨aA1 (HG.out (by rw [HP.out];simp)).symm,bb2 (bb2 HB1.out hBX) q.h⟩
          ·by_cases hn1:p=0
           ·subst hn1
            cases ht2:(decide (wt<0))
            ·rw [ht2] at HP
             cases ht3:(decide (1000<wt))
             ·rw [ht3] at HP
              refine (aA3 ((C3 _ q.h).out)).mono ?_
              rintro e x ⟨rfl,q,rfl⟩
              go_wp2_with fail
              exact ⟨⟨k+1,by omega,by go_num,HT.out (by rw [HP.out];simp),bb2 hBX q.h⟩,by simp [intOf];omega⟩
             ·rw [ht3] at HP
              refine (aA3 ((C3 _ q.h).out)).mono ?_
              rintro e x ⟨rfl,q,rfl⟩
              go_wp2_with fail
              go_ret
              exact ⟨aA1 (HG.out (by rw [HP.out];simp)).symm,bb2 (bb2 HB1.out hBX) q.h⟩
            ·rw [ht2] at HP
             refine (aA3 ((C3 _ q.h).out)).mono ?_
             rintro e x ⟨rfl,q,rfl⟩
             go_wp2_with fail
             go_ret
             exact ⟨aA1 (HG.out (by rw [HP.out];simp)).symm,bb2 (bb2 HB1.out hBX) q.h⟩
           ·have hn11:(p == 0)=false:=by simpa using hn1
            have hn12:(p != 0)=true:=by simpa using hn1
            have hn13:=hide hn1
            rw [decide_eq_false hn1] at HP
            clear hn1
            refine (aA3 ((C3 _ q.h).out)).mono ?_
            rintro e x ⟨rfl,q,rfl⟩
            go_wp2_with fail
            cases y4
            ·refine (aA3 ((C4 _ q.h).out)).mono ?_
             rintro e x ⟨rfl,q,rfl⟩
             go_wp2_with fail
             go_ret
             exact ⟨aA1 (HG.out (by rw [HP.out];simp)).symm,bb2 (bb2 HB1.out hBX) q.h⟩
            ·cases ht4:(decide (wt<0))
             ·rw [ht4] at HP
              cases ht5:(decide (1000<wt))
              ·rw [ht5] at HP
               refine (aA3 ((C4 _ q.h).out)).mono ?_
               rintro e x ⟨rfl,q,rfl⟩
               go_wp2_with fail
               exact ⟨⟨k+1,by omega,by go_num,HT.out (by rw [HP.out];simp),bb2 hBX q.h⟩,by simp [intOf];omega⟩
              ·rw [ht5] at HP
               refine (aA3 ((C4 _ q.h).out)).mono ?_
               rintro e x ⟨rfl,q,rfl⟩
               go_wp2_with fail
               go_ret
               exact ⟨aA1 (HG.out (by rw [HP.out];simp)).symm,bb2 (bb2 HB1.out hBX) q.h⟩
             ·rw [ht4] at HP
              refine (aA3 ((C4 _ q.h).out)).mono ?_
              rintro e x ⟨rfl,q,rfl⟩
              go_wp2_with fail
              go_ret
              exact ⟨aA1 (HG.out (by rw [HP.out];simp)).symm,bb2 (bb2 HB1.out hBX) q.h⟩
       ·obtain rfl:k=x.bs.length:=by omega
        have hlt':¬ (x.bs.length:Int)<(x.bs.length:Int):=by omega
        have HF:Hid (Ob.mayRl x.b=true):=by
         unfold Hid
         rw [HV.out,HALL.out,aNr (fun j hj=>hall.out j hj hj)]
         rfl
        clear hall
        go_wp2_with fail
        go_ret
        exact ⟨aA1 HF.out.symm,bb2 HB1.out hB⟩
  ·rw [ht2] at HP
   go_enter Tryz.func73,Tryz.ntmps73
   go_wp2_with fail
   go_ret
   exact ⟨aA1 (by rw [HP.out];simp),HB0.out⟩
 ·rw [ht1] at HP
  go_enter Tryz.func73,Tryz.ntmps73
  go_wp2_with fail
  go_ret
  exact ⟨aA1 (by rw [HP.out];simp),HB0.out⟩
end Go.Proofs.YthnodpdiocppgaaGreatDoor
