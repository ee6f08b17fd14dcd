/-
  Walks: the document's May, Holds.
-/
import Derived.Test.YthnodpdiocppgaaGreatDoorJ9
import Derived.Test.YthnodpdiocppgaaGreatDoorJ18
set_option maxHeartbeats 6400000
set_option maxRecDepth 20000
namespace Go.Proofs.YthnodpdiocppgaaGreatDoor
open Go Go.RowKit Go.Shelf
attribute [local go_sem] aAu
theorem aLz (s:ByteArray) (w:World) (hs:s.size≤100) :
  Calls Tryz.prog 130 #[.string s] w fun e w'=>e=.returned (.bool (aAi s))∧w'=w :=
 (aIp s w hs).mono fun _ _ ⟨h,hw⟩=>⟨h.is aFw,hw⟩
theorem aM0 (s:ByteArray) (w:World) (hs:s.size≤100) :
  Calls Tryz.prog 131 #[.string s] w fun e w'=>e=.returned (.bool (aAr s))∧w'=w :=
 (aIq s w hs).mono fun _ _ ⟨h,hw⟩=>⟨h.is aFx,hw⟩
theorem aV7 (v:Value) (l:List aAa) (w:World) (hv:Prs w v l) (hok:∀ p∈l,okP p) :
  Calls Tryz.prog 129 #[v] w fun e w'=>e=.returned (.bool (Qu.may (l.map pl)))∧Below w.heap.size w w' :=
 (aQg v l w hv hok).mono fun _ _ ⟨h,hw⟩=>⟨h,by rw [hw];exact Below.refl _ _⟩
section
variable {same:ByteArray→ByteArray→Bool} {l:List aAa}
def FarR (same:ByteArray→ByteArray→Bool) (l:List aAa) (k:Nat):Prop:=∀ x y (hx:x<l.length) (hy:y<l.length),x<k→y<x→same l[x].1 l[y].1=false
theorem aFb {k:Nat} (h:FarR same l k) (hn:∀ y (hy:y<l.length) (hk:k<l.length),y<k→same l[k].1 l[y].1=false):FarR same l (k+1):=by
 intro x y hx hy hxk hyx
 rcases Nat.lt_or_ge x k with h1 | h1
 ·exact h x y hx hy h1 hyx
 ·obtain rfl:x=k:=by omega
  exact hn y hy hx hyx
theorem aFc (h:FarR same l l.length):farB same l=true:=by
 rw [aFy]
 intro x y hx hy hyx
 exact h x y hx hy hx hyx
theorem aGb {k j:Nat} (hk:k<l.length) (hj:j<l.length) (hjk:j<k) (hn:same l[k].1 l[j].1=true):farB same l=false:=by
 cases hf:farB same l
 ·rfl
 ·rw [aFy] at hf
  rw [hf k j hk hj hjk] at hn
  cases hn
end
theorem aM1 {l:List aAa} (h:farB aAt l=false):aBj l=false:=by
 unfold aBj
 rw [h,Bool.and_false,Bool.and_false]
theorem aK8 {l:List aAa} (h:farB aB5 l=false):aBa l=false:=by
 unfold aBa
 rw [h,Bool.and_false,Bool.and_false]
theorem aM2 {l:List aAa} (h8:¬ 8<l.length) (h:∀ j (hj:j<l.length),j<l.length→(aAi l[j].1&&aAr l[j].2)=true) (hf:farB aAt l=true):aBj l=true:=by
 have h1:l.all (fun p=>aAi p.1&&aAr p.2)=true:=by
  rw [List.all_eq_true]
  intro p hp
  obtain ⟨j,hj,rfl⟩:=List.getElem_of_mem hp
  exact h j hj hj
 unfold aBj
 rw [h1,hf,decide_eq_true (by omega)]
 rfl
theorem aK9 {l:List aAa} (h8:¬ 8<l.length) (h:Qu.may (l.map pl)=true) (hf:farB aB5 l=true):aBa l=true:=by
 unfold aBa
 rw [h,hf,decide_eq_true (by omega)]
 rfl
theorem aW5 (m:MB) (vh vq:Value) (w:World) (hh:Prs w vh m.head) (hq:Prs w vq m.query) (ok:OkM m) :
  Calls Tryz.prog 96 #[mV m vh vq] w fun e w'=>e=.returned (.bool (mayM m))∧Below w.heap.size w w':=by
 have HP:=hide (aK1 m)
 have C1:=fun W=>hide (aQf m.kind m.val W (aBc (by have:=ok.val;omega)))
 have C2:=fun W=>hide (aQm m.meth W (aBc (by have:=ok.meth;omega)))
 have C4:=fun W (h:Below w.heap.size w W)=>hide (aV7 vq m.query W (hq.below h) (aJg ok.query))
 have HOK:=hide ok.head
 have HOKQ:=hide ok.query
 have lh:=ok.hlen
 have lq:=ok.qlen
 clear ok
 generalize mayM m=r at *
 obtain ⟨k,v,t,hd,qu⟩:=m
 dsimp only at *
 obtain ⟨a,ca,rfl,_,_,hc⟩:=hh
 obtain ⟨b,cb,rfl,_,_,hc2⟩:=hq
 have HC:=hide hc
 have HC2:=hide hc2
 clear hc hc2
 obtain ⟨base,hbase⟩:∃ z,z=(w.alloc (.cells #[.int .i64 k,.string v,.string t,.slice a hd.length ca,.slice b qu.length cb] 88)):=⟨_,rfl⟩
 have B0:Below w.heap.size w base:=by rw [hbase];exact (Below.refl _ _).alloc (Nat.le_refl _) _
 have HB:∀ W,Below base.heap.size base W→(W.cell? ⟨w.heap.size,0,none⟩=some (.int .i64 k)∧W.cell? ⟨w.heap.size,1,none⟩=some (.string v)∧W.cell? ⟨w.heap.size,2,none⟩=some (.string t)∧W.cell? ⟨w.heap.size,3,none⟩=some (.slice a hd.length ca)∧W.cell? ⟨w.heap.size,4,none⟩=some (.slice b qu.length cb)):=fun W h=>box5 (by rw [←hbase];exact h)
 have m0:=fun q:GB base=>(HB q.W q.h).1
 have m1:=fun q:GB base=>(HB q.W q.h).2.1
 have m2:=fun q:GB base=>(HB q.W q.h).2.2.1
 have m3:=fun q:GB base=>(HB q.W q.h).2.2.2.1
 have m4:=fun q:GB base=>(HB q.W q.h).2.2.2.2
 have HBH:=hide HB
 clear HB
 have HFH:Hid (aBj hd=false→r=false):=fun h=>by rw [HP.out,h];simp
 have HFQ:Hid (aBa qu=false→r=false):=fun h=>by rw [HP.out,h];simp
 have e0:=(⟨base,Below.refl _ _⟩:GB base)
 have z0:=m0 ⟨base,Below.refl _ _⟩
 have z1:=m1 ⟨base,Below.refl _ _⟩
 dsimp only at z0 z1
 cases hx1:mayP k v.data.toList
 ·have HE:Hid (false=r):=by unfold Hid;rw [HP.out,hx1];rfl
  rw [hx1] at C1
  clear hx1
  go_enter Tryz.func96,Tryz.ntmps96
  go_wp2_with fail
  rw [←hbase]
  refine (aA5 ((C1 _).out)).mono ?_
  rintro e x ⟨rfl,q,rfl⟩
  go_wp2_with fail
  go_ret
  exact ⟨aA1 HE.out,bb2 B0 q.h⟩
 rw [hx1] at C1
 have HP1:Hid (r=((t.toList.isEmpty||aB9 t)&&(aBj hd&&aBa qu))):=by unfold Hid;rw [HP.out,hx1];rfl
 clear HP hx1
 by_cases h8:8<hd.length
 ·have t8:(8:Int)<(hd.length:Int):=by omega
  have HE:Hid (false=r):=(HFH.out (aJz h8)).symm
  cases he:t.toList.isEmpty
  ·cases hm:aB9 t
   ·rw [hm] at C2
    clear hm
    go_enter Tryz.func96,Tryz.ntmps96
    go_wp2_with fail
    rw [←hbase]
    refine (aA5 ((C1 _).out)).mono ?_
    rintro e x ⟨rfl,q,rfl⟩
    go_wp2_with fail
    refine (aA3 ((C2 _).out)).mono ?_
    rintro e x ⟨rfl,q,rfl⟩
    go_wp2_with fail
    go_ret
    exact ⟨aA1 HE.out,bb2 B0 q.h⟩
   ·rw [hm] at C2
    clear hm
    go_enter Tryz.func96,Tryz.ntmps96
    go_wp2_with fail
    rw [←hbase]
    refine (aA5 ((C1 _).out)).mono ?_
    rintro e x ⟨rfl,q,rfl⟩
    go_wp2_with fail
    refine (aA3 ((C2 _).out)).mono ?_
    rintro e x ⟨rfl,q,rfl⟩
    go_wp2_with fail
    go_ret
    exact ⟨aA1 HE.out,bb2 B0 q.h⟩
  ·go_enter Tryz.func96,Tryz.ntmps96
   go_wp2_with fail
   rw [←hbase]
   refine (aA5 ((C1 _).out)).mono ?_
   rintro e x ⟨rfl,q,rfl⟩
   go_wp2_with fail
   go_ret
   exact ⟨aA1 HE.out,bb2 B0 q.h⟩
 have t8:¬ (8:Int)<(hd.length:Int):=by omega
 by_cases h9:8<qu.length
 ·have t9:(8:Int)<(qu.length:Int):=by omega
  have HE:Hid (false=r):=(HFQ.out (aIr h9)).symm
  cases he:t.toList.isEmpty
  ·cases hm:aB9 t
   ·rw [hm] at C2
    clear hm
    go_enter Tryz.func96,Tryz.ntmps96
    go_wp2_with fail
    rw [←hbase]
    refine (aA5 ((C1 _).out)).mono ?_
    rintro e x ⟨rfl,q,rfl⟩
    go_wp2_with fail
    refine (aA3 ((C2 _).out)).mono ?_
    rintro e x ⟨rfl,q,rfl⟩
    go_wp2_with fail
    go_ret
    exact ⟨aA1 HE.out,bb2 B0 q.h⟩
   ·rw [hm] at C2
    clear hm
    go_enter Tryz.func96,Tryz.ntmps96
    go_wp2_with fail
    rw [←hbase]
    refine (aA5 ((C1 _).out)).mono ?_
    rintro e x ⟨rfl,q,rfl⟩
    go_wp2_with fail
    refine (aA3 ((C2 _).out)).mono ?_
    rintro e x ⟨rfl,q,rfl⟩
    go_wp2_with fail
    go_ret
    exact ⟨aA1 HE.out,bb2 B0 q.h⟩
  ·go_enter Tryz.func96,Tryz.ntmps96
   go_wp2_with fail
   rw [←hbase]
   refine (aA5 ((C1 _).out)).mono ?_
   rintro e x ⟨rfl,q,rfl⟩
   go_wp2_with fail
   go_ret
   exact ⟨aA1 HE.out,bb2 B0 q.h⟩
 have t9:¬ (8:Int)<(qu.length:Int):=by omega
 cases hqm:Qu.may (qu.map pl)
 ·have HE:Hid (false=r):=(HFQ.out (aK0 hqm)).symm
  rw [hqm] at C4
  clear hqm
  cases he:t.toList.isEmpty
  ·cases hm:aB9 t
   ·rw [hm] at C2
    clear hm
    go_enter Tryz.func96,Tryz.ntmps96
    go_wp2_with fail
    rw [←hbase]
    refine (aA5 ((C1 _).out)).mono ?_
    rintro e x ⟨rfl,q,rfl⟩
    go_wp2_with fail
    refine (aA3 ((C2 _).out)).mono ?_
    rintro e x ⟨rfl,q,rfl⟩
    go_wp2_with fail
    go_ret
    exact ⟨aA1 HE.out,bb2 B0 q.h⟩
   ·rw [hm] at C2
    clear hm
    go_enter Tryz.func96,Tryz.ntmps96
    go_wp2_with fail
    rw [←hbase]
    refine (aA5 ((C1 _).out)).mono ?_
    rintro e x ⟨rfl,q,rfl⟩
    go_wp2_with fail
    refine (aA3 ((C2 _).out)).mono ?_
    rintro e x ⟨rfl,q,rfl⟩
    go_wp2_with fail
    refine (aA3 ((C4 _ (bb2 B0 q.h)).out)).mono ?_
    rintro e x ⟨rfl,q,rfl⟩
    go_wp2_with fail
    go_ret
    exact ⟨aA1 HE.out,bb2 B0 q.h⟩
  ·go_enter Tryz.func96,Tryz.ntmps96
   go_wp2_with fail
   rw [←hbase]
   refine (aA5 ((C1 _).out)).mono ?_
   rintro e x ⟨rfl,q,rfl⟩
   go_wp2_with fail
   refine (aA3 ((C4 _ (bb2 B0 q.h)).out)).mono ?_
   rintro e x ⟨rfl,q,rfl⟩
   go_wp2_with fail
   go_ret
   exact ⟨aA1 HE.out,bb2 B0 q.h⟩
 have HQM:=hide hqm
 rw [hqm] at C4
 clear hqm
 cases he:t.toList.isEmpty
 ·cases hm:aB9 t
  ·have HE:Hid (false=r):=by unfold Hid;rw [HP1.out,he,hm];rfl
   rw [hm] at C2
   clear hm
   go_enter Tryz.func96,Tryz.ntmps96
   go_wp2_with fail
   rw [←hbase]
   refine (aA5 ((C1 _).out)).mono ?_
   rintro e x ⟨rfl,q,rfl⟩
   go_wp2_with fail
   refine (aA3 ((C2 _).out)).mono ?_
   rintro e x ⟨rfl,q,rfl⟩
   go_wp2_with fail
   go_ret
   exact ⟨aA1 HE.out,bb2 B0 q.h⟩
  ·have HY:Hid (aBj hd=true→aBa qu=true→r=true):=fun h1 h2=>by rw [HP1.out,he,hm,h1,h2];rfl
   rw [hm] at C2
   clear hm HP1
   go_enter Tryz.func96,Tryz.ntmps96
   go_wp2_with fail
   rw [←hbase]
   refine (aA5 ((C1 _).out)).mono ?_
   rintro e x ⟨rfl,q,rfl⟩
   go_wp2_with fail
   refine (aA3 ((C2 _).out)).mono ?_
   rintro e x ⟨rfl,q,rfl⟩
   go_wp2_with fail
   refine (aA3 ((C4 _ (bb2 B0 q.h)).out)).mono ?_
   rintro e x ⟨rfl,q,rfl⟩
   go_wp2_with fail
   have hBq:=q.h
   clear hbase C1 C2 C4 z0 z1 e0
   obtain ⟨wq,hwq⟩:∃ z,z=q.W:=⟨_,rfl⟩
   rw [←hwq] at hBq ⊢
   clear hwq q
   go_loopw [3] (fun i wr=>∃ k:Nat,k≤hd.length∧i=.int .i64 k∧Hid (∀ j (hj:j<hd.length),j<k→(aAi hd[j].1&&aAr hd[j].2)=true)∧Hid (FarR aAt hd k)∧Below base.heap.size base wr) (fun i _=>hd.length - (intOf i).toNat)
   case atStart=>exact ⟨0,Nat.zero_le _,rfl,fun _ _ h=>absurd h (by omega),fun _ _ _ _ h=>absurd h (by omega),hBq⟩
   case round =>
    clear hBq wq
    obtain ⟨wo,rfl⟩:∃ x,x=wr:=⟨wr,rfl⟩
    obtain ⟨i,hi,rfl,hall,hfar,hB⟩:=hrel
    have c3:=m3 ⟨wo,hB⟩
    dsimp only at c3
    by_cases hlt:i<hd.length
    ·have hlt':(i:Int)<(hd.length:Int):=by omega
     obtain ⟨g,off,rfl,hg,D1,D2⟩:=HC.out i hlt
     replace D1:=fun W (h:Below w.heap.size w W)=>(h.cell (p:=⟨g,off+i*2,none⟩) hg).trans D1
     replace D2:=fun W (h:Below w.heap.size w W)=>(h.cell (p:=⟨g,off+i*2+1,none⟩) hg).trans D2
     obtain ⟨o1,o2⟩:=HOK.out _ (List.getElem_mem hlt)
     have HBAD:=hide (aHx hlt)
     have HAN:Hid ((aAi hd[i].1&&aAr hd[i].2)=true→∀ j (hj:j<hd.length),j<i+1→(aAi hd[j].1&&aAr hd[j].2)=true):=fun h j hj hjk=>by
      rcases Nat.lt_or_ge j i with h1 | h1
      ·exact hall.out j hj h1
      ·obtain rfl:j=i:=by omega
       exact h
     have HFN:Hid ((∀ y (hy:y<hd.length),y<i→aAt hd[i].1 hd[y].1=false)→FarR aAt hd (i+1)):=fun h=>aFb hfar.out (fun y hy _ hyk=>h y hy hyk)
     have HNOT:Hid (∀ j (hj:j<hd.length),j<i→aAt hd[i].1 hd[j].1=true→farB aAt hd=false):=fun j hj hjk h=>aGb hlt hj hjk h
     clear hall hfar
     generalize hp1:hd[i].1=p1 at *
     generalize hp2:hd[i].2=p2 at *
     clear hp1 hp2
     have CT:=fun W=>hide (aLz p1 W o1)
     have CV:=fun W=>hide (aM0 p2 W o2)
     have d1:=D1 wo (bb2 B0 hB)
     have d2:=D2 wo (bb2 B0 hB)
     cases ht:aAi p1
     ·have HE:Hid (false=r):=(HFH.out (HBAD.out (by rw [ht];rfl))).symm
      rw [ht] at CT
      clear ht HBAD HAN HFN HNOT
      go_wp2_with fail
      refine ((CT _).out).mono ?_
      rintro e x ⟨rfl,hx⟩
      subst x
      go_wp2_with fail
      go_ret
      exact ⟨aA1 HE.out,bb2 B0 hB⟩
     rw [ht] at CT
     cases hvv:aAr p2
     ·have HE:Hid (false=r):=(HFH.out (HBAD.out (by rw [ht,hvv];rfl))).symm
      rw [hvv] at CV
      clear ht hvv HBAD HAN HFN HNOT
      go_wp2_with fail
      refine ((CT _).out).mono ?_
      rintro e x ⟨rfl,hx⟩
      subst x
      go_wp2_with fail
      refine ((CV _).out).mono ?_
      rintro e x ⟨rfl,hx⟩
      subst x
      go_wp2_with fail
      go_ret
      exact ⟨aA1 HE.out,bb2 B0 hB⟩
     have HAN':=hide (HAN.out (by rw [ht,hvv];rfl))
     rw [hvv] at CV
     clear ht hvv HBAD HAN
     go_wp2_with fail
     refine ((CT _).out).mono ?_
     rintro e x ⟨rfl,hx⟩
     subst x
     go_wp2_with fail
     refine ((CV _).out).mono ?_
     rintro e x ⟨rfl,hx⟩
     subst x
     go_wp2_with fail
     clear CT CV
     go_loopw [4] (fun j wi=>∃ n:Nat,n≤i∧j=.int .i64 n∧Hid (∀ y (hy:y<hd.length),y<n→aAt p1 hd[y].1=false)∧Below base.heap.size base wi) (fun j _=>i - (intOf j).toNat)
     case atStart=>exact ⟨0,Nat.zero_le _,rfl,fun y _ h=>absurd h (by omega),hB⟩
     case round =>
      clear hB c3 d1 d2 wo
      obtain ⟨wi,rfl⟩:∃ x,x=wr:=⟨wr,rfl⟩
      obtain ⟨n,hn,rfl,hno,hI⟩:=hrel
      by_cases hni:n<i
      ·have hni':(n:Int)<(i:Int):=by omega
       have hnl:n<hd.length:=by omega
       have hnl':(n:Int)<(hd.length:Int):=by omega
       obtain ⟨g',off',he',_,E1,_⟩:=HC.out n hnl
       injection he' with he'
       injection he' with he1 he2
       subst he1 he2
       replace E1:=fun W (h:Below w.heap.size w W)=>(h.cell (p:=⟨g,off+n*2,none⟩) hg).trans E1
       obtain ⟨o3,_⟩:=HOK.out _ (List.getElem_mem hnl)
       have CS:=fun W=>hide (aE3 p1 hd[n].1 W o1 o3)
       have HNX:Hid (aAt p1 hd[n].1=false→∀ y (hy:y<hd.length),y<n+1→aAt p1 hd[y].1=false):=fun h y hy hyn=>by
        rcases Nat.lt_or_ge y n with h1 | h1
        ·exact hno.out y hy h1
        ·obtain rfl:y=n:=by omega
         exact h
       have HF:=hide (HNOT.out n hnl hni)
       have f1:=fun q:GB wi=>D1 q.W (bb2 B0 (hI.trans (q.h.mono hI.size)))
       have f2:=fun q:GB wi=>E1 q.W (bb2 B0 (hI.trans (q.h.mono hI.size)))
       have f3:=fun q:GB wi=>m3 ⟨q.W,hI.trans (q.h.mono hI.size)⟩
       dsimp only at f3
       cases hs:aAt p1 hd[n].1
       ·have HN:=hide (HNX.out hs)
        rw [hs] at CS
        clear hs HNX HF
        generalize hd[n].1=p3 at *
        go_wp2_with fail
        refine aA6 (by kernel_rfl) (by kernel_rfl) ?_
        repeat (first | go_big_quiet_step ((go_at_call 126;exact aA3 (CS _).out)) | quiet_step ((go_at_call 126;exact aA3 (CS _).out)))
        refine wpQuiet_nil ?_
        intro _ hw'
        obtain ⟨qq,hw2⟩:=hw'
        subst hw2
        have hq:=hI.trans (qq.h.mono hI.size)
        go_wp2_with fail
        exact ⟨⟨n+1,by omega,by go_num,HN.out,hq⟩,by simp [intOf];omega⟩
       ·have HE:Hid (false=r):=(HFH.out (aM1 (HF.out hs))).symm
        rw [hs] at CS
        clear hs HNX HF
        generalize hd[n].1=p3 at *
        go_wp2_with fail
        refine aA6 (by kernel_rfl) (by kernel_rfl) ?_
        repeat (first | go_big_quiet_step ((go_at_call 126;exact aA3 (CS _).out)) | quiet_step ((go_at_call 126;exact aA3 (CS _).out)))
        refine wpQuiet_nil ?_
        intro _ hw'
        obtain ⟨qq,hw2⟩:=hw'
        subst hw2
        have hq:=hI.trans (qq.h.mono hI.size)
        go_wp2_with fail
        go_ret
        exact ⟨aA1 HE.out,bb2 B0 hq⟩
      ·have hni':¬ (n:Int)<(i:Int):=by omega
       have HN:=hide (HFN.out (fun y hy hyi=>hno.out y hy (by omega)))
       go_wp2_with fail
       exact ⟨⟨i+1,by omega,by go_num,HAN'.out,HN.out,hI⟩,by simp [intOf];omega⟩
    ·have hlt':¬ (i:Int)<(hd.length:Int):=by omega
     obtain rfl:i=hd.length:=by omega
     have HHY:=hide (aM2 h8 hall.out (aFc hfar.out))
     clear hall hfar
     go_wp2_with fail
     go_loopw [5] (fun i wr=>∃ k:Nat,k≤qu.length∧i=.int .i64 k∧Hid (FarR aB5 qu k)∧Below base.heap.size base wr) (fun i _=>qu.length - (intOf i).toNat)
     case atStart=>exact ⟨0,Nat.zero_le _,rfl,fun _ _ _ _ h=>absurd h (by omega),hB⟩
     case round =>
      clear hB c3 wo
      obtain ⟨wo,rfl⟩:∃ x,x=wr:=⟨wr,rfl⟩
      obtain ⟨i,hi,rfl,hfar,hB⟩:=hrel
      have c4:=m4 ⟨wo,hB⟩
      dsimp only at c4
      by_cases hlt:i<qu.length
      ·have hlt':(i:Int)<(qu.length:Int):=by omega
       obtain ⟨g,off,rfl,hg,D1,D2⟩:=HC2.out i hlt
       replace D1:=fun W (h:Below w.heap.size w W)=>(h.cell (p:=⟨g,off+i*2,none⟩) hg).trans D1
       have HFN:Hid ((∀ y (hy:y<qu.length),y<i→aB5 qu[i].1 qu[y].1=false)→FarR aB5 qu (i+1)):=fun h=>aFb hfar.out (fun y hy _ hyk=>h y hy hyk)
       have HNOT:Hid (∀ j (hj:j<qu.length),j<i→aB5 qu[i].1 qu[j].1=true→farB aB5 qu=false):=fun j hj hjk h=>aGb hlt hj hjk h
       clear hfar D2
       generalize hp1:qu[i].1=p1 at *
       clear hp1
       go_wp2_with fail
       go_loopw [6] (fun j wi=>∃ n:Nat,n≤i∧j=.int .i64 n∧Hid (∀ y (hy:y<qu.length),y<n→aB5 p1 qu[y].1=false)∧Below base.heap.size base wi) (fun j _=>i - (intOf j).toNat)
       case atStart=>exact ⟨0,Nat.zero_le _,rfl,fun y _ h=>absurd h (by omega),hB⟩
       case round =>
        clear hB c4 wo
        obtain ⟨wi,rfl⟩:∃ x,x=wr:=⟨wr,rfl⟩
        obtain ⟨n,hn,rfl,hno,hI⟩:=hrel
        by_cases hni:n<i
        ·have hni':(n:Int)<(i:Int):=by omega
         have hnl:n<qu.length:=by omega
         have hnl':(n:Int)<(qu.length:Int):=by omega
         obtain ⟨g',off',he',_,E1,_⟩:=HC2.out n hnl
         injection he' with he'
         injection he' with he1 he2
         subst he1 he2
         replace E1:=fun W (h:Below w.heap.size w W)=>(h.cell (p:=⟨g,off+n*2,none⟩) hg).trans E1
         have HNX:Hid (aB5 p1 qu[n].1=false→∀ y (hy:y<qu.length),y<n+1→aB5 p1 qu[y].1=false):=fun h y hy hyn=>by
          rcases Nat.lt_or_ge y n with h1 | h1
          ·exact hno.out y hy h1
          ·obtain rfl:y=n:=by omega
           exact h
         have HF:=hide (HNOT.out n hnl hni)
         have f1:=fun q:GB wi=>D1 q.W (bb2 B0 (hI.trans (q.h.mono hI.size)))
         have f2:=fun q:GB wi=>E1 q.W (bb2 B0 (hI.trans (q.h.mono hI.size)))
         have f4:=fun q:GB wi=>m4 ⟨q.W,hI.trans (q.h.mono hI.size)⟩
         dsimp only at f4
         have HBD:=hide (aFi p1 qu[n].1)
         cases hs:aB5 p1 qu[n].1
         ·have HN:=hide (HNX.out hs)
          have hbe:(p1.toList == qu[n].1.toList)=false:=HBD.out.trans hs
          clear hs HNX HF HBD
          generalize qu[n].1=p3 at *
          go_wp2_with fail
          refine aA6 (by kernel_rfl) (by kernel_rfl) ?_
          repeat (first | go_big_quiet_step (fail) | quiet_step (fail))
          refine wpQuiet_nil ?_
          intro _ hw'
          obtain ⟨qq,hw2⟩:=hw'
          subst hw2
          have hq:=hI.trans (qq.h.mono hI.size)
          go_wp2_with fail
          exact ⟨⟨n+1,by omega,by go_num,HN.out,hq⟩,by simp [intOf];omega⟩
         ·have HE:Hid (false=r):=(HFQ.out (aK8 (HF.out hs))).symm
          have hbe:(p1.toList == qu[n].1.toList)=true:=HBD.out.trans hs
          clear hs HNX HF HBD
          generalize qu[n].1=p3 at *
          go_wp2_with fail
          refine aA6 (by kernel_rfl) (by kernel_rfl) ?_
          repeat (first | go_big_quiet_step (fail) | quiet_step (fail))
          refine wpQuiet_nil ?_
          intro _ hw'
          obtain ⟨qq,hw2⟩:=hw'
          subst hw2
          have hq:=hI.trans (qq.h.mono hI.size)
          go_wp2_with fail
          go_ret
          exact ⟨aA1 HE.out,bb2 B0 hq⟩
        ·have hni':¬ (n:Int)<(i:Int):=by omega
         have HN:=hide (HFN.out (fun y hy hyi=>hno.out y hy (by omega)))
         go_wp2_with fail
         exact ⟨⟨i+1,by omega,by go_num,HN.out,hI⟩,by simp [intOf];omega⟩
      ·have hlt':¬ (i:Int)<(qu.length:Int):=by omega
       obtain rfl:i=qu.length:=by omega
       have HE:Hid (true=r):=(HY.out HHY.out (aK9 h9 HQM.out (aFc hfar.out))).symm
       go_wp2_with fail
       go_ret
       exact ⟨aA1 HE.out,bb2 B0 hB⟩
 ·have HY:Hid (aBj hd=true→aBa qu=true→r=true):=fun h1 h2=>by rw [HP1.out,he,h1,h2];rfl
  clear HP1
  go_enter Tryz.func96,Tryz.ntmps96
  go_wp2_with fail
  rw [←hbase]
  refine (aA5 ((C1 _).out)).mono ?_
  rintro e x ⟨rfl,q,rfl⟩
  go_wp2_with fail
  refine (aA3 ((C4 _ (bb2 B0 q.h)).out)).mono ?_
  rintro e x ⟨rfl,q,rfl⟩
  go_wp2_with fail
  have hBq:=q.h
  clear hbase C1 C2 C4 z0 z1 e0
  obtain ⟨wq,hwq⟩:∃ z,z=q.W:=⟨_,rfl⟩
  rw [←hwq] at hBq ⊢
  clear hwq q
  go_loopw [3] (fun i wr=>∃ k:Nat,k≤hd.length∧i=.int .i64 k∧Hid (∀ j (hj:j<hd.length),j<k→(aAi hd[j].1&&aAr hd[j].2)=true)∧Hid (FarR aAt hd k)∧Below base.heap.size base wr) (fun i _=>hd.length - (intOf i).toNat)
  case atStart=>exact ⟨0,Nat.zero_le _,rfl,fun _ _ h=>absurd h (by omega),fun _ _ _ _ h=>absurd h (by omega),hBq⟩
  case round =>
   clear hBq wq
   obtain ⟨wo,rfl⟩:∃ x,x=wr:=⟨wr,rfl⟩
   obtain ⟨i,hi,rfl,hall,hfar,hB⟩:=hrel
   have c3:=m3 ⟨wo,hB⟩
   dsimp only at c3
   by_cases hlt:i<hd.length
   ·have hlt':(i:Int)<(hd.length:Int):=by omega
    obtain ⟨g,off,rfl,hg,D1,D2⟩:=HC.out i hlt
    replace D1:=fun W (h:Below w.heap.size w W)=>(h.cell (p:=⟨g,off+i*2,none⟩) hg).trans D1
    replace D2:=fun W (h:Below w.heap.size w W)=>(h.cell (p:=⟨g,off+i*2+1,none⟩) hg).trans D2
    obtain ⟨o1,o2⟩:=HOK.out _ (List.getElem_mem hlt)
    have HBAD:=hide (aHx hlt)
    have HAN:Hid ((aAi hd[i].1&&aAr hd[i].2)=true→∀ j (hj:j<hd.length),j<i+1→(aAi hd[j].1&&aAr hd[j].2)=true):=fun h j hj hjk=>by
     rcases Nat.lt_or_ge j i with h1 | h1
     ·exact hall.out j hj h1
     ·obtain rfl:j=i:=by omega
      exact h
    have HFN:Hid ((∀ y (hy:y<hd.length),y<i→aAt hd[i].1 hd[y].1=false)→FarR aAt hd (i+1)):=fun h=>aFb hfar.out (fun y hy _ hyk=>h y hy hyk)
    have HNOT:Hid (∀ j (hj:j<hd.length),j<i→aAt hd[i].1 hd[j].1=true→farB aAt hd=false):=fun j hj hjk h=>aGb hlt hj hjk h
    clear hall hfar
    generalize hp1:hd[i].1=p1 at *
    generalize hp2:hd[i].2=p2 at *
    clear hp1 hp2
    have CT:=fun W=>hide (aLz p1 W o1)
    have CV:=fun W=>hide (aM0 p2 W o2)
    have d1:=D1 wo (bb2 B0 hB)
    have d2:=D2 wo (bb2 B0 hB)
    cases ht:aAi p1
    ·have HE:Hid (false=r):=(HFH.out (HBAD.out (by rw [ht];rfl))).symm
     rw [ht] at CT
     clear ht HBAD HAN HFN HNOT
     go_wp2_with fail
     refine ((CT _).out).mono ?_
     rintro e x ⟨rfl,hx⟩
     subst x
     go_wp2_with fail
     go_ret
     exact ⟨aA1 HE.out,bb2 B0 hB⟩
    rw [ht] at CT
    cases hvv:aAr p2
    ·have HE:Hid (false=r):=(HFH.out (HBAD.out (by rw [ht,hvv];rfl))).symm
     rw [hvv] at CV
     clear ht hvv HBAD HAN HFN HNOT
     go_wp2_with fail
     refine ((CT _).out).mono ?_
     rintro e x ⟨rfl,hx⟩
     subst x
     go_wp2_with fail
     refine ((CV _).out).mono ?_
     rintro e x ⟨rfl,hx⟩
     subst x
     go_wp2_with fail
     go_ret
     exact ⟨aA1 HE.out,bb2 B0 hB⟩
    have HAN':=hide (HAN.out (by rw [ht,hvv];rfl))
    rw [hvv] at CV
    clear ht hvv HBAD HAN
    go_wp2_with fail
    refine ((CT _).out).mono ?_
    rintro e x ⟨rfl,hx⟩
    subst x
    go_wp2_with fail
    refine ((CV _).out).mono ?_
    rintro e x ⟨rfl,hx⟩
    subst x
    go_wp2_with fail
    clear CT CV
    go_loopw [4] (fun j wi=>∃ n:Nat,n≤i∧j=.int .i64 n∧Hid (∀ y (hy:y<hd.length),y<n→aAt p1 hd[y].1=false)∧Below base.heap.size base wi) (fun j _=>i - (intOf j).toNat)
    case atStart=>exact ⟨0,Nat.zero_le _,rfl,fun y _ h=>absurd h (by omega),hB⟩
    case round =>
     clear hB c3 d1 d2 wo
     obtain ⟨wi,rfl⟩:∃ x,x=wr:=⟨wr,rfl⟩
     obtain ⟨n,hn,rfl,hno,hI⟩:=hrel
     by_cases hni:n<i
     ·have hni':(n:Int)<(i:Int):=by omega
      have hnl:n<hd.length:=by omega
      have hnl':(n:Int)<(hd.length:Int):=by omega
      obtain ⟨g',off',he',_,E1,_⟩:=HC.out n hnl
      injection he' with he'
      injection he' with he1 he2
      subst he1 he2
      replace E1:=fun W (h:Below w.heap.size w W)=>(h.cell (p:=⟨g,off+n*2,none⟩) hg).trans E1
      obtain ⟨o3,_⟩:=HOK.out _ (List.getElem_mem hnl)
      have CS:=fun W=>hide (aE3 p1 hd[n].1 W o1 o3)
      have HNX:Hid (aAt p1 hd[n].1=false→∀ y (hy:y<hd.length),y<n+1→aAt p1 hd[y].1=false):=fun h y hy hyn=>by
       rcases Nat.lt_or_ge y n with h1 | h1
       ·exact hno.out y hy h1
       ·obtain rfl:y=n:=by omega
        exact h
      have HF:=hide (HNOT.out n hnl hni)
      have f1:=fun q:GB wi=>D1 q.W (bb2 B0 (hI.trans (q.h.mono hI.size)))
      have f2:=fun q:GB wi=>E1 q.W (bb2 B0 (hI.trans (q.h.mono hI.size)))
      have f3:=fun q:GB wi=>m3 ⟨q.W,hI.trans (q.h.mono hI.size)⟩
      dsimp only at f3
      cases hs:aAt p1 hd[n].1
      ·have HN:=hide (HNX.out hs)
       rw [hs] at CS
       clear hs HNX HF
       generalize hd[n].1=p3 at *
       go_wp2_with fail
       refine aA6 (by kernel_rfl) (by kernel_rfl) ?_
       repeat (first | go_big_quiet_step ((go_at_call 126;exact aA3 (CS _).out)) | quiet_step ((go_at_call 126;exact aA3 (CS _).out)))
       refine wpQuiet_nil ?_
       intro _ hw'
       obtain ⟨qq,hw2⟩:=hw'
       subst hw2
       have hq:=hI.trans (qq.h.mono hI.size)
       go_wp2_with fail
       exact ⟨⟨n+1,by omega,by go_num,HN.out,hq⟩,by simp [intOf];omega⟩
      ·have HE:Hid (false=r):=(HFH.out (aM1 (HF.out hs))).symm
       rw [hs] at CS
       clear hs HNX HF
       generalize hd[n].1=p3 at *
       go_wp2_with fail
       refine aA6 (by kernel_rfl) (by kernel_rfl) ?_
       repeat (first | go_big_quiet_step ((go_at_call 126;exact aA3 (CS _).out)) | quiet_step ((go_at_call 126;exact aA3 (CS _).out)))
       refine wpQuiet_nil ?_
       intro _ hw'
       obtain ⟨qq,hw2⟩:=hw'
       subst hw2
       have hq:=hI.trans (qq.h.mono hI.size)
       go_wp2_with fail
       go_ret
       exact ⟨aA1 HE.out,bb2 B0 hq⟩
     ·have hni':¬ (n:Int)<(i:Int):=by omega
      have HN:=hide (HFN.out (fun y hy hyi=>hno.out y hy (by omega)))
      go_wp2_with fail
      exact ⟨⟨i+1,by omega,by go_num,HAN'.out,HN.out,hI⟩,by simp [intOf];omega⟩
   ·have hlt':¬ (i:Int)<(hd.length:Int):=by omega
    obtain rfl:i=hd.length:=by omega
    have HHY:=hide (aM2 h8 hall.out (aFc hfar.out))
    clear hall hfar
    go_wp2_with fail
    go_loopw [5] (fun i wr=>∃ k:Nat,k≤qu.length∧i=.int .i64 k∧Hid (FarR aB5 qu k)∧Below base.heap.size base wr) (fun i _=>qu.length - (intOf i).toNat)
    case atStart=>exact ⟨0,Nat.zero_le _,rfl,fun _ _ _ _ h=>absurd h (by omega),hB⟩
    case round =>
     clear hB c3 wo
     obtain ⟨wo,rfl⟩:∃ x,x=wr:=⟨wr,rfl⟩
     obtain ⟨i,hi,rfl,hfar,hB⟩:=hrel
     have c4:=m4 ⟨wo,hB⟩
     dsimp only at c4
     by_cases hlt:i<qu.length
     ·have hlt':(i:Int)<(qu.length:Int):=by omega
      obtain ⟨g,off,rfl,hg,D1,D2⟩:=HC2.out i hlt
      replace D1:=fun W (h:Below w.heap.size w W)=>(h.cell (p:=⟨g,off+i*2,none⟩) hg).trans D1
      have HFN:Hid ((∀ y (hy:y<qu.length),y<i→aB5 qu[i].1 qu[y].1=false)→FarR aB5 qu (i+1)):=fun h=>aFb hfar.out (fun y hy _ hyk=>h y hy hyk)
      have HNOT:Hid (∀ j (hj:j<qu.length),j<i→aB5 qu[i].1 qu[j].1=true→farB aB5 qu=false):=fun j hj hjk h=>aGb hlt hj hjk h
      clear hfar D2
      generalize hp1:qu[i].1=p1 at *
      clear hp1
      go_wp2_with fail
      go_loopw [6] (fun j wi=>∃ n:Nat,n≤i∧j=.int .i64 n∧Hid (∀ y (hy:y<qu.length),y<n→aB5 p1 qu[y].1=false)∧Below base.heap.size base wi) (fun j _=>i - (intOf j).toNat)
      case atStart=>exact ⟨0,Nat.zero_le _,rfl,fun y _ h=>absurd h (by omega),hB⟩
      case round =>
       clear hB c4 wo
       obtain ⟨wi,rfl⟩:∃ x,x=wr:=⟨wr,rfl⟩
       obtain ⟨n,hn,rfl,hno,hI⟩:=hrel
       by_cases hni:n<i
       ·have hni':(n:Int)<(i:Int):=by omega
        have hnl:n<qu.length:=by omega
        have hnl':(n:Int)<(qu.length:Int):=by omega
        obtain ⟨g',off',he',_,E1,_⟩:=HC2.out n hnl
        injection he' with he'
        injection he' with he1 he2
        subst he1 he2
        replace E1:=fun W (h:Below w.heap.size w W)=>(h.cell (p:=⟨g,off+n*2,none⟩) hg).trans E1
        have HNX:Hid (aB5 p1 qu[n].1=false→∀ y (hy:y<qu.length),y<n+1→aB5 p1 qu[y].1=false):=fun h y hy hyn=>by
         rcases Nat.lt_or_ge y n with h1 | h1
         ·exact hno.out y hy h1
         ·obtain rfl:y=n:=by omega
          exact h
        have HF:=hide (HNOT.out n hnl hni)
        have f1:=fun q:GB wi=>D1 q.W (bb2 B0 (hI.trans (q.h.mono hI.size)))
        have f2:=fun q:GB wi=>E1 q.W (bb2 B0 (hI.trans (q.h.mono hI.size)))
        have f4:=fun q:GB wi=>m4 ⟨q.W,hI.trans (q.h.mono hI.size)⟩
        dsimp only at f4
        have HBD:=hide (aFi p1 qu[n].1)
        cases hs:aB5 p1 qu[n].1
        ·have HN:=hide (HNX.out hs)
         have hbe:(p1.toList == qu[n].1.toList)=false:=HBD.out.trans hs
         clear hs HNX HF HBD
         generalize qu[n].1=p3 at *
         go_wp2_with fail
         refine aA6 (by kernel_rfl) (by kernel_rfl) ?_
         repeat (first | go_big_quiet_step (fail) | quiet_step (fail))
         refine wpQuiet_nil ?_
         intro _ hw'
         obtain ⟨qq,hw2⟩:=hw'
         subst hw2
         have hq:=hI.trans (qq.h.mono hI.size)
         go_wp2_with fail
         exact ⟨⟨n+1,by omega,by go_num,HN.out,hq⟩,by simp [intOf];omega⟩
        ·have HE:Hid (false=r):=(HFQ.out (aK8 (HF.out hs))).symm
         have hbe:(p1.toList == qu[n].1.toList)=true:=HBD.out.trans hs
         clear hs HNX HF HBD
         generalize qu[n].1=p3 at *
         go_wp2_with fail
         refine aA6 (by kernel_rfl) (by kernel_rfl) ?_
         repeat (first | go_big_quiet_step (fail) | quiet_step (fail))
         refine wpQuiet_nil ?_
         intro _ hw'
         obtain ⟨qq,hw2⟩:=hw'
         subst hw2
         have hq:=hI.trans (qq.h.mono hI.size)
         go_wp2_with fail
         go_ret
         exact ⟨aA1 HE.out,bb2 B0 hq⟩
       ·have hni':¬ (n:Int)<(i:Int):=by omega
        have HN:=hide (HFN.out (fun y hy hyi=>hno.out y hy (by omega)))
        go_wp2_with fail
        exact ⟨⟨i+1,by omega,by go_num,HN.out,hI⟩,by simp [intOf];omega⟩
     ·have hlt':¬ (i:Int)<(qu.length:Int):=by omega
      obtain rfl:i=qu.length:=by omega
      have HE:Hid (true=r):=(HY.out HHY.out (aK9 h9 HQM.out (aFc hfar.out))).symm
      go_wp2_with fail
      go_ret
      exact ⟨aA1 HE.out,bb2 B0 hB⟩
end Go.Proofs.YthnodpdiocppgaaGreatDoor
namespace Go.Proofs.YthnodpdiocppgaaGreatDoor
open Go Go.RowKit Go.Shelf
attribute [local go_sem] aAu
theorem aV8 (a b:MB) (va vb vc vd:Value) (w:World) (ha1:Prs w va a.head) (ha2:Prs w vb a.query) (hb1:Prs w vc b.head) (hb2:Prs w vd b.query) :
  Calls Tryz.prog 61 #[mV a va vb,mV b vc vd] w fun e w'=>e=.returned (.bool (aH6 a b))∧Below w.heap.size w w':=by
 have HP:Hid (aH6 a b=((a.kind == b.kind&&a.val.toList == b.val.toList)&&((a.meth.toList == b.meth.toList)&&(decide (a.head=b.head)&&decide (a.query=b.query))))):=rfl
 have C1:=fun W (h:Below w.heap.size w W)=>hide (aGo W va vc a.head b.head (ha1.below h) (hb1.below h))
 have C2:=fun W (h:Below w.heap.size w W)=>hide (aGo W vb vd a.query b.query (ha2.below h) (hb2.below h))
 clear ha1 ha2 hb1 hb2
 generalize aH6 a b=z at *
 generalize decide (a.head=b.head)=x3 at *
 generalize decide (a.query=b.query)=x4 at *
 have m0:=fun q:GB ((w.alloc (.cells #[.int .i64 a.kind,.string a.val,.string a.meth,va,vb] 88)).alloc (.cells #[.int .i64 b.kind,.string b.val,.string b.meth,vc,vd] 88))=>((aD0 q.h).1).1
 have m1:=fun q:GB ((w.alloc (.cells #[.int .i64 a.kind,.string a.val,.string a.meth,va,vb] 88)).alloc (.cells #[.int .i64 b.kind,.string b.val,.string b.meth,vc,vd] 88))=>((aD0 q.h).1).2.1
 have m2:=fun q:GB ((w.alloc (.cells #[.int .i64 a.kind,.string a.val,.string a.meth,va,vb] 88)).alloc (.cells #[.int .i64 b.kind,.string b.val,.string b.meth,vc,vd] 88))=>((aD0 q.h).1).2.2.1
 have m3:=fun q:GB ((w.alloc (.cells #[.int .i64 a.kind,.string a.val,.string a.meth,va,vb] 88)).alloc (.cells #[.int .i64 b.kind,.string b.val,.string b.meth,vc,vd] 88))=>((aD0 q.h).1).2.2.2.1
 have m4:=fun q:GB ((w.alloc (.cells #[.int .i64 a.kind,.string a.val,.string a.meth,va,vb] 88)).alloc (.cells #[.int .i64 b.kind,.string b.val,.string b.meth,vc,vd] 88))=>((aD0 q.h).1).2.2.2.2
 have n0:=fun q:GB ((w.alloc (.cells #[.int .i64 a.kind,.string a.val,.string a.meth,va,vb] 88)).alloc (.cells #[.int .i64 b.kind,.string b.val,.string b.meth,vc,vd] 88))=>((aD0 q.h).2).1
 have n1:=fun q:GB ((w.alloc (.cells #[.int .i64 a.kind,.string a.val,.string a.meth,va,vb] 88)).alloc (.cells #[.int .i64 b.kind,.string b.val,.string b.meth,vc,vd] 88))=>((aD0 q.h).2).2.1
 have n2:=fun q:GB ((w.alloc (.cells #[.int .i64 a.kind,.string a.val,.string a.meth,va,vb] 88)).alloc (.cells #[.int .i64 b.kind,.string b.val,.string b.meth,vc,vd] 88))=>((aD0 q.h).2).2.2.1
 have n3:=fun q:GB ((w.alloc (.cells #[.int .i64 a.kind,.string a.val,.string a.meth,va,vb] 88)).alloc (.cells #[.int .i64 b.kind,.string b.val,.string b.meth,vc,vd] 88))=>((aD0 q.h).2).2.2.2.1
 have n4:=fun q:GB ((w.alloc (.cells #[.int .i64 a.kind,.string a.val,.string a.meth,va,vb] 88)).alloc (.cells #[.int .i64 b.kind,.string b.val,.string b.meth,vc,vd] 88))=>((aD0 q.h).2).2.2.2.2
 have B2:Below w.heap.size w ((w.alloc (.cells #[.int .i64 a.kind,.string a.val,.string a.meth,va,vb] 88)).alloc (.cells #[.int .i64 b.kind,.string b.val,.string b.meth,vc,vd] 88)):=((Below.refl _ _).alloc (Nat.le_refl _) _).alloc (by simp) _
 cases e0:(a.kind == b.kind)
 ·rw [e0] at HP
  go_enter Tryz.func61,Tryz.ntmps61
  go_wp2_with fail
  go_ret
  exact ⟨aA1 HP.out.symm,B2⟩
 cases e1:(a.val.toList == b.val.toList)
 ·rw [e0,e1] at HP
  go_enter Tryz.func61,Tryz.ntmps61
  go_wp2_with fail
  go_ret
  exact ⟨aA1 HP.out.symm,B2⟩
 cases e2:(a.meth.toList == b.meth.toList)
 ·rw [e0,e1,e2] at HP
  go_enter Tryz.func61,Tryz.ntmps61
  go_wp2_with fail
  go_ret
  exact ⟨aA1 HP.out.symm,B2⟩
 rw [e0,e1,e2] at HP
 cases x3
 ·go_enter Tryz.func61,Tryz.ntmps61
  go_wp2_with fail
  refine (aA5 ((C1 _ B2).out)).mono ?_
  rintro e x ⟨rfl,q,rfl⟩
  go_wp2_with fail
  go_ret
  exact ⟨aA1 HP.out.symm,aEl q.h⟩
 ·go_enter Tryz.func61,Tryz.ntmps61
  go_wp2_with fail
  refine (aA5 ((C1 _ B2).out)).mono ?_
  rintro e x ⟨rfl,q,rfl⟩
  go_wp2_with fail
  refine (aA3 ((C2 _ (aEl q.h)).out)).mono ?_
  rintro e x ⟨rfl,q,rfl⟩
  go_wp2_with fail
  go_ret
  exact ⟨aA1 HP.out.symm,aEl q.h⟩
end Go.Proofs.YthnodpdiocppgaaGreatDoor
