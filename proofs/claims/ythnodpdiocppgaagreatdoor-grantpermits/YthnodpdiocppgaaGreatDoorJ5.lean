/-
  Walks of the document's own answers: Label.
-/
import Derived.Test.YthnodpdiocppgaaGreatDoorJ4
import Derived.BigRegion
import Derived.Test.YthnodpdiocppgaaGreatDoorJ2
set_option maxHeartbeats 1600000
set_option maxRecDepth 20000
namespace Go.Proofs.YthnodpdiocppgaaGreatDoor
open Go Go.RowKit Go.Shelf
def OkAt (l:List UInt8) (j:Nat):Prop :=
 97≤D.at' l j∧D.at' l j≤122∨48≤D.at' l j∧D.at' l j≤57∨D.at' l j=45∧j≠0∧j≠l.length - 1
theorem aHf (l:List UInt8):D.isLabel l=true↔1≤l.length∧l.length≤20∧∀ j,j<l.length→OkAt l j:=by
 have hat:∀ j (h:j<l.length),D.at' l j=(l[j].toNat:Int):=fun j h=>by
  unfold D.at';rw [List.getElem?_eq_getElem h];rfl
 simp only [D.isLabel,Bool.and_eq_true,decide_eq_true_eq,List.all_eq_true]
 constructor
 ·rintro ⟨⟨⟨⟨h1,h2⟩,h3⟩,h4⟩,h5⟩
  refine ⟨h1,h2,fun j hj=>?_⟩
  have h:=h3 l[j] (List.getElem_mem hj)
  rw [←hat j hj] at h
  simp only [D.inLab,decide_eq_true_eq] at h
  unfold OkAt
  by_cases e0:j=0
  ·subst e0;omega
  ·by_cases e1:j=l.length - 1
   ·subst e1;omega
   ·omega
 ·rintro ⟨h1,h2,h3⟩
  refine ⟨⟨⟨⟨h1,h2⟩,fun x hx=>?_⟩,?_⟩,?_⟩
  ·obtain ⟨j,hj,rfl⟩:=List.getElem_of_mem hx
   have h:=h3 j hj
   unfold OkAt at h
   rw [hat j hj] at h
   simp only [D.inLab,decide_eq_true_eq]
   omega
  ·have h:=h3 0 (by omega)
   unfold OkAt at h
   omega
  ·have h:=h3 (l.length - 1) (by omega)
   unfold OkAt at h
   omega
theorem aFf {l:List UInt8} (h:¬ (1≤l.length∧l.length≤20∧∀ j,j<l.length→OkAt l j)):D.isLabel l=false:=by
 cases h':D.isLabel l
 ·rfl
 ·exact absurd ((aHf l).1 h') h
theorem aDe {s:ByteArray} {k:Nat} (hok:OkAt s.data.toList k) (hall:Hid (∀ j,j<k→OkAt s.data.toList j)) (hlt:k<s.size) :
  (∃ k_1:Nat,k_1≤s.size∧Value.int .i64 ((k:Int)+1)=Value.int .i64 (k_1:Int)∧Hid (∀ j,j<k_1→OkAt s.data.toList j)) ∧
   s.size - (intOf (Value.int .i64 ((k:Int)+1))).toNat<s.size - (intOf (Value.int .i64 (k:Int))).toNat:=by
 refine ⟨⟨k+1,by omega,by go_num,fun j hj=>?_⟩,by simp [intOf];omega⟩
 by_cases e:j=k
 ·subst e;exact hok
 ·exact hall.out j (by omega)
theorem aDp {s:ByteArray} {k:Nat} (hok:¬ OkAt s.data.toList k) (hlt:k<s.data.toList.length):D.isLabel s.data.toList=false :=
 aFf (fun h=>hok (h.2.2 k hlt))
theorem ends (k n:Nat) (h:k<n):(((k:Int) == 0)=true∧Hid (k=0))∨(((k:Int) == 0)=false∧((k:Int) == (n:Int) - 1)=true∧Hid (k=n - 1)) ∨
  (((k:Int) == 0)=false∧((k:Int) == (n:Int) - 1)=false∧Hid (k≠0∧k≠n - 1)):=by
 by_cases h0:k=0
 ·exact .inl ⟨beq_iff_eq.2 (by omega),h0⟩
 ·by_cases h1:k=n - 1
  ·exact .inr (.inl ⟨zzE (by omega),beq_iff_eq.2 (by omega),h1⟩)
  ·exact .inr (.inr ⟨zzE (by omega),zzE (by omega),h0,h1⟩)
theorem aD8 (s:ByteArray) (w:World) (hs:s.size≤maxLen) :
  Calls Tryz.prog 68 #[.string s] w fun e w'=>e=.returned (.bool (D.isLabel s.data.toList))∧w'=w:=by
 unfold maxLen at hs
 have hsl:s.data.toList.length=s.size:=Array.length_toList
 have HSL:=hide hsl
 clear hsl
 go_enter Tryz.func68,Tryz.ntmps68
 go_wp2
 go_loop [3] (fun i=>∃ k:Nat,k≤s.size∧i=.int .i64 k∧Hid (∀ j,j<k→OkAt s.data.toList j)) (fun i=>s.size - (intOf i).toNat)
 case atStart=>exact ⟨0,Nat.zero_le _,rfl,fun j hj=>by omega⟩
 case round =>
  obtain ⟨k,hk,rfl,hall⟩:=hrel
  by_cases hlt:k<s.size
  ·have hk8:=s[k].toNat_lt
   have HE:=hide (aIg s k hlt)
   have hlt':(k:Int)<(s.size:Int):=by omega
   rcases ends k s.size hlt with ⟨e0,HQ⟩ | ⟨e0,e1,HQ⟩ | ⟨e0,e1,HQ⟩
   ·by_cases r1:(97:Int)≤(s[k].toNat:Int)∧(s[k].toNat:Int)≤122
    ·have HOK:Hid (OkAt s.data.toList k):=by
      have hq:=HQ.out
      unfold Hid OkAt;rw [HE.out,HSL.out];omega
     have t1:(97:Int)≤(s[k].toNat:Int):=by omega
     have t2:(s[k].toNat:Int)≤122:=by omega
     clear r1
     go_wp2_with fail
     exact aDe HOK.out hall hlt
    ·by_cases r2:(48:Int)≤(s[k].toNat:Int)∧(s[k].toNat:Int)≤57
     ·have HOK:Hid (OkAt s.data.toList k):=by
       have hq:=HQ.out
       unfold Hid OkAt;rw [HE.out,HSL.out];omega
      have t1:decide ((97:Int)≤(s[k].toNat:Int))=false:=decide_eq_false (by omega)
      have t3:(48:Int)≤(s[k].toNat:Int):=by omega
      have t4:(s[k].toNat:Int)≤57:=by omega
      clear r1 r2
      go_wp2_with fail
      exact aDe HOK.out hall hlt
     ·by_cases r3:(s[k].toNat:Int)=45
      ·have HOK:Hid (¬ OkAt s.data.toList k):=by
        have hq:=HQ.out
        unfold Hid OkAt;rw [HE.out,HSL.out];omega
       have t1:decide ((97:Int)≤(s[k].toNat:Int))=false:=decide_eq_false (by omega)
       have t3:decide ((48:Int)≤(s[k].toNat:Int))=false:=decide_eq_false (by omega)
       have t5:((s[k].toNat:Int) == 45)=true:=beq_iff_eq.2 (by omega)
       clear r1 r2 r3
       go_wp2_with fail
       go_ret
       exact ⟨aA1 (aDp HOK.out (by rw [HSL.out];exact hlt)).symm,rfl⟩
      ·by_cases r4:(s[k].toNat:Int)<48
       ·have HOK:Hid (¬ OkAt s.data.toList k):=by
         have hq:=HQ.out
         unfold Hid OkAt;rw [HE.out,HSL.out];omega
        have t1:decide ((97:Int)≤(s[k].toNat:Int))=false:=decide_eq_false (by omega)
        have t3:decide ((48:Int)≤(s[k].toNat:Int))=false:=decide_eq_false (by omega)
        have t5:((s[k].toNat:Int) == 45)=false:=zzE (by omega)
        clear r1 r2 r3 r4
        go_wp2_with fail
        go_ret
        exact ⟨aA1 (aDp HOK.out (by rw [HSL.out];exact hlt)).symm,rfl⟩
       ·by_cases r5:(s[k].toNat:Int)<97
        ·have HOK:Hid (¬ OkAt s.data.toList k):=by
          have hq:=HQ.out
          unfold Hid OkAt;rw [HE.out,HSL.out];omega
         have t1:decide ((97:Int)≤(s[k].toNat:Int))=false:=decide_eq_false (by omega)
         have t3:(48:Int)≤(s[k].toNat:Int):=by omega
         have t4:decide ((s[k].toNat:Int)≤57)=false:=decide_eq_false (by omega)
         have t5:((s[k].toNat:Int) == 45)=false:=zzE (by omega)
         clear r1 r2 r3 r4 r5
         go_wp2_with fail
         go_ret
         exact ⟨aA1 (aDp HOK.out (by rw [HSL.out];exact hlt)).symm,rfl⟩
        ·have HOK:Hid (¬ OkAt s.data.toList k):=by
          have hq:=HQ.out
          unfold Hid OkAt;rw [HE.out,HSL.out];omega
         have t1:(97:Int)≤(s[k].toNat:Int):=by omega
         have t2:decide ((s[k].toNat:Int)≤122)=false:=decide_eq_false (by omega)
         have t3:(48:Int)≤(s[k].toNat:Int):=by omega
         have t4:decide ((s[k].toNat:Int)≤57)=false:=decide_eq_false (by omega)
         have t5:((s[k].toNat:Int) == 45)=false:=zzE (by omega)
         clear r1 r2 r3 r4 r5
         go_wp2_with fail
         go_ret
         exact ⟨aA1 (aDp HOK.out (by rw [HSL.out];exact hlt)).symm,rfl⟩
   ·by_cases r1:(97:Int)≤(s[k].toNat:Int)∧(s[k].toNat:Int)≤122
    ·have HOK:Hid (OkAt s.data.toList k):=by
      have hq:=HQ.out
      unfold Hid OkAt;rw [HE.out,HSL.out];omega
     have t1:(97:Int)≤(s[k].toNat:Int):=by omega
     have t2:(s[k].toNat:Int)≤122:=by omega
     clear r1
     go_wp2_with fail
     exact aDe HOK.out hall hlt
    ·by_cases r2:(48:Int)≤(s[k].toNat:Int)∧(s[k].toNat:Int)≤57
     ·have HOK:Hid (OkAt s.data.toList k):=by
       have hq:=HQ.out
       unfold Hid OkAt;rw [HE.out,HSL.out];omega
      have t1:decide ((97:Int)≤(s[k].toNat:Int))=false:=decide_eq_false (by omega)
      have t3:(48:Int)≤(s[k].toNat:Int):=by omega
      have t4:(s[k].toNat:Int)≤57:=by omega
      clear r1 r2
      go_wp2_with fail
      exact aDe HOK.out hall hlt
     ·by_cases r3:(s[k].toNat:Int)=45
      ·have HOK:Hid (¬ OkAt s.data.toList k):=by
        have hq:=HQ.out
        unfold Hid OkAt;rw [HE.out,HSL.out];omega
       have t1:decide ((97:Int)≤(s[k].toNat:Int))=false:=decide_eq_false (by omega)
       have t3:decide ((48:Int)≤(s[k].toNat:Int))=false:=decide_eq_false (by omega)
       have t5:((s[k].toNat:Int) == 45)=true:=beq_iff_eq.2 (by omega)
       clear r1 r2 r3
       go_wp2_with fail
       go_ret
       exact ⟨aA1 (aDp HOK.out (by rw [HSL.out];exact hlt)).symm,rfl⟩
      ·by_cases r4:(s[k].toNat:Int)<48
       ·have HOK:Hid (¬ OkAt s.data.toList k):=by
         have hq:=HQ.out
         unfold Hid OkAt;rw [HE.out,HSL.out];omega
        have t1:decide ((97:Int)≤(s[k].toNat:Int))=false:=decide_eq_false (by omega)
        have t3:decide ((48:Int)≤(s[k].toNat:Int))=false:=decide_eq_false (by omega)
        have t5:((s[k].toNat:Int) == 45)=false:=zzE (by omega)
        clear r1 r2 r3 r4
        go_wp2_with fail
        go_ret
        exact ⟨aA1 (aDp HOK.out (by rw [HSL.out];exact hlt)).symm,rfl⟩
       ·by_cases r5:(s[k].toNat:Int)<97
        ·have HOK:Hid (¬ OkAt s.data.toList k):=by
          have hq:=HQ.out
          unfold Hid OkAt;rw [HE.out,HSL.out];omega
         have t1:decide ((97:Int)≤(s[k].toNat:Int))=false:=decide_eq_false (by omega)
         have t3:(48:Int)≤(s[k].toNat:Int):=by omega
         have t4:decide ((s[k].toNat:Int)≤57)=false:=decide_eq_false (by omega)
         have t5:((s[k].toNat:Int) == 45)=false:=zzE (by omega)
         clear r1 r2 r3 r4 r5
         go_wp2_with fail
         go_ret
         exact ⟨aA1 (aDp HOK.out (by rw [HSL.out];exact hlt)).symm,rfl⟩
        ·have HOK:Hid (¬ OkAt s.data.toList k):=by
          have hq:=HQ.out
          unfold Hid OkAt;rw [HE.out,HSL.out];omega
         have t1:(97:Int)≤(s[k].toNat:Int):=by omega
         have t2:decide ((s[k].toNat:Int)≤122)=false:=decide_eq_false (by omega)
         have t3:(48:Int)≤(s[k].toNat:Int):=by omega
         have t4:decide ((s[k].toNat:Int)≤57)=false:=decide_eq_false (by omega)
         have t5:((s[k].toNat:Int) == 45)=false:=zzE (by omega)
         clear r1 r2 r3 r4 r5
         go_wp2_with fail
         go_ret
         exact ⟨aA1 (aDp HOK.out (by rw [HSL.out];exact hlt)).symm,rfl⟩
   ·by_cases r1:(97:Int)≤(s[k].toNat:Int)∧(s[k].toNat:Int)≤122
    ·have HOK:Hid (OkAt s.data.toList k):=by
      have hq:=HQ.out
      unfold Hid OkAt;rw [HE.out,HSL.out];omega
     have t1:(97:Int)≤(s[k].toNat:Int):=by omega
     have t2:(s[k].toNat:Int)≤122:=by omega
     clear r1
     go_wp2_with fail
     exact aDe HOK.out hall hlt
    ·by_cases r2:(48:Int)≤(s[k].toNat:Int)∧(s[k].toNat:Int)≤57
     ·have HOK:Hid (OkAt s.data.toList k):=by
       have hq:=HQ.out
       unfold Hid OkAt;rw [HE.out,HSL.out];omega
      have t1:decide ((97:Int)≤(s[k].toNat:Int))=false:=decide_eq_false (by omega)
      have t3:(48:Int)≤(s[k].toNat:Int):=by omega
      have t4:(s[k].toNat:Int)≤57:=by omega
      clear r1 r2
      go_wp2_with fail
      exact aDe HOK.out hall hlt
     ·by_cases r3:(s[k].toNat:Int)=45
      ·have HOK:Hid (OkAt s.data.toList k):=by
        have hq:=HQ.out
        unfold Hid OkAt;rw [HE.out,HSL.out];omega
       have t1:decide ((97:Int)≤(s[k].toNat:Int))=false:=decide_eq_false (by omega)
       have t3:decide ((48:Int)≤(s[k].toNat:Int))=false:=decide_eq_false (by omega)
       have t5:((s[k].toNat:Int) == 45)=true:=beq_iff_eq.2 (by omega)
       clear r1 r2 r3
       go_wp2_with fail
       exact aDe HOK.out hall hlt
      ·by_cases r4:(s[k].toNat:Int)<48
       ·have HOK:Hid (¬ OkAt s.data.toList k):=by
         have hq:=HQ.out
         unfold Hid OkAt;rw [HE.out,HSL.out];omega
        have t1:decide ((97:Int)≤(s[k].toNat:Int))=false:=decide_eq_false (by omega)
        have t3:decide ((48:Int)≤(s[k].toNat:Int))=false:=decide_eq_false (by omega)
        have t5:((s[k].toNat:Int) == 45)=false:=zzE (by omega)
        clear r1 r2 r3 r4
        go_wp2_with fail
        go_ret
        exact ⟨aA1 (aDp HOK.out (by rw [HSL.out];exact hlt)).symm,rfl⟩
       ·by_cases r5:(s[k].toNat:Int)<97
        ·have HOK:Hid (¬ OkAt s.data.toList k):=by
          have hq:=HQ.out
          unfold Hid OkAt;rw [HE.out,HSL.out];omega
         have t1:decide ((97:Int)≤(s[k].toNat:Int))=false:=decide_eq_false (by omega)
         have t3:(48:Int)≤(s[k].toNat:Int):=by omega
         have t4:decide ((s[k].toNat:Int)≤57)=false:=decide_eq_false (by omega)
         have t5:((s[k].toNat:Int) == 45)=false:=zzE (by omega)
         clear r1 r2 r3 r4 r5
         go_wp2_with fail
         go_ret
         exact ⟨aA1 (aDp HOK.out (by rw [HSL.out];exact hlt)).symm,rfl⟩
        ·have HOK:Hid (¬ OkAt s.data.toList k):=by
          have hq:=HQ.out
          unfold Hid OkAt;rw [HE.out,HSL.out];omega
         have t1:(97:Int)≤(s[k].toNat:Int):=by omega
         have t2:decide ((s[k].toNat:Int)≤122)=false:=decide_eq_false (by omega)
         have t3:(48:Int)≤(s[k].toNat:Int):=by omega
         have t4:decide ((s[k].toNat:Int)≤57)=false:=decide_eq_false (by omega)
         have t5:((s[k].toNat:Int) == 45)=false:=zzE (by omega)
         clear r1 r2 r3 r4 r5
         go_wp2_with fail
         go_ret
         exact ⟨aA1 (aDp HOK.out (by rw [HSL.out];exact hlt)).symm,rfl⟩
  ·have hlt':¬ (k:Int)<(s.size:Int):=by omega
   have hks:k=s.size:=by omega
   subst hks
   by_cases h1:1≤s.size
   ·by_cases h20:s.size≤20
    ·have hx:Hid (D.isLabel s.data.toList=true):=(aHf _).2 ⟨by rw [HSL.out];exact h1,by rw [HSL.out];exact h20,by rw [HSL.out];exact hall.out⟩
     have a1:(1:Int)≤(s.size:Int):=by omega
     have a2:decide ((s.size:Int)≤20)=true:=decide_eq_true (by omega)
     go_wp2
     go_ret
     exact ⟨aA1 hx.out.symm,rfl⟩
    ·have hx:Hid (D.isLabel s.data.toList=false):=aFf (fun h=>h20 (by rw [←HSL.out];exact h.2.1))
     have a1:(1:Int)≤(s.size:Int):=by omega
     have a2:decide ((s.size:Int)≤20)=false:=decide_eq_false (by omega)
     go_wp2
     go_ret
     exact ⟨aA1 hx.out.symm,rfl⟩
   ·have hx:Hid (D.isLabel s.data.toList=false):=aFf (fun h=>h1 (by rw [←HSL.out];exact h.1))
    have a1:decide ((1:Int)≤(s.size:Int))=false:=decide_eq_false (by omega)
    go_wp2
    go_ret
    exact ⟨aA1 hx.out.symm,rfl⟩
end Go.Proofs.YthnodpdiocppgaaGreatDoor
namespace Go.Proofs.YthnodpdiocppgaaGreatDoor
open Go Go.RowKit Go.Shelf
theorem aMp (c:UInt8) (l:List UInt8):D.spl c (l++[c])=D.spl c l++[[]]:=by
 induction l with
 | nil=>simp [D.spl]
 | cons a r ih =>
   have hne:=D.spl_ne c r
   rw [List.cons_append]
   conv=>lhs;unfold D.spl
   conv=>rhs;lhs;unfold D.spl
   rw [ih]
   split
   ·simp
   ·cases hs:D.spl c r with
    | nil=>exact absurd hs hne
    | cons q t=>simp
theorem aMq {c x:UInt8} (hx:x≠c) {l:List UInt8} {qs:List (List UInt8)} {q:List UInt8} (h:D.spl c l=qs++[q]):D.spl c (l++[x])=qs++[q++[x]]:=by
 induction l generalizing qs q with
 | nil =>
   simp [D.spl] at h
   obtain ⟨rfl,rfl⟩:qs=[]∧q=[]:=by
    cases qs with
    | nil=>simp at h;exact ⟨rfl,h⟩
    | cons a b=>simp at h
   simp [D.spl,hx]
 | cons a r ih =>
   have hne:=D.spl_ne c r
   obtain ⟨qs',q',hr⟩:∃ qs' q',D.spl c r=qs'++[q']:=⟨(D.spl c r).dropLast,(D.spl c r).getLast hne,(List.dropLast_concat_getLast hne).symm⟩
   have ih':=ih hr
   rw [List.cons_append]
   unfold D.spl at h ⊢
   rw [ih']
   rw [hr] at h
   split
   ·rename_i e
    rw [if_pos e] at h
    have h':([]::qs')++[q']=qs++[q]:=by rw [←h];simp
    obtain ⟨e1,e2⟩:=List.append_inj' h' rfl
    rw [←e1]
    simp at e2
    subst e2
    simp
   ·rename_i e
    rw [if_neg e] at h
    cases qs' with
    | nil =>
      simp at h
      obtain ⟨rfl,rfl⟩:qs=[]∧q=a::q':=by
       cases qs with
       | nil=>simp at h;exact ⟨rfl,h.symm⟩
       | cons y z=>simp at h
      simp
    | cons y z =>
      simp at h
      have h':((a::y)::z)++[q']=qs++[q]:=by rw [←h];simp
      obtain ⟨e1,e2⟩:=List.append_inj' h' rfl
      rw [←e1]
      simp at e2
      subst e2
      simp
abbrev txtV (l:List UInt8):Value:=.string ⟨l.toArray⟩
theorem aO1 (s:ByteArray) (c:UInt8) (w:World) (hs:s.size≤1000) :
  Calls Tryz.prog 92 #[.string s,.int .u8 (c.toNat:Int)] w fun e w'=>∃ v,e=.returned v∧w'.ownsRow w.heap.size 9 1 v (aAo c s).length ((aAo c s).map Value.string)∧Below w.heap.size w w':=by
 obtain ⟨i0,hi,hz0,hz1,hz2⟩:=info_parts Tryz.info9
 have hsl:s.data.toList.length=s.size:=Array.length_toList
 have HSL:=hide hsl
 clear hsl
 go_enter Tryz.func92,Tryz.ntmps92
 go_wp2_with fail
 go_loopw [5,6] (fun o i wr=>∃ (k:Nat) (qs:List (List UInt8)) (q:List UInt8) (g cap:Nat),k≤s.size∧i=.int .i64 k∧o=.slice (some ⟨g,0,none⟩) (qs.length+1) cap ∧
   Hid (D.spl c (s.data.toList.take k)=qs++[q])∧wr.ownsRow w.heap.size 9 1 (.slice (some ⟨g,0,none⟩) (qs.length+1) cap) (qs.length+1) ((qs++[q]).map txtV)∧Below w.heap.size w wr) (fun _ i _=>s.size - (intOf i).toNat)
 case atStart =>
  refine ⟨0,[],[],w.heap.size,1,Nat.zero_le _,rfl,rfl,rfl,?_,(Below.refl _ _).alloc (Nat.le_refl _) _⟩
  refine ⟨rfl,Or.inr ⟨w.heap.size,1,_,rfl,Nat.le_refl _,World.alloc_heap_new w _,Nat.le_refl _,by decide,rfl,rfl⟩⟩
 case round =>
  obtain ⟨k,qs,q,g,cap,hk,rfl,rfl,hspl,hrow,hB⟩:=hrel
  by_cases hlt:k<s.size
  ·have hlt':(k:Int)<(s.size:Int):=by omega
   have hcnt:qs.length+1≤1001:=by
    have:=D.spl_count (c:=c) (l:=s.data.toList.take k)
    rw [hspl.out] at this
    simp at this
    have h2:=HSL.out
    omega
   have hqs:q.length≤1000:=by
    have:=D.spl_len (c:=c) (l:=s.data.toList.take k) q (by rw [hspl.out];simp)
    have h2:=HSL.out
    simp at this
    omega
   by_cases hc:s[k]=c
   ·have t1:((s[k].toNat:Int) == (c.toNat:Int))=true:=by rw [hc];simp
    have hnew:=hide (aMp c (s.data.toList.take k))
    have HC:=hide hc
    have hts:=hide (aFt s k hlt)
    clear hc
    go_wp2_with (at_builtin;refine wpList_append_own _ rfl _ _ 32 rfl w.heap.size 9 i0 (.string ⟨#[]⟩) 1 16 Tryz.underlying32 hi hz0 hz1 hz2 rfl (by decide) _ _ _ rfl (hrow.alloc _) ⟨wr.heap.size,0,none⟩ 1 1 [.string ⟨#[]⟩] rfl rfl (cell_one_new _ _ _) (by simp [Value.oneCell']) (by unfold maxLen;omega) (by omega) (by have:=hB.size;simp;omega) ?_;intro v' w2 hown' hgrow _;obtain ⟨g',cap',rfl⟩:=ownsRow_succ hown')
    have hB2:Below w.heap.size w w2:=(hB.alloc hB.size _).grown hgrow (by have:=hB.size;simp;omega) (fun j e=>aAe hrow e)
    have hlen:(qs++[q]).length=qs.length+1:=by simp
    refine ⟨⟨k+1,qs++[q],[],g',cap',by omega,by go_num,by rw [hlen],?_,?_,hB2⟩,by simp [intOf];omega⟩
    ·unfold Hid
     rw [hts.out,HC.out,hnew.out,hspl.out]
    ·rw [hlen,List.map_append]
     exact hown'
   ·have t1:((s[k].toNat:Int) == (c.toNat:Int))=false:=beq_eq_false_iff_ne.2 (fun e=>hc (UInt8.toNat_inj.1 (by omega)))
    have hnew:=hide (aMq hc hspl.out)
    have hts:=hide (aFt s k hlt)
    obtain ⟨c1,cf,hgb⟩:=aKs hrow (j:=qs.length) (by omega) (u:=txtV q) (by simp)
    have hqz:(⟨q.toArray⟩:ByteArray).size=q.length:=by show q.toArray.size=_;simp
    have hex:(s.extract k (k+1)).size=1:=by rw [ByteArray.size_extract];omega
    have hset:=fun u=>aJ5 (j:=qs.length) hrow u
    have HSET:=hide hset
    have HROW:=hide hrow
    have hm:qs.length≤1000:=by omega
    clear hset hrow hc
    generalize hqq:(⟨q.toArray⟩:ByteArray)=qb at *
    go_wp2_with fail
    go_region
    go_wp2_with fail
    have hcat:qb++s.extract k (k+1)=⟨(q++[s[k]]).toArray⟩:=by
     apply aJk
     rw [aHq,←hqq,Lib.extract_data]
     have hd:(s.data.toList.drop k).take (k+1 - k)=[s[k]]:=by
      rw [List.drop_eq_getElem_cons (by rw [HSL.out];exact hlt),Nat.add_sub_cancel_left]
      rfl
     rw [hd]
    have hrow2:=HSET.out (.string (qb++s.extract k (k+1)))
    rw [hcat] at hrow2
    have hl2:(List.map txtV (qs++[q])).set qs.length (txtV (q++[s[k]]))=List.map txtV (qs++[q++[s[k]]]):=by
     rw [List.map_append,List.map_append,List.set_append_right _ _ (by simp)]
     simp
    rw [hl2] at hrow2
    rw [hcat]
    refine ⟨⟨k+1,qs,q++[s[k]],g,cap,by omega,by go_num,rfl,?_,?_,(hB.setCell (p:=⟨g,qs.length,none⟩) hgb _).drew⟩,by simp [intOf];omega⟩
    ·unfold Hid
     rw [hts.out,hnew.out]
    ·exact aKr hrow2
  ·have hlt':¬ (k:Int)<(s.size:Int):=by omega
   have hfin:(aAo c s).map Value.string=List.map txtV (qs++[q]):=by
    have:=hspl.out
    rw [List.take_of_length_le (by rw [HSL.out];omega)] at this
    unfold aAo
    rw [this,List.map_map]
    rfl
   have hfl:(aAo c s).length=qs.length+1:=by
    have:=congrArg List.length hfin
    simp at this
    exact this
   have hend:Hid (wr.ownsRow w.heap.size 9 1 (.slice (some ⟨g,0,none⟩) (qs.length+1) cap) (aAo c s).length ((aAo c s).map Value.string)):=by
    unfold Hid;rw [hfin,hfl];exact hrow
   clear hfin hfl hrow
   go_wp2_with fail
   go_ret
   exact ⟨_,rfl,hend.out,hB⟩
end Go.Proofs.YthnodpdiocppgaaGreatDoor
namespace Go.Proofs.YthnodpdiocppgaaGreatDoor
end Go.Proofs.YthnodpdiocppgaaGreatDoor
namespace Go.Proofs.YthnodpdiocppgaaGreatDoor
open Go Go.RowKit Go.Shelf
theorem aSg (s:ByteArray) (w:World) (hs:s.size≤1000) :
  Calls Tryz.prog 92 #[.string s,.int .u8 46] w fun e w'=>∃ v,e=.returned v∧Strs w' v (aAo 46 s)∧Below w.heap.size w w':=by
 have h:=aO1 s 46 w hs
 have e:((46:UInt8).toNat:Int)=46:=rfl
 rw [e] at h
 exact h.mono (fun e w' ⟨v,h1,h2,h3⟩=>⟨v,h1,Strs.of_row rfl h2,h3⟩)
theorem aD3 (s:ByteArray) (w:World) (hs:s.size≤1000) :
  Calls Tryz.prog 67 #[.string s] w fun e w'=>e=.returned (.bool (D.isName s.data.toList))∧Below w.heap.size w w':=by
 by_cases h60:60<s.size
 ·have hx:Hid (D.isName s.data.toList=false):=by
   unfold Hid D.isName
   rw [Bool.and_eq_false_iff];left;apply decide_eq_false;simp;exact h60
  go_enter Tryz.func67,Tryz.ntmps67
  go_wp2_with fail
  go_ret
  exact ⟨aA1 hx.out.symm,Below.refl _ _⟩
 ·have hcnt:(aAo 46 s).length≤1001:=by
   rw [aCo]
   have:=D.spl_count (c:=46) (l:=s.data.toList)
   have e:s.data.toList.length=s.size:=Array.length_toList
   omega
  go_enter Tryz.func67,Tryz.ntmps67
  go_wp2_with fail
  refine (aSg _ _ hs).mono ?_
  rintro e w1 ⟨v,rfl,hS,hb1⟩
  obtain ⟨a,ca,rfl,hca⟩:=hS
  have HA:=hide hca
  clear hca
  go_wp2_with fail
  go_loopw [4] (fun i wr=>∃ k:Nat,k≤(aAo 46 s).length∧i=.int .i64 k∧Hid (∀ j (hj:j<(aAo 46 s).length),j<k→D.isLabel (aAo 46 s)[j].data.toList=true)∧wr=w1) (fun i _=>(aAo 46 s).length - (intOf i).toNat)
  case atStart=>exact ⟨0,Nat.zero_le _,rfl,fun j _ hj=>absurd hj (by omega),rfl⟩
  case round =>
   obtain ⟨k,hk,rfl,hall,rfl⟩:=hrel
   by_cases hlt:k<(aAo 46 s).length
   ·obtain ⟨g,rfl,hg,c1⟩:=HA.out k hlt
    have hps:=aJu 46 s hlt
    have hlt':(k:Int)<((aAo 46 s).length:Int):=by omega
    have hno:=fun h=>aEx s hlt h
    generalize hp:(aAo 46 s)[k]=p at *
    have HP:=hide hp
    have HNO:=hide hno
    clear hp hno
    have lp:p.size≤maxLen:=aBc (by omega)
    cases hl:D.isLabel p.data.toList
    ·have HL:=hide hl
     clear hl
     go_wp2_with fail
     refine (aD8 _ _ lp).mono ?_
     rintro e x ⟨rfl,rfl⟩
     rw [HL.out]
     go_wp2_with fail
     go_ret
     exact ⟨aA1 (HNO.out HL.out).symm,hb1⟩
    ·have HL:=hide hl
     clear hl
     go_wp2_with fail
     refine (aD8 _ _ lp).mono ?_
     rintro e x ⟨rfl,rfl⟩
     rw [HL.out]
     go_wp2_with fail
     refine ⟨⟨k+1,by omega,by go_num,fun j hj hjk=>?_,trivial⟩,by simp [intOf];omega⟩
     by_cases e:j=k
     ·subst e;rw [HP.out];exact HL.out
     ·exact hall.out j hj (by omega)
   ·have hlt':¬ (k:Int)<((aAo 46 s).length:Int):=by omega
    have hx:Hid (D.isName s.data.toList=true):=aGn s (by omega) (fun j hj=>hall.out j hj (by omega))
    go_wp2_with fail
    go_ret
    exact ⟨aA1 hx.out.symm,hb1⟩
end Go.Proofs.YthnodpdiocppgaaGreatDoor
