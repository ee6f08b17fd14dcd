/-
  Walks: Plain, mayPair, May (of package query), and the document's Plain, May, Same; a slice of pairs.
-/
import Derived.Test.YthnodpdiocppgaaGreatDoorJ2
import Derived.Test.YthnodpdiocppgaaGreatDoorJ1
set_option maxHeartbeats 400000
set_option maxRecDepth 20000
namespace Go.Proofs.YthnodpdiocppgaaGreatDoor
open Go Go.RowKit Go.Shelf
def pl (p:aAa):Qu.PairL:=(p.1.data.toList,p.2.data.toList)
theorem aHc (a b:ByteArray) (w:World) (ha:a.size≤maxLen) (hb:b.size≤maxLen) :
  Calls Tryz.prog 240 #[.agg #[.string a,.string b]] w fun e w'=>e=.returned (.bool (Qu.mayP (pl (a,b))))∧Below w.heap.size w w':=by
 have HM:Hid (Qu.mayP (pl (a,b))=(decide (1≤a.size)&&decide (a.size≤40)&&decide (b.size≤40))):=by
  unfold Hid Qu.mayP pl
  simp only [Array.length_toList]
  rfl
 unfold maxLen at ha hb
 by_cases h1:1≤a.size
 ·have a1:(0:Int)<(a.size:Int):=by omega
  by_cases h2:a.size≤40
  ·have a2:(a.size:Int)≤40:=by omega
   have HE:Hid (Qu.mayP (pl (a,b))=decide ((b.size:Int)≤40)):=by
    unfold Hid
    rw [HM.out,decide_eq_true h1,decide_eq_true h2,Bool.true_and,Bool.true_and]
    exact decide_eq_decide.2 (by omega)
   go_enter Tryz.func240,Tryz.ntmps240
   go_wp2_with fail
   go_ret
   exact ⟨aA1 HE.out.symm,(Below.refl _ _).alloc (Nat.le_refl _) _⟩
  ·have a2:¬ (a.size:Int)≤40:=by omega
   have HE:Hid (Qu.mayP (pl (a,b))=false):=by
    unfold Hid
    rw [HM.out,decide_eq_false h2,Bool.and_false,Bool.false_and]
   go_enter Tryz.func240,Tryz.ntmps240
   go_wp2_with fail
   go_ret
   exact ⟨aA1 HE.out.symm,(Below.refl _ _).alloc (Nat.le_refl _) _⟩
 ·have a1:¬ (0:Int)<(a.size:Int):=by omega
  have HE:Hid (Qu.mayP (pl (a,b))=false):=by
   unfold Hid
   rw [HM.out,decide_eq_false h1,Bool.false_and,Bool.false_and]
  go_enter Tryz.func240,Tryz.ntmps240
  go_wp2_with fail
  go_ret
  exact ⟨aA1 HE.out.symm,(Below.refl _ _).alloc (Nat.le_refl _) _⟩
theorem aPy {l:List aAa} {k:Nat} (hk:k<l.length) (h:Qu.mayP (pl l[k])=false):Qu.may (l.map pl)=false:=by
 unfold Qu.may
 rw [Bool.and_eq_false_iff]
 left
 rw [List.all_eq_false]
 exact ⟨pl l[k],List.mem_map.2 ⟨_,List.getElem_mem hk,rfl⟩,by rw [h];decide⟩
theorem aNh {l:List aAa} (h:∀ k (hk:k<l.length),Qu.mayP (pl l[k])=true):Qu.may (l.map pl)=decide (l.length≤20):=by
 unfold Qu.may
 have:(l.map pl).all Qu.mayP=true:=by
  rw [List.all_eq_true]
  intro x hx
  obtain ⟨p,hp,rfl⟩:=List.mem_map.1 hx
  obtain ⟨k,hk,rfl⟩:=List.getElem_of_mem hp
  exact h k hk
 rw [this,Bool.true_and,List.length_map]
theorem aSd (v:Value) (l:List aAa) (w:World) (hv:Prs w v l) (hok:∀ p∈l,okP p) :
  Calls Tryz.prog 215 #[v] w fun e w'=>e=.returned (.bool (Qu.may (l.map pl)))∧Below w.heap.size w w':=by
 have hlen:=hv.len
 obtain ⟨a,cap,rfl,_,_,hc⟩:=hv
 have HC:=hide hc
 have HOK:=hide hok
 clear hc hok
 by_cases h20:l.length≤20
 ·have a20:¬ (20:Int)<(l.length:Int):=by omega
  go_enter Tryz.func215,Tryz.ntmps215
  go_wp2_with fail
  go_loopw [10] (fun i wr=>∃ k:Nat,k≤l.length∧i=.int .i64 k∧Hid (∀ j (hj:j<l.length),j<k→Qu.mayP (pl l[j])=true)∧Below w.heap.size w wr) (fun i _=>l.length - (intOf i).toNat)
  case atStart=>exact ⟨0,Nat.zero_le _,rfl,fun _ _ h=>absurd h (by omega),Below.refl _ _⟩
  case round =>
   obtain ⟨k,hk,rfl,hall,hB⟩:=hrel
   by_cases hlt:k<l.length
   ·have hlt':(k:Int)<(l.length:Int):=by omega
    obtain ⟨g,off,rfl,hg,c1,c2⟩:=HC.out k hlt
    replace c1:=(hB.cell (p:=⟨g,off+k*2,none⟩) hg).trans c1
    replace c2:=(hB.cell (p:=⟨g,off+k*2+1,none⟩) hg).trans c2
    have o12:=HOK.out _ (List.getElem_mem hlt)
    have HL:Hid (pl l[k]=pl (l[k].1,l[k].2)):=rfl
    obtain ⟨o1,o2⟩:=o12
    generalize hp1:l[k].1=p1 at *
    generalize hp2:l[k].2=p2 at *
    cases hm:Qu.mayP (pl (p1,p2))
    ·have HM:=hide hm
     have HE:=hide (aPy hlt (by rw [HL.out];exact hm))
     clear hm
     go_wp2_with fail
     refine (aHc _ _ _ o1 o2).mono ?_
     rintro e w1 ⟨rfl,hb1⟩
     rw [HM.out]
     go_wp2_with fail
     go_ret
     exact ⟨aA1 HE.out.symm,hB.trans ((aA8 hb1).mono hB.size)⟩
    ·have HM:=hide hm
     clear hm
     go_wp2_with fail
     refine (aHc _ _ _ o1 o2).mono ?_
     rintro e w1 ⟨rfl,hb1⟩
     rw [HM.out]
     go_wp2_with fail
     refine ⟨⟨k+1,by omega,by go_num,?_,hB.trans ((aA8 hb1).mono hB.size)⟩,by simp [intOf];omega⟩
     intro j hj hjk
     by_cases e:j=k
     ·subst e;rw [HL.out];exact HM.out
     ·exact hall.out j hj (by omega)
   ·have hlt':¬ (k:Int)<(l.length:Int):=by omega
    have HE:Hid (Qu.may (l.map pl)=true):=by
     unfold Hid
     rw [aNh (fun j hj=>hall.out j hj (by omega)),decide_eq_true h20]
    go_wp2_with fail
    go_ret
    exact ⟨aA1 HE.out.symm,hB⟩
 ·have a20:(20:Int)<(l.length:Int):=by omega
  have HE:Hid (Qu.may (l.map pl)=false):=by
   unfold Hid Qu.may
   rw [List.length_map,decide_eq_false h20,Bool.and_false]
  go_enter Tryz.func215,Tryz.ntmps215
  go_wp2_with fail
  go_ret
  exact ⟨aA1 HE.out.symm,Below.refl _ _⟩
end Go.Proofs.YthnodpdiocppgaaGreatDoor
