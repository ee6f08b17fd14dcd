/-
  Walks: the document's Same (of names), All, Drop, Set.
-/
import Derived.Test.YthnodpdiocppgaaGreatDoorJ3
import Derived.Test.YthnodpdiocppgaaGreatDoorJ7
import Derived.Test.YthnodpdiocppgaaGreatDoorQuWalkA
set_option maxHeartbeats 6400000
set_option maxRecDepth 20000
namespace Go.Proofs.YthnodpdiocppgaaGreatDoor
open Go Go.RowKit Go.Shelf Go.Deep
def okF (p:aAa):Prop:=p.1.size≤100∧p.2.size≤100
theorem aE3 (a b:ByteArray) (w:World) (ha:a.size≤100) (hb:b.size≤100) :
  Calls Tryz.prog 126 #[.string a,.string b] w fun e w'=>e=.returned (.bool (aAt a b))∧Below w.heap.size w w':=by
 have H:Hid (((aD6 a).toList == (aD6 b).toList)=aAt a b):=aFi _ _
 go_enter Tryz.func126,Tryz.ntmps126
 go_wp2_with fail
 refine (aJo _ _ (by omega)).mono ?_
 rintro e w1 ⟨rfl,hb1⟩
 go_wp2_with fail
 refine (aJo _ _ (by omega)).mono ?_
 rintro e w2 ⟨rfl,hb2⟩
 go_wp2_with fail
 go_ret
 exact ⟨aA1 H.out,bb2 hb1 hb2⟩
end Go.Proofs.YthnodpdiocppgaaGreatDoor
namespace Go.Proofs.YthnodpdiocppgaaGreatDoor
open Go Go.RowKit Go.Shelf
attribute [local go_sem] aAu
theorem aO7 {s:ByteArray} (h0:0<s.size) (h:((s[0].toNat:Int) != 47)=true):isP s.data.toList=false:=by
 refine aHv ?_
 rw [Bool.eq_false_iff]
 intro hp
 obtain ⟨r,hr⟩:=aDy.1 hp
 have e:s.data.toList[0]?=some 47:=by rw [←hr];rfl
 rw [List.getElem?_eq_getElem (by rw [aD2];exact h0)] at e
 have e':s[0]=47:=Option.some.inj e
 rw [e'] at h
 exact absurd h (by decide)
theorem aO8 {s:ByteArray} (h0:0<s.size) (h:((s[0].toNat:Int) != 47)=false):Lib.hasPrefix s.data.toList [47]=true:=by
 have h':(s[0].toNat:Int)=47:=by simpa using h
 have e:s[0]=47:=UInt8.toNat_inj.1 (by show s[0].toNat=47;omega)
 rw [aDy]
 refine ⟨s.data.toList.drop 1,?_⟩
 have:s.data.toList=s[0]::s.data.toList.drop 1:=by
  have hl:0<s.data.toList.length:=by rw [aD2];exact h0
  exact (List.drop_zero (l:=s.data.toList)).symm.trans (List.drop_eq_getElem_cons hl)
 rw [this,e]
 rfl
theorem aUr {c:Int} (h:inP c=true):¬ c<33∧¬ 126<c∧(c == 63)=false∧(c == 35)=false:=by
 simp only [inP,Bool.and_eq_true,decide_eq_true_eq,Bool.not_eq_true'] at h
 exact ⟨by omega,by omega,h.1.2,h.2⟩
theorem aFl (s:ByteArray) (w:World) (hs:s.size≤maxLen) :
  Calls Tryz.prog 164 #[.string s] w fun e w'=>e=.returned (.bool (isP s.data.toList))∧w'=w:=by
 unfold maxLen at hs
 by_cases h60:60<s.size
 ·have HX:=hide (aLe h60)
  go_enter Tryz.func164,Tryz.ntmps164
  go_wp2_with fail
  go_ret
  exact ⟨aA1 HX.out.symm,rfl⟩
 by_cases h0:0<s.size
 ·have h1:¬ (s.size:Int)<1:=by omega
  have h2:¬ (60:Int)<s.size:=by omega
  cases hf:((s[0].toNat:Int) != 47)
  ·have HX:=hide (fun h=>aNi h60 (aO8 h0 hf) h)
   go_enter Tryz.func164,Tryz.ntmps164
   go_wp2_with fail
   go_loop [3] (fun i=>∃ k:Nat,k≤s.size∧i=.int .i64 k∧Hid (∀ j (h:j<s.size),j<k→inP (s[j].toNat:Int)=true)) (fun i=>s.size - (intOf i).toNat)
   case atStart=>exact ⟨0,Nat.zero_le _,rfl,fun j h hj=>by omega⟩
   case round =>
    obtain ⟨k,hk,rfl,hall⟩:=hrel
    by_cases hlt:k<s.size
    ·have hk8:=s[k].toNat_lt
     cases hin:inP (s[k].toNat:Int)
     ·have HN:=hide (aJe hlt hin)
      have HI:=hide hin
      clear hin
      go_wp2_with fail
      all_goals first
       | (go_ret;exact ⟨aA1 HN.out.symm,rfl⟩)
       | (exfalso
          have hi:=HI.out
          simp only [inP,Bool.and_eq_false_iff,decide_eq_false_iff_not,Bool.not_eq_false'] at hi
          simp_all<;>omega)
     ·have HI:=hide hin
      obtain ⟨a1,a2,a3,a4⟩:=aUr hin
      clear hin
      go_wp2_with fail
      refine ⟨⟨k+1,by omega,by go_num,fun j h hj=>?_⟩,?_⟩
      ·by_cases e:j=k
       ·subst e;exact HI.out
       ·exact hall.out j h (by omega)
      ·simp [intOf];omega
    ·have HY:=hide (HX.out (fun j h=>hall.out j h (by omega)))
     go_wp2_with fail
     go_ret
     exact ⟨aA1 HY.out.symm,rfl⟩
  ·have HX:=hide (aO7 h0 hf)
   go_enter Tryz.func164,Tryz.ntmps164
   go_wp2_with fail
   go_ret
   exact ⟨aA1 HX.out.symm,rfl⟩
 ·have h1:s.size=0:=by omega
  have HX:Hid (isP s.data.toList=false):=by
   refine aHv ?_
   rw [Bool.eq_false_iff]
   intro hp
   have:=(aDy.1 hp).length_le
   rw [aD2,h1] at this
   simp at this
  have h2:(s.size:Int)<1:=by omega
  clear h0 h60
  go_enter Tryz.func164,Tryz.ntmps164
  go_wp2_with fail
  go_ret
  exact ⟨aA1 HX.out.symm,rfl⟩
theorem aLg {s:ByteArray} (hp:isP s.data.toList=true):((s.size:Int) == 1)=(s.data.toList == [47]):=by
 rw [Bool.eq_iff_iff,beq_iff_eq,beq_iff_eq]
 have h:=(aDz.1 hp).2.1
 constructor
 ·intro e
  exact (h.eq_of_length (by rw [aD2];show 1=s.size;omega)).symm
 ·intro e
  rw [←aD2,e]
  rfl
theorem aMu {s:ByteArray} (h0:0<s.size):((s[s.size - 1].toNat:Int) == 47)=Lib.hasSuffix s.data.toList [47]:=by
 rw [Bool.eq_iff_iff,beq_iff_eq]
 unfold Lib.hasSuffix
 rw [List.isSuffixOf_iff_suffix]
 have hl:s.data.toList≠[]:=by intro e;have:=aD2 s;rw [e] at this;simp at this;omega
 have he:s.data.toList.getLast hl=s[s.size - 1]:=by
  rw [List.getLast_eq_getElem]
  simp only [aD2]
  rfl
 constructor
 ·intro h
  refine ⟨s.data.toList.dropLast,?_⟩
  have e:s[s.size - 1]=47:=UInt8.toNat_inj.1 (by show s[s.size - 1].toNat=47;omega)
  have:=List.dropLast_concat_getLast hl
  rw [he,e] at this
  exact this
 ·rintro ⟨r,hr⟩
  have:s.data.toList.getLast hl=47:=by
   simp only [←hr]
   simp
  rw [he] at this
  rw [this]
  rfl
theorem aIo (s:ByteArray) (w:World) (hs:s.size≤maxLen) :
  Calls Tryz.prog 165 #[.string s] w fun e w'=>e=.returned (.bool (abv s.data.toList))∧w'=w:=by
 cases hp:isP s.data.toList
 ·have HA:Hid (abv s.data.toList=false):=by unfold Hid abv;rw [hp];rfl
  have HP:=hide hp
  clear hp
  go_enter Tryz.func165,Tryz.ntmps165
  go_wp2_with fail
  refine (aFl _ _ hs).mono ?_
  rintro e x ⟨rfl,hx⟩
  subst x
  rw [HP.out]
  go_wp2_with fail
  go_ret
  exact ⟨aA1 HA.out.symm,rfl⟩
 ·have HP:=hide hp
  have h0:0<s.size:=by
   have:=(aDz.1 hp).2.1.length_le
   rw [aD2] at this
   exact this
  have hl:=aUq hp
  cases hr:((s.size:Int) == 1)
  ·have HA:Hid (abv s.data.toList=!((s[s.size - 1].toNat:Int) == 47)):=by
    unfold Hid abv
    rw [hp,←aLg hp,hr,aMu h0];rfl
   cases hc:((s[s.size - 1].toNat:Int) == 47)
   all_goals
    have hc':=hc
    rw [hc] at HA
    clear hp
    go_enter Tryz.func165,Tryz.ntmps165
    go_wp2_with fail
    refine (aFl _ _ hs).mono ?_
    rintro e x ⟨rfl,hx⟩
    subst x
    rw [HP.out]
    go_wp2_with fail
    go_ret
    exact ⟨aA1 (by rw [HA.out];simp [bne,hc']),rfl⟩
  ·have HA:Hid (abv s.data.toList=true):=by
    unfold Hid abv
    rw [hp,←aLg hp,hr];rfl
   clear hp
   go_enter Tryz.func165,Tryz.ntmps165
   go_wp2_with fail
   refine (aFl _ _ hs).mono ?_
   rintro e x ⟨rfl,hx⟩
   subst x
   rw [HP.out]
   go_wp2_with fail
   go_ret
   exact ⟨aA1 HA.out.symm,rfl⟩
theorem aQf (k:Int) (s:ByteArray) (w:World) (hs:s.size≤maxLen) :
  Calls Tryz.prog 127 #[.agg #[.int .i64 k,.string s]] w fun e w'=>e=.returned (.bool (mayP k s.data.toList))∧Below w.heap.size w w':=by
 cases h1:(k == 1)
 ·cases h2:(k == 2)
  ·have HM:Hid (mayP k s.data.toList=false):=by
    unfold Hid mayP
    rw [if_neg (beq_eq_false_iff_ne.1 h1),if_neg (beq_eq_false_iff_ne.1 h2)]
   go_enter Tryz.func127,Tryz.ntmps127
   go_wp2_with fail
   go_ret
   exact ⟨aA1 HM.out.symm,(Below.refl _ _).alloc (Nat.le_refl _) _⟩
  ·have HM:Hid (mayP k s.data.toList=abv s.data.toList):=by
    unfold Hid mayP
    rw [if_neg (beq_eq_false_iff_ne.1 h1),if_pos (eq_of_beq h2)]
   go_enter Tryz.func127,Tryz.ntmps127
   go_wp2_with fail
   refine (aIo _ _ hs).mono ?_
   rintro e x ⟨rfl,hx⟩
   subst x
   go_wp2_with fail
   go_ret
   exact ⟨aA1 HM.out.symm,(Below.refl _ _).alloc (Nat.le_refl _) _⟩
 ·have HM:Hid (mayP k s.data.toList=isP s.data.toList):=by
   unfold Hid mayP
   rw [if_pos (eq_of_beq h1)]
  go_enter Tryz.func127,Tryz.ntmps127
  go_wp2_with fail
  refine (aFl _ _ hs).mono ?_
  rintro e x ⟨rfl,hx⟩
  subst x
  go_wp2_with fail
  go_ret
  exact ⟨aA1 HM.out.symm,(Below.refl _ _).alloc (Nat.le_refl _) _⟩
end Go.Proofs.YthnodpdiocppgaaGreatDoor
namespace Go.Proofs.YthnodpdiocppgaaGreatDoor
open Go Go.RowKit Go.Shelf
attribute [local go_sem] aAu
theorem aQg (v:Value) (l:List aAa) (w:World) (hv:Prs w v l) (hok:∀ p∈l,okP p) :
  Calls Tryz.prog 129 #[v] w fun e w'=>e=.returned (.bool (Qu.may (l.map pl)))∧w'=w:=by
 have hlen:=hv.len
 obtain ⟨a,cap,rfl,_,_,hc⟩:=hv
 have HC:=hide hc
 have HOK:=hide hok
 clear hc hok
 go_enter Tryz.func129,Tryz.ntmps129
 go_wp2_with fail
 go_loopw [3] (fun i wr=>∃ k:Nat,k≤l.length∧i=.int .i64 k∧Hid (∀ j (hj:j<l.length),j<k→Qu.mayP (pl l[j])=true)∧wr=w) (fun i _=>l.length - (intOf i).toNat)
 case atStart=>exact ⟨0,Nat.zero_le _,rfl,fun _ _ h=>absurd h (by omega),rfl⟩
 case round =>
  obtain ⟨k,hk,rfl,hall,rfl⟩:=hrel
  by_cases hlt:k<l.length
  ·have hlt':(k:Int)<(l.length:Int):=by omega
   obtain ⟨g,off,rfl,hg,c1,c2⟩:=HC.out k hlt
   obtain ⟨o1,o2⟩:=HOK.out _ (List.getElem_mem hlt)
   have HM:Hid (Qu.mayP (pl l[k])=(decide (1≤l[k].1.size)&&decide (l[k].1.size≤40)&&decide (l[k].2.size≤40))):=by
    unfold Hid Qu.mayP pl
    simp only [Array.length_toList]
    rfl
   have HNO:=hide (aPy hlt)
   generalize hp1:l[k].1=p1 at *
   generalize hp2:l[k].2=p2 at *
   unfold maxLen at o1 o2
   by_cases h1:p1.size<1
   ·have a1:(p1.size:Int)<1:=by omega
    have HE:=hide (HNO.out (by rw [HM.out,decide_eq_false (by omega:¬ 1≤p1.size)];rfl))
    go_wp2_with fail
    go_ret
    exact ⟨aA1 HE.out.symm,rfl⟩
   ·have a1:¬ (p1.size:Int)<1:=by omega
    by_cases h2:p1.size≤40
    ·have a2:¬ (40:Int)<(p1.size:Int):=by omega
     by_cases h3:p2.size≤40
     ·have a3:¬ (40:Int)<(p2.size:Int):=by omega
      have HY:Hid (Qu.mayP (pl l[k])=true):=by
       unfold Hid
       rw [HM.out,decide_eq_true (by omega:1≤p1.size),decide_eq_true h2,decide_eq_true h3];rfl
      go_wp2_with fail
      refine ⟨⟨k+1,by omega,by go_num,?_,by simp⟩,by simp [intOf];omega⟩
      intro j hj hjk
      by_cases e:j=k
      ·subst e;exact HY.out
      ·exact hall.out j hj (by omega)
     ·have a3:(40:Int)<(p2.size:Int):=by omega
      have HE:=hide (HNO.out (by rw [HM.out,decide_eq_false h3,Bool.and_false]))
      go_wp2_with fail
      go_ret
      exact ⟨aA1 HE.out.symm,rfl⟩
    ·have a2:(40:Int)<(p1.size:Int):=by omega
     have HE:=hide (HNO.out (by rw [HM.out,decide_eq_false h2,Bool.and_false,Bool.false_and]))
     go_wp2_with fail
     go_ret
     exact ⟨aA1 HE.out.symm,rfl⟩
  ·have hlt':¬ (k:Int)<(l.length:Int):=by omega
   have HE:Hid (Qu.may (l.map pl)=decide ((l.length:Int)≤20)):=by
    unfold Hid
    rw [aNh (fun j hj=>hall.out j hj (by omega))]
    exact decide_eq_decide.2 (by omega)
   go_wp2_with fail
   go_ret
   exact ⟨aA1 HE.out.symm,rfl⟩
end Go.Proofs.YthnodpdiocppgaaGreatDoor
namespace Go.Proofs.YthnodpdiocppgaaGreatDoor
open Go Go.RowKit Go.Shelf Go.Deep
attribute [local go_sem] aAu
section
variable {same:ByteArray→ByteArray→Bool} {l:List aAa} {x:aAa} {k:Nat}
end
end Go.Proofs.YthnodpdiocppgaaGreatDoor
namespace Go.Proofs.YthnodpdiocppgaaGreatDoor
open Go Go.RowKit Go.Shelf
theorem aBh {c:UInt8}:tokC c=true↔(97≤c.toNat∧c.toNat≤122∨65≤c.toNat∧c.toNat≤90∨48≤c.toNat∧c.toNat≤57∨c.toNat=33∨c.toNat=35∨c.toNat=36∨c.toNat=37∨c.toNat=38∨c.toNat=39∨c.toNat=42∨c.toNat=43∨c.toNat=45∨c.toNat=46∨c.toNat=94∨c.toNat=95∨c.toNat=96∨c.toNat=124∨c.toNat=126):=by
 unfold tokC tokN
 simp only [Bool.or_eq_true,decide_eq_true_eq,List.contains_cons,List.contains_nil,beq_iff_eq,Bool.or_false,or_assoc]
theorem aE4 {c:UInt8}:tokC c=false↔¬ (97≤c.toNat∧c.toNat≤122∨65≤c.toNat∧c.toNat≤90∨48≤c.toNat∧c.toNat≤57∨c.toNat=33∨c.toNat=35∨c.toNat=36∨c.toNat=37∨c.toNat=38∨c.toNat=39∨c.toNat=42∨c.toNat=43∨c.toNat=45∨c.toNat=46∨c.toNat=94∨c.toNat=95∨c.toNat=96∨c.toNat=124∨c.toNat=126):=by
 rw [←aBh,Bool.not_eq_true]
theorem aIp (s:ByteArray) (w:World) (hs:s.size≤100) :
  Calls Tryz.prog 130 #[.string s] w fun e w'=>aF5 (aCd s) e∧w'=w:=by
 go_enter Tryz.func130,Tryz.ntmps130
 go_wp2_with fail
 go_loopw [3] (fun i wr=>∃ k:Nat,k≤s.size∧i=.int .i64 k∧Hid (∀ j (h:j<s.size),j<k→tokC s[j]=true)∧wr=w) (fun i _=>s.size - (intOf i).toNat)
 case atStart=>exact ⟨0,Nat.zero_le _,rfl,fun _ _ h=>absurd h (by omega),rfl⟩
 case round =>
  obtain ⟨k,hk,rfl,hno,rfl⟩:=hrel
  by_cases hlt:k<s.size
  ·have hlt':(k:Int)<(s.size:Int):=by omega
   have HX:Hid (tokC s[k]=true→∀ j (h:j<s.size),j<k+1→tokC s[j]=true):=fun h j hj hjk=>by
    rcases Nat.lt_or_ge j k with h1 | h1
    ·exact hno.out j hj h1
    ·obtain rfl:j=k:=by omega
     exact h
   have hall:(s[k].toNat=33)∨(s[k].toNat=35)∨(s[k].toNat=36)∨(s[k].toNat=37)∨(s[k].toNat=38)∨(s[k].toNat=39)∨(s[k].toNat=42)∨(s[k].toNat=43)∨(s[k].toNat=45)∨(s[k].toNat=46)∨(s[k].toNat=94)∨(s[k].toNat=95)∨(s[k].toNat=96)∨(s[k].toNat=124)∨(s[k].toNat=126)∨(48≤s[k].toNat∧s[k].toNat≤57)∨(65≤s[k].toNat∧s[k].toNat≤90)∨(97≤s[k].toNat∧s[k].toNat≤122)∨(s[k].toNat<48∧s[k].toNat≠33∧s[k].toNat≠35∧s[k].toNat≠36∧s[k].toNat≠37∧s[k].toNat≠38∧s[k].toNat≠39∧s[k].toNat≠42∧s[k].toNat≠43∧s[k].toNat≠45∧s[k].toNat≠46)∨(58≤s[k].toNat∧s[k].toNat≤64)∨(91≤s[k].toNat∧s[k].toNat≤93)∨(123≤s[k].toNat∧s[k].toNat≠124∧s[k].toNat≠126):=by omega
   rcases hall with h | h | h | h | h | h | h | h | h | h | h | h | h | h | h | h | h | h | h | h | h | h
   ·have HG:Hid (tokC s[k]=true):=by unfold Hid;rw [aBh];omega
    have t0:¬ (48:Int)≤(s[k].toNat:Int):=by omega
    have t2:¬ (65:Int)≤(s[k].toNat:Int):=by omega
    have t4:¬ (97:Int)≤(s[k].toNat:Int):=by omega
    have e33:((s[k].toNat:Int) == 33)=true:=by rw [beq_iff_eq];omega
    clear h
    have HY:=hide (HX.out HG.out)
    clear HG HX
    go_wp2_with fail
    exact ⟨⟨k+1,by omega,by go_num,HY.out,trivial⟩,by simp [intOf];omega⟩
   ·have HG:Hid (tokC s[k]=true):=by unfold Hid;rw [aBh];omega
    have t0:¬ (48:Int)≤(s[k].toNat:Int):=by omega
    have t2:¬ (65:Int)≤(s[k].toNat:Int):=by omega
    have t4:¬ (97:Int)≤(s[k].toNat:Int):=by omega
    have e33:((s[k].toNat:Int) == 33)=false:=zzE (by omega)
    have e35:((s[k].toNat:Int) == 35)=true:=by rw [beq_iff_eq];omega
    clear h
    have HY:=hide (HX.out HG.out)
    clear HG HX
    go_wp2_with fail
    exact ⟨⟨k+1,by omega,by go_num,HY.out,trivial⟩,by simp [intOf];omega⟩
   ·have HG:Hid (tokC s[k]=true):=by unfold Hid;rw [aBh];omega
    have t0:¬ (48:Int)≤(s[k].toNat:Int):=by omega
    have t2:¬ (65:Int)≤(s[k].toNat:Int):=by omega
    have t4:¬ (97:Int)≤(s[k].toNat:Int):=by omega
    have e33:((s[k].toNat:Int) == 33)=false:=zzE (by omega)
    have e35:((s[k].toNat:Int) == 35)=false:=zzE (by omega)
    have e36:((s[k].toNat:Int) == 36)=true:=by rw [beq_iff_eq];omega
    clear h
    have HY:=hide (HX.out HG.out)
    clear HG HX
    go_wp2_with fail
    exact ⟨⟨k+1,by omega,by go_num,HY.out,trivial⟩,by simp [intOf];omega⟩
   ·have HG:Hid (tokC s[k]=true):=by unfold Hid;rw [aBh];omega
    have t0:¬ (48:Int)≤(s[k].toNat:Int):=by omega
    have t2:¬ (65:Int)≤(s[k].toNat:Int):=by omega
    have t4:¬ (97:Int)≤(s[k].toNat:Int):=by omega
    have e33:((s[k].toNat:Int) == 33)=false:=zzE (by omega)
    have e35:((s[k].toNat:Int) == 35)=false:=zzE (by omega)
    have e36:((s[k].toNat:Int) == 36)=false:=zzE (by omega)
    have e37:((s[k].toNat:Int) == 37)=true:=by rw [beq_iff_eq];omega
    clear h
    have HY:=hide (HX.out HG.out)
    clear HG HX
    go_wp2_with fail
    exact ⟨⟨k+1,by omega,by go_num,HY.out,trivial⟩,by simp [intOf];omega⟩
   ·have HG:Hid (tokC s[k]=true):=by unfold Hid;rw [aBh];omega
    have t0:¬ (48:Int)≤(s[k].toNat:Int):=by omega
    have t2:¬ (65:Int)≤(s[k].toNat:Int):=by omega
    have t4:¬ (97:Int)≤(s[k].toNat:Int):=by omega
    have e33:((s[k].toNat:Int) == 33)=false:=zzE (by omega)
    have e35:((s[k].toNat:Int) == 35)=false:=zzE (by omega)
    have e36:((s[k].toNat:Int) == 36)=false:=zzE (by omega)
    have e37:((s[k].toNat:Int) == 37)=false:=zzE (by omega)
    have e38:((s[k].toNat:Int) == 38)=true:=by rw [beq_iff_eq];omega
    clear h
    have HY:=hide (HX.out HG.out)
    clear HG HX
    go_wp2_with fail
    exact ⟨⟨k+1,by omega,by go_num,HY.out,trivial⟩,by simp [intOf];omega⟩
   ·have HG:Hid (tokC s[k]=true):=by unfold Hid;rw [aBh];omega
    have t0:¬ (48:Int)≤(s[k].toNat:Int):=by omega
    have t2:¬ (65:Int)≤(s[k].toNat:Int):=by omega
    have t4:¬ (97:Int)≤(s[k].toNat:Int):=by omega
    have e33:((s[k].toNat:Int) == 33)=false:=zzE (by omega)
    have e35:((s[k].toNat:Int) == 35)=false:=zzE (by omega)
    have e36:((s[k].toNat:Int) == 36)=false:=zzE (by omega)
    have e37:((s[k].toNat:Int) == 37)=false:=zzE (by omega)
    have e38:((s[k].toNat:Int) == 38)=false:=zzE (by omega)
    have e39:((s[k].toNat:Int) == 39)=true:=by rw [beq_iff_eq];omega
    clear h
    have HY:=hide (HX.out HG.out)
    clear HG HX
    go_wp2_with fail
    exact ⟨⟨k+1,by omega,by go_num,HY.out,trivial⟩,by simp [intOf];omega⟩
   ·have HG:Hid (tokC s[k]=true):=by unfold Hid;rw [aBh];omega
    have t0:¬ (48:Int)≤(s[k].toNat:Int):=by omega
    have t2:¬ (65:Int)≤(s[k].toNat:Int):=by omega
    have t4:¬ (97:Int)≤(s[k].toNat:Int):=by omega
    have e33:((s[k].toNat:Int) == 33)=false:=zzE (by omega)
    have e35:((s[k].toNat:Int) == 35)=false:=zzE (by omega)
    have e36:((s[k].toNat:Int) == 36)=false:=zzE (by omega)
    have e37:((s[k].toNat:Int) == 37)=false:=zzE (by omega)
    have e38:((s[k].toNat:Int) == 38)=false:=zzE (by omega)
    have e39:((s[k].toNat:Int) == 39)=false:=zzE (by omega)
    have e42:((s[k].toNat:Int) == 42)=true:=by rw [beq_iff_eq];omega
    clear h
    have HY:=hide (HX.out HG.out)
    clear HG HX
    go_wp2_with fail
    exact ⟨⟨k+1,by omega,by go_num,HY.out,trivial⟩,by simp [intOf];omega⟩
   ·have HG:Hid (tokC s[k]=true):=by unfold Hid;rw [aBh];omega
    have t0:¬ (48:Int)≤(s[k].toNat:Int):=by omega
    have t2:¬ (65:Int)≤(s[k].toNat:Int):=by omega
    have t4:¬ (97:Int)≤(s[k].toNat:Int):=by omega
    have e33:((s[k].toNat:Int) == 33)=false:=zzE (by omega)
    have e35:((s[k].toNat:Int) == 35)=false:=zzE (by omega)
    have e36:((s[k].toNat:Int) == 36)=false:=zzE (by omega)
    have e37:((s[k].toNat:Int) == 37)=false:=zzE (by omega)
    have e38:((s[k].toNat:Int) == 38)=false:=zzE (by omega)
    have e39:((s[k].toNat:Int) == 39)=false:=zzE (by omega)
    have e42:((s[k].toNat:Int) == 42)=false:=zzE (by omega)
    have e43:((s[k].toNat:Int) == 43)=true:=by rw [beq_iff_eq];omega
    clear h
    have HY:=hide (HX.out HG.out)
    clear HG HX
    go_wp2_with fail
    exact ⟨⟨k+1,by omega,by go_num,HY.out,trivial⟩,by simp [intOf];omega⟩
   ·have HG:Hid (tokC s[k]=true):=by unfold Hid;rw [aBh];omega
    have t0:¬ (48:Int)≤(s[k].toNat:Int):=by omega
    have t2:¬ (65:Int)≤(s[k].toNat:Int):=by omega
    have t4:¬ (97:Int)≤(s[k].toNat:Int):=by omega
    have e33:((s[k].toNat:Int) == 33)=false:=zzE (by omega)
    have e35:((s[k].toNat:Int) == 35)=false:=zzE (by omega)
    have e36:((s[k].toNat:Int) == 36)=false:=zzE (by omega)
    have e37:((s[k].toNat:Int) == 37)=false:=zzE (by omega)
    have e38:((s[k].toNat:Int) == 38)=false:=zzE (by omega)
    have e39:((s[k].toNat:Int) == 39)=false:=zzE (by omega)
    have e42:((s[k].toNat:Int) == 42)=false:=zzE (by omega)
    have e43:((s[k].toNat:Int) == 43)=false:=zzE (by omega)
    have e45:((s[k].toNat:Int) == 45)=true:=by rw [beq_iff_eq];omega
    clear h
    have HY:=hide (HX.out HG.out)
    clear HG HX
    go_wp2_with fail
    exact ⟨⟨k+1,by omega,by go_num,HY.out,trivial⟩,by simp [intOf];omega⟩
   ·have HG:Hid (tokC s[k]=true):=by unfold Hid;rw [aBh];omega
    have t0:¬ (48:Int)≤(s[k].toNat:Int):=by omega
    have t2:¬ (65:Int)≤(s[k].toNat:Int):=by omega
    have t4:¬ (97:Int)≤(s[k].toNat:Int):=by omega
    have e33:((s[k].toNat:Int) == 33)=false:=zzE (by omega)
    have e35:((s[k].toNat:Int) == 35)=false:=zzE (by omega)
    have e36:((s[k].toNat:Int) == 36)=false:=zzE (by omega)
    have e37:((s[k].toNat:Int) == 37)=false:=zzE (by omega)
    have e38:((s[k].toNat:Int) == 38)=false:=zzE (by omega)
    have e39:((s[k].toNat:Int) == 39)=false:=zzE (by omega)
    have e42:((s[k].toNat:Int) == 42)=false:=zzE (by omega)
    have e43:((s[k].toNat:Int) == 43)=false:=zzE (by omega)
    have e45:((s[k].toNat:Int) == 45)=false:=zzE (by omega)
    have e46:((s[k].toNat:Int) == 46)=true:=by rw [beq_iff_eq];omega
    clear h
    have HY:=hide (HX.out HG.out)
    clear HG HX
    go_wp2_with fail
    exact ⟨⟨k+1,by omega,by go_num,HY.out,trivial⟩,by simp [intOf];omega⟩
   ·have HG:Hid (tokC s[k]=true):=by unfold Hid;rw [aBh];omega
    have t0:(48:Int)≤(s[k].toNat:Int):=by omega
    have t1:¬ (s[k].toNat:Int)≤57:=by omega
    have t2:(65:Int)≤(s[k].toNat:Int):=by omega
    have t3:¬ (s[k].toNat:Int)≤90:=by omega
    have t4:¬ (97:Int)≤(s[k].toNat:Int):=by omega
    have e33:((s[k].toNat:Int) == 33)=false:=zzE (by omega)
    have e35:((s[k].toNat:Int) == 35)=false:=zzE (by omega)
    have e36:((s[k].toNat:Int) == 36)=false:=zzE (by omega)
    have e37:((s[k].toNat:Int) == 37)=false:=zzE (by omega)
    have e38:((s[k].toNat:Int) == 38)=false:=zzE (by omega)
    have e39:((s[k].toNat:Int) == 39)=false:=zzE (by omega)
    have e42:((s[k].toNat:Int) == 42)=false:=zzE (by omega)
    have e43:((s[k].toNat:Int) == 43)=false:=zzE (by omega)
    have e45:((s[k].toNat:Int) == 45)=false:=zzE (by omega)
    have e46:((s[k].toNat:Int) == 46)=false:=zzE (by omega)
    have e94:((s[k].toNat:Int) == 94)=true:=by rw [beq_iff_eq];omega
    clear h
    have HY:=hide (HX.out HG.out)
    clear HG HX
    go_wp2_with fail
    exact ⟨⟨k+1,by omega,by go_num,HY.out,trivial⟩,by simp [intOf];omega⟩
   ·have HG:Hid (tokC s[k]=true):=by unfold Hid;rw [aBh];omega
    have t0:(48:Int)≤(s[k].toNat:Int):=by omega
    have t1:¬ (s[k].toNat:Int)≤57:=by omega
    have t2:(65:Int)≤(s[k].toNat:Int):=by omega
    have t3:¬ (s[k].toNat:Int)≤90:=by omega
    have t4:¬ (97:Int)≤(s[k].toNat:Int):=by omega
    have e33:((s[k].toNat:Int) == 33)=false:=zzE (by omega)
    have e35:((s[k].toNat:Int) == 35)=false:=zzE (by omega)
    have e36:((s[k].toNat:Int) == 36)=false:=zzE (by omega)
    have e37:((s[k].toNat:Int) == 37)=false:=zzE (by omega)
    have e38:((s[k].toNat:Int) == 38)=false:=zzE (by omega)
    have e39:((s[k].toNat:Int) == 39)=false:=zzE (by omega)
    have e42:((s[k].toNat:Int) == 42)=false:=zzE (by omega)
    have e43:((s[k].toNat:Int) == 43)=false:=zzE (by omega)
    have e45:((s[k].toNat:Int) == 45)=false:=zzE (by omega)
    have e46:((s[k].toNat:Int) == 46)=false:=zzE (by omega)
    have e94:((s[k].toNat:Int) == 94)=false:=zzE (by omega)
    have e95:((s[k].toNat:Int) == 95)=true:=by rw [beq_iff_eq];omega
    clear h
    have HY:=hide (HX.out HG.out)
    clear HG HX
    go_wp2_with fail
    exact ⟨⟨k+1,by omega,by go_num,HY.out,trivial⟩,by simp [intOf];omega⟩
   ·have HG:Hid (tokC s[k]=true):=by unfold Hid;rw [aBh];omega
    have t0:(48:Int)≤(s[k].toNat:Int):=by omega
    have t1:¬ (s[k].toNat:Int)≤57:=by omega
    have t2:(65:Int)≤(s[k].toNat:Int):=by omega
    have t3:¬ (s[k].toNat:Int)≤90:=by omega
    have t4:¬ (97:Int)≤(s[k].toNat:Int):=by omega
    have e33:((s[k].toNat:Int) == 33)=false:=zzE (by omega)
    have e35:((s[k].toNat:Int) == 35)=false:=zzE (by omega)
    have e36:((s[k].toNat:Int) == 36)=false:=zzE (by omega)
    have e37:((s[k].toNat:Int) == 37)=false:=zzE (by omega)
    have e38:((s[k].toNat:Int) == 38)=false:=zzE (by omega)
    have e39:((s[k].toNat:Int) == 39)=false:=zzE (by omega)
    have e42:((s[k].toNat:Int) == 42)=false:=zzE (by omega)
    have e43:((s[k].toNat:Int) == 43)=false:=zzE (by omega)
    have e45:((s[k].toNat:Int) == 45)=false:=zzE (by omega)
    have e46:((s[k].toNat:Int) == 46)=false:=zzE (by omega)
    have e94:((s[k].toNat:Int) == 94)=false:=zzE (by omega)
    have e95:((s[k].toNat:Int) == 95)=false:=zzE (by omega)
    have e96:((s[k].toNat:Int) == 96)=true:=by rw [beq_iff_eq];omega
    clear h
    have HY:=hide (HX.out HG.out)
    clear HG HX
    go_wp2_with fail
    exact ⟨⟨k+1,by omega,by go_num,HY.out,trivial⟩,by simp [intOf];omega⟩
   ·have HG:Hid (tokC s[k]=true):=by unfold Hid;rw [aBh];omega
    have t0:(48:Int)≤(s[k].toNat:Int):=by omega
    have t1:¬ (s[k].toNat:Int)≤57:=by omega
    have t2:(65:Int)≤(s[k].toNat:Int):=by omega
    have t3:¬ (s[k].toNat:Int)≤90:=by omega
    have t4:(97:Int)≤(s[k].toNat:Int):=by omega
    have t5:¬ (s[k].toNat:Int)≤122:=by omega
    have e33:((s[k].toNat:Int) == 33)=false:=zzE (by omega)
    have e35:((s[k].toNat:Int) == 35)=false:=zzE (by omega)
    have e36:((s[k].toNat:Int) == 36)=false:=zzE (by omega)
    have e37:((s[k].toNat:Int) == 37)=false:=zzE (by omega)
    have e38:((s[k].toNat:Int) == 38)=false:=zzE (by omega)
    have e39:((s[k].toNat:Int) == 39)=false:=zzE (by omega)
    have e42:((s[k].toNat:Int) == 42)=false:=zzE (by omega)
    have e43:((s[k].toNat:Int) == 43)=false:=zzE (by omega)
    have e45:((s[k].toNat:Int) == 45)=false:=zzE (by omega)
    have e46:((s[k].toNat:Int) == 46)=false:=zzE (by omega)
    have e94:((s[k].toNat:Int) == 94)=false:=zzE (by omega)
    have e95:((s[k].toNat:Int) == 95)=false:=zzE (by omega)
    have e96:((s[k].toNat:Int) == 96)=false:=zzE (by omega)
    have e124:((s[k].toNat:Int) == 124)=true:=by rw [beq_iff_eq];omega
    clear h
    have HY:=hide (HX.out HG.out)
    clear HG HX
    go_wp2_with fail
    exact ⟨⟨k+1,by omega,by go_num,HY.out,trivial⟩,by simp [intOf];omega⟩
   ·have HG:Hid (tokC s[k]=true):=by unfold Hid;rw [aBh];omega
    have t0:(48:Int)≤(s[k].toNat:Int):=by omega
    have t1:¬ (s[k].toNat:Int)≤57:=by omega
    have t2:(65:Int)≤(s[k].toNat:Int):=by omega
    have t3:¬ (s[k].toNat:Int)≤90:=by omega
    have t4:(97:Int)≤(s[k].toNat:Int):=by omega
    have t5:¬ (s[k].toNat:Int)≤122:=by omega
    have e33:((s[k].toNat:Int) == 33)=false:=zzE (by omega)
    have e35:((s[k].toNat:Int) == 35)=false:=zzE (by omega)
    have e36:((s[k].toNat:Int) == 36)=false:=zzE (by omega)
    have e37:((s[k].toNat:Int) == 37)=false:=zzE (by omega)
    have e38:((s[k].toNat:Int) == 38)=false:=zzE (by omega)
    have e39:((s[k].toNat:Int) == 39)=false:=zzE (by omega)
    have e42:((s[k].toNat:Int) == 42)=false:=zzE (by omega)
    have e43:((s[k].toNat:Int) == 43)=false:=zzE (by omega)
    have e45:((s[k].toNat:Int) == 45)=false:=zzE (by omega)
    have e46:((s[k].toNat:Int) == 46)=false:=zzE (by omega)
    have e94:((s[k].toNat:Int) == 94)=false:=zzE (by omega)
    have e95:((s[k].toNat:Int) == 95)=false:=zzE (by omega)
    have e96:((s[k].toNat:Int) == 96)=false:=zzE (by omega)
    have e124:((s[k].toNat:Int) == 124)=false:=zzE (by omega)
    have e126:((s[k].toNat:Int) == 126)=true:=by rw [beq_iff_eq];omega
    clear h
    have HY:=hide (HX.out HG.out)
    clear HG HX
    go_wp2_with fail
    exact ⟨⟨k+1,by omega,by go_num,HY.out,trivial⟩,by simp [intOf];omega⟩
   ·have HG:Hid (tokC s[k]=true):=by unfold Hid;rw [aBh];omega
    have t0:(48:Int)≤(s[k].toNat:Int):=by omega
    have t1:(s[k].toNat:Int)≤57:=by omega
    have e33:((s[k].toNat:Int) == 33)=false:=zzE (by omega)
    have e35:((s[k].toNat:Int) == 35)=false:=zzE (by omega)
    have e36:((s[k].toNat:Int) == 36)=false:=zzE (by omega)
    have e37:((s[k].toNat:Int) == 37)=false:=zzE (by omega)
    have e38:((s[k].toNat:Int) == 38)=false:=zzE (by omega)
    have e39:((s[k].toNat:Int) == 39)=false:=zzE (by omega)
    have e42:((s[k].toNat:Int) == 42)=false:=zzE (by omega)
    have e43:((s[k].toNat:Int) == 43)=false:=zzE (by omega)
    have e45:((s[k].toNat:Int) == 45)=false:=zzE (by omega)
    have e46:((s[k].toNat:Int) == 46)=false:=zzE (by omega)
    have e94:((s[k].toNat:Int) == 94)=false:=zzE (by omega)
    have e95:((s[k].toNat:Int) == 95)=false:=zzE (by omega)
    have e96:((s[k].toNat:Int) == 96)=false:=zzE (by omega)
    have e124:((s[k].toNat:Int) == 124)=false:=zzE (by omega)
    have e126:((s[k].toNat:Int) == 126)=false:=zzE (by omega)
    clear h
    have HY:=hide (HX.out HG.out)
    clear HG HX
    go_wp2_with fail
    exact ⟨⟨k+1,by omega,by go_num,HY.out,trivial⟩,by simp [intOf];omega⟩
   ·have HG:Hid (tokC s[k]=true):=by unfold Hid;rw [aBh];omega
    have t0:(48:Int)≤(s[k].toNat:Int):=by omega
    have t1:¬ (s[k].toNat:Int)≤57:=by omega
    have t2:(65:Int)≤(s[k].toNat:Int):=by omega
    have t3:(s[k].toNat:Int)≤90:=by omega
    have e33:((s[k].toNat:Int) == 33)=false:=zzE (by omega)
    have e35:((s[k].toNat:Int) == 35)=false:=zzE (by omega)
    have e36:((s[k].toNat:Int) == 36)=false:=zzE (by omega)
    have e37:((s[k].toNat:Int) == 37)=false:=zzE (by omega)
    have e38:((s[k].toNat:Int) == 38)=false:=zzE (by omega)
    have e39:((s[k].toNat:Int) == 39)=false:=zzE (by omega)
    have e42:((s[k].toNat:Int) == 42)=false:=zzE (by omega)
    have e43:((s[k].toNat:Int) == 43)=false:=zzE (by omega)
    have e45:((s[k].toNat:Int) == 45)=false:=zzE (by omega)
    have e46:((s[k].toNat:Int) == 46)=false:=zzE (by omega)
    have e94:((s[k].toNat:Int) == 94)=false:=zzE (by omega)
    have e95:((s[k].toNat:Int) == 95)=false:=zzE (by omega)
    have e96:((s[k].toNat:Int) == 96)=false:=zzE (by omega)
    have e124:((s[k].toNat:Int) == 124)=false:=zzE (by omega)
    have e126:((s[k].toNat:Int) == 126)=false:=zzE (by omega)
    clear h
    have HY:=hide (HX.out HG.out)
    clear HG HX
    go_wp2_with fail
    exact ⟨⟨k+1,by omega,by go_num,HY.out,trivial⟩,by simp [intOf];omega⟩
   ·have HG:Hid (tokC s[k]=true):=by unfold Hid;rw [aBh];omega
    have t0:(48:Int)≤(s[k].toNat:Int):=by omega
    have t1:¬ (s[k].toNat:Int)≤57:=by omega
    have t2:(65:Int)≤(s[k].toNat:Int):=by omega
    have t3:¬ (s[k].toNat:Int)≤90:=by omega
    have t4:(97:Int)≤(s[k].toNat:Int):=by omega
    have t5:(s[k].toNat:Int)≤122:=by omega
    have e33:((s[k].toNat:Int) == 33)=false:=zzE (by omega)
    have e35:((s[k].toNat:Int) == 35)=false:=zzE (by omega)
    have e36:((s[k].toNat:Int) == 36)=false:=zzE (by omega)
    have e37:((s[k].toNat:Int) == 37)=false:=zzE (by omega)
    have e38:((s[k].toNat:Int) == 38)=false:=zzE (by omega)
    have e39:((s[k].toNat:Int) == 39)=false:=zzE (by omega)
    have e42:((s[k].toNat:Int) == 42)=false:=zzE (by omega)
    have e43:((s[k].toNat:Int) == 43)=false:=zzE (by omega)
    have e45:((s[k].toNat:Int) == 45)=false:=zzE (by omega)
    have e46:((s[k].toNat:Int) == 46)=false:=zzE (by omega)
    have e94:((s[k].toNat:Int) == 94)=false:=zzE (by omega)
    have e95:((s[k].toNat:Int) == 95)=false:=zzE (by omega)
    have e96:((s[k].toNat:Int) == 96)=false:=zzE (by omega)
    have e124:((s[k].toNat:Int) == 124)=false:=zzE (by omega)
    have e126:((s[k].toNat:Int) == 126)=false:=zzE (by omega)
    clear h
    have HY:=hide (HX.out HG.out)
    clear HG HX
    go_wp2_with fail
    exact ⟨⟨k+1,by omega,by go_num,HY.out,trivial⟩,by simp [intOf];omega⟩
   ·have HG:Hid (tokC s[k]=false):=by unfold Hid;rw [aE4];omega
    have t0:¬ (48:Int)≤(s[k].toNat:Int):=by omega
    have t2:¬ (65:Int)≤(s[k].toNat:Int):=by omega
    have t4:¬ (97:Int)≤(s[k].toNat:Int):=by omega
    have e33:((s[k].toNat:Int) == 33)=false:=zzE (by omega)
    have e35:((s[k].toNat:Int) == 35)=false:=zzE (by omega)
    have e36:((s[k].toNat:Int) == 36)=false:=zzE (by omega)
    have e37:((s[k].toNat:Int) == 37)=false:=zzE (by omega)
    have e38:((s[k].toNat:Int) == 38)=false:=zzE (by omega)
    have e39:((s[k].toNat:Int) == 39)=false:=zzE (by omega)
    have e42:((s[k].toNat:Int) == 42)=false:=zzE (by omega)
    have e43:((s[k].toNat:Int) == 43)=false:=zzE (by omega)
    have e45:((s[k].toNat:Int) == 45)=false:=zzE (by omega)
    have e46:((s[k].toNat:Int) == 46)=false:=zzE (by omega)
    have e94:((s[k].toNat:Int) == 94)=false:=zzE (by omega)
    have e95:((s[k].toNat:Int) == 95)=false:=zzE (by omega)
    have e96:((s[k].toNat:Int) == 96)=false:=zzE (by omega)
    have e124:((s[k].toNat:Int) == 124)=false:=zzE (by omega)
    have e126:((s[k].toNat:Int) == 126)=false:=zzE (by omega)
    clear h
    have HN:Hid (¬ aCd s):=fun h=>by have:=h.2.2 k hlt;rw [HG.out] at this;cases this
    clear HG HX
    go_wp2_with fail
    go_ret
    exact ⟨aAy HN.out,rfl⟩
   ·have HG:Hid (tokC s[k]=false):=by unfold Hid;rw [aE4];omega
    have t0:(48:Int)≤(s[k].toNat:Int):=by omega
    have t1:¬ (s[k].toNat:Int)≤57:=by omega
    have t2:¬ (65:Int)≤(s[k].toNat:Int):=by omega
    have t4:¬ (97:Int)≤(s[k].toNat:Int):=by omega
    have e33:((s[k].toNat:Int) == 33)=false:=zzE (by omega)
    have e35:((s[k].toNat:Int) == 35)=false:=zzE (by omega)
    have e36:((s[k].toNat:Int) == 36)=false:=zzE (by omega)
    have e37:((s[k].toNat:Int) == 37)=false:=zzE (by omega)
    have e38:((s[k].toNat:Int) == 38)=false:=zzE (by omega)
    have e39:((s[k].toNat:Int) == 39)=false:=zzE (by omega)
    have e42:((s[k].toNat:Int) == 42)=false:=zzE (by omega)
    have e43:((s[k].toNat:Int) == 43)=false:=zzE (by omega)
    have e45:((s[k].toNat:Int) == 45)=false:=zzE (by omega)
    have e46:((s[k].toNat:Int) == 46)=false:=zzE (by omega)
    have e94:((s[k].toNat:Int) == 94)=false:=zzE (by omega)
    have e95:((s[k].toNat:Int) == 95)=false:=zzE (by omega)
    have e96:((s[k].toNat:Int) == 96)=false:=zzE (by omega)
    have e124:((s[k].toNat:Int) == 124)=false:=zzE (by omega)
    have e126:((s[k].toNat:Int) == 126)=false:=zzE (by omega)
    clear h
    have HN:Hid (¬ aCd s):=fun h=>by have:=h.2.2 k hlt;rw [HG.out] at this;cases this
    clear HG HX
    go_wp2_with fail
    go_ret
    exact ⟨aAy HN.out,rfl⟩
   ·have HG:Hid (tokC s[k]=false):=by unfold Hid;rw [aE4];omega
    have t0:(48:Int)≤(s[k].toNat:Int):=by omega
    have t1:¬ (s[k].toNat:Int)≤57:=by omega
    have t2:(65:Int)≤(s[k].toNat:Int):=by omega
    have t3:¬ (s[k].toNat:Int)≤90:=by omega
    have t4:¬ (97:Int)≤(s[k].toNat:Int):=by omega
    have e33:((s[k].toNat:Int) == 33)=false:=zzE (by omega)
    have e35:((s[k].toNat:Int) == 35)=false:=zzE (by omega)
    have e36:((s[k].toNat:Int) == 36)=false:=zzE (by omega)
    have e37:((s[k].toNat:Int) == 37)=false:=zzE (by omega)
    have e38:((s[k].toNat:Int) == 38)=false:=zzE (by omega)
    have e39:((s[k].toNat:Int) == 39)=false:=zzE (by omega)
    have e42:((s[k].toNat:Int) == 42)=false:=zzE (by omega)
    have e43:((s[k].toNat:Int) == 43)=false:=zzE (by omega)
    have e45:((s[k].toNat:Int) == 45)=false:=zzE (by omega)
    have e46:((s[k].toNat:Int) == 46)=false:=zzE (by omega)
    have e94:((s[k].toNat:Int) == 94)=false:=zzE (by omega)
    have e95:((s[k].toNat:Int) == 95)=false:=zzE (by omega)
    have e96:((s[k].toNat:Int) == 96)=false:=zzE (by omega)
    have e124:((s[k].toNat:Int) == 124)=false:=zzE (by omega)
    have e126:((s[k].toNat:Int) == 126)=false:=zzE (by omega)
    clear h
    have HN:Hid (¬ aCd s):=fun h=>by have:=h.2.2 k hlt;rw [HG.out] at this;cases this
    clear HG HX
    go_wp2_with fail
    go_ret
    exact ⟨aAy HN.out,rfl⟩
   ·have HG:Hid (tokC s[k]=false):=by unfold Hid;rw [aE4];omega
    have t0:(48:Int)≤(s[k].toNat:Int):=by omega
    have t1:¬ (s[k].toNat:Int)≤57:=by omega
    have t2:(65:Int)≤(s[k].toNat:Int):=by omega
    have t3:¬ (s[k].toNat:Int)≤90:=by omega
    have t4:(97:Int)≤(s[k].toNat:Int):=by omega
    have t5:¬ (s[k].toNat:Int)≤122:=by omega
    have e33:((s[k].toNat:Int) == 33)=false:=zzE (by omega)
    have e35:((s[k].toNat:Int) == 35)=false:=zzE (by omega)
    have e36:((s[k].toNat:Int) == 36)=false:=zzE (by omega)
    have e37:((s[k].toNat:Int) == 37)=false:=zzE (by omega)
    have e38:((s[k].toNat:Int) == 38)=false:=zzE (by omega)
    have e39:((s[k].toNat:Int) == 39)=false:=zzE (by omega)
    have e42:((s[k].toNat:Int) == 42)=false:=zzE (by omega)
    have e43:((s[k].toNat:Int) == 43)=false:=zzE (by omega)
    have e45:((s[k].toNat:Int) == 45)=false:=zzE (by omega)
    have e46:((s[k].toNat:Int) == 46)=false:=zzE (by omega)
    have e94:((s[k].toNat:Int) == 94)=false:=zzE (by omega)
    have e95:((s[k].toNat:Int) == 95)=false:=zzE (by omega)
    have e96:((s[k].toNat:Int) == 96)=false:=zzE (by omega)
    have e124:((s[k].toNat:Int) == 124)=false:=zzE (by omega)
    have e126:((s[k].toNat:Int) == 126)=false:=zzE (by omega)
    clear h
    have HN:Hid (¬ aCd s):=fun h=>by have:=h.2.2 k hlt;rw [HG.out] at this;cases this
    clear HG HX
    go_wp2_with fail
    go_ret
    exact ⟨aAy HN.out,rfl⟩
  ·have hlt':¬ (k:Int)<(s.size:Int):=by omega
   have HT:Hid (aCd s↔1≤s.size∧s.size≤40):=⟨fun h=>⟨h.1,h.2.1⟩,fun h=>⟨h.1,h.2,fun j hj=>hno.out j hj (by omega)⟩⟩
   by_cases h1:1≤s.size
   ·have t1:(1:Int)≤(s.size:Int):=by omega
    by_cases h40:s.size≤40
    ·have t2:(s.size:Int)≤40:=by omega
     go_wp2_with fail
     go_ret
     exact ⟨aF6 (HT.out.2 ⟨h1,h40⟩),rfl⟩
    ·have t2:decide ((s.size:Int)≤40)=false:=decide_eq_false (by omega)
     have HN:Hid (¬ aCd s):=fun h=>h40 (HT.out.1 h).2
     clear h40
     go_wp2_with fail
     go_ret
     exact ⟨aAy HN.out,rfl⟩
   ·have t1:decide ((1:Int)≤(s.size:Int))=false:=decide_eq_false (by omega)
    have HN:Hid (¬ aCd s):=fun h=>h1 (HT.out.1 h).1
    clear h1
    go_wp2_with fail
    go_ret
    exact ⟨aAy HN.out,rfl⟩
theorem aIq (s:ByteArray) (w:World) (hs:s.size≤100) :
  Calls Tryz.prog 131 #[.string s] w fun e w'=>aF5 (aBr s) e∧w'=w:=by
 go_enter Tryz.func131,Tryz.ntmps131
 go_wp2_with fail
 go_loopw [3] (fun i wr=>∃ k:Nat,k≤s.size∧i=.int .i64 k∧Hid (∀ j (h:j<s.size),j<k→aC8 s j h)∧wr=w) (fun i _=>s.size - (intOf i).toNat)
 case atStart=>exact ⟨0,Nat.zero_le _,rfl,fun _ _ h=>absurd h (by omega),rfl⟩
 case round =>
  obtain ⟨k,hk,rfl,hno,rfl⟩:=hrel
  by_cases hlt:k<s.size
  ·have hlt':(k:Int)<(s.size:Int):=by omega
   have HX:Hid (aC8 s k hlt→∀ j (h:j<s.size),j<k+1→aC8 s j h):=fun h j hj hjk=>by
    rcases Nat.lt_or_ge j k with h1 | h1
    ·exact hno.out j hj h1
    ·obtain rfl:j=k:=by omega
     exact h
   rcases (show k=0∨(k≠0∧k+1=s.size)∨(k≠0∧k+1≠s.size) by omega) with he | he | he
   ·rcases (show s[k].toNat<32∨126<s[k].toNat∨s[k].toNat=32∨(33≤s[k].toNat∧s[k].toNat≤126) by omega) with h | h | h | h
    ·have HE:=hide he
     have HH:=hide h
     have e0:((k:Int) == 0)=true:=by rw [beq_iff_eq];omega
     have t0:(s[k].toNat:Int)<32:=by omega
     have HN:Hid (¬ aBr s):=fun hv=>by have:=hv.2 k hlt;unfold aC8 at this;omega
     clear he h HE HH HX
     go_wp2_with fail
     go_ret
     exact ⟨aAy HN.out,rfl⟩
    ·have HE:=hide he
     have HH:=hide h
     have e0:((k:Int) == 0)=true:=by rw [beq_iff_eq];omega
     have t0:¬ (s[k].toNat:Int)<32:=by omega
     have t1:(126:Int)<(s[k].toNat:Int):=by omega
     have HN:Hid (¬ aBr s):=fun hv=>by have:=hv.2 k hlt;unfold aC8 at this;omega
     clear he h HE HH HX
     go_wp2_with fail
     go_ret
     exact ⟨aAy HN.out,rfl⟩
    ·have HE:=hide he
     have HH:=hide h
     have e0:((k:Int) == 0)=true:=by rw [beq_iff_eq];omega
     have t0:¬ (s[k].toNat:Int)<32:=by omega
     have t1:¬ (126:Int)<(s[k].toNat:Int):=by omega
     have t2:((s[k].toNat:Int) == 32)=true:=by rw [beq_iff_eq];omega
     have HN:Hid (¬ aBr s):=fun hv=>by have:=hv.2 k hlt;unfold aC8 at this;omega
     clear he h HE HH HX
     go_wp2_with fail
     go_ret
     exact ⟨aAy HN.out,rfl⟩
    ·have HE:=hide he
     have HH:=hide h
     have e0:((k:Int) == 0)=true:=by rw [beq_iff_eq];omega
     have t0:¬ (s[k].toNat:Int)<32:=by omega
     have t1:¬ (126:Int)<(s[k].toNat:Int):=by omega
     have t2:((s[k].toNat:Int) == 32)=false:=zzE (by omega)
     have HY:=hide (HX.out (by unfold aC8;omega))
     clear he h HE HH HX
     go_wp2_with fail
     exact ⟨⟨k+1,by omega,by go_num,HY.out,trivial⟩,by simp [intOf];omega⟩
   ·rcases (show s[k].toNat<32∨126<s[k].toNat∨s[k].toNat=32∨(33≤s[k].toNat∧s[k].toNat≤126) by omega) with h | h | h | h
    ·have HE:=hide he
     have HH:=hide h
     have e0:((k:Int) == 0)=false:=zzE (by omega)
     have e1:((k:Int) == (s.size:Int) - 1)=true:=by rw [beq_iff_eq];omega
     have t0:(s[k].toNat:Int)<32:=by omega
     have HN:Hid (¬ aBr s):=fun hv=>by have:=hv.2 k hlt;unfold aC8 at this;omega
     clear he h HE HH HX
     go_wp2_with fail
     go_ret
     exact ⟨aAy HN.out,rfl⟩
    ·have HE:=hide he
     have HH:=hide h
     have e0:((k:Int) == 0)=false:=zzE (by omega)
     have e1:((k:Int) == (s.size:Int) - 1)=true:=by rw [beq_iff_eq];omega
     have t0:¬ (s[k].toNat:Int)<32:=by omega
     have t1:(126:Int)<(s[k].toNat:Int):=by omega
     have HN:Hid (¬ aBr s):=fun hv=>by have:=hv.2 k hlt;unfold aC8 at this;omega
     clear he h HE HH HX
     go_wp2_with fail
     go_ret
     exact ⟨aAy HN.out,rfl⟩
    ·have HE:=hide he
     have HH:=hide h
     have e0:((k:Int) == 0)=false:=zzE (by omega)
     have e1:((k:Int) == (s.size:Int) - 1)=true:=by rw [beq_iff_eq];omega
     have t0:¬ (s[k].toNat:Int)<32:=by omega
     have t1:¬ (126:Int)<(s[k].toNat:Int):=by omega
     have t2:((s[k].toNat:Int) == 32)=true:=by rw [beq_iff_eq];omega
     have HN:Hid (¬ aBr s):=fun hv=>by have:=hv.2 k hlt;unfold aC8 at this;omega
     clear he h HE HH HX
     go_wp2_with fail
     go_ret
     exact ⟨aAy HN.out,rfl⟩
    ·have HE:=hide he
     have HH:=hide h
     have e0:((k:Int) == 0)=false:=zzE (by omega)
     have e1:((k:Int) == (s.size:Int) - 1)=true:=by rw [beq_iff_eq];omega
     have t0:¬ (s[k].toNat:Int)<32:=by omega
     have t1:¬ (126:Int)<(s[k].toNat:Int):=by omega
     have t2:((s[k].toNat:Int) == 32)=false:=zzE (by omega)
     have HY:=hide (HX.out (by unfold aC8;omega))
     clear he h HE HH HX
     go_wp2_with fail
     exact ⟨⟨k+1,by omega,by go_num,HY.out,trivial⟩,by simp [intOf];omega⟩
   ·rcases (show s[k].toNat<32∨126<s[k].toNat∨s[k].toNat=32∨(33≤s[k].toNat∧s[k].toNat≤126) by omega) with h | h | h | h
    ·have HE:=hide he
     have HH:=hide h
     have e0:((k:Int) == 0)=false:=zzE (by omega)
     have e1:((k:Int) == (s.size:Int) - 1)=false:=zzE (by omega)
     have t0:(s[k].toNat:Int)<32:=by omega
     have HN:Hid (¬ aBr s):=fun hv=>by have:=hv.2 k hlt;unfold aC8 at this;omega
     clear he h HE HH HX
     go_wp2_with fail
     go_ret
     exact ⟨aAy HN.out,rfl⟩
    ·have HE:=hide he
     have HH:=hide h
     have e0:((k:Int) == 0)=false:=zzE (by omega)
     have e1:((k:Int) == (s.size:Int) - 1)=false:=zzE (by omega)
     have t0:¬ (s[k].toNat:Int)<32:=by omega
     have t1:(126:Int)<(s[k].toNat:Int):=by omega
     have HN:Hid (¬ aBr s):=fun hv=>by have:=hv.2 k hlt;unfold aC8 at this;omega
     clear he h HE HH HX
     go_wp2_with fail
     go_ret
     exact ⟨aAy HN.out,rfl⟩
    ·have HE:=hide he
     have HH:=hide h
     have e0:((k:Int) == 0)=false:=zzE (by omega)
     have e1:((k:Int) == (s.size:Int) - 1)=false:=zzE (by omega)
     have t0:¬ (s[k].toNat:Int)<32:=by omega
     have t1:¬ (126:Int)<(s[k].toNat:Int):=by omega
     have t2:((s[k].toNat:Int) == 32)=true:=by rw [beq_iff_eq];omega
     have HY:=hide (HX.out (by unfold aC8;omega))
     clear he h HE HH HX
     go_wp2_with fail
     exact ⟨⟨k+1,by omega,by go_num,HY.out,trivial⟩,by simp [intOf];omega⟩
    ·have HE:=hide he
     have HH:=hide h
     have e0:((k:Int) == 0)=false:=zzE (by omega)
     have e1:((k:Int) == (s.size:Int) - 1)=false:=zzE (by omega)
     have t0:¬ (s[k].toNat:Int)<32:=by omega
     have t1:¬ (126:Int)<(s[k].toNat:Int):=by omega
     have t2:((s[k].toNat:Int) == 32)=false:=zzE (by omega)
     have HY:=hide (HX.out (by unfold aC8;omega))
     clear he h HE HH HX
     go_wp2_with fail
     exact ⟨⟨k+1,by omega,by go_num,HY.out,trivial⟩,by simp [intOf];omega⟩
  ·have hlt':¬ (k:Int)<(s.size:Int):=by omega
   have HT:Hid (aBr s↔s.size≤40):=⟨fun h=>h.1,fun h=>⟨h,fun j hj=>hno.out j hj (by omega)⟩⟩
   by_cases h40:s.size≤40
   ·have t2:(s.size:Int)≤40:=by omega
    go_wp2_with fail
    go_ret
    exact ⟨aF6 (HT.out.2 h40),rfl⟩
   ·have t2:decide ((s.size:Int)≤40)=false:=decide_eq_false (by omega)
    have HN:Hid (¬ aBr s):=fun h=>h40 (HT.out.1 h)
    clear h40
    go_wp2_with fail
    go_ret
    exact ⟨aAy HN.out,rfl⟩
end Go.Proofs.YthnodpdiocppgaaGreatDoor
