/-
  Walks: inPath, Is, mayBegin, May (of package path).
-/
import Derived.Test.YthnodpdiocppgaaGreatDoorJ1
import Derived.LoopTactic
import Derived.Laws.RangeAny
import Derived.Laws.RangeString
import Derived.Deep.RegionHeld3
set_option maxHeartbeats 800000
set_option maxRecDepth 20000
namespace Go.Proofs.YthnodpdiocppgaaGreatDoor
open Go Go.RowKit Go.Shelf
theorem aG5 (c:Int) (w:World) :
  Calls Tryz.prog 234 #[.int .i32 c] w fun e w'=>e=.returned (.bool (inP c))∧w'=w:=by
 go_enter Tryz.func234,Tryz.ntmps234
 go_wp2
 all_goals go_ret
 all_goals (refine ⟨aA1 ?_,rfl⟩)
 all_goals (simp only [inP];rw [Bool.eq_iff_iff];simp)
 all_goals omega
theorem aHu:(⟨#[47]⟩:ByteArray).size≤maxLen:=by decide
theorem aSl (s:ByteArray) (pos:Nat) (h:pos<s.size) (ha:¬ (s[pos]'h).toNat<128):inP ((Utf8.decode s pos).1:Int)=false:=by
 have:=(decode_high s pos h (by omega)).1
 simp only [inP]
 have h2:decide (((Utf8.decode s pos).1:Int)≤126)=false:=decide_eq_false (by omega)
 rw [h2]
 simp
theorem aQe (s:ByteArray) (pos:Nat) (h:pos<s.size) (ha:¬ (s[pos]'h).toNat<128):inP ((s[pos]'h).toNat:Int)=false:=by
 simp only [inP]
 have h2:decide (((s[pos]'h).toNat:Int)≤126)=false:=decide_eq_false (by omega)
 rw [h2]
 simp
theorem aJe {s:ByteArray} {k:Nat} (h:k<s.size) (hin:inP (s[k].toNat:Int)=false):isP s.data.toList=false:=by
 rw [Bool.eq_false_iff]
 intro hp
 have:=(aDz.1 hp).2.2 s[k] (by simp [ByteArray.getElem_eq_getElem_data])
 rw [hin] at this
 cases this
theorem aNi {s:ByteArray} (h60:¬ 60<s.size) (hpre:Lib.hasPrefix s.data.toList [47]=true) (hall:∀ j (h:j<s.size),inP (s[j].toNat:Int)=true):isP s.data.toList=true:=by
 rw [aDz]
 refine ⟨by rw [Array.length_toList];exact Nat.le_of_not_lt h60,aDy.1 hpre,?_⟩
 intro c hc
 obtain ⟨j,hj,rfl⟩:=List.getElem_of_mem hc
 exact hall j (by simpa using hj)
theorem aLe {s:ByteArray} (h60:60<s.size):isP s.data.toList=false:=by
 rw [Bool.eq_false_iff]
 intro hp
 have:=(aDz.1 hp).1
 rw [Array.length_toList] at this
 exact absurd h60 (Nat.not_lt.2 this)
theorem aHv {s:ByteArray} (hpre:Lib.hasPrefix s.data.toList [47]=false):isP s.data.toList=false:=by
 rw [Bool.eq_false_iff]
 intro hp
 have:=aDy.2 (aDz.1 hp).2.1
 rw [hpre] at this
 cases this
theorem aDr (s:ByteArray) (w:World) (hs:s.size≤maxLen) :
  Calls Tryz.prog 209 #[.string s] w fun e w'=>e=.returned (.bool (isP s.data.toList))∧Below w.heap.size w w':=by
 by_cases h60:60<s.size
 ·have HX:=hide (aLe h60)
  go_enter Tryz.func209,Tryz.ntmps209
  go_wp2_with fail
  go_ret
  exact ⟨aA1 HX.out.symm,Below.refl _ _⟩
 ·cases hpre:Lib.hasPrefix s.data.toList [47]
  ·have HX:=hide (aHv hpre)
   have HP:Hid (Lib.hasPrefix s.data.toList (⟨#[47]⟩:ByteArray).data.toList=false):=hpre
   clear hpre
   go_enter Tryz.func209,Tryz.ntmps209
   go_wp2_with fail
   refine (aE9 _ _ _ hs aHu).mono ?_
   rintro e x ⟨rfl,hx⟩
   subst x
   rw [HP.out]
   go_wp2_with fail
   go_ret
   exact ⟨aA1 HX.out.symm,Below.refl _ _⟩
  ·have HX:=hide (fun h=>aNi h60 hpre h)
   have HP:Hid (Lib.hasPrefix s.data.toList (⟨#[47]⟩:ByteArray).data.toList=true):=hpre
   clear hpre
   go_enter Tryz.func209,Tryz.ntmps209
   go_wp2_with fail
   refine (aE9 _ _ _ hs aHu).mono ?_
   rintro e x ⟨rfl,hx⟩
   subst x
   rw [HP.out]
   go_wp2_with fail
   go_loopw [4] (fun _ w'=>∃ pos:Nat,w'=w.iter s pos∧Hid (∀ j (h:j<s.size),j<pos→inP (s[j].toNat:Int)=true)) (fun _ w'=>s.size - w'.iterPos w.heap.size)
   case atStart=>exact ⟨0,rfl,fun j h hj=>by omega⟩
   case round =>
    obtain ⟨pos,rfl,hall⟩:=hrel
    by_cases hp:pos<s.size
    ·by_cases ha:(s[pos]'hp).toNat<128
     ·have hnx:∀ ty,(Instr.next (.pointer (some ⟨w.heap.size,0,none⟩)) true ty).run Tryz.prog (w.iter s pos)=_:=fun ty=>run_next_ascii w s pos ty hp ha
      cases hin:inP (s[pos].toNat:Int)
      ·have HN:=hide (aJe hp hin)
       have HI:=hide hin
       clear hin
       go_wp2_with fail
       refine (aG5 _ _).mono ?_
       rintro e x ⟨rfl,hx⟩
       subst x
       rw [HI.out]
       go_wp2_with fail
       go_ret
       exact ⟨aA1 HN.out.symm,(Below.refl _ _).alloc (Nat.le_refl _) _⟩
      ·have HI:=hide hin
       clear hin
       go_wp2_with fail
       refine (aG5 _ _).mono ?_
       rintro e x ⟨rfl,hx⟩
       subst x
       rw [HI.out]
       go_wp2_with fail
       refine ⟨⟨pos+1,rfl,fun j h hj=>?_⟩,?_⟩
       ·by_cases e:j=pos
        ·subst e;exact HI.out
        ·exact hall.out j h (by omega)
       ·simp;omega
     ·have hnx:∀ ty,(Instr.next (.pointer (some ⟨w.heap.size,0,none⟩)) true ty).run Tryz.prog (w.iter s pos)=_:=fun ty=>run_next_any w s pos ty hp
      have HN:=hide (aJe hp (aQe s pos hp ha))
      have HI:=hide (aSl s pos hp ha)
      go_wp2_with fail
      refine (aG5 _ _).mono ?_
      rintro e x ⟨rfl,hx⟩
      subst x
      rw [HI.out]
      go_wp2_with fail
      go_ret
      exact ⟨aA1 HN.out.symm,(Below.refl _ _).alloc (Nat.le_refl _) _⟩
    ·have hnx:∀ ty,(Instr.next (.pointer (some ⟨w.heap.size,0,none⟩)) true ty).run Tryz.prog (w.iter s pos)=_:=fun ty=>run_next_end w s pos ty hp
     have HY:=hide (HX.out (fun j h=>hall.out j h (by omega)))
     go_wp2_with fail
     go_ret
     exact ⟨aA1 HY.out.symm,(Below.refl _ _).alloc (Nat.le_refl _) _⟩
end Go.Proofs.YthnodpdiocppgaaGreatDoor
namespace Go.Proofs.YthnodpdiocppgaaGreatDoor
open Go Go.RowKit Go.Shelf
theorem aJx {a:ByteArray}:(a.toList == [47])=(a.data.toList == [47]):=by rw [Lib.toList_data]
theorem aUq {s:ByteArray} (h:isP s.data.toList=true):s.size≤60:=by
 have:=(aDz.1 h).1
 rwa [Array.length_toList] at this
theorem aLf (s:ByteArray) (w:World) (hs:s.size≤maxLen) :
  Calls Tryz.prog 210 #[.string s] w fun e w'=>e=.returned (.bool (abv s.data.toList))∧Below w.heap.size w w':=by
 cases hp:isP s.data.toList
 ·have HA:Hid (abv s.data.toList=false):=by unfold Hid abv;rw [hp];rfl
  have HP:=hide hp
  clear hp
  go_enter Tryz.func210,Tryz.ntmps210
  go_wp2_with fail
  refine (aDr _ _ hs).mono ?_
  rintro e w1 ⟨rfl,hb1⟩
  rw [HP.out]
  go_wp2_with fail
  go_ret
  exact ⟨aA1 HA.out.symm,hb1⟩
 ·have HP:=hide hp
  cases hr:(s.toList == [47])
  ·have HA:Hid (abv s.data.toList=!Lib.hasSuffix s.data.toList (⟨#[47]⟩:ByteArray).data.toList):=by
    unfold Hid abv
    rw [hp,←aJx,hr];rfl
   clear hp
   go_enter Tryz.func210,Tryz.ntmps210
   go_wp2_with fail
   refine (aDr _ _ hs).mono ?_
   rintro e w1 ⟨rfl,hb1⟩
   rw [HP.out]
   go_wp2_with fail
   refine (aGl _ _ _ hs aHu).mono ?_
   rintro e x ⟨rfl,hx⟩
   subst x
   go_wp2_with fail
   go_ret
   exact ⟨aA1 HA.out.symm,hb1⟩
  ·have HA:Hid (abv s.data.toList=true):=by
    unfold Hid abv
    rw [hp,←aJx,hr];rfl
   clear hp
   go_enter Tryz.func210,Tryz.ntmps210
   go_wp2_with fail
   refine (aDr _ _ hs).mono ?_
   rintro e w1 ⟨rfl,hb1⟩
   rw [HP.out]
   go_wp2_with fail
   go_ret
   exact ⟨aA1 HA.out.symm,hb1⟩
theorem aNj (k:Int) (s:ByteArray) (w:World) (hs:s.size≤maxLen) :
  Calls Tryz.prog 188 #[.agg #[.int .i64 k,.string s]] w fun e w'=>e=.returned (.bool (mayP k s.data.toList))∧Below w.heap.size w w':=by
 cases h1:(k == 1)
 ·cases h2:(k == 2)
  ·have HM:Hid (mayP k s.data.toList=false):=by
    unfold Hid mayP
    rw [if_neg (beq_eq_false_iff_ne.1 h1),if_neg (beq_eq_false_iff_ne.1 h2)]
   go_enter Tryz.func188,Tryz.ntmps188
   go_wp2_with fail
   go_ret
   exact ⟨aA1 HM.out.symm,(Below.refl _ _).alloc (Nat.le_refl _) _⟩
  ·have HM:Hid (mayP k s.data.toList=abv s.data.toList):=by
    unfold Hid mayP
    rw [if_neg (beq_eq_false_iff_ne.1 h1),if_pos (eq_of_beq h2)]
   go_enter Tryz.func188,Tryz.ntmps188
   go_wp2_with fail
   refine (aLf _ _ hs).mono ?_
   rintro e w1 ⟨rfl,hb1⟩
   go_wp2_with fail
   go_ret
   exact ⟨aA1 HM.out.symm,aA8 hb1⟩
 ·have HM:Hid (mayP k s.data.toList=isP s.data.toList):=by
   unfold Hid mayP
   rw [if_pos (eq_of_beq h1)]
  go_enter Tryz.func188,Tryz.ntmps188
  go_wp2_with fail
  refine (aDr _ _ hs).mono ?_
  rintro e w1 ⟨rfl,hb1⟩
  go_wp2_with fail
  go_ret
  exact ⟨aA1 HM.out.symm,aA8 hb1⟩
end Go.Proofs.YthnodpdiocppgaaGreatDoor
namespace Go.Proofs.YthnodpdiocppgaaGreatDoor
open Go Go.RowKit Go.Shelf
theorem aSm (k:Int) (s:ByteArray) (w:World) (hs:s.size≤maxLen) :
  Calls Tryz.prog 66 #[.agg #[.int .i64 k,.string s]] w fun e w'=>e=.returned (.agg #[.int .i64 k,.string (fewB s)])∧Below w.heap.size w w':=by
 go_enter Tryz.func66,Tryz.ntmps66
 go_wp2_with fail
 refine (aAw _ _ hs).mono ?_
 rintro e x ⟨rfl,hx⟩
 subst x
 go_wp2_with fail
 exact bodyPost_ret (v:=.agg #[.int .i64 k,.string (fewB s)]) (by simp [results,Tryz.results66,go_sem]) rfl ⟨rfl,((Below.refl _ _).alloc (Nat.le_refl _) _).alloc (by simp) _⟩
end Go.Proofs.YthnodpdiocppgaaGreatDoor
namespace Go.Proofs.YthnodpdiocppgaaGreatDoor
open Go Go.RowKit Go.Shelf
end Go.Proofs.YthnodpdiocppgaaGreatDoor
