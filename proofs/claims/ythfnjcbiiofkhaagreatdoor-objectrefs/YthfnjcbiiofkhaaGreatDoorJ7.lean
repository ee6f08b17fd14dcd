/-
  Walks: inPath, Is, mayBegin, May (of package path).
-/
import Derived.Test.YthfnjcbiiofkhaaGreatDoorJ1
import Derived.LoopTactic
import Derived.Laws.RangeAny
import Derived.Laws.RangeString
import Derived.Deep.RegionHeld3
set_option maxHeartbeats 800000
set_option maxRecDepth 20000
namespace Go.Proofs.YthfnjcbiiofkhaaGreatDoor
open Go Go.RowKit Go.Shelf
theorem aFx (c:Int) (w:World) :
  Calls Tryz.prog 239 #[.int .i32 c] w fun e w'=>e=.returned (.bool (inP c))∧w'=w:=by
 go_enter Tryz.func239,Tryz.ntmps239
 go_wp2
 all_goals go_ret
 all_goals (refine ⟨aA1 ?_,rfl⟩)
 all_goals (simp only [inP];rw [Bool.eq_iff_iff];simp)
 all_goals omega
theorem aHx:(⟨#[47]⟩:ByteArray).size≤maxLen:=by decide
theorem aTc (s:ByteArray) (pos:Nat) (h:pos<s.size) (ha:¬ (s[pos]'h).toNat<128):inP ((Utf8.decode s pos).1:Int)=false:=by
 have:=(decode_high s pos h (by omega)).1
 simp only [inP]
 have h2:decide (((Utf8.decode s pos).1:Int)≤126)=false:=decide_eq_false (by omega)
 rw [h2]
 simp
theorem aRa (s:ByteArray) (pos:Nat) (h:pos<s.size) (ha:¬ (s[pos]'h).toNat<128):inP ((s[pos]'h).toNat:Int)=false:=by
 simp only [inP]
 have h2:decide (((s[pos]'h).toNat:Int)≤126)=false:=decide_eq_false (by omega)
 rw [h2]
 simp
theorem aJu {s:ByteArray} {k:Nat} (h:k<s.size) (hin:inP (s[k].toNat:Int)=false):isP s.data.toList=false:=by
 rw [Bool.eq_false_iff]
 intro hp
 have:=(aDt.1 hp).2.2 s[k] (by simp [ByteArray.getElem_eq_getElem_data])
 rw [hin] at this
 cases this
theorem aOh {s:ByteArray} (h60:¬ 60<s.size) (hpre:Lib.hasPrefix s.data.toList [47]=true) (hall:∀ j (h:j<s.size),inP (s[j].toNat:Int)=true):isP s.data.toList=true:=by
 rw [aDt]
 refine ⟨by rw [Array.length_toList];exact Nat.le_of_not_lt h60,aDs.1 hpre,?_⟩
 intro c hc
 obtain ⟨j,hj,rfl⟩:=List.getElem_of_mem hc
 exact hall j (by simpa using hj)
theorem aM7 {s:ByteArray} (h60:60<s.size):isP s.data.toList=false:=by
 rw [Bool.eq_false_iff]
 intro hp
 have:=(aDt.1 hp).1
 rw [Array.length_toList] at this
 exact absurd h60 (Nat.not_lt.2 this)
theorem aHy {s:ByteArray} (hpre:Lib.hasPrefix s.data.toList [47]=false):isP s.data.toList=false:=by
 rw [Bool.eq_false_iff]
 intro hp
 have:=aDs.2 (aDt.1 hp).2.1
 rw [hpre] at this
 cases this
theorem aDn (s:ByteArray) (w:World) (hs:s.size≤maxLen) :
  Calls Tryz.prog 212 #[.string s] w fun e w'=>e=.returned (.bool (isP s.data.toList))∧Below w.heap.size w w':=by
 by_cases h60:60<s.size
 ·have HX:=hide (aM7 h60)
  go_enter Tryz.func212,Tryz.ntmps212
  go_wp2_with fail
  go_ret
  exact ⟨aA1 HX.out.symm,Below.refl _ _⟩
 ·cases hpre:Lib.hasPrefix s.data.toList [47]
  ·have HX:=hide (aHy hpre)
   have HP:Hid (Lib.hasPrefix s.data.toList (⟨#[47]⟩:ByteArray).data.toList=false):=hpre
   clear hpre
   go_enter Tryz.func212,Tryz.ntmps212
   go_wp2_with fail
   refine (aE5 _ _ _ hs aHx).mono ?_
   rintro e x ⟨rfl,hx⟩
   subst x
   rw [HP.out]
   go_wp2_with fail
   go_ret
   exact ⟨aA1 HX.out.symm,Below.refl _ _⟩
  ·have HX:=hide (fun h=>aOh h60 hpre h)
   have HP:Hid (Lib.hasPrefix s.data.toList (⟨#[47]⟩:ByteArray).data.toList=true):=hpre
   clear hpre
   go_enter Tryz.func212,Tryz.ntmps212
   go_wp2_with fail
   refine (aE5 _ _ _ hs aHx).mono ?_
   rintro e x ⟨rfl,hx⟩
   subst x
   rw [HP.out]
   go_wp2_with fail
   go_loopw [4] (fun _ w'=>∃ pos:Nat,w'=w.iter s pos∧Hid (∀ j (h:j<s.size),j<pos→inP (s[j].toNat:Int)=true)) (fun _ w'=>s.size - w'.iterPos w.heap.size)
   case atStart=>exact ⟨0,rfl,fun j h hj=>by omega⟩
   case round =>
    obtain ⟨pos,rfl,hall⟩:=hrel
    by_cases hp:pos<s.size
    ·by_cases ha:(s[pos]'hp).toNat<128
     ·have hnx:∀ ty,(Instr.next (.pointer (some ⟨w.heap.size,0,none⟩)) true ty).run Tryz.prog (w.iter s pos)=_:=fun ty=>run_next_ascii w s pos ty hp ha
      cases hin:inP (s[pos].toNat:Int)
      ·have HN:=hide (aJu hp hin)
       have HI:=hide hin
       clear hin
       go_wp2_with fail
       refine (aFx _ _).mono ?_
       rintro e x ⟨rfl,hx⟩
       subst x
       rw [HI.out]
       go_wp2_with fail
       go_ret
       exact ⟨aA1 HN.out.symm,(Below.refl _ _).alloc (Nat.le_refl _) _⟩
      ·have HI:=hide hin
       clear hin
       go_wp2_with fail
       refine (aFx _ _).mono ?_
       rintro e x ⟨rfl,hx⟩
       subst x
       rw [HI.out]
       go_wp2_with fail
       refine ⟨⟨pos+1,rfl,fun j h hj=>?_⟩,?_⟩
       ·by_cases e:j=pos
        ·subst e;exact HI.out
        ·exact hall.out j h (by omega)
       ·simp;omega
     ·have hnx:∀ ty,(Instr.next (.pointer (some ⟨w.heap.size,0,none⟩)) true ty).run Tryz.prog (w.iter s pos)=_:=fun ty=>run_next_any w s pos ty hp
      have HN:=hide (aJu hp (aRa s pos hp ha))
      have HI:=hide (aTc s pos hp ha)
      go_wp2_with fail
      refine (aFx _ _).mono ?_
      rintro e x ⟨rfl,hx⟩
      subst x
      rw [HI.out]
      go_wp2_with fail
      go_ret
      exact ⟨aA1 HN.out.symm,(Below.refl _ _).alloc (Nat.le_refl _) _⟩
    ·have hnx:∀ ty,(Instr.next (.pointer (some ⟨w.heap.size,0,none⟩)) true ty).run Tryz.prog (w.iter s pos)=_:=fun ty=>run_next_end w s pos ty hp
     have HY:=hide (HX.out (fun j h=>hall.out j h (by omega)))
     go_wp2_with fail
     go_ret
     exact ⟨aA1 HY.out.symm,(Below.refl _ _).alloc (Nat.le_refl _) _⟩
end Go.Proofs.YthfnjcbiiofkhaaGreatDoor
namespace Go.Proofs.YthfnjcbiiofkhaaGreatDoor
open Go Go.RowKit Go.Shelf
theorem aKk {a:ByteArray}:(a.toList == [47])=(a.data.toList == [47]):=by rw [Lib.toList_data]
theorem aVs {s:ByteArray} (h:isP s.data.toList=true):s.size≤60:=by
 have:=(aDt.1 h).1
 rwa [Array.length_toList] at this
theorem aM8 (s:ByteArray) (w:World) (hs:s.size≤maxLen) :
  Calls Tryz.prog 213 #[.string s] w fun e w'=>e=.returned (.bool (abv s.data.toList))∧Below w.heap.size w w':=by
 cases hp:isP s.data.toList
 ·have HA:Hid (abv s.data.toList=false):=by unfold Hid abv;rw [hp];rfl
  have HP:=hide hp
  clear hp
  go_enter Tryz.func213,Tryz.ntmps213
  go_wp2_with fail
  refine (aDn _ _ hs).mono ?_
  rintro e w1 ⟨rfl,hb1⟩
  rw [HP.out]
  go_wp2_with fail
  go_ret
  exact ⟨aA1 HA.out.symm,hb1⟩
 ·have HP:=hide hp
  cases hr:(s.toList == [47])
  ·have HA:Hid (abv s.data.toList=!Lib.hasSuffix s.data.toList (⟨#[47]⟩:ByteArray).data.toList):=by
    unfold Hid abv
    rw [hp,←aKk,hr];rfl
   clear hp
   go_enter Tryz.func213,Tryz.ntmps213
   go_wp2_with fail
   refine (aDn _ _ hs).mono ?_
   rintro e w1 ⟨rfl,hb1⟩
   rw [HP.out]
   go_wp2_with fail
   refine (aGg _ _ _ hs aHx).mono ?_
   rintro e x ⟨rfl,hx⟩
   subst x
   go_wp2_with fail
   go_ret
   exact ⟨aA1 HA.out.symm,hb1⟩
  ·have HA:Hid (abv s.data.toList=true):=by
    unfold Hid abv
    rw [hp,←aKk,hr];rfl
   clear hp
   go_enter Tryz.func213,Tryz.ntmps213
   go_wp2_with fail
   refine (aDn _ _ hs).mono ?_
   rintro e w1 ⟨rfl,hb1⟩
   rw [HP.out]
   go_wp2_with fail
   go_ret
   exact ⟨aA1 HA.out.symm,hb1⟩
theorem aOi (k:Int) (s:ByteArray) (w:World) (hs:s.size≤maxLen) :
  Calls Tryz.prog 187 #[.agg #[.int .i64 k,.string s]] w fun e w'=>e=.returned (.bool (mayP k s.data.toList))∧Below w.heap.size w w':=by
 cases h1:(k == 1)
 ·cases h2:(k == 2)
  ·have HM:Hid (mayP k s.data.toList=false):=by
    unfold Hid mayP
    rw [if_neg (beq_eq_false_iff_ne.1 h1),if_neg (beq_eq_false_iff_ne.1 h2)]
   go_enter Tryz.func187,Tryz.ntmps187
   go_wp2_with fail
   go_ret
   exact ⟨aA1 HM.out.symm,(Below.refl _ _).alloc (Nat.le_refl _) _⟩
  ·have HM:Hid (mayP k s.data.toList=abv s.data.toList):=by
    unfold Hid mayP
    rw [if_neg (beq_eq_false_iff_ne.1 h1),if_pos (eq_of_beq h2)]
   go_enter Tryz.func187,Tryz.ntmps187
   go_wp2_with fail
   refine (aM8 _ _ hs).mono ?_
   rintro e w1 ⟨rfl,hb1⟩
   go_wp2_with fail
   go_ret
   exact ⟨aA1 HM.out.symm,aA5 hb1⟩
 ·have HM:Hid (mayP k s.data.toList=isP s.data.toList):=by
   unfold Hid mayP
   rw [if_pos (eq_of_beq h1)]
  go_enter Tryz.func187,Tryz.ntmps187
  go_wp2_with fail
  refine (aDn _ _ hs).mono ?_
  rintro e w1 ⟨rfl,hb1⟩
  go_wp2_with fail
  go_ret
  exact ⟨aA1 HM.out.symm,aA5 hb1⟩
end Go.Proofs.YthfnjcbiiofkhaaGreatDoor
namespace Go.Proofs.YthfnjcbiiofkhaaGreatDoor
open Go Go.RowKit Go.Shelf
def or3 (x y z:Int):Int:=orI x (orI y z)
theorem aPb (x y z:Int) (g:Nat) (w:World) (h0:w.cell? ⟨g,0,none⟩=some (.int .i64 x)) (h1:w.cell? ⟨g,1,none⟩=some (.int .i64 y)) (h2:w.cell? ⟨g,2,none⟩=some (.int .i64 z)) :
  Calls Tryz.prog 81 #[.slice (some ⟨g,0,none⟩) 3 3] w fun e w'=>e=.returned (.int .i64 (or3 x y z))∧w'=w:=by
 go_enter Tryz.func81,Tryz.ntmps81
 go_wp2
 go_loop [8] (fun i=>∃ k:Nat,k≤3∧i=.int .i64 k∧(1≤k→Hid (x=0))∧(2≤k→Hid (y=0))∧(3≤k→Hid (z=0))) (fun i=>3 - (intOf i).toNat)
 case atStart=>exact ⟨0,by omega,rfl,fun h=>absurd h (by omega),fun h=>absurd h (by omega),fun h=>absurd h (by omega)⟩
 case round =>
  obtain ⟨k,hk,rfl,hx,hy,hz⟩:=hrel
  rcases k with _ | _ | _ | k
  ·clear hx hy hz
   cases hq:(x != 0)
   ·have HX:Hid (x=0):=by simpa [Hid] using hq
    go_wp2
    go_round
    case rel=>exact ⟨1,by omega,rfl,fun _=>HX,fun h=>absurd h (by omega),fun h=>absurd h (by omega)⟩
    case measure=>simp [intOf]
   ·have HX:Hid (or3 x y z=x):=by
     have:x≠0:=by simpa using hq
     simp [Hid,or3,orI,this]
    go_wp2
    go_ret
    exact ⟨aAf HX.out.symm,rfl⟩
  ·have HX0:=hx (by omega)
   clear hx hy hz
   cases hq:(y != 0)
   ·have HX:Hid (y=0):=by simpa [Hid] using hq
    go_wp2
    go_round
    case rel=>exact ⟨2,by omega,rfl,fun _=>HX0,fun _=>HX,fun h=>absurd h (by omega)⟩
    case measure=>simp [intOf]
   ·have HX:Hid (or3 x y z=y):=by
     have:y≠0:=by simpa using hq
     simp [Hid,or3,orI,HX0.out,this]
    go_wp2
    go_ret
    exact ⟨aAf HX.out.symm,rfl⟩
  ·have HX0:=hx (by omega)
   have HX1:=hy (by omega)
   clear hx hy hz
   cases hq:(z != 0)
   ·have HX:Hid (z=0):=by simpa [Hid] using hq
    go_wp2
    go_round
    case rel=>exact ⟨3,by omega,rfl,fun _=>HX0,fun _=>HX1,fun _=>HX⟩
    case measure=>simp [intOf]
   ·have HX:Hid (or3 x y z=z):=by simp [Hid,or3,orI,HX0.out,HX1.out]
    go_wp2
    go_ret
    exact ⟨aAf HX.out.symm,rfl⟩
  ·have hk0:k=0:=by omega
   subst hk0
   have HX:Hid (or3 x y z=0):=by
    have a:=(hx (by omega)).out
    have b:=(hy (by omega)).out
    have c:=(hz (by omega)).out
    simp [Hid,or3,orI,a,b,c]
   clear hx hy hz
   go_wp2
   go_ret
   exact ⟨aAf HX.out.symm,rfl⟩
theorem aX8 (w2:World) (o1 o2:Obj) (x y z:Int):Calls Tryz.prog 81 #[.slice (some ⟨w2.heap.size+1+1,0,none⟩) 3 3] (((w2.alloc o1).alloc o2).alloc (.cells #[.int .i64 x,.int .i64 y,.int .i64 z] 3)).drew
  fun e w'=>e=.returned (.int .i64 (or3 x y z))∧w'=(((w2.alloc o1).alloc o2).alloc (.cells #[.int .i64 x,.int .i64 y,.int .i64 z] 3)).drew:=by
 have h:=aA7 ((w2.alloc o1).alloc o2) (.cells #[.int .i64 x,.int .i64 y,.int .i64 z] 3)
 simp only [World.size_alloc] at h
 have h':(((w2.alloc o1).alloc o2).alloc (.cells #[.int .i64 x,.int .i64 y,.int .i64 z] 3)).drew.heap[w2.heap.size+1+1]?=some (.cells #[.int .i64 x,.int .i64 y,.int .i64 z] 3):=h
 exact aPb x y z _ _ (by simp only [World.cell?];rw [h'];rfl) (by simp only [World.cell?];rw [h'];rfl) (by simp only [World.cell?];rw [h'];rfl)
theorem aTd (k:Int) (s:ByteArray) (w:World) (hs:s.size≤maxLen) :
  Calls Tryz.prog 53 #[.agg #[.int .i64 k,.string s]] w fun e w'=>e=.returned (.agg #[.int .i64 k,.string (fewB s)])∧Below w.heap.size w w':=by
 go_enter Tryz.func53,Tryz.ntmps53
 go_wp2_with fail
 refine (aAu _ _ hs).mono ?_
 rintro e x ⟨rfl,hx⟩
 subst x
 go_wp2_with fail
 exact bodyPost_ret (v:=.agg #[.int .i64 k,.string (fewB s)]) (by simp [results,Tryz.results53,go_sem]) rfl ⟨rfl,((Below.refl _ _).alloc (Nat.le_refl _) _).alloc (by simp) _⟩
end Go.Proofs.YthfnjcbiiofkhaaGreatDoor
namespace Go.Proofs.YthfnjcbiiofkhaaGreatDoor
open Go Go.RowKit Go.Shelf
theorem aX9 {a:ByteArray} {l:List UInt8} (h:a.data.toList=l):a=mkB l:=by
 subst h
 simp [mkB]
end Go.Proofs.YthfnjcbiiofkhaaGreatDoor
