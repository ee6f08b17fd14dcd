/-
  The aHc mathematics of hosts' patterns: lists of octets. Of the program nothing is used here but what is under what.
-/
import Derived.Test.YthfnjcbiiofkhaaGreatDoorJ6
import Derived.Lib.LastIndexByte
set_option maxHeartbeats 400000
set_option maxRecDepth 20000
namespace Go.Proofs.YthfnjcbiiofkhaaGreatDoor
open Go
def isW (l:List UInt8):Bool:=Lib.hasPrefix l [42,46]
def tp (l:List UInt8):List UInt8:=Lib.trimPrefix l [42,46]
def may (l:List UInt8):Bool:=l.isEmpty||(decide (l.length≤60)&&D.isName (tp l))
def aX3 (a b:List UInt8):Bool:=b.isEmpty||a == b||(isW b&&under (tp a) (tp b))
def holds (p h:List UInt8):Bool:=may p&&D.isName h&&aX3 h p
theorem aLy {l:List UInt8} (h:isW l=true):l=42::46::tp l:=by
 have h':=h
 unfold isW Lib.hasPrefix at h
 obtain ⟨t,ht⟩:=List.isPrefixOf_iff_prefix.1 h
 unfold tp Lib.trimPrefix
 unfold isW at h'
 rw [if_pos h',←ht]
 rfl
theorem aV8 {l:List UInt8} (h:isW l=true):l.length=(tp l).length+2:=by
 conv=>lhs;rw [aLy h]
 simp
def kd (l:List UInt8):Int:=if l.isEmpty then 2 else if isW l then 1 else 0
def sz (l:List UInt8):Int:=if l.isEmpty then 0 else if isW l then l.length else 0
def ord (a b:List UInt8):Int :=
 if kd a<kd b then -1 else if kd b<kd a then 1 else if sz b<sz a then -1 else if sz a<sz b then 1 else Lib.compareBytes a b
end Go.Proofs.YthfnjcbiiofkhaaGreatDoor
namespace Go.Proofs.YthfnjcbiiofkhaaGreatDoor
open Go Go.RowKit Go.Shelf
def aD4 (s p:ByteArray):ByteArray:=⟨(Lib.trimPrefix s.data.toList p.data.toList).toArray⟩
theorem aIs (s p:ByteArray):(aD4 s p).data.toList=Lib.trimPrefix s.data.toList p.data.toList:=by simp [aD4]
theorem aLz (s p:ByteArray):(aD4 s p).size≤s.size:=by
 have:=Lib.trimPrefix_le s.data.toList p.data.toList
 rw [←aIs,←Lib.size_eq,←Lib.size_eq] at this
 exact this
theorem aV9 {s p:ByteArray} (h:Lib.hasPrefix s.data.toList p.data.toList=true):p.size≤s.size:=by
 rw [←Lib.hasPrefix_raw,Bool.and_eq_true,decide_eq_true_eq] at h;exact h.1
theorem aKi {s p:ByteArray} (h:Lib.hasPrefix s.data.toList p.data.toList=true):s.extract p.size s.size=aD4 s p:=by
 have h':=h
 rw [←Lib.hasPrefix_raw,Bool.and_eq_true,decide_eq_true_eq] at h'
 exact (Lib.trimPrefix_hit s p h'.1 h'.2).symm
theorem aFu {s p:ByteArray} (h:Lib.hasPrefix s.data.toList p.data.toList=false):s=aD4 s p :=
 (Lib.trimPrefix_miss s p (by rw [Lib.hasPrefix_raw];exact h)).symm
theorem aIt (s p:ByteArray) (w:World) (hs:s.size≤maxLen) (hp:p.size≤maxLen) :
  Calls Tryz.prog 209 #[.string s,.string p] w fun e w'=>e=.returned (.string (aD4 s p))∧w'=w:=by
 cases h:Lib.hasPrefix s.data.toList p.data.toList
 ·have HX:=hide (aFu h)
  have H:=hide h
  clear h
  go_enter Tryz.func209,Tryz.ntmps209
  go_wp2_with fail
  refine (aDq _ _ _ hs hp).mono ?_
  rintro e x ⟨rfl,rfl⟩
  rw [H.out]
  go_wp2_with fail
  go_ret
  exact ⟨aH1 HX.out,rfl⟩
 ·have HX:=hide (aKi h)
  have hle:=aV9 h
  have H:=hide h
  clear h
  have hs':=hs
  have hp':=hp
  unfold maxLen at hs' hp'
  go_enter Tryz.func209,Tryz.ntmps209
  go_wp2_with fail
  refine (aDq _ _ _ hs hp).mono ?_
  rintro e x ⟨rfl,rfl⟩
  rw [H.out]
  go_wp2_with fail
  go_ret
  exact ⟨aH1 HX.out,rfl⟩
theorem aJs (s p:ByteArray) (w:World) (hs:s.size≤maxLen) (hp:p.size≤maxLen) :
  Calls Tryz.prog 180 #[.string s,.string p] w fun e w'=>e=.returned (.string (aD4 s p))∧w'=w:=by
 go_enter Tryz.func180,Tryz.ntmps180
 go_wp2_with (go_at_call 209;refine (aIt _ _ _ hs hp).mono ?_;rintro e w' ⟨rfl,rfl⟩)
 go_ret
 exact ⟨rfl,rfl⟩
end Go.Proofs.YthfnjcbiiofkhaaGreatDoor
namespace Go.Proofs.YthfnjcbiiofkhaaGreatDoor
open Go Go.RowKit Go.Shelf
abbrev aVa:ByteArray:=⟨#[42,46]⟩
theorem aT8:aVa.size≤maxLen:=by unfold maxLen;decide
theorem aM0 (s:ByteArray):(aD4 s ⟨#[42,46]⟩).data.toList=tp s.data.toList:=aIs s _
theorem aDg (s:ByteArray):s.data.toList.isEmpty=s.toList.isEmpty:=by rw [Lib.toList_data]
theorem aM1 (s:ByteArray) (w:World) (hs:s.size≤maxLen) :
  Calls Tryz.prog 140 #[.string s] w fun e w'=>e=.returned (.bool (may s.data.toList))∧Below w.heap.size w w':=by
 have HM:Hid (may s.data.toList=(s.data.toList.isEmpty||(decide (s.data.toList.length≤60)&&D.isName (aD4 s ⟨#[42,46]⟩).data.toList))):=by
  unfold Hid;rw [aM0];rfl
 have hsl:s.data.toList.length=s.size:=Array.length_toList
 cases h:s.toList.isEmpty
 ·by_cases h60:s.size≤60
  ·have lt:=Nat.le_trans (aLz s ⟨#[42,46]⟩) hs
   have HE:Hid (D.isName (aD4 s ⟨#[42,46]⟩).data.toList=may s.data.toList):=by
    unfold Hid;rw [HM.out,aDg,h,hsl,decide_eq_true h60];rfl
   have h60':(s.size:Int)≤60:=by omega
   clear hsl
   go_enter Tryz.func140,Tryz.ntmps140
   go_wp2_with fail
   refine (aJs _ _ _ hs aT8).mono ?_
   rintro e x ⟨rfl,rfl⟩
   go_wp2_with fail
   refine (aBq _ _ lt).mono ?_
   rintro e x ⟨rfl,hb⟩
   go_wp2_with fail
   go_ret
   exact ⟨aA1 HE.out,hb⟩
  ·have HE:Hid (may s.data.toList=false):=by
    unfold Hid;rw [HM.out,aDg,h,hsl,decide_eq_false h60];rfl
   have h60':¬ (s.size:Int)≤60:=by omega
   clear hsl
   go_enter Tryz.func140,Tryz.ntmps140
   go_wp2_with fail
   go_ret
   exact ⟨aA1 HE.out.symm,Below.refl _ _⟩
 ·have HE:Hid (may s.data.toList=true):=by
   unfold Hid;rw [HM.out,aDg,h];rfl
  clear hsl
  go_enter Tryz.func140,Tryz.ntmps140
  go_wp2_with fail
  go_ret
  exact ⟨aA1 HE.out.symm,Below.refl _ _⟩
end Go.Proofs.YthfnjcbiiofkhaaGreatDoor
