/-
  The aHa mathematics of hosts' patterns: lists of octets. Of the program nothing is used here but what is under what.
-/
import Derived.Test.YthnodpdiocppgaaGreatDoorJ6
import Derived.Lib.LastIndexByte
set_option maxHeartbeats 400000
set_option maxRecDepth 20000
namespace Go.Proofs.YthnodpdiocppgaaGreatDoor
open Go
def isW (l:List UInt8):Bool:=Lib.hasPrefix l [42,46]
def tp (l:List UInt8):List UInt8:=Lib.trimPrefix l [42,46]
def may (l:List UInt8):Bool:=l.isEmpty||(decide (l.length≤60)&&D.isName (tp l))
def aVk (a b:List UInt8):Bool:=b.isEmpty||a == b||(isW b&&under (tp a) (tp b))
def holds (p h:List UInt8):Bool:=may p&&D.isName h&&aVk h p
theorem aL6 {l:List UInt8} (h:isW l=true):l=42::46::tp l:=by
 have h':=h
 unfold isW Lib.hasPrefix at h
 obtain ⟨t,ht⟩:=List.isPrefixOf_iff_prefix.1 h
 unfold tp Lib.trimPrefix
 unfold isW at h'
 rw [if_pos h',←ht]
 rfl
theorem aU6 {l:List UInt8} (h:isW l=true):l.length=(tp l).length+2:=by
 conv=>lhs;rw [aL6 h]
 simp
def kd (l:List UInt8):Int:=if l.isEmpty then 2 else if isW l then 1 else 0
end Go.Proofs.YthnodpdiocppgaaGreatDoor
namespace Go.Proofs.YthnodpdiocppgaaGreatDoor
open Go Go.RowKit Go.Shelf
def aD9 (s p:ByteArray):ByteArray:=⟨(Lib.trimPrefix s.data.toList p.data.toList).toArray⟩
theorem aIi (s p:ByteArray):(aD9 s p).data.toList=Lib.trimPrefix s.data.toList p.data.toList:=by simp [aD9]
theorem aL7 (s p:ByteArray):(aD9 s p).size≤s.size:=by
 have:=Lib.trimPrefix_le s.data.toList p.data.toList
 rw [←aIi,←Lib.size_eq,←Lib.size_eq] at this
 exact this
theorem aU7 {s p:ByteArray} (h:Lib.hasPrefix s.data.toList p.data.toList=true):p.size≤s.size:=by
 rw [←Lib.hasPrefix_raw,Bool.and_eq_true,decide_eq_true_eq] at h;exact h.1
theorem aJv {s p:ByteArray} (h:Lib.hasPrefix s.data.toList p.data.toList=true):s.extract p.size s.size=aD9 s p:=by
 have h':=h
 rw [←Lib.hasPrefix_raw,Bool.and_eq_true,decide_eq_true_eq] at h'
 exact (Lib.trimPrefix_hit s p h'.1 h'.2).symm
theorem aG2 {s p:ByteArray} (h:Lib.hasPrefix s.data.toList p.data.toList=false):s=aD9 s p :=
 (Lib.trimPrefix_miss s p (by rw [Lib.hasPrefix_raw];exact h)).symm
theorem aIj (s p:ByteArray) (w:World) (hs:s.size≤maxLen) (hp:p.size≤maxLen) :
  Calls Tryz.prog 206 #[.string s,.string p] w fun e w'=>e=.returned (.string (aD9 s p))∧w'=w:=by
 cases h:Lib.hasPrefix s.data.toList p.data.toList
 ·have HX:=hide (aG2 h)
  have H:=hide h
  clear h
  go_enter Tryz.func206,Tryz.ntmps206
  go_wp2_with fail
  refine (aDx _ _ _ hs hp).mono ?_
  rintro e x ⟨rfl,rfl⟩
  rw [H.out]
  go_wp2_with fail
  go_ret
  exact ⟨aH2 HX.out,rfl⟩
 ·have HX:=hide (aJv h)
  have hle:=aU7 h
  have H:=hide h
  clear h
  have hs':=hs
  have hp':=hp
  unfold maxLen at hs' hp'
  go_enter Tryz.func206,Tryz.ntmps206
  go_wp2_with fail
  refine (aDx _ _ _ hs hp).mono ?_
  rintro e x ⟨rfl,rfl⟩
  rw [H.out]
  go_wp2_with fail
  go_ret
  exact ⟨aH2 HX.out,rfl⟩
theorem aJc (s p:ByteArray) (w:World) (hs:s.size≤maxLen) (hp:p.size≤maxLen) :
  Calls Tryz.prog 181 #[.string s,.string p] w fun e w'=>e=.returned (.string (aD9 s p))∧w'=w:=by
 go_enter Tryz.func181,Tryz.ntmps181
 go_wp2_with (go_at_call 206;refine (aIj _ _ _ hs hp).mono ?_;rintro e w' ⟨rfl,rfl⟩)
 go_ret
 exact ⟨rfl,rfl⟩
end Go.Proofs.YthnodpdiocppgaaGreatDoor
namespace Go.Proofs.YthnodpdiocppgaaGreatDoor
open Go Go.RowKit Go.Shelf
abbrev aU8:ByteArray:=⟨#[42,46]⟩
theorem aSh:aU8.size≤maxLen:=by unfold maxLen;decide
theorem aL8 (s:ByteArray):(aD9 s ⟨#[42,46]⟩).data.toList=tp s.data.toList:=aIi s _
theorem aDj (s:ByteArray):s.data.toList.isEmpty=s.toList.isEmpty:=by rw [Lib.toList_data]
theorem aL9 (s:ByteArray) (w:World) (hs:s.size≤maxLen) :
  Calls Tryz.prog 141 #[.string s] w fun e w'=>e=.returned (.bool (may s.data.toList))∧Below w.heap.size w w':=by
 have HM:Hid (may s.data.toList=(s.data.toList.isEmpty||(decide (s.data.toList.length≤60)&&D.isName (aD9 s ⟨#[42,46]⟩).data.toList))):=by
  unfold Hid;rw [aL8];rfl
 have hsl:s.data.toList.length=s.size:=Array.length_toList
 cases h:s.toList.isEmpty
 ·by_cases h60:s.size≤60
  ·have lt:=Nat.le_trans (aL7 s ⟨#[42,46]⟩) hs
   have HE:Hid (D.isName (aD9 s ⟨#[42,46]⟩).data.toList=may s.data.toList):=by
    unfold Hid;rw [HM.out,aDj,h,hsl,decide_eq_true h60];rfl
   have h60':(s.size:Int)≤60:=by omega
   clear hsl
   go_enter Tryz.func141,Tryz.ntmps141
   go_wp2_with fail
   refine (aJc _ _ _ hs aSh).mono ?_
   rintro e x ⟨rfl,rfl⟩
   go_wp2_with fail
   refine (aC2 _ _ lt).mono ?_
   rintro e x ⟨rfl,hb⟩
   go_wp2_with fail
   go_ret
   exact ⟨aA1 HE.out,hb⟩
  ·have HE:Hid (may s.data.toList=false):=by
    unfold Hid;rw [HM.out,aDj,h,hsl,decide_eq_false h60];rfl
   have h60':¬ (s.size:Int)≤60:=by omega
   clear hsl
   go_enter Tryz.func141,Tryz.ntmps141
   go_wp2_with fail
   go_ret
   exact ⟨aA1 HE.out.symm,Below.refl _ _⟩
 ·have HE:Hid (may s.data.toList=true):=by
   unfold Hid;rw [HM.out,aDj,h];rfl
  clear hsl
  go_enter Tryz.func141,Tryz.ntmps141
  go_wp2_with fail
  go_ret
  exact ⟨aA1 HE.out.symm,Below.refl _ _⟩
end Go.Proofs.YthnodpdiocppgaaGreatDoor
