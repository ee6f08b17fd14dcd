/-
  Filters, without a program: which may be, what they make of a request, where they send it; what follows.
-/
import Derived.Test.YthnodpdiocppgaaGreatDoorRuMatch
import Derived.Test.YthnodpdiocppgaaGreatDoorJ3
import Derived.Test.YthnodpdiocppgaaGreatDoorJ1
set_option maxRecDepth 20000
namespace Go.Proofs.YthnodpdiocppgaaGreatDoor
open Go Go.RowKit
structure FB where
 kind:Int
 name:ByteArray
 val:ByteArray
 host:ByteArray
 port:Int
 path:ByteArray
 whole:Bool
 code:Int
namespace Fi
abbrev e0 (s:ByteArray):Bool:=s.size == 0
abbrev dl (s:ByteArray):List UInt8:=s.data.toList
def aCq (f:FB):Bool:=e0 f.host&&(f.port == 0&&(e0 f.path&&(!f.whole&&f.code == 0)))
def aDm (f:FB):Bool:=(e0 f.host||D.isName (dl f.host))&&(if e0 f.path then !f.whole else isP (dl f.path)&&(f.whole||abv (dl f.path)))
def mayF (f:FB):Bool :=
 if f.kind=1∨f.kind=2 then aCq f&&(aAi f.name&&aAr f.val)
 else if f.kind=3 then aCq f&&(aAi f.name&&e0 f.val)
 else if f.kind=4 then e0 f.name&&(e0 f.val&&(aDm f&&(decide (0≤f.port∧f.port≤65535)&&(f.code == 301||f.code == 302))))
 else if f.kind=5 then e0 f.name&&(e0 f.val&&(f.port == 0&&(f.code == 0&&(aDm f&&!(e0 f.host&&e0 f.path)))))
 else false
def aBu (f g:FB):Bool:=f.kind == g.kind&&aAt f.name g.name
theorem aFz (f g:FB):aBu f g=aBu g f:=by
 unfold aBu
 rw [symF,show (f.kind == g.kind)=(g.kind == f.kind) from Bool.eq_iff_iff.2 ⟨fun h=>beq_iff_eq.2 (eq_of_beq h).symm,fun h=>beq_iff_eq.2 (eq_of_beq h).symm⟩]
def aAz (l:List FB):Nat:=(l.filter fun f=>decide (3<f.kind)).length
def allF (l:List FB):Bool:=decide (l.length≤8)&&(l.all mayF&&(decide (aAz l≤1)&&decide (l.Pairwise fun f g=>aBu f g=false)))
theorem aEw {l:List FB}:allF l=true↔l.length≤8∧(∀ f∈l,mayF f=true)∧aAz l≤1∧l.Pairwise fun f g=>aBu f g=false:=by
 unfold allF
 simp only [Bool.and_eq_true,decide_eq_true_eq,List.all_eq_true]
theorem aU5 {l r:List FB} (h:allF r=true) (hs:l.Sublist r):allF l=true:=by
 rw [aEw] at *
 obtain ⟨h1,h2,h3,h4⟩:=h
 refine ⟨Nat.le_trans hs.length_le h1,fun f hf=>h2 f (hs.subset hf),?_,h4.sublist hs⟩
 exact Nat.le_trans (hs.filter _).length_le h3
end Fi
end Go.Proofs.YthnodpdiocppgaaGreatDoor
