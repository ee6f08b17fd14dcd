/-
  Matches and requests, without a program: which matches may be, hold, come ahead; one thing less; a match's own request.
-/
import Derived.Test.YthnodpdiocppgaaGreatDoorJ1
import Derived.Test.YthnodpdiocppgaaGreatDoorQuWalkA
import Derived.Test.YthnodpdiocppgaaGreatDoorJ3
set_option maxRecDepth 20000
namespace Go.Proofs.YthnodpdiocppgaaGreatDoor
open Go Go.RowKit
structure MB where
 kind:Int
 val:ByteArray
 meth:ByteArray
 head:List aAa
 query:List aAa
structure RB where
 meth:ByteArray
 host:ByteArray
 path:ByteArray
 query:List aAa
 head:List aAa
def aAi (s:ByteArray):Bool:=decide (1≤s.size∧s.size≤40∧∀ j (h:j<s.size),tokC s[j]=true)
def aAr (s:ByteArray):Bool:=decide (s.size≤40∧∀ j (h:j<s.size),32≤s[j].toNat∧s[j].toNat≤126∧(s[j].toNat=32→j≠0∧j+1≠s.size))
theorem aFw {s:ByteArray}:aAi s=true↔aCd s:=by
 unfold aAi
 rw [decide_eq_true_eq]
 exact Iff.rfl
theorem aFx {s:ByteArray}:aAr s=true↔aBr s:=by
 unfold aAr
 rw [decide_eq_true_eq]
 exact Iff.rfl
theorem aF5.is {p:Prop} {b:Bool} {e:Ending} (h:aF5 p e) (hb:b=true↔p):e=.returned (.bool b):=by
 obtain ⟨c,rfl,hc⟩:=h
 rw [show c=b from Bool.eq_iff_iff.2 (hc.trans hb.symm)]
def aB9 (s:ByteArray):Bool:=decide (1≤s.size∧s.size≤10∧∀ j (h:j<s.size),65≤s[j].toNat∧s[j].toNat≤90)
def farB (same:ByteArray→ByteArray→Bool) (l:List aAa):Bool:=decide (∀ x (hx:x<l.length),∀ y (hy:y<x),same l[x].1 (l[y]'(by omega)).1=false)
theorem aFy {same:ByteArray→ByteArray→Bool} {l:List aAa}:farB same l=true↔∀ x y (hx:x<l.length) (hy:y<l.length),y<x→same l[x].1 l[y].1=false:=by
 unfold farB
 rw [decide_eq_true_eq]
 exact ⟨fun h x y hx hy hyx=>h x hx y hyx,fun h x hx y hyx=>h x y hx (by omega) hyx⟩
def mayM (m:MB):Bool:=mayP m.kind m.val.data.toList&&((m.meth.size == 0||aB9 m.meth)&&(decide (m.head.length≤8)&&(decide (m.query.length≤8)&&(Qu.may (m.query.map pl)&&(m.head.all (fun p=>aAi p.1&&aAr p.2)&&(farB aAt m.head&&farB aB5 m.query))))))
end Go.Proofs.YthnodpdiocppgaaGreatDoor
