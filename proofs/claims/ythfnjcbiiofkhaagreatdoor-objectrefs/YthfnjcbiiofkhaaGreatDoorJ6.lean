/-
  Walks: Labels.
-/
import Derived.Test.YthfnjcbiiofkhaaGreatDoorJ4
import Derived.Maps.AppendAt
import Derived.Test.YthfnjcbiiofkhaaGreatDoorJ2
import Derived.Test.YthfnjcbiiofkhaaGreatDoorJ5
set_option maxRecDepth 20000
namespace Go.Proofs.YthfnjcbiiofkhaaGreatDoor
open Go Go.RowKit Go.Shelf
attribute [local go_sem] Oper.semAt_some
end Go.Proofs.YthfnjcbiiofkhaaGreatDoor
namespace Go.Proofs.YthfnjcbiiofkhaaGreatDoor
open Go Go.RowKit Go.Shelf
end Go.Proofs.YthfnjcbiiofkhaaGreatDoor
namespace Go.Proofs.YthfnjcbiiofkhaaGreatDoor
open Go Go.RowKit Go.Shelf
theorem aT6 {c:UInt8} (h:D.inLab c.toNat=true):c≠47∧c≠46:=by
 constructor<;>(rintro rfl;revert h;decide)
theorem aLx {l:List UInt8} (h:D.isLabel l=true):∀ x∈l,D.inLab x.toNat=true:=by
 simp only [D.isLabel,Bool.and_eq_true] at h
 exact List.all_eq_true.1 h.1.1.2
theorem aT7 (a b:ByteArray):(a++⟨#[47]⟩++b).size=a.size+1+b.size:=by
 simp only [ByteArray.size_append];rfl
end Go.Proofs.YthfnjcbiiofkhaaGreatDoor
namespace Go.Proofs.YthfnjcbiiofkhaaGreatDoor
open Go Go.RowKit Go.Shelf
theorem aP5 {l:List UInt8}:D.isName l=true↔l.length≤60∧∀ p∈D.spl 46 l,D.isLabel p=true:=by
 unfold D.isName
 rw [Bool.and_eq_true,decide_eq_true_eq,List.all_eq_true]
end Go.Proofs.YthfnjcbiiofkhaaGreatDoor
namespace Go.Proofs.YthfnjcbiiofkhaaGreatDoor
open Go Go.RowKit Go.Shelf
end Go.Proofs.YthfnjcbiiofkhaaGreatDoor
namespace Go.Proofs.YthfnjcbiiofkhaaGreatDoor
open Go Go.RowKit Go.Shelf
end Go.Proofs.YthfnjcbiiofkhaaGreatDoor
namespace Go.Proofs.YthfnjcbiiofkhaaGreatDoor
open Go Go.RowKit Go.Shelf
end Go.Proofs.YthfnjcbiiofkhaaGreatDoor
namespace Go.Proofs.YthfnjcbiiofkhaaGreatDoor
open Go Go.RowKit Go.Shelf
end Go.Proofs.YthfnjcbiiofkhaaGreatDoor
namespace Go.Proofs.YthfnjcbiiofkhaaGreatDoor
open Go Go.RowKit Go.Shelf
end Go.Proofs.YthfnjcbiiofkhaaGreatDoor
namespace Go.Proofs.YthfnjcbiiofkhaaGreatDoor
open Go Go.RowKit Go.Shelf
end Go.Proofs.YthfnjcbiiofkhaaGreatDoor
