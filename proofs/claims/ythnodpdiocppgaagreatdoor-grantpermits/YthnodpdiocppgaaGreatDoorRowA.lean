/-
  Rows of one's own: their form; one stays where one of another type grows.
-/
import Derived.Test.YthnodpdiocppgaaGreatDoorJ2
set_option maxRecDepth 20000
namespace Go.Proofs.YthnodpdiocppgaaGreatDoor
open Go Go.RowKit Go.Shelf
theorem aAj {w:World} {base e size:Nat} {v:Value} {n:Nat} {xs:List Value} (h:w.ownsRow base e size v n xs):∃ a c,v=.slice a n c:=by
 rcases h.2 with ⟨rfl,rfl⟩ | ⟨g,cap,cur,rfl,_⟩
 ·exact ⟨none,0,rfl⟩
 ·exact ⟨_,cap,rfl⟩
theorem aAv {w w':World} {b b' e e' s s' n n':Nat} {v v':Value} {xs ys:List Value} (h:w.ownsRow b e s v n xs) (h':w.ownsRow b' e' s' v' n' ys) (hne:e≠e') (hg:w.grownBy w' v'.ownBlock):w'.ownsRow b e s v n xs:=by
 obtain ⟨h1,h2⟩:=h
 refine ⟨h1,?_⟩
 rcases h2 with h2 | ⟨g,cap,cur,hv,hb,hh,r⟩
 ·exact .inl h2
 ·refine .inr ⟨g,cap,cur,hv,hb,?_,r⟩
  rw [hg.block g (Array.getElem?_eq_some_iff.1 hh).1 (fun e0=>?_)]
  ·exact hh
  ·rcases h'.2 with ⟨rfl,_⟩ | ⟨g',cap',cur',rfl,_,hh',_⟩
   ·cases e0
   ·have e1:g=g':=by injection e0
    rw [e1,hh'] at hh
    injection hh with hh
    injection hh with _ hh _
    exact hne hh.symm
end Go.Proofs.YthnodpdiocppgaaGreatDoor
