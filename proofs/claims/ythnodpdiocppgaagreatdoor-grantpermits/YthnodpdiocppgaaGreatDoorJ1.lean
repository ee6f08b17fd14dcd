/-
  The aHa mathematics of labels and names: lists of octets. No program is named here.
-/
import Derived.Below
import Derived.Test.YthnodpdiocppgaaGreatDoorJ2
import Derived.Lib.Strings
set_option maxRecDepth 20000
namespace Go.Proofs.YthnodpdiocppgaaGreatDoor.D
def inLab (c:Int):Bool:=decide (97≤c∧c≤122∨48≤c∧c≤57∨c=45)
abbrev at' (l:List UInt8) (i:Nat):Int:=((l[i]?.getD 0).toNat:Int)
def isLabel (l:List UInt8):Bool :=
 decide (1≤l.length)&&decide (l.length≤20)&&l.all (fun c=>inLab c.toNat)&&decide (at' l 0≠45)&&decide (at' l (l.length - 1)≠45)
def spl (c:UInt8):List UInt8→List (List UInt8)
 | []=>[[]]
 | a::r=>if a=c then []::spl c r else ((a::(spl c r).headD [])::(spl c r).tail)
def isName (l:List UInt8):Bool:=decide (l.length≤60)&&(spl 46 l).all isLabel
def maySp (l:List UInt8):Bool:=l.isEmpty||isLabel l
theorem spl_ne (c:UInt8) (l:List UInt8):spl c l≠[]:=by
 cases l with
 | nil=>simp [spl]
 | cons a r=>unfold spl;split<;>simp
theorem aU2 (c:UInt8) (l:List UInt8):0<(spl c l).length:=List.length_pos_iff.2 (spl_ne c l)
theorem spl_none {c:UInt8} {l:List UInt8} (h:∀ x∈l,x≠c):spl c l=[l]:=by
 induction l with
 | nil=>rfl
 | cons a r ih =>
   have ha:a≠c:=h a (by simp)
   have hr:=ih (fun x hx=>h x (by simp [hx]))
   simp [spl,ha,hr]
theorem spl_at {c:UInt8} {l r:List UInt8} (h:∀ x∈l,x≠c):spl c (l++c::r)=l::spl c r:=by
 induction l with
 | nil=>simp [spl]
 | cons a t ih =>
   have ha:a≠c:=h a (by simp)
   have hr:=ih (fun x hx=>h x (by simp [hx]))
   simp [spl,ha,hr]
theorem spl_len {c:UInt8} {l:List UInt8}:∀ p∈spl c l,p.length≤l.length:=by
 induction l with
 | nil=>intro p hp;simp [spl] at hp;subst hp;simp
 | cons a r ih =>
   intro p hp
   unfold spl at hp
   have hne:=spl_ne c r
   split at hp
   ·rcases List.mem_cons.1 hp with rfl | hp
    ·simp
    ·have:=ih p hp;simp;omega
   ·cases hs:spl c r with
    | nil=>exact absurd hs hne
    | cons q t =>
      rw [hs] at hp
      simp at hp
      rcases hp with rfl | hp
      ·have:=ih q (by rw [hs];simp);simp;omega
      ·have:=ih p (by rw [hs];simp [hp]);simp;omega
theorem spl_count {c:UInt8} {l:List UInt8}:(spl c l).length≤l.length+1:=by
 induction l with
 | nil=>simp [spl]
 | cons a r ih =>
   have:=aU2 c r
   unfold spl;split<;>simp<;>omega
end Go.Proofs.YthnodpdiocppgaaGreatDoor.D
namespace Go.Proofs.YthnodpdiocppgaaGreatDoor
open Go Go.RowKit Go.Shelf
structure NB where
 kind:Int
 name:ByteArray
 vals:List ByteArray
namespace La
abbrev lessB (a b:ByteArray):Bool:=Op.bytesLess a.toList b.toList
theorem tri8 (x y:UInt8):x<y∨x=y∨y<x:=by
 rcases Nat.lt_trichotomy x.toNat y.toNat with h | h | h
 ·exact .inl (UInt8.lt_iff_toNat_lt.2 h)
 ·exact .inr (.inl (UInt8.toNat_inj.1 h))
 ·exact .inr (.inr (UInt8.lt_iff_toNat_lt.2 h))
theorem less_total:∀ a b:List UInt8,(Op.bytesLess b a||b == a)=!Op.bytesLess a b
 | [],[]=>rfl
 | [],_::_=>by simp [Op.bytesLess]
 | _::_,[]=>by simp [Op.bytesLess]
 | x::a,y::b=>by
   have ih:=less_total a b
   simp only [Op.bytesLess,List.cons_beq_cons]
   rcases tri8 x y with h | rfl | h
   ·have h1:¬ y<x:=fun h2=>UInt8.lt_irrefl _ (UInt8.lt_trans h h2)
    have h2:¬ y=x:=fun e=>UInt8.lt_irrefl x (by rw [e] at h;exact h)
    simp [h,h1,h2]
   ·have h1:¬ x<x:=UInt8.lt_irrefl _
    simpa [h1] using ih
   ·have h1:¬ x<y:=fun h2=>UInt8.lt_irrefl _ (UInt8.lt_trans h h2)
    have h2:¬ x=y:=fun e=>UInt8.lt_irrefl x (by rw [←e] at h;exact h)
    simp [h,h1,h2]
def isNm (s:ByteArray):Bool:=D.isName s.data.toList
def mayV (s:ByteArray):Bool:=(s.toList == [])||D.isLabel s.data.toList
def okAt (l:List aAa) (i:Nat):Bool :=
 match l[i]? with
 | some p=>isNm p.1&&mayV p.2&&(decide (i=0)||match l[i - 1]? with | some q=>lessB q.1 p.1 | none=>false)
 | none=>false
def okTo (l:List aAa) (k:Nat):Bool:=(List.range k).all (okAt l)
def mayL (l:List aAa):Bool:=decide (l.length≤8)&&okTo l l.length
theorem okTo_succ {l:List aAa} {k:Nat} (h:okTo l k=true) (h2:okAt l k=true):okTo l (k+1)=true:=by
 unfold okTo at *
 rw [List.range_succ,List.all_append,h]
 simp [h2]
theorem aSc {l:List aAa} {k n:Nat} (hk:k<n) (h2:okAt l k=false):okTo l n=false:=by
 unfold okTo
 rw [List.all_eq_false]
 exact ⟨k,List.mem_range.2 hk,by simp [h2]⟩
theorem mayL_not {l:List aAa} {k:Nat} (hk:k<l.length) (h2:okAt l k=false):mayL l=false:=by
 unfold mayL
 rw [aSc hk h2,Bool.and_false]
theorem mayL_long {l:List aAa} (h:8<l.length):mayL l=false:=by
 unfold mayL
 rw [decide_eq_false (by omega),Bool.false_and]
theorem mayL_yes {l:List aAa} {k:Nat} (hk:l.length≤k) (h8:l.length≤8) (h:okTo l k=true) (hk2:k≤l.length):mayL l=true:=by
 have:k=l.length:=by omega
 subst this
 unfold mayL
 rw [h,decide_eq_true h8]
 rfl
theorem okAt_first {l:List aAa} (h:0<l.length):okAt l 0=(isNm l[0].1&&mayV l[0].2):=by
 simp [okAt,List.getElem?_eq_getElem h]
theorem okAt_next {l:List aAa} {k:Nat} (h:k<l.length) (h0:k≠0):okAt l k=(isNm l[k].1&&mayV l[k].2&&lessB l[k - 1].1 l[k].1):=by
 have h1:k - 1<l.length:=by omega
 simp [okAt,List.getElem?_eq_getElem h,List.getElem?_eq_getElem h1,h0]
def mayVs (l:List ByteArray):Bool:=(decide (1≤l.length)&&decide (l.length≤8))&&l.all mayV
def mayN (n:NB):Bool:=isNm n.name&&(if n.kind=1∨n.kind=2 then mayVs n.vals else if n.kind=3∨n.kind=4 then decide (n.vals.length=0) else false)
def hasL (l:List aAa) (nm:ByteArray):Bool:=l.any fun p=>decide (p.1=nm)
def inL (v:ByteArray) (vs:List ByteArray):Bool:=vs.any fun x=>decide (x=v)
def oneL (l:List aAa) (nm:ByteArray) (vs:List ByteArray):Bool:=l.any fun p=>decide (p.1=nm)&&inL p.2 vs
def metN (n:NB) (l:List aAa):Bool:=if n.kind=1 then oneL l n.name n.vals else if n.kind=2 then !oneL l n.name n.vals else if n.kind=3 then hasL l n.name else !hasL l n.name
def needs (ns:List NB):Bool:=decide (ns.length≤8)&&ns.all mayN
def all (ns:List NB) (l:List aAa):Bool:=needs ns&&mayL l&&ns.all fun n=>metN n l
def sameN (a b:NB):Bool:=decide (a.kind=b.kind)&&decide (a.name=b.name)&&decide (a.vals=b.vals)
def sameL:List NB→List NB→Bool
 | [],[]=>true
 | a::x,b::y=>sameN a b&&sameL x y
 | _,_=>false
theorem sameL_len:∀ (a b:List NB),a.length≠b.length→sameL a b=false
 | [],[],h=>absurd rfl h
 | [],_::_,_=>rfl
 | _::_,[],_=>rfl
 | a::x,b::y,h=>by simp [sameL,sameL_len x y (by simpa using h)]
theorem sameL_take:∀ (a b:List NB) (k:Nat) (ha:k<a.length) (hb:k<b.length),sameL (a.take (k+1)) (b.take (k+1))=(sameL (a.take k) (b.take k)&&sameN a[k] b[k])
 | a::x,b::y,0,_,_=>by simp [sameL]
 | a::x,b::y,k+1,ha,hb=>by
   have:=sameL_take x y k (by simpa using ha) (by simpa using hb)
   simp only [List.take_succ_cons,sameL,List.getElem_cons_succ]
   rw [this,Bool.and_assoc]
theorem sameL_not:∀ (a b:List NB) (k:Nat) (ha:k<a.length) (hb:k<b.length),sameN a[k] b[k]=false→sameL a b=false
 | a::x,b::y,0,_,_,h=>by
   have:sameN a b=false:=h
   simp [sameL,this]
 | a::x,b::y,k+1,ha,hb,h=>by
   have:=sameL_not x y k (by simpa using ha) (by simpa using hb) (by simpa using h)
   simp [sameL,this]
theorem all_append {a b:List NB} (l:List aAa) (ha:a.length≤4) (hb:b.length≤4):all (a++b) l=(all a l&&all b l):=by
 unfold all needs
 rw [List.length_append,decide_eq_true (by omega:a.length+b.length≤8),decide_eq_true (by omega:a.length≤8),decide_eq_true (by omega:b.length≤8),List.all_append,List.all_append]
 cases a.all mayN<;>cases b.all mayN<;>cases mayL l<;>simp
end La
end Go.Proofs.YthnodpdiocppgaaGreatDoor
namespace Go.Proofs.YthnodpdiocppgaaGreatDoor.Ru
set_option linter.unusedSectionVars false
section
variable {α:Type} {ah:α→α→Bool} {h:α→Bool}
structure Best (h:α→Bool) (ah:α→α→Bool) (l:List α) (k i:Nat) (y:α):Prop where
 lt:i<k
 at_:l[i]?=some y
 holds:h y=true
 none_ahead:∀ j x,j<k→l[j]?=some x→h x=true→ah x y=false
 before:∀ j x,j<i→l[j]?=some x→h x=true→ah y x=true
theorem Best.same {l:List α} {k i j:Nat} {y z:α} (a:Best h ah l k i y) (b:Best h ah l k j z):i=j:=by
 rcases Nat.lt_trichotomy i j with h1 | h1 | h1
 ·have h2:=b.before i y h1 a.at_ a.holds
  rw [a.none_ahead j z b.lt b.at_ b.holds] at h2
  cases h2
 ·exact h1
 ·have h2:=a.before j z h1 b.at_ b.holds
  rw [b.none_ahead i y a.lt a.at_ a.holds] at h2
  cases h2
end
end Go.Proofs.YthnodpdiocppgaaGreatDoor.Ru
namespace Go.Proofs.YthnodpdiocppgaaGreatDoor
open Go Go.RowKit
theorem aD2 (s:ByteArray):s.data.toList.length=s.size:=Array.length_toList
def inP (c:Int):Bool:=decide (33≤c)&&decide (c≤126)&&!(c == 63)&&!(c == 35)
def isP (l:List UInt8):Bool:=decide (l.length≤60)&&Lib.hasPrefix l [47]&&l.all (fun c=>inP c.toNat)
def abv (l:List UInt8):Bool:=isP l&&(l == [47]||!Lib.hasSuffix l [47])
def mayP (k:Int) (l:List UInt8):Bool:=if k=1 then isP l else if k=2 then abv l else false
theorem aDy {s p:List UInt8}:Lib.hasPrefix s p=true↔p <+: s:=by unfold Lib.hasPrefix;exact List.isPrefixOf_iff_prefix
theorem aDz {l:List UInt8}:isP l=true↔l.length≤60∧[47] <+: l∧∀ c∈l,inP (c.toNat:Int)=true:=by
 simp only [isP,Bool.and_eq_true,decide_eq_true_eq,aDy,List.all_eq_true,and_assoc]
theorem aU3 {l:List UInt8} (h:abv l=true):isP l=true:=by
 simp only [abv,Bool.and_eq_true] at h
 exact h.1
end Go.Proofs.YthnodpdiocppgaaGreatDoor
namespace Go.Proofs.YthnodpdiocppgaaGreatDoor.Qu
open Go.Proofs.YthnodpdiocppgaaGreatDoor
abbrev PairL:=List UInt8 × List UInt8
def aVh (n:Nat):Bool:=(decide (97≤n)&&decide (n≤122))||(decide (65≤n)&&decide (n≤90))||(decide (48≤n)&&decide (n≤57))||n == 45||n == 46||n == 95||n == 126
def aVi (c:UInt8):Bool:=aVh c.toNat
def hexN (n:Nat):Nat:=if n<10 then 48+n else 55+n
def hexd (n:Nat):UInt8:=(hexN n).toUInt8
def wr1 (c:UInt8):List UInt8:=if aVi c then [c] else if c=32 then [43] else [37,hexd (c.toNat / 16),hexd (c.toNat % 16)]
def wr (l:List UInt8):List UInt8:=l.flatMap wr1
def one (p:PairL):List UInt8:=wr p.1++61::wr p.2
def num (c:UInt8):Nat:=if 48≤c.toNat∧c.toNat≤57 then c.toNat - 48 else if 65≤c.toNat∧c.toNat≤70 then c.toNat - 55 else if 97≤c.toNat∧c.toNat≤102 then c.toNat - 87 else 99
def aWt (a b:UInt8):UInt8:=(16*num a+num b).toUInt8
def rd:List UInt8→Option (List UInt8)
 | []=>some []
 | [c]=>if c=37 then none else some [if c=43 then 32 else c]
 | [c,a]=>if c=37 then none else (rd [a]).map ((if c=43 then 32 else c)::·)
 | c::a::b::r=>if c=37 then (if num a≤15∧num b≤15 then (rd r).map (aWt a b::·) else none) else (rd (a::b::r)).map ((if c=43 then 32 else c)::·)
def aVj (l:List UInt8):List UInt8:=l.takeWhile (· != 61)
def aWu (l:List UInt8):List UInt8:=(l.dropWhile (· != 61)).drop 1
def part (l:List UInt8):Option PairL:=match rd (aVj l),rd (aWu l) with
 | some a,some b=>some (a,b)
 | _,_=>none
def aAo:List (List UInt8)→Option (List PairL)
 | []=>some []
 | p::r=>match part p,aAo r with
   | some x,some y=>some (x::y)
   | _,_=>none
def mayP (p:PairL):Bool:=decide (1≤p.1.length)&&decide (p.1.length≤40)&&decide (p.2.length≤40)
def may (l:List PairL):Bool:=l.all mayP&&decide (l.length≤20)
end Go.Proofs.YthnodpdiocppgaaGreatDoor.Qu
namespace Go.Proofs.YthnodpdiocppgaaGreatDoor.Pb
set_option linter.unusedSectionVars false
section
variable {N V K:Type} [DecidableEq N] [DecidableEq V] [DecidableEq K] (key:N→K)
def sm (a b:N):Bool:=decide (key a=key b)
def aKp (l:List (N × V)) (n:N):List (N × V):=l.filter fun p=>!sm key p.1 n
def asks (same:N→N→Bool) (l:List (N × V)) (a:N × V):Bool:=match l.find? fun p=>same p.1 a.1 with
 | some p=>decide (p.2=a.2)
 | none=>false
variable {key}
theorem sm_comm (a b:N):sm key a b=sm key b a:=by
 unfold sm
 exact decide_eq_decide.2 ⟨Eq.symm,Eq.symm⟩
theorem drop_drop (l:List (N × V)) (n:N):aKp key (aKp key l n) n=aKp key l n:=by
 unfold aKp
 rw [List.filter_filter]
 apply List.filter_congr
 intro p _
 simp
end
end Go.Proofs.YthnodpdiocppgaaGreatDoor.Pb
