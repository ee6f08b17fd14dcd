/-
  Objects on lists, without a program: refs and their order, which objects may be, which are the same, an object's refs.
-/
import Derived.Test.YthnodpdiocppgaaGreatDoorJ1
import Derived.Test.YthnodpdiocppgaaGreatDoorFiPlain
import Derived.Test.YthnodpdiocppgaaGreatDoorJ8
import Derived.Test.YthnodpdiocppgaaGreatDoorJ10
import Derived.Test.YthnodpdiocppgaaGreatDoorJ9
import Derived.Test.YthnodpdiocppgaaGreatDoorJ11
set_option maxRecDepth 20000
namespace Go.Proofs.YthnodpdiocppgaaGreatDoor
open Go Go.RowKit Go.Shelf
structure RfB where
 kind:Int
 space:ByteArray
 name:ByteArray
structure LiB where
 name:ByteArray
 port:Int
 tls:Bool
 host:ByteArray
 cert:RfB
 frm:Int
 needs:List NB
structure PtB where
 space:ByteArray
 name:ByteArray
 sect:ByteArray
 port:Int
structure BkB where
 ref:RfB
 port:Int
 weight:Int
structure RlB where
 ms:List MB
 fs:List FB
 bs:List BkB
structure OB where
 ref:RfB
 good:Bool
 labels:List aAa
 ports:List Int
 cls:ByteArray
 lis:List LiB
 pars:List PtB
 hosts:List ByteArray
 rules:List RlB
 frm:List RfB
 tos:List RfB
namespace Ob
abbrev e0 (s:ByteArray):Bool:=s.size == 0
abbrev nil:ByteArray:=⟨#[]⟩
theorem e0_iff {s:ByteArray}:e0 s=true↔s=nil:=by
 simp only [e0,beq_iff_eq]
 refine ⟨fun h=>?_,fun h=>by rw [h];rfl⟩
 obtain ⟨d⟩:=s
 have:d=#[]:=Array.eq_empty_of_size_eq_zero h
 rw [this]
def isL (s:ByteArray):Bool:=D.isLabel s.data.toList
def isN (s:ByteArray):Bool:=D.isName s.data.toList
def isKind (k:Int):Bool:=decide (1≤k∧k≤7)
def isSpace (s:ByteArray):Bool:=e0 s||isL s
def isPort (n:Int):Bool:=decide (1≤n∧n≤65535)
def anyPort (n:Int):Bool:=decide (n=0)||isPort n
def mayRef (r:RfB):Bool :=
 if r.kind=1 then e0 r.space&&isN r.name
 else if r.kind=2 then e0 r.space&&isL r.name
 else isKind r.kind&&(isL r.space&&isN r.name)
theorem mayRef_kind {r:RfB} (h:mayRef r=true):1≤r.kind∧r.kind≤7:=by
 unfold mayRef at h
 split at h
 ·omega
 ·split at h
  ·omega
  ·simp only [isKind,Bool.and_eq_true,decide_eq_true_eq] at h
   exact h.1
def eqR (a b:RfB):Bool:=decide (a.kind=b.kind∧a.space=b.space∧a.name=b.name)
theorem eqR_iff {a b:RfB}:eqR a b=true↔a=b:=by
 unfold eqR
 rw [decide_eq_true_eq]
 obtain ⟨a1,a2,a3⟩:=a
 obtain ⟨b1,b2,b3⟩:=b
 simp
def eqP (a b:PtB):Bool:=decide (a.space=b.space∧a.name=b.name∧a.sect=b.sect∧a.port=b.port)
theorem eqP_iff {a b:PtB}:eqP a b=true↔a=b:=by
 unfold eqP
 rw [decide_eq_true_eq]
 obtain ⟨a1,a2,a3,a4⟩:=a
 obtain ⟨b1,b2,b3,b4⟩:=b
 simp
def eqK (a b:BkB):Bool:=decide (a.ref.kind=b.ref.kind∧a.ref.space=b.ref.space∧a.ref.name=b.ref.name∧a.port=b.port∧a.weight=b.weight)
theorem aUw {a b:BkB}:eqK a b=true↔a=b:=by
 unfold eqK
 rw [decide_eq_true_eq]
 obtain ⟨⟨a1,a2,a3⟩,a4,a5⟩:=a
 obtain ⟨⟨b1,b2,b3⟩,b4,b5⟩:=b
 simp [and_assoc]
def eqFi (a b:FB):Bool:=decide (a.kind=b.kind∧a.name=b.name∧a.val=b.val∧a.host=b.host∧a.port=b.port∧a.path=b.path∧a.whole=b.whole∧a.code=b.code)
theorem aT1 {a b:FB}:eqFi a b=true↔a=b:=by
 unfold eqFi
 rw [decide_eq_true_eq]
 obtain ⟨a1,a2,a3,a4,a5,a6,a7,a8⟩:=a
 obtain ⟨b1,b2,b3,b4,b5,b6,b7,b8⟩:=b
 simp
theorem aQq {a b:NB}:La.sameN a b=true↔a=b:=by
 obtain ⟨a1,a2,a3⟩:=a
 obtain ⟨b1,b2,b3⟩:=b
 simp [La.sameN,and_assoc]
def eqL {α:Type} (eq:α→α→Bool):List α→List α→Bool
 | [],[]=>true
 | a::x,b::y=>eq a b&&eqL eq x y
 | _,_=>false
theorem eqL_iff {α:Type} {eq:α→α→Bool} (h:∀ a b,eq a b=true↔a=b):∀ (x y:List α),eqL eq x y=true↔x=y
 | [],[]=>by simp [eqL]
 | [],_::_=>by simp [eqL]
 | _::_,[]=>by simp [eqL]
 | a::x,b::y=>by simp [eqL,h a b,eqL_iff h x y]
theorem eqL_len {α:Type} {eq:α→α→Bool}:∀ (x y:List α),x.length≠y.length→eqL eq x y=false
 | [],[],h=>absurd rfl h
 | [],_::_,_=>rfl
 | _::_,[],_=>rfl
 | a::x,b::y,h=>by rw [eqL,eqL_len x y (by simpa using h),Bool.and_false]
theorem eqL_not {α:Type} {eq:α→α→Bool}:∀ (x y:List α) (k:Nat) (h1:k<x.length) (h2:k<y.length),eq x[k] y[k]=false→eqL eq x y=false
 | a::x,b::y,0,_,_,h=>by
   simp only [List.getElem_cons_zero] at h
   rw [eqL,h,Bool.false_and]
 | a::x,b::y,k+1,h1,h2,h=>by
   simp only [List.getElem_cons_succ] at h
   rw [eqL,eqL_not x y k (by simpa using h1) (by simpa using h2) h,Bool.and_false]
theorem eqL_yes {α:Type} {eq:α→α→Bool}:∀ (x y:List α),x.length=y.length→(∀ k (h1:k<x.length) (h2:k<y.length),eq x[k] y[k]=true)→eqL eq x y=true
 | [],[],_,_=>rfl
 | a::x,b::y,hl,h=>by
   rw [eqL,Bool.and_eq_true]
   exact ⟨h 0 (by simp) (by simp),eqL_yes x y (by simpa using hl) fun k h1 h2=>by
    have:=h (k+1) (by simpa using h1) (by simpa using h2)
    simpa using this⟩
theorem aK5:∀ (x y:List NB),La.sameL x y=eqL La.sameN x y
 | [],[]=>rfl
 | [],_::_=>rfl
 | _::_,[]=>rfl
 | a::x,b::y=>by rw [La.sameL,eqL,aK5 x y]
def sameLi (a b:LiB):Bool:=(a.name.toList == b.name.toList)&&((a.port == b.port)&&((a.tls == b.tls)&&((a.host.toList == b.host.toList)&&(eqR a.cert b.cert&&((a.frm == b.frm)&&La.sameL a.needs b.needs)))))
theorem toList_iff {a b:ByteArray}:a.toList=b.toList↔a=b:=by
 rw [Lib.toList_data,Lib.toList_data]
 refine ⟨fun h=>?_,fun h=>by rw [h]⟩
 obtain ⟨⟨a⟩⟩:=a
 obtain ⟨⟨b⟩⟩:=b
 have:a=b:=h
 rw [this]
theorem aOn {a b:LiB}:sameLi a b=true↔a=b:=by
 unfold sameLi
 obtain ⟨a1,a2,a3,a4,a5,a6,a7⟩:=a
 obtain ⟨b1,b2,b3,b4,b5,b6,b7⟩:=b
 simp only [Bool.and_eq_true,beq_iff_eq,toList_iff,eqR_iff,aK5,eqL_iff (fun a b=>aQq),LiB.mk.injEq]
def sameMB (a b:MB):Bool:=(a.kind == b.kind&&a.val.toList == b.val.toList)&&((a.meth.toList == b.meth.toList)&&(decide (a.head=b.head)&&decide (a.query=b.query)))
theorem aOo {a b:MB}:sameMB a b=true↔a=b:=by
 unfold sameMB
 obtain ⟨a1,a2,a3,a4,a5⟩:=a
 obtain ⟨b1,b2,b3,b4,b5⟩:=b
 simp only [Bool.and_eq_true,beq_iff_eq,toList_iff,decide_eq_true_eq,MB.mk.injEq]
 exact ⟨fun ⟨⟨h1,h2⟩,h3,h4,h5⟩=>⟨h1,h2,h3,h4,h5⟩,fun ⟨h1,h2,h3,h4,h5⟩=>⟨⟨h1,h2⟩,h3,h4,h5⟩⟩
def sameRl (a b:RlB):Bool:=eqL sameMB a.ms b.ms&&(eqL eqFi a.fs b.fs&&eqL eqK a.bs b.bs)
theorem aOp {a b:RlB}:sameRl a b=true↔a=b:=by
 unfold sameRl
 obtain ⟨a1,a2,a3⟩:=a
 obtain ⟨b1,b2,b3⟩:=b
 simp only [Bool.and_eq_true,eqL_iff (fun a b=>aOo),eqL_iff (fun a b=>aT1),eqL_iff (fun a b=>aUw),RlB.mk.injEq]
def sameO (a b:OB):Bool :=
 eqR a.ref b.ref&&((a.good == b.good)&&(decide (a.labels=b.labels)&&(decide (a.ports=b.ports)&&((a.cls.toList == b.cls.toList)&&(eqL sameLi a.lis b.lis &&
  (eqL eqP a.pars b.pars&&(decide (a.hosts=b.hosts)&&(eqL sameRl a.rules b.rules&&(eqL eqR a.frm b.frm&&eqL eqR a.tos b.tos)))))))))
theorem aGt {a b:OB}:sameO a b=true↔a=b:=by
 unfold sameO
 obtain ⟨a1,a2,a3,a4,a5,a6,a7,a8,a9,a10,a11⟩:=a
 obtain ⟨b1,b2,b3,b4,b5,b6,b7,b8,b9,b10,b11⟩:=b
 simp only [Bool.and_eq_true,beq_iff_eq,toList_iff,decide_eq_true_eq,eqR_iff,eqL_iff (fun a b=>aOn),eqL_iff (fun a b=>eqP_iff),eqL_iff (fun a b=>aOp),eqL_iff (fun a b=>eqR_iff),OB.mk.injEq]
theorem sameO_comm (a b:OB):sameO a b=sameO b a:=by
 rw [Bool.eq_iff_iff,aGt,aGt]
 exact eq_comm
theorem sameO_self (a:OB):sameO a a=true:=aGt.2 rfl
def cnt {α:Type} (l:List α) (lo hi:Int) (p:α→Bool):Bool:=decide (lo≤(l.length:Int)∧(l.length:Int)≤hi)&&l.all p
theorem cnt_iff {α:Type} {l:List α} {lo hi:Int} {p:α→Bool}:cnt l lo hi p=true↔lo≤(l.length:Int)∧(l.length:Int)≤hi∧∀ x∈l,p x=true:=by
 unfold cnt
 simp only [Bool.and_eq_true,decide_eq_true_eq,List.all_eq_true,and_assoc]
def dif {α:Type} (same:α→α→Bool) (l:List α):Bool:=decide (l.Pairwise fun x y=>same y x=false)
theorem dif_iff {α:Type} {same:α→α→Bool} {l:List α}:dif same l=true↔l.Pairwise fun x y=>same y x=false:=by
 unfold dif
 rw [decide_eq_true_eq]
theorem dif_not {α:Type} {same:α→α→Bool} {l:List α} {k:Nat} (hk:k<l.length) (h:(l.take k).any (same l[k])=true):dif same l=false:=by
 cases hd:dif same l
 ·rfl
 ·obtain ⟨x,hx,hs⟩:=List.any_eq_true.1 h
  obtain ⟨i,hi,rfl⟩:=List.getElem_of_mem hx
  have hik:i<k:=by simp at hi;omega
  have:=(List.pairwise_iff_getElem.1 (dif_iff.1 hd)) i k (by omega) hk hik
  simp only [List.getElem_take] at hs
  rw [hs] at this
  cases this
theorem dif_yes {α:Type} {same:α→α→Bool} {l:List α} (h:∀ k (hk:k<l.length),(l.take k).any (same l[k])=false):dif same l=true:=by
 rw [dif_iff,List.pairwise_iff_getElem]
 intro i j hi hj hij
 cases hs:same l[j] l[i]
 ·rfl
 ·have:=h j hj
  rw [List.any_eq_false] at this
  have:=this l[i] (List.mem_take_iff_getElem.2 ⟨i,by omega,rfl⟩)
  rw [hs] at this
  exact absurd rfl this
abbrev zR:RfB:=⟨0,nil,nil⟩
def mayCert (l:LiB):Bool:=if l.tls then decide (l.cert.kind=4)&&(isSpace l.cert.space&&isN l.cert.name) else eqR l.cert zR
def mayLet (l:LiB):Bool:=if l.frm=2 then La.needs l.needs else (decide (l.frm=0)||decide (l.frm=1))&&decide (l.needs.length=0)
def mayLi (l:LiB):Bool:=isL l.name&&(isPort l.port&&(may l.host.data.toList&&(mayCert l&&mayLet l)))
def mayPt (p:PtB):Bool:=isSpace p.space&&(isN p.name&&(isSpace p.sect&&anyPort p.port))
def mayHo (s:ByteArray):Bool:=!e0 s&&may s.data.toList
def mayBk (b:BkB):Bool:=isKind b.ref.kind&&(isSpace b.ref.space&&(isN b.ref.name&&(anyPort b.port&&decide (0≤b.weight∧b.weight≤1000))))
def mayRl (r:RlB):Bool:=cnt r.ms 0 4 mayM&&(Fi.allF r.fs&&cnt r.bs 0 4 mayBk)
def mayFr (s:RfB):Bool:=isKind s.kind&&(isL s.space&&e0 s.name)
def mayTo (s:RfB):Bool:=isKind s.kind&&(e0 s.space&&(e0 s.name||isN s.name))
def eqI (a b:Int):Bool:=a == b
def eqS (a b:ByteArray):Bool:=a.toList == b.toList
theorem eqS_iff {a b:ByteArray}:eqS a b=true↔a=b:=by
 unfold eqS
 rw [beq_iff_eq,toList_iff]
def nameLi (a b:LiB):Bool:=a.name.toList == b.name.toList
def srt (l:List Int):Bool:=decide (l.Pairwise fun x y=>x≤y)
abbrev zO (r:RfB):OB:=⟨r,false,[],[],nil,[],[],[],[],[],[]⟩
def mayGood (o:OB):Bool:=sameO o { zO o.ref with good:=o.good }
def maySp (o:OB):Bool:=sameO o { zO o.ref with labels:=o.labels }&&La.mayL o.labels
def maySv (o:OB):Bool:=sameO o { zO o.ref with ports:=o.ports }&&(cnt o.ports 1 8 isPort&&(srt o.ports&&dif eqI o.ports))
def mayGw (o:OB):Bool:=sameO o { zO o.ref with cls:=o.cls,lis:=o.lis }&&(isN o.cls&&(cnt o.lis 1 8 mayLi&&dif nameLi o.lis))
def mayRt (o:OB):Bool:=sameO o { zO o.ref with pars:=o.pars,hosts:=o.hosts,rules:=o.rules }&&(cnt o.pars 0 4 mayPt&&(dif eqP o.pars&&(cnt o.hosts 0 4 mayHo&&(dif eqS o.hosts&&cnt o.rules 0 6 mayRl))))
def mayGr (o:OB):Bool:=sameO o { zO o.ref with frm:=o.frm,tos:=o.tos }&&(cnt o.frm 1 4 mayFr&&cnt o.tos 1 4 mayTo)
def mayK (o:OB):Bool :=
 if o.ref.kind=1 then mayGood o
 else if o.ref.kind=2 then maySp o
 else if o.ref.kind=3 then maySv o
 else if o.ref.kind=4 then mayGood o
 else if o.ref.kind=5 then mayGw o
 else if o.ref.kind=6 then mayRt o
 else mayGr o
def mayO (o:OB):Bool:=mayRef o.ref&&mayK o
end Ob
end Go.Proofs.YthnodpdiocppgaaGreatDoor
namespace Go.Proofs.YthnodpdiocppgaaGreatDoor
open Go Go.RowKit Go.Shelf
namespace Ob
def near (sp:ByteArray) (r:RfB):RfB:=if e0 r.space&&(decide (r.kind≠1)&&decide (r.kind≠2)) then { r with space:=sp } else r
end Ob
end Go.Proofs.YthnodpdiocppgaaGreatDoor
namespace Go.Proofs.YthnodpdiocppgaaGreatDoor
open Go Go.RowKit Go.Shelf
namespace Ob
theorem aQr {o:OB} (h:mayO o=true):mayRef o.ref=true∧mayK o=true:=by
 unfold mayO at h
 simpa [Bool.and_eq_true] using h
theorem may7 {o:OB} (h:mayO o=true) (h1:o.ref.kind≠1) (h2:o.ref.kind≠2) (h3:o.ref.kind≠3) (h4:o.ref.kind≠4) (h5:o.ref.kind≠5) (h6:o.ref.kind≠6):mayGr o=true:=by
 have:=(aQr h).2
 unfold mayK at this
 simpa [h1,h2,h3,h4,h5,h6] using this
abbrev less {α:Type} (l:List α) (k:Nat):List α:=l.take k++l.drop (k+1)
end Ob
end Go.Proofs.YthnodpdiocppgaaGreatDoor
namespace Go.Proofs.YthnodpdiocppgaaGreatDoor
open Go Go.RowKit Go.Shelf
namespace Gr
def frmS (kind:Int) (sp:ByteArray) (s:RfB):Bool:=decide (s.kind=kind)&&decide (s.space=sp)
def toS (to s:RfB):Bool:=decide (s.kind=to.kind)&&(Ob.e0 s.name||decide (s.name=to.name))
def lets (o:OB) (kind:Int) (sp:ByteArray) (to:RfB):Bool:=decide (o.ref.kind=7)&&(decide (o.ref.space=to.space)&&(Ob.mayO o&&(o.frm.any (frmS kind sp)&&o.tos.any (toS to))))
def by_ (l:List OB) (kind:Int) (sp:ByteArray) (to:RfB):List RfB:=(l.filter fun o=>lets o kind sp to).map fun o=>o.ref
def permits (l:List OB) (kind:Int) (sp:ByteArray) (to:RfB):Bool:=decide (sp=to.space)||l.any fun o=>lets o kind sp to
def find (l:List OB) (r:RfB):Option OB:=l.find? fun o=>Ob.eqR o.ref r
theorem by_empty (l:List OB) (kind:Int) (sp:ByteArray) (to:RfB):decide (0<(by_ l kind sp to).length)=l.any fun o=>lets o kind sp to:=by
 unfold by_
 rw [List.length_map,Bool.eq_iff_iff,decide_eq_true_eq,List.length_pos_iff_exists_mem,List.any_eq_true]
 constructor
 ·rintro ⟨a,ha⟩
  obtain ⟨h1,h2⟩:=List.mem_filter.1 ha
  exact ⟨a,h1,h2⟩
 ·rintro ⟨a,h1,h2⟩
  exact ⟨a,List.mem_filter.2 ⟨h1,h2⟩⟩
theorem find_none {l:List OB} {r:RfB} (h:∀ o∈l,o.ref≠r):find l r=none:=by
 unfold find
 rw [List.find?_eq_none]
 intro o ho hc
 exact h o ho (Ob.eqR_iff.1 hc)
theorem find_less (l:List OB) (r:RfB):find (l.filter fun o=>!Ob.eqR o.ref r) r=none:=find_none fun o ho hc=>by
 have:=(List.mem_filter.1 ho).2
 rw [Ob.eqR_iff.2 hc] at this
 cases this
theorem find_at {l:List OB} {r:RfB} {k:Nat} (hk:k<l.length) (h:l[k].ref=r) (hn:∀ j (hj:j<l.length),j<k→l[j].ref≠r):find l r=some l[k]:=by
 unfold find
 rw [List.find?_eq_some_iff_getElem]
 refine ⟨Ob.eqR_iff.2 h,k,hk,rfl,fun j hj=>?_⟩
 cases hc:Ob.eqR l[j].ref r
 ·rfl
 ·exact absurd (Ob.eqR_iff.1 hc) (hn j (by omega) hj)
theorem near_twice (r:RfB) (a b:ByteArray) (h:Ob.e0 (Ob.near a r).space=false):Ob.near b (Ob.near a r)=Ob.near a r:=by
 generalize Ob.near a r=q at *
 unfold Ob.near
 rw [h,Bool.false_and]
 rfl
theorem near_given (r:RfB) (a:ByteArray) (h:Ob.e0 r.space=false):Ob.near a r=r:=by
 unfold Ob.near
 rw [h,Bool.false_and]
 rfl
theorem near_same (r:RfB) (a:ByteArray):(Ob.near a r).name=r.name∧(Ob.near a r).kind=r.kind:=by
 unfold Ob.near
 split<;>exact ⟨rfl,rfl⟩
end Gr
end Go.Proofs.YthnodpdiocppgaaGreatDoor
namespace Go.Proofs.YthnodpdiocppgaaGreatDoor
open Go Go.RowKit Go.Shelf
def EI:Elem Int where
 cells:=fun n=>[.int .i64 n]
 n:=1
 A:=fun _ _=>True
 len:=fun _=>rfl
 pos:=by decide
 one:=fun x _ _ u hu=>by
  simp at hu
  subst hu
  rfl
 below:=fun _ _ _ _ _=>trivial
abbrev rfV (r:RfB):Value:=.agg #[.int .i64 r.kind,.string r.space,.string r.name]
def aFn (r:RfB):List Value:=[.int .i64 r.kind,.string r.space,.string r.name]
def ER:Elem RfB where
 cells:=aFn
 n:=3
 A:=fun _ _=>True
 len:=fun _=>rfl
 pos:=by decide
 one:=fun x _ _ u hu=>by
  simp [aFn] at hu
  rcases hu with rfl | rfl | rfl<;>rfl
 below:=fun _ _ _ _ _=>trivial
abbrev ptV (p:PtB):Value:=.agg #[.string p.space,.string p.name,.string p.sect,.int .i64 p.port]
def aEp (p:PtB):List Value:=[.string p.space,.string p.name,.string p.sect,.int .i64 p.port]
def EPt:Elem PtB where
 cells:=aEp
 n:=4
 A:=fun _ _=>True
 len:=fun _=>rfl
 pos:=by decide
 one:=fun x _ _ u hu=>by
  simp [aEp] at hu
  rcases hu with rfl | rfl | rfl | rfl<;>rfl
 below:=fun _ _ _ _ _=>trivial
abbrev bkV (b:BkB):Value:=.agg #[.int .i64 b.ref.kind,.string b.ref.space,.string b.ref.name,.int .i64 b.port,.int .i64 b.weight]
def aFo (b:BkB):List Value:=[.int .i64 b.ref.kind,.string b.ref.space,.string b.ref.name,.int .i64 b.port,.int .i64 b.weight]
def EK:Elem BkB where
 cells:=aFo
 n:=5
 A:=fun _ _=>True
 len:=fun _=>rfl
 pos:=by decide
 one:=fun x _ _ u hu=>by
  simp [aFo] at hu
  rcases hu with rfl | rfl | rfl | rfl | rfl<;>rfl
 below:=fun _ _ _ _ _=>trivial
def EM:Elem MV where
 cells:=aFm
 n:=5
 A:=fun x w=>x.at_ w
 len:=fun _=>rfl
 pos:=by decide
 one:=fun x _ _ u hu=>by
  simp [aFm] at hu
  rcases hu with rfl | rfl | rfl | rfl | rfl<;>rfl
 below:=fun _ _ _ h hb=>h.below hb
structure LiV where
 name:ByteArray
 port:Int
 tls:Bool
 host:ByteArray
 cert:RfB
 frm:Int
 nd:List NV
 a:Option Addr
 c:Nat
abbrev LiV.v (x:LiV):Value:=.slice x.a x.nd.length x.c
def LiV.b (x:LiV):LiB:=⟨x.name,x.port,x.tls,x.host,x.cert,x.frm,nbs x.nd⟩
abbrev liV (x:LiV):Value:=.agg #[.string x.name,.int .i64 x.port,.bool x.tls,.string x.host,.int .i64 x.cert.kind,.string x.cert.space,.string x.cert.name,.int .i64 x.frm,x.v]
def aDk (x:LiV):List Value:=[.string x.name,.int .i64 x.port,.bool x.tls,.string x.host,.int .i64 x.cert.kind,.string x.cert.space,.string x.cert.name,.int .i64 x.frm,x.v]
def ELi:Elem LiV where
 cells:=aDk
 n:=9
 A:=fun x w=>Sl EN w x.v x.nd
 len:=fun _=>rfl
 pos:=by decide
 one:=fun x _ _ u hu=>by
  simp [aDk] at hu
  rcases hu with rfl | rfl | rfl | rfl | rfl | rfl | rfl | rfl | rfl<;>rfl
 below:=fun _ _ _ h hb=>h.below hb
structure RlV where
 ms:List MV
 am:Option Addr
 cm:Nat
 fs:List FB
 af:Option Addr
 cf:Nat
 bs:List BkB
 ab:Option Addr
 cb:Nat
abbrev RlV.vm (x:RlV):Value:=.slice x.am x.ms.length x.cm
abbrev RlV.vf (x:RlV):Value:=.slice x.af x.fs.length x.cf
abbrev RlV.vb (x:RlV):Value:=.slice x.ab x.bs.length x.cb
def RlV.b (x:RlV):RlB:=⟨x.ms.map fun m=>m.m,x.fs,x.bs⟩
abbrev rlV (x:RlV):Value:=.agg #[x.vm,x.vf,x.vb]
def aH8 (x:RlV):List Value:=[x.vm,x.vf,x.vb]
structure RlV.at_ (x:RlV) (w:World):Prop where
 ms:Sl EM w x.vm x.ms
 fs:Sl EF w x.vf x.fs
 bs:Sl EK w x.vb x.bs
theorem RlV.at_.below {x:RlV} {w w':World} (h:x.at_ w) (hb:Below w.heap.size w w'):x.at_ w':=⟨h.ms.below hb,h.fs.below hb,h.bs.below hb⟩
def ERl:Elem RlV where
 cells:=aH8
 n:=3
 A:=fun x w=>x.at_ w
 len:=fun _=>rfl
 pos:=by decide
 one:=fun x _ _ u hu=>by
  simp [aH8] at hu
  rcases hu with rfl | rfl | rfl<;>rfl
 below:=fun _ _ _ h hb=>h.below hb
structure OV where
 ref:RfB
 good:Bool
 labels:List aAa
 al:Option Addr
 cl:Nat
 ports:List Int
 ap:Option Addr
 cp:Nat
 cls:ByteArray
 lis:List LiV
 ai:Option Addr
 ci:Nat
 pars:List PtB
 aq:Option Addr
 cq:Nat
 hosts:List ByteArray
 ah:Option Addr
 ch:Nat
 rules:List RlV
 ar:Option Addr
 cr:Nat
 frm:List RfB
 af:Option Addr
 cf:Nat
 tos:List RfB
 ao:Option Addr
 co:Nat
abbrev OV.vl (x:OV):Value:=.slice x.al x.labels.length x.cl
abbrev OV.vp (x:OV):Value:=.slice x.ap x.ports.length x.cp
abbrev OV.vi (x:OV):Value:=.slice x.ai x.lis.length x.ci
abbrev OV.vq (x:OV):Value:=.slice x.aq x.pars.length x.cq
abbrev OV.vh (x:OV):Value:=.slice x.ah x.hosts.length x.ch
abbrev OV.vr (x:OV):Value:=.slice x.ar x.rules.length x.cr
abbrev OV.vf (x:OV):Value:=.slice x.af x.frm.length x.cf
abbrev OV.vo (x:OV):Value:=.slice x.ao x.tos.length x.co
def OV.b (x:OV):OB:=⟨x.ref,x.good,x.labels,x.ports,x.cls,x.lis.map LiV.b,x.pars,x.hosts,x.rules.map RlV.b,x.frm,x.tos⟩
abbrev oV (x:OV):Value:=.agg #[.int .i64 x.ref.kind,.string x.ref.space,.string x.ref.name,.bool x.good,x.vl,x.vp,.string x.cls,x.vi,x.vq,x.vh,x.vr,x.vf,x.vo]
def aLo (x:OV):List Value:=[.int .i64 x.ref.kind,.string x.ref.space,.string x.ref.name,.bool x.good,x.vl,x.vp,.string x.cls,x.vi,x.vq,x.vh,x.vr,x.vf,x.vo]
structure OV.at_ (x:OV) (w:World):Prop where
 labels:Prs w x.vl x.labels
 ports:Sl EI w x.vp x.ports
 lis:Sl ELi w x.vi x.lis
 pars:Sl EPt w x.vq x.pars
 hosts:Sl ES w x.vh x.hosts
 rules:Sl ERl w x.vr x.rules
 frm:Sl ER w x.vf x.frm
 tos:Sl ER w x.vo x.tos
theorem OV.at_.below {x:OV} {w w':World} (h:x.at_ w) (hb:Below w.heap.size w w'):x.at_ w' :=
 ⟨h.labels.below hb,h.ports.below hb,h.lis.below hb,h.pars.below hb,h.hosts.below hb,h.rules.below hb,h.frm.below hb,h.tos.below hb⟩
def EO:Elem OV where
 cells:=aLo
 n:=13
 A:=fun x w=>x.at_ w
 len:=fun _=>rfl
 pos:=by decide
 one:=fun x _ _ u hu=>by
  simp [aLo] at hu
  rcases hu with rfl | rfl | rfl | rfl | rfl | rfl | rfl | rfl | rfl | rfl | rfl | rfl | rfl<;>rfl
 below:=fun _ _ _ h hb=>h.below hb
structure OkRf (r:RfB):Prop where
 space:r.space.size≤100
 name:r.name.size≤100
structure OkPt (p:PtB):Prop where
 space:p.space.size≤100
 name:p.name.size≤100
 sect:p.sect.size≤100
structure OkLi (l:LiV):Prop where
 name:l.name.size≤100
 host:l.host.size≤100
 cert:OkRf l.cert
 nd:∀ x∈l.nd,OkN x.n
structure OkRl (r:RlV):Prop where
 ms:∀ m∈r.ms,OkM m.m
 fs:∀ f∈r.fs,OkFi f
 fl:r.fs.length≤9
 bs:∀ b∈r.bs,OkRf b.ref
structure OkO (o:OV):Prop where
 ref:OkRf o.ref
 labels:∀ p∈o.labels,okB p
 cls:o.cls.size≤100
 lis:∀ l∈o.lis,OkLi l
 pars:∀ p∈o.pars,OkPt p
 hosts:∀ s∈o.hosts,s.size≤100
 rules:∀ r∈o.rules,OkRl r
 frm:∀ r∈o.frm,OkRf r
 tos:∀ r∈o.tos,OkRf r
end Go.Proofs.YthnodpdiocppgaaGreatDoor
namespace Go.Proofs.YthnodpdiocppgaaGreatDoor
open Go Go.RowKit Go.Shelf
theorem aTt {w:World} {g o:Nat} {x:Int} (h:EI.At w g o x):w.cell? ⟨g,o,none⟩=some (.int .i64 x):=h 0 _ rfl
theorem oneI {w W:World} {a:Option Addr} {n cap:Nat} {L:List Int} (h:Sl EI w (.slice a n cap) L) (hB:Below w.heap.size w W) {k:Nat} (hk:k<L.length) :
  EI.A L[k] W∧∃ g off,a=some ⟨g,off,none⟩∧g<w.heap.size∧W.cell? ⟨g,off+k,none⟩=some (.int .i64 L[k]):=by
 obtain ⟨a',cap',hv,_,_,hc⟩:=h
 injection hv with e1 e2 e3
 subst e1
 obtain ⟨hA,g,off,ha,hg,c⟩:=hc k hk
 rw [show off+k*EI.n=off+k from by show off+k*1=_;rw [Nat.mul_one]] at c
 exact ⟨EI.below _ _ _ hA hB,g,off,ha,hg,aTt (c.below hg hB)⟩
theorem boxI {w W:World} {x:Int} {t:Nat} (h:Below (w.alloc (.cells #[.int .i64 x] t)).heap.size (w.alloc (.cells #[.int .i64 x] t)) W):EI.At W w.heap.size 0 x:=fun j u hu=>by
 rw [Nat.zero_add]
 refine (h.cell (p:=⟨w.heap.size,j,none⟩) (by simp)).trans (aA0 (aA7 w _) ?_)
 have:(EI.cells x)[j]?=some u:=hu
 simpa [EI,EI] using this
theorem oneS {w W:World} {a:Option Addr} {n cap:Nat} {L:List ByteArray} (h:Sl ES w (.slice a n cap) L) (hB:Below w.heap.size w W) {k:Nat} (hk:k<L.length) :
  ES.A L[k] W∧∃ g off,a=some ⟨g,off,none⟩∧g<w.heap.size∧W.cell? ⟨g,off+k,none⟩=some (.string L[k]):=by
 obtain ⟨a',cap',hv,_,_,hc⟩:=h
 injection hv with e1 e2 e3
 subst e1
 obtain ⟨hA,g,off,ha,hg,c⟩:=hc k hk
 rw [show off+k*ES.n=off+k from by show off+k*1=_;rw [Nat.mul_one]] at c
 exact ⟨ES.below _ _ _ hA hB,g,off,ha,hg,aEf (c.below hg hB)⟩
theorem boxS {w W:World} {x:ByteArray} {t:Nat} (h:Below (w.alloc (.cells #[.string x] t)).heap.size (w.alloc (.cells #[.string x] t)) W):ES.At W w.heap.size 0 x:=fun j u hu=>by
 rw [Nat.zero_add]
 refine (h.cell (p:=⟨w.heap.size,j,none⟩) (by simp)).trans (aA0 (aA7 w _) ?_)
 have:(ES.cells x)[j]?=some u:=hu
 simpa [ES,ES] using this
theorem aCi {w:World} {g o:Nat} {x:RfB} (h:ER.At w g o x):w.cell? ⟨g,o,none⟩=some (.int .i64 x.kind)∧w.cell? ⟨g,o+1,none⟩=some (.string x.space)∧w.cell? ⟨g,o+2,none⟩=some (.string x.name):=⟨h 0 _ rfl,h 1 _ rfl,h 2 _ rfl⟩
theorem oneD {w W:World} {a:Option Addr} {n cap:Nat} {L:List RfB} (h:Sl ER w (.slice a n cap) L) (hB:Below w.heap.size w W) {k:Nat} (hk:k<L.length) :
  ER.A L[k] W∧∃ g off,a=some ⟨g,off,none⟩∧g<w.heap.size∧W.cell? ⟨g,off+k*3,none⟩=some (.int .i64 L[k].kind)∧W.cell? ⟨g,off+k*3+1,none⟩=some (.string L[k].space)∧W.cell? ⟨g,off+k*3+2,none⟩=some (.string L[k].name):=by
 obtain ⟨a',cap',hv,_,_,hc⟩:=h
 injection hv with e1 e2 e3
 subst e1
 obtain ⟨hA,g,off,ha,hg,c⟩:=hc k hk
 exact ⟨ER.below _ _ _ hA hB,g,off,ha,hg,aCi (c.below hg hB)⟩
theorem boxD {w W:World} {x:RfB} {t:Nat} (h:Below (w.alloc (.cells #[.int .i64 x.kind,.string x.space,.string x.name] t)).heap.size (w.alloc (.cells #[.int .i64 x.kind,.string x.space,.string x.name] t)) W):ER.At W w.heap.size 0 x:=fun j u hu=>by
 rw [Nat.zero_add]
 refine (h.cell (p:=⟨w.heap.size,j,none⟩) (by simp)).trans (aA0 (aA7 w _) ?_)
 have:(ER.cells x)[j]?=some u:=hu
 simpa [ER,aFn] using this
theorem aFp {w:World} {g o:Nat} {x:PtB} (h:EPt.At w g o x):w.cell? ⟨g,o,none⟩=some (.string x.space)∧w.cell? ⟨g,o+1,none⟩=some (.string x.name)∧w.cell? ⟨g,o+2,none⟩=some (.string x.sect)∧w.cell? ⟨g,o+3,none⟩=some (.int .i64 x.port):=⟨h 0 _ rfl,h 1 _ rfl,h 2 _ rfl,h 3 _ rfl⟩
theorem aDs {w W:World} {a:Option Addr} {n cap:Nat} {L:List PtB} (h:Sl EPt w (.slice a n cap) L) (hB:Below w.heap.size w W) {k:Nat} (hk:k<L.length) :
  EPt.A L[k] W∧∃ g off,a=some ⟨g,off,none⟩∧g<w.heap.size∧W.cell? ⟨g,off+k*4,none⟩=some (.string L[k].space)∧W.cell? ⟨g,off+k*4+1,none⟩=some (.string L[k].name)∧W.cell? ⟨g,off+k*4+2,none⟩=some (.string L[k].sect)∧W.cell? ⟨g,off+k*4+3,none⟩=some (.int .i64 L[k].port):=by
 obtain ⟨a',cap',hv,_,_,hc⟩:=h
 injection hv with e1 e2 e3
 subst e1
 obtain ⟨hA,g,off,ha,hg,c⟩:=hc k hk
 exact ⟨EPt.below _ _ _ hA hB,g,off,ha,hg,aFp (c.below hg hB)⟩
theorem aIt {w W:World} {x:PtB} {t:Nat} (h:Below (w.alloc (.cells #[.string x.space,.string x.name,.string x.sect,.int .i64 x.port] t)).heap.size (w.alloc (.cells #[.string x.space,.string x.name,.string x.sect,.int .i64 x.port] t)) W):EPt.At W w.heap.size 0 x:=fun j u hu=>by
 rw [Nat.zero_add]
 refine (h.cell (p:=⟨w.heap.size,j,none⟩) (by simp)).trans (aA0 (aA7 w _) ?_)
 have:(EPt.cells x)[j]?=some u:=hu
 simpa [EPt,aEp] using this
theorem aH9 {w:World} {g o:Nat} {x:BkB} (h:EK.At w g o x):w.cell? ⟨g,o,none⟩=some (.int .i64 x.ref.kind)∧w.cell? ⟨g,o+1,none⟩=some (.string x.ref.space)∧w.cell? ⟨g,o+2,none⟩=some (.string x.ref.name)∧w.cell? ⟨g,o+3,none⟩=some (.int .i64 x.port)∧w.cell? ⟨g,o+4,none⟩=some (.int .i64 x.weight):=⟨h 0 _ rfl,h 1 _ rfl,h 2 _ rfl,h 3 _ rfl,h 4 _ rfl⟩
theorem oneK {w W:World} {a:Option Addr} {n cap:Nat} {L:List BkB} (h:Sl EK w (.slice a n cap) L) (hB:Below w.heap.size w W) {k:Nat} (hk:k<L.length) :
  EK.A L[k] W∧∃ g off,a=some ⟨g,off,none⟩∧g<w.heap.size∧W.cell? ⟨g,off+k*5,none⟩=some (.int .i64 L[k].ref.kind)∧W.cell? ⟨g,off+k*5+1,none⟩=some (.string L[k].ref.space)∧W.cell? ⟨g,off+k*5+2,none⟩=some (.string L[k].ref.name)∧W.cell? ⟨g,off+k*5+3,none⟩=some (.int .i64 L[k].port)∧W.cell? ⟨g,off+k*5+4,none⟩=some (.int .i64 L[k].weight):=by
 obtain ⟨a',cap',hv,_,_,hc⟩:=h
 injection hv with e1 e2 e3
 subst e1
 obtain ⟨hA,g,off,ha,hg,c⟩:=hc k hk
 exact ⟨EK.below _ _ _ hA hB,g,off,ha,hg,aH9 (c.below hg hB)⟩
theorem boxK {w W:World} {x:BkB} {t:Nat} (h:Below (w.alloc (.cells #[.int .i64 x.ref.kind,.string x.ref.space,.string x.ref.name,.int .i64 x.port,.int .i64 x.weight] t)).heap.size (w.alloc (.cells #[.int .i64 x.ref.kind,.string x.ref.space,.string x.ref.name,.int .i64 x.port,.int .i64 x.weight] t)) W):EK.At W w.heap.size 0 x:=fun j u hu=>by
 rw [Nat.zero_add]
 refine (h.cell (p:=⟨w.heap.size,j,none⟩) (by simp)).trans (aA0 (aA7 w _) ?_)
 have:(EK.cells x)[j]?=some u:=hu
 simpa [EK,aFo] using this
theorem aWy {w:World} {g o:Nat} {x:MV} (h:EM.At w g o x):w.cell? ⟨g,o,none⟩=some (.int .i64 x.m.kind)∧w.cell? ⟨g,o+1,none⟩=some (.string x.m.val)∧w.cell? ⟨g,o+2,none⟩=some (.string x.m.meth)∧w.cell? ⟨g,o+3,none⟩=some (x.vh)∧w.cell? ⟨g,o+4,none⟩=some (x.vq):=⟨h 0 _ rfl,h 1 _ rfl,h 2 _ rfl,h 3 _ rfl,h 4 _ rfl⟩
theorem oneM {w W:World} {a:Option Addr} {n cap:Nat} {L:List MV} (h:Sl EM w (.slice a n cap) L) (hB:Below w.heap.size w W) {k:Nat} (hk:k<L.length) :
  EM.A L[k] W∧∃ g off,a=some ⟨g,off,none⟩∧g<w.heap.size∧W.cell? ⟨g,off+k*5,none⟩=some (.int .i64 L[k].m.kind)∧W.cell? ⟨g,off+k*5+1,none⟩=some (.string L[k].m.val)∧W.cell? ⟨g,off+k*5+2,none⟩=some (.string L[k].m.meth)∧W.cell? ⟨g,off+k*5+3,none⟩=some (L[k].vh)∧W.cell? ⟨g,off+k*5+4,none⟩=some (L[k].vq):=by
 obtain ⟨a',cap',hv,_,_,hc⟩:=h
 injection hv with e1 e2 e3
 subst e1
 obtain ⟨hA,g,off,ha,hg,c⟩:=hc k hk
 exact ⟨EM.below _ _ _ hA hB,g,off,ha,hg,aWy (c.below hg hB)⟩
theorem aBn {w:World} {g o:Nat} {x:LiV} (h:ELi.At w g o x):w.cell? ⟨g,o,none⟩=some (.string x.name)∧w.cell? ⟨g,o+1,none⟩=some (.int .i64 x.port)∧w.cell? ⟨g,o+2,none⟩=some (.bool x.tls)∧w.cell? ⟨g,o+3,none⟩=some (.string x.host)∧w.cell? ⟨g,o+4,none⟩=some (.int .i64 x.cert.kind)∧w.cell? ⟨g,o+5,none⟩=some (.string x.cert.space)∧w.cell? ⟨g,o+6,none⟩=some (.string x.cert.name)∧w.cell? ⟨g,o+7,none⟩=some (.int .i64 x.frm)∧w.cell? ⟨g,o+8,none⟩=some (x.v):=⟨h 0 _ rfl,h 1 _ rfl,h 2 _ rfl,h 3 _ rfl,h 4 _ rfl,h 5 _ rfl,h 6 _ rfl,h 7 _ rfl,h 8 _ rfl⟩
theorem aE5 {w W:World} {a:Option Addr} {n cap:Nat} {L:List LiV} (h:Sl ELi w (.slice a n cap) L) (hB:Below w.heap.size w W) {k:Nat} (hk:k<L.length) :
  ELi.A L[k] W∧∃ g off,a=some ⟨g,off,none⟩∧g<w.heap.size∧W.cell? ⟨g,off+k*9,none⟩=some (.string L[k].name)∧W.cell? ⟨g,off+k*9+1,none⟩=some (.int .i64 L[k].port)∧W.cell? ⟨g,off+k*9+2,none⟩=some (.bool L[k].tls)∧W.cell? ⟨g,off+k*9+3,none⟩=some (.string L[k].host)∧W.cell? ⟨g,off+k*9+4,none⟩=some (.int .i64 L[k].cert.kind)∧W.cell? ⟨g,off+k*9+5,none⟩=some (.string L[k].cert.space)∧W.cell? ⟨g,off+k*9+6,none⟩=some (.string L[k].cert.name)∧W.cell? ⟨g,off+k*9+7,none⟩=some (.int .i64 L[k].frm)∧W.cell? ⟨g,off+k*9+8,none⟩=some (L[k].v):=by
 obtain ⟨a',cap',hv,_,_,hc⟩:=h
 injection hv with e1 e2 e3
 subst e1
 obtain ⟨hA,g,off,ha,hg,c⟩:=hc k hk
 exact ⟨ELi.below _ _ _ hA hB,g,off,ha,hg,aBn (c.below hg hB)⟩
theorem aC4 {w W:World} {x:LiV} {t:Nat} (h:Below (w.alloc (.cells #[.string x.name,.int .i64 x.port,.bool x.tls,.string x.host,.int .i64 x.cert.kind,.string x.cert.space,.string x.cert.name,.int .i64 x.frm,x.v] t)).heap.size (w.alloc (.cells #[.string x.name,.int .i64 x.port,.bool x.tls,.string x.host,.int .i64 x.cert.kind,.string x.cert.space,.string x.cert.name,.int .i64 x.frm,x.v] t)) W):ELi.At W w.heap.size 0 x:=fun j u hu=>by
 rw [Nat.zero_add]
 refine (h.cell (p:=⟨w.heap.size,j,none⟩) (by simp)).trans (aA0 (aA7 w _) ?_)
 have:(ELi.cells x)[j]?=some u:=hu
 simpa [ELi,aDk] using this
theorem aVr {w:World} {g o:Nat} {x:RlV} (h:ERl.At w g o x):w.cell? ⟨g,o,none⟩=some (x.vm)∧w.cell? ⟨g,o+1,none⟩=some (x.vf)∧w.cell? ⟨g,o+2,none⟩=some (x.vb):=⟨h 0 _ rfl,h 1 _ rfl,h 2 _ rfl⟩
theorem aG7 {w W:World} {a:Option Addr} {n cap:Nat} {L:List RlV} (h:Sl ERl w (.slice a n cap) L) (hB:Below w.heap.size w W) {k:Nat} (hk:k<L.length) :
  ERl.A L[k] W∧∃ g off,a=some ⟨g,off,none⟩∧g<w.heap.size∧W.cell? ⟨g,off+k*3,none⟩=some (L[k].vm)∧W.cell? ⟨g,off+k*3+1,none⟩=some (L[k].vf)∧W.cell? ⟨g,off+k*3+2,none⟩=some (L[k].vb):=by
 obtain ⟨a',cap',hv,_,_,hc⟩:=h
 injection hv with e1 e2 e3
 subst e1
 obtain ⟨hA,g,off,ha,hg,c⟩:=hc k hk
 exact ⟨ERl.below _ _ _ hA hB,g,off,ha,hg,aVr (c.below hg hB)⟩
end Go.Proofs.YthnodpdiocppgaaGreatDoor
