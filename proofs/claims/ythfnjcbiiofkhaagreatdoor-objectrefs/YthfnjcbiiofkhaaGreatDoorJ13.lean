/-
  Objects on lists, without a program: refs and their order, which objects may be, which are the same, an object's refs.
-/
import Derived.Test.YthfnjcbiiofkhaaGreatDoorJ1
import Derived.Test.YthfnjcbiiofkhaaGreatDoorFiPlain
import Derived.Test.YthfnjcbiiofkhaaGreatDoorJ8
import Derived.Test.YthfnjcbiiofkhaaGreatDoorJ10
import Derived.Test.YthfnjcbiiofkhaaGreatDoorJ9
import Derived.Test.YthfnjcbiiofkhaaGreatDoorJ11
import Derived.Shelf.SlSortCmp.WholeK
set_option maxRecDepth 20000
namespace Go.Proofs.YthfnjcbiiofkhaaGreatDoor
open Go Go.RowKit Go.Shelf
structure RfB where
 kind:Int
 space:ByteArray
 name:ByteArray
structure LiB where
 name:ByteArray
 port:Int
 tls:Bool
 host:ByteArray
 cert:RfB
 frm:Int
 needs:List NB
structure PtB where
 space:ByteArray
 name:ByteArray
 sect:ByteArray
 port:Int
structure BkB where
 ref:RfB
 port:Int
 weight:Int
structure RlB where
 ms:List MB
 fs:List FB
 bs:List BkB
structure OB where
 ref:RfB
 good:Bool
 labels:List aAa
 ports:List Int
 cls:ByteArray
 lis:List LiB
 pars:List PtB
 hosts:List ByteArray
 rules:List RlB
 frm:List RfB
 tos:List RfB
namespace Ob
abbrev e0 (s:ByteArray):Bool:=s.size == 0
abbrev nil:ByteArray:=⟨#[]⟩
theorem e0_iff {s:ByteArray}:e0 s=true↔s=nil:=by
 simp only [e0,beq_iff_eq]
 refine ⟨fun h=>?_,fun h=>by rw [h];rfl⟩
 obtain ⟨d⟩:=s
 have:d=#[]:=Array.eq_empty_of_size_eq_zero h
 rw [this]
def isL (s:ByteArray):Bool:=D.isLabel s.data.toList
def isN (s:ByteArray):Bool:=D.isName s.data.toList
def isKind (k:Int):Bool:=decide (1≤k∧k≤7)
def isSpace (s:ByteArray):Bool:=e0 s||isL s
def isPort (n:Int):Bool:=decide (1≤n∧n≤65535)
def anyPort (n:Int):Bool:=decide (n=0)||isPort n
def mayRef (r:RfB):Bool :=
 if r.kind=1 then e0 r.space&&isN r.name
 else if r.kind=2 then e0 r.space&&isL r.name
 else isKind r.kind&&(isL r.space&&isN r.name)
theorem mayRef_kind {r:RfB} (h:mayRef r=true):1≤r.kind∧r.kind≤7:=by
 unfold mayRef at h
 split at h
 ·omega
 ·split at h
  ·omega
  ·simp only [isKind,Bool.and_eq_true,decide_eq_true_eq] at h
   exact h.1
def eqR (a b:RfB):Bool:=decide (a.kind=b.kind∧a.space=b.space∧a.name=b.name)
theorem eqR_iff {a b:RfB}:eqR a b=true↔a=b:=by
 unfold eqR
 rw [decide_eq_true_eq]
 obtain ⟨a1,a2,a3⟩:=a
 obtain ⟨b1,b2,b3⟩:=b
 simp
def eqP (a b:PtB):Bool:=decide (a.space=b.space∧a.name=b.name∧a.sect=b.sect∧a.port=b.port)
theorem eqP_iff {a b:PtB}:eqP a b=true↔a=b:=by
 unfold eqP
 rw [decide_eq_true_eq]
 obtain ⟨a1,a2,a3,a4⟩:=a
 obtain ⟨b1,b2,b3,b4⟩:=b
 simp
def eqK (a b:BkB):Bool:=decide (a.ref.kind=b.ref.kind∧a.ref.space=b.ref.space∧a.ref.name=b.ref.name∧a.port=b.port∧a.weight=b.weight)
theorem aW3 {a b:BkB}:eqK a b=true↔a=b:=by
 unfold eqK
 rw [decide_eq_true_eq]
 obtain ⟨⟨a1,a2,a3⟩,a4,a5⟩:=a
 obtain ⟨⟨b1,b2,b3⟩,b4,b5⟩:=b
 simp [and_assoc]
def eqFi (a b:FB):Bool:=decide (a.kind=b.kind∧a.name=b.name∧a.val=b.val∧a.host=b.host∧a.port=b.port∧a.path=b.path∧a.whole=b.whole∧a.code=b.code)
theorem aTs {a b:FB}:eqFi a b=true↔a=b:=by
 unfold eqFi
 rw [decide_eq_true_eq]
 obtain ⟨a1,a2,a3,a4,a5,a6,a7,a8⟩:=a
 obtain ⟨b1,b2,b3,b4,b5,b6,b7,b8⟩:=b
 simp
theorem aRn {a b:NB}:La.sameN a b=true↔a=b:=by
 obtain ⟨a1,a2,a3⟩:=a
 obtain ⟨b1,b2,b3⟩:=b
 simp [La.sameN,and_assoc]
def eqL {α:Type} (eq:α→α→Bool):List α→List α→Bool
 | [],[]=>true
 | a::x,b::y=>eq a b&&eqL eq x y
 | _,_=>false
theorem eqL_iff {α:Type} {eq:α→α→Bool} (h:∀ a b,eq a b=true↔a=b):∀ (x y:List α),eqL eq x y=true↔x=y
 | [],[]=>by simp [eqL]
 | [],_::_=>by simp [eqL]
 | _::_,[]=>by simp [eqL]
 | a::x,b::y=>by simp [eqL,h a b,eqL_iff h x y]
theorem eqL_len {α:Type} {eq:α→α→Bool}:∀ (x y:List α),x.length≠y.length→eqL eq x y=false
 | [],[],h=>absurd rfl h
 | [],_::_,_=>rfl
 | _::_,[],_=>rfl
 | a::x,b::y,h=>by rw [eqL,eqL_len x y (by simpa using h),Bool.and_false]
theorem eqL_not {α:Type} {eq:α→α→Bool}:∀ (x y:List α) (k:Nat) (h1:k<x.length) (h2:k<y.length),eq x[k] y[k]=false→eqL eq x y=false
 | a::x,b::y,0,_,_,h=>by
   simp only [List.getElem_cons_zero] at h
   rw [eqL,h,Bool.false_and]
 | a::x,b::y,k+1,h1,h2,h=>by
   simp only [List.getElem_cons_succ] at h
   rw [eqL,eqL_not x y k (by simpa using h1) (by simpa using h2) h,Bool.and_false]
theorem eqL_yes {α:Type} {eq:α→α→Bool}:∀ (x y:List α),x.length=y.length→(∀ k (h1:k<x.length) (h2:k<y.length),eq x[k] y[k]=true)→eqL eq x y=true
 | [],[],_,_=>rfl
 | a::x,b::y,hl,h=>by
   rw [eqL,Bool.and_eq_true]
   exact ⟨h 0 (by simp) (by simp),eqL_yes x y (by simpa using hl) fun k h1 h2=>by
    have:=h (k+1) (by simpa using h1) (by simpa using h2)
    simpa using this⟩
theorem aKu:∀ (x y:List NB),La.sameL x y=eqL La.sameN x y
 | [],[]=>rfl
 | [],_::_=>rfl
 | _::_,[]=>rfl
 | a::x,b::y=>by rw [La.sameL,eqL,aKu x y]
def sameLi (a b:LiB):Bool:=(a.name.toList == b.name.toList)&&((a.port == b.port)&&((a.tls == b.tls)&&((a.host.toList == b.host.toList)&&(eqR a.cert b.cert&&((a.frm == b.frm)&&La.sameL a.needs b.needs)))))
theorem toList_iff {a b:ByteArray}:a.toList=b.toList↔a=b:=by
 rw [Lib.toList_data,Lib.toList_data]
 refine ⟨fun h=>?_,fun h=>by rw [h]⟩
 obtain ⟨⟨a⟩⟩:=a
 obtain ⟨⟨b⟩⟩:=b
 have:a=b:=h
 rw [this]
theorem aPs {a b:LiB}:sameLi a b=true↔a=b:=by
 unfold sameLi
 obtain ⟨a1,a2,a3,a4,a5,a6,a7⟩:=a
 obtain ⟨b1,b2,b3,b4,b5,b6,b7⟩:=b
 simp only [Bool.and_eq_true,beq_iff_eq,toList_iff,eqR_iff,aKu,eqL_iff (fun a b=>aRn),LiB.mk.injEq]
def sameMB (a b:MB):Bool:=(a.kind == b.kind&&a.val.toList == b.val.toList)&&((a.meth.toList == b.meth.toList)&&(decide (a.head=b.head)&&decide (a.query=b.query)))
theorem aPt {a b:MB}:sameMB a b=true↔a=b:=by
 unfold sameMB
 obtain ⟨a1,a2,a3,a4,a5⟩:=a
 obtain ⟨b1,b2,b3,b4,b5⟩:=b
 simp only [Bool.and_eq_true,beq_iff_eq,toList_iff,decide_eq_true_eq,MB.mk.injEq]
 exact ⟨fun ⟨⟨h1,h2⟩,h3,h4,h5⟩=>⟨h1,h2,h3,h4,h5⟩,fun ⟨h1,h2,h3,h4,h5⟩=>⟨⟨h1,h2⟩,h3,h4,h5⟩⟩
def sameRl (a b:RlB):Bool:=eqL sameMB a.ms b.ms&&(eqL eqFi a.fs b.fs&&eqL eqK a.bs b.bs)
theorem aPu {a b:RlB}:sameRl a b=true↔a=b:=by
 unfold sameRl
 obtain ⟨a1,a2,a3⟩:=a
 obtain ⟨b1,b2,b3⟩:=b
 simp only [Bool.and_eq_true,eqL_iff (fun a b=>aPt),eqL_iff (fun a b=>aTs),eqL_iff (fun a b=>aW3),RlB.mk.injEq]
def sameO (a b:OB):Bool :=
 eqR a.ref b.ref&&((a.good == b.good)&&(decide (a.labels=b.labels)&&(decide (a.ports=b.ports)&&((a.cls.toList == b.cls.toList)&&(eqL sameLi a.lis b.lis &&
  (eqL eqP a.pars b.pars&&(decide (a.hosts=b.hosts)&&(eqL sameRl a.rules b.rules&&(eqL eqR a.frm b.frm&&eqL eqR a.tos b.tos)))))))))
theorem sameO_iff {a b:OB}:sameO a b=true↔a=b:=by
 unfold sameO
 obtain ⟨a1,a2,a3,a4,a5,a6,a7,a8,a9,a10,a11⟩:=a
 obtain ⟨b1,b2,b3,b4,b5,b6,b7,b8,b9,b10,b11⟩:=b
 simp only [Bool.and_eq_true,beq_iff_eq,toList_iff,decide_eq_true_eq,eqR_iff,eqL_iff (fun a b=>aPs),eqL_iff (fun a b=>eqP_iff),eqL_iff (fun a b=>aPu),eqL_iff (fun a b=>eqR_iff),OB.mk.injEq]
theorem sameO_comm (a b:OB):sameO a b=sameO b a:=by
 rw [Bool.eq_iff_iff,sameO_iff,sameO_iff]
 exact eq_comm
theorem sameO_self (a:OB):sameO a a=true:=sameO_iff.2 rfl
def cnt {α:Type} (l:List α) (lo hi:Int) (p:α→Bool):Bool:=decide (lo≤(l.length:Int)∧(l.length:Int)≤hi)&&l.all p
theorem cnt_iff {α:Type} {l:List α} {lo hi:Int} {p:α→Bool}:cnt l lo hi p=true↔lo≤(l.length:Int)∧(l.length:Int)≤hi∧∀ x∈l,p x=true:=by
 unfold cnt
 simp only [Bool.and_eq_true,decide_eq_true_eq,List.all_eq_true,and_assoc]
def dif {α:Type} (same:α→α→Bool) (l:List α):Bool:=decide (l.Pairwise fun x y=>same y x=false)
theorem dif_iff {α:Type} {same:α→α→Bool} {l:List α}:dif same l=true↔l.Pairwise fun x y=>same y x=false:=by
 unfold dif
 rw [decide_eq_true_eq]
theorem dif_not {α:Type} {same:α→α→Bool} {l:List α} {k:Nat} (hk:k<l.length) (h:(l.take k).any (same l[k])=true):dif same l=false:=by
 cases hd:dif same l
 ·rfl
 ·obtain ⟨x,hx,hs⟩:=List.any_eq_true.1 h
  obtain ⟨i,hi,rfl⟩:=List.getElem_of_mem hx
  have hik:i<k:=by simp at hi;omega
  have:=(List.pairwise_iff_getElem.1 (dif_iff.1 hd)) i k (by omega) hk hik
  simp only [List.getElem_take] at hs
  rw [hs] at this
  cases this
theorem dif_yes {α:Type} {same:α→α→Bool} {l:List α} (h:∀ k (hk:k<l.length),(l.take k).any (same l[k])=false):dif same l=true:=by
 rw [dif_iff,List.pairwise_iff_getElem]
 intro i j hi hj hij
 cases hs:same l[j] l[i]
 ·rfl
 ·have:=h j hj
  rw [List.any_eq_false] at this
  have:=this l[i] (List.mem_take_iff_getElem.2 ⟨i,by omega,rfl⟩)
  rw [hs] at this
  exact absurd rfl this
abbrev zR:RfB:=⟨0,nil,nil⟩
def mayCert (l:LiB):Bool:=if l.tls then decide (l.cert.kind=4)&&(isSpace l.cert.space&&isN l.cert.name) else eqR l.cert zR
def mayLet (l:LiB):Bool:=if l.frm=2 then La.needs l.needs else (decide (l.frm=0)||decide (l.frm=1))&&decide (l.needs.length=0)
def mayLi (l:LiB):Bool:=isL l.name&&(isPort l.port&&(may l.host.data.toList&&(mayCert l&&mayLet l)))
def mayPt (p:PtB):Bool:=isSpace p.space&&(isN p.name&&(isSpace p.sect&&anyPort p.port))
def mayHo (s:ByteArray):Bool:=!e0 s&&may s.data.toList
def mayBk (b:BkB):Bool:=isKind b.ref.kind&&(isSpace b.ref.space&&(isN b.ref.name&&(anyPort b.port&&decide (0≤b.weight∧b.weight≤1000))))
def mayRl (r:RlB):Bool:=cnt r.ms 0 4 mayM&&(Fi.allF r.fs&&cnt r.bs 0 4 mayBk)
def mayFr (s:RfB):Bool:=isKind s.kind&&(isL s.space&&e0 s.name)
def mayTo (s:RfB):Bool:=isKind s.kind&&(e0 s.space&&(e0 s.name||isN s.name))
def eqI (a b:Int):Bool:=a == b
def eqS (a b:ByteArray):Bool:=a.toList == b.toList
theorem eqS_iff {a b:ByteArray}:eqS a b=true↔a=b:=by
 unfold eqS
 rw [beq_iff_eq,toList_iff]
def nameLi (a b:LiB):Bool:=a.name.toList == b.name.toList
def srt (l:List Int):Bool:=decide (l.Pairwise fun x y=>x≤y)
abbrev zO (r:RfB):OB:=⟨r,false,[],[],nil,[],[],[],[],[],[]⟩
def mayGood (o:OB):Bool:=sameO o { zO o.ref with good:=o.good }
def maySp (o:OB):Bool:=sameO o { zO o.ref with labels:=o.labels }&&La.mayL o.labels
def maySv (o:OB):Bool:=sameO o { zO o.ref with ports:=o.ports }&&(cnt o.ports 1 8 isPort&&(srt o.ports&&dif eqI o.ports))
def mayGw (o:OB):Bool:=sameO o { zO o.ref with cls:=o.cls,lis:=o.lis }&&(isN o.cls&&(cnt o.lis 1 8 mayLi&&dif nameLi o.lis))
def mayRt (o:OB):Bool:=sameO o { zO o.ref with pars:=o.pars,hosts:=o.hosts,rules:=o.rules }&&(cnt o.pars 0 4 mayPt&&(dif eqP o.pars&&(cnt o.hosts 0 4 mayHo&&(dif eqS o.hosts&&cnt o.rules 0 6 mayRl))))
def mayGr (o:OB):Bool:=sameO o { zO o.ref with frm:=o.frm,tos:=o.tos }&&(cnt o.frm 1 4 mayFr&&cnt o.tos 1 4 mayTo)
def mayK (o:OB):Bool :=
 if o.ref.kind=1 then mayGood o
 else if o.ref.kind=2 then maySp o
 else if o.ref.kind=3 then maySv o
 else if o.ref.kind=4 then mayGood o
 else if o.ref.kind=5 then mayGw o
 else if o.ref.kind=6 then mayRt o
 else mayGr o
def mayO (o:OB):Bool:=mayRef o.ref&&mayK o
end Ob
end Go.Proofs.YthfnjcbiiofkhaaGreatDoor
namespace Go.Proofs.YthfnjcbiiofkhaaGreatDoor
open Go Go.RowKit Go.Shelf
def EI:Elem Int where
 cells:=fun n=>[.int .i64 n]
 n:=1
 A:=fun _ _=>True
 len:=fun _=>rfl
 pos:=by decide
 one:=fun x _ _ u hu=>by
  simp at hu
  subst hu
  rfl
 below:=fun _ _ _ _ _=>trivial
abbrev rfV (r:RfB):Value:=.agg #[.int .i64 r.kind,.string r.space,.string r.name]
def aBi (r:RfB):List Value:=[.int .i64 r.kind,.string r.space,.string r.name]
def ER:Elem RfB where
 cells:=aBi
 n:=3
 A:=fun _ _=>True
 len:=fun _=>rfl
 pos:=by decide
 one:=fun x _ _ u hu=>by
  simp [aBi] at hu
  rcases hu with rfl | rfl | rfl<;>rfl
 below:=fun _ _ _ _ _=>trivial
abbrev ptV (p:PtB):Value:=.agg #[.string p.space,.string p.name,.string p.sect,.int .i64 p.port]
def aEl (p:PtB):List Value:=[.string p.space,.string p.name,.string p.sect,.int .i64 p.port]
def EPt:Elem PtB where
 cells:=aEl
 n:=4
 A:=fun _ _=>True
 len:=fun _=>rfl
 pos:=by decide
 one:=fun x _ _ u hu=>by
  simp [aEl] at hu
  rcases hu with rfl | rfl | rfl | rfl<;>rfl
 below:=fun _ _ _ _ _=>trivial
abbrev bkV (b:BkB):Value:=.agg #[.int .i64 b.ref.kind,.string b.ref.space,.string b.ref.name,.int .i64 b.port,.int .i64 b.weight]
def aFf (b:BkB):List Value:=[.int .i64 b.ref.kind,.string b.ref.space,.string b.ref.name,.int .i64 b.port,.int .i64 b.weight]
def EK:Elem BkB where
 cells:=aFf
 n:=5
 A:=fun _ _=>True
 len:=fun _=>rfl
 pos:=by decide
 one:=fun x _ _ u hu=>by
  simp [aFf] at hu
  rcases hu with rfl | rfl | rfl | rfl | rfl<;>rfl
 below:=fun _ _ _ _ _=>trivial
def EM:Elem MV where
 cells:=aFe
 n:=5
 A:=fun x w=>x.at_ w
 len:=fun _=>rfl
 pos:=by decide
 one:=fun x _ _ u hu=>by
  simp [aFe] at hu
  rcases hu with rfl | rfl | rfl | rfl | rfl<;>rfl
 below:=fun _ _ _ h hb=>h.below hb
structure LiV where
 name:ByteArray
 port:Int
 tls:Bool
 host:ByteArray
 cert:RfB
 frm:Int
 nd:List NV
 a:Option Addr
 c:Nat
abbrev LiV.v (x:LiV):Value:=.slice x.a x.nd.length x.c
def LiV.b (x:LiV):LiB:=⟨x.name,x.port,x.tls,x.host,x.cert,x.frm,nbs x.nd⟩
abbrev liV (x:LiV):Value:=.agg #[.string x.name,.int .i64 x.port,.bool x.tls,.string x.host,.int .i64 x.cert.kind,.string x.cert.space,.string x.cert.name,.int .i64 x.frm,x.v]
def aDh (x:LiV):List Value:=[.string x.name,.int .i64 x.port,.bool x.tls,.string x.host,.int .i64 x.cert.kind,.string x.cert.space,.string x.cert.name,.int .i64 x.frm,x.v]
def ELi:Elem LiV where
 cells:=aDh
 n:=9
 A:=fun x w=>Sl EN w x.v x.nd
 len:=fun _=>rfl
 pos:=by decide
 one:=fun x _ _ u hu=>by
  simp [aDh] at hu
  rcases hu with rfl | rfl | rfl | rfl | rfl | rfl | rfl | rfl | rfl<;>rfl
 below:=fun _ _ _ h hb=>h.below hb
structure RlV where
 ms:List MV
 am:Option Addr
 cm:Nat
 fs:List FB
 af:Option Addr
 cf:Nat
 bs:List BkB
 ab:Option Addr
 cb:Nat
abbrev RlV.vm (x:RlV):Value:=.slice x.am x.ms.length x.cm
abbrev RlV.vf (x:RlV):Value:=.slice x.af x.fs.length x.cf
abbrev RlV.vb (x:RlV):Value:=.slice x.ab x.bs.length x.cb
def RlV.b (x:RlV):RlB:=⟨x.ms.map fun m=>m.m,x.fs,x.bs⟩
abbrev rlV (x:RlV):Value:=.agg #[x.vm,x.vf,x.vb]
def aHa (x:RlV):List Value:=[x.vm,x.vf,x.vb]
structure RlV.at_ (x:RlV) (w:World):Prop where
 ms:Sl EM w x.vm x.ms
 fs:Sl EF w x.vf x.fs
 bs:Sl EK w x.vb x.bs
theorem RlV.at_.below {x:RlV} {w w':World} (h:x.at_ w) (hb:Below w.heap.size w w'):x.at_ w':=⟨h.ms.below hb,h.fs.below hb,h.bs.below hb⟩
def ERl:Elem RlV where
 cells:=aHa
 n:=3
 A:=fun x w=>x.at_ w
 len:=fun _=>rfl
 pos:=by decide
 one:=fun x _ _ u hu=>by
  simp [aHa] at hu
  rcases hu with rfl | rfl | rfl<;>rfl
 below:=fun _ _ _ h hb=>h.below hb
structure OV where
 ref:RfB
 good:Bool
 labels:List aAa
 al:Option Addr
 cl:Nat
 ports:List Int
 ap:Option Addr
 cp:Nat
 cls:ByteArray
 lis:List LiV
 ai:Option Addr
 ci:Nat
 pars:List PtB
 aq:Option Addr
 cq:Nat
 hosts:List ByteArray
 ah:Option Addr
 ch:Nat
 rules:List RlV
 ar:Option Addr
 cr:Nat
 frm:List RfB
 af:Option Addr
 cf:Nat
 tos:List RfB
 ao:Option Addr
 co:Nat
abbrev OV.vl (x:OV):Value:=.slice x.al x.labels.length x.cl
abbrev OV.vp (x:OV):Value:=.slice x.ap x.ports.length x.cp
abbrev OV.vi (x:OV):Value:=.slice x.ai x.lis.length x.ci
abbrev OV.vq (x:OV):Value:=.slice x.aq x.pars.length x.cq
abbrev OV.vh (x:OV):Value:=.slice x.ah x.hosts.length x.ch
abbrev OV.vr (x:OV):Value:=.slice x.ar x.rules.length x.cr
abbrev OV.vf (x:OV):Value:=.slice x.af x.frm.length x.cf
abbrev OV.vo (x:OV):Value:=.slice x.ao x.tos.length x.co
def OV.b (x:OV):OB:=⟨x.ref,x.good,x.labels,x.ports,x.cls,x.lis.map LiV.b,x.pars,x.hosts,x.rules.map RlV.b,x.frm,x.tos⟩
abbrev oV (x:OV):Value:=.agg #[.int .i64 x.ref.kind,.string x.ref.space,.string x.ref.name,.bool x.good,x.vl,x.vp,.string x.cls,x.vi,x.vq,x.vh,x.vr,x.vf,x.vo]
def aJ3 (x:OV):List Value:=[.int .i64 x.ref.kind,.string x.ref.space,.string x.ref.name,.bool x.good,x.vl,x.vp,.string x.cls,x.vi,x.vq,x.vh,x.vr,x.vf,x.vo]
structure OV.at_ (x:OV) (w:World):Prop where
 labels:Prs w x.vl x.labels
 ports:Sl EI w x.vp x.ports
 lis:Sl ELi w x.vi x.lis
 pars:Sl EPt w x.vq x.pars
 hosts:Sl ES w x.vh x.hosts
 rules:Sl ERl w x.vr x.rules
 frm:Sl ER w x.vf x.frm
 tos:Sl ER w x.vo x.tos
theorem OV.at_.below {x:OV} {w w':World} (h:x.at_ w) (hb:Below w.heap.size w w'):x.at_ w' :=
 ⟨h.labels.below hb,h.ports.below hb,h.lis.below hb,h.pars.below hb,h.hosts.below hb,h.rules.below hb,h.frm.below hb,h.tos.below hb⟩
def EO:Elem OV where
 cells:=aJ3
 n:=13
 A:=fun x w=>x.at_ w
 len:=fun _=>rfl
 pos:=by decide
 one:=fun x _ _ u hu=>by
  simp [aJ3] at hu
  rcases hu with rfl | rfl | rfl | rfl | rfl | rfl | rfl | rfl | rfl | rfl | rfl | rfl | rfl<;>rfl
 below:=fun _ _ _ h hb=>h.below hb
structure OkRf (r:RfB):Prop where
 space:r.space.size≤100
 name:r.name.size≤100
structure OkPt (p:PtB):Prop where
 space:p.space.size≤100
 name:p.name.size≤100
 sect:p.sect.size≤100
structure OkLi (l:LiV):Prop where
 name:l.name.size≤100
 host:l.host.size≤100
 cert:OkRf l.cert
 nd:∀ x∈l.nd,OkN x.n
structure OkRl (r:RlV):Prop where
 ms:∀ m∈r.ms,OkM m.m
 fs:∀ f∈r.fs,OkFi f
 fl:r.fs.length≤9
 bs:∀ b∈r.bs,OkRf b.ref
structure OkO (o:OV):Prop where
 ref:OkRf o.ref
 labels:∀ p∈o.labels,okB p
 cls:o.cls.size≤100
 lis:∀ l∈o.lis,OkLi l
 pars:∀ p∈o.pars,OkPt p
 hosts:∀ s∈o.hosts,s.size≤100
 rules:∀ r∈o.rules,OkRl r
 frm:∀ r∈o.frm,OkRf r
 tos:∀ r∈o.tos,OkRf r
end Go.Proofs.YthfnjcbiiofkhaaGreatDoor
namespace Go.Proofs.YthfnjcbiiofkhaaGreatDoor
open Go Go.RowKit Go.Shelf
theorem aUy {w:World} {g o:Nat} {x:Int} (h:EI.At w g o x):w.cell? ⟨g,o,none⟩=some (.int .i64 x):=h 0 _ rfl
theorem oneI {w W:World} {a:Option Addr} {n cap:Nat} {L:List Int} (h:Sl EI w (.slice a n cap) L) (hB:Below w.heap.size w W) {k:Nat} (hk:k<L.length) :
  EI.A L[k] W∧∃ g off,a=some ⟨g,off,none⟩∧g<w.heap.size∧W.cell? ⟨g,off+k,none⟩=some (.int .i64 L[k]):=by
 obtain ⟨a',cap',hv,_,_,hc⟩:=h
 injection hv with e1 e2 e3
 subst e1
 obtain ⟨hA,g,off,ha,hg,c⟩:=hc k hk
 rw [show off+k*EI.n=off+k from by show off+k*1=_;rw [Nat.mul_one]] at c
 exact ⟨EI.below _ _ _ hA hB,g,off,ha,hg,aUy (c.below hg hB)⟩
theorem boxI {w W:World} {x:Int} {t:Nat} (h:Below (w.alloc (.cells #[.int .i64 x] t)).heap.size (w.alloc (.cells #[.int .i64 x] t)) W):EI.At W w.heap.size 0 x:=fun j u hu=>by
 rw [Nat.zero_add]
 refine (h.cell (p:=⟨w.heap.size,j,none⟩) (by simp)).trans (aA2 (aA7 w _) ?_)
 have:(EI.cells x)[j]?=some u:=hu
 simpa [EI,EI] using this
theorem oneS {w W:World} {a:Option Addr} {n cap:Nat} {L:List ByteArray} (h:Sl ES w (.slice a n cap) L) (hB:Below w.heap.size w W) {k:Nat} (hk:k<L.length) :
  ES.A L[k] W∧∃ g off,a=some ⟨g,off,none⟩∧g<w.heap.size∧W.cell? ⟨g,off+k,none⟩=some (.string L[k]):=by
 obtain ⟨a',cap',hv,_,_,hc⟩:=h
 injection hv with e1 e2 e3
 subst e1
 obtain ⟨hA,g,off,ha,hg,c⟩:=hc k hk
 rw [show off+k*ES.n=off+k from by show off+k*1=_;rw [Nat.mul_one]] at c
 exact ⟨ES.below _ _ _ hA hB,g,off,ha,hg,aEb (c.below hg hB)⟩
theorem boxS {w W:World} {x:ByteArray} {t:Nat} (h:Below (w.alloc (.cells #[.string x] t)).heap.size (w.alloc (.cells #[.string x] t)) W):ES.At W w.heap.size 0 x:=fun j u hu=>by
 rw [Nat.zero_add]
 refine (h.cell (p:=⟨w.heap.size,j,none⟩) (by simp)).trans (aA2 (aA7 w _) ?_)
 have:(ES.cells x)[j]?=some u:=hu
 simpa [ES,ES] using this
theorem aCa {w:World} {g o:Nat} {x:RfB} (h:ER.At w g o x):w.cell? ⟨g,o,none⟩=some (.int .i64 x.kind)∧w.cell? ⟨g,o+1,none⟩=some (.string x.space)∧w.cell? ⟨g,o+2,none⟩=some (.string x.name):=⟨h 0 _ rfl,h 1 _ rfl,h 2 _ rfl⟩
theorem oneD {w W:World} {a:Option Addr} {n cap:Nat} {L:List RfB} (h:Sl ER w (.slice a n cap) L) (hB:Below w.heap.size w W) {k:Nat} (hk:k<L.length) :
  ER.A L[k] W∧∃ g off,a=some ⟨g,off,none⟩∧g<w.heap.size∧W.cell? ⟨g,off+k*3,none⟩=some (.int .i64 L[k].kind)∧W.cell? ⟨g,off+k*3+1,none⟩=some (.string L[k].space)∧W.cell? ⟨g,off+k*3+2,none⟩=some (.string L[k].name):=by
 obtain ⟨a',cap',hv,_,_,hc⟩:=h
 injection hv with e1 e2 e3
 subst e1
 obtain ⟨hA,g,off,ha,hg,c⟩:=hc k hk
 exact ⟨ER.below _ _ _ hA hB,g,off,ha,hg,aCa (c.below hg hB)⟩
theorem boxD {w W:World} {x:RfB} {t:Nat} (h:Below (w.alloc (.cells #[.int .i64 x.kind,.string x.space,.string x.name] t)).heap.size (w.alloc (.cells #[.int .i64 x.kind,.string x.space,.string x.name] t)) W):ER.At W w.heap.size 0 x:=fun j u hu=>by
 rw [Nat.zero_add]
 refine (h.cell (p:=⟨w.heap.size,j,none⟩) (by simp)).trans (aA2 (aA7 w _) ?_)
 have:(ER.cells x)[j]?=some u:=hu
 simpa [ER,aBi] using this
theorem aFg {w:World} {g o:Nat} {x:PtB} (h:EPt.At w g o x):w.cell? ⟨g,o,none⟩=some (.string x.space)∧w.cell? ⟨g,o+1,none⟩=some (.string x.name)∧w.cell? ⟨g,o+2,none⟩=some (.string x.sect)∧w.cell? ⟨g,o+3,none⟩=some (.int .i64 x.port):=⟨h 0 _ rfl,h 1 _ rfl,h 2 _ rfl,h 3 _ rfl⟩
theorem aD5 {w W:World} {a:Option Addr} {n cap:Nat} {L:List PtB} (h:Sl EPt w (.slice a n cap) L) (hB:Below w.heap.size w W) {k:Nat} (hk:k<L.length) :
  EPt.A L[k] W∧∃ g off,a=some ⟨g,off,none⟩∧g<w.heap.size∧W.cell? ⟨g,off+k*4,none⟩=some (.string L[k].space)∧W.cell? ⟨g,off+k*4+1,none⟩=some (.string L[k].name)∧W.cell? ⟨g,off+k*4+2,none⟩=some (.string L[k].sect)∧W.cell? ⟨g,off+k*4+3,none⟩=some (.int .i64 L[k].port):=by
 obtain ⟨a',cap',hv,_,_,hc⟩:=h
 injection hv with e1 e2 e3
 subst e1
 obtain ⟨hA,g,off,ha,hg,c⟩:=hc k hk
 exact ⟨EPt.below _ _ _ hA hB,g,off,ha,hg,aFg (c.below hg hB)⟩
theorem aJ4 {w W:World} {x:PtB} {t:Nat} (h:Below (w.alloc (.cells #[.string x.space,.string x.name,.string x.sect,.int .i64 x.port] t)).heap.size (w.alloc (.cells #[.string x.space,.string x.name,.string x.sect,.int .i64 x.port] t)) W):EPt.At W w.heap.size 0 x:=fun j u hu=>by
 rw [Nat.zero_add]
 refine (h.cell (p:=⟨w.heap.size,j,none⟩) (by simp)).trans (aA2 (aA7 w _) ?_)
 have:(EPt.cells x)[j]?=some u:=hu
 simpa [EPt,aEl] using this
theorem aHb {w:World} {g o:Nat} {x:BkB} (h:EK.At w g o x):w.cell? ⟨g,o,none⟩=some (.int .i64 x.ref.kind)∧w.cell? ⟨g,o+1,none⟩=some (.string x.ref.space)∧w.cell? ⟨g,o+2,none⟩=some (.string x.ref.name)∧w.cell? ⟨g,o+3,none⟩=some (.int .i64 x.port)∧w.cell? ⟨g,o+4,none⟩=some (.int .i64 x.weight):=⟨h 0 _ rfl,h 1 _ rfl,h 2 _ rfl,h 3 _ rfl,h 4 _ rfl⟩
theorem oneK {w W:World} {a:Option Addr} {n cap:Nat} {L:List BkB} (h:Sl EK w (.slice a n cap) L) (hB:Below w.heap.size w W) {k:Nat} (hk:k<L.length) :
  EK.A L[k] W∧∃ g off,a=some ⟨g,off,none⟩∧g<w.heap.size∧W.cell? ⟨g,off+k*5,none⟩=some (.int .i64 L[k].ref.kind)∧W.cell? ⟨g,off+k*5+1,none⟩=some (.string L[k].ref.space)∧W.cell? ⟨g,off+k*5+2,none⟩=some (.string L[k].ref.name)∧W.cell? ⟨g,off+k*5+3,none⟩=some (.int .i64 L[k].port)∧W.cell? ⟨g,off+k*5+4,none⟩=some (.int .i64 L[k].weight):=by
 obtain ⟨a',cap',hv,_,_,hc⟩:=h
 injection hv with e1 e2 e3
 subst e1
 obtain ⟨hA,g,off,ha,hg,c⟩:=hc k hk
 exact ⟨EK.below _ _ _ hA hB,g,off,ha,hg,aHb (c.below hg hB)⟩
theorem boxK {w W:World} {x:BkB} {t:Nat} (h:Below (w.alloc (.cells #[.int .i64 x.ref.kind,.string x.ref.space,.string x.ref.name,.int .i64 x.port,.int .i64 x.weight] t)).heap.size (w.alloc (.cells #[.int .i64 x.ref.kind,.string x.ref.space,.string x.ref.name,.int .i64 x.port,.int .i64 x.weight] t)) W):EK.At W w.heap.size 0 x:=fun j u hu=>by
 rw [Nat.zero_add]
 refine (h.cell (p:=⟨w.heap.size,j,none⟩) (by simp)).trans (aA2 (aA7 w _) ?_)
 have:(EK.cells x)[j]?=some u:=hu
 simpa [EK,aFf] using this
theorem aYn {w:World} {g o:Nat} {x:MV} (h:EM.At w g o x):w.cell? ⟨g,o,none⟩=some (.int .i64 x.m.kind)∧w.cell? ⟨g,o+1,none⟩=some (.string x.m.val)∧w.cell? ⟨g,o+2,none⟩=some (.string x.m.meth)∧w.cell? ⟨g,o+3,none⟩=some (x.vh)∧w.cell? ⟨g,o+4,none⟩=some (x.vq):=⟨h 0 _ rfl,h 1 _ rfl,h 2 _ rfl,h 3 _ rfl,h 4 _ rfl⟩
theorem oneM {w W:World} {a:Option Addr} {n cap:Nat} {L:List MV} (h:Sl EM w (.slice a n cap) L) (hB:Below w.heap.size w W) {k:Nat} (hk:k<L.length) :
  EM.A L[k] W∧∃ g off,a=some ⟨g,off,none⟩∧g<w.heap.size∧W.cell? ⟨g,off+k*5,none⟩=some (.int .i64 L[k].m.kind)∧W.cell? ⟨g,off+k*5+1,none⟩=some (.string L[k].m.val)∧W.cell? ⟨g,off+k*5+2,none⟩=some (.string L[k].m.meth)∧W.cell? ⟨g,off+k*5+3,none⟩=some (L[k].vh)∧W.cell? ⟨g,off+k*5+4,none⟩=some (L[k].vq):=by
 obtain ⟨a',cap',hv,_,_,hc⟩:=h
 injection hv with e1 e2 e3
 subst e1
 obtain ⟨hA,g,off,ha,hg,c⟩:=hc k hk
 exact ⟨EM.below _ _ _ hA hB,g,off,ha,hg,aYn (c.below hg hB)⟩
theorem aBj {w:World} {g o:Nat} {x:LiV} (h:ELi.At w g o x):w.cell? ⟨g,o,none⟩=some (.string x.name)∧w.cell? ⟨g,o+1,none⟩=some (.int .i64 x.port)∧w.cell? ⟨g,o+2,none⟩=some (.bool x.tls)∧w.cell? ⟨g,o+3,none⟩=some (.string x.host)∧w.cell? ⟨g,o+4,none⟩=some (.int .i64 x.cert.kind)∧w.cell? ⟨g,o+5,none⟩=some (.string x.cert.space)∧w.cell? ⟨g,o+6,none⟩=some (.string x.cert.name)∧w.cell? ⟨g,o+7,none⟩=some (.int .i64 x.frm)∧w.cell? ⟨g,o+8,none⟩=some (x.v):=⟨h 0 _ rfl,h 1 _ rfl,h 2 _ rfl,h 3 _ rfl,h 4 _ rfl,h 5 _ rfl,h 6 _ rfl,h 7 _ rfl,h 8 _ rfl⟩
theorem aD9 {w W:World} {a:Option Addr} {n cap:Nat} {L:List LiV} (h:Sl ELi w (.slice a n cap) L) (hB:Below w.heap.size w W) {k:Nat} (hk:k<L.length) :
  ELi.A L[k] W∧∃ g off,a=some ⟨g,off,none⟩∧g<w.heap.size∧W.cell? ⟨g,off+k*9,none⟩=some (.string L[k].name)∧W.cell? ⟨g,off+k*9+1,none⟩=some (.int .i64 L[k].port)∧W.cell? ⟨g,off+k*9+2,none⟩=some (.bool L[k].tls)∧W.cell? ⟨g,off+k*9+3,none⟩=some (.string L[k].host)∧W.cell? ⟨g,off+k*9+4,none⟩=some (.int .i64 L[k].cert.kind)∧W.cell? ⟨g,off+k*9+5,none⟩=some (.string L[k].cert.space)∧W.cell? ⟨g,off+k*9+6,none⟩=some (.string L[k].cert.name)∧W.cell? ⟨g,off+k*9+7,none⟩=some (.int .i64 L[k].frm)∧W.cell? ⟨g,off+k*9+8,none⟩=some (L[k].v):=by
 obtain ⟨a',cap',hv,_,_,hc⟩:=h
 injection hv with e1 e2 e3
 subst e1
 obtain ⟨hA,g,off,ha,hg,c⟩:=hc k hk
 exact ⟨ELi.below _ _ _ hA hB,g,off,ha,hg,aBj (c.below hg hB)⟩
theorem aBz {w W:World} {x:LiV} {t:Nat} (h:Below (w.alloc (.cells #[.string x.name,.int .i64 x.port,.bool x.tls,.string x.host,.int .i64 x.cert.kind,.string x.cert.space,.string x.cert.name,.int .i64 x.frm,x.v] t)).heap.size (w.alloc (.cells #[.string x.name,.int .i64 x.port,.bool x.tls,.string x.host,.int .i64 x.cert.kind,.string x.cert.space,.string x.cert.name,.int .i64 x.frm,x.v] t)) W):ELi.At W w.heap.size 0 x:=fun j u hu=>by
 rw [Nat.zero_add]
 refine (h.cell (p:=⟨w.heap.size,j,none⟩) (by simp)).trans (aA2 (aA7 w _) ?_)
 have:(ELi.cells x)[j]?=some u:=hu
 simpa [ELi,aDh] using this
theorem aXe {w:World} {g o:Nat} {x:RlV} (h:ERl.At w g o x):w.cell? ⟨g,o,none⟩=some (x.vm)∧w.cell? ⟨g,o+1,none⟩=some (x.vf)∧w.cell? ⟨g,o+2,none⟩=some (x.vb):=⟨h 0 _ rfl,h 1 _ rfl,h 2 _ rfl⟩
theorem aEd {w W:World} {a:Option Addr} {n cap:Nat} {L:List RlV} (h:Sl ERl w (.slice a n cap) L) (hB:Below w.heap.size w W) {k:Nat} (hk:k<L.length) :
  ERl.A L[k] W∧∃ g off,a=some ⟨g,off,none⟩∧g<w.heap.size∧W.cell? ⟨g,off+k*3,none⟩=some (L[k].vm)∧W.cell? ⟨g,off+k*3+1,none⟩=some (L[k].vf)∧W.cell? ⟨g,off+k*3+2,none⟩=some (L[k].vb):=by
 obtain ⟨a',cap',hv,_,_,hc⟩:=h
 injection hv with e1 e2 e3
 subst e1
 obtain ⟨hA,g,off,ha,hg,c⟩:=hc k hk
 exact ⟨ERl.below _ _ _ hA hB,g,off,ha,hg,aXe (c.below hg hB)⟩
end Go.Proofs.YthfnjcbiiofkhaaGreatDoor
namespace Go.Proofs.YthfnjcbiiofkhaaGreatDoor
open Go Go.RowKit Go.Shelf
namespace Ob
def ordR (a b:RfB):Int:=orI (cmpI a.kind b.kind) (orI (Lib.compareBytes a.space.data.toList b.space.data.toList) (Lib.compareBytes a.name.data.toList b.name.data.toList))
theorem aTt {a b:ByteArray}:a.data.toList=b.data.toList↔a=b:=by rw [←toList_iff,Lib.toList_data,Lib.toList_data]
theorem cmpI_range (a b : Int) : cmpI a b = -1 ∨ cmpI a b = 0 ∨ cmpI a b = 1 := by unfold cmpI;split;· exact .inl rfl
                                                                                   ·split;· exact .inr (.inr rfl)
                                                                                    ·exact .inr (.inl rfl)
theorem aKa (a b:Int):cmpI b a=- cmpI a b:=by unfold cmpI;repeat' split;all_goals omega
theorem aGp (a b:Int):cmpI a b=0↔a=b:=by unfold cmpI;repeat' split;all_goals omega
theorem aPv (a b c:Int):cmpI a b≤0→cmpI b c≤0→cmpI a c≤0:=by unfold cmpI;repeat' split;all_goals omega
theorem aPw (a b:RfB):ordR a b=-1∨ordR a b=0∨ordR a b=1:=by
 unfold ordR orI
 split
 ·split
  ·exact aGk _ _
  ·exact aGk _ _
 ·exact cmpI_range _ _
theorem ordR_anti (a b:RfB):ordR b a=- ordR a b:=by
 unfold ordR orI
 rw [aKa a.kind b.kind,aFm a.space.data.toList,aFm a.name.data.toList]
 repeat' split
 all_goals omega
theorem ordR_zero (a b:RfB):ordR a b=0↔a=b:=by
 unfold ordR orI
 have h1:=aGp a.kind b.kind
 have h2:=aDr a.space.data.toList b.space.data.toList
 have h3:=aDr a.name.data.toList b.name.data.toList
 rw [aTt] at h2 h3
 obtain ⟨a1,a2,a3⟩:=a
 obtain ⟨b1,b2,b3⟩:=b
 simp only [RfB.mk.injEq]
 dsimp only at h1 h2 h3
 split
 ·rename_i h
  split
  ·rename_i h'
   rw [h3]
   exact ⟨fun x=>⟨h1.1 h,h2.1 h',x⟩,fun x=>x.2.2⟩
  ·rename_i h'
   exact ⟨fun x=>absurd x h',fun x=>absurd (h2.2 x.2.1) h'⟩
 ·rename_i h
  exact ⟨fun x=>absurd x h,fun x=>absurd (h1.2 x.1) h⟩
theorem ordR_self (a:RfB):ordR a a=0:=(ordR_zero a a).2 rfl
theorem aMm {x1 x2 x3 y1 y2 y3:Int} (hx:x1≤0→x2≤0→x3≤0) (hx1:x3=0→x1≤0→x2≤0→x1=0∧x2=0) (hz:x1=0→x2=0→x3=0) (hy:y1≤0→y2≤0→y3≤0) (h1:orI x1 y1≤0) (h2:orI x2 y2≤0):orI x3 y3≤0:=by
 unfold orI at *
 by_cases e1:x1=0
 ·by_cases e2:x2=0
  ·rw [if_pos e1] at h1
   rw [if_pos e2] at h2
   rw [if_pos (hz e1 e2)]
   exact hy h1 h2
  ·rw [if_neg e2] at h2
   have h3:x3≠0:=fun h=>e2 (hx1 h (by omega) h2).2
   rw [if_neg h3]
   exact hx (by omega) h2
 ·rw [if_neg e1] at h1
  have h2':x2≤0:=by
   by_cases e2:x2=0
   ·omega
   ·rw [if_neg e2] at h2
    exact h2
  have h3:x3≠0:=fun h=>e1 (hx1 h h1 h2').1
  rw [if_neg h3]
  exact hx h1 h2'
theorem aRo (a b c:Int):cmpI a c=0→cmpI a b≤0→cmpI b c≤0→cmpI a b=0∧cmpI b c=0:=by unfold cmpI;repeat' split;all_goals omega
theorem aTu (a b c:List UInt8) (h:Lib.compareBytes a c=0) (h1:Lib.compareBytes a b≤0) (h2:Lib.compareBytes b c≤0):Lib.compareBytes a b=0∧Lib.compareBytes b c=0:=by
 have:a=c:=(aDr a c).1 h
 subst this
 have:=aFm a b
 omega
theorem ordR_trans (a b c:RfB) (h1:ordR a b≤0) (h2:ordR b c≤0):ordR a c≤0:=by
 unfold ordR at *
 refine aMm (aPv a.kind b.kind c.kind) (aRo a.kind b.kind c.kind) (fun e1 e2=>?_) (fun g1 g2=>?_) h1 h2
 ·rw [aGp] at *
  omega
 ·refine aMm (aGl _ _ _) (aTu _ _ _) (fun e1 e2=>?_) (aGl _ _ _) g1 g2
  rw [aDr] at *
  rw [e1,e2]
theorem ordR_lt (a b c:RfB) (h1:ordR a b<0) (h2:ordR b c≤0):ordR a c<0:=by
 have h:=ordR_trans a b c (by omega) h2
 have h0:ordR a c≠0:=fun e=>by
  have:=(ordR_zero a c).1 e
  subst this
  have:=ordR_anti a b
  omega
 omega
theorem aTv (a b c:RfB) (h1:ordR a b≤0) (h2:ordR b c<0):ordR a c<0:=by
 have h:=ordR_trans a b c h1 (by omega)
 have h0:ordR a c≠0:=fun e=>by
  have:=(ordR_zero a c).1 e
  subst this
  have:=ordR_anti a b
  omega
 omega
def ins (l:List RfB) (r:RfB):List RfB:=(l.filter fun x=>decide (ordR x r<0))++r::(l.filter fun x=>decide (0<ordR x r))
def sortU (l:List RfB):List RfB:=l.foldl ins []
def Asc (l:List RfB):Prop:=l.Pairwise fun x y=>ordR x y<0
theorem aW4 {l:List RfB} {r x:RfB}:x∈ins l r↔x∈l∨x=r:=by
 unfold ins
 simp only [List.mem_append,List.mem_cons,List.mem_filter,decide_eq_true_eq]
 constructor
 ·rintro (⟨h,_⟩ | rfl | ⟨h,_⟩)
  ·exact .inl h
  ·exact .inr rfl
  ·exact .inl h
 ·rintro (h | rfl)
  ·rcases aPw x r with e | e | e
   ·exact .inl ⟨h,by omega⟩
   ·exact .inr (.inl ((ordR_zero x r).1 e))
   ·exact .inr (.inr ⟨h,by omega⟩)
  ·exact .inr (.inl rfl)
theorem aW5 {l:List RfB} {r:RfB} (h:Asc l):Asc (ins l r):=by
 unfold Asc ins at *
 refine List.pairwise_append.2 ⟨h.sublist List.filter_sublist,List.pairwise_cons.2 ⟨fun y hy=>?_,h.sublist List.filter_sublist⟩,fun x hx y hy=>?_⟩
 ·have:=(List.mem_filter.1 hy).2
  have:=of_decide_eq_true this
  have:=ordR_anti y r
  omega
 ·have h1:=of_decide_eq_true (List.mem_filter.1 hx).2
  rcases List.mem_cons.1 hy with rfl | hy
  ·exact h1
  ·have h2:=of_decide_eq_true (List.mem_filter.1 hy).2
   have:=ordR_anti y r
   exact ordR_lt x r y h1 (by omega)
theorem aKv {x:RfB}:∀ (l a:List RfB),x∈l.foldl ins a↔x∈a∨x∈l
 | [],a=>by simp
 | r::l,a=>by
   rw [List.foldl_cons,aKv l,aW4]
   simp only [List.mem_cons,or_assoc]
theorem aKw:∀ (l a:List RfB),Asc a→Asc (l.foldl ins a)
 | [],_,h=>h
 | r::l,a,h=>by
   rw [List.foldl_cons]
   exact aKw l _ (aW5 h)
theorem aRp {l:List RfB} {x:RfB}:x∈sortU l↔x∈l:=by
 unfold sortU
 rw [aKv]
 simp
theorem aRq (l:List RfB):Asc (sortU l):=aKw l [] List.Pairwise.nil
theorem aRr:∀ (a b:List RfB),Asc a→Asc b→(∀ x,x∈a↔x∈b)→a=b
 | [],[],_,_,_=>rfl
 | [],y::b,_,_,h=>absurd ((h y).2 (by simp)) (by simp)
 | x::a,[],_,_,h=>absurd ((h x).1 (by simp)) (by simp)
 | x::a,y::b,ha,hb,h=>by
   obtain ⟨ha1,ha2⟩:=List.pairwise_cons.1 ha
   obtain ⟨hb1,hb2⟩:=List.pairwise_cons.1 hb
   have e:x=y:=by
    rcases List.mem_cons.1 ((h x).1 (by simp)) with e | hx
    ·exact e
    ·rcases List.mem_cons.1 ((h y).2 (by simp)) with e | hy
     ·exact e.symm
     ·have:=ha1 y hy
      have:=hb1 x hx
      have:=ordR_anti x y
      omega
   subst e
   rw [aRr a b ha2 hb2 fun z=>?_]
   have nz:∀ l:List RfB,(∀ z∈l,ordR x z<0)→¬ x∈l:=fun l hl hx=>by
    have:=hl x hx
    rw [ordR_self] at this
    omega
   constructor
   ·intro hz
    rcases List.mem_cons.1 ((h z).1 (List.mem_cons_of_mem _ hz)) with rfl | hz'
    ·exact absurd hz (nz a ha1)
    ·exact hz'
   ·intro hz
    rcases List.mem_cons.1 ((h z).2 (List.mem_cons_of_mem _ hz)) with rfl | hz'
    ·exact absurd hz (nz b hb1)
    ·exact hz'
def cmpTo (l:List RfB):Nat→List RfB
 | 0=>[]
 | n+1=>match l[n]?,l[n - 1]? with
   | some x,some y=>if decide (n≠0)&&eqR x y then cmpTo l n else cmpTo l n++[x]
   | _,_=>cmpTo l n
theorem cmpTo_same {l:List RfB} {n:Nat} (h:n+1<l.length) (e:l[n+1]=l[n]):cmpTo l (n+1+1)=cmpTo l (n+1):=by
 rw [cmpTo,Nat.add_sub_cancel,List.getElem?_eq_getElem h,List.getElem?_eq_getElem (show n<l.length by omega)]
 simp only []
 rw [if_pos (by rw [eqR_iff.2 e];simp)]
theorem cmpTo_new {l:List RfB} {n:Nat} (h:n+1<l.length) (e:l[n+1]≠l[n]):cmpTo l (n+1+1)=cmpTo l (n+1)++[l[n+1]]:=by
 rw [cmpTo,Nat.add_sub_cancel,List.getElem?_eq_getElem h,List.getElem?_eq_getElem (show n<l.length by omega)]
 simp only []
 rw [if_neg (fun hc=>?_)]
 simp only [Bool.and_eq_true] at hc
 exact e (eqR_iff.1 hc.2)
theorem aGr {l:List RfB} (h:0<l.length):cmpTo l 1=[l[0]]:=by
 rw [cmpTo,List.getElem?_eq_getElem (i:=0) h]
 simp only []
 rw [if_neg (by simp)]
 rfl
theorem cmpTo_take {l:List RfB}:∀ (n:Nat),n≤l.length→(∀ k (_:k+1<n) (h2:k+1<l.length),l[k+1]≠l[k])→cmpTo l n=l.take n
 | 0,_,_=>by simp [cmpTo]
 | 1,h,_=>by
   rw [aGr h]
   have:=List.take_succ_eq_append_getElem (l:=l) (i:=0) h
   simpa using this.symm
 | n+2,h,hd=>by
   rw [cmpTo_new (by omega) (hd n (by omega) (by omega)),cmpTo_take (n+1) (by omega) (fun k hk h2=>hd k (by omega) h2),List.take_succ_eq_append_getElem (i:=n+1) (by omega)]
theorem aGs {l:List RfB} {x:RfB}:∀ (n:Nat),n≤l.length→(x∈cmpTo l n↔x∈l.take n)
 | 0,_=>by simp [cmpTo]
 | 1,h=>by
   rw [aGr h]
   have:=List.take_succ_eq_append_getElem (l:=l) (i:=0) h
   rw [show (1:Nat)=0+1 from rfl,this]
   simp
 | n+2,h=>by
   have ih:=aGs (l:=l) (x:=x) (n+1) (by omega)
   have ht:=List.take_succ_eq_append_getElem (l:=l) (i:=n+1) (by omega)
   rw [ht,List.mem_append,←ih,List.mem_singleton]
   by_cases e:l[n+1]=l[n]
   ·rw [cmpTo_same (by omega) e]
    refine ⟨.inl,fun hx=>?_⟩
    rcases hx with hx | rfl
    ·exact hx
    ·rw [ih,e]
     exact List.mem_take_iff_getElem.2 ⟨n,Nat.lt_min.2 ⟨by omega,by omega⟩,rfl⟩
   ·rw [cmpTo_new (by omega) e,List.mem_append,List.mem_singleton]
theorem aKx {l:List RfB} (hs:l.Pairwise fun x y=>ordR x y≤0):∀ (n:Nat),n≤l.length→Asc (cmpTo l n)
 | 0,_=>List.Pairwise.nil
 | 1,h=>by
   rw [aGr h]
   exact List.pairwise_singleton _ _
 | n+2,h=>by
   have ih:=aKx hs (n+1) (by omega)
   by_cases e:l[n+1]=l[n]
   ·rw [cmpTo_same (by omega) e]
    exact ih
   ·rw [cmpTo_new (by omega) e]
    refine List.pairwise_append.2 ⟨ih,List.pairwise_singleton _ _,fun x hx y hy=>?_⟩
    have hy:=List.mem_singleton.1 hy
    subst hy
    rw [aGs (n+1) (by omega)] at hx
    obtain ⟨i,hi,rfl⟩:=List.mem_take_iff_getElem.1 hx
    have hp:=List.pairwise_iff_getElem.1 hs
    have h1:ordR l[n] l[n+1]<0:=by
     have h2:=hp n (n+1) (by omega) (by omega) (by omega)
     have h3:ordR l[n] l[n+1]≠0:=fun e'=>e ((ordR_zero _ _).1 e').symm
     omega
    rcases Nat.lt_or_ge i n with hin | hin
    ·exact aTv _ _ _ (hp i n (by omega) (by omega) hin) h1
    ·have:i=n:=by omega
     subst this
     exact h1
theorem cmpTo_sortU {l d:List RfB} (hp:d.Perm l) (hs:d.Pairwise fun x y=>ordR x y≤0):cmpTo d d.length=sortU l:=by
 refine aRr _ _ (aKx hs _ (Nat.le_refl _)) (aRq l) fun x=>?_
 rw [aGs _ (Nat.le_refl _),aRp,List.take_length]
 exact hp.mem_iff
def near (sp:ByteArray) (r:RfB):RfB:=if e0 r.space&&(decide (r.kind≠1)&&decide (r.kind≠2)) then { r with space:=sp } else r
def rawGw (o:OB):List RfB:=⟨1,nil,o.cls⟩::(o.lis.filter fun l=>l.tls).map fun l=>l.cert
def rawRt (o:OB):List RfB:=⟨2,nil,o.ref.space⟩::((o.pars.map fun p=>⟨5,p.space,p.name⟩)++o.rules.flatMap fun r=>r.bs.map fun b=>b.ref)
def rawO (o:OB):List RfB:=if o.ref.kind=5 then rawGw o else if o.ref.kind=6 then rawRt o else []
def refsO (o:OB):List RfB:=if mayO o then sortU ((rawO o).map (near o.ref.space)) else []
end Ob
end Go.Proofs.YthfnjcbiiofkhaaGreatDoor
namespace Go.Proofs.YthfnjcbiiofkhaaGreatDoor
open Go Go.RowKit Go.Shelf
namespace Ob
theorem aKy {o:OB} (h:mayO o=true):mayRef o.ref=true∧mayK o=true:=by
 unfold mayO at h
 simpa [Bool.and_eq_true] using h
theorem may5 {o:OB} (h:mayO o=true) (hk:o.ref.kind=5):mayGw o=true:=by
 have:=(aKy h).2
 unfold mayK at this
 simpa [hk] using this
theorem may6 {o:OB} (h:mayO o=true) (hk:o.ref.kind=6):mayRt o=true:=by
 have:=(aKy h).2
 unfold mayK at this
 simpa [hk] using this
theorem gw_parts {o:OB} (h:mayGw o=true):o={ zO o.ref with cls:=o.cls,lis:=o.lis }∧isN o.cls=true∧cnt o.lis 1 8 mayLi=true∧dif nameLi o.lis=true:=by
 unfold mayGw at h
 simp only [Bool.and_eq_true,sameO_iff] at h
 exact h
theorem rt_parts {o:OB} (h:mayRt o=true):o={ zO o.ref with pars:=o.pars,hosts:=o.hosts,rules:=o.rules }∧cnt o.pars 0 4 mayPt=true∧dif eqP o.pars=true∧cnt o.hosts 0 4 mayHo=true∧dif eqS o.hosts=true∧cnt o.rules 0 6 mayRl=true:=by
 unfold mayRt at h
 simp only [Bool.and_eq_true,sameO_iff] at h
 exact h
abbrev less {α:Type} (l:List α) (k:Nat):List α:=l.take k++l.drop (k+1)
theorem refs_no {o:OB} (h:mayO o=false):refsO o=[]:=by
 unfold refsO
 rw [h]
 rfl
end Ob
end Go.Proofs.YthfnjcbiiofkhaaGreatDoor
namespace Go.Proofs.YthfnjcbiiofkhaaGreatDoor
open Go Go.RowKit Go.Shelf
theorem aI3 {g t:Nat} {post:List Value}:∀ (cs pre old:List Value) (W:World),W.heap[g]?=some (.cells (pre++old++post).toArray t)→old.length=cs.length→(setL W g pre.length cs).heap[g]?=some (.cells (pre++cs++post).toArray t)
 | [],pre,old,W,h,hl=>by
   have:old=[]:=List.eq_nil_of_length_eq_zero hl
   subst this
   exact h
 | c::cs,pre,old,W,h,hl=>by
   match old,hl with
   | o::old,hl =>
     have h1:(W.setCell ⟨g,pre.length,none⟩ c).heap[g]?=some (.cells ((pre++[c])++old++post).toArray t):=by
      obtain ⟨hlt,hk⟩:=Array.getElem?_eq_some_iff.1 h
      show (W.heap.modify g _)[g]?=_
      rw [Array.getElem?_eq_getElem (by rw [Array.size_modify];exact hlt),Array.getElem_modify_self,hk]
      simp
     have:=aI3 cs (pre++[c]) old (W.setCell ⟨g,pre.length,none⟩ c) h1 (by simpa using hl)
     rw [List.length_append,List.length_singleton] at this
     show (setL (W.setCell ⟨g,pre.length,none⟩ c) g (pre.length+1) cs).heap[g]?=_
     rw [this]
     simp
section
variable {α:Type} {E:Elem α}
structure aAl (E:Elem α) (w:World) (g t:Nat) (L:List α) (m:Nat):Prop where
 blk:∃ post,w.heap[g]?=some (.cells (E.flat L++post).toArray t)∧post.length=m
theorem aAl.below {w w':World} {g t m:Nat} {L:List α} (h:aAl E w g t L m) (hb:Below w.heap.size w w'):aAl E w' g t L m:=by
 obtain ⟨post,h,hp⟩:=h.blk
 exact ⟨post,aA0 h hb,hp⟩
theorem aAl.lt {w:World} {g t m:Nat} {L:List α} (h:aAl E w g t L m):g<w.heap.size:=by
 obtain ⟨post,h,_⟩:=h.blk
 exact aAn h
theorem aAl.at_ {w:World} {g t m:Nat} {L:List α} (h:aAl E w g t L m) {i:Nat} (hi:i<L.length):E.At w g (i*E.n) L[i]:=fun j u hu=>by
 obtain ⟨post,h,_⟩:=h.blk
 have hj:j<E.n:=by rw [←E.len L[i]];exact (List.getElem?_eq_some_iff.1 hu).1
 refine aA2 h ?_
 have hlt:i*E.n+j<(E.flat L).length:=by
  rw [E.flat_len]
  have:(i+1)*E.n≤L.length*E.n:=Nat.mul_le_mul_right _ hi
  rw [Nat.add_mul,Nat.one_mul] at this
  omega
 rw [List.getElem?_toArray,List.getElem?_append_left hlt,Elem.flat_at L i hi j hj]
 exact hu
theorem aAl.live {w:World} {g t m:Nat} {L:List α} (h:aAl E w g t L m) (i:Nat):w.frozen? ⟨g,i,none⟩=false:=by
 obtain ⟨post,h,_⟩:=h.blk
 exact aBg h i
theorem aTw (L:List α) {i:Nat} (hi:i<L.length):E.flat L=E.flat (L.take i)++E.cells L[i]++E.flat (L.drop (i+1)):=by
 have h:L=L.take i++[L[i]]++L.drop (i+1):=by
  rw [←List.take_succ_eq_append_getElem hi,List.take_append_drop]
 conv=>lhs;rw [h,Elem.flat_append,Elem.flat_append]
 simp [Elem.flat]
theorem aAl.store {w:World} {g t m:Nat} {L:List α} (h:aAl E w g t L m) {i:Nat} (hi:i<L.length) (x:α):aAl E (setL w g (i*E.n) (E.cells x)) g t (L.set i x) m:=by
 obtain ⟨post,h,hm⟩:=h.blk
 refine ⟨post,?_,hm⟩
 rw [aTw L hi,List.append_assoc] at h
 have hl:(E.flat (L.take i)).length=i*E.n:=by rw [E.flat_len,List.length_take,Nat.min_eq_left (by omega)]
 have h2:w.heap[g]?=some (.cells (E.flat (L.take i)++E.cells L[i]++(E.flat (L.drop (i+1))++post)).toArray t):=by rw [h]
 have:=aI3 (E.cells x) (E.flat (L.take i)) (E.cells L[i]) w h2 (by rw [E.len,E.len])
 rw [hl] at this
 rw [this]
 have e:L.set i x=L.take i++[x]++L.drop (i+1):=by
  rw [List.set_eq_take_append_cons_drop,if_pos hi]
  simp
 rw [e,Elem.flat_append,Elem.flat_append]
 simp [Elem.flat]
theorem aRs (L:List α) (i n:Nat):E.flat L=E.flat (L.take i)++E.flat ((L.drop i).take n)++E.flat (L.drop (i+n)):=by
 rw [←Elem.flat_append,←Elem.flat_append]
 congr 1
 rw [List.append_assoc,←List.drop_drop,List.take_append_drop,List.take_append_drop]
theorem aAl.storeMany {w:World} {g t m:Nat} {L:List α} (h:aAl E w g t L m) {i:Nat} (xs:List α) (hi:i+xs.length≤L.length):aAl E (setL w g (i*E.n) (E.flat xs)) g t (L.take i++xs++L.drop (i+xs.length)) m:=by
 obtain ⟨post,h,hm⟩:=h.blk
 refine ⟨post,?_,hm⟩
 rw [aRs L i xs.length] at h
 have hl:(E.flat (L.take i)).length=i*E.n:=by rw [E.flat_len,List.length_take,Nat.min_eq_left (by omega)]
 have h2:w.heap[g]?=some (.cells (E.flat (L.take i)++E.flat ((L.drop i).take xs.length)++(E.flat (L.drop (i+xs.length))++post)).toArray t):=by rw [h];simp
 have:=aI3 (E.flat xs) (E.flat (L.take i)) (E.flat ((L.drop i).take xs.length)) w h2 (by rw [E.flat_len,E.flat_len,List.length_take,List.length_drop,Nat.min_eq_left (by omega)])
 rw [hl] at this
 rw [this,Elem.flat_append,Elem.flat_append]
 simp
theorem aAl.of_own {w:World} {base t:Nat} {v:Value} {L:List α} (h:w.ownsRow base t E.n v L.length (E.flat L)) (hl:L≠[]):∃ g cap m,v=.slice (some ⟨g,0,none⟩) L.length cap∧base≤g∧L.length≤cap∧cap≤maxLen∧aAl E w g t L m:=by
 obtain ⟨_,h2⟩:=h
 rcases h2 with ⟨rfl,h0⟩ | ⟨g,cap,cur,rfl,hg,hgb,hle,hcm,hsz,hcur⟩
 ·exact absurd (List.eq_nil_of_length_eq_zero h0) hl
 ·refine ⟨g,cap,(cur.toList.drop (L.length*E.n)).length,rfl,hg,hle,hcm,⟨cur.toList.drop (L.length*E.n),?_,rfl⟩⟩
  rw [hgb,←hcur,List.take_append_drop]
theorem aAl.sl {w:World} {g t m cap:Nat} {L:List α} (h:aAl E w g t L m) (hA:∀ x∈L,E.A x w) {k:Nat} (hk:k≤L.length) (hc:k≤cap) (hm:cap≤maxLen):Sl E w (.slice (some ⟨g,0,none⟩) k cap) (L.take k):=by
 have hl:(L.take k).length=k:=by simp;omega
 refine ⟨_,cap,by rw [hl],by rw [hl];exact hc,hm,fun i hi=>?_⟩
 rw [hl] at hi
 have hi2:i<L.length:=by omega
 refine ⟨by rw [List.getElem_take];exact hA _ (List.getElem_mem hi2),g,0,rfl,h.lt,?_⟩
 rw [List.getElem_take,Nat.zero_add]
 exact h.at_ hi2
end
section
variable [Inhabited RfB]
theorem aMn (L:List RfB):Sort.flatK aBi 3 L.toArray=(ER.flat L).toArray:=by
 refine Sort.ext_get! ?_ fun t ht=>?_
 ·rw [Sort.size_flatK,List.size_toArray,List.size_toArray,ER.flat_len]
  rfl
 ·have ht':t<L.length*3:=by simpa using ht
  rw [Sort.get_flatK _ _ _ t (by simpa using ht')]
  have h3:t / 3<L.length:=by omega
  have hm:t % 3<3:=Nat.mod_lt _ (by decide)
  have:=Elem.flat_at (E:=ER) L (t / 3) h3 (t % 3) hm
  have e:t / 3*ER.n+t % 3=t:=by show t / 3*3+t % 3=t;omega
  rw [e] at this
  have e2:(ER.flat L).toArray[t]! = ((ER.flat L)[t]?).getD default:=by simp
  rw [e2,this]
  have e3:(aBi L.toArray[t / 3]!)[t % 3]! = ((aBi L[t / 3])[t % 3]?).getD default:=by
   rw [getElem!_pos L.toArray (t / 3) (by simpa using h3)]
   simp
  rw [e3]
  rfl
theorem aAl.holds {w:World} {g t m:Nat} {L:List RfB} (h:aAl ER w g t L m):Sort.HoldsK aBi 3 w g 0 L.toArray:=by
 unfold Sort.HoldsK
 rw [aMn]
 intro j hj
 have hj':j<(ER.flat L).length:=by simpa using hj
 obtain ⟨post,hb,_⟩:=h.blk
 rw [Nat.zero_add]
 refine ⟨aA2 hb ?_,aBg hb _⟩
 rw [List.getElem?_toArray,List.getElem?_append_left hj']
 simp [getElem!_pos,hj']
theorem aAl.put {w:World} {g t m:Nat} {L D:List RfB} (h:aAl ER w g t L m) (hl:D.length=L.length) (n:Nat) (os:Array Obj):aAl ER (sortWorldK aBi 3 w g 0 n D.toArray os) g t D m:=by
 obtain ⟨post,hb,hm⟩:=h.blk
 refine ⟨post,?_,hm⟩
 have hlt:=aAn hb
 unfold sortWorldK
 show (_++os)[g]?=_
 rw [Array.getElem?_append_left (by
  show g<(Sort.putRowK aBi 3 (Sort.ahead w n) g 0 D.toArray).heap.size
  rw [Sort.size_putRowK]
  exact hlt)]
 unfold Sort.putRowK Sort.putRow Sort.mapBlock
 rw [aMn]
 show (w.heap.modify g _)[g]?=_
 obtain ⟨h1,h2⟩:=Array.getElem?_eq_some_iff.1 hb
 rw [Array.getElem?_eq_getElem (by rw [Array.size_modify];exact h1),Array.getElem_modify_self,h2]
 congr 1
 show Obj.cells _ t=_
 congr 1
 have hz:(ER.flat D).length=(ER.flat L).length:=by rw [ER.flat_len,ER.flat_len,hl]
 refine Array.ext_getElem? fun j=>?_
 simp only [Sort.putCells,Array.getElem?_mapIdx,List.getElem?_toArray,Nat.zero_le,true_and,Nat.zero_add,Nat.sub_zero,id]
 by_cases hj:j<(ER.flat D).length
 ·rw [List.getElem?_append_left (by omega),List.getElem?_append_left hj,List.getElem?_eq_getElem (by omega:j<(ER.flat L).length),List.getElem?_eq_getElem hj]
  simp [hj]
 ·rw [List.getElem?_append_right (by omega),List.getElem?_append_right (by omega),hz]
  cases post[j - (ER.flat L).length]? with
  | none=>rfl
  | some u=>simp only [Option.map_some,List.size_toArray,if_neg hj]
theorem aMo {w:World} {g n:Nat} {D:Array RfB} {os:Array Obj} {B:Nat} (hB:B≤g) (hg:g<w.heap.size):Below B w (sortWorldK aBi 3 w g 0 n D os):=by
 unfold sortWorldK Sort.putRowK Sort.putRow Sort.mapBlock
 refine ⟨rfl,rfl,rfl,?_,fun k hk=>?_⟩
 ·show w.heap.size≤((w.heap.modify g _)++os).size
  rw [Array.size_append,Array.size_modify]
  omega
 ·show ((w.heap.modify g _)++os)[k]?=w.heap[k]?
  rw [Array.getElem?_append_left (by rw [Array.size_modify];omega),Array.getElem?_modify,if_neg (by omega)]
end
theorem aJ5 (x y:RfB):ltOf Ob.ordR x y=decide (Ob.ordR x y<0):=rfl
theorem aW6:Sort.SWO (ltOf Ob.ordR) where
 irrefl x:=by rw [aJ5,Ob.ordR_self];rfl
 trans x y z h1 h2:=by
  rw [aJ5,decide_eq_true_eq] at *
  exact Ob.ordR_lt x y z h1 (by omega)
 ntrans x y z h1 h2:=by
  rw [aJ5,decide_eq_false_iff_not] at *
  have e1:=Ob.ordR_anti x y
  have e2:=Ob.ordR_anti y z
  have e3:=Ob.ordR_anti x z
  have:=Ob.ordR_trans z y x (by omega) (by omega)
  omega
theorem aO0 [Inhabited RfB] {L:List RfB} {d:Array RfB} (hp:Sort.PermIn 0 L.length L.toArray d) (hs:Sort.SortedIn (ltOf Ob.ordR) 0 L.length d):d.toList.Perm L∧(d.toList.Pairwise fun x y=>Ob.ordR x y≤0)∧d.toList.length=L.length:=by
 obtain ⟨h1,_,h3⟩:=hp
 have hl:d.toList.length=L.length:=by simpa using h1
 have e0:d.size=L.length:=by simpa using h1
 have e1:d.extract 0 L.length=d:=by
  rw [←e0]
  simp
 have e2:L.toArray.extract 0 L.length=L.toArray:=by simp
 rw [e1,e2] at h3
 refine ⟨by simpa using h3,?_,hl⟩
 rw [List.pairwise_iff_getElem]
 intro i j hi hj hij
 have hj':j<d.size:=by simpa using hj
 have hi':i<d.size:=by simpa using hi
 have:=hs i j (Nat.zero_le _) hij (by rw [←e0];exact hj')
 rw [aJ5,decide_eq_false_iff_not,getElem!_pos d j hj',getElem!_pos d i hi'] at this
 have e:=Ob.ordR_anti d[i] d[j]
 rw [Array.getElem_toList,Array.getElem_toList]
 omega
end Go.Proofs.YthfnjcbiiofkhaaGreatDoor
