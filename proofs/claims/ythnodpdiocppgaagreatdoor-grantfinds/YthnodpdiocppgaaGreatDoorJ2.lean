/-
  What all layers' walks lean on: a few aHa facts; the library's HasPrefix, HasSuffix, Compare, cmp.Compare at int; a law for regions that draw their order and call what makes memory of its own.
-/
import Derived.Test.YthnodpdiocppgaaGreatDoorRows
import Derived.Below
import Derived.WalkKit
import Derived.WalkSpells
import Derived.WalkLawsBesides
import Derived.Lib.Bytealg
import Derived.Lib.Strings
import Derived.Shelf.Abstract
import Derived.Deep.QuietTactic
import Derived.BigQuiet
import Derived.Maps.AppendAt
import Derived.ProofKit
import Derived.Lib.AppendStr
import Derived.Deep.AppendLies
import Derived.Laws.IdiomStrings
import Derived.Laws.BytesArg
import Derived.Deep.SlicePairs
import Derived.Deep.Strs
import Derived.OrdersHeld
import Derived.Deep.Quiet
import Derived.Deep.Slices
set_option maxHeartbeats 800000
set_option maxRecDepth 20000
namespace Go.Proofs.YthnodpdiocppgaaGreatDoor
open Go Go.RowKit Go.Shelf
theorem zzB {α:Type} (l:List α) (i:Nat) (a:α) :l.toArray.setIfInBounds i a=(l.set i a).toArray:=List.setIfInBounds_toArray l i a
theorem zzC {α:Type} {x:α} {xs:List α} {a:α} :(x::xs).set 0 a=a::xs:=rfl
theorem zzD {α:Type} {x:α} {xs:List α} {i:Nat} {a:α} :(x::xs).set (i+1) a=x::xs.set i a:=rfl
theorem zzE {a b:Int} (h:a≠b) :(a==b)=false:=beq_eq_false_iff_ne.2 h
theorem hide {p:Prop} (h:p):Hid p:=h
theorem aA1 {a b:Bool} (h:a=b):Ending.returned (.bool a)=.returned (.bool b):=by rw [h]
theorem aAp {k:IntKind} {a b:Int} (h:a=b):Ending.returned (.int k a)=.returned (.int k b):=by rw [h]
theorem aH2 {a b:ByteArray} (h:a=b):Ending.returned (.string a)=.returned (.string b):=by rw [h]
theorem aA7 (w:World) (o:Obj):(w.alloc o).heap[w.heap.size]?=some o:=by
 show (w.heap.push o)[w.heap.size]?=_
 simp
theorem aBc {s:ByteArray} (h:s.size≤1000):s.size≤maxLen:=by unfold maxLen;omega
theorem aJ4 (s p:ByteArray) (w:World) (hs:s.size≤maxLen) (hp:p.size≤maxLen) :
  Calls Tryz.prog 247 #[.string s,.string p] w fun e w'=>e=.returned (.bool (Lib.hasSuffix s.data.toList p.data.toList))∧w'=w:=by
 have hx:=hide (Lib.hasSuffix_raw s p)
 unfold maxLen at hs hp
 by_cases hle:p.size≤s.size
 ·go_enter Tryz.func247,Tryz.ntmps247
  go_wp2
  go_ret
  refine ⟨aA1 ?_,rfl⟩
  rw [←hx.out,decide_eq_true hle,Bool.true_and]
 ·go_enter Tryz.func247,Tryz.ntmps247
  go_wp2
  go_ret
  refine ⟨aA1 ?_,rfl⟩
  rw [←hx.out,decide_eq_false hle,Bool.false_and]
theorem aGl (s p:ByteArray) (w:World) (hs:s.size≤maxLen) (hp:p.size≤maxLen) :
  Calls Tryz.prog 235 #[.string s,.string p] w fun e w'=>e=.returned (.bool (Lib.hasSuffix s.data.toList p.data.toList))∧w'=w:=by
 go_enter Tryz.func235,Tryz.ntmps235
 go_wp2_with (go_at_call 247;refine (aJ4 _ _ _ hs hp).mono ?_;rintro e w' ⟨rfl,rfl⟩)
 go_ret
 exact ⟨rfl,rfl⟩
theorem aDx (s p:ByteArray) (w:World) (_hs:s.size≤maxLen) (_hp:p.size≤maxLen) :
  Calls Tryz.prog 230 #[.string s,.string p] w fun e w'=>e=.returned (.bool (Lib.hasPrefix s.data.toList p.data.toList))∧w'=w:=by
 have hx:=hide (Lib.hasPrefix_raw s p)
 by_cases hle:p.size≤s.size
 ·go_enter Tryz.func230,Tryz.ntmps230
  go_wp2
  go_ret
  refine ⟨aA1 ?_,rfl⟩
  rw [←hx.out,decide_eq_true hle,Bool.true_and]
 ·go_enter Tryz.func230,Tryz.ntmps230
  go_wp2
  go_ret
  refine ⟨aA1 ?_,rfl⟩
  rw [←hx.out,decide_eq_false hle,Bool.false_and]
theorem aE9 (s p:ByteArray) (w:World) (hs:s.size≤maxLen) (hp:p.size≤maxLen) :
  Calls Tryz.prog 233 #[.string s,.string p] w fun e w'=>e=.returned (.bool (Lib.hasPrefix s.data.toList p.data.toList))∧w'=w:=by
 go_enter Tryz.func233,Tryz.ntmps233
 go_wp2_with (go_at_call 230;refine (aDx _ _ _ hs hp).mono ?_;rintro e w' ⟨rfl,rfl⟩)
 go_ret
 exact ⟨rfl,rfl⟩
theorem aPp (a:Int) (w:World) :
  Calls Tryz.prog 179 #[.int .i64 a] w fun e w'=>e=.returned (.bool false)∧w'=w:=by
 go_enter Tryz.func179,Tryz.ntmps179
 go_wp2
 go_ret
 exact ⟨aA1 (by simp),rfl⟩
structure GB (w:World) where
 W:World
 h:Below w.heap.size w W
theorem aAu {w:World} {p:Prop}:(GB w→p)↔p:=⟨fun h=>h ⟨w,Below.refl _ _⟩,fun h _=>h⟩
theorem aA6 {P:Program} {id:Nat} {Q:Exit→Act→World→Prop} {a:Act} {w:World} {l:List Oper} (hm:P.follows .mixedOrders=true) (hB:Region.lexB .any l.toArray=true)
  (h:wpQuiet P l.toArray (fun w'=>∃ p:GB w,w'=p.W) (fun a'=>∀ w',(∃ p:GB w,w'=p.W)→Q .normal a' w') l a):(Code.region id l.toArray true).wp P Q a w :=
 wp_region_quiet (C:=fun w'=>∃ p:GB w,w'=p.W) hm hB ⟨⟨w.drew,(Below.refl _ w).drew⟩,rfl⟩ (by simpa using h)
theorem aA3 {P:Program} {f:FuncId} {args:Array Value} {w:World} {p:GB w} {v:Value}
  (h:Calls P f args p.W fun e w'=>e=.returned v∧Below p.W.heap.size p.W w'):Calls P f args p.W fun e w''=>e=.returned v∧∃ q:GB w,w''=q.W :=
 h.mono fun _ w' ⟨he,hb⟩=>⟨he,⟨w',p.h.trans (hb.mono p.h.size)⟩,rfl⟩
theorem aA5 {P:Program} {f:FuncId} {args:Array Value} {w:World} {v:Value}
  (h:Calls P f args w fun e w'=>e=.returned v∧Below w.heap.size w w'):Calls P f args w fun e w''=>e=.returned v∧∃ q:GB w,w''=q.W :=
 h.mono fun _ w' ⟨he,hb⟩=>⟨he,⟨w',hb⟩,rfl⟩
def fewB (s:ByteArray):ByteArray:=if 100<s.size then s.extract 0 100 else s
theorem aBe (s:ByteArray):(fewB s).size≤100:=by
 unfold fewB
 split
 ·rw [ByteArray.size_extract];omega
 ·omega
theorem aAw (s:ByteArray) (w:World) (hs:s.size≤maxLen) :
  Calls Tryz.prog 26 #[.string s] w fun e w'=>e=.returned (.string (fewB s))∧w'=w:=by
 unfold maxLen at hs
 by_cases h:100<s.size
 ·have HX:Hid (s.extract 0 100=fewB s):=by unfold Hid fewB;rw [if_pos h]
  go_enter Tryz.func26,Tryz.ntmps26
  go_wp2_with fail
  go_ret
  exact ⟨aH2 HX.out,rfl⟩
 ·have HX:Hid (s=fewB s):=by unfold Hid fewB;rw [if_neg h]
  go_enter Tryz.func26,Tryz.ntmps26
  go_wp2_with fail
  go_ret
  exact ⟨aH2 HX.out,rfl⟩
theorem aCp {a b:ByteArray} (h:(a.toList == b.toList)=true):a=b:=by
 rw [beq_iff_eq,Lib.toList_data,Lib.toList_data] at h
 rw [←Lib.mk_data a,h,Lib.mk_data]
theorem aJk {a b:ByteArray} (h:a.data.toList=b.data.toList):a=b:=by rw [←Lib.mk_data a,h,Lib.mk_data]
theorem aHq (a b:ByteArray):(a++b).data.toList=a.data.toList++b.data.toList:=by simp [ByteArray.data_append]
theorem aHr (g j:Nat):(⟨g,0,none⟩:Addr).add j=⟨g,j,none⟩:=by
 cases j with
 | zero=>rfl
 | succ j=>simp [Addr.add]
theorem aA8 {w w1:World} {o:Obj} (h:Below (w.alloc o).heap.size (w.alloc o) w1):Below w.heap.size w w1 :=
 ((Below.refl _ _).alloc (Nat.le_refl _) _).trans (h.mono (by simp))
theorem bb2 {a b c:World} (h:Below a.heap.size a b) (k:Below b.heap.size b c):Below a.heap.size a c:=h.trans (k.mono h.size)
theorem aFt (s:ByteArray) (k:Nat) (h:k<s.size):s.data.toList.take (k+1)=s.data.toList.take k++[s[k]]:=by
 rw [List.take_succ_eq_append_getElem (by simpa using h)];rfl
theorem aAe {w:World} {base:Nat} {e:TypeId} {size:Nat} {v:Value} {n:Nat} {xs:List Value} (h:w.ownsRow base e size v n xs) {g:Nat} (hg:v.ownBlock=some g):base≤g:=by
 rcases h.2 with ⟨rfl,_⟩ | ⟨g',cap,cur,rfl,hb,_⟩
 ·simp [Value.ownBlock] at hg
 ·obtain rfl:g'=g:=by simpa [Value.ownBlock] using hg
  exact hb
theorem aEt {w:World} {base base':Nat} {e:TypeId} {size:Nat} {v:Value} {n:Nat} {xs:List Value} (h:w.ownsRow base e size v n xs) (hb:base'≤base):w.ownsRow base' e size v n xs:=by
 obtain ⟨h1,h2⟩:=h
 refine ⟨h1,?_⟩
 rcases h2 with h2 | ⟨g,cap,cur,hv,hg,r⟩
 ·exact .inl h2
 ·exact .inr ⟨g,cap,cur,hv,by omega,r⟩
theorem aA4 {w w':World} {base:Nat} {e:TypeId} {size:Nat} {v:Value} {n:Nat} {xs:List Value} (h:w.ownsRow base e size v n xs) (hb:Below w.heap.size w w'):w'.ownsRow base e size v n xs:=by
 obtain ⟨h1,h2⟩:=h
 refine ⟨h1,?_⟩
 rcases h2 with h2 | ⟨g,cap,cur,hv,hg,hh,r⟩
 ·exact .inl h2
 ·exact .inr ⟨g,cap,cur,hv,hg,(hb.block g (Array.getElem?_eq_some_iff.1 hh).1).trans hh,r⟩
theorem aKr {w:World} {base:Nat} {e:TypeId} {size:Nat} {v:Value} {n:Nat} {xs:List Value} (h:w.ownsRow base e size v n xs):w.drew.ownsRow base e size v n xs:=h
theorem aJ5 {w:World} {base g n cap j:Nat} {xs:List Value} (h:w.ownsRow base 9 1 (.slice (some ⟨g,0,none⟩) n cap) n xs) (u:Value) :
  (w.setCell ⟨g,j,none⟩ u).ownsRow base 9 1 (.slice (some ⟨g,0,none⟩) n cap) n (xs.set j u):=by
 obtain ⟨h1,h2⟩:=h
 refine ⟨by simpa using h1,?_⟩
 rcases h2 with ⟨h2,_⟩ | ⟨g',cap',cur,hv,hg,hh,hn,hc,hs,hx⟩
 ·cases h2
 ·obtain ⟨rfl,rfl⟩:g'=g∧cap'=cap:=by
   injection hv with a1 a2 a3
   injection a1 with a1
   injection a1 with a1
   exact ⟨a1.symm,a3.symm⟩
  refine Or.inr ⟨g',cap',cur.setIfInBounds j u,rfl,hg,?_,hn,hc,by simpa using hs,?_⟩
  ·obtain ⟨hlt,hk'⟩:=Array.getElem?_eq_some_iff.1 hh
   show (w.heap.modify g' _)[g']?=_
   rw [Array.getElem?_eq_getElem (by rw [Array.size_modify];exact hlt),Array.getElem_modify_self,hk']
   rfl
  ·rw [←hx]
   simp only [Nat.mul_one]
   rw [Array.toList_setIfInBounds,List.take_set]
theorem aKs {w:World} {base g n cap j:Nat} {xs:List Value} (h:w.ownsRow base 9 1 (.slice (some ⟨g,0,none⟩) n cap) n xs) (hj:j<n) {u:Value} (hu:xs[j]?=some u) :
  w.cell? ⟨g,j,none⟩=some u∧w.frozen? ⟨g,j,none⟩=false∧base≤g:=by
 obtain ⟨h1,h2⟩:=h
 rcases h2 with ⟨h2,_⟩ | ⟨g',cap',cur,hv,hg,hh,hn,hc,hs,hx⟩
 ·cases h2
 ·obtain ⟨rfl,rfl⟩:g'=g∧cap'=cap:=by
   injection hv with a1 a2 a3
   injection a1 with a1
   injection a1 with a1
   exact ⟨a1.symm,a3.symm⟩
  have hcj:cur[j]?=some u:=by
   rw [←hx] at hu
   simp only [Nat.mul_one] at hu
   rw [List.getElem?_take_of_lt hj] at hu
   simpa using hu
  refine ⟨by simp [World.cell?,hh,hcj],by simp [World.frozen?,hh],hg⟩
theorem aB7 {w w1:World} {o:Obj} (h:Below (w.alloc o).heap.size (w.alloc o) w1):w1.heap[w.heap.size]?=some o:=by
 rw [h.block _ (by simp)]
 show (w.heap.push o)[w.heap.size]?=_
 simp
theorem aH3 {w w1:World} {a b:Value} {t:Nat} (h:Below (w.alloc (.cells #[a,b] t)).heap.size (w.alloc (.cells #[a,b] t)) w1):w1.cell? ⟨w.heap.size,0,none⟩=some a:=by
 simp only [World.cell?];rw [aB7 h];rfl
theorem aD5 {w w1:World} {a b:Value} {t:Nat} (h:Below (w.alloc (.cells #[a,b] t)).heap.size (w.alloc (.cells #[a,b] t)) w1):w1.cell? ⟨w.heap.size,1,none⟩=some b:=by
 simp only [World.cell?];rw [aB7 h];rfl
theorem aEk {w:World} {n m i:Nat} {x:Value} (h:m≠n):(w.setCell ⟨n,i,none⟩ x).heap[m]?=w.heap[m]?:=Below.heap_setCell _ _ _ _ h
theorem aFi (a b:ByteArray):(a.toList == b.toList)=decide (a=b):=by
 cases h:(a.toList == b.toList)
 ·exact (decide_eq_false (fun e=>by rw [e] at h;simp at h)).symm
 ·exact (decide_eq_true (aCp h)).symm
theorem Tryz.cells9:Tryz.prog.cellsOf 9=1:=by kernel_rfl
theorem Tryz.laidOut:laidOutB Tryz.prog=true:=by kernel_rfl
theorem Tryz.info9:(Tryz.prog.info? 9).map (fun i=>(i.zero,i.size,i.bytes))=some (some (.string ⟨#[]⟩),1,16):=by kernel_rfl
end Go.Proofs.YthnodpdiocppgaaGreatDoor
namespace Go.Proofs.YthnodpdiocppgaaGreatDoor
open Go Go.RowKit Go.Shelf Go.ChangeShapes Go.WideShapes Go.Deep
abbrev aAa:=ByteArray × ByteArray
def okP (p:aAa):Prop:=p.1.size≤maxLen∧p.2.size≤maxLen
def Prs (w:World) (v:Value) (l:List aAa):Prop :=
 ∃ a cap,v=.slice a l.length cap∧l.length≤cap∧cap≤maxLen ∧
   ∀ i (h:i<l.length),∃ g off,a=some ⟨g,off,none⟩∧g<w.heap.size∧w.cell? ⟨g,off+i*2,none⟩=some (.string l[i].1)∧w.cell? ⟨g,off+i*2+1,none⟩=some (.string l[i].2)
theorem Prs.below {w w':World} {v:Value} {l:List aAa} (h:Prs w v l) (hb:Below w.heap.size w w'):Prs w' v l:=by
 obtain ⟨a,cap,hv,h1,h2,hc⟩:=h
 refine ⟨a,cap,hv,h1,h2,fun i hi=>?_⟩
 obtain ⟨g,off,hg,hlt,c1,c2⟩:=hc i hi
 exact ⟨g,off,hg,Nat.lt_of_lt_of_le hlt hb.size,(hb.cell (p:=⟨g,off+i*2,none⟩) hlt).trans c1,(hb.cell (p:=⟨g,off+i*2+1,none⟩) hlt).trans c2⟩
theorem Prs.nil (w:World):Prs w (.slice none 0 0) []:=⟨none,0,rfl,Nat.le_refl _,Nat.zero_le _,fun i hi=>absurd hi (by simp)⟩
theorem Prs.len {w:World} {v:Value} {l:List aAa} (h:Prs w v l):l.length≤9223372036854775807:=by
 obtain ⟨_,_,_,h1,h2,_⟩:=h
 unfold maxLen at h2
 omega
def flat (l:List aAa):List Value:=l.flatMap fun p=>[.string p.1,.string p.2]
theorem flat_append (a b:List aAa):flat (a++b)=flat a++flat b:=by simp [flat]
theorem flat_len (l:List aAa):(flat l).length=l.length*2:=by
 induction l with
 | nil=>rfl
 | cons p l ih =>
   show ([Value.string p.1,Value.string p.2]++flat l).length=_
   rw [List.length_append,ih]
   simp
   omega
theorem flat_at:∀ (l:List aAa) (i:Nat) (h:i<l.length),(flat l)[i*2]?=some (.string l[i].1)∧(flat l)[i*2+1]?=some (.string l[i].2)
 | p::l,0,_=>⟨rfl,rfl⟩
 | p::l,i+1,h=>by
   have:=flat_at l i (by simpa using h)
   have e:flat (p::l)=.string p.1::.string p.2::flat l:=rfl
   rw [e,Nat.add_mul]
   exact this
theorem flat_one (l:List aAa):∀ u∈flat l,u.oneCell'=true:=by
 intro u hu
 obtain ⟨p,_,hp⟩:=List.mem_flatMap.1 hu
 simp at hp
 rcases hp with rfl | rfl<;>rfl
theorem Prs.of_row {w:World} {base:Nat} {v:Value} {l:List aAa} {n:Nat} (hn:n=l.length) (h:w.ownsRow base 96 2 v n (flat l)):Prs w v l:=by
 subst hn
 obtain ⟨_,h2⟩:=h
 rcases h2 with ⟨rfl,h0⟩ | ⟨g,cap,cur,rfl,hg,hgb,hle,hcm,hsz,hcur⟩
 ·have:l=[]:=List.eq_nil_of_length_eq_zero h0
  subst this
  exact Prs.nil w
 ·refine ⟨some ⟨g,0,none⟩,cap,rfl,hle,hcm,fun i hi=>⟨g,0,rfl,(Array.getElem?_eq_some_iff.1 hgb).1,?_,?_⟩⟩
  ·have h1:=(flat_at l i hi).1
   rw [←hcur,List.getElem?_take_of_lt (by omega)] at h1
   simp [World.cell?,hgb]
   simpa using h1
  ·have h1:=(flat_at l i hi).2
   rw [←hcur,List.getElem?_take_of_lt (by omega)] at h1
   simp [World.cell?,hgb]
   simpa using h1
theorem Tryz.infoPair:(Tryz.prog.info? 96).map (fun i=>(i.zero,i.size,i.bytes))=some (some (.agg #[.string ⟨#[]⟩,.string ⟨#[]⟩]),2,32):=by kernel_rfl
theorem Prs.lit1 (w:World) (a b:ByteArray):Prs (w.alloc (.cells #[.string a,.string b] 96)) (.slice (some ⟨w.heap.size,0,none⟩) 1 1) [(a,b)]:=by
 refine ⟨_,1,rfl,Nat.le_refl _,by decide,fun i hi=>⟨w.heap.size,0,rfl,by simp,?_,?_⟩⟩
 all_goals
  have:i=0:=by simpa using hi
  subst this
  (simp only [World.cell?];rw [aA7];rfl)
theorem Prs.at1 (w:World) (n:Nat) (h:w.heap.size=n) (a b:ByteArray):Prs (w.alloc (.cells #[.string a,.string b] 96)) (.slice (some ⟨n,0,none⟩) 1 1) [(a,b)]:=by
 subst h
 exact Prs.lit1 w a b
theorem flat_inv (l:List aAa) (j:Nat) (u:Value) (h:(flat l)[j]?=some u):∃ i,∃ hi:i<l.length,(j=i*2∧u=.string l[i].1)∨(j=i*2+1∧u=.string l[i].2):=by
 have hj:j<l.length*2:=by rw [←flat_len];exact (List.getElem?_eq_some_iff.1 h).1
 have hi:j / 2<l.length:=by omega
 obtain ⟨h1,h2⟩:=flat_at l (j / 2) hi
 rcases (by omega:j=j / 2*2∨j=j / 2*2+1) with e | e
 ·rw [←e,h] at h1
  exact ⟨j / 2,hi,.inl ⟨e,Option.some.inj h1⟩⟩
 ·rw [←e,h] at h2
  exact ⟨j / 2,hi,.inr ⟨e,Option.some.inj h2⟩⟩
theorem Prs.news {w:World} {ad:Addr} {n c:Nat} {l:List aAa} (h:Prs w (.slice (some ad) n c) l):∀ j u,(flat l)[j]?=some u→w.cell? (ad.add j)=some u:=by
 intro j u hu
 obtain ⟨i,hi,hc⟩:=flat_inv l j u hu
 obtain ⟨a,cap,hv,_,_,hcell⟩:=h
 obtain ⟨g,off,ha,_,c1,c2⟩:=hcell i hi
 subst ha
 injection hv with e1
 injection e1 with e1
 subst e1
 rw [add_plain]
 rcases hc with ⟨rfl,rfl⟩ | ⟨rfl,rfl⟩
 ·exact c1
 ·exact c2
theorem Prs.sub {w:World} {g off n c:Nat} {l:List aAa} (h:Prs w (.slice (some ⟨g,off,none⟩) n c) l) (k m c':Nat) (hm:k+m≤l.length) (hc:m≤c') (hc':c'≤maxLen):Prs w (.slice (some ⟨g,off+k*2,none⟩) m c') ((l.drop k).take m):=by
 obtain ⟨a,cap,hv,_,_,hcell⟩:=h
 injection hv with e1
 subst e1
 have hl:((l.drop k).take m).length=m:=by simp;omega
 refine ⟨_,c',by rw [hl],by rw [hl];exact hc,hc',fun i hi=>?_⟩
 rw [hl] at hi
 obtain ⟨g',off',ha,hg,c1,c2⟩:=hcell (k+i) (by omega)
 injection ha with ha
 injection ha with ha1 ha2
 subst ha1 ha2
 refine ⟨g,off+k*2,rfl,hg,?_,?_⟩
 ·have e:off+(k+i)*2=off+k*2+i*2:=by omega
  rw [e] at c1
  simpa using c1
 ·have e:off+(k+i)*2+1=off+k*2+i*2+1:=by omega
  rw [e] at c2
  simpa using c2
theorem aPq (w:World) (va vb:Value) (xs ys:List aAa) (ha:Prs w va xs) (hb:Prs w vb ys) (hne:xs.length≠ys.length) :
  Calls Tryz.prog 31 #[va,vb] w fun e w'=>e=.returned (.bool (decide (xs=ys)))∧Below w.heap.size w w':=by
 obtain ⟨a,ca,rfl,_,_,hca⟩:=ha
 obtain ⟨b,cb,rfl,_,_,hcb⟩:=hb
 have hd:Hid (decide (xs=ys)=false):=decide_eq_false (fun e=>hne (by rw [e]))
 have hx:((xs.length:Int) != (ys.length:Int))=true:=by rw [bne_iff_ne];omega
 clear hca hcb
 go_enter Tryz.func31,Tryz.ntmps31
 go_wp2_with fail
 go_ret
 exact ⟨aA1 hd.out.symm,Below.refl _ _⟩
theorem aGo (w:World) (va vb:Value) (xs ys:List aAa) (ha:Prs w va xs) (hb:Prs w vb ys) :
  Calls Tryz.prog 31 #[va,vb] w fun e w'=>e=.returned (.bool (decide (xs=ys)))∧Below w.heap.size w w':=by
 by_cases hnn:¬ xs.length=ys.length
 ·exact aPq w va vb xs ys ha hb hnn
 have hne:xs.length=ys.length:=Classical.not_not.1 hnn
 clear hnn
 have hl:=ha.len
 obtain ⟨a,ca,rfl,_,_,hca⟩:=ha
 obtain ⟨b,cb,rfl,_,_,hcb⟩:=hb
 have hx:((xs.length:Int) != (ys.length:Int))=false:=by rw [bne_eq_false_iff_eq];omega
 have HN:=hide hne
 have HA:=hide hca
 have HB:=hide hcb
 clear hne hca hcb
 go_enter Tryz.func31,Tryz.ntmps31
 go_wp2_with fail
 go_loopw [5] (fun i wr=>∃ k:Nat,k≤xs.length∧i=.int .i64 k∧Hid (xs.take k=ys.take k)∧Below w.heap.size w wr) (fun i _=>xs.length - (intOf i).toNat)
 case atStart=>exact ⟨0,Nat.zero_le _,rfl,rfl,Below.refl _ _⟩
 case round =>
  obtain ⟨k,hk,rfl,htk,hB⟩:=hrel
  by_cases hlt:k<xs.length
  ·have hlb:k<ys.length:=by rw [←HN.out];exact hlt
   obtain ⟨ga,oa,rfl,hga,a1,a2⟩:=HA.out k hlt
   obtain ⟨gb,ob,rfl,hgb,b1,b2⟩:=HB.out k hlb
   replace a1:=(hB.cell (p:=⟨ga,oa+k*2,none⟩) hga).trans a1
   replace a2:=(hB.cell (p:=⟨ga,oa+k*2+1,none⟩) hga).trans a2
   replace b1:=(hB.cell (p:=⟨gb,ob+k*2,none⟩) hgb).trans b1
   replace b2:=(hB.cell (p:=⟨gb,ob+k*2+1,none⟩) hgb).trans b2
   have hlt':(k:Int)<(xs.length:Int):=by omega
   have hlb':(k:Int)<(ys.length:Int):=by omega
   have HX:Hid (xs[k]=(xs[k].1,xs[k].2)):=rfl
   have HY:Hid (ys[k]=(ys[k].1,ys[k].2)):=rfl
   have HEQ:Hid (∀ j (h1:j<xs.length) (h2:j<ys.length),xs=ys→xs[j]=ys[j]):=by
    intro j h1 h2 e;subst e;rfl
   generalize hx1:xs[k].1=x1 at *
   generalize hx2:xs[k].2=x2 at *
   generalize hy1:ys[k].1=y1 at *
   generalize hy2:ys[k].2=y2 at *
   cases hq1:(x1.toList == y1.toList)
   ·have hqe:Hid (decide (xs=ys)=false):=by
     apply decide_eq_false
     intro e
     have:=HEQ.out k hlt hlb e
     rw [HX.out,HY.out] at this
     rw [(Prod.mk.inj this).1] at hq1
     simp at hq1
    go_wp2_with fail
    go_region
    go_wp2_with fail
    go_ret
    exact ⟨aA1 hqe.out.symm,hB.drew⟩
   ·cases hq2:(x2.toList == y2.toList)
    ·have hqe:Hid (decide (xs=ys)=false):=by
      apply decide_eq_false
      intro e
      have:=HEQ.out k hlt hlb e
      rw [HX.out,HY.out] at this
      rw [(Prod.mk.inj this).2] at hq2
      simp at hq2
     go_wp2_with fail
     go_region
     go_wp2_with fail
     go_ret
     exact ⟨aA1 hqe.out.symm,hB.drew⟩
    ·have hqe:Hid (xs[k]=ys[k]):=by
      unfold Hid
      rw [HX.out,HY.out,aCp hq1,aCp hq2]
     go_wp2_with fail
     go_region
     go_wp2_with fail
     refine ⟨⟨k+1,by omega,by go_num,?_,hB.drew⟩,by simp [intOf];omega⟩
     unfold Hid
     rw [List.take_succ_eq_append_getElem hlt,List.take_succ_eq_append_getElem hlb,htk.out,hqe.out]
  ·have hqe:Hid (decide (xs=ys)=true):=by
    apply decide_eq_true
    have:=htk.out
    rwa [List.take_of_length_le (by omega),List.take_of_length_le (by rw [←HN.out];omega)] at this
   have hlt':¬ (k:Int)<(xs.length:Int):=by omega
   go_wp2_with fail
   go_ret
   exact ⟨aA1 hqe.out.symm,hB⟩
theorem Tryz.cellsPair:Tryz.prog.cellsOf 96=2:=by kernel_rfl
def aVg (W:World) (v:Value):Prop:=∃ l:List aAa,Prs W v l∧∀ p∈l,okP p
theorem aFe {H:Type} {enc:TypeId × Value→H} {W:World} {v:Value} {fuel:Nat} {y:DataW H × List MemPlace} (hf:DataW.trod enc Tryz.prog W 0 (fun _=>true) true fuel 28 [v]=some y):aVg W v:=by
 rcases open_slice_pairs Tryz.underlying28 Tryz.underlying96 Tryz.cellsPair rfl rfl Tryz.cells9 Tryz.cells9 hf with ⟨hcs,_⟩ | ⟨a,len,cap,m,n,V0,V1,D0,D1,P0,P1,hcs,_,hl,hm,hmm,_,hcell⟩
 ·simp only [List.cons.injEq,and_true] at hcs
  subst hcs
  exact ⟨[],Prs.nil W,fun p hp=>absurd hp (by simp)⟩
 ·simp only [List.cons.injEq,and_true] at hcs
  subst hcs
  simp only [if_true] at hmm
  subst hmm
  have each:∀ i,i<len→∃ p:aAa,W.cell? (a.add (i*2))=some (.string p.1)∧W.cell? (a.add (i*2+1))=some (.string p.2)∧okP p:=by
   intro i hi
   obtain ⟨c0,c1,t0,t1⟩:=hcell i (by omega)
   obtain ⟨s0,e0,_,z0⟩:=DataW.trod_string Tryz.underlying9 t0
   obtain ⟨s1,e1,_,z1⟩:=DataW.trod_string Tryz.underlying9 t1
   simp only [List.cons.injEq,and_true] at e0 e1
   rw [e0] at c0
   rw [e1] at c1
   exact ⟨(s0,s1),c0,c1,z0,z1⟩
  let f:Nat→aAa:=fun i=>if h:i<len then (each i h).choose else (⟨#[]⟩,⟨#[]⟩)
  have hf:∀ i,i<len→W.cell? (a.add (i*2))=some (.string (f i).1)∧W.cell? (a.add (i*2+1))=some (.string (f i).2)∧okP (f i):=by
   intro i hi
   have:=(each i hi).choose_spec
   simp only [f,dif_pos hi]
   exact this
  refine ⟨(List.range len).map f,⟨some a,m,by simp,by simp;omega,hm,fun i hi=>?_⟩,fun p hp=>?_⟩
  ·have hi':i<len:=by simpa using hi
   obtain ⟨b,off,spot⟩:=a
   obtain ⟨c0,c1,_⟩:=hf i hi'
   have hspot:spot=none:=by simpa [Addr.add] using World.cell?_spot (hf 0 (by omega)).1
   subst hspot
   rw [add_plain] at c0 c1
   refine ⟨b,off,rfl,World.block_lt_of_cell? _ _ c0,?_,?_⟩
   ·simpa using c0
   ·simpa [Nat.add_assoc] using c1
  ·obtain ⟨i,hi,rfl⟩:=List.mem_map.1 hp
   exact (hf i (List.mem_range.1 hi)).2.2
end Go.Proofs.YthnodpdiocppgaaGreatDoor
namespace Go.Proofs.YthnodpdiocppgaaGreatDoor
open Go Go.RowKit
theorem aGm (s:ByteArray) (c:Int) (w:World) :
  Calls Tryz.prog 224 #[.string s,.int .u8 c] w fun e w'=>e=.returned (.int .i64 (Lib.indexByte s.data.toList c.toNat.toUInt8))∧w'=w:=by
 go_enter Tryz.func224,Tryz.ntmps224
 go_wp2
 rw [run_callFunc_extern Tryz.func244 (by kernel_rfl) (by kernel_rfl) (by kernel_rfl) (e:=Extern.BytealgIndexByte.indexByte) (by kernel_rfl),Lib.run_indexByteString]
 simp only [Result.andThen]
 rw [Oper.upon_value]
 go_wp2
 go_ret
 exact ⟨rfl,rfl⟩
theorem aJ6 (s:ByteArray) (c:Int) (w:World) :
  Calls Tryz.prog 248 #[.string s,.int .u8 c] w fun e w'=>e=.returned (.int .i64 (Lib.indexByte s.data.toList c.toNat.toUInt8))∧w'=w:=by
 go_enter Tryz.func248,Tryz.ntmps248
 go_wp2_with fail
 refine (aGm _ _ _).mono ?_
 rintro e x ⟨rfl,hx⟩
 subst x
 go_wp2_with fail
 go_ret
 exact ⟨rfl,rfl⟩
end Go.Proofs.YthnodpdiocppgaaGreatDoor
namespace Go.Proofs.YthnodpdiocppgaaGreatDoor
open Go Go.RowKit Go.Shelf
def aEd (c:UInt8):UInt8:=if 65≤c.toNat∧c.toNat≤90 then c+32 else c
def aBp (l:List UInt8):List UInt8:=l.map aEd
theorem aJl {c:UInt8} (h1:65≤c.toNat) (h2:c.toNat≤90):((aEd c).toNat:Int)=(c.toNat:Int)+32:=by
 unfold aEd
 rw [if_pos ⟨h1,h2⟩,UInt8.toNat_add]
 have:(32:UInt8).toNat=32:=rfl
 rw [this]
 omega
theorem aKt {c:UInt8} (h:¬ (65≤c.toNat∧c.toNat≤90)):aEd c=c:=by unfold aEd;rw [if_neg h]
def aFj (W:World) (g:Nat) (l:List UInt8):Prop:=∀ j (hj:j<l.length),W.cell? ⟨g,j,none⟩=some (.int .u8 (l[j].toNat:Int))∧W.frozen? ⟨g,j,none⟩=false
theorem aFj.set {W:World} {g:Nat} {l:List UInt8} (h:aFj W g l) {k:Nat} (c:UInt8):aFj (W.setCell ⟨g,k,none⟩ (.int .u8 (c.toNat:Int))) g (l.set k c):=fun j hj=>by
 have hj':j<l.length:=by simpa using hj
 obtain ⟨h1,h2⟩:=h j hj'
 refine ⟨?_,by rw [World.frozen?_setCell];exact h2⟩
 by_cases e:k=j
 ·subst e
  rw [World.cell?_setCell_same' _ _ _ (by rw [h1];rfl)]
  simp
 ·rw [World.cell?_setCell_other (w:=W) (a:=⟨g,k,none⟩) (b:=⟨g,j,none⟩) (h:=fun e'=>e (Addr.mk.inj e').2.1),h1,List.getElem_set_ne e]
def aCx (l:List UInt8) (k:Nat):List UInt8:=aBp (l.take k)++l.drop k
theorem aI2 (l:List UInt8) (k:Nat):(aCx l k).length=l.length:=by
 simp [aCx,aBp];omega
theorem aJm (l:List UInt8) (k:Nat) (h:k<l.length):(aCx l k)[k]'(by rw [aI2];exact h)=l[k]:=by
 have hl:(aBp (l.take k)).length=k:=by simp [aBp];omega
 simp only [aCx]
 rw [List.getElem_append_right (by omega)]
 simp [hl]
theorem aMi (l:List UInt8) (k:Nat) (h:k<l.length):aCx l (k+1)=(aCx l k).set k (aEd l[k]):=by
 have hl:(aBp (l.take k)).length=k:=by simp [aBp];omega
 unfold aCx
 rw [List.set_append_right _ _ (by omega),hl,Nat.sub_self,List.drop_eq_getElem_cons h,zzC,List.take_succ_eq_append_getElem h]
 simp only [aBp,List.map_append,List.map_cons,List.map_nil,List.append_assoc,List.singleton_append]
theorem aNu (s:ByteArray) (w:World):∃ cap W1,(convert 9 184 (.string s)).run Tryz.prog w=.ok (.slice (some ⟨w.heap.size,0,none⟩) s.size cap) W1∧aFj W1 w.heap.size s.data.toList∧Below w.heap.size w W1:=by
 refine ⟨_,_,run_bytes_of_string (P:=Tryz.prog) w 9 184 5 s Tryz.underlying9 Tryz.underlying184 Tryz.underlying5,?_,((Below.refl _ w).drew).alloc (Nat.le_refl _) _⟩
 intro j hj
 have hj':j<s.data.size:=by simpa using hj
 have hb:=bytesRow_at s (grownCap w s.size 0 5) j hj'
 have h1:=World.cell?_alloc_mark w.drew (bytesRow s (grownCap w s.size 0 5)) 5 ((bytesRow s (grownCap w s.size 0 5)).size,(bytesRow s (grownCap w s.size 0 5)).size+1) j
 have h2:=World.frozen?_alloc_mark w.drew (bytesRow s (grownCap w s.size 0 5)) 5 (bytesRow s (grownCap w s.size 0 5)).size ((bytesRow s (grownCap w s.size 0 5)).size+1) j
 refine ⟨h1.trans (hb.trans (by simp)),h2.trans ?_⟩
 have hlt:=(Array.getElem?_eq_some_iff.1 hb).1
 simp;omega
theorem aS6 (s:ByteArray) (w:World) (hs:s.size≤maxLen) :
  Calls Tryz.prog 239 #[.string s] w fun e w'=>e=.returned (.string ⟨(aBp s.data.toList).toArray⟩)∧Below w.heap.size w w':=by
 unfold maxLen at hs
 have hsl:s.data.toList.length=s.size:=Array.length_toList
 obtain ⟨cap,W1,hconv,hB1,hb1⟩:=aNu s w
 have HB1:=hide hB1
 have HSL:=hide hsl
 clear hB1 hsl
 go_enter Tryz.func239,Tryz.ntmps239
 go_wp2
 go_loopw [10] (fun i wr=>∃ k:Nat,k≤s.size∧i=.int .i64 k∧Hid (aFj wr w.heap.size (aCx s.data.toList k))∧Below w.heap.size w wr) (fun i _=>s.size - (intOf i).toNat)
 case atStart=>exact ⟨0,Nat.zero_le _,rfl,HB1.out,hb1⟩
 case round =>
  clear hconv
  obtain ⟨k,hk,rfl,hBk,hb⟩:=hrel
  by_cases hlt:k<s.size
  ·have hlt':(k:Int)<(s.size:Int):=by omega
   have hkl:k<s.data.toList.length:=by rw [HSL.out];exact hlt
   obtain ⟨c1,c2⟩:=hBk.out k (by rw [aI2];exact hkl)
   rw [aJm _ _ hkl] at c1
   have hsucc:=hide (aMi s.data.toList k hkl)
   generalize hc:s.data.toList[k]=c at *
   have HC:=hide hc
   clear hc
   have hc8:=c.toNat_lt
   by_cases hup:65≤c.toNat∧c.toNat≤90
   ·obtain ⟨hu1,hu2⟩:=hup
    have hf:=hide (aJl hu1 hu2)
    have i1:(65:Int)≤(c.toNat:Int):=by omega
    have i2:(c.toNat:Int)≤90:=by omega
    go_wp2
    have hv:(c.toNat:Int) - 65+97=((aEd c).toNat:Int):=by rw [hf.out];omega
    rw [hv]
    refine ⟨⟨k+1,by omega,by go_num,?_,hb.setCell (p:=⟨w.heap.size,k,none⟩) (Nat.le_refl _) _⟩,by simp [intOf];omega⟩
    unfold Hid
    rw [hsucc.out]
    exact hBk.out.set _
   ·have hfn:aCx s.data.toList (k+1)=aCx s.data.toList k:=by
     rw [hsucc.out,aKt hup,←HC.out]
     conv=>lhs;rw [←aJm _ _ hkl]
     exact List.set_getElem_self _
    have HF:=hide hfn
    clear hfn
    by_cases h65:(65:Int)≤(c.toNat:Int)
    ·have h90:¬ (c.toNat:Int)≤90:=by omega
     go_wp2
     refine ⟨⟨k+1,by omega,by go_num,by rw [HF.out];exact hBk,hb⟩,by simp [intOf];omega⟩
    ·go_wp2
     refine ⟨⟨k+1,by omega,by go_num,by rw [HF.out];exact hBk,hb⟩,by simp [intOf];omega⟩
  ·have hks:k=s.size:=by omega
   subst hks
   have hall:aCx s.data.toList s.size=aBp s.data.toList:=by
    unfold aCx
    rw [List.take_of_length_le (by rw [HSL.out];omega),List.drop_eq_nil_of_le (by rw [HSL.out];omega),List.append_nil]
   have hBk':=hBk.out
   rw [hall] at hBk'
   have hback:=run_convert_bytes_back (P:=Tryz.prog) wr 184 9 5 ⟨w.heap.size,0,none⟩ cap (aBp s.data.toList) Tryz.underlying184 Tryz.underlying5 Tryz.underlying9 (fun j hj=>by
    have:=(hBk' j hj).1
    rw [aHr]
    exact this)
   have hfl:(aBp s.data.toList).length=s.size:=by rw [←HSL.out];simp [aBp]
   rw [hfl] at hback
   clear hall hBk' hfl
   go_wp2
   go_ret
   exact ⟨rfl,hb⟩
theorem aPr (l:List UInt8):(aBp l).length=l.length:=by simp [aBp]
def aD6 (s:ByteArray):ByteArray:=⟨(aBp s.data.toList).toArray⟩
theorem aI3 (s:ByteArray):(aD6 s).data.toList=aBp s.data.toList:=by simp [aD6]
theorem aI4 (s:ByteArray):(aD6 s).size=s.size:=by
 have h1:(aD6 s).data.toList.length=(aD6 s).size:=Array.length_toList
 have h2:s.data.toList.length=s.size:=Array.length_toList
 rw [←h1,aI3,aPr,h2]
theorem aJn (s:ByteArray) (w:World) (hs:s.size≤maxLen) :
  Calls Tryz.prog 239 #[.string s] w fun e w'=>e=.returned (.string (aD6 s))∧Below w.heap.size w w':=aS6 s w hs
theorem aI5 (s:ByteArray) (k:Nat) (h:k<s.size):aBp (s.data.toList.take (k+1))=aBp (s.data.toList.take k)++[aEd s[k]]:=by
 rw [aFt s k h];simp only [aBp,List.map_append,List.map_cons,List.map_nil]
theorem aKu (W:World) (c:UInt8):(convert 184 9 (.slice (some ⟨W.heap.size,0,none⟩) 1 1)).run Tryz.prog (W.alloc (.cells #[.int .u8 (c.toNat:Int)] 5))=.ok (.string ⟨#[c]⟩) (W.alloc (.cells #[.int .u8 (c.toNat:Int)] 5)):=by
 have:=run_convert_bytes_back (P:=Tryz.prog) (W.alloc (.cells #[.int .u8 (c.toNat:Int)] 5)) 184 9 5 ⟨W.heap.size,0,none⟩ 1 [c] Tryz.underlying184 Tryz.underlying5 Tryz.underlying9 (fun j hj=>by
  obtain rfl:j=0:=by simp at hj;exact hj
  rw [aHr]
  simp only [World.cell?]
  rw [aA7]
  rfl)
 exact this
theorem aFu {s t:ByteArray} {k:Nat} {c:UInt8} {w W:World} (hlt:k<s.size) (ht:Hid (t.data.toList=aBp (s.data.toList.take k))) (hsucc:Hid (aBp (s.data.toList.take (k+1))=aBp (s.data.toList.take k)++[c])) (htl:t.size≤k) (hB:Below w.heap.size w W) :
  (∃ (k_1:Nat) (t_1:ByteArray),k_1≤s.size∧Value.int .i64 ((k:Int)+1)=Value.int .i64 (k_1:Int)∧Value.string (t++⟨#[c]⟩)=Value.string t_1∧Hid (t_1.data.toList=aBp (s.data.toList.take k_1))∧t_1.size≤k_1∧Below w.heap.size w W) ∧
   s.size - (intOf (Value.int .i64 ((k:Int)+1))).toNat<s.size - (intOf (Value.int .i64 (k:Int))).toNat:=by
 refine ⟨⟨k+1,t++⟨#[c]⟩,by omega,by go_num,rfl,?_,?_,hB⟩,by simp [intOf];omega⟩
 ·unfold Hid
  rw [hsucc.out,aHq,ht.out]
 ·rw [ByteArray.size_append]
  show t.size+1≤k+1
  omega
theorem aJo (s:ByteArray) (w:World) (hs:s.size≤1000) :
  Calls Tryz.prog 163 #[.string s] w fun e w'=>e=.returned (.string (aD6 s))∧Below w.heap.size w w':=by
 have hsl:s.data.toList.length=s.size:=Array.length_toList
 have HSL:=hide hsl
 clear hsl
 go_enter Tryz.func163,Tryz.ntmps163
 go_wp2_with fail
 go_loopw [3,4] (fun o i wr=>∃ (k:Nat) (t:ByteArray),k≤s.size∧i=.int .i64 k∧o=.string t∧Hid (t.data.toList=aBp (s.data.toList.take k))∧t.size≤k∧Below w.heap.size w wr) (fun _ i _=>s.size - (intOf i).toNat)
 case atStart=>exact ⟨0,⟨#[]⟩,Nat.zero_le _,rfl,rfl,rfl,Nat.le_refl _,Below.refl _ _⟩
 case round =>
  obtain ⟨k,t,hk,rfl,rfl,ht,htl,hB⟩:=hrel
  by_cases hlt:k<s.size
  ·have hlt':(k:Int)<(s.size:Int):=by omega
   have hsucc:=hide (aI5 s k hlt)
   have hc8:=s[k].toNat_lt
   by_cases hup:65≤s[k].toNat∧s[k].toNat≤90
   ·have i1:(65:Int)≤(s[k].toNat:Int):=by omega
    have i2:(s[k].toNat:Int)≤90:=by omega
    have hone:=aKu wr (aEd s[k])
    rw [aJl hup.1 hup.2] at hone
    clear hup
    go_wp2_with fail
    exact aFu hlt ht hsucc htl (hB.alloc hB.size _)
   ·have hone:=aKu wr s[k]
    have hsame:=aKt hup
    rw [hsame] at hsucc
    clear hsame
    by_cases h65:(65:Int)≤(s[k].toNat:Int)
    ·have i2:¬ (s[k].toNat:Int)≤90:=by omega
     clear hup
     go_wp2_with fail
     exact aFu hlt ht hsucc htl (hB.alloc hB.size _)
    ·clear hup
     go_wp2_with fail
     exact aFu hlt ht hsucc htl (hB.alloc hB.size _)
  ·have hlt':¬ (k:Int)<(s.size:Int):=by omega
   have hts:t=aD6 s:=by
    apply aJk
    rw [ht.out,aI3,List.take_of_length_le (by rw [HSL.out];omega)]
   have HT:=hide hts
   clear hts
   go_wp2_with fail
   go_ret
   exact ⟨by rw [←HT.out];rfl,hB⟩
end Go.Proofs.YthnodpdiocppgaaGreatDoor
namespace Go.Proofs.YthnodpdiocppgaaGreatDoor
open Go Go.RowKit Go.Shelf
def Strs (w:World) (v:Value) (ss:List ByteArray):Prop :=
 ∃ a cap,v=.slice a ss.length cap∧∀ i (h:i<ss.length),∃ g,a=some ⟨g,0,none⟩∧g<w.heap.size∧w.cell? ⟨g,i,none⟩=some (.string ss[i])
theorem Strs.below {w w':World} {v:Value} {ss:List ByteArray} (h:Strs w v ss) (hb:Below w.heap.size w w'):Strs w' v ss:=by
 obtain ⟨a,cap,hv,hc⟩:=h
 refine ⟨a,cap,hv,fun i hi=>?_⟩
 obtain ⟨g,hg,hlt,hcell⟩:=hc i hi
 exact ⟨g,hg,Nat.lt_of_lt_of_le hlt hb.size,(hb.cell (p:=⟨g,i,none⟩) hlt).trans hcell⟩
theorem Strs.of_row {w:World} {base:Nat} {v:Value} {ss:List ByteArray} {n:Nat} (hn:n=ss.length) (h:w.ownsRow base 9 1 v n (ss.map Value.string)):Strs w v ss:=by
 subst hn
 obtain ⟨_,h2⟩:=h
 rcases h2 with ⟨rfl,h0⟩ | ⟨g,cap,cur,rfl,hg,hgb,hle,_,hsz,hcur⟩
 ·exact ⟨none,0,by rw [h0],fun i hi=>by omega⟩
 ·refine ⟨some ⟨g,0,none⟩,cap,rfl,fun i hi=>⟨g,rfl,(Array.getElem?_eq_some_iff.1 hgb).1,?_⟩⟩
  have hi':i<cur.size:=by omega
  have:cur[i]?=some (.string ss[i]):=by
   have e:=congrArg (fun l=>l[i]?) hcur
   simp only [Nat.mul_one] at e
   rw [List.getElem?_take_of_lt hi] at e
   rw [List.getElem?_map,List.getElem?_eq_getElem hi] at e
   simpa using e
  simp [World.cell?,hgb,this]
theorem Strs.nil (w:World):Strs w (.slice none 0 0) []:=⟨none,0,rfl,fun i hi=>absurd hi (by simp)⟩
end Go.Proofs.YthnodpdiocppgaaGreatDoor
namespace Go.Proofs.YthnodpdiocppgaaGreatDoor
open Go Go.RowKit Go.Shelf
def Lies (w:World) (x:Value) (m:Nat) (news:List Value):Prop :=
 (∃ ad c,x=.slice (some ad) m c∧∀ j u,news[j]?=some u→w.cell? (ad.add j)=some u)∨∃ c,x=.slice none 0 c∧m=0
theorem Prs.lies {w:World} {x:Value} {l:List aAa} (h:Prs w x l):Lies w x l.length (flat l):=by
 have h0:=h
 obtain ⟨a,cap,rfl,_,_,hc⟩:=h
 cases a with
 | some ad=>exact .inl ⟨ad,cap,rfl,h0.news⟩
 | none =>
   have:l=[]:=by
    cases l with
    | nil=>rfl
    | cons p r=>obtain ⟨g,off,hg,_⟩:=hc 0 (by simp);cases hg
   subst this
   exact .inr ⟨cap,rfl,rfl⟩
theorem Strs.lies {w:World} {x:Value} {l:List ByteArray} (h:Strs w x l):Lies w x l.length (l.map Value.string):=by
 obtain ⟨a,cap,rfl,hc⟩:=h
 cases a with
 | some ad =>
   refine .inl ⟨ad,cap,rfl,fun j u hu=>?_⟩
   rw [List.getElem?_map] at hu
   obtain ⟨s,hs,rfl⟩:=Option.map_eq_some_iff.1 hu
   obtain ⟨hj,rfl⟩:=List.getElem?_eq_some_iff.1 hs
   obtain ⟨g,hg,_,c⟩:=hc j hj
   injection hg with hg
   subst hg
   rw [aHr]
   exact c
 | none =>
   have:l=[]:=by
    cases l with
    | nil=>rfl
    | cons p r=>obtain ⟨g,hg,_⟩:=hc 0 (by simp);cases hg
   subst this
   exact .inr ⟨cap,rfl,rfl⟩
theorem aJ7 {P:Program} (w:World) (base:Nat) (t ty e:TypeId) (i:TypeInfo) (z:Value) (size bytes:Nat) (ht:P.underlying t=some (.slice e)) (hi:P.info? e=some i) (hz:i.zero=some z)
  (hsize:i.size=size) (hby:i.bytes=bytes) (hzs:z.cells.size=size) (hsz:0<size)
  (v:Value) (n:Nat) (xs:List Value) (hown:w.ownsRow base e size v n xs)
  (x:Value) (m:Nat) (news:List Value) (hx:Lies w x m news) (hl:news.length=m*size) (h1:∀ u∈news,u.oneCell'=true)
  (h63:n+m≤maxLen) (hbytes:(n+m)*bytes≤140737488355328) (hbase:base≤w.heap.size) :
  ∃ v' w',(Builtin.append_ #[t,t] ty #[v,x]).run P w=.ok v' w'∧w'.ownsRow base e size v' (n+m) (xs++news)∧w.grownBy w' v.ownBlock:=by
 rcases hx with ⟨ad,c,rfl,hnews⟩ | ⟨c,rfl,rfl⟩
 ·obtain ⟨v',w',hr,h2,h3,_⟩:=run_append_own (P:=P) w base t ty e i z size bytes ht hi hz hsize hby hzs hsz v n xs hown ad m c news hl hnews h1 h63 hbytes hbase
  exact ⟨v',w',hr,h2,h3⟩
 ·have hn:news=[]:=List.eq_nil_of_length_eq_zero (by simpa using hl)
  subst hn
  refine ⟨v,w,?_,by simpa using hown,⟨rfl,rfl,rfl,Nat.le_refl _,fun _ _ _=>rfl⟩⟩
  rcases hown.2 with ⟨rfl,rfl⟩ | ⟨g,cap,cur,rfl,hbg,hg,hnc,hcm,hcs,htake⟩
  ·simp [Builtin.append_,run_underlying ht,sizeOf,typeInfo,hi,Builtin.lenOf,Builtin.firstCells]
  ·simp [Builtin.append_,run_underlying ht,sizeOf,typeInfo,hi,Builtin.lenOf,Builtin.firstCells,hnc,storeCells]
theorem aEa {P:Program} {o:Oper} {a:Act} {Q:Exit→Act→World→Prop} (w:World) (s x:Operand) (t:TypeId)
  (ho:o.op=.call { callee:=.builtin .append,args:=#[s,x],argTypes:=#[t,t] })
  (base:Nat) (e:TypeId) (i:TypeInfo) (z:Value) (size bytes:Nat) (ht:P.underlying t=some (.slice e)) (hi:P.info? e=some i) (hz:i.zero=some z)
  (hsize:i.size=size) (hby:i.bytes=bytes) (hzs:z.cells.size=size) (hsz:0<size)
  (v:Value) (n:Nat) (xs:List Value) (hs:a.eval s=v) (hown:w.ownsRow base e size v n xs)
  (y:Value) (m:Nat) (news:List Value) (hy:a.eval x=y) (hx:Lies w y m news) (hl:news.length=m*size) (h1:∀ u∈news,u.oneCell'=true)
  (h63:n+m≤maxLen) (hbytes:(n+m)*bytes≤140737488355328) (hbase:base≤w.heap.size) {K:Act→World→Prop}
  (h:∀ v' w',w'.ownsRow base e size v' (n+m) (xs++news)→w.grownBy w' v.ownBlock→K (a.put o.dst v') w'):o.wp P a w K Q:=by
 obtain ⟨v',w',hr,h2,h3⟩:=aJ7 (P:=P) w base t o.type e i z size bytes ht hi hz hsize hby hzs hsz v n xs hown y m news hx hl h1 h63 hbytes hbase
 unfold Oper.wp execOp
 simp only [ho,resolve,invoke,builtin,Sem.run_bind,Sem.run_pure,Result.andThen_ok,List.map_toArray,List.map_cons,List.map_nil,hs,hy,hr]
 exact h v' w' h2 h3
theorem aEc {P:Program} {o:Oper} {a:Act} {Q:Exit→Act→World→Prop} (w:World) (s x:Operand) (t:TypeId)
  (ho:o.op=.call { callee:=.builtin .append,args:=#[s,x],argTypes:=#[t,t] })
  (base:Nat) (e:TypeId) (i:TypeInfo) (z:Value) (size bytes:Nat) (ht:P.underlying t=some (.slice e)) (hi:P.info? e=some i) (hz:i.zero=some z)
  (hsize:i.size=size) (hby:i.bytes=bytes) (hzs:z.cells.size=size) (hsz:0<size)
  (v:Value) (n:Nat) (xs:List Value) (hs:a.eval s=v) (hown:w.ownsRow base e size v n xs)
  (y:Value) (m:Nat) (news:List Value) (hy:a.eval x=y) (hx:Lies w y m news) (hl:news.length=m*size) (h1:∀ u∈news,u.oneCell'=true)
  (h63:n+m≤maxLen) (hbytes:(n+m)*bytes≤140737488355328) (hbase:base≤w.heap.size) {ops:Array Oper} {rest:List Oper} (hw:Region.wanted o (yielded ops a.tmps)=true)
  (h:∀ v' w',w'.ownsRow base e size v' (n+m) (xs++news)→w.grownBy w' v.ownBlock→wpList P ops Q rest (a.put o.dst v') w'):wpList P ops Q (o::rest) a w :=
 wpList_step fun K hK=>by
  rw [if_pos hw]
  exact aEa w s x t ho base e i z size bytes ht hi hz hsize hby hzs hsz v n xs hs hown y m news hy hx hl h1 h63 hbytes hbase fun v' w' h2 h3=>hK _ _ (h v' w' h2 h3)
theorem aI6 {P:Program} {o:Oper} {a:Act} {Q:Exit→Act→World→Prop} (w:World) (s x:Operand) (t:TypeId)
  (ho:o.op=.call { callee:=.builtin .append,args:=#[s,x],argTypes:=#[t,t] })
  (base:Nat) (e:TypeId) (i:TypeInfo) (z:Value) (size bytes:Nat) (ht:P.underlying t=some (.slice e)) (hi:P.info? e=some i) (hz:i.zero=some z)
  (hsize:i.size=size) (hby:i.bytes=bytes) (hzs:z.cells.size=size) (hsz:0<size)
  (v:Value) (n:Nat) (xs:List Value) (hs:a.eval s=v) (hown:w.ownsRow base e size v n xs)
  (y:Value) (m:Nat) (news:List Value) (hy:a.eval x=y) (hx:Lies w y m news) (hl:news.length=m*size) (h1:∀ u∈news,u.oneCell'=true)
  (h63:n+m≤maxLen) (hbytes:(n+m)*bytes≤140737488355328) (hbase:base≤w.heap.size) {ops:Array Oper} {K:Act→World→Prop} {E:Prop} (hgd:o.guard=none)
  (h:∀ v' w',w'.ownsRow base e size v' (n+m) (xs++news)→w.grownBy w' v.ownBlock→K (a.put o.dst v') w') :
  if Region.wanted o (yielded ops a.tmps)=true then Oper.wp P o a w K Q else E:=by
 have hw:Region.wanted o (yielded ops a.tmps)=true:=by simp [Region.wanted,hgd]
 rw [if_pos hw]
 exact aEa w s x t ho base e i z size bytes ht hi hz hsize hby hzs hsz v n xs hs hown y m news hy hx hl h1 h63 hbytes hbase h
theorem aHb {o:Oper} {a:Act} {Q:Exit→Act→World→Prop} {ops:Array Oper} {rest:List Oper} (w:World) (s x:Operand)
  (ho:o.op=.call { callee:=.builtin .append,args:=#[s,x],argTypes:=#[28,28] }) (hw:Region.wanted o (yielded ops a.tmps)=true)
  (base:Nat) (v:Value) (n:Nat) (xs:List aAa) (hs:a.eval s=v) (hown:w.ownsRow base 96 2 v n (flat xs))
  (y:Value) (l:List aAa) (hy:a.eval x=y) (hl:Prs w y l) (hn:n+l.length≤100000) (hbase:base≤w.heap.size)
  (h:∀ v' w',w'.ownsRow base 96 2 v' (n+l.length) (flat (xs++l))→w.grownBy w' v.ownBlock→wpList Tryz.prog ops Q rest (a.put o.dst v') w'):wpList Tryz.prog ops Q (o::rest) a w:=by
 obtain ⟨i0,hi,hz0,hz1,hz2⟩:=info_parts Tryz.infoPair
 exact aEc w s x _ ho base _ i0 _ 2 32 Tryz.underlying28 hi hz0 hz1 hz2 rfl (by decide) v n (flat xs) hs hown y l.length (flat l) hy hl.lies (flat_len l) (flat_one l) (by unfold maxLen;omega) (by omega) hbase hw (fun v' w' h2 h3=>h v' w' (by rw [flat_append];exact h2) h3)
theorem aI7 {o:Oper} {a:Act} {Q:Exit→Act→World→Prop} {ops:Array Oper} {K:Act→World→Prop} {E:Prop} (w:World) (s x:Operand)
  (ho:o.op=.call { callee:=.builtin .append,args:=#[s,x],argTypes:=#[28,28] }) (hgd:o.guard=none)
  (base:Nat) (v:Value) (n:Nat) (xs:List aAa) (hs:a.eval s=v) (hown:w.ownsRow base 96 2 v n (flat xs))
  (y:Value) (l:List aAa) (hy:a.eval x=y) (hl:Prs w y l) (hn:n+l.length≤100000) (hbase:base≤w.heap.size)
  (h:∀ v' w',w'.ownsRow base 96 2 v' (n+l.length) (flat (xs++l))→w.grownBy w' v.ownBlock→K (a.put o.dst v') w') :
  if Region.wanted o (yielded ops a.tmps)=true then Oper.wp Tryz.prog o a w K Q else E:=by
 obtain ⟨i0,hi,hz0,hz1,hz2⟩:=info_parts Tryz.infoPair
 exact aI6 w s x _ ho base _ i0 _ 2 32 Tryz.underlying28 hi hz0 hz1 hz2 rfl (by decide) v n (flat xs) hs hown y l.length (flat l) hy hl.lies (flat_len l) (flat_one l) (by unfold maxLen;omega) (by omega) hbase hgd (fun v' w' h2 h3=>h v' w' (by rw [flat_append];exact h2) h3)
theorem Strs.at1 (w:World) (n:Nat) (h:w.heap.size=n) (s:ByteArray):Strs (w.alloc (.cells #[.string s] 9)) (.slice (some ⟨n,0,none⟩) 1 1) [s]:=by
 subst h
 refine ⟨_,1,rfl,fun i hi=>⟨w.heap.size,rfl,by simp,?_⟩⟩
 have:i=0:=by simpa using hi
 subst this
 simp only [World.cell?];rw [aA7];rfl
end Go.Proofs.YthnodpdiocppgaaGreatDoor
namespace Go.Proofs.YthnodpdiocppgaaGreatDoor
open Go Go.RowKit
def Grow (w w':World):Prop:=Below w.heap.size w w'
theorem Grow.refl (w:World):Grow w w:=Below.refl _ _
theorem Grow.trans {a b c:World} (h:Grow a b) (k:Grow b c):Grow a c:=Below.trans h (Below.mono k h.size)
theorem Grow.block {w w':World} {n:Nat} {o:Obj} (h:Grow w w') (hn:w.heap[n]?=some o):w'.heap[n]?=some o:=by
 have hlt:n<w.heap.size:=by
  by_cases e:n<w.heap.size
  ·exact e
  ·rw [Array.getElem?_eq_none (by omega)] at hn;cases hn
 rw [Below.block h n hlt]
 exact hn
section
variable {P:Program} {md:Region.Mode} {ops:Array Oper} {Q:Exit→Act→World→Prop} {S:World→Prop} {n:Nat}
def wpG (P:Program) (md:Region.Mode) (ops:Array Oper) (Q:Exit→Act→World→Prop) (S:World→Prop) (n:Nat):Nat→Array Bool→Act→World→Prop
 | 0,listed,a,w=>∀ w',Grow w w'→S w'→Region.ready md ops listed=[]∧Q .normal a w'
 | f + 1,listed,a,w=>∀ w',Grow w w'→S w'→(Region.ready md ops listed=[]→Q .normal a w') ∧
     ∀ i∈Region.ready md ops listed,wpOp P ops Q i (fun a' w2=>if i<n then S w2∧wpG P md ops Q S n f (listed.setIfInBounds i true) a' w2 else wpAny P md ops Q f (listed.setIfInBounds i true) a' w2) a w'
theorem aKv {f:Nat} {l:Array Bool} {a:Act} {w w2:World} (h:wpG P md ops Q S n f l a w) (hg:Grow w w2):wpG P md ops Q S n f l a w2:=by
 cases f with
 | zero=>exact fun w' k hs=>h w' (hg.trans k) hs
 | succ f=>exact fun w' k hs=>h w' (hg.trans k) hs
theorem aI8:∀ (f:Nat) (l:Array Bool) (a:Act) (w:World),wpG P md ops Q S n f l a w→S w→wpAny P md ops Q f l a w
 | 0,_,_,w,h,hs=>h w (Grow.refl w) hs
 | f+1,_,_,w,h,hs=>by
   have hh:=h w (Grow.refl w) hs
   refine ⟨hh.1,fun i hi=>wpOp_mono (fun a' w2 k=>?_) (hh.2 i hi)⟩
   by_cases hin:i<n
   ·rw [if_pos hin] at k
    exact aI8 f _ a' w2 k.2 k.1
   ·rw [if_neg hin] at k
    exact k
def aCj (md:Region.Mode) (ops:Array Oper) (l:Array Bool):Prop:=∀ (j:Nat) (o:Oper),ops[j]?=some o→l.getD j false=true→∀ e∈o.after,Region.binds md e=true→l.getD e.on false=true
theorem aI9 {l:Array Bool} {i:Nat} (hc:aCj md ops l) (hi:i∈Region.ready md ops l):aCj md ops (l.setIfInBounds i true):=by
 intro j o ho hj e he hb
 by_cases hji:i=j
 ·subst hji
  obtain ⟨_,o',ho',hall⟩:=mem_ready.1 hi
  rw [ho] at ho'
  cases ho'
  exact getD_set_true (hall e he hb)
 ·rw [getD_set_ne false hji] at hj
  exact getD_set_true (hc j o ho hj e he hb)
def closedB (md:Region.Mode) (ops:Array Oper) (l:Array Bool):Bool:=(List.range ops.size).all fun j=>match ops[j]? with
 | some o=>!l.getD j false||o.after.all fun e=>!Region.binds md e||l.getD e.on false
 | none=>true
theorem aMj {l:Array Bool} (h:closedB md ops l=true):aCj md ops l:=by
 intro j o ho hj e he hb
 have hlt:j<ops.size:=(Array.getElem?_eq_some_iff.1 ho).1
 have h1:=List.all_eq_true.1 h j (List.mem_range.2 hlt)
 simp only [ho,hj,Bool.not_true,Bool.false_or] at h1
 have h2:=Array.all_eq_true_iff_forall_mem.1 h1 e he
 simpa [hb] using h2
def aPs (md:Region.Mode) (ops:Array Oper) (X:List Nat):List Nat:=(List.range ops.size).filter fun i=>X.contains i||X.any fun x=>match ops[x]? with
 | some o=>o.after.any fun e=>Region.binds md e&&e.on == i
 | none=>false
theorem aKw {l:Array Bool} {X:List Nat} (hc:aCj md ops l) (hX:∀ x∈X,l.getD x false=true):∀ x∈aPs md ops X,l.getD x false=true:=by
 intro x hx
 have h:=(List.mem_filter.1 hx).2
 rcases Bool.or_eq_true _ _ ▸ h with h | h
 ·exact hX x (by simpa using h)
 ·obtain ⟨y,hy,hy2⟩:=List.any_eq_true.1 h
  split at hy2
  ·rename_i o ho
   obtain ⟨e,he,hb⟩:=Array.any_eq_true'.1 hy2
   simp only [Bool.and_eq_true,beq_iff_eq] at hb
   rw [←hb.2]
   exact hc y o ho (hX y hy) e he hb.1
  ·cases hy2
def aIa (md:Region.Mode) (ops:Array Oper):Nat→List Nat→List Nat
 | 0,X=>X
 | k+1,X=>aIa md ops k (aPs md ops X)
theorem aEb {l:Array Bool} (hc:aCj md ops l):∀ (k:Nat) (X:List Nat),(∀ x∈X,l.getD x false=true)→∀ x∈aIa md ops k X,l.getD x false=true
 | 0,_,hX=>hX
 | k+1,_,hX=>aEb hc k _ (aKw hc hX)
def gateB (md:Region.Mode) (ops:Array Oper) (n k:Nat):Bool:=(List.range ops.size).all fun j=>decide (j<n)||match ops[j]? with
 | some o=>(List.range n).all fun i=>(aIa md ops k ((o.after.toList.filter (Region.binds md)).map (·.on))).contains i
 | none=>true
theorem aPt {k:Nat} {l:Array Bool} {i j:Nat} (hg:gateB md ops n k=true) (hc:aCj md ops l) (hj:j∈Region.ready md ops l) (hi:i<n) (hun:l.getD i false=false):j<n:=by
 obtain ⟨_,o,ho,hall⟩:=mem_ready.1 hj
 have hlt:j<ops.size:=(Array.getElem?_eq_some_iff.1 ho).1
 have h1:=List.all_eq_true.1 hg j (List.mem_range.2 hlt)
 rcases Bool.or_eq_true _ _ ▸ h1 with h1 | h1
 ·exact of_decide_eq_true h1
 ·simp only [ho] at h1
  have h2:=List.all_eq_true.1 h1 i (List.mem_range.2 hi)
  have h3:=aEb hc k ((o.after.toList.filter (Region.binds md)).map (·.on)) (fun x hx=>by
   obtain ⟨e,he,rfl⟩:=List.mem_map.1 hx
   obtain ⟨he1,he2⟩:=List.mem_filter.1 he
   exact hall e (Array.mem_toList_iff.1 he1) he2) i (by simpa using h2)
  rw [hun] at h3
  cases h3
def aD7 (P:Program) (ops:Array Oper) (S:World→Prop) (o:Oper) (v:Value) (a:Act):Prop :=
 (Region.wanted o (yielded ops a.tmps)=true∧∀ w,S w→o.quietAt P a (fun w2=>Grow w w2∧S w2) w v)∨(Region.wanted o (yielded ops a.tmps)=false∧v=undef)
theorem aD7.same {o:Oper} {v:Value} {a a':Act} (h:aD7 P ops S o v a) (he:execOp a'.eval o=execOp a.eval o) (hw:Region.wanted o (yielded ops a'.tmps)=Region.wanted o (yielded ops a.tmps)):aD7 P ops S o v a':=by
 unfold aD7 Oper.quietAt at *
 rw [he,hw]
 exact h
theorem aD7.run {i:Nat} {o:Oper} {v:Value} {a:Act} {w:World} {K:Act→World→Prop} (hi:ops[i]?=some o) (h:aD7 P ops S o v a) (hs:S w) (hk:∀ w2,Grow w w2→S w2→K (a.put o.dst v) w2):wpOp P ops Q i K a w:=by
 unfold wpOp
 simp only [hi]
 rcases h with ⟨hw,h⟩ | ⟨hw,rfl⟩
 ·simp only [hw,if_true]
  refine .inl ?_
  have h1:=h w hs
  unfold Oper.quietAt at h1
  unfold Oper.wp
  generalize (execOp a.eval o).run P w=r at *
  cases r with
  | ok x w1 =>
    cases x<;>simp only [Oper.quietUpon] at h1<;>simp only [Oper.upon]
    case value u=>obtain ⟨rfl,rfl⟩:=h1;exact hk _ (Grow.refl _) hs
    case skip=>obtain ⟨rfl,rfl⟩:=h1;exact hk _ (Grow.refl _) hs
    case enter g args =>
     obtain ⟨rfl,hc⟩:=h1
     exact hc.mono fun e w2 ⟨he,h2,h3⟩=>by subst he;exact hk _ h2 h3
  | halt x w1=>simp only [Oper.quietUpon] at h1
 ·simp only [hw,Bool.false_eq_true,if_false]
  exact hk w (Grow.refl w) hs
theorem aGp {j:Nat} {oi oj:Oper} {v:Value} {Y:Act→Prop} (hj:ops[j]?=some oj) (hap:oi.apart ops oj=true) (hsj:∀ cs b,oj.op≠.select cs b)
  (hQ:∀ c a w,Q (.panic c) (a.put oi.dst v) w→Q (.panic c) a w) (hY:∀ a u,Y a→Y (a.put oj.dst u)) (hD:∀ a d,Y a→Y { a with defers:=d::a.defers })
  {K:Act→World→Prop} {a:Act} {w:World} (hy:Y a) (h:wpOp P ops Q j K (a.put oi.dst v) w):wpOp P ops Q j (fun a' w'=>Y a'∧K (a'.put oi.dst v) w') a w:=by
 obtain ⟨h1,h2,_⟩:=Oper.apart_spec hap
 unfold wpOp at *
 simp only [hj] at *
 rw [wanted_put oj a oi.dst v h1] at h
 by_cases hw:Region.wanted oj (yielded ops a.tmps)=true
 ·simp only [hw,if_true] at h ⊢
  rcases h with h | ⟨ha,hl⟩
  ·refine .inl ?_
   unfold Oper.wp at *
   rw [execOp_put oj hsj a oi.dst v h1] at h
   generalize (execOp a.eval oj).run P w=r at *
   cases r with
   | ok x w' =>
     cases x<;>simp only [Oper.upon] at h ⊢
     case value u=>exact ⟨hY a u hy,by rw [←Act.put_comm a v u h2];exact h⟩
     case skip=>exact ⟨hY a _ hy,by rw [←Act.put_comm a v undef h2];exact h⟩
     case defer d =>
      refine ⟨hY _ _ (hD a d hy),?_⟩
      rw [←Act.put_comm _ v undef h2,←Act.put_defers]
      exact h
     case enter g args =>
      refine Calls.mono h fun e w2 he=>?_
      cases e with
      | returned u=>exact ⟨hY a u hy,by rw [←Act.put_comm a v u h2];exact he⟩
      | panicked c=>exact hQ _ _ _ he
      | outgrown=>exact he
     case row row args=>exact Rows.mono h fun u w2 he=>⟨hY a u hy,by rw [←Act.put_comm a v u h2];exact he⟩
   | halt x w' =>
     cases x<;>simp only [Oper.upon] at h ⊢
     case panic u=>exact hQ _ _ _ h
  ·exact .inr ⟨by unfold Oper.asks at *;rw [execOp_put oj hsj a oi.dst v h1] at ha;exact ha,hl⟩
 ·simp only [hw] at h ⊢
  exact ⟨hY a _ hy,by rw [←Act.put_comm a v undef h2];exact h⟩
theorem aPu {i k:Nat} {oi:Oper} {v:Value} (hi:ops[i]?=some oi) (hsel:∀ (j:Nat) (o:Oper) cs b,ops[j]?=some o→o.op≠.select cs b) (hin:i<n) (hg:gateB md ops n k=true)
  (hQ:∀ c a w,Q (.panic c) (a.put oi.dst v) w→Q (.panic c) a w) :
  ∀ (f:Nat) (l:Array Bool) (a:Act) (w:World),
    (∀ j oj,ops[j]?=some oj→j≠i→l.getD j true=false→(∀ e∈oj.after,Region.binds md e=true→e.on≠i)→oi.apart ops oj=true) →
    aCj md ops l→i∈Region.ready md ops l→aD7 P ops S oi v a →
    wpG P md ops Q S n f (l.setIfInBounds i true) (a.put oi.dst v) w→wpG P md ops Q S n (f+1) l a w:=by
 intro f
 induction f with
 | zero =>
   intro l a w _ _ hr hy H w' hg' hs
   refine ⟨fun h=>(by rw [h] at hr;cases hr),fun j hj=>?_⟩
   by_cases hji:j=i
   ·subst hji
    refine hy.run hi hs fun w2 g2 s2=>?_
    rw [if_pos hin]
    exact ⟨s2,aKv H (hg'.trans g2)⟩
   ·have:=ready_mono hj hji
    rw [(H w' hg' hs).1] at this
    cases this
 | succ f ih =>
   intro l a w hfree hc hr hy H w' hg' hs
   refine ⟨fun h=>(by rw [h] at hr;cases hr),fun j hj=>?_⟩
   by_cases hji:j=i
   ·subst hji
    refine hy.run hi hs fun w2 g2 s2=>?_
    rw [if_pos hin]
    exact ⟨s2,aKv H (hg'.trans g2)⟩
   ·have h1:=(H w' hg' hs).2 j (ready_mono hj hji)
    obtain ⟨hjun,oj,hoj,hall⟩:=mem_ready.1 hj
    have hiun:l.getD i false=false:=by
     have h0:=(mem_ready.1 hr).1
     rcases Nat.lt_or_ge i l.size with h' | h'
     ·simp [h'] at h0 ⊢;exact h0
     ·simp [Array.getElem?_eq_none h']
    have hjn:j<n:=aPt hg hc hj hin hiun
    have hnot:∀ e∈oj.after,Region.binds md e=true→e.on≠i:=fun e he hb heq=>by
     have h2:=hall e he hb
     rw [heq,hiun] at h2
     cases h2
    have hap:=hfree j oj hoj hji hjun hnot
    obtain ⟨_,_,h3⟩:=Oper.apart_spec hap
    have h2:=aGp (Y:=fun a=>aD7 P ops S oi v a) hoj hap (fun cs b=>hsel j oj cs b hoj) hQ
     (fun a u hya=>hya.same (execOp_put oi (fun cs b=>hsel i oi cs b hi) a oj.dst u h3) (wanted_put oi a oj.dst u h3)) (fun a d hya=>hya.same rfl rfl) hy h1
    refine wpOp_mono (fun a' w2 h4=>?_) h2
    rw [if_pos hjn] at h4 ⊢
    refine ⟨h4.2.1,ih (l.setIfInBounds j true) a' w2 ?_ (aI9 hc hj) (ready_mono hr (Ne.symm hji)) h4.1 ?_⟩
    ·intro m om hm hmi hun hno
     refine hfree m om hm hmi ?_ hno
     by_cases hjm:j=m
     ·subst hjm;exact hjun
     ·rw [getD_set_ne true hjm] at hun;exact hun
    ·rw [Array.setIfInBounds_comm _ _ hji]
     exact h4.2.2
theorem op_at {i:Nat} {o:Oper} {rest:List Oper} (h:ops.toList.drop i=o::rest):ops[i]?=some o:=by
 have:=congrArg List.head? h
 rw [List.head?_drop,Array.getElem?_toList] at this
 exact this
theorem wpG_take {i:Nat} (k:Nat) {oi:Oper} {rest:List Oper} {v:Value} {f:Nat} {l:Array Bool} {a:Act} {w:World} (hi:ops.toList.drop i=oi::rest) (hs:Region.noSelect ops=true) (hf:Region.free md ops l i=true) (hr:(Region.ready md ops l).contains i=true)
  (hin:i<n) (hg:gateB md ops n k=true) (hc:closedB md ops l=true) (hQ:∀ c a w,Q (.panic c) (a.put oi.dst v) w→Q (.panic c) a w) (hy:aD7 P ops S oi v a)
  (h:wpG P md ops Q S n f (l.setIfInBounds i true) (a.put oi.dst v) w):wpG P md ops Q S n (f+1) l a w :=
 aPu (op_at hi) (Region.noSelect_spec hs) hin hg hQ f l a w (Region.free_spec (op_at hi) hf) (aMj hc) (by simpa using hr) hy h
theorem aB4 {id:Nat} {a:Act} {w:World} (n:Nat) (S:World→Prop) (hm:P.follows .mixedOrders=true) (hs:S w.drew) (h:wpG P .any ops Q S n ops.size (Array.replicate ops.size false) a w.drew):(Code.region id ops true).wp P Q a w :=
 wp_region_any hm (aI8 _ _ _ _ h hs)
theorem aAf {rs:List Nat} {f:Nat} {l:Array Bool} {a:Act} {w:World} (hr:Region.ready md ops l=rs) (hne:rs≠[])
  (h:∀ w',Grow w w'→S w'→∀ i∈rs,wpOp P ops Q i (fun a' w2=>if i<n then S w2∧wpG P md ops Q S n f (l.setIfInBounds i true) a' w2 else wpAny P md ops Q f (l.setIfInBounds i true) a' w2) a w'):wpG P md ops Q S n (f+1) l a w :=
 fun w' hg hs=>⟨fun h0=>absurd (hr ▸ h0) hne,hr ▸ h w' hg hs⟩
theorem aCm {i:Nat} {f:Nat} {l:Array Bool} {a:Act} {w:World} (hr:Region.ready md ops l=[i]) (h:wpOp P ops Q i (wpAny P md ops Q f (l.setIfInBounds i true)) a w):wpAny P md ops Q (f+1) l a w :=
 ⟨fun h0=>(by rw [hr] at h0;cases h0),fun j hj=>by rw [hr,List.mem_singleton] at hj;subst hj;exact h⟩
theorem aBf {f:Nat} {l:Array Bool} {a:Act} {w:World} (hr:Region.ready md ops l=[]) (h:Q .normal a w):wpAny P md ops Q f l a w:=by
 cases f with
 | zero=>exact ⟨hr,h⟩
 | succ f=>exact ⟨fun _=>h,fun i hi=>by rw [hr] at hi;cases hi⟩
theorem aAb {i:Nat} {o:Oper} {rest:List Oper} {K:Act→World→Prop} {a:Act} {w:World} (ho:ops.toList.drop i=o::rest) (hw:Region.wanted o (yielded ops a.tmps)=true) (h:∀ K':Act→World→Prop,(∀ a w,K a w→K' a w)→o.wp P a w K' Q):wpOp P ops Q i K a w:=by
 unfold wpOp
 simp only [op_at ho,hw,if_true]
 exact .inl (h K fun _ _ h=>h)
theorem aAx {i f:Nat} {l:Array Bool} {a:Act} {w:World} (hin:i<n) (hs:S w) (h:wpG P md ops Q S n f l a w):if i<n then S w∧wpG P md ops Q S n f l a w else wpAny P md ops Q f l a w:=by
 rw [if_pos hin]
 exact ⟨hs,h⟩
theorem aBq {i f:Nat} {l:Array Bool} {a:Act} {w:World} (hin:¬ i<n) (h:wpAny P md ops Q f l a w):if i<n then S w∧wpG P md ops Q S n f l a w else wpAny P md ops Q f l a w:=by
 rw [if_neg hin]
 exact h
end
theorem aFv {P:Program} {f:FuncId} {args:Array Value} {w base:World} {B:Nat} {v:Value} (hS:Below B base w) (hB:B≤base.heap.size)
  (h:Calls P f args w fun e w'=>e=.returned v∧Below w.heap.size w w'):Calls P f args w fun e w'=>e=.returned v∧Grow w w'∧Below B base w' :=
 h.mono fun _ _ ⟨he,hb⟩=>⟨he,hb,hS.trans (hb.mono (Nat.le_trans hB hS.size))⟩
theorem aAq {P:Program} {f:FuncId} {args:Array Value} {w base:World} {B:Nat} {v:Value} (hS:Below B base w)
  (h:Calls P f args w fun e w'=>e=.returned v∧w'=w):Calls P f args w fun e w'=>e=.returned v∧Grow w w'∧Below B base w' :=
 h.mono fun _ _ ⟨he,hb⟩=>by subst hb;exact ⟨he,Grow.refl _,hS⟩
end Go.Proofs.YthnodpdiocppgaaGreatDoor
namespace Go.Proofs.YthnodpdiocppgaaGreatDoor
open Go Go.RowKit Go.Shelf Go.ChangeShapes Go.WideShapes Go.Deep
structure Elem (α:Type) where
 cells:α→List Value
 n:Nat
 A:α→World→Prop
 len:∀ x,(cells x).length=n
 pos:0<n
 one:∀ x w,A x w→∀ u∈cells x,u.oneCell'=true
 below:∀ x w w',A x w→Below w.heap.size w w'→A x w'
section
variable {α:Type} (E:Elem α)
def Elem.flat (l:List α):List Value:=l.flatMap E.cells
def Elem.At (w:World) (g o:Nat) (x:α):Prop:=∀ j u,(E.cells x)[j]?=some u→w.cell? ⟨g,o+j,none⟩=some u
def Sl (w:World) (v:Value) (l:List α):Prop :=
 ∃ a cap,v=.slice a l.length cap∧l.length≤cap∧cap≤maxLen ∧
   ∀ i (h:i<l.length),E.A l[i] w∧∃ g off,a=some ⟨g,off,none⟩∧g<w.heap.size∧E.At w g (off+i*E.n) l[i]
variable {E}
theorem Elem.At.below {w w':World} {g o:Nat} {x:α} (h:E.At w g o x) (hg:g<w.heap.size) (hb:Below w.heap.size w w'):E.At w' g o x :=
 fun j u hu=>(hb.cell (p:=⟨g,o+j,none⟩) hg).trans (h j u hu)
theorem Sl.below {w w':World} {v:Value} {l:List α} (h:Sl E w v l) (hb:Below w.heap.size w w'):Sl E w' v l:=by
 obtain ⟨a,cap,hv,h1,h2,hc⟩:=h
 refine ⟨a,cap,hv,h1,h2,fun i hi=>?_⟩
 obtain ⟨hat,g,off,hg,hlt,c⟩:=hc i hi
 exact ⟨E.below _ _ _ hat hb,g,off,hg,Nat.lt_of_lt_of_le hlt hb.size,c.below hlt hb⟩
theorem Sl.nil (w:World):Sl E w (.slice none 0 0) []:=⟨none,0,rfl,Nat.le_refl _,Nat.zero_le _,fun i hi=>absurd hi (by simp)⟩
theorem Sl.len {w:World} {v:Value} {l:List α} (h:Sl E w v l):l.length≤9223372036854775807:=by
 obtain ⟨_,_,_,h1,h2,_⟩:=h
 unfold maxLen at h2
 omega
theorem Sl.form {w:World} {v:Value} {l:List α} (h:Sl E w v l):∃ a cap,v=.slice a l.length cap:=by
 obtain ⟨a,cap,hv,_⟩:=h
 exact ⟨a,cap,hv⟩
theorem Sl.all {w:World} {v:Value} {l:List α} (h:Sl E w v l):∀ x∈l,E.A x w:=by
 obtain ⟨_,_,_,_,_,hc⟩:=h
 intro x hx
 obtain ⟨i,hi,rfl⟩:=List.getElem_of_mem hx
 exact (hc i hi).1
theorem Elem.flat_append (a b:List α):E.flat (a++b)=E.flat a++E.flat b:=by simp [Elem.flat]
theorem Elem.flat_cons (x:α) (l:List α):E.flat (x::l)=E.cells x++E.flat l:=rfl
theorem Elem.flat_one (x:α):E.flat [x]=E.cells x:=by simp [Elem.flat]
theorem Elem.flat_len (l:List α):(E.flat l).length=l.length*E.n:=by
 induction l with
 | nil=>simp [Elem.flat]
 | cons x l ih =>
   rw [Elem.flat_cons,List.length_append,ih,E.len,List.length_cons,Nat.add_mul,Nat.one_mul,Nat.add_comm]
theorem Elem.flat_at:∀ (l:List α) (i:Nat) (h:i<l.length) (j:Nat),j<E.n→(E.flat l)[i*E.n+j]?=(E.cells l[i])[j]?
 | x::l,0,_,j,hj=>by
   rw [Elem.flat_cons,Nat.zero_mul,Nat.zero_add,List.getElem?_append_left (by rw [E.len];exact hj)]
   rfl
 | x::l,i+1,h,j,hj=>by
   have ih:=Elem.flat_at l i (by simpa using h) j hj
   rw [Elem.flat_cons,List.getElem?_append_right (by rw [E.len,Nat.add_mul,Nat.one_mul];omega),E.len]
   rw [show (i+1)*E.n+j - E.n=i*E.n+j by rw [Nat.add_mul,Nat.one_mul];omega]
   exact ih
theorem Elem.flat_ones {w:World} {l:List α} (hl:∀ x∈l,E.A x w):∀ u∈E.flat l,u.oneCell'=true:=by
 intro u hu
 obtain ⟨x,hx,hu⟩:=List.mem_flatMap.1 hu
 exact E.one x w (hl x hx) u hu
theorem Elem.flat_inv (l:List α) (j:Nat) (u:Value) (h:(E.flat l)[j]?=some u):∃ i,∃ hi:i<l.length,∃ m,m<E.n∧j=i*E.n+m∧(E.cells l[i])[m]?=some u:=by
 have hj:j<l.length*E.n:=by rw [←E.flat_len];exact (List.getElem?_eq_some_iff.1 h).1
 have hn:=E.pos
 have hi:j / E.n<l.length:=(Nat.div_lt_iff_lt_mul hn).2 hj
 have hm:j % E.n<E.n:=Nat.mod_lt _ hn
 have e:j=j / E.n*E.n+j % E.n:=by rw [Nat.mul_comm];exact (Nat.div_add_mod j E.n).symm
 refine ⟨j / E.n,hi,j % E.n,hm,e,?_⟩
 rw [←Elem.flat_at l (j / E.n) hi (j % E.n) hm,←e]
 exact h
theorem Sl.of_row {w:World} {base t:Nat} {v:Value} {l:List α} {n:Nat} (hn:n=l.length) (h:w.ownsRow base t E.n v n (E.flat l)) (hl:∀ x∈l,E.A x w):Sl E w v l:=by
 subst hn
 obtain ⟨_,h2⟩:=h
 rcases h2 with ⟨rfl,h0⟩ | ⟨g,cap,cur,rfl,hg,hgb,hle,hcm,hsz,hcur⟩
 ·have:l=[]:=List.eq_nil_of_length_eq_zero h0
  subst this
  exact Sl.nil w
 ·refine ⟨some ⟨g,0,none⟩,cap,rfl,hle,hcm,fun i hi=>⟨hl _ (List.getElem_mem hi),g,0,rfl,(Array.getElem?_eq_some_iff.1 hgb).1,fun j u hu=>?_⟩⟩
  have hj:j<E.n:=by rw [←E.len l[i]];exact (List.getElem?_eq_some_iff.1 hu).1
  have hlt:i*E.n+j<l.length*E.n:=by
   have:(i+1)*E.n≤l.length*E.n:=Nat.mul_le_mul_right _ hi
   rw [Nat.add_mul,Nat.one_mul] at this
   omega
  rw [←Elem.flat_at l i hi j hj,←hcur,List.getElem?_take_of_lt hlt] at hu
  rw [Nat.zero_add]
  simp [World.cell?,hgb]
  simpa using hu
theorem Sl.news {w:World} {ad:Addr} {n c:Nat} {l:List α} (h:Sl E w (.slice (some ad) n c) l):∀ j u,(E.flat l)[j]?=some u→w.cell? (ad.add j)=some u:=by
 intro j u hu
 obtain ⟨i,hi,m,_,rfl,hm⟩:=Elem.flat_inv l j u hu
 obtain ⟨a,cap,hv,_,_,hcell⟩:=h
 obtain ⟨_,g,off,ha,_,c⟩:=hcell i hi
 subst ha
 injection hv with e1
 injection e1 with e1
 subst e1
 rw [add_plain,←Nat.add_assoc]
 exact c m u hm
theorem Sl.lies {w:World} {x:Value} {l:List α} (h:Sl E w x l):Lies w x l.length (E.flat l):=by
 have h0:=h
 obtain ⟨a,cap,rfl,_,_,hc⟩:=h
 cases a with
 | some ad=>exact .inl ⟨ad,cap,rfl,h0.news⟩
 | none =>
   have:l=[]:=by
    cases l with
    | nil=>rfl
    | cons p r=>obtain ⟨_,g,off,hg,_⟩:=hc 0 (by simp);cases hg
   subst this
   exact .inr ⟨cap,rfl,rfl⟩
theorem Sl.pre {w:World} {a:Option Addr} {n cap:Nat} {l:List α} (h:Sl E w (.slice a n cap) l) {k:Nat} (hk:k≤l.length):Sl E w (.slice a k cap) (l.take k):=by
 obtain ⟨a',cap',hv,h1,h2,hc⟩:=h
 injection hv with e1 e2 e3
 subst e1 e2 e3
 have hl:(l.take k).length=k:=by simp;omega
 refine ⟨a,cap,by rw [hl],by rw [hl];omega,h2,fun i hi=>?_⟩
 rw [hl] at hi
 obtain ⟨hat,g,off,ha,hg,c⟩:=hc i (by omega)
 exact ⟨by simpa using hat,g,off,ha,hg,by simpa using c⟩
theorem Sl.at_block {w:World} {p t:Nat} {x:α} (hb:w.heap[p]?=some (.cells (E.cells x).toArray t)) (hx:E.A x w):Sl E w (.slice (some ⟨p,0,none⟩) 1 1) [x]:=by
 refine ⟨_,1,rfl,Nat.le_refl _,by decide,fun i hi=>?_⟩
 have:i=0:=by simpa using hi
 subst this
 refine ⟨hx,p,0,rfl,(Array.getElem?_eq_some_iff.1 hb).1,fun j u hu=>?_⟩
 simp only [World.cell?]
 rw [hb]
 simpa using hu
theorem Sl.lit (w:World) (t:Nat) (l:List α) (cs:Array Value) (hcs:cs=(E.flat l).toArray) (n p:Nat) (hn:n=l.length) (hp:w.heap.size=p) (h100:n≤1000) (hl:∀ x∈l,E.A x (w.alloc (.cells cs t))) :
  Sl E (w.alloc (.cells cs t)) (.slice (some ⟨p,0,none⟩) n n) l:=by
 subst hn hcs hp
 refine Sl.of_row (base:=w.heap.size) (t:=t) rfl ⟨E.flat_len l,.inr ⟨w.heap.size,l.length,(E.flat l).toArray,rfl,Nat.le_refl _,aA7 w _,Nat.le_refl _,by unfold maxLen;omega,?_,?_⟩⟩ hl
 ·simp [E.flat_len]
 ·rw [List.take_of_length_le]
  simp [E.flat_len]
theorem aAn (t n:Nat) (w:World) (p:Nat) (h:w.heap.size=p):(w.alloc (.cells #[] t)).ownsRow p t n (.slice (some ⟨p,0,none⟩) 0 0) 0 []:=by
 subst h
 exact ⟨by simp,.inr ⟨w.heap.size,0,#[],rfl,Nat.le_refl _,aA7 w _,Nat.le_refl _,Nat.zero_le _,by simp,by simp⟩⟩
theorem aAg {P:Program} {o:Oper} {a:Act} {Q:Exit→Act→World→Prop} {ops:Array Oper} {rest:List Oper} (t e:TypeId) (z:Value) (bytes:Nat) (ht:P.underlying t=some (.slice e)) (hinfo:(P.info? e).map (fun i=>(i.zero,i.size,i.bytes))=some (some z,E.n,bytes)) (hz:z.cells.size=E.n) (hby:bytes≤1000000) (w:World) (s x:Operand)
  (ho:o.op=.call { callee:=.builtin .append,args:=#[s,x],argTypes:=#[t,t] }) (hw:Region.wanted o (yielded ops a.tmps)=true)
  (base:Nat) (v:Value) (n:Nat) (xs:List α) (hs:a.eval s=v) (hown:w.ownsRow base e E.n v n (E.flat xs))
  (y:Value) (l:List α) (hy:a.eval x=y) (hl:Sl E w y l) (hn:n+l.length≤100000) (hbase:base≤w.heap.size)
  (h:∀ v' w',w'.ownsRow base e E.n v' (n+l.length) (E.flat (xs++l))→w.grownBy w' v.ownBlock→wpList P ops Q rest (a.put o.dst v') w'):wpList P ops Q (o::rest) a w:=by
 obtain ⟨i0,hi,hz0,hz1,hz2⟩:=info_parts hinfo
 exact aEc w s x _ ho base _ i0 _ E.n bytes ht hi hz0 hz1 hz2 hz E.pos v n (E.flat xs) hs hown y l.length (E.flat l) hy hl.lies (E.flat_len l) (Elem.flat_ones hl.all) (by unfold maxLen;omega) (Nat.le_trans (Nat.mul_le_mul hn hby) (by decide)) hbase hw (fun v' w' h2 h3=>h v' w' (by rw [Elem.flat_append];exact h2) h3)
theorem aCk {H:Type} {enc:TypeId × Value→H} {P:Program} {W:World} {t e:TypeId} {R:α→Prop} (ht:P.underlying t=some (.slice e)) (hce:P.cellsOf e=E.n)
  (hel:∀ (fuel:Nat) (cs:List Value) (y:DataW H × List MemPlace),cs.length=E.n→DataW.trod enc P W 0 (fun _=>true) true fuel e cs=some y→∃ x,cs=E.cells x∧E.A x W∧R x) (hne:Nonempty α)
  {fuel:Nat} {v:Value} {y:DataW H × List MemPlace} (hf:DataW.trod enc P W 0 (fun _=>true) true fuel t [v]=some y):∃ l:List α,Sl E W v l∧∀ x∈l,R x:=by
 rcases open_slice ht hf with ⟨hcs,_⟩ | ⟨a,len,cap,m,n,D,Pl,hcs,_,hl,hm,hmm,_,hx⟩
 ·simp only [List.cons.injEq,and_true] at hcs
  subst hcs
  exact ⟨[],Sl.nil W,fun p hp=>absurd hp (by simp)⟩
 ·simp only [List.cons.injEq,and_true] at hcs
  subst hcs
  simp only [if_true] at hmm
  subst hmm
  have each:∀ i,i<len→∃ x:α,(∀ j u,(E.cells x)[j]?=some u→W.cell? (a.add (i*E.n+j))=some u)∧E.A x W∧R x:=by
   intro i hi
   obtain ⟨cs',h1,h2⟩:=hx i (by omega)
   rw [hce] at h1
   obtain ⟨_,hlen,hcell⟩:=World.cells?_some h1
   obtain ⟨x,rfl,h3,h4⟩:=hel _ _ _ hlen h2
   refine ⟨x,fun j u hu=>?_,h3,h4⟩
   have hj:j<E.n:=by rw [←E.len x];exact (List.getElem?_eq_some_iff.1 hu).1
   have:=hcell j hj
   rw [add_add] at this
   rw [this]
   exact hu
  have hch:∃ f:Nat→α,∀ i,i<len→(∀ j u,(E.cells (f i))[j]?=some u→W.cell? (a.add (i*E.n+j))=some u)∧E.A (f i) W∧R (f i) :=
   ⟨fun i=>if h:i<len then (each i h).choose else Classical.choice hne,fun i hi=>by
    have:=(each i hi).choose_spec
    simp only [dif_pos hi]
    exact this⟩
  obtain ⟨f,hf2⟩:=hch
  refine ⟨(List.range len).map f,⟨some a,m,by simp,by simp;omega,hm,fun i hi=>?_⟩,fun p hp=>?_⟩
  ·have hi':i<len:=by simpa using hi
   obtain ⟨b,off,spot⟩:=a
   obtain ⟨hc,hat,_⟩:=hf2 i hi'
   have c0:∃ u,(E.cells (f i))[0]?=some u:=by
    have h0:0<(E.cells (f i)).length:=by rw [E.len];exact E.pos
    exact ⟨_,List.getElem?_eq_getElem h0⟩
   obtain ⟨u0,hu0⟩:=c0
   have hspot:spot=none:=by
    obtain ⟨hz,_,_⟩:=hf2 0 (by omega)
    have h0:0<(E.cells (f 0)).length:=by rw [E.len];exact E.pos
    have:=World.cell?_spot (hz 0 _ (List.getElem?_eq_getElem h0))
    simpa [Addr.add] using this
   subst hspot
   have hc0:=hc 0 u0 hu0
   rw [add_plain] at hc0
   refine ⟨by simpa using hat,b,off,rfl,World.block_lt_of_cell? _ _ hc0,?_⟩
   have key:E.At W b (off+i*E.n) (f i):=fun j u hu=>by
    have:=hc j u hu
    rw [add_plain,←Nat.add_assoc] at this
    exact this
   simpa using key
  ·obtain ⟨i,hi,rfl⟩:=List.mem_map.1 hp
   exact (hf2 i (List.mem_range.1 hi)).2.2
end
end Go.Proofs.YthnodpdiocppgaaGreatDoor
namespace Go.Proofs.YthnodpdiocppgaaGreatDoor
open Go Go.RowKit Go.Shelf
theorem aA0 {w:World} {g i:Nat} {cs:Array Value} {t:Nat} {u:Value} (h:w.heap[g]?=some (.cells cs t)) (hu:cs[i]?=some u):w.cell? ⟨g,i,none⟩=some u:=by
 simp only [World.cell?]
 rw [h]
 exact hu
theorem aAl {w:World} {g:Nat} {cs:Array Value} {t:Nat} (h:w.heap[g]?=some (.cells cs t)) (i:Nat):w.frozen? ⟨g,i,none⟩=false:=by
 simp only [World.frozen?]
 rw [h]
 rfl
theorem aAs {w:World} {n:Nat} {o:Obj} (h:w.heap[n]?=some o):n<w.heap.size:=(Array.getElem?_eq_some_iff.1 h).1
theorem aA2 {w W:World} {g:Nat} {o:Obj} (h:w.heap[g]?=some o) (hb:Below w.heap.size w W):W.heap[g]?=some o:=(hb.block g (aAs h)).trans h
def setL (W:World) (g:Nat):Nat→List Value→World
 | _,[]=>W
 | k,c::cs=>setL (W.setCell ⟨g,k,none⟩ c) g (k+1) cs
theorem aCf {g m:Nat} (hne:m≠g):∀ (cs:List Value) (W:World) (k:Nat),(setL W g k cs).heap[m]?=W.heap[m]?
 | [],_,_=>rfl
 | c::cs,W,k=>by
   show (setL (W.setCell ⟨g,k,none⟩ c) g (k+1) cs).heap[m]?=_
   rw [aCf hne cs]
   exact aEk hne
theorem aJp {g:Nat}:∀ (cs:List Value) (W:World) (k:Nat),(setL W g k cs).heap.size=W.heap.size
 | [],_,_=>rfl
 | c::cs,W,k=>by
   show (setL (W.setCell ⟨g,k,none⟩ c) g (k+1) cs).heap.size=_
   rw [aJp cs]
   simp [World.setCell]
theorem aAh {w:World} {B g:Nat} (hn:B≤g):∀ (cs:List Value) (W:World) (k:Nat),Below B w W→Below B w (setL W g k cs)
 | [],_,_,h=>h
 | c::cs,W,k,h=>aAh hn cs (W.setCell ⟨g,k,none⟩ c) (k+1) (h.setCell (p:=⟨g,k,none⟩) hn c)
theorem aJ8 {g t:Nat}:∀ (cs pre old:List Value) (W:World),W.heap[g]?=some (.cells (pre++old).toArray t)→old.length=cs.length→(setL W g pre.length cs).heap[g]?=some (.cells (pre++cs).toArray t)
 | [],pre,old,W,h,hl=>by
   have:old=[]:=List.eq_nil_of_length_eq_zero hl
   subst this
   exact h
 | c::cs,pre,old,W,h,hl=>by
   match old,hl with
   | o::old,hl =>
     have h1:(W.setCell ⟨g,pre.length,none⟩ c).heap[g]?=some (.cells ((pre++[c])++old).toArray t):=by
      obtain ⟨hlt,hk⟩:=Array.getElem?_eq_some_iff.1 h
      show (W.heap.modify g _)[g]?=_
      rw [Array.getElem?_eq_getElem (by rw [Array.size_modify];exact hlt),Array.getElem_modify_self,hk]
      simp
     have:=aJ8 cs (pre++[c]) old (W.setCell ⟨g,pre.length,none⟩ c) h1 (by simpa using hl)
     rw [List.length_append,List.length_singleton] at this
     show (setL (W.setCell ⟨g,pre.length,none⟩ c) g (pre.length+1) cs).heap[g]?=_
     rw [this]
     simp
theorem aB2 {W:World} {g t:Nat} {old:Array Value} (cs:List Value) (h:W.heap[g]?=some (.cells old t)) (hl:old.size=cs.length):(setL W g 0 cs).heap[g]?=some (.cells cs.toArray t):=by
 have:=aJ8 (g:=g) (t:=t) cs [] old.toList W (by simpa using h) (by simpa using hl)
 simpa using this
theorem aEu {W:World} {b0 e0 s n g:Nat} {u:Value} {xs:List Value} {old:Array Value} {t k:Nat} {cs:List Value} (h:W.ownsRow b0 e0 s u n xs) (hz:W.heap[g]?=some (.cells old t)) (hne:e0≠t):(setL W g k cs).ownsRow b0 e0 s u n xs:=by
 obtain ⟨h1,h2⟩:=h
 refine ⟨h1,?_⟩
 rcases h2 with h2 | ⟨g',cap,cur,hv,hb,hh,r⟩
 ·exact .inl h2
 ·refine .inr ⟨g',cap,cur,hv,hb,?_,r⟩
  rw [aCf (fun e1=>?_)]
  ·exact hh
  ·rw [e1,hz] at hh
   injection hh with hh
   injection hh with _ hh _
   exact hne hh.symm
theorem aCn {W:World} {b0 e0 s n g:Nat} {u:Value} {xs:List Value} {k:Nat} {cs:List Value} (h:W.ownsRow b0 e0 s u n xs) (hg:g<b0):(setL W g k cs).ownsRow b0 e0 s u n xs:=by
 obtain ⟨h1,h2⟩:=h
 refine ⟨h1,?_⟩
 rcases h2 with h2 | ⟨g',cap,cur,hv,hb,hh,r⟩
 ·exact .inl h2
 ·refine .inr ⟨g',cap,cur,hv,hb,?_,r⟩
  rw [aCf (by omega)]
  exact hh
end Go.Proofs.YthnodpdiocppgaaGreatDoor
namespace Go.Proofs.YthnodpdiocppgaaGreatDoor
open Go Go.RowKit
def putF (f:Nat→Value):Nat→List (Option Nat)→Act→Act
 | _,[],a=>a
 | k,d::r,a=>putF f (k+1) r (a.put d (f k))
def updF (f:Nat→Value) (i:Nat) (v:Value):Nat→Value:=fun j=>if j=i then v else f j
theorem aTz (a:Act) (d:Nat) (u v:Value):(a.put (some d) u).put (some d) v=a.put (some d) v:=by
 simp [Act.put]
theorem aKx {f:Nat→Value} {y:Option Nat} {u:Value}:∀ (D:List (Option Nat)) (k:Nat) (a:Act),(∀ d∈D,d≠y)→(putF f k D a).put y u=putF f k D (a.put y u)
 | [],_,_,_=>rfl
 | d::r,k,a,h=>by
   show (putF f (k+1) r (a.put d (f k))).put y u=putF f (k+1) r ((a.put y u).put d (f k))
   rw [aKx r (k+1) _ (fun d' hd'=>h d' (List.mem_cons_of_mem _ hd')),Act.put_comm a (f k) u (fun x hx hy=>h d List.mem_cons_self (by rw [hx,hy]))]
theorem aIb {f g:Nat→Value}:∀ (D:List (Option Nat)) (k:Nat) (a:Act),(∀ j,k≤j→f j=g j)→putF f k D a=putF g k D a
 | [],_,_,_=>rfl
 | d::r,k,a,h=>by
   show putF f (k+1) r (a.put d (f k))=putF g (k+1) r (a.put d (g k))
   rw [h k (Nat.le_refl _),aIb r (k+1) _ (fun j hj=>h j (by omega))]
theorem aKy {f:Nat→Value} {i d:Nat} {v:Value}:∀ (D:List (Option Nat)) (k:Nat) (a:Act),k≤i→D[i - k]?=some (some d)→D.Pairwise (·≠·)→(putF f k D a).put (some d) v=putF (updF f i v) k D a
 | [],_,_,_,h,_=>by simp at h
 | d0::r,k,a,hk,h,hp=>by
   obtain ⟨hp1,hp2⟩:=List.pairwise_cons.1 hp
   show (putF f (k+1) r (a.put d0 (f k))).put (some d) v=putF (updF f i v) (k+1) r (a.put d0 (updF f i v k))
   by_cases hik:i=k
   ·subst hik
    rw [Nat.sub_self] at h
    obtain rfl:d0=some d:=by simpa using h
    rw [aKx r (i+1) _ (fun d' hd' e=>hp1 d' hd' e.symm),aTz]
    have e:updF f i v i=v:=by simp [updF]
    rw [e]
    exact aIb r (i+1) _ (fun j hj=>by unfold updF;rw [if_neg (by omega)])
   ·have e:updF f i v k=f k:=by unfold updF;rw [if_neg (by omega)]
    rw [e]
    refine aKy r (k+1) _ (by omega) ?_ hp2
    rw [show i - k=(i - (k+1))+1 by omega] at h
    simpa using h
def aCc (l:Array Bool) (n:Nat):Nat:=(List.range n).countP fun j=>!l.getD j false
theorem aMk {l:Array Bool} {i:Nat}:∀ n,n≤i→aCc (l.setIfInBounds i true) n=aCc l n:=by
 intro n hn
 unfold aCc
 apply List.countP_congr
 intro j hj
 rw [getD_set_ne false (by have:=List.mem_range.1 hj;omega)]
theorem aS7 {l:Array Bool} {i:Nat} (hun:l.getD i false=false) (hlt:i<l.size):∀ n,i<n→aCc (l.setIfInBounds i true) n+1=aCc l n:=by
 intro n
 induction n with
 | zero=>intro h;omega
 | succ n ih =>
   intro h
   unfold aCc at *
   rw [List.range_succ,List.countP_append,List.countP_append]
   by_cases hin:i=n
   ·subst hin
    have h1:=aMk (l:=l) i (Nat.le_refl i)
    unfold aCc at h1
    have h2:(l.setIfInBounds i true).getD i false=true:=by simp [hlt]
    rw [h1,List.countP_cons,List.countP_cons,h2,hun]
    simp
   ·have h1:=ih (by omega)
    rw [List.countP_cons,List.countP_cons,getD_set_ne false hin]
    simp only [List.countP_nil]
    omega
theorem aPv {l:Array Bool}:∀ n,aCc l n=0→∀ j,j<n→l.getD j false=true:=by
 intro n h j hj
 unfold aCc at h
 rw [List.countP_eq_zero] at h
 have:=h j (List.mem_range.2 hj)
 simpa using this
section
variable {P:Program} {md:Region.Mode} {ops:Array Oper} {Q:Exit→Act→World→Prop}
def aFk (md:Region.Mode) (ops:Array Oper) (k i j:Nat):Bool:=match ops[i]? with
 | some o=>(aIa md ops k ((o.after.toList.filter (Region.binds md)).map (·.on))).contains j
 | none=>false
theorem aEv {k i j:Nat} {l:Array Bool} (hc:aCj md ops l) (hi:i∈Region.ready md ops l) (h:aFk md ops k i j=true):l.getD j false=true:=by
 obtain ⟨_,o,ho,hall⟩:=mem_ready.1 hi
 unfold aFk at h
 simp only [ho] at h
 exact aEb hc k _ (fun x hx=>by
  obtain ⟨e,he,rfl⟩:=List.mem_map.1 hx
  obtain ⟨he1,he2⟩:=List.mem_filter.1 he
  exact hall e (Array.mem_toList_iff.1 he1) he2) j (by simpa using h)
def aGq (md:Region.Mode) (ops:Array Oper):Bool:=(List.range ops.size).all fun i=>match ops[i]? with
 | some o=>o.after.all fun e=>!Region.binds md e||decide (e.on<i)
 | none=>true
theorem aNv (h:aGq md ops=true) {i:Nat} {o:Oper} (ho:ops[i]?=some o):∀ e∈o.after,Region.binds md e=true→e.on<i:=by
 intro e he hb
 have hlt:i<ops.size:=(Array.getElem?_eq_some_iff.1 ho).1
 have h1:=List.all_eq_true.1 h i (List.mem_range.2 hlt)
 simp only [ho] at h1
 have h2:=Array.all_eq_true_iff_forall_mem.1 h1 e he
 rw [hb] at h2
 simpa using h2
theorem aNw (he:aGq md ops=true) {l:Array Bool} (hl:l.size=ops.size):∀ i,i<ops.size→l.getD i false=false→Region.ready md ops l≠[]:=by
 intro i
 induction i using Nat.strongRecOn with
 | ind i ih =>
   intro hi hun hr
   obtain ⟨o,ho⟩:∃ o,ops[i]?=some o:=⟨_,Array.getElem?_eq_getElem hi⟩
   by_cases hall:∀ e∈o.after,Region.binds md e=true→l.getD e.on false=true
   ·have hm:i∈Region.ready md ops l:=mem_ready.2 ⟨by
     have hlt:i<l.size:=by omega
     simp [hlt] at hun ⊢
     exact hun,o,ho,hall⟩
    rw [hr] at hm
    cases hm
   ·obtain ⟨e,hn⟩:=Classical.not_forall.1 hall
    obtain ⟨he1,hn⟩:=Classical.not_imp.1 hn
    obtain ⟨hb,hn⟩:=Classical.not_imp.1 hn
    have:=aNv he ho e he1 hb
    exact ih e.on this (by omega) (by simpa using hn) hr
variable {S:World→Prop} {F:Nat→World→Value→Prop} {G:Nat→Nat→Value→Value→Prop} {n k:Nat} {D:List (Option Nat)} {a0:Act}
def dstB (ops:Array Oper) (D:List (Option Nat)) (n:Nat):Bool:=(List.range n).all fun i=>match ops[i]?,D[i]? with
 | some o,some (some d)=>decide (o.dst=some d)
 | _,_=>false
theorem aS8 (h:dstB ops D n=true) {i:Nat} (hi:i<n) {o:Oper} (ho:ops[i]?=some o):∃ d,o.dst=some d∧D[i]?=some (some d):=by
 have h1:=List.all_eq_true.1 h i (List.mem_range.2 hi)
 simp only [ho] at h1
 split at h1
 ·rename_i o' d h2 h3
  obtain rfl:o=o':=Option.some.inj h2
  exact ⟨d,of_decide_eq_true h1,h3⟩
 ·cases h1
structure aEe (S:World→Prop) (F:Nat→World→Value→Prop) (G:Nat→Nat→Value→Value→Prop) (L:Nat→Prop) (f:Nat→Value) (w:World):Prop where
 hs:S w
 hf:∀ j,L j→F j w (f j)
 hg:∀ x y,L x→L y→x≠y→G x y (f x) (f y)
def aKn (P:Program) (md:Region.Mode) (ops:Array Oper) (Q:Exit→Act→World→Prop) (S:World→Prop) (F:Nat→World→Value→Prop) (G:Nat→Nat→Value→Value→Prop) (k:Nat) (D:List (Option Nat)) (a0:Act) (i:Nat):Prop :=
 ∀ (L:Nat→Prop) (f:Nat→Value) (w:World),aEe S F G L f w→(∀ j,aFk md ops k i j=true→L j) →
   wpOp P ops Q i (fun a' w'=>∃ v,(∀ o,ops[i]?=some o→a'=(putF f 0 D a0).put o.dst v)∧Grow w w'∧S w'∧F i w' v∧∀ j,L j→j≠i→G i j v (f j)) (putF f 0 D a0) w
theorem aMl (hd:dstB ops D n=true) (hnd:D.Pairwise (·≠·)) (he:aGq md ops=true)
  (hst:∀ i w w' v,Grow w w'→F i w v→F i w' v) (hsym:∀ i j v u,G i j v u→G j i u v) (hstep:∀ i,i<n→aKn P md ops Q S F G k D a0 i)
  (hlate:∀ (l:Array Bool) (f:Nat→Value) (w:World) (m i:Nat),l.size=ops.size→aCj md ops l→(∀ j,l.getD j false=true→j<n)→aEe S F G (fun j=>l.getD j false=true) f w→aCc l ops.size=m+1→i∈Region.ready md ops l→¬ i<n→wpOp P ops Q i (wpAny P md ops Q m (l.setIfInBounds i true)) (putF f 0 D a0) w)
  (hend:∀ (f:Nat→Value) (w:World),ops.size≤n→aEe S F G (fun j=>j<ops.size) f w→Q .normal (putF f 0 D a0) w) :
  ∀ (m:Nat) (l:Array Bool) (f:Nat→Value) (w:World),aCc l ops.size=m→l.size=ops.size→aCj md ops l→(∀ j,l.getD j false=true→j<n)→aEe S F G (fun j=>l.getD j false=true) f w →
    wpAny P md ops Q m l (putF f 0 D a0) w:=by
 intro m
 induction m with
 | zero =>
   intro l f w hm hl hc hn hk
   have hall:=aPv ops.size hm
   have hready:Region.ready md ops l=[]:=by
    apply List.eq_nil_iff_forall_not_mem.2
    intro i hi
    obtain ⟨h0,o,ho,_⟩:=mem_ready.1 hi
    have hlt:i<ops.size:=(Array.getElem?_eq_some_iff.1 ho).1
    have h1:=hall i hlt
    simp [show i<l.size by omega] at h0 h1
    rw [h0] at h1
    cases h1
   refine ⟨hready,hend f w ?_ ⟨hk.hs,fun j hj=>hk.hf j (hall j hj),fun x y hx hy=>hk.hg x y (hall x hx) (hall y hy)⟩⟩
   rcases Nat.lt_or_ge n ops.size with h | h
   ·exact absurd (hn n (hall n h)) (Nat.lt_irrefl _)
   ·exact h
 | succ m ih =>
   intro l f w hm hl hc hn hk
   have hex:∃ i0,i0<ops.size∧l.getD i0 false=false:=by
    have:aCc l ops.size≠0:=by omega
    unfold aCc at this
    rw [←Nat.pos_iff_ne_zero,List.countP_pos_iff] at this
    obtain ⟨j,hj,hb⟩:=this
    exact ⟨j,List.mem_range.1 hj,by simpa using hb⟩
   obtain ⟨i0,hi0,hun0⟩:=hex
   refine ⟨fun hr=>absurd hr (aNw he hl i0 hi0 hun0),fun i hi=>?_⟩
   by_cases hin:i<n
   ·obtain ⟨h0,o,ho,_⟩:=mem_ready.1 hi
    have hlo:i<ops.size:=(Array.getElem?_eq_some_iff.1 ho).1
    have hlt:i<l.size:=by omega
    have hun:l.getD i false=false:=by simp [hlt] at h0 ⊢;exact h0
    obtain ⟨d,hd1,hd2⟩:=aS8 hd hin ho
    refine wpOp_mono (fun a' w' ⟨v,ha,hgr,hs',hF,hGv⟩=>?_) (hstep i hin _ f w hk (fun j hj=>aEv hc hi hj))
    rw [ha o ho,hd1,aKy D 0 a0 (Nat.zero_le _) (by simpa using hd2) hnd]
    have up:∀ z,z≠i→updF f i v z=f z:=fun z hz=>by unfold updF;rw [if_neg hz]
    have ui:updF f i v i=v:=by simp [updF]
    have was:∀ z,(l.setIfInBounds i true).getD z false=true→z≠i→l.getD z false=true:=fun z hz hzi=>by
     rw [getD_set_ne false (fun e=>hzi e.symm)] at hz
     exact hz
    refine ih _ (updF f i v) w' (by have:=aS7 hun hlt ops.size hlo;omega) (by simpa using hl) (aI9 hc hi) (fun j hj=>?_) ⟨hs',fun j hj=>?_,fun x y hx hy hxy=>?_⟩
    ·by_cases hji:j=i
     ·subst hji;exact hin
     ·exact hn j (was j hj hji)
    ·by_cases hji:j=i
     ·subst hji
      rw [ui]
      exact hF
     ·rw [up j hji]
      exact hst j w w' _ hgr (hk.hf j (was j hj hji))
    ·by_cases h1:x=i
     ·subst h1
      have h2:y≠x:=fun e=>hxy e.symm
      rw [ui,up y h2]
      exact hGv y (was y hy h2) h2
     ·by_cases h2:y=i
      ·subst h2
       rw [ui,up x h1]
       exact hsym _ _ _ _ (hGv x (was x hx h1) h1)
      ·rw [up x h1,up y h2]
       exact hk.hg x y (was x hx h1) (was y hy h2) hxy
   ·exact hlate l f w m i hl hc hn hk hm hi hin
theorem aS9 (m:Nat):aCc (Array.replicate m false) m=m:=by
 unfold aCc
 have:(List.range m).countP (fun j=>!(Array.replicate m false).getD j false)=(List.range m).length:=by
  rw [List.countP_eq_length]
  intro j hj
  have:=List.mem_range.1 hj
  simp [this]
 rw [this,List.length_range]
theorem aIc {id:Nat} {w:World} (n k:Nat) (S:World→Prop) (F:Nat→World→Value→Prop) (G:Nat→Nat→Value→Value→Prop) (D:List (Option Nat)) (f0:Nat→Value) (hm:P.follows .mixedOrders=true) (hd:dstB ops D n=true) (hnd:D.Pairwise (·≠·)) (he:aGq .any ops=true)
  (h0:putF f0 0 D a0=a0) (hs:S w.drew) (hst:∀ i w w' v,Grow w w'→F i w v→F i w' v) (hsym:∀ i j v u,G i j v u→G j i u v) (hstep:∀ i,i<n→aKn P .any ops Q S F G k D a0 i)
  (hlate:∀ (l:Array Bool) (f:Nat→Value) (w:World) (m i:Nat),l.size=ops.size→aCj .any ops l→(∀ j,l.getD j false=true→j<n)→aEe S F G (fun j=>l.getD j false=true) f w→aCc l ops.size=m+1→i∈Region.ready .any ops l→¬ i<n→wpOp P ops Q i (wpAny P .any ops Q m (l.setIfInBounds i true)) (putF f 0 D a0) w)
  (hend:∀ (f:Nat→Value) (w:World),ops.size≤n→aEe S F G (fun j=>j<ops.size) f w→Q .normal (putF f 0 D a0) w):(Code.region id ops true).wp P Q a0 w:=by
 refine wp_region_any hm ?_
 have no:∀ j,(Array.replicate ops.size false).getD j false=true→False:=fun j hj=>by
  by_cases hlt:j<ops.size
  ·simp [hlt] at hj
  ·simp [hlt] at hj
 have h1:=aMl hd hnd he hst hsym hstep hlate hend ops.size (Array.replicate ops.size false) f0 w.drew (aS9 ops.size) (by simp) (fun j _ _ hj=>(no j hj).elim) (fun j hj=>(no j hj).elim) ⟨hs,fun j hj=>(no j hj).elim,fun x _ hx=>(no x hx).elim⟩
 rw [h0] at h1
 exact h1
theorem aB8 {i:Nat} {o:Oper} {rest:List Oper} (ho:ops.toList.drop i=o::rest)
  (h:∀ (L:Nat→Prop) (f:Nat→Value) (w:World),aEe S F G L f w→(∀ j,aFk md ops k i j=true→L j)→Region.wanted o (yielded ops (putF f 0 D a0).tmps)=true ∧
   ∀ K':Act→World→Prop,Hid (∀ a' w' v,a'=(putF f 0 D a0).put o.dst v→Grow w w'→S w'→F i w' v→(∀ j,L j→j≠i→G i j v (f j))→K' a' w')→o.wp P (putF f 0 D a0) w K' Q):aKn P md ops Q S F G k D a0 i:=by
 intro L f w hk hw
 obtain ⟨h1,h2⟩:=h L f w hk hw
 refine aAb ho h1 fun K' hK'=>h2 K' fun a' w' v ha hg hs' hF hG=>hK' _ _ ⟨v,fun o' ho'=>?_,hg,hs',hF,hG⟩
 have:=op_at (ops:=ops) ho
 rw [ho'] at this
 cases this
 exact ha
theorem aId {id:Nat} {w:World} (D:List (Option Nat)) (R:(Nat→Value)→World→Prop) (h:(Code.region id ops true).wp P (fun e a w'=>e=.normal∧∃ f,a=putF f 0 D a0∧R f w') a0 w) (hR:∀ f w',R f w'→Q .normal (putF f 0 D a0) w'):(Code.region id ops true).wp P Q a0 w :=
 Code.wp_mono (fun e a w' ⟨he,f,ha,hr⟩=>by rw [he,ha];exact hR f w' hr) h
theorem aU0 {l r:Array Bool} (h:l.size=r.size) (hb:∀ j,j<r.size→l.getD j false=r.getD j false):l=r:=by
 apply Array.ext h
 intro j h1 h2
 have:=hb j h2
 simpa [h1,h2] using this
end
end Go.Proofs.YthnodpdiocppgaaGreatDoor
namespace Go.Proofs.YthnodpdiocppgaaGreatDoor
open Go Go.RowKit Go.Shelf
def kC (c:Value):World→Value→Prop:=fun _ v=>v=c
def kN (B:Nat) (o:Obj):World→Value→Prop:=fun w v=>∃ g,v=.pointer (some ⟨g,0,none⟩)∧B≤g∧w.heap[g]?=some o
def tblF (t:List (World→Value→Prop)):Nat→World→Value→Prop:=fun i=>t.getD i (fun _ _=>True)
def aKo (p:World→Value→Prop):Prop:=∀ w w' v,Grow w w'→p w v→p w' v
theorem aC0 (c:Value):aKo (kC c):=fun _ _ _ _ h=>h
theorem aU1 (B:Nat) (o:Obj):aKo (kN B o):=fun _ _ _ hg ⟨g,hv,hB,hb⟩=>⟨g,hv,hB,hg.block hb⟩
theorem aPw {t:List (World→Value→Prop)} (h:∀ p∈t,aKo p) (i:Nat) (w w':World) (v:Value) (hg:Grow w w') (hF:tblF t i w v):tblF t i w' v:=by
 unfold tblF at *
 rw [List.getD_eq_getElem?_getD] at *
 cases ht:t[i]? with
 | none=>exact trivial
 | some p =>
   rw [ht] at hF
   exact h p (List.mem_of_getElem? ht) w w' v hg hF
def aNx:Value→Option Nat
 | .slice (some a) _ _=>some a.block
 | .pointer (some a)=>some a.block
 | _=>none
def newG (news:List Nat) (i j:Nat) (v u:Value):Prop:=(news.contains i&&news.contains j)=true→aNx v≠aNx u
theorem aSa (news:List Nat) (i j:Nat) (v u:Value) (h:newG news i j v u):newG news j i u v:=fun hij e=>h (by rw [Bool.and_comm];exact hij) e.symm
theorem aB1 {news:List Nat} {i:Nat} {L:Nat→Prop} {v:Value} {f:Nat→Value} (h:news.contains i=false):∀ j,L j→j≠i→newG news i j v (f j):=fun _ _ _ hr=>by rw [h] at hr;cases hr
theorem aNy {S:World→Prop} {t:List (World→Value→Prop)} {news:List Nat} (hN:∀ j∈news,∃ B o,tblF t j=kN B o) {i:Nat} {L:Nat→Prop} {f:Nat→Value} {w:World} (hk:aEe S (tblF t) (newG news) L f w) :
  ∀ j,L j→j≠i→newG news i j (.pointer (some ⟨w.heap.size,0,none⟩)) (f j):=by
 intro j hj _ hr e
 rw [Bool.and_eq_true] at hr
 obtain ⟨B,o,ht⟩:=hN j (by simpa using hr.2)
 have h:=hk.hf j hj
 rw [ht] at h
 obtain ⟨g,hv,_,hb⟩:=h
 rw [hv] at e
 have h1:w.heap.size=g:=by simpa [aNx] using e
 have h2:=(Array.getElem?_eq_some_iff.1 hb).1
 omega
section
variable {P:Program} {ops:Array Oper} {Q:Exit→Act→World→Prop} {S:World→Prop} {t:List (World→Value→Prop)} {news:List Nat} {D:List (Option Nat)} {a0:Act}
theorem aPx {l L:Array Bool} {n N:Nat} (hl:l.size=N) (hL:L.size=N) (h1:∀ j,j<n→l.getD j false=true) (h2:∀ j,l.getD j false=true→j<n) (hb:((List.range N).all fun j=>L.getD j false == decide (j<n))=true):l=L:=by
 refine aU0 (by omega) fun j hj=>?_
 have h:=List.all_eq_true.1 hb j (List.mem_range.2 (by omega))
 rw [beq_iff_eq] at h
 rw [h]
 by_cases hn:j<n
 ·rw [h1 j hn,decide_eq_true hn]
 ·rw [decide_eq_false hn]
  cases hq:l.getD j false
  ·rfl
  ·exact absurd (h2 j hq) hn
theorem aJ9 {id:Nat} {w:World} (n k:Nat) (S:World→Prop) (t:List (World→Value→Prop)) (news:List Nat) (D:List (Option Nat)) (L:Array Bool) (f0:Nat→Value) (hm:P.follows .mixedOrders=true) (hd:dstB ops D n=true) (hnd:D.Pairwise (·≠·)) (he:aGq .any ops=true)
  (h0:putF f0 0 D a0=a0) (hs:S w.drew) (hst:∀ p∈t,aKo p) (hstep:∀ i,i<n→aKn P .any ops Q S (tblF t) (newG news) k D a0 i)
  (hnN:n<ops.size) (hgate:((List.range n).all fun j=>aFk .any ops k n j)=true) (hchain:((List.range ops.size).all fun i=>decide (i≤n)||aFk .any ops 1 i n)=true)
  (hL:L.size=ops.size) (hLb:((List.range ops.size).all fun j=>L.getD j false == decide (j<n))=true) (m:Nat) (hlm:aCc L ops.size=m+1)
  (hlate:∀ (f:Nat→Value) (w:World),aEe S (tblF t) (newG news) (fun j=>j<n) f w→wpOp P ops Q n (wpAny P .any ops Q m (L.setIfInBounds n true)) (putF f 0 D a0) w):(Code.region id ops true).wp P Q a0 w:=by
 refine aIc n k S (tblF t) (newG news) D f0 hm hd hnd he h0 hs (fun i w w' v hg hF=>aPw hst i w w' v hg hF) (aSa news) hstep ?_ (fun f w h _=>absurd h (by omega))
 intro l f w' m' i hl hc hn hk hm' hi hin
 have hlt:i<ops.size:=by
  obtain ⟨_,o,ho,_⟩:=mem_ready.1 hi
  exact (Array.getElem?_eq_some_iff.1 ho).1
 have hin2:i=n:=by
  have h:=List.all_eq_true.1 hchain i (List.mem_range.2 hlt)
  rcases Bool.or_eq_true _ _ ▸ h with h | h
  ·have:=of_decide_eq_true h
   omega
  ·exact absurd (hn n (aEv hc hi h)) (Nat.lt_irrefl _)
 subst hin2
 have h1:∀ j,j<i→l.getD j false=true:=fun j hj=>aEv hc hi (List.all_eq_true.1 hgate j (List.mem_range.2 hj))
 obtain rfl:=aPx hl hL h1 hn hLb
 obtain rfl:m=m':=by omega
 exact hlate f w' ⟨hk.hs,fun j hj=>hk.hf j (h1 j hj),fun x y hx hy=>hk.hg x y (h1 x hx) (h1 y hy)⟩
end
end Go.Proofs.YthnodpdiocppgaaGreatDoor
namespace Go.Proofs.YthnodpdiocppgaaGreatDoor
open Go Go.RowKit Go.Shelf
theorem aKz {g t:Nat} {post:List Value}:∀ (cs pre old:List Value) (W:World),W.heap[g]?=some (.cells (pre++old++post).toArray t)→old.length=cs.length→(setL W g pre.length cs).heap[g]?=some (.cells (pre++cs++post).toArray t)
 | [],pre,old,W,h,hl=>by
   have:old=[]:=List.eq_nil_of_length_eq_zero hl
   subst this
   exact h
 | c::cs,pre,old,W,h,hl=>by
   match old,hl with
   | o::old,hl =>
     have h1:(W.setCell ⟨g,pre.length,none⟩ c).heap[g]?=some (.cells ((pre++[c])++old++post).toArray t):=by
      obtain ⟨hlt,hk⟩:=Array.getElem?_eq_some_iff.1 h
      show (W.heap.modify g _)[g]?=_
      rw [Array.getElem?_eq_getElem (by rw [Array.size_modify];exact hlt),Array.getElem_modify_self,hk]
      simp
     have:=aKz cs (pre++[c]) old (W.setCell ⟨g,pre.length,none⟩ c) h1 (by simpa using hl)
     rw [List.length_append,List.length_singleton] at this
     show (setL (W.setCell ⟨g,pre.length,none⟩ c) g (pre.length+1) cs).heap[g]?=_
     rw [this]
     simp
section
variable {α:Type} {E:Elem α}
structure aBt (E:Elem α) (w:World) (g t:Nat) (L:List α) (m:Nat):Prop where
 blk:∃ post,w.heap[g]?=some (.cells (E.flat L++post).toArray t)∧post.length=m
theorem aBt.below {w w':World} {g t m:Nat} {L:List α} (h:aBt E w g t L m) (hb:Below w.heap.size w w'):aBt E w' g t L m:=by
 obtain ⟨post,h,hp⟩:=h.blk
 exact ⟨post,aA2 h hb,hp⟩
theorem aBt.lt {w:World} {g t m:Nat} {L:List α} (h:aBt E w g t L m):g<w.heap.size:=by
 obtain ⟨post,h,_⟩:=h.blk
 exact aAs h
theorem aBt.at_ {w:World} {g t m:Nat} {L:List α} (h:aBt E w g t L m) {i:Nat} (hi:i<L.length):E.At w g (i*E.n) L[i]:=fun j u hu=>by
 obtain ⟨post,h,_⟩:=h.blk
 have hj:j<E.n:=by rw [←E.len L[i]];exact (List.getElem?_eq_some_iff.1 hu).1
 refine aA0 h ?_
 have hlt:i*E.n+j<(E.flat L).length:=by
  rw [E.flat_len]
  have:(i+1)*E.n≤L.length*E.n:=Nat.mul_le_mul_right _ hi
  rw [Nat.add_mul,Nat.one_mul] at this
  omega
 rw [List.getElem?_toArray,List.getElem?_append_left hlt,Elem.flat_at L i hi j hj]
 exact hu
theorem aBt.live {w:World} {g t m:Nat} {L:List α} (h:aBt E w g t L m) (i:Nat):w.frozen? ⟨g,i,none⟩=false:=by
 obtain ⟨post,h,_⟩:=h.blk
 exact aAl h i
theorem aSb (L:List α) {i:Nat} (hi:i<L.length):E.flat L=E.flat (L.take i)++E.cells L[i]++E.flat (L.drop (i+1)):=by
 have h:L=L.take i++[L[i]]++L.drop (i+1):=by
  rw [←List.take_succ_eq_append_getElem hi,List.take_append_drop]
 conv=>lhs;rw [h,Elem.flat_append,Elem.flat_append]
 simp [Elem.flat]
theorem aBt.store {w:World} {g t m:Nat} {L:List α} (h:aBt E w g t L m) {i:Nat} (hi:i<L.length) (x:α):aBt E (setL w g (i*E.n) (E.cells x)) g t (L.set i x) m:=by
 obtain ⟨post,h,hm⟩:=h.blk
 refine ⟨post,?_,hm⟩
 rw [aSb L hi,List.append_assoc] at h
 have hl:(E.flat (L.take i)).length=i*E.n:=by rw [E.flat_len,List.length_take,Nat.min_eq_left (by omega)]
 have h2:w.heap[g]?=some (.cells (E.flat (L.take i)++E.cells L[i]++(E.flat (L.drop (i+1))++post)).toArray t):=by rw [h]
 have:=aKz (E.cells x) (E.flat (L.take i)) (E.cells L[i]) w h2 (by rw [E.len,E.len])
 rw [hl] at this
 rw [this]
 have e:L.set i x=L.take i++[x]++L.drop (i+1):=by
  rw [List.set_eq_take_append_cons_drop,if_pos hi]
  simp
 rw [e,Elem.flat_append,Elem.flat_append]
 simp [Elem.flat]
theorem aBt.sl {w:World} {g t m cap:Nat} {L:List α} (h:aBt E w g t L m) (hA:∀ x∈L,E.A x w) {k:Nat} (hk:k≤L.length) (hc:k≤cap) (hm:cap≤maxLen):Sl E w (.slice (some ⟨g,0,none⟩) k cap) (L.take k):=by
 have hl:(L.take k).length=k:=by simp;omega
 refine ⟨_,cap,by rw [hl],by rw [hl];exact hc,hm,fun i hi=>?_⟩
 rw [hl] at hi
 have hi2:i<L.length:=by omega
 refine ⟨by rw [List.getElem_take];exact hA _ (List.getElem_mem hi2),g,0,rfl,h.lt,?_⟩
 rw [List.getElem_take,Nat.zero_add]
 exact h.at_ hi2
theorem aBt.of_own2 {w:World} {base t:Nat} {v:Value} {L:List α} (h:w.ownsRow base t E.n v L.length (E.flat L)) (hl:L≠[]):∃ g cap m,v=.slice (some ⟨g,0,none⟩) L.length cap∧base≤g∧L.length≤cap∧cap≤maxLen∧aBt E w g t L m∧L.length*E.n+m=cap*E.n:=by
 obtain ⟨_,h2⟩:=h
 rcases h2 with ⟨rfl,h0⟩ | ⟨g,cap,cur,rfl,hg,hgb,hle,hcm,hsz,hcur⟩
 ·exact absurd (List.eq_nil_of_length_eq_zero h0) hl
 ·refine ⟨g,cap,(cur.toList.drop (L.length*E.n)).length,rfl,hg,hle,hcm,⟨cur.toList.drop (L.length*E.n),?_,rfl⟩,?_⟩
  ·rw [hgb,←hcur,List.take_append_drop]
  ·have h1:L.length*E.n≤cap*E.n:=Nat.mul_le_mul_right E.n hle
   have h2:(cur.toList.drop (L.length*E.n)).length=cap*E.n - L.length*E.n:=by rw [List.length_drop,←hsz];simp
   rw [h2]
   exact Nat.add_sub_cancel' h1
theorem aBt.to_own {w:World} {base g t m cap:Nat} {L:List α} (h:aBt E w g t L m) (hg:base≤g) (hc:L.length≤cap) (hm:cap≤maxLen) (he:L.length*E.n+m=cap*E.n):w.ownsRow base t E.n (.slice (some ⟨g,0,none⟩) L.length cap) L.length (E.flat L):=by
 obtain ⟨post,hb,hp⟩:=h.blk
 refine ⟨E.flat_len L,.inr ⟨g,cap,(E.flat L++post).toArray,rfl,hg,hb,hc,hm,?_,?_⟩⟩
 ·rw [List.size_toArray,List.length_append,E.flat_len,hp]
  exact he
 ·rw [←E.flat_len L]
  simp
end
theorem zzH {P:Program} {ops:Array Oper} {Q:Exit→Act→World→Prop} {md:Region.Mode} {S:World→Prop} (i:Nat) {oi:Oper} {rest:List Oper} (v:Value) {fuel:Nat} {l:Array Bool} {a:Act} {w:World} (hi:ops.toList.drop i=oi::rest) (hy:∀ w,S w→(execOp a.eval oi).run P w=.ok (.value v) w) (h:wpAnyH P md ops Q S fuel (l.setIfInBounds i true) (a.put oi.dst v) w) (hc:(Region.noSelect ops&&(Region.free md ops l i&&(Region.ready md ops l).contains i))=true:=by kernel_rfl) (hQ:∀ c a w,Q (.panic c) (a.put oi.dst v) w→Q (.panic c) a w:=by exact fun _ _ _ h=>h) (hw:Region.wanted oi (yielded ops a.tmps)=true:=by rfl) (hS:S w:=by assumption) :wpAnyH P md ops Q S (fuel+1) l a w:=by
 simp only [Bool.and_eq_true] at hc
 exact wpAnyH_take (op_at hi) hc.1 hc.2.1 hc.2.2 hQ (.inl ⟨hw,hy⟩) hS h
theorem zzU {P:Program} {ops:Array Oper} {Q:Exit→Act→World→Prop} {md:Region.Mode} {S:World→Prop} (i:Nat) {oi:Oper} {rest:List Oper} {fuel:Nat} {l:Array Bool} {a:Act} {w:World} (hi:ops.toList.drop i=oi::rest) (h:wpAnyH P md ops Q S fuel (l.setIfInBounds i true) (a.put oi.dst undef) w) (hc:(Region.noSelect ops&&(Region.free md ops l i&&(Region.ready md ops l).contains i))=true:=by kernel_rfl) (hQ:∀ c a w,Q (.panic c) (a.put oi.dst undef) w→Q (.panic c) a w:=by exact fun _ _ _ h=>h) (hw:Region.wanted oi (yielded ops a.tmps)=false:=by rfl) (hS:S w:=by assumption) :wpAnyH P md ops Q S (fuel+1) l a w:=by
 simp only [Bool.and_eq_true] at hc
 exact wpAnyH_take (op_at hi) hc.1 hc.2.1 hc.2.2 hQ (.inr ⟨hw,rfl⟩) hS h
theorem zzG {P:Program} {ops:Array Oper} {Q:Exit→Act→World→Prop} {md:Region.Mode} {S:World→Prop} {n:Nat} (i k:Nat) {oi:Oper} {rest:List Oper} (v:Value) {f:Nat} {l:Array Bool} {a:Act} {w:World} (hi:ops.toList.drop i=oi::rest) (hc:(Region.noSelect ops&&(Region.free md ops l i&&((Region.ready md ops l).contains i&&(decide (i<n)&&(gateB md ops n k&&closedB md ops l)))))=true) (hQ:∀ c a w,Q (.panic c) (a.put oi.dst v) w→Q (.panic c) a w) (hw:Region.wanted oi (yielded ops a.tmps)=true) (hy:∀ w,S w→oi.quietAt P a (fun w2=>Grow w w2∧S w2) w v) (h:wpG P md ops Q S n f (l.setIfInBounds i true) (a.put oi.dst v) w) :wpG P md ops Q S n (f+1) l a w:=by
 simp only [Bool.and_eq_true,decide_eq_true_eq] at hc
 exact wpG_take k hi hc.1 hc.2.1 hc.2.2.1 hc.2.2.2.1 hc.2.2.2.2.1 hc.2.2.2.2.2 hQ (.inl ⟨hw,hy⟩) h
end Go.Proofs.YthnodpdiocppgaaGreatDoor
