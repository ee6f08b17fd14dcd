/-
  Needs in memory: texts, a need with where its values lie, slices of these; how large they may be.
-/
import Derived.Test.YthnodpdiocppgaaGreatDoorJ1
import Derived.Test.YthnodpdiocppgaaGreatDoorJ2
import Derived.Test.YthnodpdiocppgaaGreatDoorJ4
import Derived.Deep.RegionHeld3
set_option maxHeartbeats 1600000
set_option maxRecDepth 20000
namespace Go.Proofs.YthnodpdiocppgaaGreatDoor
open Go Go.RowKit Go.Shelf
def ES:Elem ByteArray where
 cells:=fun s=>[.string s]
 n:=1
 A:=fun _ _=>True
 len:=fun _=>rfl
 pos:=by decide
 one:=fun x _ _ u hu=>by
  simp at hu
  subst hu
  rfl
 below:=fun _ _ _ _ _=>trivial
theorem aEf {w:World} {g o:Nat} {s:ByteArray} (h:ES.At w g o s):w.cell? ⟨g,o,none⟩=some (.string s):=h 0 _ rfl
structure NV where
 n:NB
 a:Option Addr
 c:Nat
abbrev NV.v (x:NV):Value:=.slice x.a x.n.vals.length x.c
abbrev nV (x:NV):Value:=.agg #[.int .i64 x.n.kind,.string x.n.name,x.v]
def aLa (x:NV):List Value:=[.int .i64 x.n.kind,.string x.n.name,x.v]
def EN:Elem NV where
 cells:=aLa
 n:=3
 A:=fun x w=>Sl ES w x.v x.n.vals
 len:=fun _=>rfl
 pos:=by decide
 one:=fun x _ _ u hu=>by
  simp [aLa] at hu
  rcases hu with rfl | rfl | rfl<;>rfl
 below:=fun _ _ _ h hb=>h.below hb
theorem aTs {w:World} {g o:Nat} {x:NV} (h:EN.At w g o x) :
  w.cell? ⟨g,o,none⟩=some (.int .i64 x.n.kind)∧w.cell? ⟨g,o+1,none⟩=some (.string x.n.name)∧w.cell? ⟨g,o+2,none⟩=some x.v:=⟨h 0 _ rfl,h 1 _ rfl,h 2 _ rfl⟩
structure RawN (n:NB):Prop where
 name:n.name.size≤maxLen
 vals:∀ s∈n.vals,s.size≤maxLen
structure OkN (n:NB):Prop where
 name:n.name.size≤100
 vals:∀ s∈n.vals,s.size≤100
 len:n.vals.length≤10
theorem OkN.raw {n:NB} (h:OkN n):RawN n:=⟨by have:=h.name;unfold maxLen;omega,fun s hs=>by have:=h.vals s hs;unfold maxLen;omega⟩
def okB (p:aAa):Prop:=p.1.size≤100∧p.2.size≤100
def fewN (n:NB):NB:=⟨n.kind,fewB n.name,(n.vals.take 9).map fewB⟩
theorem aU9 (n:NB):OkN (fewN n):=⟨aBe _,fun s hs=>by
 obtain ⟨x,_,rfl⟩:=List.mem_map.1 hs
 exact aBe _,by simp [fewN];omega⟩
def aE2 (l:List NB):List NB:=(l.take 9).map fewN
theorem aQb (l:List NB):(aE2 l).length≤9:=by simp [aE2];omega
theorem aSi (l:List NB):∀ n∈aE2 l,OkN n:=fun n hn=>by
 obtain ⟨x,_,rfl⟩:=List.mem_map.1 hn
 exact aU9 x
end Go.Proofs.YthnodpdiocppgaaGreatDoor
namespace Go.Proofs.YthnodpdiocppgaaGreatDoor
open Go Go.RowKit Go.Shelf
abbrev kT (t:Nat) (v:Value):Value:=.iface t (.agg #[v])
theorem aUa (v:Value) (w:World):(Instr.typeAssert (.iface 213 v) 203 213 true).run Tryz.prog w=.ok (.tuple #[v,.bool true]) w:=by kernel_rfl
theorem aUb (v:Value) (w:World):(Instr.typeAssert (.iface 213 v) 203 214 true).run Tryz.prog w=.ok (.tuple #[.agg #[.slice none 0 0],.bool false]) w:=by kernel_rfl
theorem aUc (v:Value) (w:World):(Instr.typeAssert (.iface 214 v) 203 213 true).run Tryz.prog w=.ok (.tuple #[.agg #[.slice none 0 0],.bool false]) w:=by kernel_rfl
theorem aUd (v:Value) (w:World):(Instr.typeAssert (.iface 214 v) 203 214 true).run Tryz.prog w=.ok (.tuple #[v,.bool true]) w:=by kernel_rfl
theorem aUe (v:Value) (w:World):(Instr.typeAssert (.iface 217 v) 203 213 true).run Tryz.prog w=.ok (.tuple #[.agg #[.slice none 0 0],.bool false]) w:=by kernel_rfl
theorem aUf (v:Value) (w:World):(Instr.typeAssert (.iface 217 v) 203 214 true).run Tryz.prog w=.ok (.tuple #[.agg #[.slice none 0 0],.bool false]) w:=by kernel_rfl
theorem aUg (v:Value) (w:World):(Instr.typeAssert (.iface 217 v) 203 217 true).run Tryz.prog w=.ok (.tuple #[v,.bool true]) w:=by kernel_rfl
theorem aUh (v:Value) (w:World):(Instr.typeAssert (.iface 217 v) 203 218 true).run Tryz.prog w=.ok (.tuple #[.agg #[.slice none 0 0],.bool false]) w:=by kernel_rfl
theorem aUi (v:Value) (w:World):(Instr.typeAssert (.iface 218 v) 203 213 true).run Tryz.prog w=.ok (.tuple #[.agg #[.slice none 0 0],.bool false]) w:=by kernel_rfl
theorem aUj (v:Value) (w:World):(Instr.typeAssert (.iface 218 v) 203 214 true).run Tryz.prog w=.ok (.tuple #[.agg #[.slice none 0 0],.bool false]) w:=by kernel_rfl
theorem aUk (v:Value) (w:World):(Instr.typeAssert (.iface 218 v) 203 217 true).run Tryz.prog w=.ok (.tuple #[.agg #[.slice none 0 0],.bool false]) w:=by kernel_rfl
theorem aUl (v:Value) (w:World):(Instr.typeAssert (.iface 218 v) 203 218 true).run Tryz.prog w=.ok (.tuple #[v,.bool true]) w:=by kernel_rfl
theorem aVl (w:World):(Instr.typeAssert .nilIface 203 213 true).run Tryz.prog w=.ok (.tuple #[.agg #[.slice none 0 0],.bool false]) w:=by kernel_rfl
theorem aVm (w:World):(Instr.typeAssert .nilIface 203 214 true).run Tryz.prog w=.ok (.tuple #[.agg #[.slice none 0 0],.bool false]) w:=by kernel_rfl
theorem aVn (w:World):(Instr.typeAssert .nilIface 203 217 true).run Tryz.prog w=.ok (.tuple #[.agg #[.slice none 0 0],.bool false]) w:=by kernel_rfl
theorem aVo (w:World):(Instr.typeAssert .nilIface 203 218 true).run Tryz.prog w=.ok (.tuple #[.agg #[.slice none 0 0],.bool false]) w:=by kernel_rfl
theorem aUm (a : Option Addr) (n c : Nat) (w : World) : (invoke (.fn (.method "toll/label.with") #[]) #[kT 213 (.slice a n c)]).run Tryz.prog w = .ok (.enter 265 #[.slice a n c]) w := by kernel_rfl
theorem aUn (a : Option Addr) (n c : Nat) (w : World) : (invoke (.fn (.method "toll/label.with") #[]) #[kT 214 (.slice a n c)]).run Tryz.prog w = .ok (.enter 265 #[.slice a n c]) w := by kernel_rfl
theorem aUo (a : Option Addr) (n c : Nat) (w : World) : (invoke (.fn (.method "toll/label.with") #[]) #[kT 217 (.slice a n c)]).run Tryz.prog w = .ok (.enter 265 #[.slice a n c]) w := by kernel_rfl
theorem aUp (a : Option Addr) (n c : Nat) (w : World) : (invoke (.fn (.method "toll/label.with") #[]) #[kT 218 (.slice a n c)]).run Tryz.prog w = .ok (.enter 265 #[.slice a n c]) w := by kernel_rfl
def askV (k:Int) (v:Value):Value:=if k=1 then kT 213 v else if k=2 then kT 214 v else if k=3 then kT 217 v else if k=4 then kT 218 v else .nilIface
theorem aG3 (a:Option Addr) (n c:Nat) (w:World) :
  Calls Tryz.prog 265 #[.slice a n c] w fun e w'=>e=.returned (.slice a n c)∧w'=w:=by
 go_enter Tryz.func265,Tryz.ntmps265
 go_wp2_with fail
 go_ret
 exact ⟨rfl,rfl⟩
theorem aCs (s:ByteArray) (w:World) (hs:s.size≤maxLen) :
  Calls Tryz.prog 134 #[.string s] w fun e w'=>e=.returned (.bool (La.mayV s))∧w'=w:=by
 have hm:Hid (La.mayV s=((s.toList == [])||D.isLabel s.data.toList)):=rfl
 cases h:(s.toList == [])
 ·rw [h] at hm
  go_enter Tryz.func134,Tryz.ntmps134
  go_wp2_with fail
  refine (aF7 s w hs).mono ?_
  rintro e x ⟨rfl,rfl⟩
  go_wp2_with fail
  go_ret
  exact ⟨aA1 (by rw [hm.out];rfl),rfl⟩
 ·rw [h] at hm
  go_enter Tryz.func134,Tryz.ntmps134
  go_wp2_with fail
  go_ret
  exact ⟨aA1 (by rw [hm.out];rfl),rfl⟩
end Go.Proofs.YthnodpdiocppgaaGreatDoor
namespace Go.Proofs.YthnodpdiocppgaaGreatDoor
open Go Go.RowKit Go.Shelf
theorem aLb (k:Int):k=1∨k=2∨k=3∨k=4∨((k == 1)=false∧(k == 2)=false∧(k == 3)=false∧(k == 4)=false):=by
 by_cases h1:k=1
 ·exact .inl h1
 by_cases h2:k=2
 ·exact .inr (.inl h2)
 by_cases h3:k=3
 ·exact .inr (.inr (.inl h3))
 by_cases h4:k=4
 ·exact .inr (.inr (.inr (.inl h4)))
 exact .inr (.inr (.inr (.inr ⟨by simpa using h1,by simpa using h2,by simpa using h3,by simpa using h4⟩)))
theorem aJw {k:Int} (v:Value) (h1:(k == 1)=false) (h2:(k == 2)=false) (h3:(k == 3)=false) (h4:(k == 4)=false):askV k v=.nilIface:=by
 simp at h1 h2 h3 h4
 simp [askV,h1,h2,h3,h4]
theorem aQc (k:Int) (nm:ByteArray) (a:Option Addr) (n c:Nat) (w:World) :
  Calls Tryz.prog 232 #[.agg #[.int .i64 k,.string nm,.slice a n c]] w fun e w'=>e=.returned (askV k (.slice a n c))∧Below w.heap.size w w':=by
 rcases aLb k with rfl | rfl | rfl | rfl | ⟨h1,h2,h3,h4⟩
 ·go_enter Tryz.func232,Tryz.ntmps232
  go_wp2_with fail
  go_ret
  exact ⟨rfl,(Below.refl _ _).alloc (Nat.le_refl _) _⟩
 ·go_enter Tryz.func232,Tryz.ntmps232
  go_wp2_with fail
  go_ret
  exact ⟨rfl,(Below.refl _ _).alloc (Nat.le_refl _) _⟩
 ·go_enter Tryz.func232,Tryz.ntmps232
  go_wp2_with fail
  go_ret
  exact ⟨rfl,(Below.refl _ _).alloc (Nat.le_refl _) _⟩
 ·go_enter Tryz.func232,Tryz.ntmps232
  go_wp2_with fail
  go_ret
  exact ⟨rfl,(Below.refl _ _).alloc (Nat.le_refl _) _⟩
 ·have ha:=hide (aJw (.slice a n c) h1 h2 h3 h4)
  go_enter Tryz.func232,Tryz.ntmps232
  go_wp2_with fail
  go_ret
  exact ⟨by rw [ha.out];rfl,(Below.refl _ _).alloc (Nat.le_refl _) _⟩
theorem aF8 {α:Type} {p:α→Bool} {l:List α} {k:Nat} (hk:k<l.length) (h:(l.take k).all p=true) (h2:p l[k]=true):(l.take (k+1)).all p=true:=by
 rw [List.take_succ_eq_append_getElem hk,List.all_append,h]
 simp [h2]
theorem aF9 {α:Type} {p:α→Bool} {l:List α} {k:Nat} (hk:k<l.length) (h2:p l[k]=false):l.all p=false:=by
 rw [List.all_eq_false]
 exact ⟨l[k],List.getElem_mem hk,by simp [h2]⟩
theorem aG4 {α:Type} {p:α→Bool} {l:List α} {k:Nat} (hk:l.length≤k) (h:(l.take k).all p=true):l.all p=true:=by
 rwa [List.take_of_length_le hk] at h
theorem aMr (v:Value) (l:List ByteArray) (w:World) (hv:Sl ES w v l) (hok:∀ s∈l,s.size≤maxLen) :
  Calls Tryz.prog 246 #[v] w fun e w'=>e=.returned (.bool (La.mayVs l))∧w'=w:=by
 have hlen:=hv.len
 obtain ⟨a,cap,rfl,_,_,hc⟩:=hv
 have HC:=hide hc
 have HOK:=hide hok
 clear hc hok
 by_cases h0:l.length=0
 ·have hz:((l.length:Int) == 0)=true:=by simpa using h0
  have hm:Hid (La.mayVs l=false):=by simp [Hid,La.mayVs,h0]
  go_enter Tryz.func246,Tryz.ntmps246
  go_wp2_with fail
  go_ret
  exact ⟨aA1 hm.out.symm,rfl⟩
 have hz:((l.length:Int) == 0)=false:=by simpa using h0
 by_cases h8:8<l.length
 ·have hz8:(8:Int)<(l.length:Int):=by omega
  have hm:Hid (La.mayVs l=false):=by
   unfold Hid La.mayVs
   rw [decide_eq_false (show ¬ l.length≤8 by omega),Bool.and_false,Bool.false_and]
  go_enter Tryz.func246,Tryz.ntmps246
  go_wp2_with fail
  go_ret
  exact ⟨aA1 hm.out.symm,rfl⟩
 have hz8:¬ (8:Int)<(l.length:Int):=by omega
 have hm:Hid (La.mayVs l=l.all La.mayV):=by
  unfold Hid La.mayVs
  rw [decide_eq_true (show 1≤l.length by omega),decide_eq_true (show l.length≤8 by omega)]
  rfl
 go_enter Tryz.func246,Tryz.ntmps246
 go_wp2_with fail
 go_loopw [15] (fun i wr=>∃ k:Nat,k≤l.length∧i=.int .i64 k∧Hid ((l.take k).all La.mayV=true)∧wr=w) (fun i _=>l.length - (intOf i).toNat)
 case atStart=>exact ⟨0,Nat.zero_le _,rfl,rfl,rfl⟩
 case round =>
  obtain ⟨k,hk,rfl,hall,rfl⟩:=hrel
  by_cases hlt:k<l.length
  ·have hlt':(k:Int)<(l.length:Int):=by omega
   obtain ⟨_,g,off,rfl,hg,c1⟩:=HC.out k hlt
   replace c1:=aEf c1
   rw [show off+k*ES.n=off+k from by show off+k*1=_;rw [Nat.mul_one]] at c1
   have o1:=HOK.out _ (List.getElem_mem hlt)
   have HT:=hide (fun h=>aF8 (p:=La.mayV) hlt hall.out h)
   have HG:=hide (fun h=>aF9 (p:=La.mayV) hlt h)
   generalize l[k]=s at *
   cases hq:La.mayV s
   ·have hq2:=hide (HG.out hq)
    go_wp2_with fail
    refine (aCs s wr o1).mono ?_
    rintro e x ⟨rfl,hx⟩
    subst x
    rw [hq]
    go_wp2_with fail
    go_ret
    exact ⟨aA1 (by rw [hm.out,hq2.out]),rfl⟩
   ·have hq2:=hide (HT.out hq)
    go_wp2_with fail
    refine (aCs s wr o1).mono ?_
    rintro e x ⟨rfl,hx⟩
    subst x
    rw [hq]
    go_wp2_with fail
    exact ⟨⟨k+1,by omega,by go_num,hq2.out,trivial⟩,by simp [intOf];omega⟩
  ·have hlt':¬ (k:Int)<(l.length:Int):=by omega
   have hq:=hide (aG4 (p:=La.mayV) (by omega) hall.out)
   go_wp2_with fail
   go_ret
   exact ⟨aA1 (by rw [hm.out,hq.out]),rfl⟩
def aCb (k:Int) (l:List ByteArray):Bool:=if k=1∨k=2 then La.mayVs l else if k=3∨k=4 then decide (l.length=0) else false
theorem aO2 (k:Int) (v:Value) (l:List ByteArray) (w:World) (hv:Sl ES w v l) (hok:∀ s∈l,s.size≤maxLen) :
  Calls Tryz.prog 231 #[askV k v] w fun e w'=>e=.returned (.bool (aCb k l))∧w'=w:=by
 have hlen:=hv.len
 have HM:=hide (fun w1 (h:Sl ES w1 v l)=>aMr v l w1 h hok)
 have HV:=hide hv
 obtain ⟨a,cap,rfl⟩:=hv.form
 clear hv hok
 rcases aLb k with rfl | rfl | rfl | rfl | ⟨h1,h2,h3,h4⟩
 ·show Calls Tryz.prog 231 #[kT 213 (.slice a l.length cap)] w _
  have f1:=aUa
  have f2:=aUb
  have f3:=aUm
  go_enter Tryz.func231,Tryz.ntmps231
  go_wp2_with fail
  refine (aG3 a l.length cap w).mono ?_
  rintro e x ⟨rfl,hx⟩
  subst x
  go_wp2_with fail
  refine (HM.out w HV.out).mono ?_
  rintro e x ⟨rfl,hx⟩
  subst x
  go_wp2_with fail
  go_ret
  exact ⟨aA1 (by simp [aCb]),rfl⟩
 ·show Calls Tryz.prog 231 #[kT 214 (.slice a l.length cap)] w _
  have f1:=aUc
  have f2:=aUd
  have f3:=aUn
  go_enter Tryz.func231,Tryz.ntmps231
  go_wp2_with fail
  refine (aG3 a l.length cap w).mono ?_
  rintro e x ⟨rfl,hx⟩
  subst x
  go_wp2_with fail
  refine (HM.out w HV.out).mono ?_
  rintro e x ⟨rfl,hx⟩
  subst x
  go_wp2_with fail
  go_ret
  exact ⟨aA1 (by simp [aCb]),rfl⟩
 ·show Calls Tryz.prog 231 #[kT 217 (.slice a l.length cap)] w _
  have f1:=aUe
  have f2:=aUf
  have f3:=aUg
  have f4:=aUh
  have f5:=aUo
  have hd:Hid (aCb 3 l=((l.length:Int) == 0)):=by
   unfold Hid
   by_cases h:l.length=0
   ·have h':((l.length:Int) == 0)=true:=by simpa using h
    rw [h']
    simp [aCb,h]
   ·have h':((l.length:Int) == 0)=false:=by simpa using h
    rw [h']
    simp [aCb,h]
  go_enter Tryz.func231,Tryz.ntmps231
  go_wp2_with fail
  refine (aG3 a l.length cap w).mono ?_
  rintro e x ⟨rfl,hx⟩
  subst x
  go_wp2_with fail
  go_ret
  exact ⟨aA1 (by rw [hd.out]),rfl⟩
 ·show Calls Tryz.prog 231 #[kT 218 (.slice a l.length cap)] w _
  have f1:=aUi
  have f2:=aUj
  have f3:=aUk
  have f4:=aUl
  have f5:=aUp
  have hd:Hid (aCb 4 l=((l.length:Int) == 0)):=by
   unfold Hid
   by_cases h:l.length=0
   ·have h':((l.length:Int) == 0)=true:=by simpa using h
    rw [h']
    simp [aCb,h]
   ·have h':((l.length:Int) == 0)=false:=by simpa using h
    rw [h']
    simp [aCb,h]
  go_enter Tryz.func231,Tryz.ntmps231
  go_wp2_with fail
  refine (aG3 a l.length cap w).mono ?_
  rintro e x ⟨rfl,hx⟩
  subst x
  go_wp2_with fail
  go_ret
  exact ⟨aA1 (by rw [hd.out]),rfl⟩
 ·have hd:Hid (aCb k l=false):=by
   simp at h1 h2 h3 h4
   simp [Hid,aCb,h1,h2,h3,h4]
  rw [aJw (.slice a l.length cap) h1 h2 h3 h4]
  clear h1 h2 h3 h4
  have f1:=aVl
  have f2:=aVm
  have f3:=aVn
  have f4:=aVo
  go_enter Tryz.func231,Tryz.ntmps231
  go_wp2_with fail
  go_ret
  exact ⟨aA1 hd.out.symm,rfl⟩
end Go.Proofs.YthnodpdiocppgaaGreatDoor
namespace Go.Proofs.YthnodpdiocppgaaGreatDoor
open Go Go.RowKit Go.Shelf
theorem boxN {w W:World} {a b c:Value} {t:Nat} (h:Below (w.alloc (.cells #[a,b,c] t)).heap.size (w.alloc (.cells #[a,b,c] t)) W) :
  W.cell? ⟨w.heap.size,0,none⟩=some a∧W.cell? ⟨w.heap.size,1,none⟩=some b∧W.cell? ⟨w.heap.size,2,none⟩=some c :=
 ⟨aA0 (aB7 h) rfl,aA0 (aB7 h) rfl,aA0 (aB7 h) rfl⟩
theorem aMs (x:NV) (w:World) (hx:Sl ES w x.v x.n.vals) (hr:RawN x.n) :
  Calls Tryz.prog 207 #[nV x] w fun e w'=>e=.returned (.bool (La.mayN x.n))∧Below w.heap.size w w':=by
 obtain ⟨⟨k,nm,vs⟩,a,c⟩:=x
 have hnm:=hr.name
 have hvs:=hr.vals
 have hm:Hid (La.mayN ⟨k,nm,vs⟩=(D.isName nm.data.toList&&aCb k vs)):=rfl
 have HX:=hide hx
 have HA:=hide (fun W (h:Sl ES W (.slice a vs.length c) vs)=>aO2 k (.slice a vs.length c) vs W h hvs)
 clear hx hr hvs
 dsimp only at *
 cases hq:D.isName nm.data.toList
 ·rw [hq] at hm
  go_enter Tryz.func207,Tryz.ntmps207
  go_wp2_with fail
  refine (aC2 nm _ hnm).mono ?_
  rintro e w1 ⟨rfl,hb1⟩
  rw [hq]
  go_wp2_with fail
  go_ret
  exact ⟨aA1 (by rw [hm.out];rfl),aA8 hb1⟩
 ·rw [hq] at hm
  go_enter Tryz.func207,Tryz.ntmps207
  go_wp2_with fail
  refine (aC2 nm _ hnm).mono ?_
  rintro e w1 ⟨rfl,hb1⟩
  rw [hq]
  obtain ⟨c0,c1,c2⟩:=boxN hb1
  go_wp2_with fail
  refine (aQc k nm a vs.length c w1).mono ?_
  rintro e w2 ⟨rfl,hb2⟩
  go_wp2_with fail
  refine (HA.out w2 (HX.out.below (bb2 (aA8 hb1) hb2))).mono ?_
  rintro e w3 ⟨rfl,hw3⟩
  subst w3
  go_wp2_with fail
  go_ret
  exact ⟨aA1 (by rw [hm.out];rfl),bb2 (aA8 hb1) hb2⟩
end Go.Proofs.YthnodpdiocppgaaGreatDoor
namespace Go.Proofs.YthnodpdiocppgaaGreatDoor
open Go Go.RowKit Go.Shelf
theorem aSj (v:Value) (l:List aAa) (w:World) (hv:Prs w v l) (hok:∀ p∈l,okP p) :
  Calls Tryz.prog 102 #[v] w fun e w'=>e=.returned (.bool (La.mayL l))∧Below w.heap.size w w':=by
 have hlen:=hv.len
 obtain ⟨a,cap,rfl,_,_,hc⟩:=hv
 have HC:=hide hc
 have HOK:=hide hok
 clear hc hok
 by_cases h8:8<l.length
 ·have hz8:(8:Int)<(l.length:Int):=by omega
  have hm:=hide (La.mayL_long h8)
  go_enter Tryz.func102,Tryz.ntmps102
  go_wp2_with fail
  go_ret
  exact ⟨aA1 hm.out.symm,Below.refl _ _⟩
 have hz8:¬ (8:Int)<(l.length:Int):=by omega
 go_enter Tryz.func102,Tryz.ntmps102
 go_wp2_with fail
 go_loopw [10] (fun i wr=>∃ k:Nat,k≤l.length∧i=.int .i64 k∧Hid (La.okTo l k=true)∧Below w.heap.size w wr) (fun i _=>l.length - (intOf i).toNat)
 case atStart=>exact ⟨0,Nat.zero_le _,rfl,rfl,Below.refl _ _⟩
 case round =>
  obtain ⟨k,hk,rfl,hall,hB⟩:=hrel
  by_cases hlt:k<l.length
  ·have hlt':(k:Int)<(l.length:Int):=by omega
   obtain ⟨o1,o2⟩:=HOK.out _ (List.getElem_mem hlt)
   have HY:=hide (fun h=>La.okTo_succ (k:=k) hall.out h)
   have HN:=hide (fun h=>La.mayL_not hlt h)
   by_cases h0:k=0
   ·subst h0
    obtain ⟨g,off,rfl,hg,c1,c2⟩:=HC.out 0 hlt
    rw [Nat.zero_mul,Nat.add_zero] at c1 c2
    have c1':=(hB.cell (p:=⟨g,off,none⟩) hg).trans c1
    have c2':=(hB.cell (p:=⟨g,off+1,none⟩) hg).trans c2
    have HE:=hide (La.okAt_first hlt)
    clear c1 c2
    generalize l[0].1=p1 at *
    generalize l[0].2=p2 at *
    generalize La.okAt l 0=r at *
    have E1:La.isNm p1=D.isName p1.data.toList:=rfl
    rw [E1] at HE
    cases hq:D.isName p1.data.toList
    ·rw [hq] at HE
     go_wp2_with fail
     refine (aC2 p1 _ o1).mono ?_
     rintro e w1 ⟨rfl,hb1⟩
     rw [hq]
     have d1:=aD5 hb1
     go_wp2_with fail
     go_ret
     exact ⟨aA1 (HN.out (by rw [HE.out];rfl)).symm,bb2 hB (aA8 hb1)⟩
    ·rw [hq] at HE
     cases hq2:La.mayV p2
     ·rw [hq2] at HE
      go_wp2_with fail
      refine (aC2 p1 _ o1).mono ?_
      rintro e w1 ⟨rfl,hb1⟩
      rw [hq]
      have d1:=aD5 hb1
      go_wp2_with fail
      refine (aCs p2 _ o2).mono ?_
      rintro e x ⟨rfl,hx⟩
      subst x
      rw [hq2]
      go_wp2_with fail
      go_ret
      exact ⟨aA1 (HN.out (by rw [HE.out];rfl)).symm,bb2 hB (aA8 hb1)⟩
     ·rw [hq2] at HE
      go_wp2_with fail
      refine (aC2 p1 _ o1).mono ?_
      rintro e w1 ⟨rfl,hb1⟩
      rw [hq]
      have d1:=aD5 hb1
      go_wp2_with fail
      refine (aCs p2 _ o2).mono ?_
      rintro e x ⟨rfl,hx⟩
      subst x
      rw [hq2]
      go_wp2_with fail
      refine wp_region_noPanic ?_
      refine wp_region_held_drew (S:=fun W=>Below (w1).heap.size (w1) W) (by kernel_rfl) ((Below.refl _ _).drew) (fun hHeld=>?_)
      refine zzH 0 ?_ rfl ?_ ?_
      rotate_left 1
      ·(intro W hSw;(try dsimp only at hSw);go_simp;(try with_reducible rfl))
      try simp only [Act.put,zzB,zzC,zzD]
      refine zzH 1 ?_ rfl ?_ ?_
      rotate_left 1
      ·(intro W hSw;(try dsimp only at hSw);go_simp;(try with_reducible rfl))
      try simp only [Act.put,zzB,zzC,zzD]
      refine zzH 2 ?_ rfl ?_ ?_
      rotate_left 1
      ·(intro W hSw;(try dsimp only at hSw);go_simp;(try with_reducible rfl))
      try simp only [Act.put,zzB,zzC,zzD]
      refine zzU 3 rfl ?_
      try simp only [Act.put,zzB,zzC,zzD]
      refine zzU 4 rfl ?_
      try simp only [Act.put,zzB,zzC,zzD]
      refine zzU 5 rfl ?_
      try simp only [Act.put,zzB,zzC,zzD]
      refine zzU 6 rfl ?_
      try simp only [Act.put,zzB,zzC,zzD]
      refine zzU 7 rfl ?_
      try simp only [Act.put,zzB,zzC,zzD]
      refine zzU 8 rfl ?_
      try simp only [Act.put,zzB,zzC,zzD]
      refine zzU 9 rfl ?_
      try simp only [Act.put,zzB,zzC,zzD]
      refine zzU 10 rfl ?_
      try simp only [Act.put,zzB,zzC,zzD]
      refine zzU 11 rfl ?_
      try simp only [Act.put,zzB,zzC,zzD]
      refine zzH 12 ?_ rfl ?_ ?_
      rotate_left 1
      ·(intro W hSw;(try dsimp only at hSw);go_simp;(try with_reducible rfl))
      try simp only [Act.put,zzB,zzC,zzD]
      refine wpAnyH_done (by kernel_rfl) ?_ _
      refine NoPanic.normal ?_
      have hq9:=hHeld
      go_wp2_with fail
      exact ⟨⟨1,by omega,by go_num,HY.out (by rw [HE.out];rfl),bb2 (bb2 hB (aA8 hb1)) hq9⟩,by simp [intOf];omega⟩
   ·have h0':decide (0<k)=true:=decide_eq_true (by omega)
    obtain ⟨g,off,rfl,hg,c1,c2⟩:=HC.out k hlt
    obtain ⟨g',off',hgg,hg',c3,c4⟩:=HC.out (k - 1) (by omega)
    clear c4
    injection hgg with hgg
    injection hgg with e1 e2
    subst e1 e2
    have c1':=(hB.cell (p:=⟨g,off+k*2,none⟩) hg).trans c1
    have c2':=(hB.cell (p:=⟨g,off+k*2+1,none⟩) hg).trans c2
    have c3':∀ W,Below w.heap.size w W→W.cell? ⟨g,off+(k - 1)*2,none⟩=some (.string l[k - 1].1):=fun W hW=>(hW.cell (p:=⟨g,off+(k - 1)*2,none⟩) hg).trans c3
    have HE:=hide (La.okAt_next hlt h0)
    have hwr:IntKind.i64.wrap ((k:Int) - 1)=((k - 1:Nat):Int):=by rw [IntKind.wrap_i64];omega
    have hk2:((k - 1:Nat):Int)<(l.length:Int):=by omega
    clear c1 c2 c3
    generalize l[k].1=p1 at *
    generalize l[k].2=p2 at *
    generalize l[k - 1].1=p0 at *
    generalize k - 1=j at *
    generalize La.okAt l k=r at *
    have E1:La.isNm p1=D.isName p1.data.toList:=rfl
    rw [E1] at HE
    cases hq:D.isName p1.data.toList
    ·rw [hq] at HE
     go_wp2_with fail
     refine (aC2 p1 _ o1).mono ?_
     rintro e w1 ⟨rfl,hb1⟩
     rw [hq]
     have d1:=aD5 hb1
     go_wp2_with fail
     go_ret
     exact ⟨aA1 (HN.out (by rw [HE.out];rfl)).symm,bb2 hB (aA8 hb1)⟩
    ·rw [hq] at HE
     cases hq2:La.mayV p2
     ·rw [hq2] at HE
      go_wp2_with fail
      refine (aC2 p1 _ o1).mono ?_
      rintro e w1 ⟨rfl,hb1⟩
      rw [hq]
      have d1:=aD5 hb1
      go_wp2_with fail
      refine (aCs p2 _ o2).mono ?_
      rintro e x ⟨rfl,hx⟩
      subst x
      rw [hq2]
      go_wp2_with fail
      go_ret
      exact ⟨aA1 (HN.out (by rw [HE.out];rfl)).symm,bb2 hB (aA8 hb1)⟩
     ·rw [hq2] at HE
      cases hq3:La.lessB p0 p1
      ·have hq3':Op.bytesLess p0.toList p1.toList=false:=hq3
       rw [hq3] at HE
       go_wp2_with fail
       refine (aC2 p1 _ o1).mono ?_
       rintro e w1 ⟨rfl,hb1⟩
       rw [hq]
       have d1:=aD5 hb1
       have d0:=fun W (hW:Below w1.heap.size w1 W)=>aH3 (hb1.trans (hW.mono hb1.size))
       replace c3':=fun W (hW:Below w1.heap.size w1 W)=>c3' W (bb2 (bb2 hB (aA8 hb1)) hW)
       go_wp2_with fail
       refine (aCs p2 _ o2).mono ?_
       rintro e x ⟨rfl,hx⟩
       subst x
       rw [hq2]
       go_wp2_with fail
       refine wp_region_noPanic ?_
       refine wp_region_held_drew (S:=fun W=>Below (w1).heap.size (w1) W) (by kernel_rfl) ((Below.refl _ _).drew) (fun hHeld=>?_)
       refine zzH 0 ?_ rfl ?_ ?_
       rotate_left 1
       ·(intro W hSw;(try dsimp only at hSw);go_simp;(try with_reducible rfl))
       try simp only [Act.put,zzB,zzC,zzD]
       refine zzH 1 ?_ rfl ?_ ?_
       rotate_left 1
       ·(intro W hSw;(try dsimp only at hSw);go_simp;(try with_reducible rfl))
       try simp only [Act.put,zzB,zzC,zzD]
       refine zzH 2 ?_ rfl ?_ ?_
       rotate_left 1
       ·(intro W hSw;(try dsimp only at hSw);go_simp;(try with_reducible rfl))
       try simp only [Act.put,zzB,zzC,zzD]
       refine zzH 3 ?_ rfl ?_ ?_
       rotate_left 1
       ·(intro W hSw;(try dsimp only at hSw);go_simp;(try with_reducible rfl))
       try simp only [Act.put,zzB,zzC,zzD]
       refine zzH 4 ?_ rfl ?_ ?_
       rotate_left 1
       ·(intro W hSw;(try dsimp only at hSw);go_simp;(try with_reducible rfl))
       try simp only [Act.put,zzB,zzC,zzD]
       refine zzH 5 ?_ rfl ?_ ?_
       rotate_left 1
       ·(intro W hSw;(try dsimp only at hSw);go_simp;(try with_reducible rfl))
       try simp only [Act.put,zzB,zzC,zzD]
       refine zzH 6 ?_ rfl ?_ ?_
       rotate_left 1
       ·(intro W hSw;(try dsimp only at hSw);go_simp;(try with_reducible rfl))
       try simp only [Act.put,zzB,zzC,zzD]
       refine zzH 7 ?_ rfl ?_ ?_
       rotate_left 1
       ·(intro W hSw;(try dsimp only at hSw);go_simp;(try with_reducible rfl))
       try simp only [Act.put,zzB,zzC,zzD]
       refine zzH 8 ?_ rfl ?_ ?_
       rotate_left 1
       ·(intro W hSw;(try dsimp only at hSw);have c4:=c3' W hSw;go_simp;(try with_reducible rfl))
       try simp only [Act.put,zzB,zzC,zzD]
       refine zzH 9 ?_ rfl ?_ ?_
       rotate_left 1
       ·(intro W hSw;(try dsimp only at hSw);go_simp;(try with_reducible rfl))
       try simp only [Act.put,zzB,zzC,zzD]
       refine zzH 10 ?_ rfl ?_ ?_
       rotate_left 1
       ·(intro W hSw;(try dsimp only at hSw);have d4:=d0 W hSw;go_simp;(try with_reducible rfl))
       try simp only [Act.put,zzB,zzC,zzD]
       refine zzH 11 ?_ rfl ?_ ?_
       rotate_left 1
       ·(intro W hSw;(try dsimp only at hSw);go_simp;(try with_reducible rfl))
       try simp only [Act.put,zzB,zzC,zzD]
       refine zzH 12 ?_ rfl ?_ ?_
       rotate_left 1
       ·(intro W hSw;(try dsimp only at hSw);go_simp;(try with_reducible rfl))
       try simp only [Act.put,zzB,zzC,zzD]
       refine wpAnyH_done (by kernel_rfl) ?_ _
       refine NoPanic.normal ?_
       have hq9:=hHeld
       go_wp2_with fail
       go_ret
       exact ⟨aA1 (HN.out (by rw [HE.out];rfl)).symm,bb2 (bb2 hB (aA8 hb1)) hq9⟩
      ·have hq3':Op.bytesLess p0.toList p1.toList=true:=hq3
       rw [hq3] at HE
       go_wp2_with fail
       refine (aC2 p1 _ o1).mono ?_
       rintro e w1 ⟨rfl,hb1⟩
       rw [hq]
       have d1:=aD5 hb1
       have d0:=fun W (hW:Below w1.heap.size w1 W)=>aH3 (hb1.trans (hW.mono hb1.size))
       replace c3':=fun W (hW:Below w1.heap.size w1 W)=>c3' W (bb2 (bb2 hB (aA8 hb1)) hW)
       go_wp2_with fail
       refine (aCs p2 _ o2).mono ?_
       rintro e x ⟨rfl,hx⟩
       subst x
       rw [hq2]
       go_wp2_with fail
       refine wp_region_noPanic ?_
       refine wp_region_held_drew (S:=fun W=>Below (w1).heap.size (w1) W) (by kernel_rfl) ((Below.refl _ _).drew) (fun hHeld=>?_)
       refine zzH 0 ?_ rfl ?_ ?_
       rotate_left 1
       ·(intro W hSw;(try dsimp only at hSw);go_simp;(try with_reducible rfl))
       try simp only [Act.put,zzB,zzC,zzD]
       refine zzH 1 ?_ rfl ?_ ?_
       rotate_left 1
       ·(intro W hSw;(try dsimp only at hSw);go_simp;(try with_reducible rfl))
       try simp only [Act.put,zzB,zzC,zzD]
       refine zzH 2 ?_ rfl ?_ ?_
       rotate_left 1
       ·(intro W hSw;(try dsimp only at hSw);go_simp;(try with_reducible rfl))
       try simp only [Act.put,zzB,zzC,zzD]
       refine zzH 3 ?_ rfl ?_ ?_
       rotate_left 1
       ·(intro W hSw;(try dsimp only at hSw);go_simp;(try with_reducible rfl))
       try simp only [Act.put,zzB,zzC,zzD]
       refine zzH 4 ?_ rfl ?_ ?_
       rotate_left 1
       ·(intro W hSw;(try dsimp only at hSw);go_simp;(try with_reducible rfl))
       try simp only [Act.put,zzB,zzC,zzD]
       refine zzH 5 ?_ rfl ?_ ?_
       rotate_left 1
       ·(intro W hSw;(try dsimp only at hSw);go_simp;(try with_reducible rfl))
       try simp only [Act.put,zzB,zzC,zzD]
       refine zzH 6 ?_ rfl ?_ ?_
       rotate_left 1
       ·(intro W hSw;(try dsimp only at hSw);go_simp;(try with_reducible rfl))
       try simp only [Act.put,zzB,zzC,zzD]
       refine zzH 7 ?_ rfl ?_ ?_
       rotate_left 1
       ·(intro W hSw;(try dsimp only at hSw);go_simp;(try with_reducible rfl))
       try simp only [Act.put,zzB,zzC,zzD]
       refine zzH 8 ?_ rfl ?_ ?_
       rotate_left 1
       ·(intro W hSw;(try dsimp only at hSw);have c4:=c3' W hSw;go_simp;(try with_reducible rfl))
       try simp only [Act.put,zzB,zzC,zzD]
       refine zzH 9 ?_ rfl ?_ ?_
       rotate_left 1
       ·(intro W hSw;(try dsimp only at hSw);go_simp;(try with_reducible rfl))
       try simp only [Act.put,zzB,zzC,zzD]
       refine zzH 10 ?_ rfl ?_ ?_
       rotate_left 1
       ·(intro W hSw;(try dsimp only at hSw);have d4:=d0 W hSw;go_simp;(try with_reducible rfl))
       try simp only [Act.put,zzB,zzC,zzD]
       refine zzH 11 ?_ rfl ?_ ?_
       rotate_left 1
       ·(intro W hSw;(try dsimp only at hSw);go_simp;(try with_reducible rfl))
       try simp only [Act.put,zzB,zzC,zzD]
       refine zzH 12 ?_ rfl ?_ ?_
       rotate_left 1
       ·(intro W hSw;(try dsimp only at hSw);go_simp;(try with_reducible rfl))
       try simp only [Act.put,zzB,zzC,zzD]
       refine wpAnyH_done (by kernel_rfl) ?_ _
       refine NoPanic.normal ?_
       have hq9:=hHeld
       go_wp2_with fail
       exact ⟨⟨k+1,by omega,by go_num,HY.out (by rw [HE.out];rfl),bb2 (bb2 hB (aA8 hb1)) hq9⟩,by simp [intOf];omega⟩
  ·have hlt':¬ (k:Int)<(l.length:Int):=by omega
   have hq:=hide (La.mayL_yes (k:=k) (by omega) (by omega) hall.out hk)
   go_wp2_with fail
   go_ret
   exact ⟨aA1 hq.out.symm,hB⟩
end Go.Proofs.YthnodpdiocppgaaGreatDoor
namespace Go.Proofs.YthnodpdiocppgaaGreatDoor
open Go Go.RowKit Go.Shelf
abbrev nbs (L:List NV):List NB:=L.map NV.n
theorem aLc (L:List NV):La.needs (nbs L)=(decide (L.length≤8)&&L.all fun x=>La.mayN x.n):=by
 simp [La.needs,List.all_map,Function.comp_def]
theorem aIk {w W:World} {a:Option Addr} {n cap:Nat} {L:List NV} (h:Sl EN w (.slice a n cap) L) (hB:Below w.heap.size w W) {k:Nat} (hk:k<L.length) :
  Sl ES W L[k].v L[k].n.vals∧∃ g off,a=some ⟨g,off,none⟩∧g<w.heap.size∧W.cell? ⟨g,off+k*3,none⟩=some (.int .i64 L[k].n.kind)∧W.cell? ⟨g,off+k*3+1,none⟩=some (.string L[k].n.name)∧W.cell? ⟨g,off+k*3+2,none⟩=some L[k].v:=by
 obtain ⟨a',cap',hv,_,_,hc⟩:=h
 injection hv with e1 e2 e3
 subst e1
 obtain ⟨hA,g,off,ha,hg,c⟩:=hc k hk
 have hA':Sl ES w L[k].v L[k].n.vals:=hA
 exact ⟨hA'.below hB,g,off,ha,hg,aTs (c.below hg hB)⟩
theorem aO3 (v:Value) (L:List NV) (w:World) (hv:Sl EN w v L) (hok:∀ x∈L,RawN x.n) :
  Calls Tryz.prog 182 #[v] w fun e w'=>e=.returned (.bool (La.needs (nbs L)))∧Below w.heap.size w w':=by
 have hlen:=hv.len
 obtain ⟨a,cap,rfl⟩:=hv.form
 have HC:=hide (fun W (hB:Below w.heap.size w W) k (hk:k<L.length)=>aIk hv hB hk)
 have HOK:=hide hok
 have HE:=hide (aLc L)
 clear hv hok
 by_cases h8:8<L.length
 ·have hz8:(8:Int)<(L.length:Int):=by omega
  have hm:Hid (La.needs (nbs L)=false):=by
   unfold Hid
   rw [HE.out,decide_eq_false (by omega),Bool.false_and]
  go_enter Tryz.func182,Tryz.ntmps182
  go_wp2_with fail
  go_ret
  exact ⟨aA1 hm.out.symm,Below.refl _ _⟩
 have hz8:¬ (8:Int)<(L.length:Int):=by omega
 rw [decide_eq_true (show L.length≤8 by omega),Bool.true_and] at HE
 go_enter Tryz.func182,Tryz.ntmps182
 go_wp2_with fail
 go_loopw [10] (fun i wr=>∃ k:Nat,k≤L.length∧i=.int .i64 k∧Hid ((L.take k).all (fun x=>La.mayN x.n)=true)∧Below w.heap.size w wr) (fun i _=>L.length - (intOf i).toNat)
 case atStart=>exact ⟨0,Nat.zero_le _,rfl,rfl,Below.refl _ _⟩
 case round =>
  obtain ⟨k,hk,rfl,hall,hB⟩:=hrel
  by_cases hlt:k<L.length
  ·have hlt':(k:Int)<(L.length:Int):=by omega
   obtain ⟨hA,g,off,rfl,hg,c0,c1,c2⟩:=HC.out _ hB k hlt
   have o1:=HOK.out _ (List.getElem_mem hlt)
   have HT:=hide (fun h=>aF8 (p:=fun x:NV=>La.mayN x.n) hlt hall.out h)
   have HG:=hide (fun h=>aF9 (p:=fun x:NV=>La.mayN x.n) hlt h)
   have HA:=hide (hA.below ((Below.refl _ _).alloc (Nat.le_refl _) (.cells #[.int .i64 L[k].n.kind,.string L[k].n.name,L[k].v] 105)))
   clear hA
   generalize L[k]=x at *
   have HM:=hide (fun W (h:Sl ES W x.v x.n.vals)=>aMs x W h o1)
   clear o1
   obtain ⟨⟨kk,nm,vs⟩,xa,xc⟩:=x
   dsimp only at *
   cases hq:La.mayN ⟨kk,nm,vs⟩
   ·have hq2:=hide (HG.out hq)
    rw [hq] at HM
    go_wp2_with fail
    refine (HM.out _ HA.out).mono ?_
    rintro e w1 ⟨rfl,hb1⟩
    go_wp2_with fail
    go_ret
    exact ⟨aA1 (by rw [HE.out,hq2.out]),bb2 hB (aA8 hb1)⟩
   ·have hq2:=hide (HT.out hq)
    rw [hq] at HM
    go_wp2_with fail
    refine (HM.out _ HA.out).mono ?_
    rintro e w1 ⟨rfl,hb1⟩
    go_wp2_with fail
    exact ⟨⟨k+1,by omega,by go_num,hq2.out,bb2 hB (aA8 hb1)⟩,by simp [intOf];omega⟩
  ·have hlt':¬ (k:Int)<(L.length:Int):=by omega
   have hq:=hide (aG4 (p:=fun x:NV=>La.mayN x.n) (by omega) hall.out)
   go_wp2_with fail
   go_ret
   exact ⟨aA1 (by rw [HE.out,hq.out]),hB⟩
end Go.Proofs.YthnodpdiocppgaaGreatDoor
namespace Go.Proofs.YthnodpdiocppgaaGreatDoor
open Go Go.RowKit Go.Shelf
theorem aO4 (w:World) (va vb:Value) (xs ys:List ByteArray) (ha:Sl ES w va xs) (hb:Sl ES w vb ys) (hne:xs.length≠ys.length) :
  Calls Tryz.prog 174 #[va,vb] w fun e w'=>e=.returned (.bool (decide (xs=ys)))∧Below w.heap.size w w':=by
 obtain ⟨a,ca,rfl⟩:=ha.form
 obtain ⟨b,cb,rfl⟩:=hb.form
 have hd:Hid (decide (xs=ys)=false):=decide_eq_false (fun e=>hne (by rw [e]))
 have hx:((xs.length:Int) != (ys.length:Int))=true:=by rw [bne_iff_ne];omega
 clear ha hb
 go_enter Tryz.func174,Tryz.ntmps174
 go_wp2_with fail
 go_ret
 exact ⟨aA1 hd.out.symm,Below.refl _ _⟩
theorem aIl (w:World) (va vb:Value) (xs ys:List ByteArray) (ha:Sl ES w va xs) (hb:Sl ES w vb ys) :
  Calls Tryz.prog 174 #[va,vb] w fun e w'=>e=.returned (.bool (decide (xs=ys)))∧Below w.heap.size w w':=by
 by_cases hnn:¬ xs.length=ys.length
 ·exact aO4 w va vb xs ys ha hb hnn
 have hne:xs.length=ys.length:=Classical.not_not.1 hnn
 clear hnn
 have hl:=ha.len
 obtain ⟨a,ca,rfl,_,_,hca⟩:=ha
 obtain ⟨b,cb,rfl,_,_,hcb⟩:=hb
 have hx:((xs.length:Int) != (ys.length:Int))=false:=by rw [bne_eq_false_iff_eq];omega
 have HN:=hide hne
 have HA:=hide hca
 have HB:=hide hcb
 clear hne hca hcb
 go_enter Tryz.func174,Tryz.ntmps174
 go_wp2_with fail
 go_loopw [13] (fun i wr=>∃ k:Nat,k≤xs.length∧i=.int .i64 k∧Hid (xs.take k=ys.take k)∧Below w.heap.size w wr) (fun i _=>xs.length - (intOf i).toNat)
 case atStart=>exact ⟨0,Nat.zero_le _,rfl,rfl,Below.refl _ _⟩
 case round =>
  obtain ⟨k,hk,rfl,htk,hB⟩:=hrel
  by_cases hlt:k<xs.length
  ·have hlb:k<ys.length:=by rw [←HN.out];exact hlt
   obtain ⟨_,ga,oa,rfl,hga,c1⟩:=HA.out k hlt
   obtain ⟨_,gb,ob,rfl,hgb,c2⟩:=HB.out k hlb
   replace c1:=aEf (c1.below hga hB)
   replace c2:=aEf (c2.below hgb hB)
   rw [show oa+k*ES.n=oa+k from by show oa+k*1=_;rw [Nat.mul_one]] at c1
   rw [show ob+k*ES.n=ob+k from by show ob+k*1=_;rw [Nat.mul_one]] at c2
   have hlt':(k:Int)<(xs.length:Int):=by omega
   have hlb':(k:Int)<(ys.length:Int):=by omega
   cases hq:(xs[k].toList == ys[k].toList)
   ·have hqe:Hid (decide (xs=ys)=false):=by
     apply decide_eq_false
     intro e
     subst e
     simp at hq
    go_wp2
    go_region
    go_wp2
    go_ret
    exact ⟨aA1 hqe.out.symm,hB.drew⟩
   ·have hqe:Hid (xs[k]=ys[k]):=aCp hq
    go_wp2
    go_region
    go_wp2
    refine ⟨⟨k+1,by omega,by go_num,?_,hB.drew⟩,by simp [intOf];omega⟩
    unfold Hid
    rw [List.take_succ_eq_append_getElem hlt,List.take_succ_eq_append_getElem hlb,htk.out,hqe.out]
  ·have hqe:Hid (decide (xs=ys)=true):=by
    apply decide_eq_true
    have:=htk.out
    rwa [List.take_of_length_le (by omega),List.take_of_length_le (by rw [←HN.out];omega)] at this
   go_wp2
   go_ret
   exact ⟨aA1 hqe.out.symm,hB⟩
theorem aO5 (w:World) (va vb:Value) (xs ys:List ByteArray) (ha:Sl ES w va xs) (hb:Sl ES w vb ys) (hne:xs.length≠ys.length) :
  Calls Tryz.prog 32 #[va,vb] w fun e w'=>e=.returned (.bool (decide (xs=ys)))∧Below w.heap.size w w':=by
 obtain ⟨a,ca,rfl⟩:=ha.form
 obtain ⟨b,cb,rfl⟩:=hb.form
 have hd:Hid (decide (xs=ys)=false):=decide_eq_false (fun e=>hne (by rw [e]))
 have hx:((xs.length:Int) != (ys.length:Int))=true:=by rw [bne_iff_ne];omega
 clear ha hb
 go_enter Tryz.func32,Tryz.ntmps32
 go_wp2_with fail
 go_ret
 exact ⟨aA1 hd.out.symm,Below.refl _ _⟩
theorem aIm (w:World) (va vb:Value) (xs ys:List ByteArray) (ha:Sl ES w va xs) (hb:Sl ES w vb ys) :
  Calls Tryz.prog 32 #[va,vb] w fun e w'=>e=.returned (.bool (decide (xs=ys)))∧Below w.heap.size w w':=by
 by_cases hnn:¬ xs.length=ys.length
 ·exact aO5 w va vb xs ys ha hb hnn
 have hne:xs.length=ys.length:=Classical.not_not.1 hnn
 clear hnn
 have hl:=ha.len
 obtain ⟨a,ca,rfl,_,_,hca⟩:=ha
 obtain ⟨b,cb,rfl,_,_,hcb⟩:=hb
 have hx:((xs.length:Int) != (ys.length:Int))=false:=by rw [bne_eq_false_iff_eq];omega
 have HN:=hide hne
 have HA:=hide hca
 have HB:=hide hcb
 clear hne hca hcb
 go_enter Tryz.func32,Tryz.ntmps32
 go_wp2_with fail
 go_loopw [5] (fun i wr=>∃ k:Nat,k≤xs.length∧i=.int .i64 k∧Hid (xs.take k=ys.take k)∧Below w.heap.size w wr) (fun i _=>xs.length - (intOf i).toNat)
 case atStart=>exact ⟨0,Nat.zero_le _,rfl,rfl,Below.refl _ _⟩
 case round =>
  obtain ⟨k,hk,rfl,htk,hB⟩:=hrel
  by_cases hlt:k<xs.length
  ·have hlb:k<ys.length:=by rw [←HN.out];exact hlt
   obtain ⟨_,ga,oa,rfl,hga,c1⟩:=HA.out k hlt
   obtain ⟨_,gb,ob,rfl,hgb,c2⟩:=HB.out k hlb
   replace c1:=aEf (c1.below hga hB)
   replace c2:=aEf (c2.below hgb hB)
   rw [show oa+k*ES.n=oa+k from by show oa+k*1=_;rw [Nat.mul_one]] at c1
   rw [show ob+k*ES.n=ob+k from by show ob+k*1=_;rw [Nat.mul_one]] at c2
   have hlt':(k:Int)<(xs.length:Int):=by omega
   have hlb':(k:Int)<(ys.length:Int):=by omega
   cases hq:(xs[k].toList == ys[k].toList)
   ·have hqe:Hid (decide (xs=ys)=false):=by
     apply decide_eq_false
     intro e
     subst e
     simp at hq
    go_wp2
    go_region
    go_wp2
    go_ret
    exact ⟨aA1 hqe.out.symm,hB.drew⟩
   ·have hqe:Hid (xs[k]=ys[k]):=aCp hq
    go_wp2
    go_region
    go_wp2
    refine ⟨⟨k+1,by omega,by go_num,?_,hB.drew⟩,by simp [intOf];omega⟩
    unfold Hid
    rw [List.take_succ_eq_append_getElem hlt,List.take_succ_eq_append_getElem hlb,htk.out,hqe.out]
  ·have hqe:Hid (decide (xs=ys)=true):=by
    apply decide_eq_true
    have:=htk.out
    rwa [List.take_of_length_le (by omega),List.take_of_length_le (by rw [←HN.out];omega)] at this
   go_wp2
   go_ret
   exact ⟨aA1 hqe.out.symm,hB⟩
end Go.Proofs.YthnodpdiocppgaaGreatDoor
namespace Go.Proofs.YthnodpdiocppgaaGreatDoor
open Go Go.RowKit Go.Shelf
theorem aLd (x y:NV) (w:World) (hx:Sl ES w x.v x.n.vals) (hy:Sl ES w y.v y.n.vals) :
  Calls Tryz.prog 229 #[nV x,nV y] w fun e w'=>e=.returned (.bool (La.sameN x.n y.n))∧Below w.heap.size w w':=by
 have HQ:=hide (fun W (h:Below w.heap.size w W)=>aIl W x.v y.v x.n.vals y.n.vals (hx.below h) (hy.below h))
 obtain ⟨⟨k,nm,vs⟩,a,c⟩:=x
 obtain ⟨⟨k2,nm2,vs2⟩,a2,c2⟩:=y
 have HE:Hid (La.sameN ⟨k,nm,vs⟩ ⟨k2,nm2,vs2⟩=(decide (k=k2)&&decide (nm=nm2)&&decide (vs=vs2))):=rfl
 clear hx hy
 dsimp only at *
 by_cases h1:k=k2
 ·subst h1
  cases h2:(nm.toList == nm2.toList)
  ·have:decide (nm=nm2)=false:=decide_eq_false (fun e=>by rw [e] at h2;simp at h2)
   rw [this] at HE
   clear this
   go_enter Tryz.func229,Tryz.ntmps229
   go_wp2_with fail
   go_ret
   exact ⟨aA1 (by rw [HE.out];simp),((Below.refl _ _).alloc (Nat.le_refl _) _).alloc (by simp) _⟩
  ·have:decide (nm=nm2)=true:=decide_eq_true (aCp h2)
   rw [this] at HE
   clear this
   go_enter Tryz.func229,Tryz.ntmps229
   go_wp2_with fail
   refine (HQ.out _ (((Below.refl _ _).alloc (Nat.le_refl _) _).alloc (by simp) _)).mono ?_
   rintro e w1 ⟨rfl,hb1⟩
   go_wp2_with fail
   go_ret
   exact ⟨aA1 (by rw [HE.out];simp),aA8 (aA8 hb1)⟩
 ·have h1':(k == k2)=false:=by simpa using h1
  rw [decide_eq_false h1] at HE
  clear h1
  go_enter Tryz.func229,Tryz.ntmps229
  go_wp2_with fail
  go_ret
  exact ⟨aA1 (by rw [HE.out];rfl),((Below.refl _ _).alloc (Nat.le_refl _) _).alloc (by simp) _⟩
theorem aIn {a b:List NB} {k:Nat} (ha:a.length≤k) (hb:b.length≤k) (h:La.sameL (a.take k) (b.take k)=true):La.sameL a b=true:=by
 rwa [List.take_of_length_le ha,List.take_of_length_le hb] at h
theorem aKi (va vb:Value) (A B:List NV) (w:World) (ha:Sl EN w va A) (hb:Sl EN w vb B) :
  Calls Tryz.prog 228 #[va,vb,.func (.func 229) #[] #[]] w fun e w'=>e=.returned (.bool (La.sameL (nbs A) (nbs B)))∧Below w.heap.size w w':=by
 have hlen:=ha.len
 obtain ⟨a,ca,rfl⟩:=ha.form
 obtain ⟨b,cb,rfl⟩:=hb.form
 have HA:=hide (fun W (hB:Below w.heap.size w W) k (hk:k<A.length)=>aIk ha hB hk)
 have HB:=hide (fun W (hB:Below w.heap.size w W) k (hk:k<B.length)=>aIk hb hB hk)
 clear ha hb
 by_cases hne:A.length=B.length
 ·have hx:((A.length:Int) != (B.length:Int))=false:=by rw [bne_eq_false_iff_eq];omega
  have HN:=hide hne
  clear hne
  go_enter Tryz.func228,Tryz.ntmps228
  go_wp2_with fail
  go_loopw [17] (fun i wr=>∃ k:Nat,k≤A.length∧i=.int .i64 k∧Hid (La.sameL ((nbs A).take k) ((nbs B).take k)=true)∧Below w.heap.size w wr) (fun i _=>A.length - (intOf i).toNat)
  case atStart=>exact ⟨0,Nat.zero_le _,rfl,rfl,Below.refl _ _⟩
  case round =>
   obtain ⟨k,hk,rfl,hall,hB⟩:=hrel
   by_cases hlt:k<A.length
   ·have hlb:k<B.length:=by rw [←HN.out];exact hlt
    have hlt':(k:Int)<(A.length:Int):=by omega
    have hlb':(k:Int)<(B.length:Int):=by omega
    obtain ⟨hA,g,off,rfl,hg,c0,c1,c2⟩:=HA.out _ hB k hlt
    obtain ⟨hA2,g2,off2,rfl,hg2,d0',d1',d2'⟩:=HB.out _ (hB.alloc hB.size (.cells #[.int .i64 A[k].n.kind,.string A[k].n.name,A[k].v] 105)) k hlb
    have HT:Hid (La.sameN A[k].n B[k].n=true→La.sameL ((nbs A).take (k+1)) ((nbs B).take (k+1))=true):=fun h=>by
     have:=La.sameL_take (nbs A) (nbs B) k (by simpa using hlt) (by simpa using hlb)
     rw [this,hall.out]
     simpa using h
    have HG:Hid (La.sameN A[k].n B[k].n=false→La.sameL (nbs A) (nbs B)=false):=fun h =>
     La.sameL_not (nbs A) (nbs B) k (by simpa using hlt) (by simpa using hlb) (by simpa using h)
    generalize A[k]=x at *
    generalize B[k]=y at *
    have HM:=hide (fun W (h:Below wr.heap.size wr W) (h2:Below (wr.alloc (.cells #[.int .i64 x.n.kind,.string x.n.name,x.v] 105)).heap.size (wr.alloc (.cells #[.int .i64 x.n.kind,.string x.n.name,x.v] 105)) W)=>aLd x y W (hA.below h) (hA2.below h2))
    clear hA hA2
    obtain ⟨⟨kk,nm,vs⟩,xa,xc⟩:=x
    obtain ⟨⟨kk2,nm2,vs2⟩,ya,yc⟩:=y
    dsimp only at *
    cases hq:La.sameN ⟨kk,nm,vs⟩ ⟨kk2,nm2,vs2⟩
    ·have hq2:=hide (HG.out hq)
     rw [hq] at HM
     go_wp2_with fail
     refine (HM.out _ (((Below.refl _ _).alloc (Nat.le_refl _) _).alloc (by simp) _) ((Below.refl _ _).alloc (Nat.le_refl _) _)).mono ?_
     rintro e w1 ⟨rfl,hb1⟩
     go_wp2_with fail
     go_ret
     exact ⟨aA1 (by rw [hq2.out]),bb2 hB (aA8 (aA8 hb1))⟩
    ·have hq2:=hide (HT.out hq)
     rw [hq] at HM
     go_wp2_with fail
     refine (HM.out _ (((Below.refl _ _).alloc (Nat.le_refl _) _).alloc (by simp) _) ((Below.refl _ _).alloc (Nat.le_refl _) _)).mono ?_
     rintro e w1 ⟨rfl,hb1⟩
     go_wp2_with fail
     exact ⟨⟨k+1,by omega,by go_num,hq2.out,bb2 hB (aA8 (aA8 hb1))⟩,by simp [intOf];omega⟩
   ·have hlt':¬ (k:Int)<(A.length:Int):=by omega
    have hq:=hide (aIn (a:=nbs A) (b:=nbs B) (k:=k) (by simp;omega) (by have:=HN.out;simp;omega) hall.out)
    go_wp2_with fail
    go_ret
    exact ⟨aA1 (by rw [hq.out]),hB⟩
 ·have hx:((A.length:Int) != (B.length:Int))=true:=by rw [bne_iff_ne];omega
  have hd:=hide (La.sameL_len (nbs A) (nbs B) (by simpa using hne))
  clear hne
  go_enter Tryz.func228,Tryz.ntmps228
  go_wp2_with fail
  go_ret
  exact ⟨aA1 hd.out.symm,Below.refl _ _⟩
theorem aQd (va vb:Value) (A B:List NV) (w:World) (ha:Sl EN w va A) (hb:Sl EN w vb B) :
  Calls Tryz.prog 201 #[va,vb] w fun e w'=>e=.returned (.bool (La.sameL (nbs A) (nbs B)))∧Below w.heap.size w w':=by
 have HE:=hide (aKi va vb A B w ha hb)
 obtain ⟨a,ca,rfl⟩:=ha.form
 obtain ⟨b,cb,rfl⟩:=hb.form
 clear ha hb
 go_enter Tryz.func201,Tryz.ntmps201
 go_wp2_with fail
 refine (HE.out).mono ?_
 rintro e w1 ⟨rfl,hb1⟩
 go_wp2_with fail
 go_ret
 exact ⟨rfl,hb1⟩
end Go.Proofs.YthnodpdiocppgaaGreatDoor
