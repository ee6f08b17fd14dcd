/-
  Walks: rule.Method, the document's Method; named (by ContainsFunc and a closure).
-/
import Derived.Test.YthnodpdiocppgaaGreatDoorRuMatch
import Derived.Test.YthnodpdiocppgaaGreatDoorJ2
import Derived.Test.YthnodpdiocppgaaGreatDoorJ18
import Derived.Test.YthnodpdiocppgaaGreatDoorPbLawA
import Derived.Test.YthnodpdiocppgaaGreatDoorJ7
set_option maxHeartbeats 1600000
set_option maxRecDepth 20000
namespace Go.Proofs.YthnodpdiocppgaaGreatDoor
open Go Go.RowKit Go.Shelf
theorem aSn {s:ByteArray} (h:s.size=0):aB9 s=false:=by
 unfold aB9
 exact decide_eq_false (fun ⟨h1,_⟩=>by omega)
theorem aQh {s:ByteArray} (h:10<s.size):aB9 s=false:=by
 unfold aB9
 exact decide_eq_false (fun ⟨_,h1,_⟩=>by omega)
theorem aG6 {s:ByteArray} {k:Nat} (h:k<s.size) (hc:¬ (65≤s[k].toNat∧s[k].toNat≤90)):aB9 s=false:=by
 unfold aB9
 exact decide_eq_false (fun ⟨_,_,h1⟩=>hc (h1 k h))
theorem aLh {s:ByteArray} (h:∀ j (h:j<s.size),65≤s[j].toNat∧s[j].toNat≤90):aB9 s=decide (1≤s.size∧s.size≤10):=by
 unfold aB9
 exact decide_eq_decide.2 ⟨fun h1=>⟨h1.1,h1.2.1⟩,fun h1=>⟨h1.1,h1.2,h⟩⟩
theorem aO9 (s:ByteArray) (w:World) (hs:s.size≤maxLen) :
  Calls Tryz.prog 189 #[.string s] w fun e w'=>e=.returned (.bool (aB9 s))∧w'=w:=by
 unfold maxLen at hs
 by_cases h0:s.size=0
 ·have HN:Hid (false=aB9 s):=(aSn h0).symm
  have t0:((s.size:Int) == 0)=true:=by rw [beq_iff_eq];omega
  clear h0
  go_enter Tryz.func189,Tryz.ntmps189
  go_wp2_with fail
  go_ret
  exact ⟨aA1 HN.out,rfl⟩
 ·have t0:((s.size:Int) == 0)=false:=by rw [beq_eq_false_iff_ne];omega
  by_cases h40:10<s.size
  ·have HN:Hid (false=aB9 s):=(aQh h40).symm
   have t1:(10:Int)<(s.size:Int):=by omega
   clear h0
   go_enter Tryz.func189,Tryz.ntmps189
   go_wp2_with fail
   go_ret
   exact ⟨aA1 HN.out,rfl⟩
  ·have t1:¬ (10:Int)<(s.size:Int):=by omega
   go_enter Tryz.func189,Tryz.ntmps189
   go_wp2_with fail
   go_loopw [14] (fun i wr=>∃ k:Nat,k≤s.size∧i=.int .i64 k∧Hid (∀ j (h:j<s.size),j<k→65≤s[j].toNat∧s[j].toNat≤90)∧wr=w) (fun i _=>s.size - (intOf i).toNat)
   case atStart=>exact ⟨0,Nat.zero_le _,rfl,fun _ _ h=>absurd h (by omega),rfl⟩
   case round =>
    obtain ⟨k,hk,rfl,hno,rfl⟩:=hrel
    by_cases hlt:k<s.size
    ·have hlt':(k:Int)<(s.size:Int):=by omega
     by_cases hc1:s[k].toNat<65
     ·have HN:Hid (false=aB9 s):=(aG6 hlt (by omega)).symm
      have u1:(s[k].toNat:Int)<65:=by omega
      go_wp2_with fail
      go_ret
      exact ⟨aA1 HN.out,rfl⟩
     ·have u1:¬ (s[k].toNat:Int)<65:=by omega
      by_cases hc2:90<s[k].toNat
      ·have HN:Hid (false=aB9 s):=(aG6 hlt (by omega)).symm
       have u2:(90:Int)<(s[k].toNat:Int):=by omega
       go_wp2_with fail
       go_ret
       exact ⟨aA1 HN.out,rfl⟩
      ·have u2:¬ (90:Int)<(s[k].toNat:Int):=by omega
       have HY:Hid (∀ j (h:j<s.size),j<k+1→65≤s[j].toNat∧s[j].toNat≤90):=fun j hj hjk=>by
        rcases Nat.lt_or_ge j k with h1 | h1
        ·exact hno.out j hj h1
        ·obtain rfl:j=k:=by omega
         omega
       go_wp2_with fail
       exact ⟨⟨k+1,by omega,by go_num,HY.out,trivial⟩,by simp [intOf];omega⟩
    ·have hlt':¬ (k:Int)<(s.size:Int):=by omega
     have HY:Hid (true=aB9 s):=by
      unfold Hid
      rw [aLh (fun j h=>hno.out j h (by omega)),decide_eq_true (by omega)]
     go_wp2_with fail
     go_ret
     exact ⟨aA1 HY.out,rfl⟩
theorem aMv (s:ByteArray) (w:World) (hs:s.size≤maxLen) :
  Calls Tryz.prog 128 #[.string s] w fun e w'=>e=.returned (.bool (aB9 s))∧w'=w:=by
 unfold maxLen at hs
 go_enter Tryz.func128,Tryz.ntmps128
 go_wp2_with fail
 go_loopw [3] (fun i wr=>∃ k:Nat,k≤s.size∧i=.int .i64 k∧Hid (∀ j (h:j<s.size),j<k→65≤s[j].toNat∧s[j].toNat≤90)∧wr=w) (fun i _=>s.size - (intOf i).toNat)
 case atStart=>exact ⟨0,Nat.zero_le _,rfl,fun _ _ h=>absurd h (by omega),rfl⟩
 case round =>
  obtain ⟨k,hk,rfl,hno,rfl⟩:=hrel
  by_cases hlt:k<s.size
  ·have hlt':(k:Int)<(s.size:Int):=by omega
   by_cases hc1:s[k].toNat<65
   ·have HN:Hid (false=aB9 s):=(aG6 hlt (by omega)).symm
    have u1:(s[k].toNat:Int)<65:=by omega
    go_wp2_with fail
    go_ret
    exact ⟨aA1 HN.out,rfl⟩
   ·have u1:¬ (s[k].toNat:Int)<65:=by omega
    by_cases hc2:90<s[k].toNat
    ·have HN:Hid (false=aB9 s):=(aG6 hlt (by omega)).symm
     have u2:(90:Int)<(s[k].toNat:Int):=by omega
     go_wp2_with fail
     go_ret
     exact ⟨aA1 HN.out,rfl⟩
    ·have u2:¬ (90:Int)<(s[k].toNat:Int):=by omega
     have HY:Hid (∀ j (h:j<s.size),j<k+1→65≤s[j].toNat∧s[j].toNat≤90):=fun j hj hjk=>by
      rcases Nat.lt_or_ge j k with h1 | h1
      ·exact hno.out j hj h1
      ·obtain rfl:j=k:=by omega
       omega
     go_wp2_with fail
     exact ⟨⟨k+1,by omega,by go_num,HY.out,trivial⟩,by simp [intOf];omega⟩
  ·have hlt':¬ (k:Int)<(s.size:Int):=by omega
   have HY:=hide (aLh (fun j h=>hno.out j h (by omega)))
   by_cases h1:1≤s.size
   ·have t1:(1:Int)≤(s.size:Int):=by omega
    have HZ:Hid (decide ((s.size:Int)≤10)=aB9 s):=by
     unfold Hid
     rw [HY.out]
     exact decide_eq_decide.2 (by omega)
    go_wp2_with fail
    go_ret
    exact ⟨aA1 HZ.out,rfl⟩
   ·have t1:decide ((1:Int)≤(s.size:Int))=false:=decide_eq_false (by omega)
    have HZ:Hid (false=aB9 s):=by
     unfold Hid
     rw [HY.out,decide_eq_false (by omega)]
    go_wp2_with fail
    go_ret
    exact ⟨aA1 HZ.out,rfl⟩
theorem aOa (a b:ByteArray) (w:World) :
  Calls Tryz.prog 216 #[.string a,.string b] w fun e w'=>e=.returned (.bool (aB5 a b))∧Below w.heap.size w w':=by
 have H:Hid ((a.toList == b.toList)=aB5 a b):=aFi _ _
 go_enter Tryz.func216,Tryz.ntmps216
 go_wp2_with fail
 go_ret
 exact ⟨aA1 H.out,Below.refl _ _⟩
theorem aOb:Cmp 216 aB5:=⟨fun a b w _ _=>aOa a b w,fun args w=>aAd Tryz.func216 (by kernel_rfl) rfl args w⟩
abbrev namV (g h:Nat):Value:=.func (.func 238) #[] #[.pointer (some ⟨g,0,none⟩),.pointer (some ⟨h,0,none⟩)]
theorem aOc {f:Nat} {same:ByteArray→ByteArray→Bool} (hf:Cmp f same) (n a b:ByteArray) (g h:Nat) (w:World) (hn:n.size≤maxLen) (ha:a.size≤maxLen)
  (hg:g<w.heap.size) (hh:h<w.heap.size) (cg:w.cell? ⟨g,0,none⟩=some (.func (.func f) #[] #[])) (ch:w.cell? ⟨h,0,none⟩=some (.string n)) :
  Calls Tryz.prog 238 #[.agg #[.string a,.string b],.pointer (some ⟨g,0,none⟩),.pointer (some ⟨h,0,none⟩)] w fun e w'=>e=.returned (.bool (same a n))∧Below w.heap.size w w':=by
 have eg:=hf.enters
 have cg':(w.alloc (.cells #[.string a,.string b] 96)).cell? ⟨g,0,none⟩=some (.func (.func f) #[] #[]):=(((Below.refl _ w).alloc (Nat.le_refl _) _).cell (p:=⟨g,0,none⟩) hg).trans cg
 have ch':(w.alloc (.cells #[.string a,.string b] 96)).cell? ⟨h,0,none⟩=some (.string n):=(((Below.refl _ w).alloc (Nat.le_refl _) _).cell (p:=⟨h,0,none⟩) hh).trans ch
 clear cg ch
 go_enter Tryz.func238,Tryz.ntmps238
 go_wp2_with fail
 refine (hf.go _ _ _ ha hn).mono ?_
 rintro e w1 ⟨rfl,hb1⟩
 go_wp2_with fail
 go_ret
 exact ⟨rfl,aA8 hb1⟩
def aC3 (same:ByteArray→ByteArray→Bool) (n:ByteArray) (l:List aAa):Bool:=l.any fun p=>same p.1 n
def aEg (same:ByteArray→ByteArray→Bool) (n:ByteArray) (l:List aAa):Int:=if aC3 same n l then (l.findIdx fun p=>same p.1 n:Nat) else -1
theorem aQi {same:ByteArray→ByteArray→Bool} {n:ByteArray} {l:List aAa} {k:Nat} (hk:k<l.length) (h:∀ j (h:j<l.length),j<k→same l[j].1 n=false) (hs:same l[k].1 n=true):aEg same n l=(k:Int):=by
 have h1:aC3 same n l=true:=List.any_eq_true.2 ⟨_,List.getElem_mem hk,hs⟩
 have h2:(l.findIdx fun p=>same p.1 n)=k:=by
  rw [List.findIdx_eq hk]
  exact ⟨hs,fun j hj=>h j (by omega) hj⟩
 unfold aEg
 rw [if_pos h1,h2]
theorem aSo {same:ByteArray→ByteArray→Bool} {n:ByteArray} {l:List aAa} (h:∀ j (h:j<l.length),same l[j].1 n=false):aEg same n l=-1:=by
 have h1:aC3 same n l=false:=by
  unfold aC3
  rw [List.any_eq_false]
  intro p hp
  obtain ⟨j,hj,rfl⟩:=List.getElem_of_mem hp
  rw [h j hj]
  decide
 unfold aEg
 rw [h1]
 rfl
theorem aSp (same:ByteArray→ByteArray→Bool) (n:ByteArray) (l:List aAa):decide (0≤aEg same n l)=aC3 same n l:=by
 unfold aEg
 cases aC3 same n l
 ·rfl
 ·simp
theorem aKj {f:Nat} {same:ByteArray→ByteArray→Bool} (hf:Cmp f same) (n:ByteArray) (g h:Nat) (v:Value) (l:List aAa) (w:World) (hn:n.size≤maxLen) (hv:Prs w v l) (hok:∀ p∈l,okP p)
  (hg:g<w.heap.size) (hh:h<w.heap.size) (cg:w.cell? ⟨g,0,none⟩=some (.func (.func f) #[] #[])) (ch:w.cell? ⟨h,0,none⟩=some (.string n)) :
  Calls Tryz.prog 249 #[v,namV g h] w fun e w'=>e=.returned (.int .i64 (aEg same n l))∧Below w.heap.size w w':=by
 have hlen:=hv.len
 obtain ⟨a,cap,rfl,_,_,hc⟩:=hv
 have HC:=hide hc
 have HOK:=hide hok
 clear hc hok
 have ent:∀ (args:Array Value) (w:World),(callFunc 238 args).run Tryz.prog w=.ok (.enter 238 args) w:=fun args w=>aAd Tryz.func238 (by kernel_rfl) rfl args w
 go_enter Tryz.func249,Tryz.ntmps249
 go_wp2_with fail
 go_loopw [8] (fun i wr=>∃ k:Nat,k≤l.length∧i=.int .i64 k∧Hid (∀ j (h:j<l.length),j<k→same l[j].1 n=false)∧Below w.heap.size w wr) (fun i _=>l.length - (intOf i).toNat)
 case atStart=>exact ⟨0,Nat.zero_le _,rfl,fun j h hj=>absurd hj (by omega),Below.refl _ _⟩
 case round =>
  obtain ⟨k,hk,rfl,hno,hB⟩:=hrel
  by_cases hlt:k<l.length
  ·have hlt':(k:Int)<(l.length:Int):=by omega
   obtain ⟨gg,off,rfl,hgg,c1,c2⟩:=HC.out k hlt
   replace c1:=(hB.cell (p:=⟨gg,off+k*2,none⟩) hgg).trans c1
   replace c2:=(hB.cell (p:=⟨gg,off+k*2+1,none⟩) hgg).trans c2
   obtain ⟨o1,o2⟩:=HOK.out _ (List.getElem_mem hlt)
   have C1:=hide (aOc hf n l[k].1 l[k].2 g h wr hn o1 (Nat.lt_of_lt_of_le hg hB.size) (Nat.lt_of_lt_of_le hh hB.size) ((hB.cell (p:=⟨g,0,none⟩) hg).trans cg) ((hB.cell (p:=⟨h,0,none⟩) hh).trans ch))
   cases hs:same l[k].1 n
   ·have HN:Hid (∀ j (h:j<l.length),j<k+1→same l[j].1 n=false):=fun j h hj=>by
     rcases Nat.lt_or_ge j k with h1 | h1
     ·exact hno.out j h h1
     ·obtain rfl:j=k:=by omega
      exact hs
    rw [hs] at C1
    clear hs
    generalize l[k].1=p1 at *
    generalize l[k].2=p2 at *
    go_wp2_with fail
    refine (C1.out).mono ?_
    rintro e w1 ⟨rfl,hb1⟩
    go_wp2_with fail
    exact ⟨⟨k+1,by omega,by go_num,HN.out,bb2 hB hb1⟩,by simp [intOf];omega⟩
   ·have HI:Hid ((k:Int)=aEg same n l):=(aQi hlt hno.out hs).symm
    rw [hs] at C1
    clear hs
    generalize l[k].1=p1 at *
    generalize l[k].2=p2 at *
    go_wp2_with fail
    refine (C1.out).mono ?_
    rintro e w1 ⟨rfl,hb1⟩
    go_wp2_with fail
    go_ret
    exact ⟨aAp HI.out,bb2 hB hb1⟩
  ·have hlt':¬ (k:Int)<(l.length:Int):=by omega
   have HI:Hid (-1=aEg same n l):=(aSo (fun j h=>hno.out j h (by omega))).symm
   go_wp2_with fail
   go_ret
   exact ⟨aAp HI.out,hB⟩
theorem aHw {f:Nat} {same:ByteArray→ByteArray→Bool} (hf:Cmp f same) (n:ByteArray) (g h:Nat) (v:Value) (l:List aAa) (w:World) (hn:n.size≤maxLen) (hv:Prs w v l) (hok:∀ p∈l,okP p)
  (hg:g<w.heap.size) (hh:h<w.heap.size) (cg:w.cell? ⟨g,0,none⟩=some (.func (.func f) #[] #[])) (ch:w.cell? ⟨h,0,none⟩=some (.string n)) :
  Calls Tryz.prog 237 #[v,namV g h] w fun e w'=>e=.returned (.bool (aC3 same n l))∧Below w.heap.size w w':=by
 have C1:=hide (aKj hf n g h v l w hn hv hok hg hh cg ch)
 have HE:=hide (aSp same n l)
 go_enter Tryz.func237,Tryz.ntmps237
 go_wp2_with fail
 refine (C1.out).mono ?_
 rintro e w1 ⟨rfl,hb1⟩
 go_wp2_with fail
 go_ret
 exact ⟨aA1 HE.out,hb1⟩
theorem aJy {f:Nat} {same:ByteArray→ByteArray→Bool} (hf:Cmp f same) (n:ByteArray) (v:Value) (l:List aAa) (w:World) (hn:n.size≤maxLen) (hv:Prs w v l) (hok:∀ p∈l,okP p) :
  Calls Tryz.prog 213 #[v,.string n,.func (.func f) #[] #[]] w fun e w'=>e=.returned (.bool (aC3 same n l))∧Below w.heap.size w w':=by
 have hb0:Below w.heap.size w ((w.alloc (.cells #[.string n] 9)).alloc (.cells #[.func (.func f) #[] #[]] 149)):=((Below.refl _ _).alloc (Nat.le_refl _) _).alloc (by simp) _
 have C1:=hide (aHw hf n (w.heap.size+1) w.heap.size v l _ hn (hv.below hb0) hok (by simp) (by simp;omega) (by
  have:=aA7 (w.alloc (.cells #[.string n] 9)) (.cells #[.func (.func f) #[] #[]] 149)
  simp only [World.size_alloc] at this
  simp only [World.cell?];rw [this];rfl) (by
  simp only [World.cell?];rw [Below.heap_alloc _ _ _ (by simp),aA7];rfl))
 have hmf:∀ (fn:Fn) (first cap:Array Value) (w:World),(Instr.makeFunc fn first cap).run Tryz.prog w=.ok (.func fn first cap) w:=fun _ _ _ _=>rfl
 go_enter Tryz.func213,Tryz.ntmps213
 go_wp2_with fail
 refine (C1.out).mono ?_
 rintro e w1 ⟨rfl,hb1⟩
 go_wp2_with fail
 go_ret
 exact ⟨rfl,bb2 hb0 hb1⟩
end Go.Proofs.YthnodpdiocppgaaGreatDoor
namespace Go.Proofs.YthnodpdiocppgaaGreatDoor
open Go Go.RowKit Go.Shelf
attribute [local go_sem] aAu
theorem aJf (s:ByteArray) (w:World) (hs:s.size≤maxLen) :
  Calls Tryz.prog 211 #[.string s] w fun e w'=>e=.returned (.bool (aAi s))∧Below w.heap.size w w' :=
 (aPz s w hs).mono fun _ _ ⟨h,hw⟩=>⟨h.is aFw,by rw [hw];exact Below.refl _ _⟩
theorem aNk (s:ByteArray) (w:World) (hs:s.size≤maxLen) :
  Calls Tryz.prog 212 #[.string s] w fun e w'=>e=.returned (.bool (aAr s))∧Below w.heap.size w w' :=
 (aQ2 s w hs).mono fun _ _ ⟨h,hw⟩=>⟨h.is aFx,by rw [hw];exact Below.refl _ _⟩
theorem Prs.pre {w:World} {a:Option Addr} {n cap:Nat} {l:List aAa} (h:Prs w (.slice a n cap) l) {k:Nat} (hk:k≤l.length):Prs w (.slice a k cap) (l.take k):=by
 obtain ⟨a',cap',hv,h1,h2,hc⟩:=h
 injection hv with e1 e2 e3
 subst e1 e2 e3
 have hl:(l.take k).length=k:=by simp;omega
 refine ⟨a,cap,by rw [hl],by rw [hl];omega,h2,fun i hi=>?_⟩
 rw [hl] at hi
 obtain ⟨g,off,ha,hg,c1,c2⟩:=hc i (by omega)
 exact ⟨g,off,ha,hg,by simpa using c1,by simpa using c2⟩
def aBj (l:List aAa):Bool:=decide (l.length≤8)&&(l.all (fun p=>aAi p.1&&aAr p.2)&&farB aAt l)
def aBa (l:List aAa):Bool:=decide (l.length≤8)&&(Qu.may (l.map pl)&&farB aB5 l)
theorem aOd (m:MB):mayM m=(mayP m.kind m.val.data.toList&&((m.meth.size == 0||aB9 m.meth)&&(aBj m.head&&aBa m.query))):=by
 unfold mayM aBj aBa
 cases mayP m.kind m.val.data.toList<;>cases (m.meth.size == 0||aB9 m.meth)<;>cases decide (m.head.length≤8)<;>cases decide (m.query.length≤8)<;>cases Qu.may (m.query.map pl)<;>cases m.head.all (fun p=>aAi p.1&&aAr p.2)<;>cases farB aAt m.head<;>cases farB aB5 m.query<;>rfl
section
variable {same:ByteArray→ByteArray→Bool} {l:List aAa}
def FarB (same:ByteArray→ByteArray→Bool) (l:List aAa) (k:Nat):Prop:=∀ x y (hx:x<l.length) (hy:y<l.length),x<k→y<x→same l[y].1 l[x].1=false
theorem aLi {k:Nat} (hk:k<l.length) (h:FarB same l k) (hn:aC3 same l[k].1 (l.take k)=false):FarB same l (k+1):=by
 intro x y hx hy hxk hyx
 rcases Nat.lt_or_ge x k with h1 | h1
 ·exact h x y hx hy h1 hyx
 ·obtain rfl:x=k:=by omega
  unfold aC3 at hn
  rw [List.any_eq_false] at hn
  have hm:l[y]∈l.take x:=by
   rw [List.mem_take_iff_getElem]
   exact ⟨y,by omega,rfl⟩
  have:=hn _ hm
  simpa using this
theorem aLj (hs:∀ a b,same a b=same b a) (h:FarB same l l.length):farB same l=true:=by
 rw [aFy]
 intro x y hx hy hyx
 rw [hs]
 exact h x y hx hy hx hyx
theorem aNl (hs:∀ a b,same a b=same b a) {k:Nat} (hk:k<l.length) (hn:aC3 same l[k].1 (l.take k)=true):farB same l=false:=by
 cases hf:farB same l
 ·rfl
 ·rw [aFy] at hf
  unfold aC3 at hn
  rw [List.any_eq_true] at hn
  obtain ⟨p,hp,hps⟩:=hn
  rw [List.mem_take_iff_getElem] at hp
  obtain ⟨y,hy,rfl⟩:=hp
  have:=hf k y hk (by omega) (by omega)
  rw [hs,hps] at this
  cases this
end
theorem aJz {l:List aAa} (h:8<l.length):aBj l=false:=by
 unfold aBj
 rw [decide_eq_false (by omega),Bool.false_and]
theorem aIr {l:List aAa} (h:8<l.length):aBa l=false:=by
 unfold aBa
 rw [decide_eq_false (by omega),Bool.false_and]
theorem aHx {l:List aAa} {k:Nat} (hk:k<l.length) (h:(aAi l[k].1&&aAr l[k].2)=false):aBj l=false:=by
 have:l.all (fun p=>aAi p.1&&aAr p.2)=false:=by
  rw [List.all_eq_false]
  exact ⟨_,List.getElem_mem hk,by rw [h];decide⟩
 unfold aBj
 rw [this,Bool.false_and,Bool.and_false]
theorem aOe {l:List aAa} {k:Nat} (hk:k<l.length) (h:aC3 aAt l[k].1 (l.take k)=true):aBj l=false:=by
 unfold aBj
 rw [aNl symF hk h,Bool.and_false,Bool.and_false]
theorem aQj {l:List aAa} (h8:¬ 8<l.length) (h:∀ j (hj:j<l.length),j<l.length→(aAi l[j].1&&aAr l[j].2)=true) (hf:FarB aAt l l.length):aBj l=true:=by
 have h1:l.all (fun p=>aAi p.1&&aAr p.2)=true:=by
  rw [List.all_eq_true]
  intro p hp
  obtain ⟨j,hj,rfl⟩:=List.getElem_of_mem hp
  exact h j hj hj
 unfold aBj
 rw [h1,aLj symF hf,decide_eq_true (by omega)]
 rfl
theorem aMw (v:Value) (l:List aAa) (w:World) (hv:Prs w v l) (hok:∀ p∈l,okP p) :
  Calls Tryz.prog 190 #[v] w fun e w'=>e=.returned (.bool (aBj l))∧Below w.heap.size w w':=by
 have hlen:=hv.len
 have HV:=hide hv
 obtain ⟨a,cap,rfl,_,_,hc⟩:=hv
 have HC:=hide hc
 have HOK:=hide hok
 clear hc hok
 by_cases h8:8<l.length
 ·have t8:(8:Int)<(l.length:Int):=by omega
  have HE:Hid (false=aBj l):=(aJz h8).symm
  go_enter Tryz.func190,Tryz.ntmps190
  go_wp2_with fail
  go_ret
  exact ⟨aA1 HE.out,Below.refl _ _⟩
 have t8:¬ (8:Int)<(l.length:Int):=by omega
 go_enter Tryz.func190,Tryz.ntmps190
 go_wp2_with fail
 go_loopw [10] (fun i wr=>∃ k:Nat,k≤l.length∧i=.int .i64 k∧Hid (∀ j (hj:j<l.length),j<k→(aAi l[j].1&&aAr l[j].2)=true)∧Hid (FarB aAt l k)∧Below w.heap.size w wr) (fun i _=>l.length - (intOf i).toNat)
 case atStart=>exact ⟨0,Nat.zero_le _,rfl,fun _ _ h=>absurd h (by omega),fun _ _ _ _ h=>absurd h (by omega),Below.refl _ _⟩
 case round =>
  obtain ⟨k,hk,rfl,hall,hfar,hB⟩:=hrel
  by_cases hlt:k<l.length
  ·have hlt':(k:Int)<(l.length:Int):=by omega
   have HPRE:=hide (HV.out.pre (k:=k) hk)
   obtain ⟨g,off,rfl,hg,c1,c2⟩:=HC.out k hlt
   replace c1:=(hB.cell (p:=⟨g,off+k*2,none⟩) hg).trans c1
   replace c2:=(hB.cell (p:=⟨g,off+k*2+1,none⟩) hg).trans c2
   obtain ⟨o1,o2⟩:=HOK.out _ (List.getElem_mem hlt)
   have HOKK:Hid (∀ p∈l.take k,okP p):=fun p hp=>HOK.out p (List.mem_of_mem_take hp)
   have HBAD:=hide (aHx hlt)
   have HTW:=hide (aOe hlt)
   have HFN:=hide (aLi hlt hfar.out)
   have HAN:Hid ((aAi l[k].1&&aAr l[k].2)=true→∀ j (hj:j<l.length),j<k+1→(aAi l[j].1&&aAr l[j].2)=true):=fun h j hj hjk=>by
    rcases Nat.lt_or_ge j k with h1 | h1
    ·exact hall.out j hj h1
    ·obtain rfl:j=k:=by omega
     exact h
   clear hall hfar
   generalize l[k].1=p1 at *
   generalize l[k].2=p2 at *
   have CT:=fun W=>hide (aJf p1 W o1)
   have CV:=fun W=>hide (aNk p2 W o2)
   have CN:=fun W (h:Below w.heap.size w W)=>hide (aJy aSe p1 _ (l.take k) W o1 (HPRE.out.below h) HOKK.out)
   have hBB:Below w.heap.size w (wr.alloc (.cells #[.string p1,.string p2] 96)):=hB.alloc hB.size _
   have b1:=fun q:GB (wr.alloc (.cells #[.string p1,.string p2] 96))=>aH3 q.h
   have b2:=fun q:GB (wr.alloc (.cells #[.string p1,.string p2] 96))=>aD5 q.h
   cases ht:aAi p1
   ·have HE:Hid (false=aBj l):=(HBAD.out (by rw [ht];rfl)).symm
    rw [ht] at CT
    clear ht HBAD HTW HFN HAN
    go_wp2_with fail
    refine aA6 (by kernel_rfl) (by kernel_rfl) ?_
    repeat (first | go_big_quiet_step ((go_at_call 211;exact aA3 (CT _).out)) | quiet_step ((go_at_call 211;exact aA3 (CT _).out)))
    refine wpQuiet_nil ?_
    intro _ hw'
    obtain ⟨qq,hw2⟩:=hw'
    subst hw2
    have hq:=bb2 hBB qq.h
    go_wp2_with fail
    go_ret
    exact ⟨aA1 HE.out,hq⟩
   ·rw [ht] at CT
    cases hvv:aAr p2
    ·have HE:Hid (false=aBj l):=(HBAD.out (by rw [ht,hvv];rfl)).symm
     rw [hvv] at CV
     clear ht hvv HBAD HTW HFN HAN
     go_wp2_with fail
     refine aA6 (by kernel_rfl) (by kernel_rfl) ?_
     repeat (first | go_big_quiet_step ((first | (go_at_call 211;exact aA3 (CT _).out) | (go_at_call 212;exact aA3 (CV _).out))) | quiet_step ((first | (go_at_call 211;exact aA3 (CT _).out) | (go_at_call 212;exact aA3 (CV _).out))))
     refine wpQuiet_nil ?_
     intro _ hw'
     obtain ⟨qq,hw2⟩:=hw'
     subst hw2
     have hq:=bb2 hBB qq.h
     go_wp2_with fail
     go_ret
     exact ⟨aA1 HE.out,hq⟩
    ·rw [hvv] at CV
     have HAN':=hide (HAN.out (by rw [ht,hvv];rfl))
     have CN':=fun q:GB (wr.alloc (.cells #[.string p1,.string p2] 96))=>CN q.W (bb2 hBB q.h)
     cases hn:aC3 aAt p1 (l.take k)
     ·have HFN':=hide (HFN.out hn)
      rw [hn] at CN'
      clear ht hvv hn HBAD HTW HFN HAN CN
      go_wp2_with fail
      refine aA6 (by kernel_rfl) (by kernel_rfl) ?_
      repeat (first | go_big_quiet_step ((first | (go_at_call 211;exact aA3 (CT _).out) | (go_at_call 212;exact aA3 (CV _).out) | (go_at_call 213;exact aA3 (CN' _).out))) | quiet_step ((first | (go_at_call 211;exact aA3 (CT _).out) | (go_at_call 212;exact aA3 (CV _).out) | (go_at_call 213;exact aA3 (CN' _).out))))
      refine wpQuiet_nil ?_
      intro _ hw'
      obtain ⟨qq,hw2⟩:=hw'
      subst hw2
      have hq:=bb2 hBB qq.h
      go_wp2_with fail
      exact ⟨⟨k+1,by omega,by go_num,HAN'.out,HFN'.out,hq⟩,by simp [intOf];omega⟩
     ·have HE:Hid (false=aBj l):=(HTW.out hn).symm
      rw [hn] at CN'
      clear ht hvv hn HBAD HTW HFN HAN CN
      go_wp2_with fail
      refine aA6 (by kernel_rfl) (by kernel_rfl) ?_
      repeat (first | go_big_quiet_step ((first | (go_at_call 211;exact aA3 (CT _).out) | (go_at_call 212;exact aA3 (CV _).out) | (go_at_call 213;exact aA3 (CN' _).out))) | quiet_step ((first | (go_at_call 211;exact aA3 (CT _).out) | (go_at_call 212;exact aA3 (CV _).out) | (go_at_call 213;exact aA3 (CN' _).out))))
      refine wpQuiet_nil ?_
      intro _ hw'
      obtain ⟨qq,hw2⟩:=hw'
      subst hw2
      have hq:=bb2 hBB qq.h
      go_wp2_with fail
      go_ret
      exact ⟨aA1 HE.out,hq⟩
  ·have hlt':¬ (k:Int)<(l.length:Int):=by omega
   obtain rfl:k=l.length:=by omega
   have HE:Hid (true=aBj l):=(aQj h8 hall.out hfar.out).symm
   go_wp2_with fail
   go_ret
   exact ⟨aA1 HE.out,hB⟩
theorem aK0 {l:List aAa} (h:Qu.may (l.map pl)=false):aBa l=false:=by
 unfold aBa
 rw [h,Bool.false_and,Bool.and_false]
theorem aMx {l:List aAa} {k:Nat} (hk:k<l.length) (h:aC3 aB5 l[k].1 (l.take k)=true):aBa l=false:=by
 unfold aBa
 rw [aNl symE hk h,Bool.and_false,Bool.and_false]
theorem aOf {l:List aAa} (h8:¬ 8<l.length) (h:Qu.may (l.map pl)=true) (hf:FarB aB5 l l.length):aBa l=true:=by
 unfold aBa
 rw [h,aLj symE hf,decide_eq_true (by omega)]
 rfl
theorem aLk (v:Value) (l:List aAa) (w:World) (hv:Prs w v l) (hok:∀ p∈l,okP p) :
  Calls Tryz.prog 191 #[v] w fun e w'=>e=.returned (.bool (aBa l))∧Below w.heap.size w w':=by
 have hlen:=hv.len
 have HV:=hide hv
 have CQ:=hide (aSd v l w hv hok)
 obtain ⟨a,cap,rfl,_,_,hc⟩:=hv
 have HC:=hide hc
 have HOK:=hide hok
 clear hc hok
 by_cases h8:8<l.length
 ·have t8:(8:Int)<(l.length:Int):=by omega
  have HE:Hid (false=aBa l):=(aIr h8).symm
  go_enter Tryz.func191,Tryz.ntmps191
  go_wp2_with fail
  go_ret
  exact ⟨aA1 HE.out,Below.refl _ _⟩
 have t8:¬ (8:Int)<(l.length:Int):=by omega
 cases hqm:Qu.may (l.map pl)
 ·have HE:Hid (false=aBa l):=(aK0 hqm).symm
  rw [hqm] at CQ
  clear hqm
  go_enter Tryz.func191,Tryz.ntmps191
  go_wp2_with fail
  refine (CQ.out).mono ?_
  rintro e w1 ⟨rfl,hb1⟩
  go_wp2_with fail
  go_ret
  exact ⟨aA1 HE.out,hb1⟩
 have HQM:=hide hqm
 rw [hqm] at CQ
 clear hqm
 go_enter Tryz.func191,Tryz.ntmps191
 go_wp2_with fail
 refine (CQ.out).mono ?_
 rintro e w1 ⟨rfl,hb1⟩
 go_wp2_with fail
 go_loopw [15] (fun i wr=>∃ k:Nat,k≤l.length∧i=.int .i64 k∧Hid (FarB aB5 l k)∧Below w.heap.size w wr) (fun i _=>l.length - (intOf i).toNat)
 case atStart=>exact ⟨0,Nat.zero_le _,rfl,fun _ _ _ _ h=>absurd h (by omega),hb1⟩
 case round =>
  obtain ⟨k,hk,rfl,hfar,hB⟩:=hrel
  by_cases hlt:k<l.length
  ·have hlt':(k:Int)<(l.length:Int):=by omega
   have HPRE:=hide (HV.out.pre (k:=k) hk)
   obtain ⟨g,off,rfl,hg,c1,c2⟩:=HC.out k hlt
   replace c1:=(hB.cell (p:=⟨g,off+k*2,none⟩) hg).trans c1
   replace c2:=(hB.cell (p:=⟨g,off+k*2+1,none⟩) hg).trans c2
   obtain ⟨o1,o2⟩:=HOK.out _ (List.getElem_mem hlt)
   have HOKK:Hid (∀ p∈l.take k,okP p):=fun p hp=>HOK.out p (List.mem_of_mem_take hp)
   have HTW:=hide (aMx hlt)
   have HFN:=hide (aLi hlt hfar.out)
   clear hfar
   generalize l[k].1=p1 at *
   generalize l[k].2=p2 at *
   have hBB:Below w.heap.size w (wr.alloc (.cells #[.string p1,.string p2] 96)):=hB.alloc hB.size _
   have b1:=fun q:GB (wr.alloc (.cells #[.string p1,.string p2] 96))=>aH3 q.h
   have b2:=fun q:GB (wr.alloc (.cells #[.string p1,.string p2] 96))=>aD5 q.h
   have CN':=fun q:GB (wr.alloc (.cells #[.string p1,.string p2] 96))=>hide (aJy aOb p1 _ (l.take k) q.W o1 (HPRE.out.below (bb2 hBB q.h)) HOKK.out)
   cases hn:aC3 aB5 p1 (l.take k)
   ·have HFN':=hide (HFN.out hn)
    rw [hn] at CN'
    clear hn HTW HFN
    go_wp2_with fail
    refine aA6 (by kernel_rfl) (by kernel_rfl) ?_
    repeat (first | go_big_quiet_step ((go_at_call 213;exact aA3 (CN' _).out)) | quiet_step ((go_at_call 213;exact aA3 (CN' _).out)))
    refine wpQuiet_nil ?_
    intro _ hw'
    obtain ⟨qq,hw2⟩:=hw'
    subst hw2
    have hq:=bb2 hBB qq.h
    go_wp2_with fail
    exact ⟨⟨k+1,by omega,by go_num,HFN'.out,hq⟩,by simp [intOf];omega⟩
   ·have HE:Hid (false=aBa l):=(HTW.out hn).symm
    rw [hn] at CN'
    clear hn HTW HFN
    go_wp2_with fail
    refine aA6 (by kernel_rfl) (by kernel_rfl) ?_
    repeat (first | go_big_quiet_step ((go_at_call 213;exact aA3 (CN' _).out)) | quiet_step ((go_at_call 213;exact aA3 (CN' _).out)))
    refine wpQuiet_nil ?_
    intro _ hw'
    obtain ⟨qq,hw2⟩:=hw'
    subst hw2
    have hq:=bb2 hBB qq.h
    go_wp2_with fail
    go_ret
    exact ⟨aA1 HE.out,hq⟩
  ·have hlt':¬ (k:Int)<(l.length:Int):=by omega
   obtain rfl:k=l.length:=by omega
   have HE:Hid (true=aBa l):=(aOf h8 HQM.out hfar.out).symm
   go_wp2_with fail
   go_ret
   exact ⟨aA1 HE.out,hB⟩
end Go.Proofs.YthnodpdiocppgaaGreatDoor
namespace Go.Proofs.YthnodpdiocppgaaGreatDoor
open Go Go.RowKit Go.Shelf
attribute [local go_sem] aAu
abbrev mV (m:MB) (vh vq:Value):Value:=.agg #[.int .i64 m.kind,.string m.val,.string m.meth,vh,vq]
theorem box5 {w W:World} {a b c d e:Value} {t:Nat} (h:Below (w.alloc (.cells #[a,b,c,d,e] t)).heap.size (w.alloc (.cells #[a,b,c,d,e] t)) W) :
  W.cell? ⟨w.heap.size,0,none⟩=some a∧W.cell? ⟨w.heap.size,1,none⟩=some b∧W.cell? ⟨w.heap.size,2,none⟩=some c∧W.cell? ⟨w.heap.size,3,none⟩=some d∧W.cell? ⟨w.heap.size,4,none⟩=some e:=by
 simp only [World.cell?]
 rw [aB7 h]
 exact ⟨rfl,rfl,rfl,rfl,rfl⟩
theorem aD0 {w W:World} {a b c d e a' b' c' d' e':Value} {t t':Nat} (h:Below ((w.alloc (.cells #[a,b,c,d,e] t)).alloc (.cells #[a',b',c',d',e'] t')).heap.size ((w.alloc (.cells #[a,b,c,d,e] t)).alloc (.cells #[a',b',c',d',e'] t')) W) :
  (W.cell? ⟨w.heap.size,0,none⟩=some a∧W.cell? ⟨w.heap.size,1,none⟩=some b∧W.cell? ⟨w.heap.size,2,none⟩=some c∧W.cell? ⟨w.heap.size,3,none⟩=some d∧W.cell? ⟨w.heap.size,4,none⟩=some e) ∧
  (W.cell? ⟨w.heap.size+1,0,none⟩=some a'∧W.cell? ⟨w.heap.size+1,1,none⟩=some b'∧W.cell? ⟨w.heap.size+1,2,none⟩=some c'∧W.cell? ⟨w.heap.size+1,3,none⟩=some d'∧W.cell? ⟨w.heap.size+1,4,none⟩=some e'):=by
 refine ⟨box5 (aA8 h),?_⟩
 have:=box5 h
 simpa only [World.size_alloc] using this
theorem aEl {w w1:World} {o o2:Obj} (h:Below ((w.alloc o).alloc o2).heap.size ((w.alloc o).alloc o2) w1):Below w.heap.size w w1 :=
 (((Below.refl _ _).alloc (Nat.le_refl _) _).alloc (by simp) _).trans (h.mono (by simp;omega))
theorem aOg {t:ByteArray}:t.toList.isEmpty=(t.size == 0):=by
 rw [Lib.toList_data]
 have:t.size=t.data.toList.length:=rfl
 rw [this]
 cases t.data.toList<;>rfl
theorem aOh {w:World} {n:Nat} {a b c d e:Value} {t:Nat} (h:w.heap[n]?=some (.cells #[a,b,c,d,e] t)) :
  w.cell? ⟨n,0,none⟩=some a∧w.cell? ⟨n,1,none⟩=some b∧w.cell? ⟨n,2,none⟩=some c∧w.cell? ⟨n,3,none⟩=some d∧w.cell? ⟨n,4,none⟩=some e:=by
 simp only [World.cell?]
 rw [h]
 exact ⟨rfl,rfl,rfl,rfl,rfl⟩
theorem aWv {w:World} {n:Nat} {a b c d e:Value} {t:Nat} (h:w.heap[n]?=some (.cells #[a,b,c,d,e] t)) (i:Nat):w.frozen? ⟨n,i,none⟩=false:=by
 simp only [World.frozen?]
 rw [h]
 rfl
def set5 (W:World) (n:Nat) (a b c d e:Value):World:=((((W.setCell ⟨n,0,none⟩ a).setCell ⟨n,1,none⟩ b).setCell ⟨n,2,none⟩ c).setCell ⟨n,3,none⟩ d).setCell ⟨n,4,none⟩ e
theorem aUs {W:World} {n:Nat} {a b c d e a' b' c' d' e':Value} {t:Nat} (h:W.heap[n]?=some (.cells #[a,b,c,d,e] t)):(set5 W n a' b' c' d' e').heap[n]?=some (.cells #[a',b',c',d',e'] t):=by
 simp [set5,World.setCell,Array.getElem?_modify,h]
theorem aSq {W:World} {n m:Nat} {a b c d e:Value} (h:m≠n):(set5 W n a b c d e).heap[m]?=W.heap[m]?:=by
 unfold set5
 rw [aEk h,aEk h,aEk h,aEk h,aEk h]
theorem aOi {w W:World} {B n:Nat} {a b c d e:Value} (h:Below B w W) (hn:B≤n):Below B w (set5 W n a b c d e) :=
 ((((h.setCell (p:=⟨n,0,none⟩) hn _).setCell (p:=⟨n,1,none⟩) hn _).setCell (p:=⟨n,2,none⟩) hn _).setCell (p:=⟨n,3,none⟩) hn _).setCell (p:=⟨n,4,none⟩) hn _
end Go.Proofs.YthnodpdiocppgaaGreatDoor
namespace Go.Proofs.YthnodpdiocppgaaGreatDoor
open Go Go.RowKit Go.Shelf Go.ChangeShapes Go.WideShapes Go.Deep
structure OkM (m:MB):Prop where
 val:m.val.size≤100
 meth:m.meth.size≤100
 hlen:m.head.length≤31
 qlen:m.query.length≤31
 head:∀ p∈m.head,okF p
 query:∀ p∈m.query,okF p
theorem aJg {l:List aAa} (h:∀ p∈l,okF p):∀ p∈l,okP p:=aSk h
structure MV where
 m:MB
 ah:Option Addr
 ch:Nat
 aq:Option Addr
 cq:Nat
abbrev MV.vh (x:MV):Value:=.slice x.ah x.m.head.length x.ch
abbrev MV.vq (x:MV):Value:=.slice x.aq x.m.query.length x.cq
def aFm (x:MV):List Value:=[.int .i64 x.m.kind,.string x.m.val,.string x.m.meth,x.vh,x.vq]
def aD1 (l:List MV):List Value:=l.flatMap aFm
def MV.at_ (x:MV) (w:World):Prop:=Prs w x.vh x.m.head∧Prs w x.vq x.m.query
theorem MV.at_.below {x:MV} {w w':World} (h:x.at_ w) (hb:Below w.heap.size w w'):x.at_ w':=⟨h.1.below hb,h.2.below hb⟩
def aKq (w:World) (g o:Nat) (x:MV):Prop :=
 w.cell? ⟨g,o,none⟩=some (.int .i64 x.m.kind)∧w.cell? ⟨g,o+1,none⟩=some (.string x.m.val)∧w.cell? ⟨g,o+2,none⟩=some (.string x.m.meth)∧w.cell? ⟨g,o+3,none⟩=some x.vh∧w.cell? ⟨g,o+4,none⟩=some x.vq
theorem aKq.below {w w':World} {g o:Nat} {x:MV} (h:aKq w g o x) (hg:g<w.heap.size) (hb:Below w.heap.size w w'):aKq w' g o x :=
 ⟨(hb.cell (p:=⟨g,o,none⟩) hg).trans h.1,(hb.cell (p:=⟨g,o+1,none⟩) hg).trans h.2.1,(hb.cell (p:=⟨g,o+2,none⟩) hg).trans h.2.2.1,(hb.cell (p:=⟨g,o+3,none⟩) hg).trans h.2.2.2.1,(hb.cell (p:=⟨g,o+4,none⟩) hg).trans h.2.2.2.2⟩
def Mts (w:World) (v:Value) (l:List MV):Prop :=
 ∃ a cap,v=.slice a l.length cap∧l.length≤cap∧cap≤maxLen ∧
   ∀ i (h:i<l.length),l[i].at_ w∧∃ g off,a=some ⟨g,off,none⟩∧g<w.heap.size∧aKq w g (off+i*5) l[i]
theorem Mts.below {w w':World} {v:Value} {l:List MV} (h:Mts w v l) (hb:Below w.heap.size w w'):Mts w' v l:=by
 obtain ⟨a,cap,hv,h1,h2,hc⟩:=h
 refine ⟨a,cap,hv,h1,h2,fun i hi=>?_⟩
 obtain ⟨hat,g,off,hg,hlt,c⟩:=hc i hi
 exact ⟨hat.below hb,g,off,hg,Nat.lt_of_lt_of_le hlt hb.size,c.below hlt hb⟩
theorem Mts.nil (w:World):Mts w (.slice none 0 0) []:=⟨none,0,rfl,Nat.le_refl _,Nat.zero_le _,fun i hi=>absurd hi (by simp)⟩
theorem Mts.len {w:World} {v:Value} {l:List MV} (h:Mts w v l):l.length≤9223372036854775807:=by
 obtain ⟨_,_,_,h1,h2,_⟩:=h
 unfold maxLen at h2
 omega
theorem Mts.form {w:World} {v:Value} {l:List MV} (h:Mts w v l):∃ a cap,v=.slice a l.length cap:=by
 obtain ⟨a,cap,hv,_⟩:=h
 exact ⟨a,cap,hv⟩
theorem Mts.all {w:World} {v:Value} {l:List MV} (h:Mts w v l):∀ x∈l,x.at_ w:=by
 obtain ⟨_,_,_,_,_,hc⟩:=h
 intro x hx
 obtain ⟨i,hi,rfl⟩:=List.getElem_of_mem hx
 exact (hc i hi).1
theorem aQk (l:List MV):(aD1 l).length=l.length*5:=by
 induction l with
 | nil=>rfl
 | cons p l ih =>
   show (aFm p++aD1 l).length=_
   rw [List.length_append,ih]
   simp [aFm]
   omega
theorem aHy:∀ (l:List MV) (i:Nat) (h:i<l.length),(aD1 l)[i*5]?=some (.int .i64 l[i].m.kind)∧(aD1 l)[i*5+1]?=some (.string l[i].m.val)∧(aD1 l)[i*5+2]?=some (.string l[i].m.meth)∧(aD1 l)[i*5+3]?=some l[i].vh∧(aD1 l)[i*5+4]?=some l[i].vq
 | p::l,0,_=>⟨rfl,rfl,rfl,rfl,rfl⟩
 | p::l,i+1,h=>by
   have:=aHy l i (by simpa using h)
   have e:aD1 (p::l)=.int .i64 p.m.kind::.string p.m.val::.string p.m.meth::p.vh::p.vq::aD1 l:=rfl
   rw [e,Nat.add_mul]
   exact this
theorem Prs.one {w:World} {v:Value} {l:List aAa} (h:Prs w v l):v.oneCell'=true:=by
 obtain ⟨a,cap,rfl,_⟩:=h
 rfl
theorem Mts.of_row {w:World} {base:Nat} {v:Value} {l:List MV} {n:Nat} (hn:n=l.length) (h:w.ownsRow base 88 5 v n (aD1 l)) (hl:∀ x∈l,x.at_ w):Mts w v l:=by
 subst hn
 obtain ⟨_,h2⟩:=h
 rcases h2 with ⟨rfl,h0⟩ | ⟨g,cap,cur,rfl,hg,hgb,hle,hcm,hsz,hcur⟩
 ·have:l=[]:=List.eq_nil_of_length_eq_zero h0
  subst this
  exact Mts.nil w
 ·refine ⟨some ⟨g,0,none⟩,cap,rfl,hle,hcm,fun i hi=>⟨hl _ (List.getElem_mem hi),g,0,rfl,(Array.getElem?_eq_some_iff.1 hgb).1,?_⟩⟩
  have rd:∀ j u,j<l.length*5→(aD1 l)[j]?=some u→w.cell? ⟨g,0+j,none⟩=some u:=fun j u hj hu=>by
   rw [←hcur,List.getElem?_take_of_lt (by omega)] at hu
   simp [World.cell?,hgb]
   simpa using hu
  obtain ⟨a0,a1,a2,a3,a4⟩:=aHy l i hi
  exact ⟨rd _ _ (by omega) a0,rd _ _ (by omega) a1,rd _ _ (by omega) a2,rd _ _ (by omega) a3,rd _ _ (by omega) a4⟩
theorem aQl (l:List MV) (j:Nat) (u:Value) (h:(aD1 l)[j]?=some u):∃ i,∃ hi:i<l.length,(j=i*5∧u=.int .i64 l[i].m.kind)∨(j=i*5+1∧u=.string l[i].m.val)∨(j=i*5+2∧u=.string l[i].m.meth)∨(j=i*5+3∧u=l[i].vh)∨(j=i*5+4∧u=l[i].vq):=by
 have hj:j<l.length*5:=by rw [←aQk];exact (List.getElem?_eq_some_iff.1 h).1
 have hi:j / 5<l.length:=by omega
 obtain ⟨h0,h1,h2,h3,h4⟩:=aHy l (j / 5) hi
 refine ⟨j / 5,hi,?_⟩
 rcases (by omega:j=j / 5*5∨j=j / 5*5+1∨j=j / 5*5+2∨j=j / 5*5+3∨j=j / 5*5+4) with e | e | e | e | e
 ·rw [←e,h] at h0
  exact .inl ⟨e,Option.some.inj h0⟩
 ·rw [←e,h] at h1
  exact .inr (.inl ⟨e,Option.some.inj h1⟩)
 ·rw [←e,h] at h2
  exact .inr (.inr (.inl ⟨e,Option.some.inj h2⟩))
 ·rw [←e,h] at h3
  exact .inr (.inr (.inr (.inl ⟨e,Option.some.inj h3⟩)))
 ·rw [←e,h] at h4
  exact .inr (.inr (.inr (.inr ⟨e,Option.some.inj h4⟩)))
theorem Mts.news {w:World} {ad:Addr} {n c:Nat} {l:List MV} (h:Mts w (.slice (some ad) n c) l):∀ j u,(aD1 l)[j]?=some u→w.cell? (ad.add j)=some u:=by
 intro j u hu
 obtain ⟨i,hi,hc⟩:=aQl l j u hu
 obtain ⟨a,cap,hv,_,_,hcell⟩:=h
 obtain ⟨_,g,off,ha,_,c0,c1,c2,c3,c4⟩:=hcell i hi
 subst ha
 injection hv with e1
 injection e1 with e1
 subst e1
 rw [add_plain]
 rcases hc with ⟨rfl,rfl⟩ | ⟨rfl,rfl⟩ | ⟨rfl,rfl⟩ | ⟨rfl,rfl⟩ | ⟨rfl,rfl⟩
 ·exact c0
 ·exact c1
 ·exact c2
 ·exact c3
 ·exact c4
theorem Mts.lies {w:World} {x:Value} {l:List MV} (h:Mts w x l):Lies w x l.length (aD1 l):=by
 have h0:=h
 obtain ⟨a,cap,rfl,_,_,hc⟩:=h
 cases a with
 | some ad=>exact .inl ⟨ad,cap,rfl,h0.news⟩
 | none =>
   have:l=[]:=by
    cases l with
    | nil=>rfl
    | cons p r=>obtain ⟨_,g,off,hg,_⟩:=hc 0 (by simp);cases hg
   subst this
   exact .inr ⟨cap,rfl,rfl⟩
theorem Mts.pre {w:World} {a:Option Addr} {n cap:Nat} {l:List MV} (h:Mts w (.slice a n cap) l) {k:Nat} (hk:k≤l.length):Mts w (.slice a k cap) (l.take k):=by
 obtain ⟨a',cap',hv,h1,h2,hc⟩:=h
 injection hv with e1 e2 e3
 subst e1 e2 e3
 have hl:(l.take k).length=k:=by simp;omega
 refine ⟨a,cap,by rw [hl],by rw [hl];omega,h2,fun i hi=>?_⟩
 rw [hl] at hi
 obtain ⟨hat,g,off,ha,hg,c⟩:=hc i (by omega)
 refine ⟨by simpa using hat,g,off,ha,hg,by simpa using c⟩
theorem Mts.at1 (w:World) (n:Nat) (h:w.heap.size=n) (x:MV) (hx:x.at_ (w.alloc (.cells #[.int .i64 x.m.kind,.string x.m.val,.string x.m.meth,x.vh,x.vq] 88))):Mts (w.alloc (.cells #[.int .i64 x.m.kind,.string x.m.val,.string x.m.meth,x.vh,x.vq] 88)) (.slice (some ⟨n,0,none⟩) 1 1) [x]:=by
 subst h
 refine ⟨_,1,rfl,Nat.le_refl _,by decide,fun i hi=>?_⟩
 have:i=0:=by simpa using hi
 subst this
 refine ⟨hx,w.heap.size,0,rfl,by simp,?_⟩
 obtain ⟨c0,c1,c2,c3,c4⟩:=aOh (aA7 w (.cells #[.int .i64 x.m.kind,.string x.m.val,.string x.m.meth,x.vh,x.vq] 88))
 exact ⟨c0,c1,c2,c3,c4⟩
end Go.Proofs.YthnodpdiocppgaaGreatDoor
namespace Go.Proofs.YthnodpdiocppgaaGreatDoor
open Go Go.RowKit Go.Shelf
theorem aSr (s:ByteArray) (w:World) (hs:s.size≤maxLen) :
  Calls Tryz.prog 189 #[.string s] w fun e w'=>e=.returned (.bool (aB9 s))∧Below w.heap.size w w' :=
 (aO9 s w hs).mono fun _ _ ⟨h,hw⟩=>⟨h,by rw [hw];exact Below.refl _ _⟩
theorem aQm (s:ByteArray) (w:World) (hs:s.size≤maxLen) :
  Calls Tryz.prog 128 #[.string s] w fun e w'=>e=.returned (.bool (aB9 s))∧Below w.heap.size w w' :=
 (aMv s w hs).mono fun _ _ ⟨h,hw⟩=>⟨h,by rw [hw];exact Below.refl _ _⟩
theorem aK1 (m:MB):mayM m=(mayP m.kind m.val.data.toList&&((m.meth.toList.isEmpty||aB9 m.meth)&&(aBj m.head&&aBa m.query))):=by
 rw [aOd,aOg]
theorem aWw (m:MB) (vh vq:Value) (w:World) (hh:Prs w vh m.head) (hq:Prs w vq m.query) (ok:OkM m) :
  Calls Tryz.prog 156 #[mV m vh vq] w fun e w'=>e=.returned (.bool (mayM m))∧Below w.heap.size w w':=by
 have HP:=hide (aK1 m)
 have C1:=fun W=>hide (aNj m.kind m.val W (aBc (by have:=ok.val;omega)))
 have C2:=fun W=>hide (aSr m.meth W (aBc (by have:=ok.meth;omega)))
 have C3:=fun W (h:Below w.heap.size w W)=>hide (aMw vh m.head W (hh.below h) (aJg ok.head))
 have C4:=fun W (h:Below w.heap.size w W)=>hide (aLk vq m.query W (hq.below h) (aJg ok.query))
 clear hh hq ok
 generalize mayM m=r at *
 obtain ⟨k,v,t,hd,qu⟩:=m
 dsimp only at *
 generalize aBj hd=x3 at *
 generalize aBa qu=x4 at *
 generalize aB9 t=x2 at *
 generalize mayP k v.data.toList=x1 at *
 have m0:=fun q:GB (w.alloc (.cells #[.int .i64 k,.string v,.string t,vh,vq] 88))=>(box5 q.h).1
 have m1:=fun q:GB (w.alloc (.cells #[.int .i64 k,.string v,.string t,vh,vq] 88))=>(box5 q.h).2.1
 have m2:=fun q:GB (w.alloc (.cells #[.int .i64 k,.string v,.string t,vh,vq] 88))=>(box5 q.h).2.2.1
 have m3:=fun q:GB (w.alloc (.cells #[.int .i64 k,.string v,.string t,vh,vq] 88))=>(box5 q.h).2.2.2.1
 have m4:=fun q:GB (w.alloc (.cells #[.int .i64 k,.string v,.string t,vh,vq] 88))=>(box5 q.h).2.2.2.2
 cases x1
 ·go_enter Tryz.func156,Tryz.ntmps156
  go_wp2_with fail
  refine (aA5 ((C1 _).out)).mono ?_
  rintro e x ⟨rfl,q,rfl⟩
  go_wp2_with fail
  go_ret
  exact ⟨aA1 HP.out.symm,aA8 q.h⟩
 cases he:t.toList.isEmpty
 ·rw [he] at HP
  cases x2
  ·go_enter Tryz.func156,Tryz.ntmps156
   go_wp2_with fail
   refine (aA5 ((C1 _).out)).mono ?_
   rintro e x ⟨rfl,q,rfl⟩
   go_wp2_with fail
   refine (aA3 ((C2 _).out)).mono ?_
   rintro e x ⟨rfl,q,rfl⟩
   go_wp2_with fail
   go_ret
   exact ⟨aA1 HP.out.symm,aA8 q.h⟩
  cases x3
  ·go_enter Tryz.func156,Tryz.ntmps156
   go_wp2_with fail
   refine (aA5 ((C1 _).out)).mono ?_
   rintro e x ⟨rfl,q,rfl⟩
   go_wp2_with fail
   refine (aA3 ((C2 _).out)).mono ?_
   rintro e x ⟨rfl,q,rfl⟩
   go_wp2_with fail
   refine (aA3 ((C3 _ (aA8 q.h)).out)).mono ?_
   rintro e x ⟨rfl,q,rfl⟩
   go_wp2_with fail
   go_ret
   exact ⟨aA1 HP.out.symm,aA8 q.h⟩
  ·go_enter Tryz.func156,Tryz.ntmps156
   go_wp2_with fail
   refine (aA5 ((C1 _).out)).mono ?_
   rintro e x ⟨rfl,q,rfl⟩
   go_wp2_with fail
   refine (aA3 ((C2 _).out)).mono ?_
   rintro e x ⟨rfl,q,rfl⟩
   go_wp2_with fail
   refine (aA3 ((C3 _ (aA8 q.h)).out)).mono ?_
   rintro e x ⟨rfl,q,rfl⟩
   go_wp2_with fail
   refine (aA3 ((C4 _ (aA8 q.h)).out)).mono ?_
   rintro e x ⟨rfl,q,rfl⟩
   go_wp2_with fail
   go_ret
   exact ⟨aA1 HP.out.symm,aA8 q.h⟩
 ·rw [he] at HP
  cases x3
  ·go_enter Tryz.func156,Tryz.ntmps156
   go_wp2_with fail
   refine (aA5 ((C1 _).out)).mono ?_
   rintro e x ⟨rfl,q,rfl⟩
   go_wp2_with fail
   refine (aA3 ((C3 _ (aA8 q.h)).out)).mono ?_
   rintro e x ⟨rfl,q,rfl⟩
   go_wp2_with fail
   go_ret
   exact ⟨aA1 HP.out.symm,aA8 q.h⟩
  ·go_enter Tryz.func156,Tryz.ntmps156
   go_wp2_with fail
   refine (aA5 ((C1 _).out)).mono ?_
   rintro e x ⟨rfl,q,rfl⟩
   go_wp2_with fail
   refine (aA3 ((C3 _ (aA8 q.h)).out)).mono ?_
   rintro e x ⟨rfl,q,rfl⟩
   go_wp2_with fail
   refine (aA3 ((C4 _ (aA8 q.h)).out)).mono ?_
   rintro e x ⟨rfl,q,rfl⟩
   go_wp2_with fail
   go_ret
   exact ⟨aA1 HP.out.symm,aA8 q.h⟩
end Go.Proofs.YthnodpdiocppgaaGreatDoor
namespace Go.Proofs.YthnodpdiocppgaaGreatDoor
open Go Go.RowKit Go.Shelf
attribute [local go_sem] aAu
theorem aQn (w:World) (va vb:Value) (xs ys:List aAa) (ha:Prs w va xs) (hb:Prs w vb ys) (hne:xs.length≠ys.length) :
  Calls Tryz.prog 169 #[va,vb] w fun e w'=>e=.returned (.bool (decide (xs=ys)))∧Below w.heap.size w w':=by
 obtain ⟨a,ca,rfl,_,_,hca⟩:=ha
 obtain ⟨b,cb,rfl,_,_,hcb⟩:=hb
 have hd:Hid (decide (xs=ys)=false):=decide_eq_false (fun e=>hne (by rw [e]))
 have hx:((xs.length:Int) != (ys.length:Int))=true:=by rw [bne_iff_ne];omega
 clear hca hcb
 go_enter Tryz.func169,Tryz.ntmps169
 go_wp2_with fail
 go_ret
 exact ⟨aA1 hd.out.symm,Below.refl _ _⟩
theorem aGs (w:World) (va vb:Value) (xs ys:List aAa) (ha:Prs w va xs) (hb:Prs w vb ys) :
  Calls Tryz.prog 169 #[va,vb] w fun e w'=>e=.returned (.bool (decide (xs=ys)))∧Below w.heap.size w w':=by
 by_cases hnn:¬ xs.length=ys.length
 ·exact aQn w va vb xs ys ha hb hnn
 have hne:xs.length=ys.length:=Classical.not_not.1 hnn
 clear hnn
 have hl:=ha.len
 obtain ⟨a,ca,rfl,_,_,hca⟩:=ha
 obtain ⟨b,cb,rfl,_,_,hcb⟩:=hb
 have HCA:=hide hca
 have HCB:=hide hcb
 clear hca hcb
 have HN:=hide hne
 have hx:((xs.length:Int) != (ys.length:Int))=false:=by rw [bne_eq_false_iff_eq];omega
 clear hne
 go_enter Tryz.func169,Tryz.ntmps169
 go_wp2_with fail
 go_loopw [13] (fun i wr=>∃ k:Nat,k≤xs.length∧i=.int .i64 k∧Hid (xs.take k=ys.take k)∧Below w.heap.size w wr) (fun i _=>xs.length - (intOf i).toNat)
 case atStart=>exact ⟨0,Nat.zero_le _,rfl,rfl,Below.refl _ _⟩
 case round =>
  obtain ⟨k,hk,rfl,htk,hB⟩:=hrel
  by_cases hlt:k<xs.length
  ·have hlb:k<ys.length:=by rw [←HN.out];exact hlt
   obtain ⟨ga,oa,rfl,hga,a1,a2⟩:=HCA.out k hlt
   obtain ⟨gb,ob,rfl,hgb,b1,b2⟩:=HCB.out k hlb
   replace a1:=(hB.cell (p:=⟨ga,oa+k*2,none⟩) hga).trans a1
   replace a2:=(hB.cell (p:=⟨ga,oa+k*2+1,none⟩) hga).trans a2
   replace b1:=(hB.cell (p:=⟨gb,ob+k*2,none⟩) hgb).trans b1
   replace b2:=(hB.cell (p:=⟨gb,ob+k*2+1,none⟩) hgb).trans b2
   have hlt':(k:Int)<(xs.length:Int):=by omega
   have hlb':(k:Int)<(ys.length:Int):=by omega
   have HX:Hid (xs[k]=(xs[k].1,xs[k].2)):=rfl
   have HY:Hid (ys[k]=(ys[k].1,ys[k].2)):=rfl
   have HEQ:Hid (∀ j (h1:j<xs.length) (h2:j<ys.length),xs=ys→xs[j]=ys[j]):=by
    intro j h1 h2 e;subst e;rfl
   generalize hx1:xs[k].1=x1 at *
   generalize hx2:xs[k].2=x2 at *
   generalize hy1:ys[k].1=y1 at *
   generalize hy2:ys[k].2=y2 at *
   cases hq1:(x1.toList == y1.toList)
   ·have hqe:Hid (decide (xs=ys)=false):=by
     apply decide_eq_false
     intro e
     have:=HEQ.out k hlt hlb e
     rw [HX.out,HY.out] at this
     rw [(Prod.mk.inj this).1] at hq1
     simp at hq1
    go_wp2_with fail
    go_region
    go_wp2_with fail
    go_ret
    exact ⟨aA1 hqe.out.symm,hB.drew⟩
   ·cases hq2:(x2.toList == y2.toList)
    ·have hqe:Hid (decide (xs=ys)=false):=by
      apply decide_eq_false
      intro e
      have:=HEQ.out k hlt hlb e
      rw [HX.out,HY.out] at this
      rw [(Prod.mk.inj this).2] at hq2
      simp at hq2
     go_wp2_with fail
     go_region
     go_wp2_with fail
     go_ret
     exact ⟨aA1 hqe.out.symm,hB.drew⟩
    ·have hqe:Hid (xs[k]=ys[k]):=by
      unfold Hid
      rw [HX.out,HY.out,aCp hq1,aCp hq2]
     go_wp2_with fail
     go_region
     go_wp2_with fail
     refine ⟨⟨k+1,by omega,by go_num,?_,hB.drew⟩,by simp [intOf];omega⟩
     unfold Hid
     rw [List.take_succ_eq_append_getElem hlt,List.take_succ_eq_append_getElem hlb,htk.out,hqe.out]
  ·have hqe:Hid (decide (xs=ys)=true):=by
    apply decide_eq_true
    have:=htk.out
    rwa [List.take_of_length_le (by omega),List.take_of_length_le (by rw [←HN.out];omega)] at this
   have hlt':¬ (k:Int)<(xs.length:Int):=by omega
   go_wp2_with fail
   go_ret
   exact ⟨aA1 hqe.out.symm,hB⟩
def aH6 (a b:MB):Bool:=(a.kind == b.kind&&a.val.toList == b.val.toList)&&((a.meth.toList == b.meth.toList)&&(decide (a.head=b.head)&&decide (a.query=b.query)))
theorem aVp (a b:MB) (va vb vc vd:Value) (w:World) (ha1:Prs w va a.head) (ha2:Prs w vb a.query) (hb1:Prs w vc b.head) (hb2:Prs w vd b.query) :
  Calls Tryz.prog 203 #[mV a va vb,mV b vc vd] w fun e w'=>e=.returned (.bool (aH6 a b))∧Below w.heap.size w w':=by
 have HP:Hid (aH6 a b=((a.kind == b.kind&&a.val.toList == b.val.toList)&&((a.meth.toList == b.meth.toList)&&(decide (a.head=b.head)&&decide (a.query=b.query))))):=rfl
 have C1:=fun W (h:Below w.heap.size w W)=>hide (aGs W va vc a.head b.head (ha1.below h) (hb1.below h))
 have C2:=fun W (h:Below w.heap.size w W)=>hide (aGs W vb vd a.query b.query (ha2.below h) (hb2.below h))
 clear ha1 ha2 hb1 hb2
 generalize aH6 a b=z at *
 generalize decide (a.head=b.head)=x3 at *
 generalize decide (a.query=b.query)=x4 at *
 obtain ⟨k,v,t,hd,qu⟩:=a
 obtain ⟨k',v',t',hd',qu'⟩:=b
 dsimp only at *
 have m0:=fun q:GB ((w.alloc (.cells #[.int .i64 k,.string v,.string t,va,vb] 88)).alloc (.cells #[.int .i64 k',.string v',.string t',vc,vd] 88))=>(aD0 q.h).1.2.2.2.1
 have m1:=fun q:GB ((w.alloc (.cells #[.int .i64 k,.string v,.string t,va,vb] 88)).alloc (.cells #[.int .i64 k',.string v',.string t',vc,vd] 88))=>(aD0 q.h).1.2.2.2.2
 have n0:=fun q:GB ((w.alloc (.cells #[.int .i64 k,.string v,.string t,va,vb] 88)).alloc (.cells #[.int .i64 k',.string v',.string t',vc,vd] 88))=>(aD0 q.h).2.2.2.2.1
 have n1:=fun q:GB ((w.alloc (.cells #[.int .i64 k,.string v,.string t,va,vb] 88)).alloc (.cells #[.int .i64 k',.string v',.string t',vc,vd] 88))=>(aD0 q.h).2.2.2.2.2
 have B2:Below w.heap.size w ((w.alloc (.cells #[.int .i64 k,.string v,.string t,va,vb] 88)).alloc (.cells #[.int .i64 k',.string v',.string t',vc,vd] 88)):=((Below.refl _ _).alloc (Nat.le_refl _) _).alloc (by simp) _
 cases e0:(k == k')
 ·rw [e0] at HP
  go_enter Tryz.func203,Tryz.ntmps203
  go_wp2_with fail
  go_ret
  exact ⟨aA1 HP.out.symm,B2⟩
 cases e1:(v.toList == v'.toList)
 ·rw [e0,e1] at HP
  go_enter Tryz.func203,Tryz.ntmps203
  go_wp2_with fail
  go_ret
  exact ⟨aA1 HP.out.symm,B2⟩
 cases e2:(t.toList == t'.toList)
 ·rw [e0,e1,e2] at HP
  go_enter Tryz.func203,Tryz.ntmps203
  go_wp2_with fail
  go_ret
  exact ⟨aA1 HP.out.symm,B2⟩
 rw [e0,e1,e2] at HP
 cases x3
 ·go_enter Tryz.func203,Tryz.ntmps203
  go_wp2_with fail
  refine (aA5 ((C1 _ B2).out)).mono ?_
  rintro e x ⟨rfl,q,rfl⟩
  go_wp2_with fail
  go_ret
  exact ⟨aA1 HP.out.symm,aEl q.h⟩
 ·go_enter Tryz.func203,Tryz.ntmps203
  go_wp2_with fail
  refine (aA5 ((C1 _ B2).out)).mono ?_
  rintro e x ⟨rfl,q,rfl⟩
  go_wp2_with fail
  refine (aA3 ((C2 _ (aEl q.h)).out)).mono ?_
  rintro e x ⟨rfl,q,rfl⟩
  go_wp2_with fail
  go_ret
  exact ⟨aA1 HP.out.symm,aEl q.h⟩
end Go.Proofs.YthnodpdiocppgaaGreatDoor
