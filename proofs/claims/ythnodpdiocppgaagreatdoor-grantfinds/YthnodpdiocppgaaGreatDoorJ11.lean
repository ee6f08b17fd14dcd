/-
  Filters in memory: their values, a slice of them; the laws' Few of filters, without a program.
-/
import Derived.Test.YthnodpdiocppgaaGreatDoorFiPlain
import Derived.Test.YthnodpdiocppgaaGreatDoorJ2
import Derived.Test.YthnodpdiocppgaaGreatDoorFiEq
import Derived.Test.YthnodpdiocppgaaGreatDoorJ4
import Derived.Test.YthnodpdiocppgaaGreatDoorJ7
import Derived.Test.YthnodpdiocppgaaGreatDoorJ9
import Derived.MapKept
import Derived.Test.YthnodpdiocppgaaGreatDoorJ12
set_option maxHeartbeats 3200000
set_option maxRecDepth 20000
namespace Go.Proofs.YthnodpdiocppgaaGreatDoor
open Go Go.RowKit Go.Shelf
abbrev fV (f:FB):Value:=.agg #[.int .i64 f.kind,.string f.name,.string f.val,.string f.host,.int .i64 f.port,.string f.path,.bool f.whole,.int .i64 f.code]
def aBz (f:FB):List Value:=[.int .i64 f.kind,.string f.name,.string f.val,.string f.host,.int .i64 f.port,.string f.path,.bool f.whole,.int .i64 f.code]
def EF:Elem FB where
 cells:=aBz
 n:=8
 A:=fun _ _=>True
 len:=fun _=>rfl
 pos:=by decide
 one:=fun x _ _ u hu=>by
  simp [aBz] at hu
  rcases hu with rfl | rfl | rfl | rfl | rfl | rfl | rfl | rfl<;>rfl
 below:=fun _ _ _ _ _=>trivial
theorem aAm {w:World} {g o:Nat} {f:FB} (h:EF.At w g o f) :
  w.cell? ⟨g,o,none⟩=some (.int .i64 f.kind)∧w.cell? ⟨g,o+1,none⟩=some (.string f.name)∧w.cell? ⟨g,o+2,none⟩=some (.string f.val)∧w.cell? ⟨g,o+3,none⟩=some (.string f.host) ∧
  w.cell? ⟨g,o+4,none⟩=some (.int .i64 f.port)∧w.cell? ⟨g,o+5,none⟩=some (.string f.path)∧w.cell? ⟨g,o+6,none⟩=some (.bool f.whole)∧w.cell? ⟨g,o+7,none⟩=some (.int .i64 f.code) :=
 ⟨h 0 _ rfl,h 1 _ rfl,h 2 _ rfl,h 3 _ rfl,h 4 _ rfl,h 5 _ rfl,h 6 _ rfl,h 7 _ rfl⟩
theorem aLm {w:World} {g t:Nat} {f:FB} (h:w.heap[g]?=some (.cells #[.int .i64 f.kind,.string f.name,.string f.val,.string f.host,.int .i64 f.port,.string f.path,.bool f.whole,.int .i64 f.code] t)):EF.At w g 0 f:=fun j u hu=>by
 rw [Nat.zero_add]
 refine aA0 h ?_
 have:(aBz f)[j]?=some u:=hu
 simpa [aBz] using this
structure RawF (f:FB):Prop where
 name:f.name.size≤maxLen
 val:f.val.size≤maxLen
 host:f.host.size≤maxLen
 path:f.path.size≤maxLen
structure OkFi (f:FB):Prop where
 name:f.name.size≤100
 val:f.val.size≤100
 host:f.host.size≤100
 path:f.path.size≤100
def fewF (f:FB):FB:={ f with name:=fewB f.name,val:=fewB f.val,host:=fewB f.host,path:=fewB f.path }
theorem aUu (f:FB):OkFi (fewF f):=⟨aBe _,aBe _,aBe _,aBe _⟩
def aB6 (l:List FB):List FB:=(l.take 9).map fewF
theorem aSu (l:List FB):∀ f∈aB6 l,OkFi f:=fun f hf=>by
 obtain ⟨x,_,rfl⟩:=List.mem_map.1 hf
 exact aUu x
theorem aK2 (l:List FB):(aB6 l).length≤9:=by simp [aB6];omega
theorem aK3 {l:List FB} {k:Nat} (hk:k≤l.length) (h9:k≤9) (h:¬ (k<l.length∧k<9)):(l.take k).map fewF=aB6 l:=by
 unfold aB6
 rcases (show k=9∨l.length≤k by omega) with h1 | h1
 ·rw [h1]
 ·rw [List.take_of_length_le h1,List.take_of_length_le (by omega)]
theorem aOj {l:List FB} {k:Nat} (hk:k<l.length):(l.take (k+1)).map fewF=(l.take k).map fewF++[fewF l[k]]:=by
 rw [List.take_succ_eq_append_getElem hk,List.map_append]
 rfl
end Go.Proofs.YthnodpdiocppgaaGreatDoor
namespace Go.Proofs.YthnodpdiocppgaaGreatDoor
open Go Go.RowKit Go.Shelf Fi
theorem boxF {w:World} {f:FB} {t:Nat} {W:World} (h:Below (w.alloc (.cells (aBz f).toArray t)).heap.size (w.alloc (.cells (aBz f).toArray t)) W):EF.At W w.heap.size 0 f :=
 aLm (t:=t) ((h.block w.heap.size (by simp)).trans (aA7 w _))
theorem aBl {w:World} {f:FB} {t:Nat} {W:World} {o:Obj} (h:Below ((w.alloc (.cells (aBz f).toArray t)).alloc o).heap.size ((w.alloc (.cells (aBz f).toArray t)).alloc o) W):EF.At W w.heap.size 0 f :=
 boxF (t:=t) (((Below.refl _ _).alloc (Nat.le_refl _) _).trans (h.mono (by simp)))
theorem aBd {w w1:World} {o o2:Obj} (h:Below ((w.alloc o).alloc o2).heap.size ((w.alloc o).alloc o2) w1):Below w.heap.size w w1 :=
 (((Below.refl _ _).alloc (Nat.le_refl _) _).alloc (by simp) _).trans (h.mono (by simp;omega))
theorem tl_e {s:ByteArray}:s.toList=[]↔s=ByteArray.empty:=by
 rw [Lib.toList_data]
 constructor
 ·intro h
  obtain ⟨⟨l⟩⟩:=s
  have:l=[]:=h
  subst this
  rfl
 ·rintro rfl
  rfl
theorem aCy {s:ByteArray}:s.toList.isEmpty=e0 s:=by
 rw [Lib.toList_data]
 have:s.size=s.data.toList.length:=rfl
 unfold e0
 rw [this]
 cases s.data.toList<;>rfl
def aEm (f:FB):Bool:=e0 f.name&&e0 f.val
def aEn (f:FB):Bool:=e0 f.name&&(e0 f.val&&(f.port == 0&&f.code == 0))
def aEo (f:FB):Bool:=aCq f&&e0 f.val
def aCt (f:FB):Bool:=e0 f.host||D.isName (dl f.host)
def aCu (f:FB):Bool:=if e0 f.path then !f.whole else if f.whole then isP (dl f.path) else mayP 2 (dl f.path)
theorem aK4 (f:FB):aDm f=(aCt f&&aCu f):=by
 unfold aDm aCt aCu
 congr 1
 cases e0 f.path
 ·cases f.whole
  ·show (isP (dl f.path)&&(false||abv (dl f.path)))=abv (dl f.path)
   cases ha:abv (dl f.path)
   ·cases isP (dl f.path)<;>rfl
   ·rw [aU3 ha]
    rfl
  ·show (isP (dl f.path)&&(true||abv (dl f.path)))=isP (dl f.path)
   cases isP (dl f.path)<;>rfl
 ·rfl
theorem aHg (f:FB) (w:World) (ok:OkFi f) :
  Calls Tryz.prog 241 #[fV f] w fun e w'=>e=.returned (.bool (aCt f))∧Below w.heap.size w w':=by
 obtain ⟨k,n,v,h,p,t,b,c⟩:=f
 have C1:=fun W=>hide (aC2 h W (aBc (by have:=ok.host;dsimp only at this;omega)))
 have HE:=@aCy h
 have HR:Hid (aCt ⟨k,n,v,h,p,t,b,c⟩=(h.toList.isEmpty||D.isName h.data.toList)):=by rw [HE];rfl
 clear HE
 generalize aCt ⟨k,n,v,h,p,t,b,c⟩=r at *
 generalize D.isName h.data.toList=x at *
 cases he:h.toList.isEmpty
 ·rw [he] at HR
  go_enter Tryz.func241,Tryz.ntmps241
  go_wp2_with fail
  refine ((C1 _).out).mono ?_
  rintro e w1 ⟨rfl,hb1⟩
  go_wp2_with fail
  go_ret
  exact ⟨aA1 HR.out.symm,aA8 hb1⟩
 ·rw [he] at HR
  go_enter Tryz.func241,Tryz.ntmps241
  go_wp2_with fail
  go_ret
  exact ⟨aA1 HR.out.symm,(Below.refl _ _).alloc (Nat.le_refl _) _⟩
theorem aHh (f:FB) (w:World) (ok:OkFi f) :
  Calls Tryz.prog 242 #[fV f] w fun e w'=>e=.returned (.bool (aCu f))∧Below w.heap.size w w':=by
 obtain ⟨k,n,v,h,p,t,b,c⟩:=f
 have C1:=fun W=>hide (aDr t W (aBc (by have:=ok.path;dsimp only at this;omega)))
 have C2:=fun W=>hide (aNj 2 t W (aBc (by have:=ok.path;dsimp only at this;omega)))
 have HE:=@aCy t
 have HR:Hid (aCu ⟨k,n,v,h,p,t,b,c⟩=(if t.toList.isEmpty then !b else if b then isP t.data.toList else mayP 2 t.data.toList)):=by rw [HE];rfl
 clear HE
 generalize aCu ⟨k,n,v,h,p,t,b,c⟩=r at *
 generalize isP t.data.toList=x at *
 generalize mayP 2 t.data.toList=y at *
 cases he:t.toList.isEmpty
 ·rw [he] at HR
  cases b
  ·go_enter Tryz.func242,Tryz.ntmps242
   go_wp2_with fail
   refine ((C2 _).out).mono ?_
   rintro e w1 ⟨rfl,hb1⟩
   go_wp2_with fail
   go_ret
   exact ⟨aA1 HR.out.symm,aA8 hb1⟩
  ·go_enter Tryz.func242,Tryz.ntmps242
   go_wp2_with fail
   refine ((C1 _).out).mono ?_
   rintro e w1 ⟨rfl,hb1⟩
   go_wp2_with fail
   go_ret
   exact ⟨aA1 HR.out.symm,aA8 hb1⟩
 ·rw [he] at HR
  go_enter Tryz.func242,Tryz.ntmps242
  go_wp2_with fail
  go_ret
  exact ⟨aA1 HR.out.symm,(Below.refl _ _).alloc (Nat.le_refl _) _⟩
theorem aMy (p:Int) (w:World) :
  Calls Tryz.prog 243 #[.int .i64 p] w fun e w'=>e=.returned (.bool (decide (0≤p∧p≤65535)))∧Below w.heap.size w w':=by
 have H1:Hid (0≤p→decide (p≤65535)=decide (0≤p∧p≤65535)):=fun h=>decide_eq_decide.2 (by omega)
 have H2:Hid (¬ 0≤p→false=decide (0≤p∧p≤65535)):=fun h=>(decide_eq_false (by omega)).symm
 generalize decide (0≤p∧p≤65535)=r at *
 by_cases h0:0≤p
 ·have HR:Hid (decide (p≤65535)=r):=H1.out h0
  go_enter Tryz.func243,Tryz.ntmps243
  go_wp2_with fail
  go_ret
  exact ⟨aA1 HR.out,Below.refl _ _⟩
 ·have HR:Hid (false=r):=H2.out h0
  go_enter Tryz.func243,Tryz.ntmps243
  go_wp2_with fail
  go_ret
  exact ⟨aA1 HR.out,Below.refl _ _⟩
theorem aOk (f:FB) (w:World) (ok:OkFi f) :
  Calls Tryz.prog 218 #[fV f] w fun e w'=>e=.returned (.bool (aCq f&&(aAi f.name&&aAr f.val)))∧Below w.heap.size w w':=by
 obtain ⟨k,n,v,h,p,t,b,c⟩:=f
 have C1:=fun W=>hide (aJf n W (aBc (by have:=ok.name;dsimp only at this;omega)))
 have C2:=fun W=>hide (aNk v W (aBc (by have:=ok.val;dsimp only at this;omega)))
 dsimp only
 generalize aAi n=x1 at *
 generalize aAr v=x2 at *
 generalize hx0:aCq ⟨k,n,v,h,p,t,b,c⟩=x0 at *
 have HEQ:decide (k=k∧n.toList=n.toList∧v.toList=v.toList∧h.toList=(⟨#[]⟩:ByteArray).toList∧p=0∧t.toList=(⟨#[]⟩:ByteArray).toList∧b=false∧c=0)=x0:=by
  rw [←hx0,Bool.eq_iff_iff,decide_eq_true_eq]
  unfold aCq e0
  simp [tl_e]
 have EQ:=fun W=>(aH5 k p c k 0 0 n v h t n v (⟨#[]⟩:ByteArray) (⟨#[]⟩:ByteArray) b false W).trans (by rw [HEQ])
 clear HEQ hx0
 have m2:∀ q:GB ((w.alloc (.cells #[.int .i64 k,.string n,.string v,.string h,.int .i64 p,.string t,.bool b,.int .i64 c] 108)).alloc (.cells #[.int .i64 k,.string n,.string v,.string ⟨#[]⟩,.int .i64 0,.string ⟨#[]⟩,.bool false,.int .i64 0] 108)),q.W.cell? ⟨w.heap.size,2,none⟩=some (.string v):=fun q=>(aAm (aBl (f:=⟨k,n,v,h,p,t,b,c⟩) q.h)).2.2.1
 cases x0
 ·go_enter Tryz.func218,Tryz.ntmps218
  go_wp2_with fail
  go_ret
  exact ⟨rfl,((Below.refl _ _).alloc (Nat.le_refl _) _).alloc (by simp) _⟩
 cases x1
 ·go_enter Tryz.func218,Tryz.ntmps218
  go_wp2_with fail
  refine (aA5 ((C1 _).out)).mono ?_
  rintro e x ⟨rfl,q,rfl⟩
  go_wp2_with fail
  go_ret
  exact ⟨rfl,aBd q.h⟩
 ·go_enter Tryz.func218,Tryz.ntmps218
  go_wp2_with fail
  refine (aA5 ((C1 _).out)).mono ?_
  rintro e x ⟨rfl,q,rfl⟩
  go_wp2_with fail
  refine (aA3 ((C2 _).out)).mono ?_
  rintro e x ⟨rfl,q,rfl⟩
  go_wp2_with fail
  go_ret
  exact ⟨rfl,aBd q.h⟩
theorem aMz (f:FB) (w:World) (ok:OkFi f) :
  Calls Tryz.prog 219 #[fV f] w fun e w'=>e=.returned (.bool (aEo f&&aAi f.name))∧Below w.heap.size w w':=by
 obtain ⟨k,n,v,h,p,t,b,c⟩:=f
 have C1:=fun W=>hide (aJf n W (aBc (by have:=ok.name;dsimp only at this;omega)))
 dsimp only
 generalize aAi n=x1 at *
 generalize hx0:aEo ⟨k,n,v,h,p,t,b,c⟩=x0 at *
 have HEQ:decide (k=k∧n.toList=n.toList∧v.toList=(⟨#[]⟩:ByteArray).toList∧h.toList=(⟨#[]⟩:ByteArray).toList∧p=0∧t.toList=(⟨#[]⟩:ByteArray).toList∧b=false∧c=0)=x0:=by
  rw [←hx0,Bool.eq_iff_iff,decide_eq_true_eq]
  unfold aEo aCq e0
  simp [tl_e]
  exact and_comm
 have EQ:=fun W=>(aH5 k p c k 0 0 n v h t n (⟨#[]⟩:ByteArray) (⟨#[]⟩:ByteArray) (⟨#[]⟩:ByteArray) b false W).trans (by rw [HEQ])
 clear HEQ hx0
 cases x0
 ·go_enter Tryz.func219,Tryz.ntmps219
  go_wp2_with fail
  go_ret
  exact ⟨rfl,((Below.refl _ _).alloc (Nat.le_refl _) _).alloc (by simp) _⟩
 ·go_enter Tryz.func219,Tryz.ntmps219
  go_wp2_with fail
  refine (aA5 ((C1 _).out)).mono ?_
  rintro e x ⟨rfl,q,rfl⟩
  go_wp2_with fail
  go_ret
  exact ⟨rfl,aBd q.h⟩
theorem aN0 (f:FB) (w:World) (ok:OkFi f) :
  Calls Tryz.prog 220 #[fV f] w fun e w'=>e=.returned (.bool (aEm f&&(aCt f&&(aCu f&&(decide (0≤f.port∧f.port≤65535)&&(f.code == 301||f.code == 302))))))∧Below w.heap.size w w':=by
 obtain ⟨k,n,v,h,p,t,b,c⟩:=f
 have C1:=fun W=>hide (aHg ⟨k,n,v,h,p,t,b,c⟩ W ok)
 have C2:=fun W=>hide (aHh ⟨k,n,v,h,p,t,b,c⟩ W ok)
 have C3:=fun W=>hide (aMy p W)
 dsimp only
 generalize aCt ⟨k,n,v,h,p,t,b,c⟩=x1 at *
 generalize aCu ⟨k,n,v,h,p,t,b,c⟩=x2 at *
 generalize decide (0≤p∧p≤65535)=x3 at *
 generalize hx0:aEm ⟨k,n,v,h,p,t,b,c⟩=x0 at *
 have HEQ:decide (k=k∧n.toList=(⟨#[]⟩:ByteArray).toList∧v.toList=(⟨#[]⟩:ByteArray).toList∧h.toList=h.toList∧p=p∧t.toList=t.toList∧b=b∧c=c)=x0:=by
  rw [←hx0,Bool.eq_iff_iff,decide_eq_true_eq]
  unfold aEm e0
  simp [tl_e]
 have EQ:=fun W=>(aH5 k p c k p c n v h t (⟨#[]⟩:ByteArray) (⟨#[]⟩:ByteArray) h t b b W).trans (by rw [HEQ])
 clear HEQ hx0
 have m0:∀ q:GB ((w.alloc (.cells #[.int .i64 k,.string n,.string v,.string h,.int .i64 p,.string t,.bool b,.int .i64 c] 108)).alloc (.cells #[.int .i64 k,.string ⟨#[]⟩,.string ⟨#[]⟩,.string h,.int .i64 p,.string t,.bool b,.int .i64 c] 108)),q.W.cell? ⟨w.heap.size,0,none⟩=some (.int .i64 k):=fun q=>(aAm (aBl (f:=⟨k,n,v,h,p,t,b,c⟩) q.h)).1
 have m1:∀ q:GB ((w.alloc (.cells #[.int .i64 k,.string n,.string v,.string h,.int .i64 p,.string t,.bool b,.int .i64 c] 108)).alloc (.cells #[.int .i64 k,.string ⟨#[]⟩,.string ⟨#[]⟩,.string h,.int .i64 p,.string t,.bool b,.int .i64 c] 108)),q.W.cell? ⟨w.heap.size,1,none⟩=some (.string n):=fun q=>(aAm (aBl (f:=⟨k,n,v,h,p,t,b,c⟩) q.h)).2.1
 have m2:∀ q:GB ((w.alloc (.cells #[.int .i64 k,.string n,.string v,.string h,.int .i64 p,.string t,.bool b,.int .i64 c] 108)).alloc (.cells #[.int .i64 k,.string ⟨#[]⟩,.string ⟨#[]⟩,.string h,.int .i64 p,.string t,.bool b,.int .i64 c] 108)),q.W.cell? ⟨w.heap.size,2,none⟩=some (.string v):=fun q=>(aAm (aBl (f:=⟨k,n,v,h,p,t,b,c⟩) q.h)).2.2.1
 have m3:∀ q:GB ((w.alloc (.cells #[.int .i64 k,.string n,.string v,.string h,.int .i64 p,.string t,.bool b,.int .i64 c] 108)).alloc (.cells #[.int .i64 k,.string ⟨#[]⟩,.string ⟨#[]⟩,.string h,.int .i64 p,.string t,.bool b,.int .i64 c] 108)),q.W.cell? ⟨w.heap.size,3,none⟩=some (.string h):=fun q=>(aAm (aBl (f:=⟨k,n,v,h,p,t,b,c⟩) q.h)).2.2.2.1
 have m4:∀ q:GB ((w.alloc (.cells #[.int .i64 k,.string n,.string v,.string h,.int .i64 p,.string t,.bool b,.int .i64 c] 108)).alloc (.cells #[.int .i64 k,.string ⟨#[]⟩,.string ⟨#[]⟩,.string h,.int .i64 p,.string t,.bool b,.int .i64 c] 108)),q.W.cell? ⟨w.heap.size,4,none⟩=some (.int .i64 p):=fun q=>(aAm (aBl (f:=⟨k,n,v,h,p,t,b,c⟩) q.h)).2.2.2.2.1
 have m5:∀ q:GB ((w.alloc (.cells #[.int .i64 k,.string n,.string v,.string h,.int .i64 p,.string t,.bool b,.int .i64 c] 108)).alloc (.cells #[.int .i64 k,.string ⟨#[]⟩,.string ⟨#[]⟩,.string h,.int .i64 p,.string t,.bool b,.int .i64 c] 108)),q.W.cell? ⟨w.heap.size,5,none⟩=some (.string t):=fun q=>(aAm (aBl (f:=⟨k,n,v,h,p,t,b,c⟩) q.h)).2.2.2.2.2.1
 have m6:∀ q:GB ((w.alloc (.cells #[.int .i64 k,.string n,.string v,.string h,.int .i64 p,.string t,.bool b,.int .i64 c] 108)).alloc (.cells #[.int .i64 k,.string ⟨#[]⟩,.string ⟨#[]⟩,.string h,.int .i64 p,.string t,.bool b,.int .i64 c] 108)),q.W.cell? ⟨w.heap.size,6,none⟩=some (.bool b):=fun q=>(aAm (aBl (f:=⟨k,n,v,h,p,t,b,c⟩) q.h)).2.2.2.2.2.2.1
 have m7:∀ q:GB ((w.alloc (.cells #[.int .i64 k,.string n,.string v,.string h,.int .i64 p,.string t,.bool b,.int .i64 c] 108)).alloc (.cells #[.int .i64 k,.string ⟨#[]⟩,.string ⟨#[]⟩,.string h,.int .i64 p,.string t,.bool b,.int .i64 c] 108)),q.W.cell? ⟨w.heap.size,7,none⟩=some (.int .i64 c):=fun q=>(aAm (aBl (f:=⟨k,n,v,h,p,t,b,c⟩) q.h)).2.2.2.2.2.2.2
 cases x0
 ·go_enter Tryz.func220,Tryz.ntmps220
  go_wp2_with fail
  go_ret
  exact ⟨rfl,((Below.refl _ _).alloc (Nat.le_refl _) _).alloc (by simp) _⟩
 cases x1
 ·go_enter Tryz.func220,Tryz.ntmps220
  go_wp2_with fail
  refine (aA5 ((C1 _).out)).mono ?_
  rintro e x ⟨rfl,q,rfl⟩
  go_wp2_with fail
  go_ret
  exact ⟨rfl,aBd q.h⟩
 cases x2
 ·go_enter Tryz.func220,Tryz.ntmps220
  go_wp2_with fail
  refine (aA5 ((C1 _).out)).mono ?_
  rintro e x ⟨rfl,q,rfl⟩
  go_wp2_with fail
  refine (aA3 ((C2 _).out)).mono ?_
  rintro e x ⟨rfl,q,rfl⟩
  go_wp2_with fail
  go_ret
  exact ⟨rfl,aBd q.h⟩
 cases x3
 ·go_enter Tryz.func220,Tryz.ntmps220
  go_wp2_with fail
  refine (aA5 ((C1 _).out)).mono ?_
  rintro e x ⟨rfl,q,rfl⟩
  go_wp2_with fail
  refine (aA3 ((C2 _).out)).mono ?_
  rintro e x ⟨rfl,q,rfl⟩
  go_wp2_with fail
  refine (aA3 ((C3 _).out)).mono ?_
  rintro e x ⟨rfl,q,rfl⟩
  go_wp2_with fail
  go_ret
  exact ⟨rfl,aBd q.h⟩
 cases hc:(c == 301)
 ·go_enter Tryz.func220,Tryz.ntmps220
  go_wp2_with fail
  refine (aA5 ((C1 _).out)).mono ?_
  rintro e x ⟨rfl,q,rfl⟩
  go_wp2_with fail
  refine (aA3 ((C2 _).out)).mono ?_
  rintro e x ⟨rfl,q,rfl⟩
  go_wp2_with fail
  refine (aA3 ((C3 _).out)).mono ?_
  rintro e x ⟨rfl,q,rfl⟩
  go_wp2_with fail
  go_ret
  exact ⟨by simp,aBd q.h⟩
 ·go_enter Tryz.func220,Tryz.ntmps220
  go_wp2_with fail
  refine (aA5 ((C1 _).out)).mono ?_
  rintro e x ⟨rfl,q,rfl⟩
  go_wp2_with fail
  refine (aA3 ((C2 _).out)).mono ?_
  rintro e x ⟨rfl,q,rfl⟩
  go_wp2_with fail
  refine (aA3 ((C3 _).out)).mono ?_
  rintro e x ⟨rfl,q,rfl⟩
  go_wp2_with fail
  go_ret
  exact ⟨rfl,aBd q.h⟩
theorem aN1 (f:FB) (w:World) (ok:OkFi f) :
  Calls Tryz.prog 221 #[fV f] w fun e w'=>e=.returned (.bool (aEn f&&(aCt f&&(aCu f&&(!e0 f.host||!e0 f.path)))))∧Below w.heap.size w w':=by
 obtain ⟨k,n,v,h,p,t,b,c⟩:=f
 have C1:=fun W=>hide (aHg ⟨k,n,v,h,p,t,b,c⟩ W ok)
 have C2:=fun W=>hide (aHh ⟨k,n,v,h,p,t,b,c⟩ W ok)
 dsimp only
 have HE:=@aCy h
 have HE2:=@aCy t
 rw [←HE,←HE2]
 clear HE HE2
 generalize aCt ⟨k,n,v,h,p,t,b,c⟩=x1 at *
 generalize aCu ⟨k,n,v,h,p,t,b,c⟩=x2 at *
 generalize hx0:aEn ⟨k,n,v,h,p,t,b,c⟩=x0 at *
 have HEQ:decide (k=k∧n.toList=(⟨#[]⟩:ByteArray).toList∧v.toList=(⟨#[]⟩:ByteArray).toList∧h.toList=h.toList∧p=0∧t.toList=t.toList∧b=b∧c=0)=x0:=by
  rw [←hx0,Bool.eq_iff_iff,decide_eq_true_eq]
  unfold aEn e0
  simp [tl_e]
 have EQ:=fun W=>(aH5 k p c k 0 0 n v h t (⟨#[]⟩:ByteArray) (⟨#[]⟩:ByteArray) h t b b W).trans (by rw [HEQ])
 clear HEQ hx0
 have m0:∀ q:GB ((w.alloc (.cells #[.int .i64 k,.string n,.string v,.string h,.int .i64 p,.string t,.bool b,.int .i64 c] 108)).alloc (.cells #[.int .i64 k,.string ⟨#[]⟩,.string ⟨#[]⟩,.string h,.int .i64 0,.string t,.bool b,.int .i64 0] 108)),q.W.cell? ⟨w.heap.size,0,none⟩=some (.int .i64 k):=fun q=>(aAm (aBl (f:=⟨k,n,v,h,p,t,b,c⟩) q.h)).1
 have m1:∀ q:GB ((w.alloc (.cells #[.int .i64 k,.string n,.string v,.string h,.int .i64 p,.string t,.bool b,.int .i64 c] 108)).alloc (.cells #[.int .i64 k,.string ⟨#[]⟩,.string ⟨#[]⟩,.string h,.int .i64 0,.string t,.bool b,.int .i64 0] 108)),q.W.cell? ⟨w.heap.size,1,none⟩=some (.string n):=fun q=>(aAm (aBl (f:=⟨k,n,v,h,p,t,b,c⟩) q.h)).2.1
 have m2:∀ q:GB ((w.alloc (.cells #[.int .i64 k,.string n,.string v,.string h,.int .i64 p,.string t,.bool b,.int .i64 c] 108)).alloc (.cells #[.int .i64 k,.string ⟨#[]⟩,.string ⟨#[]⟩,.string h,.int .i64 0,.string t,.bool b,.int .i64 0] 108)),q.W.cell? ⟨w.heap.size,2,none⟩=some (.string v):=fun q=>(aAm (aBl (f:=⟨k,n,v,h,p,t,b,c⟩) q.h)).2.2.1
 have m3:∀ q:GB ((w.alloc (.cells #[.int .i64 k,.string n,.string v,.string h,.int .i64 p,.string t,.bool b,.int .i64 c] 108)).alloc (.cells #[.int .i64 k,.string ⟨#[]⟩,.string ⟨#[]⟩,.string h,.int .i64 0,.string t,.bool b,.int .i64 0] 108)),q.W.cell? ⟨w.heap.size,3,none⟩=some (.string h):=fun q=>(aAm (aBl (f:=⟨k,n,v,h,p,t,b,c⟩) q.h)).2.2.2.1
 have m4:∀ q:GB ((w.alloc (.cells #[.int .i64 k,.string n,.string v,.string h,.int .i64 p,.string t,.bool b,.int .i64 c] 108)).alloc (.cells #[.int .i64 k,.string ⟨#[]⟩,.string ⟨#[]⟩,.string h,.int .i64 0,.string t,.bool b,.int .i64 0] 108)),q.W.cell? ⟨w.heap.size,4,none⟩=some (.int .i64 p):=fun q=>(aAm (aBl (f:=⟨k,n,v,h,p,t,b,c⟩) q.h)).2.2.2.2.1
 have m5:∀ q:GB ((w.alloc (.cells #[.int .i64 k,.string n,.string v,.string h,.int .i64 p,.string t,.bool b,.int .i64 c] 108)).alloc (.cells #[.int .i64 k,.string ⟨#[]⟩,.string ⟨#[]⟩,.string h,.int .i64 0,.string t,.bool b,.int .i64 0] 108)),q.W.cell? ⟨w.heap.size,5,none⟩=some (.string t):=fun q=>(aAm (aBl (f:=⟨k,n,v,h,p,t,b,c⟩) q.h)).2.2.2.2.2.1
 have m6:∀ q:GB ((w.alloc (.cells #[.int .i64 k,.string n,.string v,.string h,.int .i64 p,.string t,.bool b,.int .i64 c] 108)).alloc (.cells #[.int .i64 k,.string ⟨#[]⟩,.string ⟨#[]⟩,.string h,.int .i64 0,.string t,.bool b,.int .i64 0] 108)),q.W.cell? ⟨w.heap.size,6,none⟩=some (.bool b):=fun q=>(aAm (aBl (f:=⟨k,n,v,h,p,t,b,c⟩) q.h)).2.2.2.2.2.2.1
 have m7:∀ q:GB ((w.alloc (.cells #[.int .i64 k,.string n,.string v,.string h,.int .i64 p,.string t,.bool b,.int .i64 c] 108)).alloc (.cells #[.int .i64 k,.string ⟨#[]⟩,.string ⟨#[]⟩,.string h,.int .i64 0,.string t,.bool b,.int .i64 0] 108)),q.W.cell? ⟨w.heap.size,7,none⟩=some (.int .i64 c):=fun q=>(aAm (aBl (f:=⟨k,n,v,h,p,t,b,c⟩) q.h)).2.2.2.2.2.2.2
 cases x0
 ·go_enter Tryz.func221,Tryz.ntmps221
  go_wp2_with fail
  go_ret
  exact ⟨rfl,((Below.refl _ _).alloc (Nat.le_refl _) _).alloc (by simp) _⟩
 cases x1
 ·go_enter Tryz.func221,Tryz.ntmps221
  go_wp2_with fail
  refine (aA5 ((C1 _).out)).mono ?_
  rintro e x ⟨rfl,q,rfl⟩
  go_wp2_with fail
  go_ret
  exact ⟨rfl,aBd q.h⟩
 cases x2
 ·go_enter Tryz.func221,Tryz.ntmps221
  go_wp2_with fail
  refine (aA5 ((C1 _).out)).mono ?_
  rintro e x ⟨rfl,q,rfl⟩
  go_wp2_with fail
  refine (aA3 ((C2 _).out)).mono ?_
  rintro e x ⟨rfl,q,rfl⟩
  go_wp2_with fail
  go_ret
  exact ⟨rfl,aBd q.h⟩
 cases hc:h.toList.isEmpty
 ·go_enter Tryz.func221,Tryz.ntmps221
  go_wp2_with fail
  refine (aA5 ((C1 _).out)).mono ?_
  rintro e x ⟨rfl,q,rfl⟩
  go_wp2_with fail
  refine (aA3 ((C2 _).out)).mono ?_
  rintro e x ⟨rfl,q,rfl⟩
  go_wp2_with fail
  go_ret
  exact ⟨rfl,aBd q.h⟩
 ·go_enter Tryz.func221,Tryz.ntmps221
  go_wp2_with fail
  refine (aA5 ((C1 _).out)).mono ?_
  rintro e x ⟨rfl,q,rfl⟩
  go_wp2_with fail
  refine (aA3 ((C2 _).out)).mono ?_
  rintro e x ⟨rfl,q,rfl⟩
  go_wp2_with fail
  go_ret
  exact ⟨by simp,aBd q.h⟩
theorem aSv (f:FB) (w:World) (ok:OkFi f) :
  Calls Tryz.prog 194 #[fV f] w fun e w'=>e=.returned (.bool (mayF f))∧Below w.heap.size w w':=by
 have C1:=fun W=>hide (aOk f W ok)
 have C3:=fun W=>hide (aMz f W ok)
 have C4:=fun W=>hide (aN0 f W ok)
 have C5:=fun W=>hide (aN1 f W ok)
 have H12:Hid (f.kind=1∨f.kind=2→(aCq f&&(aAi f.name&&aAr f.val))=mayF f):=fun h=>by unfold mayF;rw [if_pos h]
 have H3:Hid (f.kind=3→(aEo f&&aAi f.name)=mayF f):=fun h=>by
  unfold mayF aEo;rw [if_neg (by omega),if_pos h]
  cases aCq f<;>cases e0 f.val<;>cases aAi f.name<;>rfl
 have H4:Hid (f.kind=4→(aEm f&&(aCt f&&(aCu f&&(decide (0≤f.port∧f.port≤65535)&&(f.code == 301||f.code == 302)))))=mayF f):=fun h=>by
  unfold mayF aEm;rw [if_neg (by omega),if_neg (by omega),if_pos h,aK4]
  cases e0 f.name<;>cases e0 f.val<;>cases aCt f<;>cases aCu f<;>rfl
 have H5:Hid (f.kind=5→(aEn f&&(aCt f&&(aCu f&&(!e0 f.host||!e0 f.path))))=mayF f):=fun h=>by
  unfold mayF aEn;rw [if_neg (by omega),if_neg (by omega),if_neg (by omega),if_pos h,aK4]
  cases e0 f.name<;>cases e0 f.val<;>cases aCt f<;>cases aCu f<;>cases (f.port == 0)<;>cases (f.code == 0)<;>cases e0 f.host<;>cases e0 f.path<;>rfl
 have H0:Hid (¬ (f.kind=1∨f.kind=2)→f.kind≠3→f.kind≠4→f.kind≠5→false=mayF f):=fun h1 h2 h3 h4=>by
  unfold mayF;rw [if_neg h1,if_neg h2,if_neg h3,if_neg h4]
 generalize mayF f=r at *
 generalize (aCq f&&(aAi f.name&&aAr f.val))=r1 at *
 generalize (aEo f&&aAi f.name)=r3 at *
 generalize (aEm f&&(aCt f&&(aCu f&&(decide (0≤f.port∧f.port≤65535)&&(f.code == 301||f.code == 302)))))=r4 at *
 generalize (aEn f&&(aCt f&&(aCu f&&(!e0 f.host||!e0 f.path))))=r5 at *
 obtain ⟨k,n,v,h,p,t,b,c⟩:=f
 dsimp only at *
 cases h1:(k == 1)
 ·cases h2:(k == 2)
  ·cases h3:(k == 3)
   ·cases h4:(k == 4)
    ·cases h5:(k == 5)
     ·have HR:Hid (false=r):=H0.out (by simp at h1 h2;omega) (by simpa using h3) (by simpa using h4) (by simpa using h5)
      clear H12 H3 H4 H5 H0
      go_enter Tryz.func194,Tryz.ntmps194
      go_wp2_with fail
      go_ret
      exact ⟨aA1 HR.out,(Below.refl _ _).alloc (Nat.le_refl _) _⟩
     ·have HR:Hid (r5=r):=H5.out (eq_of_beq h5)
      clear H12 H3 H4 H5 H0
      go_enter Tryz.func194,Tryz.ntmps194
      go_wp2_with fail
      refine ((C5 _).out).mono ?_
      rintro e w1 ⟨rfl,hb1⟩
      go_wp2_with fail
      go_ret
      exact ⟨aA1 HR.out,aA8 hb1⟩
    ·have HR:Hid (r4=r):=H4.out (eq_of_beq h4)
     clear H12 H3 H4 H5 H0
     go_enter Tryz.func194,Tryz.ntmps194
     go_wp2_with fail
     refine ((C4 _).out).mono ?_
     rintro e w1 ⟨rfl,hb1⟩
     go_wp2_with fail
     go_ret
     exact ⟨aA1 HR.out,aA8 hb1⟩
   ·have HR:Hid (r3=r):=H3.out (eq_of_beq h3)
    clear H12 H3 H4 H5 H0
    go_enter Tryz.func194,Tryz.ntmps194
    go_wp2_with fail
    refine ((C3 _).out).mono ?_
    rintro e w1 ⟨rfl,hb1⟩
    go_wp2_with fail
    go_ret
    exact ⟨aA1 HR.out,aA8 hb1⟩
  ·have HR:Hid (r1=r):=H12.out (.inr (eq_of_beq h2))
   clear H12 H3 H4 H5 H0
   go_enter Tryz.func194,Tryz.ntmps194
   go_wp2_with fail
   refine ((C1 _).out).mono ?_
   rintro e w1 ⟨rfl,hb1⟩
   go_wp2_with fail
   go_ret
   exact ⟨aA1 HR.out,aA8 hb1⟩
 ·have HR:Hid (r1=r):=H12.out (.inl (eq_of_beq h1))
  clear H12 H3 H4 H5 H0
  go_enter Tryz.func194,Tryz.ntmps194
  go_wp2_with fail
  refine ((C1 _).out).mono ?_
  rintro e w1 ⟨rfl,hb1⟩
  go_wp2_with fail
  go_ret
  exact ⟨aA1 HR.out,aA8 hb1⟩
end Go.Proofs.YthnodpdiocppgaaGreatDoor
namespace Go.Proofs.YthnodpdiocppgaaGreatDoor
open Go Go.RowKit Go.Shelf Fi
def elsF (f:FB):Bool:=f.kind == 4||f.kind == 5
def aBv (f g:FB):Bool:=(elsF f&&elsF g)||aBu f g
theorem aSw {f:FB} (h:mayF f=true):f.kind=1∨f.kind=2∨f.kind=3∨f.kind=4∨f.kind=5:=by
 unfold mayF at h
 by_cases h1:f.kind=1∨f.kind=2
 ·omega
 ·rw [if_neg h1] at h
  by_cases h2:f.kind=3
  ·omega
  ·rw [if_neg h2] at h
   by_cases h3:f.kind=4
   ·omega
   ·rw [if_neg h3] at h
    by_cases h4:f.kind=5
    ·omega
    ·rw [if_neg h4] at h
     exact absurd h (by decide)
theorem aH7 {f:FB} (h:mayF f=true):decide (3<f.kind)=elsF f:=by
 unfold elsF
 rcases aSw h with h1 | h1 | h1 | h1 | h1<;>rw [h1]<;>rfl
theorem aHi (l:List FB) (f:FB):aAz (l++[f])=aAz l+if 3<f.kind then 1 else 0:=by
 unfold aAz
 rw [List.filter_append,List.length_append]
 congr 1
 by_cases h:3<f.kind
 ·rw [if_pos h,List.filter_cons_of_pos (by simpa using h)]
  rfl
 ·rw [if_neg h,List.filter_cons_of_neg (by simpa using h)]
  rfl
theorem aSx {l:List FB} {i j:Nat} (hj:j<l.length) (hi:i<j):[l[i]'(by omega),l[j]].Sublist l:=by
 have h1:[l[i]'(by omega)].Sublist (l.take j):=List.singleton_sublist.2 (List.mem_take_iff_getElem.2 ⟨i,by omega,rfl⟩)
 have h2:[l[j]].Sublist (l.drop j):=List.singleton_sublist.2 (List.mem_drop_iff_getElem.2 ⟨0,by omega,by simp⟩)
 have:=h1.append h2
 rw [List.take_append_drop] at this
 exact this
theorem aJh {l:List FB} {j:Nat} (hj:j<l.length) (h:mayF l[j]=false∨(l.take j).any (aBv l[j])=true):allF l=false:=by
 cases ha:allF l
 ·rfl
 ·exfalso
  rcases h with h | h
  ·rw [(aEw.1 ha).2.1 _ (List.getElem_mem hj)] at h
   exact absurd h (by decide)
  ·obtain ⟨g,hg,hc⟩:=List.any_eq_true.1 h
   obtain ⟨i,hi,rfl⟩:=List.mem_take_iff_getElem.1 hg
   have hs:=aEw.1 (aU5 ha (aSx hj (i:=i) (by omega)))
   have m1:=hs.2.1 (l[i]'(by omega)) (by simp)
   have m2:=hs.2.1 l[j] (by simp)
   unfold aBv at hc
   rw [Bool.or_eq_true,Bool.and_eq_true] at hc
   rcases hc with ⟨c1,c2⟩ | hc
   ·rw [←aH7 m2,decide_eq_true_eq] at c1
    rw [←aH7 m1,decide_eq_true_eq] at c2
    have:=hs.2.2.1
    unfold aAz at this
    rw [List.filter_cons_of_pos (by simpa using c2),List.filter_cons_of_pos (by simpa using c1)] at this
    simp at this
   ·have:=(List.pairwise_cons.1 hs.2.2.2).1 l[j] (by simp)
    rw [aFz,hc] at this
    exact absurd this (by decide)
theorem aQo {l:List FB} (h:8<l.length):allF l=false:=by
 cases ha:allF l
 ·rfl
 ·have:=(aEw.1 ha).1
  omega
theorem aIs {l:List FB} {k:Nat} (hk:k<l.length):l.take (k+1)=l.take k++[l[k]]:=List.take_succ_eq_append_getElem hk
theorem aSy {l:List FB} (h8:l.length≤8) (h:∀ j (hj:j<l.length),mayF l[j]=true∧(l.take j).any (aBv l[j])=false):allF l=true:=by
 have H:∀ n,n≤l.length→aAz (l.take n)≤1∧(l.take n).Pairwise fun f g=>aBu f g=false:=by
  intro n
  induction n with
  | zero=>intro _;exact ⟨by simp [aAz],by simp⟩
  | succ n ih =>
    intro hn
    obtain ⟨i1,i2⟩:=ih (by omega)
    obtain ⟨hm,hc⟩:=h n (by omega)
    rw [List.any_eq_false] at hc
    rw [aIs (by omega)]
    refine ⟨?_,?_⟩
    ·rw [aHi]
     by_cases h3:3<l[n].kind
     ·have he:elsF l[n]=true:=by rw [←aH7 hm];exact decide_eq_true h3
      have:aAz (l.take n)=0:=by
       unfold aAz
       rw [List.length_eq_zero_iff,List.filter_eq_nil_iff]
       intro g hg hk
       have:=hc g hg
       unfold aBv at this
       rw [he] at this
       have hmg:mayF g=true:=by
        obtain ⟨i,hi,rfl⟩:=List.mem_take_iff_getElem.1 hg
        exact (h i (by omega)).1
       rw [aH7 hmg] at hk
       rw [hk] at this
       simp at this
      rw [this]
      split<;>omega
     ·rw [if_neg h3]
      exact i1
    ·rw [List.pairwise_append]
     refine ⟨i2,by simp,fun a ha b hb=>?_⟩
     have:b=l[n]:=by simpa using hb
     subst this
     have:=hc a ha
     unfold aBv at this
     rw [aFz]
     cases hcc:aBu l[n] a
     ·rfl
     ·rw [hcc] at this
      simp at this
 obtain ⟨t1,t2⟩:=H l.length (Nat.le_refl _)
 rw [List.take_length] at t1 t2
 refine aEw.2 ⟨h8,fun f hf=>?_,t1,t2⟩
 obtain ⟨i,hi,rfl⟩:=List.getElem_of_mem hf
 exact (h i hi).1
theorem aNm (f:FB) (w:World) :
  Calls Tryz.prog 217 #[fV f] w fun e w'=>e=.returned (.bool (elsF f))∧Below w.heap.size w w':=by
 have HR:Hid (elsF f=(f.kind == 4||f.kind == 5)):=rfl
 generalize elsF f=r at *
 obtain ⟨k,n,v,h,p,t,b,c⟩:=f
 dsimp only at *
 cases h4:(k == 4)
 ·rw [h4] at HR
  go_enter Tryz.func217,Tryz.ntmps217
  go_wp2_with fail
  go_ret
  exact ⟨aA1 HR.out.symm,(Below.refl _ _).alloc (Nat.le_refl _) _⟩
 ·rw [h4] at HR
  go_enter Tryz.func217,Tryz.ntmps217
  go_wp2_with fail
  go_ret
  exact ⟨aA1 HR.out.symm,(Below.refl _ _).alloc (Nat.le_refl _) _⟩
theorem aFa {w:World} {f:FB} {t:Nat} {W:World} {o:Obj} (h:Below ((w.alloc o).alloc (.cells (aBz f).toArray t)).heap.size ((w.alloc o).alloc (.cells (aBz f).toArray t)) W):EF.At W (w.heap.size+1) 0 f:=by
 have:=boxF (t:=t) h
 rw [World.size_alloc] at this
 exact this
theorem aN2 (f g:FB) (w:World) (okf:OkFi f) (okg:OkFi g) :
  Calls Tryz.prog 193 #[fV f,fV g] w fun e w'=>e=.returned (.bool (aBv f g))∧Below w.heap.size w w':=by
 have C1:=fun W=>hide (aNm f W)
 have C2:=fun W=>hide (aNm g W)
 have C3:=fun W=>hide (aIe f.name g.name W (aBc (by have:=okf.name;omega)) (aBc (by have:=okg.name;omega)))
 have HR:Hid (aBv f g=((elsF f&&elsF g)||(f.kind == g.kind&&aAt f.name g.name))):=rfl
 clear okf okg
 generalize aBv f g=r at *
 generalize elsF f=x1 at *
 generalize elsF g=x2 at *
 generalize aAt f.name g.name=x3 at *
 obtain ⟨k,n,v,h,p,t,b,c⟩:=f
 obtain ⟨k',n',v',h',p',t',b',c'⟩:=g
 dsimp only at *
 have m0:∀ q:GB ((w.alloc (.cells #[.int .i64 k,.string n,.string v,.string h,.int .i64 p,.string t,.bool b,.int .i64 c] 108)).alloc (.cells #[.int .i64 k',.string n',.string v',.string h',.int .i64 p',.string t',.bool b',.int .i64 c'] 108)),q.W.cell? ⟨w.heap.size,0,none⟩=some (.int .i64 k):=fun q=>(aAm (aBl (f:=⟨k,n,v,h,p,t,b,c⟩) q.h)).1
 have m1:∀ q:GB ((w.alloc (.cells #[.int .i64 k,.string n,.string v,.string h,.int .i64 p,.string t,.bool b,.int .i64 c] 108)).alloc (.cells #[.int .i64 k',.string n',.string v',.string h',.int .i64 p',.string t',.bool b',.int .i64 c'] 108)),q.W.cell? ⟨w.heap.size,1,none⟩=some (.string n):=fun q=>(aAm (aBl (f:=⟨k,n,v,h,p,t,b,c⟩) q.h)).2.1
 have m2:∀ q:GB ((w.alloc (.cells #[.int .i64 k,.string n,.string v,.string h,.int .i64 p,.string t,.bool b,.int .i64 c] 108)).alloc (.cells #[.int .i64 k',.string n',.string v',.string h',.int .i64 p',.string t',.bool b',.int .i64 c'] 108)),q.W.cell? ⟨w.heap.size,2,none⟩=some (.string v):=fun q=>(aAm (aBl (f:=⟨k,n,v,h,p,t,b,c⟩) q.h)).2.2.1
 have m3:∀ q:GB ((w.alloc (.cells #[.int .i64 k,.string n,.string v,.string h,.int .i64 p,.string t,.bool b,.int .i64 c] 108)).alloc (.cells #[.int .i64 k',.string n',.string v',.string h',.int .i64 p',.string t',.bool b',.int .i64 c'] 108)),q.W.cell? ⟨w.heap.size,3,none⟩=some (.string h):=fun q=>(aAm (aBl (f:=⟨k,n,v,h,p,t,b,c⟩) q.h)).2.2.2.1
 have m4:∀ q:GB ((w.alloc (.cells #[.int .i64 k,.string n,.string v,.string h,.int .i64 p,.string t,.bool b,.int .i64 c] 108)).alloc (.cells #[.int .i64 k',.string n',.string v',.string h',.int .i64 p',.string t',.bool b',.int .i64 c'] 108)),q.W.cell? ⟨w.heap.size,4,none⟩=some (.int .i64 p):=fun q=>(aAm (aBl (f:=⟨k,n,v,h,p,t,b,c⟩) q.h)).2.2.2.2.1
 have m5:∀ q:GB ((w.alloc (.cells #[.int .i64 k,.string n,.string v,.string h,.int .i64 p,.string t,.bool b,.int .i64 c] 108)).alloc (.cells #[.int .i64 k',.string n',.string v',.string h',.int .i64 p',.string t',.bool b',.int .i64 c'] 108)),q.W.cell? ⟨w.heap.size,5,none⟩=some (.string t):=fun q=>(aAm (aBl (f:=⟨k,n,v,h,p,t,b,c⟩) q.h)).2.2.2.2.2.1
 have m6:∀ q:GB ((w.alloc (.cells #[.int .i64 k,.string n,.string v,.string h,.int .i64 p,.string t,.bool b,.int .i64 c] 108)).alloc (.cells #[.int .i64 k',.string n',.string v',.string h',.int .i64 p',.string t',.bool b',.int .i64 c'] 108)),q.W.cell? ⟨w.heap.size,6,none⟩=some (.bool b):=fun q=>(aAm (aBl (f:=⟨k,n,v,h,p,t,b,c⟩) q.h)).2.2.2.2.2.2.1
 have m7:∀ q:GB ((w.alloc (.cells #[.int .i64 k,.string n,.string v,.string h,.int .i64 p,.string t,.bool b,.int .i64 c] 108)).alloc (.cells #[.int .i64 k',.string n',.string v',.string h',.int .i64 p',.string t',.bool b',.int .i64 c'] 108)),q.W.cell? ⟨w.heap.size,7,none⟩=some (.int .i64 c):=fun q=>(aAm (aBl (f:=⟨k,n,v,h,p,t,b,c⟩) q.h)).2.2.2.2.2.2.2
 have n0:∀ q:GB ((w.alloc (.cells #[.int .i64 k,.string n,.string v,.string h,.int .i64 p,.string t,.bool b,.int .i64 c] 108)).alloc (.cells #[.int .i64 k',.string n',.string v',.string h',.int .i64 p',.string t',.bool b',.int .i64 c'] 108)),q.W.cell? ⟨w.heap.size+1,0,none⟩=some (.int .i64 k'):=fun q=>(aAm (aFa (f:=⟨k',n',v',h',p',t',b',c'⟩) q.h)).1
 have n1:∀ q:GB ((w.alloc (.cells #[.int .i64 k,.string n,.string v,.string h,.int .i64 p,.string t,.bool b,.int .i64 c] 108)).alloc (.cells #[.int .i64 k',.string n',.string v',.string h',.int .i64 p',.string t',.bool b',.int .i64 c'] 108)),q.W.cell? ⟨w.heap.size+1,1,none⟩=some (.string n'):=fun q=>(aAm (aFa (f:=⟨k',n',v',h',p',t',b',c'⟩) q.h)).2.1
 have n2:∀ q:GB ((w.alloc (.cells #[.int .i64 k,.string n,.string v,.string h,.int .i64 p,.string t,.bool b,.int .i64 c] 108)).alloc (.cells #[.int .i64 k',.string n',.string v',.string h',.int .i64 p',.string t',.bool b',.int .i64 c'] 108)),q.W.cell? ⟨w.heap.size+1,2,none⟩=some (.string v'):=fun q=>(aAm (aFa (f:=⟨k',n',v',h',p',t',b',c'⟩) q.h)).2.2.1
 have n3:∀ q:GB ((w.alloc (.cells #[.int .i64 k,.string n,.string v,.string h,.int .i64 p,.string t,.bool b,.int .i64 c] 108)).alloc (.cells #[.int .i64 k',.string n',.string v',.string h',.int .i64 p',.string t',.bool b',.int .i64 c'] 108)),q.W.cell? ⟨w.heap.size+1,3,none⟩=some (.string h'):=fun q=>(aAm (aFa (f:=⟨k',n',v',h',p',t',b',c'⟩) q.h)).2.2.2.1
 have n4:∀ q:GB ((w.alloc (.cells #[.int .i64 k,.string n,.string v,.string h,.int .i64 p,.string t,.bool b,.int .i64 c] 108)).alloc (.cells #[.int .i64 k',.string n',.string v',.string h',.int .i64 p',.string t',.bool b',.int .i64 c'] 108)),q.W.cell? ⟨w.heap.size+1,4,none⟩=some (.int .i64 p'):=fun q=>(aAm (aFa (f:=⟨k',n',v',h',p',t',b',c'⟩) q.h)).2.2.2.2.1
 have n5:∀ q:GB ((w.alloc (.cells #[.int .i64 k,.string n,.string v,.string h,.int .i64 p,.string t,.bool b,.int .i64 c] 108)).alloc (.cells #[.int .i64 k',.string n',.string v',.string h',.int .i64 p',.string t',.bool b',.int .i64 c'] 108)),q.W.cell? ⟨w.heap.size+1,5,none⟩=some (.string t'):=fun q=>(aAm (aFa (f:=⟨k',n',v',h',p',t',b',c'⟩) q.h)).2.2.2.2.2.1
 have n6:∀ q:GB ((w.alloc (.cells #[.int .i64 k,.string n,.string v,.string h,.int .i64 p,.string t,.bool b,.int .i64 c] 108)).alloc (.cells #[.int .i64 k',.string n',.string v',.string h',.int .i64 p',.string t',.bool b',.int .i64 c'] 108)),q.W.cell? ⟨w.heap.size+1,6,none⟩=some (.bool b'):=fun q=>(aAm (aFa (f:=⟨k',n',v',h',p',t',b',c'⟩) q.h)).2.2.2.2.2.2.1
 have n7:∀ q:GB ((w.alloc (.cells #[.int .i64 k,.string n,.string v,.string h,.int .i64 p,.string t,.bool b,.int .i64 c] 108)).alloc (.cells #[.int .i64 k',.string n',.string v',.string h',.int .i64 p',.string t',.bool b',.int .i64 c'] 108)),q.W.cell? ⟨w.heap.size+1,7,none⟩=some (.int .i64 c'):=fun q=>(aAm (aFa (f:=⟨k',n',v',h',p',t',b',c'⟩) q.h)).2.2.2.2.2.2.2
 cases hk:(k == k')
 all_goals rw [hk] at HR
 ·cases x1
  ·go_enter Tryz.func193,Tryz.ntmps193
   go_wp2_with fail
   refine (aA5 ((C1 _).out)).mono ?_
   rintro e x ⟨rfl,q,rfl⟩
   go_wp2_with fail
   go_ret
   exact ⟨aA1 HR.out.symm,aBd q.h⟩
  cases x2
  ·go_enter Tryz.func193,Tryz.ntmps193
   go_wp2_with fail
   refine (aA5 ((C1 _).out)).mono ?_
   rintro e x ⟨rfl,q,rfl⟩
   go_wp2_with fail
   refine (aA3 ((C2 _).out)).mono ?_
   rintro e x ⟨rfl,q,rfl⟩
   go_wp2_with fail
   go_ret
   exact ⟨aA1 HR.out.symm,aBd q.h⟩
  ·go_enter Tryz.func193,Tryz.ntmps193
   go_wp2_with fail
   refine (aA5 ((C1 _).out)).mono ?_
   rintro e x ⟨rfl,q,rfl⟩
   go_wp2_with fail
   refine (aA3 ((C2 _).out)).mono ?_
   rintro e x ⟨rfl,q,rfl⟩
   go_wp2_with fail
   go_ret
   exact ⟨aA1 HR.out.symm,aBd q.h⟩
 ·cases x1
  ·go_enter Tryz.func193,Tryz.ntmps193
   go_wp2_with fail
   refine (aA5 ((C1 _).out)).mono ?_
   rintro e x ⟨rfl,q,rfl⟩
   go_wp2_with fail
   refine (aA3 ((C3 _).out)).mono ?_
   rintro e x ⟨rfl,q,rfl⟩
   go_wp2_with fail
   go_ret
   exact ⟨aA1 HR.out.symm,aBd q.h⟩
  cases x2
  ·go_enter Tryz.func193,Tryz.ntmps193
   go_wp2_with fail
   refine (aA5 ((C1 _).out)).mono ?_
   rintro e x ⟨rfl,q,rfl⟩
   go_wp2_with fail
   refine (aA3 ((C2 _).out)).mono ?_
   rintro e x ⟨rfl,q,rfl⟩
   go_wp2_with fail
   refine (aA3 ((C3 _).out)).mono ?_
   rintro e x ⟨rfl,q,rfl⟩
   go_wp2_with fail
   go_ret
   exact ⟨aA1 HR.out.symm,aBd q.h⟩
  ·go_enter Tryz.func193,Tryz.ntmps193
   go_wp2_with fail
   refine (aA5 ((C1 _).out)).mono ?_
   rintro e x ⟨rfl,q,rfl⟩
   go_wp2_with fail
   refine (aA3 ((C2 _).out)).mono ?_
   rintro e x ⟨rfl,q,rfl⟩
   go_wp2_with fail
   go_ret
   exact ⟨aA1 HR.out.symm,aBd q.h⟩
abbrev clV (g:Nat):Value:=.func (.func 192) #[] #[.pointer (some ⟨g,0,none⟩)]
theorem aJi (f g:FB) (b:Nat) (w:World) (okf:OkFi f) (okg:OkFi g) (hb:b<w.heap.size) (hat:EF.At w b 0 f) :
  Calls Tryz.prog 192 #[fV g,.pointer (some ⟨b,0,none⟩)] w fun e w'=>e=.returned (.bool (aBv f g))∧Below w.heap.size w w':=by
 have C1:=fun W=>hide (aN2 f g W okf okg)
 obtain ⟨c0,c1,c2,c3,c4,c5,c6,c7⟩:=aAm (hat.below hb ((Below.refl _ w).alloc (Nat.le_refl _) (.cells (aBz g).toArray 108)))
 obtain ⟨k,n,v,h,p,t,b,c⟩:=f
 obtain ⟨k',n',v',h',p',t',b',c'⟩:=g
 simp only [aBz,Nat.zero_add] at c0 c1 c2 c3 c4 c5 c6 c7
 clear hat okf okg
 generalize aBv ⟨k,n,v,h,p,t,b,c⟩ ⟨k',n',v',h',p',t',b',c'⟩=r at *
 go_enter Tryz.func192,Tryz.ntmps192
 go_wp2_with fail
 refine ((C1 _).out).mono ?_
 rintro e w1 ⟨rfl,hb1⟩
 go_wp2_with fail
 go_ret
 exact ⟨rfl,aA8 hb1⟩
def idxP (P:FB→Bool) (l:List FB):Int:=if l.any P then (l.findIdx P:Nat) else -1
theorem aSz {P:FB→Bool} {l:List FB} {k:Nat} (hk:k<l.length) (h:∀ j (h:j<l.length),j<k→P l[j]=false) (hs:P l[k]=true):idxP P l=(k:Int):=by
 have h1:l.any P=true:=List.any_eq_true.2 ⟨_,List.getElem_mem hk,hs⟩
 have h2:l.findIdx P=k:=by
  rw [List.findIdx_eq hk]
  exact ⟨hs,fun j hj=>h j (by omega) hj⟩
 unfold idxP
 rw [if_pos h1,h2]
theorem aNn {P:FB→Bool} {l:List FB} (h:∀ j (h:j<l.length),P l[j]=false):idxP P l=-1:=by
 have h1:l.any P=false:=by
  rw [List.any_eq_false]
  intro p hp
  obtain ⟨j,hj,rfl⟩:=List.getElem_of_mem hp
  rw [h j hj]
  decide
 unfold idxP
 rw [h1]
 rfl
theorem aUv (P:FB→Bool) (l:List FB):decide (0≤idxP P l)=l.any P:=by
 unfold idxP
 cases l.any P
 ·rfl
 ·simp
theorem aOl (P:FB→Bool) (gb:Nat) (v:Value) (l:List FB) (w:World) (hv:Sl EF w v l) (go:∀ f∈l,∀ W,Below w.heap.size w W→Calls Tryz.prog 192 #[fV f,.pointer (some ⟨gb,0,none⟩)] W fun e w'=>e=.returned (.bool (P f))∧Below W.heap.size W w') :
  Calls Tryz.prog 222 #[v,.func (.func 192) #[] #[.pointer (some ⟨gb,0,none⟩)]] w fun e w'=>e=.returned (.int .i64 (idxP P l))∧Below w.heap.size w w':=by
 have hlen:=hv.len
 obtain ⟨a,cap,rfl,_,_,hc⟩:=hv
 have HC:=hide hc
 have GO:=hide go
 clear hc go
 have ent:∀ (args:Array Value) (w:World),(callFunc 192 args).run Tryz.prog w=.ok (.enter 192 args) w:=fun args w=>aAd Tryz.func192 (by kernel_rfl) rfl args w
 go_enter Tryz.func222,Tryz.ntmps222
 go_wp2_with fail
 go_loopw [8] (fun i wr=>∃ k:Nat,k≤l.length∧i=.int .i64 k∧Hid (∀ j (h:j<l.length),j<k→P l[j]=false)∧Below w.heap.size w wr) (fun i _=>l.length - (intOf i).toNat)
 case atStart=>exact ⟨0,Nat.zero_le _,rfl,fun j h hj=>absurd hj (by omega),Below.refl _ _⟩
 case round =>
  obtain ⟨k,hk,rfl,hno,hB⟩:=hrel
  by_cases hlt:k<l.length
  ·have hlt':(k:Int)<(l.length:Int):=by omega
   obtain ⟨_,gg,off,rfl,hgg,hat⟩:=HC.out k hlt
   obtain ⟨c0,c1,c2,c3,c4,c5,c6,c7⟩:=aAm (show EF.At wr gg (off+k*8) l[k] from fun j u hu=>(hB.cell (p:=⟨gg,off+k*8+j,none⟩) hgg).trans (hat j u hu))
   have C1:=hide (GO.out l[k] (List.getElem_mem hlt) wr hB)
   have HS:Hid (∀ x,P l[k]=x→P l[k]=x):=fun _ h=>h
   clear hat
   cases hs:P l[k]
   ·have HN:Hid (∀ j (h:j<l.length),j<k+1→P l[j]=false):=fun j h hj=>by
     rcases Nat.lt_or_ge j k with h1 | h1
     ·exact hno.out j h h1
     ·obtain rfl:j=k:=by omega
      exact hs
    rw [hs] at C1
    clear hs HS
    generalize l[k]=fk at *
    obtain ⟨k0,n0,v0,h0,p0,t0,b0,z0⟩:=fk
    dsimp only at *
    go_wp2_with fail
    refine (C1.out).mono ?_
    rintro e w1 ⟨rfl,hb1⟩
    go_wp2_with fail
    exact ⟨⟨k+1,by omega,by go_num,HN.out,bb2 hB hb1⟩,by simp [intOf];omega⟩
   ·have HI:Hid ((k:Int)=idxP P l):=(aSz hlt hno.out hs).symm
    rw [hs] at C1
    clear hs HS
    generalize l[k]=fk at *
    obtain ⟨k0,n0,v0,h0,p0,t0,b0,z0⟩:=fk
    dsimp only at *
    go_wp2_with fail
    refine (C1.out).mono ?_
    rintro e w1 ⟨rfl,hb1⟩
    go_wp2_with fail
    go_ret
    exact ⟨aAp HI.out,bb2 hB hb1⟩
  ·have hlt':¬ (k:Int)<(l.length:Int):=by omega
   have HI:Hid (-1=idxP P l):=(aNn (fun j h=>hno.out j h (by omega))).symm
   go_wp2_with fail
   go_ret
   exact ⟨aAp HI.out,hB⟩
theorem aLn (f:FB) (b:Nat) (v:Value) (l:List FB) (w:World) (okf:OkFi f) (okl:∀ g∈l,OkFi g) (hb:b<w.heap.size) (hat:EF.At w b 0 f) (hv:Sl EF w v l) :
  Calls Tryz.prog 195 #[v,clV b] w fun e w'=>e=.returned (.bool (l.any (aBv f)))∧Below w.heap.size w w':=by
 have C1:=hide (aOl (aBv f) b v l w hv (fun g hg W hW=>aJi f g b W okf (okl g hg) (Nat.lt_of_lt_of_le hb hW.size) (hat.below hb hW)))
 have HE:=hide (aUv (aBv f) l)
 clear hv hat
 go_enter Tryz.func195,Tryz.ntmps195
 go_wp2_with fail
 refine (C1.out).mono ?_
 rintro e w1 ⟨rfl,hb1⟩
 go_wp2_with fail
 go_ret
 exact ⟨aA1 HE.out,hb1⟩
theorem aT0 (v:Value) (l:List FB) (w:World) (hv:Sl EF w v l) (ok:∀ f∈l,OkFi f) :
  Calls Tryz.prog 157 #[v] w fun e w'=>e=.returned (.bool (allF l))∧Below w.heap.size w w':=by
 have hlen:=hv.len
 have HV:=hide hv
 obtain ⟨a,cap,rfl,hcap,hmax,hc⟩:=hv
 have HC:=hide hc
 have HOK:=hide ok
 clear hc ok
 have hcap':(l.length:Int)≤(cap:Int):=by omega
 have hmf:∀ (fn:Fn) (first cap:Array Value) (w:World),(Instr.makeFunc fn first cap).run Tryz.prog w=.ok (.func fn first cap) w:=fun _ _ _ _=>rfl
 by_cases h8:8<l.length
 ·have HR:Hid (false=allF l):=(aQo h8).symm
  have h8':(8:Int)<(l.length:Int):=by omega
  go_enter Tryz.func157,Tryz.ntmps157
  go_wp2_with fail
  go_ret
  exact ⟨aA1 HR.out,Below.refl _ _⟩
 have h8':¬ (8:Int)<(l.length:Int):=by omega
 go_enter Tryz.func157,Tryz.ntmps157
 go_wp2_with fail
 go_loopw [11] (fun i wr=>∃ k:Nat,k≤l.length∧i=.int .i64 k∧Hid (∀ j (hj:j<l.length),j<k→mayF l[j]=true∧(l.take j).any (aBv l[j])=false)∧Below w.heap.size w wr) (fun i _=>l.length - (intOf i).toNat)
 case atStart=>exact ⟨0,Nat.zero_le _,rfl,fun j h hj=>absurd hj (by omega),Below.refl _ _⟩
 case round =>
  obtain ⟨k,hk,rfl,hno,hB⟩:=hrel
  by_cases hlt:k<l.length
  ·have hlt':(k:Int)<(l.length:Int):=by omega
   have hkc:(k:Int)≤(cap:Int):=by omega
   obtain ⟨_,gg,off,rfl,hgg,hat⟩:=HC.out k hlt
   obtain ⟨c0,c1,c2,c3,c4,c5,c6,c7⟩:=aAm (show EF.At wr gg (off+k*8) l[k] from fun j u hu=>(hB.cell (p:=⟨gg,off+k*8+j,none⟩) hgg).trans (hat j u hu))
   have okk:=HOK.out l[k] (List.getElem_mem hlt)
   have B1:Below wr.heap.size wr (wr.alloc (.cells (aBz l[k]).toArray 108)):=(Below.refl _ wr).alloc (Nat.le_refl _) _
   have A1:EF.At (wr.alloc (.cells (aBz l[k]).toArray 108)) wr.heap.size 0 l[k]:=aLm (aA7 wr _)
   have C1:=fun W=>hide (aSv l[k] W okk)
   have C2:=fun W (h:Below (wr.alloc (.cells (aBz l[k]).toArray 108)).heap.size (wr.alloc (.cells (aBz l[k]).toArray 108)) W)=>hide (aLn l[k] wr.heap.size (.slice (some ⟨gg,off,none⟩) k cap) (l.take k) W okk (fun g hg=>HOK.out g (List.mem_of_mem_take hg)) (by have:=h.size;simp at this;omega) (A1.below (by simp) h) ((HV.out.pre (k:=k) (by omega)).below (bb2 hB (bb2 B1 h))))
   have HY:Hid (mayF l[k]=true→(l.take k).any (aBv l[k])=false→∀ j (hj:j<l.length),j<k+1→mayF l[j]=true∧(l.take j).any (aBv l[j])=false):=fun h1 h2 j h hj=>by
    rcases Nat.lt_or_ge j k with h3 | h3
    ·exact hno.out j h h3
    ·obtain rfl:j=k:=by omega
     exact ⟨h1,h2⟩
   have HN:=hide (fun h=>aJh (l:=l) (j:=k) hlt h)
   clear hat A1
   generalize (l.take k).any (aBv l[k])=x2 at *
   generalize mayF l[k]=x1 at *
   generalize l[k]=fk at *
   obtain ⟨k0,n0,v0,h0,p0,t0,b0,z0⟩:=fk
   dsimp only at *
   cases x1
   ·have HR:Hid (false=allF l):=(HN.out (.inl rfl)).symm
    go_wp2_with fail
    refine ((C1 _).out).mono ?_
    rintro e w1 ⟨rfl,hb1⟩
    go_wp2_with fail
    go_ret
    exact ⟨aA1 HR.out,bb2 hB (aA8 hb1)⟩
   cases x2
   ·have HZ:=hide (HY.out rfl rfl)
    go_wp2_with fail
    refine ((C1 _).out).mono ?_
    rintro e w1 ⟨rfl,hb1⟩
    go_wp2_with fail
    refine ((C2 _ hb1).out).mono ?_
    rintro e w2 ⟨rfl,hb2⟩
    go_wp2_with fail
    exact ⟨⟨k+1,by omega,by go_num,HZ.out,bb2 hB (aA8 (bb2 hb1 hb2))⟩,by simp [intOf];omega⟩
   ·have HR:Hid (false=allF l):=(HN.out (.inr rfl)).symm
    go_wp2_with fail
    refine ((C1 _).out).mono ?_
    rintro e w1 ⟨rfl,hb1⟩
    go_wp2_with fail
    refine ((C2 _ hb1).out).mono ?_
    rintro e w2 ⟨rfl,hb2⟩
    go_wp2_with fail
    go_ret
    exact ⟨aA1 HR.out,bb2 hB (aA8 (bb2 hb1 hb2))⟩
  ·have hlt':¬ (k:Int)<(l.length:Int):=by omega
   have HR:Hid (true=allF l):=(aSy (by omega) (fun j h=>hno.out j h (by omega))).symm
   go_wp2_with fail
   go_ret
   exact ⟨aA1 HR.out,hB⟩
end Go.Proofs.YthnodpdiocppgaaGreatDoor
namespace Go.Proofs.YthnodpdiocppgaaGreatDoor
open Go Go.RowKit Go.Shelf
abbrev dF (n:Nat):Value:=.func (.func n) #[] #[]
theorem aOm (w:World) (o o':Obj):{ (w.alloc o) with heap:=(w.alloc o).heap.setIfInBounds w.heap.size o' }=w.alloc o':=by
 show World.mk ..=World.mk ..
 congr 1
 show (w.heap.push o).setIfInBounds w.heap.size o'=w.heap.push o'
 apply Array.ext
 ·simp
 ·intro i h1 h2
  rw [Array.getElem_setIfInBounds (by simpa using h1)]
  by_cases he:w.heap.size=i
  ·subst he
   simp
  ·simp only [if_neg he]
   have hi:i<w.heap.size:=by simp at h2;omega
   rw [Array.getElem_push_lt hi,Array.getElem_push_lt hi]
end Go.Proofs.YthnodpdiocppgaaGreatDoor
namespace Go.Proofs.YthnodpdiocppgaaGreatDoor
open Go Go.RowKit Go.Shelf Fi
theorem aQp (v:Value) (l:List aAa) (w:World) (hv:Prs w v l) (hl:l.length≤1000) :
  Calls Tryz.prog 52 #[v] w fun e w'=>∃ v',e=.returned v'∧RowP w' v' l∧Below w.heap.size w w':=by
 have HV:=hide hv
 have qS:∀ (w:World) (a:Option Addr) (n c:Nat),(binOp .eql 28 (.slice a n c) (.slice none 0 0)).run Tryz.prog w=.ok (.bool a.isNone) w:=fun w a n c=>Lib.run_eql_slice_nil w _ _ a n c 0 0 Tryz.underlying28
 obtain ⟨a,cap,rfl,_,_,hc⟩:=hv
 cases a with
 | none =>
   have:l=[]:=by
    cases l with
    | nil=>rfl
    | cons p l =>
      obtain ⟨g,off,h1,_⟩:=hc 0 (by simp)
      exact absurd h1 (by simp)
   subst this
   clear hc
   go_enter Tryz.func52,Tryz.ntmps52
   go_wp2_with fail
   go_ret
   exact ⟨_,rfl,⟨w.heap.size,World.ownsRow_nil _ _ _ _⟩,Below.refl _ _⟩
 | some ad =>
   clear hc
   go_enter Tryz.func52,Tryz.ntmps52
   go_wp2_with (at_builtin;refine aHb _ _ _ rfl (by rfl) w.heap.size _ _ [] rfl (aAn _ _ _ _ rfl) _ _ rfl (HV.out.below ((Below.refl _ _).alloc (Nat.le_refl _) _)) (by omega) (by simp) ?_;intro v' w3 hown' hgrow)
   go_ret
   refine ⟨_,rfl,RowP.mk (by simp) hown',((Below.refl _ _).alloc (Nat.le_refl _) _).grown hgrow (by simp) (fun j e=>?_)⟩
   have:=aAe (aAn 96 2 w w.heap.size rfl) e
   simpa using this
theorem aBi {W:World} {g t i:Nat} {cs:Array Value} (c:Value) (h:W.heap[g]?=some (.cells cs t)):(W.setCell ⟨g,i,none⟩ c).heap[g]?=some (.cells (cs.setIfInBounds i c) t):=by
 obtain ⟨hlt,hk⟩:=Array.getElem?_eq_some_iff.1 h
 show (W.heap.modify g _)[g]?=_
 rw [Array.getElem?_eq_getElem (by rw [Array.size_modify];exact hlt),Array.getElem_modify_self,hk]
 rfl
end Go.Proofs.YthnodpdiocppgaaGreatDoor
namespace Go.Proofs.YthnodpdiocppgaaGreatDoor
open Go Go.RowKit Go.Shelf Fi
theorem RV.own.setL {x:RV} {W:World} {g t k:Nat} {old:Array Value} {cs:List Value} (h:x.own W) (hz:W.heap[g]?=some (.cells old t)) (hne:96≠t):x.own (Go.Proofs.YthnodpdiocppgaaGreatDoor.setL W g k cs):=by
 obtain ⟨⟨b,h1⟩,c,h2⟩:=h
 exact ⟨⟨b,aEu h1 hz hne⟩,c,aEu h2 hz hne⟩
end Go.Proofs.YthnodpdiocppgaaGreatDoor
namespace Go.Proofs.YthnodpdiocppgaaGreatDoor
open Go Go.RowKit Go.Shelf Fi
theorem find_none {P:FB→Bool} {l:List FB} (h:l.find? P=none):idxP P l=-1 :=
 aNn fun j hj=>by
  have:=List.find?_eq_none.1 h _ (List.getElem_mem hj)
  simpa using this
end Go.Proofs.YthnodpdiocppgaaGreatDoor
