/-
  The document's turns, May.
-/
import Derived.Test.YthnodpdiocppgaaGreatDoorJ11
import Derived.Test.YthnodpdiocppgaaGreatDoorJ5
import Derived.Test.YthnodpdiocppgaaGreatDoorJ18
set_option maxHeartbeats 6400000
set_option maxRecDepth 20000
namespace Go.Proofs.YthnodpdiocppgaaGreatDoor
open Go Go.RowKit Go.Shelf Fi
theorem aI0 (s:ByteArray) (w:World) (hs:s.size≤100) :
  Calls Tryz.prog 130 #[.string s] w fun e w'=>e=.returned (.bool (aAi s))∧Below w.heap.size w w' :=
 (aIp s w hs).mono fun _ _ ⟨h,hw⟩=>⟨h.is aFw,by rw [hw];exact Below.refl _ _⟩
theorem aM3 (s:ByteArray) (w:World) (hs:s.size≤100) :
  Calls Tryz.prog 131 #[.string s] w fun e w'=>e=.returned (.bool (aAr s))∧Below w.heap.size w w' :=
 (aIq s w hs).mono fun _ _ ⟨h,hw⟩=>⟨h.is aFx,by rw [hw];exact Below.refl _ _⟩
theorem aXr (s:ByteArray) (w:World) (hs:s.size≤maxLen) :
  Calls Tryz.prog 164 #[.string s] w fun e w'=>e=.returned (.bool (isP s.data.toList))∧Below w.heap.size w w' :=
 (aFl s w hs).mono fun _ _ ⟨h,hw⟩=>⟨h,by rw [hw];exact Below.refl _ _⟩
theorem aT9 (s:ByteArray) (w:World) (hs:s.size≤maxLen) :
  Calls Tryz.prog 165 #[.string s] w fun e w'=>e=.returned (.bool (abv s.data.toList))∧Below w.heap.size w w' :=
 (aIo s w hs).mono fun _ _ ⟨h,hw⟩=>⟨h,by rw [hw];exact Below.refl _ _⟩
theorem aKb (f:FB) (w:World) (ok:OkFi f) :
  Calls Tryz.prog 162 #[fV f] w fun e w'=>e=.returned (.bool (aDm f))∧Below w.heap.size w w':=by
 obtain ⟨k,n,v,h,p,t,b,c⟩:=f
 have C1:=fun W=>hide (aD3 h W (by have:=ok.host;dsimp only at this;omega))
 have C2:=fun W=>hide (aXr t W (aBc (by have:=ok.path;dsimp only at this;omega)))
 have C3:=fun W=>hide (aT9 t W (aBc (by have:=ok.path;dsimp only at this;omega)))
 have HE:=@aCy h
 have HE2:=@aCy t
 have HR:Hid (aDm ⟨k,n,v,h,p,t,b,c⟩=((h.toList.isEmpty||D.isName h.data.toList)&&(if t.toList.isEmpty then !b else isP t.data.toList&&(b||abv t.data.toList)))):=by rw [HE,HE2];rfl
 clear HE HE2 ok
 generalize aDm ⟨k,n,v,h,p,t,b,c⟩=r at *
 generalize D.isName h.data.toList=x1 at *
 generalize isP t.data.toList=x2 at *
 generalize abv t.data.toList=x3 at *
 have m5:∀ q:GB (w.alloc (.cells #[.int .i64 k,.string n,.string v,.string h,.int .i64 p,.string t,.bool b,.int .i64 c] 108)),q.W.cell? ⟨w.heap.size,5,none⟩=some (.string t):=fun q=>(aAm (boxF (f:=⟨k,n,v,h,p,t,b,c⟩) q.h)).2.2.2.2.2.1
 have m6:∀ q:GB (w.alloc (.cells #[.int .i64 k,.string n,.string v,.string h,.int .i64 p,.string t,.bool b,.int .i64 c] 108)),q.W.cell? ⟨w.heap.size,6,none⟩=some (.bool b):=fun q=>(aAm (boxF (f:=⟨k,n,v,h,p,t,b,c⟩) q.h)).2.2.2.2.2.2.1
 cases hh:h.toList.isEmpty
 ·have hh':(!h.toList.isEmpty)=true:=by rw [hh];rfl
  rw [hh] at HR
  cases x1
  ·go_enter Tryz.func162,Tryz.ntmps162
   go_wp2_with fail
   refine (aA5 ((C1 _).out)).mono ?_
   rintro e x ⟨rfl,q,rfl⟩
   go_wp2_with fail
   go_ret
   exact ⟨aA1 HR.out.symm,aA8 q.h⟩
  cases ht:t.toList.isEmpty
  ·rw [ht] at HR
   cases x2
   ·go_enter Tryz.func162,Tryz.ntmps162
    go_wp2_with fail
    refine (aA5 ((C1 _).out)).mono ?_
    rintro e x ⟨rfl,q,rfl⟩
    go_wp2_with fail
    refine (aA3 ((C2 _).out)).mono ?_
    rintro e x ⟨rfl,q,rfl⟩
    go_wp2_with fail
    go_ret
    exact ⟨aA1 HR.out.symm,aA8 q.h⟩
   cases b
   ·go_enter Tryz.func162,Tryz.ntmps162
    go_wp2_with fail
    refine (aA5 ((C1 _).out)).mono ?_
    rintro e x ⟨rfl,q,rfl⟩
    go_wp2_with fail
    refine (aA3 ((C2 _).out)).mono ?_
    rintro e x ⟨rfl,q,rfl⟩
    go_wp2_with fail
    refine (aA3 ((C3 _).out)).mono ?_
    rintro e x ⟨rfl,q,rfl⟩
    go_wp2_with fail
    go_ret
    exact ⟨aA1 HR.out.symm,aA8 q.h⟩
   ·go_enter Tryz.func162,Tryz.ntmps162
    go_wp2_with fail
    refine (aA5 ((C1 _).out)).mono ?_
    rintro e x ⟨rfl,q,rfl⟩
    go_wp2_with fail
    refine (aA3 ((C2 _).out)).mono ?_
    rintro e x ⟨rfl,q,rfl⟩
    go_wp2_with fail
    go_ret
    exact ⟨aA1 HR.out.symm,aA8 q.h⟩
  ·rw [ht] at HR
   go_enter Tryz.func162,Tryz.ntmps162
   go_wp2_with fail
   refine (aA5 ((C1 _).out)).mono ?_
   rintro e x ⟨rfl,q,rfl⟩
   go_wp2_with fail
   go_ret
   exact ⟨aA1 HR.out.symm,aA8 q.h⟩
 ·rw [hh] at HR
  cases ht:t.toList.isEmpty
  ·rw [ht] at HR
   cases x2
   ·go_enter Tryz.func162,Tryz.ntmps162
    go_wp2_with fail
    refine (aA5 ((C2 _).out)).mono ?_
    rintro e x ⟨rfl,q,rfl⟩
    go_wp2_with fail
    go_ret
    exact ⟨aA1 HR.out.symm,aA8 q.h⟩
   cases b
   ·go_enter Tryz.func162,Tryz.ntmps162
    go_wp2_with fail
    refine (aA5 ((C2 _).out)).mono ?_
    rintro e x ⟨rfl,q,rfl⟩
    go_wp2_with fail
    refine (aA3 ((C3 _).out)).mono ?_
    rintro e x ⟨rfl,q,rfl⟩
    go_wp2_with fail
    go_ret
    exact ⟨aA1 HR.out.symm,aA8 q.h⟩
   ·go_enter Tryz.func162,Tryz.ntmps162
    go_wp2_with fail
    refine (aA5 ((C2 _).out)).mono ?_
    rintro e x ⟨rfl,q,rfl⟩
    go_wp2_with fail
    go_ret
    exact ⟨aA1 HR.out.symm,aA8 q.h⟩
  ·rw [ht] at HR
   go_enter Tryz.func162,Tryz.ntmps162
   go_wp2_with fail
   go_ret
   exact ⟨aA1 HR.out.symm,(Below.refl _ _).alloc (Nat.le_refl _) _⟩
end Go.Proofs.YthnodpdiocppgaaGreatDoor
namespace Go.Proofs.YthnodpdiocppgaaGreatDoor
open Go Go.RowKit Go.Shelf Fi
theorem aB0 (h:ByteArray) (p:Int) (t:ByteArray) (b:Bool) (c:Int):h.toList.isEmpty=false∨(h.toList.isEmpty=true∧(p == 0)=false)∨(h.toList.isEmpty=true∧p=0∧t.toList.isEmpty=false) ∨
  (h.toList.isEmpty=true∧p=0∧t.toList.isEmpty=true∧b=true)∨(h.toList.isEmpty=true∧p=0∧t.toList.isEmpty=true∧b=false∧(c == 0)=false)∨(h.toList.isEmpty=true∧p=0∧t.toList.isEmpty=true∧b=false∧c=0):=by
 by_cases hp:p=0<;>by_cases hc:c=0<;>cases h.toList.isEmpty<;>cases t.toList.isEmpty<;>cases b<;>simp [hp,hc]
theorem aXs (n v h:ByteArray) (p:Int) (t:ByteArray) (b:Bool) (c:Int) (w:World) (ok:OkFi ⟨1,n,v,h,p,t,b,c⟩) :
  Calls Tryz.prog 125 #[fV ⟨1,n,v,h,p,t,b,c⟩] w fun e w'=>e=.returned (.bool (mayF ⟨1,n,v,h,p,t,b,c⟩))∧Below w.heap.size w w':=by
 have HR:Hid (mayF ⟨1,n,v,h,p,t,b,c⟩=((h.toList.isEmpty&&(p == 0&&(t.toList.isEmpty&&(!b&&c == 0))))&&(aAi n&&aAr v))):=by
  unfold Hid mayF aCq
  simp only [←aCy]
  rfl
 have C1:=fun W=>hide (aI0 n W ok.name)
 have C2:=fun W=>hide (aM3 v W ok.val)
 generalize aAi n=x1 at *
 generalize aAr v=x2 at *
 clear ok
 generalize mayF ⟨1,n,v,h,p,t,b,c⟩=r at *
 have m2:∀ q:GB (w.alloc (.cells #[.int .i64 1,.string n,.string v,.string h,.int .i64 p,.string t,.bool b,.int .i64 c] 108)),q.W.cell? ⟨w.heap.size,2,none⟩=some (.string v):=fun q=>(aAm (boxF (f:=⟨1,n,v,h,p,t,b,c⟩) q.h)).2.2.1
 rcases aB0 h p t b c with h1 | ⟨h1,h2⟩ | ⟨h1,rfl,h3⟩ | ⟨h1,rfl,h3,rfl⟩ | ⟨h1,rfl,h3,rfl,h5⟩ | ⟨h1,rfl,h3,rfl,rfl⟩
 all_goals (try rw [h1] at HR)
 all_goals (try rw [h2] at HR)
 all_goals (try rw [h3] at HR)
 all_goals (try rw [h5] at HR)
 case inr.inr.inr.inr.inr =>
  cases x1
  ·go_enter Tryz.func125,Tryz.ntmps125
   go_wp2_with fail
   refine (aA5 ((C1 _).out)).mono ?_
   rintro e x ⟨rfl,q,rfl⟩
   go_wp2_with fail
   go_ret
   exact ⟨aA1 HR.out.symm,aA8 q.h⟩
  ·go_enter Tryz.func125,Tryz.ntmps125
   go_wp2_with fail
   refine (aA5 ((C1 _).out)).mono ?_
   rintro e x ⟨rfl,q,rfl⟩
   go_wp2_with fail
   refine (aA3 ((C2 _).out)).mono ?_
   rintro e x ⟨rfl,q,rfl⟩
   go_wp2_with fail
   go_ret
   exact ⟨aA1 HR.out.symm,aA8 q.h⟩
 all_goals
  go_enter Tryz.func125,Tryz.ntmps125
  go_wp2_with fail
  go_ret
  exact ⟨aA1 HR.out.symm,(Below.refl _ _).alloc (Nat.le_refl _) _⟩
theorem aXt (n v h:ByteArray) (p:Int) (t:ByteArray) (b:Bool) (c:Int) (w:World) (ok:OkFi ⟨2,n,v,h,p,t,b,c⟩) :
  Calls Tryz.prog 125 #[fV ⟨2,n,v,h,p,t,b,c⟩] w fun e w'=>e=.returned (.bool (mayF ⟨2,n,v,h,p,t,b,c⟩))∧Below w.heap.size w w':=by
 have HR:Hid (mayF ⟨2,n,v,h,p,t,b,c⟩=((h.toList.isEmpty&&(p == 0&&(t.toList.isEmpty&&(!b&&c == 0))))&&(aAi n&&aAr v))):=by
  unfold Hid mayF aCq
  simp only [←aCy]
  rfl
 have C1:=fun W=>hide (aI0 n W ok.name)
 have C2:=fun W=>hide (aM3 v W ok.val)
 generalize aAi n=x1 at *
 generalize aAr v=x2 at *
 clear ok
 generalize mayF ⟨2,n,v,h,p,t,b,c⟩=r at *
 have m2:∀ q:GB (w.alloc (.cells #[.int .i64 2,.string n,.string v,.string h,.int .i64 p,.string t,.bool b,.int .i64 c] 108)),q.W.cell? ⟨w.heap.size,2,none⟩=some (.string v):=fun q=>(aAm (boxF (f:=⟨2,n,v,h,p,t,b,c⟩) q.h)).2.2.1
 rcases aB0 h p t b c with h1 | ⟨h1,h2⟩ | ⟨h1,rfl,h3⟩ | ⟨h1,rfl,h3,rfl⟩ | ⟨h1,rfl,h3,rfl,h5⟩ | ⟨h1,rfl,h3,rfl,rfl⟩
 all_goals (try rw [h1] at HR)
 all_goals (try rw [h2] at HR)
 all_goals (try rw [h3] at HR)
 all_goals (try rw [h5] at HR)
 case inr.inr.inr.inr.inr =>
  cases x1
  ·go_enter Tryz.func125,Tryz.ntmps125
   go_wp2_with fail
   refine (aA5 ((C1 _).out)).mono ?_
   rintro e x ⟨rfl,q,rfl⟩
   go_wp2_with fail
   go_ret
   exact ⟨aA1 HR.out.symm,aA8 q.h⟩
  ·go_enter Tryz.func125,Tryz.ntmps125
   go_wp2_with fail
   refine (aA5 ((C1 _).out)).mono ?_
   rintro e x ⟨rfl,q,rfl⟩
   go_wp2_with fail
   refine (aA3 ((C2 _).out)).mono ?_
   rintro e x ⟨rfl,q,rfl⟩
   go_wp2_with fail
   go_ret
   exact ⟨aA1 HR.out.symm,aA8 q.h⟩
 all_goals
  go_enter Tryz.func125,Tryz.ntmps125
  go_wp2_with fail
  go_ret
  exact ⟨aA1 HR.out.symm,(Below.refl _ _).alloc (Nat.le_refl _) _⟩
theorem aXu (n v h:ByteArray) (p:Int) (t:ByteArray) (b:Bool) (c:Int) (w:World) (ok:OkFi ⟨3,n,v,h,p,t,b,c⟩) :
  Calls Tryz.prog 125 #[fV ⟨3,n,v,h,p,t,b,c⟩] w fun e w'=>e=.returned (.bool (mayF ⟨3,n,v,h,p,t,b,c⟩))∧Below w.heap.size w w':=by
 have HR:Hid (mayF ⟨3,n,v,h,p,t,b,c⟩=((h.toList.isEmpty&&(p == 0&&(t.toList.isEmpty&&(!b&&c == 0))))&&(aAi n&&v.toList.isEmpty))):=by
  unfold Hid mayF aCq
  simp only [←aCy]
  rfl
 have C1:=fun W=>hide (aI0 n W ok.name)
 generalize aAi n=x1 at *
 clear ok
 generalize mayF ⟨3,n,v,h,p,t,b,c⟩=r at *
 have m2:∀ q:GB (w.alloc (.cells #[.int .i64 3,.string n,.string v,.string h,.int .i64 p,.string t,.bool b,.int .i64 c] 108)),q.W.cell? ⟨w.heap.size,2,none⟩=some (.string v):=fun q=>(aAm (boxF (f:=⟨3,n,v,h,p,t,b,c⟩) q.h)).2.2.1
 rcases aB0 h p t b c with h1 | ⟨h1,h2⟩ | ⟨h1,rfl,h3⟩ | ⟨h1,rfl,h3,rfl⟩ | ⟨h1,rfl,h3,rfl,h5⟩ | ⟨h1,rfl,h3,rfl,rfl⟩
 all_goals (try rw [h1] at HR)
 all_goals (try rw [h2] at HR)
 all_goals (try rw [h3] at HR)
 all_goals (try rw [h5] at HR)
 case inr.inr.inr.inr.inr =>
  cases x1
  ·go_enter Tryz.func125,Tryz.ntmps125
   go_wp2_with fail
   refine (aA5 ((C1 _).out)).mono ?_
   rintro e x ⟨rfl,q,rfl⟩
   go_wp2_with fail
   go_ret
   exact ⟨aA1 HR.out.symm,aA8 q.h⟩
  ·go_enter Tryz.func125,Tryz.ntmps125
   go_wp2_with fail
   refine (aA5 ((C1 _).out)).mono ?_
   rintro e x ⟨rfl,q,rfl⟩
   go_wp2_with fail
   go_ret
   exact ⟨aA1 HR.out.symm,aA8 q.h⟩
 all_goals
  go_enter Tryz.func125,Tryz.ntmps125
  go_wp2_with fail
  go_ret
  exact ⟨aA1 HR.out.symm,(Below.refl _ _).alloc (Nat.le_refl _) _⟩
theorem aXv (k:Int) (n v h:ByteArray) (p:Int) (t:ByteArray) (b:Bool) (c:Int) (w:World) (h1':(k == 1)=false) (h2':(k == 2)=false) (h3':(k == 3)=false) (h4':(k == 4)=false) (h5':(k == 5)=false) :
  Calls Tryz.prog 125 #[fV ⟨k,n,v,h,p,t,b,c⟩] w fun e w'=>e=.returned (.bool (mayF ⟨k,n,v,h,p,t,b,c⟩))∧Below w.heap.size w w':=by
 have HR:Hid (mayF ⟨k,n,v,h,p,t,b,c⟩=false):=by
  simp only [beq_eq_false_iff_ne] at h1' h2' h3' h4' h5'
  unfold Hid mayF
  rw [if_neg (by dsimp only;omega),if_neg h3',if_neg h4',if_neg h5']
 generalize mayF ⟨k,n,v,h,p,t,b,c⟩=r at *
 rcases aB0 h p t b c with h1 | ⟨h1,h2⟩ | ⟨h1,rfl,h3⟩ | ⟨h1,rfl,h3,rfl⟩ | ⟨h1,rfl,h3,rfl,h5⟩ | ⟨h1,rfl,h3,rfl,rfl⟩
 all_goals
  go_enter Tryz.func125,Tryz.ntmps125
  go_wp2_with fail
  go_ret
  exact ⟨aA1 HR.out.symm,(Below.refl _ _).alloc (Nat.le_refl _) _⟩
end Go.Proofs.YthnodpdiocppgaaGreatDoor
namespace Go.Proofs.YthnodpdiocppgaaGreatDoor
open Go Go.RowKit Go.Shelf Fi
theorem aXw (n v h:ByteArray) (p:Int) (t:ByteArray) (b:Bool) (c:Int) (w:World) (ok:OkFi ⟨4,n,v,h,p,t,b,c⟩) :
  Calls Tryz.prog 125 #[fV ⟨4,n,v,h,p,t,b,c⟩] w fun e w'=>e=.returned (.bool (mayF ⟨4,n,v,h,p,t,b,c⟩))∧Below w.heap.size w w':=by
 have HR:Hid (mayF ⟨4,n,v,h,p,t,b,c⟩=(n.toList.isEmpty&&(v.toList.isEmpty&&(aDm ⟨4,n,v,h,p,t,b,c⟩&&(decide (0≤p∧p≤65535)&&(c == 301||c == 302)))))):=by
  unfold Hid mayF aCq
  simp only [←aCy]
  rfl
 have C3:=fun W=>hide (aKb ⟨4,n,v,h,p,t,b,c⟩ W ok)
 generalize aDm ⟨4,n,v,h,p,t,b,c⟩=x3 at *
 clear ok
 generalize mayF ⟨4,n,v,h,p,t,b,c⟩=r at *
 have m4:∀ q:GB (w.alloc (.cells #[.int .i64 4,.string n,.string v,.string h,.int .i64 p,.string t,.bool b,.int .i64 c] 108)),q.W.cell? ⟨w.heap.size,4,none⟩=some (.int .i64 p):=fun q=>(aAm (boxF (f:=⟨4,n,v,h,p,t,b,c⟩) q.h)).2.2.2.2.1
 have m7:∀ q:GB (w.alloc (.cells #[.int .i64 4,.string n,.string v,.string h,.int .i64 p,.string t,.bool b,.int .i64 c] 108)),q.W.cell? ⟨w.heap.size,7,none⟩=some (.int .i64 c):=fun q=>(aAm (boxF (f:=⟨4,n,v,h,p,t,b,c⟩) q.h)).2.2.2.2.2.2.2
 cases hn:n.toList.isEmpty
 ·rw [hn] at HR
  rcases aB0 h p t b c with h1 | ⟨h1,h2⟩ | ⟨h1,rfl,h3⟩ | ⟨h1,rfl,h3,rfl⟩ | ⟨h1,rfl,h3,rfl,h5⟩ | ⟨h1,rfl,h3,rfl,rfl⟩
  all_goals (try exact absurd hp (by decide))
  all_goals (try exact absurd hc (by decide))
  all_goals (try exact absurd h301 (by decide))
  all_goals (try exact absurd (by decide) hp0)
  all_goals (try exact absurd (by decide) hp1)
  all_goals
   go_enter Tryz.func125,Tryz.ntmps125
   go_wp2_with fail
   go_ret
   exact ⟨aA1 HR.out.symm,(Below.refl _ _).alloc (Nat.le_refl _) _⟩
 cases hv:v.toList.isEmpty
 ·rw [hn,hv] at HR
  rcases aB0 h p t b c with h1 | ⟨h1,h2⟩ | ⟨h1,rfl,h3⟩ | ⟨h1,rfl,h3,rfl⟩ | ⟨h1,rfl,h3,rfl,h5⟩ | ⟨h1,rfl,h3,rfl,rfl⟩
  all_goals (try exact absurd hp (by decide))
  all_goals (try exact absurd hc (by decide))
  all_goals (try exact absurd h301 (by decide))
  all_goals (try exact absurd (by decide) hp0)
  all_goals (try exact absurd (by decide) hp1)
  all_goals
   go_enter Tryz.func125,Tryz.ntmps125
   go_wp2_with fail
   go_ret
   exact ⟨aA1 HR.out.symm,(Below.refl _ _).alloc (Nat.le_refl _) _⟩
 rw [hn,hv] at HR
 cases x3
 ·rcases aB0 h p t b c with h1 | ⟨h1,h2⟩ | ⟨h1,rfl,h3⟩ | ⟨h1,rfl,h3,rfl⟩ | ⟨h1,rfl,h3,rfl,h5⟩ | ⟨h1,rfl,h3,rfl,rfl⟩
  all_goals (try exact absurd hp (by decide))
  all_goals (try exact absurd hc (by decide))
  all_goals (try exact absurd h301 (by decide))
  all_goals (try exact absurd (by decide) hp0)
  all_goals (try exact absurd (by decide) hp1)
  all_goals
   go_enter Tryz.func125,Tryz.ntmps125
   go_wp2_with fail
   refine (aA5 ((C3 _).out)).mono ?_
   rintro e x ⟨rfl,q,rfl⟩
   go_wp2_with fail
   go_ret
   exact ⟨aA1 HR.out.symm,aA8 q.h⟩
 by_cases hp0:0≤p
 ·by_cases hp1:p≤65535
  ·rw [decide_eq_true (show 0≤p∧p≤65535 from ⟨hp0,hp1⟩)] at HR
   cases h301:(c == 301)
   ·rw [h301] at HR
    rcases aB0 h p t b c with h1 | ⟨h1,h2⟩ | ⟨h1,rfl,h3⟩ | ⟨h1,rfl,h3,rfl⟩ | ⟨h1,rfl,h3,rfl,h5⟩ | ⟨h1,rfl,h3,rfl,rfl⟩
    all_goals (try exact absurd hp (by decide))
    all_goals (try exact absurd hc (by decide))
    all_goals (try exact absurd h301 (by decide))
    all_goals (try exact absurd (by decide) hp0)
    all_goals (try exact absurd (by decide) hp1)
    all_goals
     go_enter Tryz.func125,Tryz.ntmps125
     go_wp2_with fail
     refine (aA5 ((C3 _).out)).mono ?_
     rintro e x ⟨rfl,q,rfl⟩
     go_wp2_with fail
     go_ret
     exact ⟨aA1 HR.out.symm,aA8 q.h⟩
   ·rw [h301] at HR
    rcases aB0 h p t b c with h1 | ⟨h1,h2⟩ | ⟨h1,rfl,h3⟩ | ⟨h1,rfl,h3,rfl⟩ | ⟨h1,rfl,h3,rfl,h5⟩ | ⟨h1,rfl,h3,rfl,rfl⟩
    all_goals (try exact absurd hp (by decide))
    all_goals (try exact absurd hc (by decide))
    all_goals (try exact absurd h301 (by decide))
    all_goals (try exact absurd (by decide) hp0)
    all_goals (try exact absurd (by decide) hp1)
    all_goals
     go_enter Tryz.func125,Tryz.ntmps125
     go_wp2_with fail
     refine (aA5 ((C3 _).out)).mono ?_
     rintro e x ⟨rfl,q,rfl⟩
     go_wp2_with fail
     go_ret
     exact ⟨aA1 HR.out.symm,aA8 q.h⟩
  ·rw [decide_eq_false (show ¬ (0≤p∧p≤65535) by omega)] at HR
   rcases aB0 h p t b c with h1 | ⟨h1,h2⟩ | ⟨h1,rfl,h3⟩ | ⟨h1,rfl,h3,rfl⟩ | ⟨h1,rfl,h3,rfl,h5⟩ | ⟨h1,rfl,h3,rfl,rfl⟩
   all_goals (try exact absurd hp (by decide))
   all_goals (try exact absurd hc (by decide))
   all_goals (try exact absurd h301 (by decide))
   all_goals (try exact absurd (by decide) hp0)
   all_goals (try exact absurd (by decide) hp1)
   all_goals
    go_enter Tryz.func125,Tryz.ntmps125
    go_wp2_with fail
    refine (aA5 ((C3 _).out)).mono ?_
    rintro e x ⟨rfl,q,rfl⟩
    go_wp2_with fail
    go_ret
    exact ⟨aA1 HR.out.symm,aA8 q.h⟩
 ·rw [decide_eq_false (show ¬ (0≤p∧p≤65535) by omega)] at HR
  have hp1:¬ (0:Int)≤p:=hp0
  rcases aB0 h p t b c with h1 | ⟨h1,h2⟩ | ⟨h1,rfl,h3⟩ | ⟨h1,rfl,h3,rfl⟩ | ⟨h1,rfl,h3,rfl,h5⟩ | ⟨h1,rfl,h3,rfl,rfl⟩
  all_goals (try exact absurd hp (by decide))
  all_goals (try exact absurd hc (by decide))
  all_goals (try exact absurd h301 (by decide))
  all_goals (try exact absurd (by decide) hp0)
  all_goals (try exact absurd (by decide) hp1)
  all_goals
   go_enter Tryz.func125,Tryz.ntmps125
   go_wp2_with fail
   refine (aA5 ((C3 _).out)).mono ?_
   rintro e x ⟨rfl,q,rfl⟩
   go_wp2_with fail
   go_ret
   exact ⟨aA1 HR.out.symm,aA8 q.h⟩
end Go.Proofs.YthnodpdiocppgaaGreatDoor
namespace Go.Proofs.YthnodpdiocppgaaGreatDoor
open Go Go.RowKit Go.Shelf Fi
theorem aXx (n v h:ByteArray) (p:Int) (t:ByteArray) (b:Bool) (c:Int) (w:World) (ok:OkFi ⟨5,n,v,h,p,t,b,c⟩) :
  Calls Tryz.prog 125 #[fV ⟨5,n,v,h,p,t,b,c⟩] w fun e w'=>e=.returned (.bool (mayF ⟨5,n,v,h,p,t,b,c⟩))∧Below w.heap.size w w':=by
 have HR:Hid (mayF ⟨5,n,v,h,p,t,b,c⟩=(n.toList.isEmpty&&(v.toList.isEmpty&&(p == 0&&(c == 0&&(aDm ⟨5,n,v,h,p,t,b,c⟩&&!(h.toList.isEmpty&&t.toList.isEmpty))))))):=by
  unfold Hid mayF aCq
  simp only [←aCy]
  rfl
 have C3:=fun W=>hide (aKb ⟨5,n,v,h,p,t,b,c⟩ W ok)
 generalize aDm ⟨5,n,v,h,p,t,b,c⟩=x3 at *
 have hsz:h.size≤100:=ok.host
 have tsz:t.size≤100:=ok.path
 have HA:Hid ((!(h.toList.isEmpty&&t.toList.isEmpty))=(!((h++t).toList.isEmpty))):=by
  unfold Hid
  rw [Lib.toList_data,Lib.toList_data,Lib.toList_data,aHq]
  cases h.data.toList<;>cases t.data.toList<;>rfl
 clear ok
 generalize mayF ⟨5,n,v,h,p,t,b,c⟩=r at *
 have m3:∀ q:GB (w.alloc (.cells #[.int .i64 5,.string n,.string v,.string h,.int .i64 p,.string t,.bool b,.int .i64 c] 108)),q.W.cell? ⟨w.heap.size,3,none⟩=some (.string h):=fun q=>(aAm (boxF (f:=⟨5,n,v,h,p,t,b,c⟩) q.h)).2.2.2.1
 have m5:∀ q:GB (w.alloc (.cells #[.int .i64 5,.string n,.string v,.string h,.int .i64 p,.string t,.bool b,.int .i64 c] 108)),q.W.cell? ⟨w.heap.size,5,none⟩=some (.string t):=fun q=>(aAm (boxF (f:=⟨5,n,v,h,p,t,b,c⟩) q.h)).2.2.2.2.2.1
 cases hn:n.toList.isEmpty
 ·rw [hn] at HR
  rcases aB0 h p t b c with h1 | ⟨h1,h2⟩ | ⟨h1,rfl,h3⟩ | ⟨h1,rfl,h3,rfl⟩ | ⟨h1,rfl,h3,rfl,h5⟩ | ⟨h1,rfl,h3,rfl,rfl⟩
  all_goals (try exact absurd rfl hpe)
  all_goals (try exact absurd rfl hce)
  all_goals (try exact absurd h2 (by decide))
  all_goals (try exact absurd h5 (by decide))
  all_goals
   go_enter Tryz.func125,Tryz.ntmps125
   go_wp2_with fail
   go_ret
   exact ⟨aA1 HR.out.symm,(Below.refl _ _).alloc (Nat.le_refl _) _⟩
 cases hv:v.toList.isEmpty
 ·rw [hn,hv] at HR
  rcases aB0 h p t b c with h1 | ⟨h1,h2⟩ | ⟨h1,rfl,h3⟩ | ⟨h1,rfl,h3,rfl⟩ | ⟨h1,rfl,h3,rfl,h5⟩ | ⟨h1,rfl,h3,rfl,rfl⟩
  all_goals (try exact absurd rfl hpe)
  all_goals (try exact absurd rfl hce)
  all_goals (try exact absurd h2 (by decide))
  all_goals (try exact absurd h5 (by decide))
  all_goals
   go_enter Tryz.func125,Tryz.ntmps125
   go_wp2_with fail
   go_ret
   exact ⟨aA1 HR.out.symm,(Below.refl _ _).alloc (Nat.le_refl _) _⟩
 by_cases hpe:p=0
 case neg =>
  have hp:(p == 0)=false:=by simpa using hpe
  rw [hn,hv,hp] at HR
  rcases aB0 h p t b c with h1 | ⟨h1,h2⟩ | ⟨h1,rfl,h3⟩ | ⟨h1,rfl,h3,rfl⟩ | ⟨h1,rfl,h3,rfl,h5⟩ | ⟨h1,rfl,h3,rfl,rfl⟩
  all_goals (try exact absurd rfl hpe)
  all_goals (try exact absurd rfl hce)
  all_goals (try exact absurd h2 (by decide))
  all_goals (try exact absurd h5 (by decide))
  all_goals
   go_enter Tryz.func125,Tryz.ntmps125
   go_wp2_with fail
   go_ret
   exact ⟨aA1 HR.out.symm,(Below.refl _ _).alloc (Nat.le_refl _) _⟩
 subst hpe
 by_cases hce:c=0
 case neg =>
  have hc:(c == 0)=false:=by simpa using hce
  rw [hn,hv,hc] at HR
  rcases aB0 h 0 t b c with h1 | ⟨h1,h2⟩ | ⟨h1,_,h3⟩ | ⟨h1,_,h3,rfl⟩ | ⟨h1,_,h3,rfl,h5⟩ | ⟨h1,_,h3,rfl,rfl⟩
  all_goals (try exact absurd rfl hpe)
  all_goals (try exact absurd rfl hce)
  all_goals (try exact absurd h2 (by decide))
  all_goals (try exact absurd h5 (by decide))
  all_goals
   go_enter Tryz.func125,Tryz.ntmps125
   go_wp2_with fail
   go_ret
   exact ⟨aA1 HR.out.symm,(Below.refl _ _).alloc (Nat.le_refl _) _⟩
 subst hce
 rw [hn,hv] at HR
 cases x3
 ·rcases aB0 h 0 t b 0 with h1 | ⟨h1,h2⟩ | ⟨h1,_,h3⟩ | ⟨h1,_,h3,rfl⟩ | ⟨h1,_,h3,rfl,h5⟩ | ⟨h1,_,h3,rfl,_⟩
  all_goals (try exact absurd rfl hpe)
  all_goals (try exact absurd rfl hce)
  all_goals (try exact absurd h2 (by decide))
  all_goals (try exact absurd h5 (by decide))
  all_goals
   go_enter Tryz.func125,Tryz.ntmps125
   go_wp2_with fail
   refine (aA5 ((C3 _).out)).mono ?_
   rintro e x ⟨rfl,q,rfl⟩
   go_wp2_with fail
   go_ret
   exact ⟨aA1 HR.out.symm,aA8 q.h⟩
 rw [HA.out] at HR
 rcases aB0 h 0 t b 0 with h1 | ⟨h1,h2⟩ | ⟨h1,_,h3⟩ | ⟨h1,_,h3,rfl⟩ | ⟨h1,_,h3,rfl,h5⟩ | ⟨h1,_,h3,rfl,_⟩
 all_goals (try exact absurd rfl hpe)
 all_goals (try exact absurd rfl hce)
 all_goals (try exact absurd h2 (by decide))
 all_goals (try exact absurd h5 (by decide))
 all_goals
  go_enter Tryz.func125,Tryz.ntmps125
  go_wp2_with fail
  refine (aA5 ((C3 _).out)).mono ?_
  rintro e x ⟨rfl,q,rfl⟩
  go_wp2_with fail
  go_ret
  exact ⟨aA1 HR.out.symm,aA8 q.h⟩
theorem aTa (f:FB) (w:World) (ok:OkFi f) :
  Calls Tryz.prog 125 #[fV f] w fun e w'=>e=.returned (.bool (mayF f))∧Below w.heap.size w w':=by
 obtain ⟨k,n,v,h,p,t,b,c⟩:=f
 cases h1:(k == 1)
 ·cases h2:(k == 2)
  ·cases h3:(k == 3)
   ·cases h4:(k == 4)
    ·cases h5:(k == 5)
     ·exact aXv k n v h p t b c w h1 h2 h3 h4 h5
     ·obtain rfl:k=5:=eq_of_beq h5
      exact aXx n v h p t b c w ok
    ·obtain rfl:k=4:=eq_of_beq h4
     exact aXw n v h p t b c w ok
   ·obtain rfl:k=3:=eq_of_beq h3
    exact aXu n v h p t b c w ok
  ·obtain rfl:k=2:=eq_of_beq h2
   exact aXt n v h p t b c w ok
 ·obtain rfl:k=1:=eq_of_beq h1
  exact aXs n v h p t b c w ok
end Go.Proofs.YthnodpdiocppgaaGreatDoor
namespace Go.Proofs.YthnodpdiocppgaaGreatDoor
open Go Go.RowKit Go.Shelf Fi
attribute [local go_sem] aAu
def FarF (l:List FB) (k:Nat):Prop:=∀ j (hj:j<l.length),j<k→mayF l[j]=true∧∀ i (hi:i<j),aBu (l[i]'(by omega)) l[j]=false
theorem aTb {l:List FB} (h:FarF l l.length):allF l=(decide (aAz l≤1)&&decide (l.length≤8)):=by
 have hp:l.Pairwise fun f g=>aBu f g=false:=by
  rw [List.pairwise_iff_getElem]
  intro i j hi hj hij
  exact (h j hj hj).2 i hij
 have hm:l.all mayF=true:=by
  rw [List.all_eq_true]
  intro f hf
  obtain ⟨j,hj,rfl⟩:=List.getElem_of_mem hf
  exact (h j hj hj).1
 unfold allF
 rw [hm,decide_eq_true hp]
 cases decide (l.length≤8)<;>cases decide (aAz l≤1)<;>rfl
theorem aRq {l:List FB} {i j:Nat} (hj:j<l.length) (hi:i<j) (h:aBu (l[i]'(by omega)) l[j]=true):allF l=false:=by
 refine aJh hj (.inr (List.any_eq_true.2 ⟨l[i]'(by omega),List.mem_take_iff_getElem.2 ⟨i,by omega,rfl⟩,?_⟩))
 unfold aBv
 rw [aFz,h,Bool.or_true]
theorem aNb {l:List FB} {k:Nat} (hk:k<l.length):aAz (l.take (k+1))=aAz (l.take k)+if 3<l[k].kind then 1 else 0:=by
 rw [aIs hk,aHi]
theorem aRr (l:List FB):aAz l≤l.length:=List.length_filter_le _ _
theorem aRs (v:Value) (l:List FB) (w:World) (hv:Sl EF w v l) (ok:∀ f∈l,OkFi f) (hl9:l.length≤1000) :
  Calls Tryz.prog 95 #[v] w fun e w'=>e=.returned (.bool (allF l))∧Below w.heap.size w w':=by
 have hlen:=hv.len
 obtain ⟨a,cap,rfl,hcap,hmax,hc⟩:=hv
 have HC:=hide hc
 have HOK:=hide ok
 clear hc ok
 go_enter Tryz.func95,Tryz.ntmps95
 go_wp2_with fail
 go_loopw [3,4] (fun t i wr=>∃ k:Nat,k≤l.length∧i=.int .i64 k∧t=.int .i64 (aAz (l.take k):Nat)∧Hid (FarF l k)∧Below w.heap.size w wr) (fun _ i _=>l.length - (intOf i).toNat)
 case atStart=>exact ⟨0,Nat.zero_le _,rfl,rfl,fun _ _ h=>absurd h (by omega),Below.refl _ _⟩
 case round =>
  obtain ⟨k,hk,rfl,rfl,hno,hB⟩:=hrel
  have htl:aAz (l.take k)≤1000:=by
   have:=aRr (l.take k)
   simp at this
   omega
  by_cases hlt:k<l.length
  ·have hlt':(k:Int)<(l.length:Int):=by omega
   obtain ⟨_,gg,off,rfl,hgg,hat⟩:=HC.out k hlt
   have ELk:=fun W (h:Below w.heap.size w W)=>aAm (show EF.At W gg (off+k*8) l[k] from fun j u hu=>(h.cell (p:=⟨gg,off+k*8+j,none⟩) hgg).trans (hat j u hu))
   obtain ⟨c0,c1,c2,c3,c4,c5,c6,c7⟩:=ELk wr hB
   have okk:=HOK.out l[k] (List.getElem_mem hlt)
   have C1:=hide (aTa l[k] wr okk)
   have HT:=hide (aNb hlt)
   have HEL:=hide ELk
   clear hat ELk
   cases hm:mayF l[k]
   ·have HR:Hid (false=allF l):=(aJh hlt (.inl hm)).symm
    rw [hm] at C1
    clear hm HT HEL
    generalize l[k]=fk at *
    obtain ⟨k0,n0,v0,h0,p0,t0,b0,z0⟩:=fk
    dsimp only at *
    go_wp2_with fail
    refine (C1.out).mono ?_
    rintro e w1 ⟨rfl,hb1⟩
    go_wp2_with fail
    go_ret
    exact ⟨aA1 HR.out,bb2 hB hb1⟩
   have HM:=hide hm
   rw [hm] at C1
   clear hm
   have INNER:∀ (w1:World),Below w.heap.size w w1→Hid (∀ W,Below w1.heap.size w1 W→W.cell? ⟨gg,off+k*8,none⟩=some (.int .i64 l[k].kind)∧W.cell? ⟨gg,off+k*8+1,none⟩=some (.string l[k].name)):=fun w1 h1 W h=>⟨(HEL.out W (bb2 h1 h)).1,(HEL.out W (bb2 h1 h)).2.1⟩
   have HNX:Hid ((∀ i (hi:i<k),aBu (l[i]'(by omega)) l[k]=false)→FarF l (k+1)):=fun h j hj hjk=>by
    rcases Nat.lt_or_ge j k with h1 | h1
    ·exact hno.out j hj h1
    ·obtain rfl:j=k:=by omega
     exact ⟨HM.out,h⟩
   have HNO:Hid (∀ i (hi:i<k),aBu (l[i]'(by omega)) l[k]=true→false=allF l):=fun i hi h=>(aRq hlt hi h).symm
   have HCL:Hid (∀ i (hi:i<l.length),aBu l[i] l[k]=(l[i].kind == l[k].kind&&aAt l[i].name l[k].name)):=fun i hi=>rfl
   have okn:=okk.name
   clear HEL okk
   by_cases hk3:3<l[k].kind
   ·have hk3':(3:Int)<l[k].kind:=hk3
    have HT2:Hid (((aAz (l.take k):Nat):Int)+1=((aAz (l.take (k+1)):Nat):Int)):=by
     show _=_
     rw [HT.out,if_pos hk3]
     omega
    have hwt:IntKind.i64.wrap (((aAz (l.take k):Nat):Int)+1)=((aAz (l.take (k+1)):Nat):Int):=by rw [IntKind.wrap_i64,←HT2.out];omega
    clear HT HT2 hk3
    generalize ht1:aAz (l.take (k+1))=t1 at *
    have HT1:=hide ht1
    clear ht1
    generalize aAz (l.take k)=t0' at *
    generalize hfk:l[k]=fk at *
    obtain ⟨k0,n0,v0,h0,p0,t0,b0,z0⟩:=fk
    dsimp only at *
    clear hfk
    go_wp2_with fail
    refine C1.out.mono ?_
    rintro e w1 ⟨rfl,hb1⟩
    have CK:=INNER w1 (bb2 hB hb1)
    obtain ⟨c0',c1'⟩:=CK.out w1 (Below.refl _ _)
    clear C1 c0 c1 c2 c3 c4 c5 c6 c7
    go_wp2_with fail
    go_loopw [5] (fun i wr=>∃ m:Nat,m≤k∧i=.int .i64 m∧Hid (∀ i (hi:i<m) (hik:i<k),aBu (l[i]'(by omega)) ⟨k0,n0,v0,h0,p0,t0,b0,z0⟩=false)∧Below w1.heap.size w1 wr) (fun i _=>k - (intOf i).toNat)
    case atStart=>exact ⟨0,Nat.zero_le _,rfl,fun _ h=>absurd h (by omega),Below.refl _ _⟩
    case round =>
     obtain ⟨m,hm,rfl,hnm,hB2⟩:=hrel
     by_cases hml:m<k
     ·have hml':(m:Int)<(k:Int):=by omega
      have hmL:(m:Int)<(l.length:Int):=by omega
      obtain ⟨_,g2,off2,he2,hg2,hat2⟩:=HC.out m (by omega)
      injection he2 with he2
      injection he2 with e1 e2
      subst e1 e2
      have D0:=fun q:GB wr=>(aAm (show EF.At q.W gg (off+m*8) (l[m]'(by omega)) from fun j u hu=>((bb2 (bb2 hB hb1) (bb2 hB2 q.h)).cell (p:=⟨gg,off+m*8+j,none⟩) hg2).trans (hat2 j u hu)))
      have d0:=fun q:GB wr=>(D0 q).1
      have d1:=fun q:GB wr=>(D0 q).2.1
      have g0:=fun q:GB wr=>(CK.out q.W (bb2 hB2 q.h)).1
      have g1:=fun q:GB wr=>(CK.out q.W (bb2 hB2 q.h)).2
      have CS:=fun W=>hide (aE3 (l[m]'(by omega)).name n0 W (HOK.out _ (List.getElem_mem _)).name okn)
      have HCm:=hide (HCL.out m (by omega))
      have HNm:=hide (HNO.out m hml)
      have HXm:Hid (aBu (l[m]'(by omega)) ⟨k0,n0,v0,h0,p0,t0,b0,z0⟩=false→∀ i (hi:i<m+1) (hik:i<k),aBu (l[i]'(by omega)) ⟨k0,n0,v0,h0,p0,t0,b0,z0⟩=false):=fun h i hi hik=>by
       rcases Nat.lt_or_ge i m with h1 | h1
       ·exact hnm.out i h1 hik
       ·obtain rfl:i=m:=by omega
        exact h
      clear D0 hat2
      generalize hcl:aBu (l[m]'(by omega)) ⟨k0,n0,v0,h0,p0,t0,b0,z0⟩=cl at *
      clear hcl
      generalize (l[m]'(by omega)).kind=mk at *
      generalize (l[m]'(by omega)).name=mn at *
      cases hkk:(mk == k0)
      ·have HZ:Hid (cl=false):=by rw [HCm.out,hkk];rfl
       have HX2:=hide (HXm.out HZ.out)
       go_wp2_with fail
       refine aA6 (by kernel_rfl) (by kernel_rfl) ?_
       repeat (first | go_big_quiet_step (fail) | quiet_step (fail))
       refine wpQuiet_nil ?_
       intro _ hw'
       obtain ⟨qq,hw2⟩:=hw'
       subst hw2
       have hq:=qq.h
       go_wp2_with fail
       exact ⟨⟨m+1,by omega,by go_num,HX2.out,bb2 hB2 hq⟩,by simp [intOf];omega⟩
      ·cases hs:aAt mn n0
       ·have HZ:Hid (cl=false):=by rw [HCm.out,hkk,hs];rfl
        have HX2:=hide (HXm.out HZ.out)
        rw [hs] at CS
        clear hs
        go_wp2_with fail
        refine aA6 (by kernel_rfl) (by kernel_rfl) ?_
        repeat (first | go_big_quiet_step ((go_at_call 126;exact aA3 (CS _).out)) | quiet_step ((go_at_call 126;exact aA3 (CS _).out)))
        refine wpQuiet_nil ?_
        intro _ hw'
        obtain ⟨qq,hw2⟩:=hw'
        subst hw2
        have hq:=qq.h
        go_wp2_with fail
        exact ⟨⟨m+1,by omega,by go_num,HX2.out,bb2 hB2 hq⟩,by simp [intOf];omega⟩
       ·have HZ:Hid (cl=true):=by rw [HCm.out,hkk,hs];rfl
        have HR:=hide (HNm.out HZ.out)
        rw [hs] at CS
        clear hs
        go_wp2_with fail
        refine aA6 (by kernel_rfl) (by kernel_rfl) ?_
        repeat (first | go_big_quiet_step ((go_at_call 126;exact aA3 (CS _).out)) | quiet_step ((go_at_call 126;exact aA3 (CS _).out)))
        refine wpQuiet_nil ?_
        intro _ hw'
        obtain ⟨qq,hw2⟩:=hw'
        subst hw2
        have hq:=qq.h
        go_wp2_with fail
        go_ret
        exact ⟨aA1 HR.out,bb2 (bb2 hB hb1) (bb2 hB2 hq)⟩
     ·have hml':¬ (m:Int)<(k:Int):=by omega
      have HF:=hide (HNX.out (fun i hi=>hnm.out i (by omega) hi))
      go_wp2_with fail
      exact ⟨⟨k+1,by omega,by go_num,by rw [HT1.out],HF.out,bb2 (bb2 hB hb1) hB2⟩,by simp [intOf];omega⟩
   ·have hk3':¬ (3:Int)<l[k].kind:=hk3
    have HT2:Hid (aAz (l.take k)=aAz (l.take (k+1))):=by
     show _=_
     rw [HT.out,if_neg hk3]
     rfl
    rw [HT2.out]
    clear HT hk3 htl
    generalize ht1:aAz (l.take (k+1))=t1 at *
    have HT1:=hide ht1
    clear ht1
    generalize hfk:l[k]=fk at *
    obtain ⟨k0,n0,v0,h0,p0,t0,b0,z0⟩:=fk
    dsimp only at *
    clear hfk HT2
    go_wp2_with fail
    refine C1.out.mono ?_
    rintro e w1 ⟨rfl,hb1⟩
    have CK:=INNER w1 (bb2 hB hb1)
    obtain ⟨c0',c1'⟩:=CK.out w1 (Below.refl _ _)
    clear C1 c0 c1 c2 c3 c4 c5 c6 c7
    go_wp2_with fail
    go_loopw [5] (fun i wr=>∃ m:Nat,m≤k∧i=.int .i64 m∧Hid (∀ i (hi:i<m) (hik:i<k),aBu (l[i]'(by omega)) ⟨k0,n0,v0,h0,p0,t0,b0,z0⟩=false)∧Below w1.heap.size w1 wr) (fun i _=>k - (intOf i).toNat)
    case atStart=>exact ⟨0,Nat.zero_le _,rfl,fun _ h=>absurd h (by omega),Below.refl _ _⟩
    case round =>
     obtain ⟨m,hm,rfl,hnm,hB2⟩:=hrel
     by_cases hml:m<k
     ·have hml':(m:Int)<(k:Int):=by omega
      have hmL:(m:Int)<(l.length:Int):=by omega
      obtain ⟨_,g2,off2,he2,hg2,hat2⟩:=HC.out m (by omega)
      injection he2 with he2
      injection he2 with e1 e2
      subst e1 e2
      have D0:=fun q:GB wr=>(aAm (show EF.At q.W gg (off+m*8) (l[m]'(by omega)) from fun j u hu=>((bb2 (bb2 hB hb1) (bb2 hB2 q.h)).cell (p:=⟨gg,off+m*8+j,none⟩) hg2).trans (hat2 j u hu)))
      have d0:=fun q:GB wr=>(D0 q).1
      have d1:=fun q:GB wr=>(D0 q).2.1
      have g0:=fun q:GB wr=>(CK.out q.W (bb2 hB2 q.h)).1
      have g1:=fun q:GB wr=>(CK.out q.W (bb2 hB2 q.h)).2
      have CS:=fun W=>hide (aE3 (l[m]'(by omega)).name n0 W (HOK.out _ (List.getElem_mem _)).name okn)
      have HCm:=hide (HCL.out m (by omega))
      have HNm:=hide (HNO.out m hml)
      have HXm:Hid (aBu (l[m]'(by omega)) ⟨k0,n0,v0,h0,p0,t0,b0,z0⟩=false→∀ i (hi:i<m+1) (hik:i<k),aBu (l[i]'(by omega)) ⟨k0,n0,v0,h0,p0,t0,b0,z0⟩=false):=fun h i hi hik=>by
       rcases Nat.lt_or_ge i m with h1 | h1
       ·exact hnm.out i h1 hik
       ·obtain rfl:i=m:=by omega
        exact h
      clear D0 hat2
      generalize hcl:aBu (l[m]'(by omega)) ⟨k0,n0,v0,h0,p0,t0,b0,z0⟩=cl at *
      clear hcl
      generalize (l[m]'(by omega)).kind=mk at *
      generalize (l[m]'(by omega)).name=mn at *
      cases hkk:(mk == k0)
      ·have HZ:Hid (cl=false):=by rw [HCm.out,hkk];rfl
       have HX2:=hide (HXm.out HZ.out)
       go_wp2_with fail
       refine aA6 (by kernel_rfl) (by kernel_rfl) ?_
       repeat (first | go_big_quiet_step (fail) | quiet_step (fail))
       refine wpQuiet_nil ?_
       intro _ hw'
       obtain ⟨qq,hw2⟩:=hw'
       subst hw2
       have hq:=qq.h
       go_wp2_with fail
       exact ⟨⟨m+1,by omega,by go_num,HX2.out,bb2 hB2 hq⟩,by simp [intOf];omega⟩
      ·cases hs:aAt mn n0
       ·have HZ:Hid (cl=false):=by rw [HCm.out,hkk,hs];rfl
        have HX2:=hide (HXm.out HZ.out)
        rw [hs] at CS
        clear hs
        go_wp2_with fail
        refine aA6 (by kernel_rfl) (by kernel_rfl) ?_
        repeat (first | go_big_quiet_step ((go_at_call 126;exact aA3 (CS _).out)) | quiet_step ((go_at_call 126;exact aA3 (CS _).out)))
        refine wpQuiet_nil ?_
        intro _ hw'
        obtain ⟨qq,hw2⟩:=hw'
        subst hw2
        have hq:=qq.h
        go_wp2_with fail
        exact ⟨⟨m+1,by omega,by go_num,HX2.out,bb2 hB2 hq⟩,by simp [intOf];omega⟩
       ·have HZ:Hid (cl=true):=by rw [HCm.out,hkk,hs];rfl
        have HR:=hide (HNm.out HZ.out)
        rw [hs] at CS
        clear hs
        go_wp2_with fail
        refine aA6 (by kernel_rfl) (by kernel_rfl) ?_
        repeat (first | go_big_quiet_step ((go_at_call 126;exact aA3 (CS _).out)) | quiet_step ((go_at_call 126;exact aA3 (CS _).out)))
        refine wpQuiet_nil ?_
        intro _ hw'
        obtain ⟨qq,hw2⟩:=hw'
        subst hw2
        have hq:=qq.h
        go_wp2_with fail
        go_ret
        exact ⟨aA1 HR.out,bb2 (bb2 hB hb1) (bb2 hB2 hq)⟩
     ·have hml':¬ (m:Int)<(k:Int):=by omega
      have HF:=hide (HNX.out (fun i hi=>hnm.out i (by omega) hi))
      go_wp2_with fail
      exact ⟨⟨k+1,by omega,by go_num,by rw [HT1.out],HF.out,bb2 (bb2 hB hb1) hB2⟩,by simp [intOf];omega⟩
  ·have hlt':¬ (k:Int)<(l.length:Int):=by omega
   have hkl:k=l.length:=by omega
   subst hkl
   rw [List.take_length] at *
   have HE:=hide (aTb hno.out)
   by_cases ht1:aAz l≤1
   ·have ht1':((aAz l:Nat):Int)≤1:=by omega
    have HR:Hid (decide ((l.length:Int)≤8)=allF l):=by
     show _=_
     rw [HE.out,decide_eq_true ht1,Bool.true_and]
     exact decide_eq_decide.2 (by omega)
    go_wp2_with fail
    go_ret
    exact ⟨aA1 HR.out,hB⟩
   ·have ht1':¬ ((aAz l:Nat):Int)≤1:=by omega
    have HR:Hid (false=allF l):=by
     show _=_
     rw [HE.out,decide_eq_false ht1]
     rfl
    go_wp2_with fail
    go_ret
    exact ⟨aA1 HR.out,hB⟩
end Go.Proofs.YthnodpdiocppgaaGreatDoor
