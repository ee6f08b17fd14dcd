/-
  Walks: object's small functions, MayRef, Order, mayListener, mayParent, mayHost, mayRule, mayBackend, mayFrom, mayTo.
-/
import Derived.Test.YthnodpdiocppgaaGreatDoorJ14
import Derived.Test.YthnodpdiocppgaaGreatDoorJ13
import Derived.Test.YthnodpdiocppgaaGreatDoorJ8
import Derived.Test.YthnodpdiocppgaaGreatDoorJ9
import Derived.Test.YthnodpdiocppgaaGreatDoorJ11
import Derived.Test.YthnodpdiocppgaaGreatDoorJ10
import Derived.Test.YthnodpdiocppgaaGreatDoorJ7
import Derived.Test.YthnodpdiocppgaaGreatDoorJ2
import Derived.Test.YthnodpdiocppgaaGreatDoorJ1
set_option maxHeartbeats 6400000
set_option maxRecDepth 20000
namespace Go.Proofs.YthnodpdiocppgaaGreatDoor
open Go Go.RowKit Go.Shelf
theorem sm {s:ByteArray} (h:s.size≤100):s.size≤maxLen:=by unfold maxLen;omega
theorem aEq (s:ByteArray) (w:World) (hs:s.size≤maxLen) :
  Calls Tryz.prog 84 #[.string s] w fun e w'=>e=.returned (.bool (Ob.isL s))∧Below w.heap.size w w' :=
 (aF7 s w hs).mono fun _ _ h=>⟨h.1,by rw [h.2];exact Below.refl _ _⟩
theorem aF1 (s:ByteArray) (w:World) (hs:s.size≤maxLen) :
  Calls Tryz.prog 83 #[.string s] w fun e w'=>e=.returned (.bool (Ob.isN s))∧Below w.heap.size w w':=aC2 s w hs
theorem aBs {s:ByteArray}:s.toList.isEmpty=Ob.e0 s:=aCy
theorem aEh (n:Int) (w:World):Calls Tryz.prog 85 #[.int .i64 n] w fun e w'=>e=.returned (.bool (Ob.isKind n))∧Below w.heap.size w w':=by
 have HE:Hid (Ob.isKind n=(decide (1≤n)&&decide (n≤7))):=by unfold Hid Ob.isKind;rw [Bool.decide_and]
 generalize Ob.isKind n=z at *
 by_cases h1:1≤n
 ·rw [decide_eq_true h1] at HE
  by_cases h2:n≤7
  ·rw [decide_eq_true h2] at HE
   go_enter Tryz.func85,Tryz.ntmps85
   go_wp2_with fail
   go_ret
   exact ⟨aA1 HE.out.symm,Below.refl _ _⟩
  ·rw [decide_eq_false h2] at HE
   go_enter Tryz.func85,Tryz.ntmps85
   go_wp2_with fail
   go_ret
   exact ⟨aA1 HE.out.symm,Below.refl _ _⟩
 ·rw [decide_eq_false h1] at HE
  go_enter Tryz.func85,Tryz.ntmps85
  go_wp2_with fail
  go_ret
  exact ⟨aA1 HE.out.symm,Below.refl _ _⟩
theorem aGa (n:Int) (w:World):Calls Tryz.prog 104 #[.int .i64 n] w fun e w'=>e=.returned (.bool (Ob.isPort n))∧Below w.heap.size w w':=by
 have HE:Hid (Ob.isPort n=(decide (1≤n)&&decide (n≤65535))):=by unfold Hid Ob.isPort;rw [Bool.decide_and]
 generalize Ob.isPort n=z at *
 by_cases h1:1≤n
 ·rw [decide_eq_true h1] at HE
  by_cases h2:n≤65535
  ·rw [decide_eq_true h2] at HE
   go_enter Tryz.func104,Tryz.ntmps104
   go_wp2_with fail
   go_ret
   exact ⟨aA1 HE.out.symm,Below.refl _ _⟩
  ·rw [decide_eq_false h2] at HE
   go_enter Tryz.func104,Tryz.ntmps104
   go_wp2_with fail
   go_ret
   exact ⟨aA1 HE.out.symm,Below.refl _ _⟩
 ·rw [decide_eq_false h1] at HE
  go_enter Tryz.func104,Tryz.ntmps104
  go_wp2_with fail
  go_ret
  exact ⟨aA1 HE.out.symm,Below.refl _ _⟩
theorem aHj (n:Int) (w:World):Calls Tryz.prog 148 #[.int .i64 n] w fun e w'=>e=.returned (.bool (Ob.anyPort n))∧Below w.heap.size w w':=by
 have HE:Hid (Ob.anyPort n=((n == 0)||Ob.isPort n)):=by unfold Hid Ob.anyPort;congr 1
 have C1:=hide (aGa n w)
 generalize Ob.anyPort n=z at *
 generalize Ob.isPort n=y at *
 cases h1:(n == 0)
 ·rw [h1] at HE
  go_enter Tryz.func148,Tryz.ntmps148
  go_wp2_with fail
  refine (C1.out).mono ?_
  rintro e w1 ⟨rfl,hb1⟩
  go_wp2_with fail
  go_ret
  exact ⟨aA1 HE.out.symm,hb1⟩
 ·rw [h1] at HE
  go_enter Tryz.func148,Tryz.ntmps148
  go_wp2_with fail
  go_ret
  exact ⟨aA1 HE.out.symm,Below.refl _ _⟩
theorem aFg (s:ByteArray) (w:World) (hs:s.size≤maxLen):Calls Tryz.prog 147 #[.string s] w fun e w'=>e=.returned (.bool (Ob.isSpace s))∧Below w.heap.size w w':=by
 have HE:Hid (Ob.isSpace s=(s.toList.isEmpty||Ob.isL s)):=by unfold Hid Ob.isSpace;rw [aBs]
 have C1:=hide (aEq s w hs)
 generalize Ob.isSpace s=z at *
 generalize Ob.isL s=y at *
 cases h1:s.toList.isEmpty
 ·rw [h1] at HE
  go_enter Tryz.func147,Tryz.ntmps147
  go_wp2_with fail
  refine (C1.out).mono ?_
  rintro e w1 ⟨rfl,hb1⟩
  go_wp2_with fail
  go_ret
  exact ⟨aA1 HE.out.symm,hb1⟩
 ·rw [h1] at HE
  go_enter Tryz.func147,Tryz.ntmps147
  go_wp2_with fail
  go_ret
  exact ⟨aA1 HE.out.symm,Below.refl _ _⟩
theorem aQt (s:ByteArray) (w:World) (hs:s.size≤maxLen):Calls Tryz.prog 117 #[.string s] w fun e w'=>e=.returned (.bool (Ob.mayHo s))∧Below w.heap.size w w':=by
 have HE:Hid (Ob.mayHo s=(!s.toList.isEmpty&&may s.data.toList)):=by unfold Hid Ob.mayHo;rw [aBs]
 have C1:=hide (aL9 s w hs)
 generalize Ob.mayHo s=z at *
 generalize may s.data.toList=y at *
 cases h1:s.toList.isEmpty
 ·rw [h1] at HE
  go_enter Tryz.func117,Tryz.ntmps117
  go_wp2_with fail
  refine (C1.out).mono ?_
  rintro e w1 ⟨rfl,hb1⟩
  go_wp2_with fail
  go_ret
  exact ⟨aA1 HE.out.symm,hb1⟩
 ·rw [h1] at HE
  go_enter Tryz.func117,Tryz.ntmps117
  go_wp2_with fail
  go_ret
  exact ⟨aA1 HE.out.symm,Below.refl _ _⟩
theorem aUy (s n:ByteArray) (w:World) (hn:n.size≤maxLen) :
  Calls Tryz.prog 62 #[rfV ⟨1,s,n⟩] w fun e w'=>e=.returned (.bool (Ob.mayRef ⟨1,s,n⟩))∧Below w.heap.size w w':=by
 have HP:Hid (Ob.mayRef ⟨1,s,n⟩=(s.toList.isEmpty&&Ob.isN n)):=by
  rw [aBs]
  rfl
 have B1:Below w.heap.size w (w.alloc (.cells #[.int .i64 (⟨1,s,n⟩:RfB).kind,.string (⟨1,s,n⟩:RfB).space,.string (⟨1,s,n⟩:RfB).name] 24)):=(Below.refl _ _).alloc (Nat.le_refl _) _
 have C1:=fun W (h:Below (w.alloc (.cells #[.int .i64 (⟨1,s,n⟩:RfB).kind,.string (⟨1,s,n⟩:RfB).space,.string (⟨1,s,n⟩:RfB).name] 24)).heap.size (w.alloc (.cells #[.int .i64 (⟨1,s,n⟩:RfB).kind,.string (⟨1,s,n⟩:RfB).space,.string (⟨1,s,n⟩:RfB).name] 24)) W)=>hide (aF1 n W hn)
 have m0:∀ q:GB (w.alloc (.cells #[.int .i64 (⟨1,s,n⟩:RfB).kind,.string (⟨1,s,n⟩:RfB).space,.string (⟨1,s,n⟩:RfB).name] 24)),q.W.cell? ⟨w.heap.size,0,none⟩=some (.int .i64 (⟨1,s,n⟩:RfB).kind):=fun q=>by simpa using (aCi (boxD q.h)).1
 have m1:∀ q:GB (w.alloc (.cells #[.int .i64 (⟨1,s,n⟩:RfB).kind,.string (⟨1,s,n⟩:RfB).space,.string (⟨1,s,n⟩:RfB).name] 24)),q.W.cell? ⟨w.heap.size,1,none⟩=some (.string (⟨1,s,n⟩:RfB).space):=fun q=>by simpa using (aCi (boxD q.h)).2.1
 have m2:∀ q:GB (w.alloc (.cells #[.int .i64 (⟨1,s,n⟩:RfB).kind,.string (⟨1,s,n⟩:RfB).space,.string (⟨1,s,n⟩:RfB).name] 24)),q.W.cell? ⟨w.heap.size,2,none⟩=some (.string (⟨1,s,n⟩:RfB).name):=fun q=>by simpa using (aCi (boxD q.h)).2.2
 have HB1:=hide B1
 clear B1
 clear hn
 generalize Ob.mayRef ⟨1,s,n⟩=z at *
 generalize Ob.isN n=y1 at *
 try dsimp only at *
 cases ht0:s.toList.isEmpty
 ·rw [ht0] at HP
  go_enter Tryz.func62,Tryz.ntmps62
  go_wp2_with fail
  go_ret
  exact ⟨aA1 HP.out.symm,HB1.out⟩
 rw [ht0] at HP
 go_enter Tryz.func62,Tryz.ntmps62
 go_wp2_with fail
 refine (aA5 ((C1 _ (Below.refl _ _)).out)).mono ?_
 rintro e x ⟨rfl,q,rfl⟩
 go_wp2_with fail
 go_ret
 exact ⟨aA1 HP.out.symm,bb2 HB1.out q.h⟩
theorem aUz (s n:ByteArray) (w:World) (hn:n.size≤maxLen) :
  Calls Tryz.prog 62 #[rfV ⟨2,s,n⟩] w fun e w'=>e=.returned (.bool (Ob.mayRef ⟨2,s,n⟩))∧Below w.heap.size w w':=by
 have HP:Hid (Ob.mayRef ⟨2,s,n⟩=(s.toList.isEmpty&&Ob.isL n)):=by
  rw [aBs]
  rfl
 have B1:Below w.heap.size w (w.alloc (.cells #[.int .i64 (⟨2,s,n⟩:RfB).kind,.string (⟨2,s,n⟩:RfB).space,.string (⟨2,s,n⟩:RfB).name] 24)):=(Below.refl _ _).alloc (Nat.le_refl _) _
 have C1:=fun W (h:Below (w.alloc (.cells #[.int .i64 (⟨2,s,n⟩:RfB).kind,.string (⟨2,s,n⟩:RfB).space,.string (⟨2,s,n⟩:RfB).name] 24)).heap.size (w.alloc (.cells #[.int .i64 (⟨2,s,n⟩:RfB).kind,.string (⟨2,s,n⟩:RfB).space,.string (⟨2,s,n⟩:RfB).name] 24)) W)=>hide (aEq n W hn)
 have m0:∀ q:GB (w.alloc (.cells #[.int .i64 (⟨2,s,n⟩:RfB).kind,.string (⟨2,s,n⟩:RfB).space,.string (⟨2,s,n⟩:RfB).name] 24)),q.W.cell? ⟨w.heap.size,0,none⟩=some (.int .i64 (⟨2,s,n⟩:RfB).kind):=fun q=>by simpa using (aCi (boxD q.h)).1
 have m1:∀ q:GB (w.alloc (.cells #[.int .i64 (⟨2,s,n⟩:RfB).kind,.string (⟨2,s,n⟩:RfB).space,.string (⟨2,s,n⟩:RfB).name] 24)),q.W.cell? ⟨w.heap.size,1,none⟩=some (.string (⟨2,s,n⟩:RfB).space):=fun q=>by simpa using (aCi (boxD q.h)).2.1
 have m2:∀ q:GB (w.alloc (.cells #[.int .i64 (⟨2,s,n⟩:RfB).kind,.string (⟨2,s,n⟩:RfB).space,.string (⟨2,s,n⟩:RfB).name] 24)),q.W.cell? ⟨w.heap.size,2,none⟩=some (.string (⟨2,s,n⟩:RfB).name):=fun q=>by simpa using (aCi (boxD q.h)).2.2
 have HB1:=hide B1
 clear B1
 clear hn
 generalize Ob.mayRef ⟨2,s,n⟩=z at *
 generalize Ob.isL n=y1 at *
 try dsimp only at *
 cases ht0:s.toList.isEmpty
 ·rw [ht0] at HP
  go_enter Tryz.func62,Tryz.ntmps62
  go_wp2_with fail
  go_ret
  exact ⟨aA1 HP.out.symm,HB1.out⟩
 rw [ht0] at HP
 go_enter Tryz.func62,Tryz.ntmps62
 go_wp2_with fail
 refine (aA5 ((C1 _ (Below.refl _ _)).out)).mono ?_
 rintro e x ⟨rfl,q,rfl⟩
 go_wp2_with fail
 go_ret
 exact ⟨aA1 HP.out.symm,bb2 HB1.out q.h⟩
theorem aV0 (k:Int) (s n:ByteArray) (w:World) (h1:(k == 1)=false) (h2:(k == 2)=false) (hs:s.size≤maxLen) (hn:n.size≤maxLen) :
  Calls Tryz.prog 62 #[rfV ⟨k,s,n⟩] w fun e w'=>e=.returned (.bool (Ob.mayRef ⟨k,s,n⟩))∧Below w.heap.size w w':=by
 have HP:Hid (Ob.mayRef ⟨k,s,n⟩=(Ob.isKind k&&(Ob.isL s&&Ob.isN n))):=by
  have e1:k≠1:=by simpa using h1
  have e2:k≠2:=by simpa using h2
  unfold Hid Ob.mayRef
  dsimp only
  rw [if_neg e1,if_neg e2]
 have B1:Below w.heap.size w (w.alloc (.cells #[.int .i64 (⟨k,s,n⟩:RfB).kind,.string (⟨k,s,n⟩:RfB).space,.string (⟨k,s,n⟩:RfB).name] 24)):=(Below.refl _ _).alloc (Nat.le_refl _) _
 have C1:=fun W (h:Below (w.alloc (.cells #[.int .i64 (⟨k,s,n⟩:RfB).kind,.string (⟨k,s,n⟩:RfB).space,.string (⟨k,s,n⟩:RfB).name] 24)).heap.size (w.alloc (.cells #[.int .i64 (⟨k,s,n⟩:RfB).kind,.string (⟨k,s,n⟩:RfB).space,.string (⟨k,s,n⟩:RfB).name] 24)) W)=>hide (aEh k W)
 have C2:=fun W (h:Below (w.alloc (.cells #[.int .i64 (⟨k,s,n⟩:RfB).kind,.string (⟨k,s,n⟩:RfB).space,.string (⟨k,s,n⟩:RfB).name] 24)).heap.size (w.alloc (.cells #[.int .i64 (⟨k,s,n⟩:RfB).kind,.string (⟨k,s,n⟩:RfB).space,.string (⟨k,s,n⟩:RfB).name] 24)) W)=>hide (aEq s W hs)
 have C3:=fun W (h:Below (w.alloc (.cells #[.int .i64 (⟨k,s,n⟩:RfB).kind,.string (⟨k,s,n⟩:RfB).space,.string (⟨k,s,n⟩:RfB).name] 24)).heap.size (w.alloc (.cells #[.int .i64 (⟨k,s,n⟩:RfB).kind,.string (⟨k,s,n⟩:RfB).space,.string (⟨k,s,n⟩:RfB).name] 24)) W)=>hide (aF1 n W hn)
 have m0:∀ q:GB (w.alloc (.cells #[.int .i64 (⟨k,s,n⟩:RfB).kind,.string (⟨k,s,n⟩:RfB).space,.string (⟨k,s,n⟩:RfB).name] 24)),q.W.cell? ⟨w.heap.size,0,none⟩=some (.int .i64 (⟨k,s,n⟩:RfB).kind):=fun q=>by simpa using (aCi (boxD q.h)).1
 have m1:∀ q:GB (w.alloc (.cells #[.int .i64 (⟨k,s,n⟩:RfB).kind,.string (⟨k,s,n⟩:RfB).space,.string (⟨k,s,n⟩:RfB).name] 24)),q.W.cell? ⟨w.heap.size,1,none⟩=some (.string (⟨k,s,n⟩:RfB).space):=fun q=>by simpa using (aCi (boxD q.h)).2.1
 have m2:∀ q:GB (w.alloc (.cells #[.int .i64 (⟨k,s,n⟩:RfB).kind,.string (⟨k,s,n⟩:RfB).space,.string (⟨k,s,n⟩:RfB).name] 24)),q.W.cell? ⟨w.heap.size,2,none⟩=some (.string (⟨k,s,n⟩:RfB).name):=fun q=>by simpa using (aCi (boxD q.h)).2.2
 have HB1:=hide B1
 clear B1
 clear hs hn
 generalize Ob.mayRef ⟨k,s,n⟩=z at *
 generalize Ob.isKind k=y1 at *
 generalize Ob.isL s=y2 at *
 generalize Ob.isN n=y3 at *
 try dsimp only at *
 cases y1
 ·go_enter Tryz.func62,Tryz.ntmps62
  go_wp2_with fail
  refine (aA5 ((C1 _ (Below.refl _ _)).out)).mono ?_
  rintro e x ⟨rfl,q,rfl⟩
  go_wp2_with fail
  go_ret
  exact ⟨aA1 HP.out.symm,bb2 HB1.out q.h⟩
 cases y2
 ·go_enter Tryz.func62,Tryz.ntmps62
  go_wp2_with fail
  refine (aA5 ((C1 _ (Below.refl _ _)).out)).mono ?_
  rintro e x ⟨rfl,q,rfl⟩
  go_wp2_with fail
  refine (aA3 ((C2 _ q.h).out)).mono ?_
  rintro e x ⟨rfl,q,rfl⟩
  go_wp2_with fail
  go_ret
  exact ⟨aA1 HP.out.symm,bb2 HB1.out q.h⟩
 go_enter Tryz.func62,Tryz.ntmps62
 go_wp2_with fail
 refine (aA5 ((C1 _ (Below.refl _ _)).out)).mono ?_
 rintro e x ⟨rfl,q,rfl⟩
 go_wp2_with fail
 refine (aA3 ((C2 _ q.h).out)).mono ?_
 rintro e x ⟨rfl,q,rfl⟩
 go_wp2_with fail
 refine (aA3 ((C3 _ q.h).out)).mono ?_
 rintro e x ⟨rfl,q,rfl⟩
 go_wp2_with fail
 go_ret
 exact ⟨aA1 HP.out.symm,bb2 HB1.out q.h⟩
theorem aIw (r:RfB) (w:World) (ok:OkRf r) :
  Calls Tryz.prog 62 #[rfV r] w fun e w'=>e=.returned (.bool (Ob.mayRef r))∧Below w.heap.size w w':=by
 obtain ⟨k,s,n⟩:=r
 have h1:=sm ok.space
 have h2:=sm ok.name
 dsimp only at h1 h2
 by_cases e1:k=1
 ·subst e1
  exact aUy s n w h2
 ·by_cases e2:k=2
  ·subst e2
   exact aUz s n w h2
  ·exact aV0 k s n w (by simpa using e1) (by simpa using e2) h1 h2
theorem aT2 (x:LiV) (w:World) (ht:x.tls=true) (ok:OkRf x.cert) :
  Calls Tryz.prog 142 #[liV x] w fun e w'=>e=.returned (.bool (Ob.mayCert x.b))∧Below w.heap.size w w':=by
 have HP:Hid (Ob.mayCert x.b=((x.cert.kind == 4)&&(Ob.isSpace x.cert.space&&Ob.isN x.cert.name))):=by
  unfold Hid Ob.mayCert LiV.b
  dsimp only
  rw [ht,if_pos rfl]
  congr 1
 have B1:Below w.heap.size w (w.alloc (.cells #[.string x.name,.int .i64 x.port,.bool x.tls,.string x.host,.int .i64 x.cert.kind,.string x.cert.space,.string x.cert.name,.int .i64 x.frm,x.v] 67)):=(Below.refl _ _).alloc (Nat.le_refl _) _
 have C1:=fun W (h:Below (w.alloc (.cells #[.string x.name,.int .i64 x.port,.bool x.tls,.string x.host,.int .i64 x.cert.kind,.string x.cert.space,.string x.cert.name,.int .i64 x.frm,x.v] 67)).heap.size (w.alloc (.cells #[.string x.name,.int .i64 x.port,.bool x.tls,.string x.host,.int .i64 x.cert.kind,.string x.cert.space,.string x.cert.name,.int .i64 x.frm,x.v] 67)) W)=>hide (aFg x.cert.space W (sm ok.space))
 have C2:=fun W (h:Below (w.alloc (.cells #[.string x.name,.int .i64 x.port,.bool x.tls,.string x.host,.int .i64 x.cert.kind,.string x.cert.space,.string x.cert.name,.int .i64 x.frm,x.v] 67)).heap.size (w.alloc (.cells #[.string x.name,.int .i64 x.port,.bool x.tls,.string x.host,.int .i64 x.cert.kind,.string x.cert.space,.string x.cert.name,.int .i64 x.frm,x.v] 67)) W)=>hide (aF1 x.cert.name W (sm ok.name))
 have m0:∀ q:GB (w.alloc (.cells #[.string x.name,.int .i64 x.port,.bool x.tls,.string x.host,.int .i64 x.cert.kind,.string x.cert.space,.string x.cert.name,.int .i64 x.frm,x.v] 67)),q.W.cell? ⟨w.heap.size,0,none⟩=some (.string x.name):=fun q=>by simpa using (aBn (aC4 q.h)).1
 have m1:∀ q:GB (w.alloc (.cells #[.string x.name,.int .i64 x.port,.bool x.tls,.string x.host,.int .i64 x.cert.kind,.string x.cert.space,.string x.cert.name,.int .i64 x.frm,x.v] 67)),q.W.cell? ⟨w.heap.size,1,none⟩=some (.int .i64 x.port):=fun q=>by simpa using (aBn (aC4 q.h)).2.1
 have m2:∀ q:GB (w.alloc (.cells #[.string x.name,.int .i64 x.port,.bool x.tls,.string x.host,.int .i64 x.cert.kind,.string x.cert.space,.string x.cert.name,.int .i64 x.frm,x.v] 67)),q.W.cell? ⟨w.heap.size,2,none⟩=some (.bool x.tls):=fun q=>by simpa using (aBn (aC4 q.h)).2.2.1
 have m3:∀ q:GB (w.alloc (.cells #[.string x.name,.int .i64 x.port,.bool x.tls,.string x.host,.int .i64 x.cert.kind,.string x.cert.space,.string x.cert.name,.int .i64 x.frm,x.v] 67)),q.W.cell? ⟨w.heap.size,3,none⟩=some (.string x.host):=fun q=>by simpa using (aBn (aC4 q.h)).2.2.2.1
 have m4:∀ q:GB (w.alloc (.cells #[.string x.name,.int .i64 x.port,.bool x.tls,.string x.host,.int .i64 x.cert.kind,.string x.cert.space,.string x.cert.name,.int .i64 x.frm,x.v] 67)),q.W.cell? ⟨w.heap.size,4,none⟩=some (.int .i64 x.cert.kind):=fun q=>by simpa using (aBn (aC4 q.h)).2.2.2.2.1
 have m5:∀ q:GB (w.alloc (.cells #[.string x.name,.int .i64 x.port,.bool x.tls,.string x.host,.int .i64 x.cert.kind,.string x.cert.space,.string x.cert.name,.int .i64 x.frm,x.v] 67)),q.W.cell? ⟨w.heap.size,5,none⟩=some (.string x.cert.space):=fun q=>by simpa using (aBn (aC4 q.h)).2.2.2.2.2.1
 have m6:∀ q:GB (w.alloc (.cells #[.string x.name,.int .i64 x.port,.bool x.tls,.string x.host,.int .i64 x.cert.kind,.string x.cert.space,.string x.cert.name,.int .i64 x.frm,x.v] 67)),q.W.cell? ⟨w.heap.size,6,none⟩=some (.string x.cert.name):=fun q=>by simpa using (aBn (aC4 q.h)).2.2.2.2.2.2.1
 have m7:∀ q:GB (w.alloc (.cells #[.string x.name,.int .i64 x.port,.bool x.tls,.string x.host,.int .i64 x.cert.kind,.string x.cert.space,.string x.cert.name,.int .i64 x.frm,x.v] 67)),q.W.cell? ⟨w.heap.size,7,none⟩=some (.int .i64 x.frm):=fun q=>by simpa using (aBn (aC4 q.h)).2.2.2.2.2.2.2.1
 have m8:∀ q:GB (w.alloc (.cells #[.string x.name,.int .i64 x.port,.bool x.tls,.string x.host,.int .i64 x.cert.kind,.string x.cert.space,.string x.cert.name,.int .i64 x.frm,x.v] 67)),q.W.cell? ⟨w.heap.size,8,none⟩=some (x.v):=fun q=>by simpa using (aBn (aC4 q.h)).2.2.2.2.2.2.2.2
 have HB1:=hide B1
 clear B1
 clear ok
 generalize Ob.mayCert x.b=z at *
 generalize Ob.isSpace x.cert.space=y1 at *
 generalize Ob.isN x.cert.name=y2 at *
 obtain ⟨n0,p0,t0,h0,⟨ck0,cs0,cn0⟩,f0,nd0,a0,c0⟩:=x
 try dsimp only at *
 subst ht
 cases ht0:(ck0 == 4)
 ·rw [ht0] at HP
  go_enter Tryz.func142,Tryz.ntmps142
  go_wp2_with fail
  go_ret
  exact ⟨aA1 HP.out.symm,HB1.out⟩
 rw [ht0] at HP
 cases y1
 ·go_enter Tryz.func142,Tryz.ntmps142
  go_wp2_with fail
  refine (aA5 ((C1 _ (Below.refl _ _)).out)).mono ?_
  rintro e x ⟨rfl,q,rfl⟩
  go_wp2_with fail
  go_ret
  exact ⟨aA1 HP.out.symm,bb2 HB1.out q.h⟩
 go_enter Tryz.func142,Tryz.ntmps142
 go_wp2_with fail
 refine (aA5 ((C1 _ (Below.refl _ _)).out)).mono ?_
 rintro e x ⟨rfl,q,rfl⟩
 go_wp2_with fail
 refine (aA3 ((C2 _ q.h).out)).mono ?_
 rintro e x ⟨rfl,q,rfl⟩
 go_wp2_with fail
 go_ret
 exact ⟨aA1 HP.out.symm,bb2 HB1.out q.h⟩
theorem aT3 (x:LiV) (w:World) (ht:x.tls=false) :
  Calls Tryz.prog 142 #[liV x] w fun e w'=>e=.returned (.bool (Ob.mayCert x.b))∧Below w.heap.size w w':=by
 have HP:Hid (Ob.mayCert x.b=Ob.eqR x.cert Ob.zR):=by
  unfold Hid Ob.mayCert LiV.b
  dsimp only
  rw [ht,if_neg (by simp)]
 generalize Ob.mayCert x.b=z at *
 obtain ⟨n0,p0,t0,h0,⟨ck0,cs0,cn0⟩,f0,nd0,a0,c0⟩:=x
 dsimp only at *
 subst ht
 have EQ:∀ W,(Op.equalIn 10000 24 (.agg #[.int .i64 ck0,.string cs0,.string cn0]) (.agg #[.int .i64 0,.string ⟨#[]⟩,.string ⟨#[]⟩])).run Tryz.prog W=.ok (Ob.eqR ⟨ck0,cs0,cn0⟩ Ob.zR) W:=fun W=>by
  rw [aG8]
  unfold Ob.eqR
  simp only [aB3]
 generalize Ob.eqR ⟨ck0,cs0,cn0⟩ Ob.zR=y at *
 go_enter Tryz.func142,Tryz.ntmps142
 go_wp2_with fail
 go_ret
 exact ⟨aA1 HP.out.symm,(Below.refl _ _).alloc (Nat.le_refl _) _⟩
theorem aN3 (x:LiV) (w:World) (ok:OkRf x.cert) :
  Calls Tryz.prog 142 #[liV x] w fun e w'=>e=.returned (.bool (Ob.mayCert x.b))∧Below w.heap.size w w':=by
 cases h:x.tls
 ·exact aT3 x w h
 ·exact aT2 x w h ok
theorem aOq (x:LiV) (w:World) (hA:Sl EN w x.v x.nd) (ok:∀ n∈x.nd,OkN n.n) :
  Calls Tryz.prog 143 #[liV x] w fun e w'=>e=.returned (.bool (Ob.mayLet x.b))∧Below w.heap.size w w':=by
 have hlen:=hA.len
 have B1:Below w.heap.size w (w.alloc (.cells (aDk x).toArray 67)):=(Below.refl _ _).alloc (Nat.le_refl _) _
 have C1:=hide (aO3 x.v x.nd _ (hA.below B1) (fun n hn=>(ok n hn).raw))
 have HP:Hid (Ob.mayLet x.b=if x.frm=2 then La.needs (nbs x.nd) else (decide (x.frm=0)||decide (x.frm=1))&&decide (x.nd.length=0)):=by
  unfold Hid Ob.mayLet LiV.b
  simp
 have HB1:=hide B1
 clear hA ok B1
 generalize Ob.mayLet x.b=z at *
 generalize La.needs (nbs x.nd)=y at *
 obtain ⟨n0,p0,t0,h0,⟨ck0,cs0,cn0⟩,f0,nd0,a0,c0⟩:=x
 simp only [aDk] at C1 HB1
 dsimp only at *
 by_cases h2:f0=2
 ·subst h2
  rw [if_pos rfl] at HP
  go_enter Tryz.func143,Tryz.ntmps143
  go_wp2_with fail
  refine (C1.out).mono ?_
  rintro e w1 ⟨rfl,hb1⟩
  go_wp2_with fail
  go_ret
  exact ⟨aA1 HP.out.symm,bb2 HB1.out hb1⟩
 ·rw [if_neg h2] at HP
  have h2':(f0 == 2)=false:=by simpa using h2
  clear h2
  by_cases hz:nd0.length=0
  ·have hz':((nd0.length:Int) == 0)=true:=by simp [hz]
   rw [decide_eq_true hz] at HP
   clear hz
   by_cases h0':f0=0
   ·subst h0'
    go_enter Tryz.func143,Tryz.ntmps143
    go_wp2_with fail
    go_ret
    exact ⟨aA1 (by rw [HP.out];rfl),HB1.out⟩
   ·have h0:(f0 == 0)=false:=by simpa using h0'
    rw [decide_eq_false h0'] at HP
    clear h0'
    by_cases h1':f0=1
    ·subst h1'
     go_enter Tryz.func143,Tryz.ntmps143
     go_wp2_with fail
     go_ret
     exact ⟨aA1 (by rw [HP.out];rfl),HB1.out⟩
    ·have h1:(f0 == 1)=false:=by simpa using h1'
     rw [decide_eq_false h1'] at HP
     clear h1'
     go_enter Tryz.func143,Tryz.ntmps143
     go_wp2_with fail
     go_ret
     exact ⟨aA1 (by rw [HP.out];rfl),HB1.out⟩
  ·have hz':((nd0.length:Int) == 0)=false:=by rw [beq_eq_false_iff_ne];omega
   rw [decide_eq_false hz,Bool.and_false] at HP
   clear hz
   cases h0:(f0 == 0)
   ·cases h1:(f0 == 1)
    ·go_enter Tryz.func143,Tryz.ntmps143
     go_wp2_with fail
     go_ret
     exact ⟨aA1 (by rw [HP.out]),HB1.out⟩
    ·go_enter Tryz.func143,Tryz.ntmps143
     go_wp2_with fail
     go_ret
     exact ⟨aA1 (by rw [HP.out]),HB1.out⟩
   ·go_enter Tryz.func143,Tryz.ntmps143
    go_wp2_with fail
    go_ret
    exact ⟨aA1 (by rw [HP.out]),HB1.out⟩
theorem aQu (x:LiV) (w:World) (hA:Sl EN w x.v x.nd) (ok:OkLi x) :
  Calls Tryz.prog 109 #[liV x] w fun e w'=>e=.returned (.bool (Ob.mayLi x.b))∧Below w.heap.size w w':=by
 have HP:Hid (Ob.mayLi x.b=(Ob.isL x.name&&(Ob.isPort x.port&&(may x.host.data.toList&&(Ob.mayCert x.b&&Ob.mayLet x.b))))):=by
  rfl
 have B1:Below w.heap.size w (w.alloc (.cells #[.string x.name,.int .i64 x.port,.bool x.tls,.string x.host,.int .i64 x.cert.kind,.string x.cert.space,.string x.cert.name,.int .i64 x.frm,x.v] 67)):=(Below.refl _ _).alloc (Nat.le_refl _) _
 have C1:=fun W (h:Below (w.alloc (.cells #[.string x.name,.int .i64 x.port,.bool x.tls,.string x.host,.int .i64 x.cert.kind,.string x.cert.space,.string x.cert.name,.int .i64 x.frm,x.v] 67)).heap.size (w.alloc (.cells #[.string x.name,.int .i64 x.port,.bool x.tls,.string x.host,.int .i64 x.cert.kind,.string x.cert.space,.string x.cert.name,.int .i64 x.frm,x.v] 67)) W)=>hide (aEq x.name W (sm ok.name))
 have C2:=fun W (h:Below (w.alloc (.cells #[.string x.name,.int .i64 x.port,.bool x.tls,.string x.host,.int .i64 x.cert.kind,.string x.cert.space,.string x.cert.name,.int .i64 x.frm,x.v] 67)).heap.size (w.alloc (.cells #[.string x.name,.int .i64 x.port,.bool x.tls,.string x.host,.int .i64 x.cert.kind,.string x.cert.space,.string x.cert.name,.int .i64 x.frm,x.v] 67)) W)=>hide (aGa x.port W)
 have C3:=fun W (h:Below (w.alloc (.cells #[.string x.name,.int .i64 x.port,.bool x.tls,.string x.host,.int .i64 x.cert.kind,.string x.cert.space,.string x.cert.name,.int .i64 x.frm,x.v] 67)).heap.size (w.alloc (.cells #[.string x.name,.int .i64 x.port,.bool x.tls,.string x.host,.int .i64 x.cert.kind,.string x.cert.space,.string x.cert.name,.int .i64 x.frm,x.v] 67)) W)=>hide (aL9 x.host W (sm ok.host))
 have C4:=fun W (h:Below (w.alloc (.cells #[.string x.name,.int .i64 x.port,.bool x.tls,.string x.host,.int .i64 x.cert.kind,.string x.cert.space,.string x.cert.name,.int .i64 x.frm,x.v] 67)).heap.size (w.alloc (.cells #[.string x.name,.int .i64 x.port,.bool x.tls,.string x.host,.int .i64 x.cert.kind,.string x.cert.space,.string x.cert.name,.int .i64 x.frm,x.v] 67)) W)=>hide (aN3 x W ok.cert)
 have C5:=fun W (h:Below (w.alloc (.cells #[.string x.name,.int .i64 x.port,.bool x.tls,.string x.host,.int .i64 x.cert.kind,.string x.cert.space,.string x.cert.name,.int .i64 x.frm,x.v] 67)).heap.size (w.alloc (.cells #[.string x.name,.int .i64 x.port,.bool x.tls,.string x.host,.int .i64 x.cert.kind,.string x.cert.space,.string x.cert.name,.int .i64 x.frm,x.v] 67)) W)=>hide (aOq x W (hA.below (bb2 B1 h)) ok.nd)
 have m0:∀ q:GB (w.alloc (.cells #[.string x.name,.int .i64 x.port,.bool x.tls,.string x.host,.int .i64 x.cert.kind,.string x.cert.space,.string x.cert.name,.int .i64 x.frm,x.v] 67)),q.W.cell? ⟨w.heap.size,0,none⟩=some (.string x.name):=fun q=>by simpa using (aBn (aC4 q.h)).1
 have m1:∀ q:GB (w.alloc (.cells #[.string x.name,.int .i64 x.port,.bool x.tls,.string x.host,.int .i64 x.cert.kind,.string x.cert.space,.string x.cert.name,.int .i64 x.frm,x.v] 67)),q.W.cell? ⟨w.heap.size,1,none⟩=some (.int .i64 x.port):=fun q=>by simpa using (aBn (aC4 q.h)).2.1
 have m2:∀ q:GB (w.alloc (.cells #[.string x.name,.int .i64 x.port,.bool x.tls,.string x.host,.int .i64 x.cert.kind,.string x.cert.space,.string x.cert.name,.int .i64 x.frm,x.v] 67)),q.W.cell? ⟨w.heap.size,2,none⟩=some (.bool x.tls):=fun q=>by simpa using (aBn (aC4 q.h)).2.2.1
 have m3:∀ q:GB (w.alloc (.cells #[.string x.name,.int .i64 x.port,.bool x.tls,.string x.host,.int .i64 x.cert.kind,.string x.cert.space,.string x.cert.name,.int .i64 x.frm,x.v] 67)),q.W.cell? ⟨w.heap.size,3,none⟩=some (.string x.host):=fun q=>by simpa using (aBn (aC4 q.h)).2.2.2.1
 have m4:∀ q:GB (w.alloc (.cells #[.string x.name,.int .i64 x.port,.bool x.tls,.string x.host,.int .i64 x.cert.kind,.string x.cert.space,.string x.cert.name,.int .i64 x.frm,x.v] 67)),q.W.cell? ⟨w.heap.size,4,none⟩=some (.int .i64 x.cert.kind):=fun q=>by simpa using (aBn (aC4 q.h)).2.2.2.2.1
 have m5:∀ q:GB (w.alloc (.cells #[.string x.name,.int .i64 x.port,.bool x.tls,.string x.host,.int .i64 x.cert.kind,.string x.cert.space,.string x.cert.name,.int .i64 x.frm,x.v] 67)),q.W.cell? ⟨w.heap.size,5,none⟩=some (.string x.cert.space):=fun q=>by simpa using (aBn (aC4 q.h)).2.2.2.2.2.1
 have m6:∀ q:GB (w.alloc (.cells #[.string x.name,.int .i64 x.port,.bool x.tls,.string x.host,.int .i64 x.cert.kind,.string x.cert.space,.string x.cert.name,.int .i64 x.frm,x.v] 67)),q.W.cell? ⟨w.heap.size,6,none⟩=some (.string x.cert.name):=fun q=>by simpa using (aBn (aC4 q.h)).2.2.2.2.2.2.1
 have m7:∀ q:GB (w.alloc (.cells #[.string x.name,.int .i64 x.port,.bool x.tls,.string x.host,.int .i64 x.cert.kind,.string x.cert.space,.string x.cert.name,.int .i64 x.frm,x.v] 67)),q.W.cell? ⟨w.heap.size,7,none⟩=some (.int .i64 x.frm):=fun q=>by simpa using (aBn (aC4 q.h)).2.2.2.2.2.2.2.1
 have m8:∀ q:GB (w.alloc (.cells #[.string x.name,.int .i64 x.port,.bool x.tls,.string x.host,.int .i64 x.cert.kind,.string x.cert.space,.string x.cert.name,.int .i64 x.frm,x.v] 67)),q.W.cell? ⟨w.heap.size,8,none⟩=some (x.v):=fun q=>by simpa using (aBn (aC4 q.h)).2.2.2.2.2.2.2.2
 have HB1:=hide B1
 clear B1
 clear hA ok
 generalize Ob.mayLi x.b=z at *
 generalize Ob.isL x.name=y1 at *
 generalize Ob.isPort x.port=y2 at *
 generalize may x.host.data.toList=y3 at *
 generalize Ob.mayCert x.b=y4 at *
 generalize Ob.mayLet x.b=y5 at *
 obtain ⟨n0,p0,t0,h0,⟨ck0,cs0,cn0⟩,f0,nd0,a0,c0⟩:=x
 try dsimp only at *
 cases y1
 ·go_enter Tryz.func109,Tryz.ntmps109
  go_wp2_with fail
  refine (aA5 ((C1 _ (Below.refl _ _)).out)).mono ?_
  rintro e x ⟨rfl,q,rfl⟩
  go_wp2_with fail
  go_ret
  exact ⟨aA1 HP.out.symm,bb2 HB1.out q.h⟩
 cases y2
 ·go_enter Tryz.func109,Tryz.ntmps109
  go_wp2_with fail
  refine (aA5 ((C1 _ (Below.refl _ _)).out)).mono ?_
  rintro e x ⟨rfl,q,rfl⟩
  go_wp2_with fail
  refine (aA3 ((C2 _ q.h).out)).mono ?_
  rintro e x ⟨rfl,q,rfl⟩
  go_wp2_with fail
  go_ret
  exact ⟨aA1 HP.out.symm,bb2 HB1.out q.h⟩
 cases y3
 ·go_enter Tryz.func109,Tryz.ntmps109
  go_wp2_with fail
  refine (aA5 ((C1 _ (Below.refl _ _)).out)).mono ?_
  rintro e x ⟨rfl,q,rfl⟩
  go_wp2_with fail
  refine (aA3 ((C2 _ q.h).out)).mono ?_
  rintro e x ⟨rfl,q,rfl⟩
  go_wp2_with fail
  refine (aA3 ((C3 _ q.h).out)).mono ?_
  rintro e x ⟨rfl,q,rfl⟩
  go_wp2_with fail
  go_ret
  exact ⟨aA1 HP.out.symm,bb2 HB1.out q.h⟩
 cases y4
 ·go_enter Tryz.func109,Tryz.ntmps109
  go_wp2_with fail
  refine (aA5 ((C1 _ (Below.refl _ _)).out)).mono ?_
  rintro e x ⟨rfl,q,rfl⟩
  go_wp2_with fail
  refine (aA3 ((C2 _ q.h).out)).mono ?_
  rintro e x ⟨rfl,q,rfl⟩
  go_wp2_with fail
  refine (aA3 ((C3 _ q.h).out)).mono ?_
  rintro e x ⟨rfl,q,rfl⟩
  go_wp2_with fail
  refine (aA3 ((C4 _ q.h).out)).mono ?_
  rintro e x ⟨rfl,q,rfl⟩
  go_wp2_with fail
  go_ret
  exact ⟨aA1 HP.out.symm,bb2 HB1.out q.h⟩
 go_enter Tryz.func109,Tryz.ntmps109
 go_wp2_with fail
 refine (aA5 ((C1 _ (Below.refl _ _)).out)).mono ?_
 rintro e x ⟨rfl,q,rfl⟩
 go_wp2_with fail
 refine (aA3 ((C2 _ q.h).out)).mono ?_
 rintro e x ⟨rfl,q,rfl⟩
 go_wp2_with fail
 refine (aA3 ((C3 _ q.h).out)).mono ?_
 rintro e x ⟨rfl,q,rfl⟩
 go_wp2_with fail
 refine (aA3 ((C4 _ q.h).out)).mono ?_
 rintro e x ⟨rfl,q,rfl⟩
 go_wp2_with fail
 refine (aA3 ((C5 _ q.h).out)).mono ?_
 rintro e x ⟨rfl,q,rfl⟩
 go_wp2_with fail
 go_ret
 exact ⟨aA1 HP.out.symm,bb2 HB1.out q.h⟩
theorem aQv (x:PtB) (w:World) (ok:OkPt x) :
  Calls Tryz.prog 113 #[ptV x] w fun e w'=>e=.returned (.bool (Ob.mayPt x))∧Below w.heap.size w w':=by
 have HP:Hid (Ob.mayPt x=(Ob.isSpace x.space&&(Ob.isN x.name&&((x.sect.toList.isEmpty||Ob.isL x.sect)&&Ob.anyPort x.port)))):=by
  unfold Hid Ob.mayPt
  rw [aBs]
  rfl
 have B1:Below w.heap.size w (w.alloc (.cells #[.string x.space,.string x.name,.string x.sect,.int .i64 x.port] 70)):=(Below.refl _ _).alloc (Nat.le_refl _) _
 have C1:=fun W (h:Below (w.alloc (.cells #[.string x.space,.string x.name,.string x.sect,.int .i64 x.port] 70)).heap.size (w.alloc (.cells #[.string x.space,.string x.name,.string x.sect,.int .i64 x.port] 70)) W)=>hide (aFg x.space W (sm ok.space))
 have C2:=fun W (h:Below (w.alloc (.cells #[.string x.space,.string x.name,.string x.sect,.int .i64 x.port] 70)).heap.size (w.alloc (.cells #[.string x.space,.string x.name,.string x.sect,.int .i64 x.port] 70)) W)=>hide (aF1 x.name W (sm ok.name))
 have C3:=fun W (h:Below (w.alloc (.cells #[.string x.space,.string x.name,.string x.sect,.int .i64 x.port] 70)).heap.size (w.alloc (.cells #[.string x.space,.string x.name,.string x.sect,.int .i64 x.port] 70)) W)=>hide (aEq x.sect W (sm ok.sect))
 have C4:=fun W (h:Below (w.alloc (.cells #[.string x.space,.string x.name,.string x.sect,.int .i64 x.port] 70)).heap.size (w.alloc (.cells #[.string x.space,.string x.name,.string x.sect,.int .i64 x.port] 70)) W)=>hide (aHj x.port W)
 have m0:∀ q:GB (w.alloc (.cells #[.string x.space,.string x.name,.string x.sect,.int .i64 x.port] 70)),q.W.cell? ⟨w.heap.size,0,none⟩=some (.string x.space):=fun q=>by simpa using (aFp (aIt q.h)).1
 have m1:∀ q:GB (w.alloc (.cells #[.string x.space,.string x.name,.string x.sect,.int .i64 x.port] 70)),q.W.cell? ⟨w.heap.size,1,none⟩=some (.string x.name):=fun q=>by simpa using (aFp (aIt q.h)).2.1
 have m2:∀ q:GB (w.alloc (.cells #[.string x.space,.string x.name,.string x.sect,.int .i64 x.port] 70)),q.W.cell? ⟨w.heap.size,2,none⟩=some (.string x.sect):=fun q=>by simpa using (aFp (aIt q.h)).2.2.1
 have m3:∀ q:GB (w.alloc (.cells #[.string x.space,.string x.name,.string x.sect,.int .i64 x.port] 70)),q.W.cell? ⟨w.heap.size,3,none⟩=some (.int .i64 x.port):=fun q=>by simpa using (aFp (aIt q.h)).2.2.2
 have HB1:=hide B1
 clear B1
 clear ok
 generalize Ob.mayPt x=z at *
 generalize Ob.isSpace x.space=y1 at *
 generalize Ob.isN x.name=y2 at *
 generalize Ob.isL x.sect=y3 at *
 generalize Ob.anyPort x.port=y4 at *
 obtain ⟨s0,n0,t0,p0⟩:=x
 try dsimp only at *
 cases y1
 ·go_enter Tryz.func113,Tryz.ntmps113
  go_wp2_with fail
  refine (aA5 ((C1 _ (Below.refl _ _)).out)).mono ?_
  rintro e x ⟨rfl,q,rfl⟩
  go_wp2_with fail
  go_ret
  exact ⟨aA1 HP.out.symm,bb2 HB1.out q.h⟩
 cases y2
 ·go_enter Tryz.func113,Tryz.ntmps113
  go_wp2_with fail
  refine (aA5 ((C1 _ (Below.refl _ _)).out)).mono ?_
  rintro e x ⟨rfl,q,rfl⟩
  go_wp2_with fail
  refine (aA3 ((C2 _ q.h).out)).mono ?_
  rintro e x ⟨rfl,q,rfl⟩
  go_wp2_with fail
  go_ret
  exact ⟨aA1 HP.out.symm,bb2 HB1.out q.h⟩
 cases ht2:t0.toList.isEmpty
 ·rw [ht2] at HP
  cases y3
  ·go_enter Tryz.func113,Tryz.ntmps113
   go_wp2_with fail
   refine (aA5 ((C1 _ (Below.refl _ _)).out)).mono ?_
   rintro e x ⟨rfl,q,rfl⟩
   go_wp2_with fail
   refine (aA3 ((C2 _ q.h).out)).mono ?_
   rintro e x ⟨rfl,q,rfl⟩
   go_wp2_with fail
   refine (aA3 ((C3 _ q.h).out)).mono ?_
   rintro e x ⟨rfl,q,rfl⟩
   go_wp2_with fail
   go_ret
   exact ⟨aA1 HP.out.symm,bb2 HB1.out q.h⟩
  go_enter Tryz.func113,Tryz.ntmps113
  go_wp2_with fail
  refine (aA5 ((C1 _ (Below.refl _ _)).out)).mono ?_
  rintro e x ⟨rfl,q,rfl⟩
  go_wp2_with fail
  refine (aA3 ((C2 _ q.h).out)).mono ?_
  rintro e x ⟨rfl,q,rfl⟩
  go_wp2_with fail
  refine (aA3 ((C3 _ q.h).out)).mono ?_
  rintro e x ⟨rfl,q,rfl⟩
  go_wp2_with fail
  refine (aA3 ((C4 _ q.h).out)).mono ?_
  rintro e x ⟨rfl,q,rfl⟩
  go_wp2_with fail
  go_ret
  exact ⟨aA1 HP.out.symm,bb2 HB1.out q.h⟩
 rw [ht2] at HP
 go_enter Tryz.func113,Tryz.ntmps113
 go_wp2_with fail
 refine (aA5 ((C1 _ (Below.refl _ _)).out)).mono ?_
 rintro e x ⟨rfl,q,rfl⟩
 go_wp2_with fail
 refine (aA3 ((C2 _ q.h).out)).mono ?_
 rintro e x ⟨rfl,q,rfl⟩
 go_wp2_with fail
 refine (aA3 ((C4 _ q.h).out)).mono ?_
 rintro e x ⟨rfl,q,rfl⟩
 go_wp2_with fail
 go_ret
 exact ⟨aA1 HP.out.symm,bb2 HB1.out q.h⟩
theorem aQw (x:BkB) (w:World) (ok:OkRf x.ref) :
  Calls Tryz.prog 159 #[bkV x] w fun e w'=>e=.returned (.bool (Ob.mayBk x))∧Below w.heap.size w w':=by
 have HP:Hid (Ob.mayBk x=(Ob.isKind x.ref.kind&&(Ob.isSpace x.ref.space&&(Ob.isN x.ref.name&&(Ob.anyPort x.port&&(decide (0≤x.weight)&&decide (x.weight≤1000))))))):=by
  unfold Hid Ob.mayBk
  rw [Bool.decide_and]
 have B1:Below w.heap.size w (w.alloc (.cells #[.int .i64 x.ref.kind,.string x.ref.space,.string x.ref.name,.int .i64 x.port,.int .i64 x.weight] 91)):=(Below.refl _ _).alloc (Nat.le_refl _) _
 have C1:=fun W (h:Below (w.alloc (.cells #[.int .i64 x.ref.kind,.string x.ref.space,.string x.ref.name,.int .i64 x.port,.int .i64 x.weight] 91)).heap.size (w.alloc (.cells #[.int .i64 x.ref.kind,.string x.ref.space,.string x.ref.name,.int .i64 x.port,.int .i64 x.weight] 91)) W)=>hide (aEh x.ref.kind W)
 have C2:=fun W (h:Below (w.alloc (.cells #[.int .i64 x.ref.kind,.string x.ref.space,.string x.ref.name,.int .i64 x.port,.int .i64 x.weight] 91)).heap.size (w.alloc (.cells #[.int .i64 x.ref.kind,.string x.ref.space,.string x.ref.name,.int .i64 x.port,.int .i64 x.weight] 91)) W)=>hide (aFg x.ref.space W (sm ok.space))
 have C3:=fun W (h:Below (w.alloc (.cells #[.int .i64 x.ref.kind,.string x.ref.space,.string x.ref.name,.int .i64 x.port,.int .i64 x.weight] 91)).heap.size (w.alloc (.cells #[.int .i64 x.ref.kind,.string x.ref.space,.string x.ref.name,.int .i64 x.port,.int .i64 x.weight] 91)) W)=>hide (aF1 x.ref.name W (sm ok.name))
 have C4:=fun W (h:Below (w.alloc (.cells #[.int .i64 x.ref.kind,.string x.ref.space,.string x.ref.name,.int .i64 x.port,.int .i64 x.weight] 91)).heap.size (w.alloc (.cells #[.int .i64 x.ref.kind,.string x.ref.space,.string x.ref.name,.int .i64 x.port,.int .i64 x.weight] 91)) W)=>hide (aHj x.port W)
 have m0:∀ q:GB (w.alloc (.cells #[.int .i64 x.ref.kind,.string x.ref.space,.string x.ref.name,.int .i64 x.port,.int .i64 x.weight] 91)),q.W.cell? ⟨w.heap.size,0,none⟩=some (.int .i64 x.ref.kind):=fun q=>by simpa using (aH9 (boxK q.h)).1
 have m1:∀ q:GB (w.alloc (.cells #[.int .i64 x.ref.kind,.string x.ref.space,.string x.ref.name,.int .i64 x.port,.int .i64 x.weight] 91)),q.W.cell? ⟨w.heap.size,1,none⟩=some (.string x.ref.space):=fun q=>by simpa using (aH9 (boxK q.h)).2.1
 have m2:∀ q:GB (w.alloc (.cells #[.int .i64 x.ref.kind,.string x.ref.space,.string x.ref.name,.int .i64 x.port,.int .i64 x.weight] 91)),q.W.cell? ⟨w.heap.size,2,none⟩=some (.string x.ref.name):=fun q=>by simpa using (aH9 (boxK q.h)).2.2.1
 have m3:∀ q:GB (w.alloc (.cells #[.int .i64 x.ref.kind,.string x.ref.space,.string x.ref.name,.int .i64 x.port,.int .i64 x.weight] 91)),q.W.cell? ⟨w.heap.size,3,none⟩=some (.int .i64 x.port):=fun q=>by simpa using (aH9 (boxK q.h)).2.2.2.1
 have m4:∀ q:GB (w.alloc (.cells #[.int .i64 x.ref.kind,.string x.ref.space,.string x.ref.name,.int .i64 x.port,.int .i64 x.weight] 91)),q.W.cell? ⟨w.heap.size,4,none⟩=some (.int .i64 x.weight):=fun q=>by simpa using (aH9 (boxK q.h)).2.2.2.2
 have HB1:=hide B1
 clear B1
 clear ok
 generalize Ob.mayBk x=z at *
 generalize Ob.isKind x.ref.kind=y1 at *
 generalize Ob.isSpace x.ref.space=y2 at *
 generalize Ob.isN x.ref.name=y3 at *
 generalize Ob.anyPort x.port=y4 at *
 obtain ⟨⟨k0,s0,n0⟩,p0,w0⟩:=x
 try dsimp only at *
 cases y1
 ·go_enter Tryz.func159,Tryz.ntmps159
  go_wp2_with fail
  refine (aA5 ((C1 _ (Below.refl _ _)).out)).mono ?_
  rintro e x ⟨rfl,q,rfl⟩
  go_wp2_with fail
  go_ret
  exact ⟨aA1 HP.out.symm,bb2 HB1.out q.h⟩
 cases y2
 ·go_enter Tryz.func159,Tryz.ntmps159
  go_wp2_with fail
  refine (aA5 ((C1 _ (Below.refl _ _)).out)).mono ?_
  rintro e x ⟨rfl,q,rfl⟩
  go_wp2_with fail
  refine (aA3 ((C2 _ q.h).out)).mono ?_
  rintro e x ⟨rfl,q,rfl⟩
  go_wp2_with fail
  go_ret
  exact ⟨aA1 HP.out.symm,bb2 HB1.out q.h⟩
 cases y3
 ·go_enter Tryz.func159,Tryz.ntmps159
  go_wp2_with fail
  refine (aA5 ((C1 _ (Below.refl _ _)).out)).mono ?_
  rintro e x ⟨rfl,q,rfl⟩
  go_wp2_with fail
  refine (aA3 ((C2 _ q.h).out)).mono ?_
  rintro e x ⟨rfl,q,rfl⟩
  go_wp2_with fail
  refine (aA3 ((C3 _ q.h).out)).mono ?_
  rintro e x ⟨rfl,q,rfl⟩
  go_wp2_with fail
  go_ret
  exact ⟨aA1 HP.out.symm,bb2 HB1.out q.h⟩
 cases y4
 ·go_enter Tryz.func159,Tryz.ntmps159
  go_wp2_with fail
  refine (aA5 ((C1 _ (Below.refl _ _)).out)).mono ?_
  rintro e x ⟨rfl,q,rfl⟩
  go_wp2_with fail
  refine (aA3 ((C2 _ q.h).out)).mono ?_
  rintro e x ⟨rfl,q,rfl⟩
  go_wp2_with fail
  refine (aA3 ((C3 _ q.h).out)).mono ?_
  rintro e x ⟨rfl,q,rfl⟩
  go_wp2_with fail
  refine (aA3 ((C4 _ q.h).out)).mono ?_
  rintro e x ⟨rfl,q,rfl⟩
  go_wp2_with fail
  go_ret
  exact ⟨aA1 HP.out.symm,bb2 HB1.out q.h⟩
 cases ht4:decide (0≤w0)
 ·rw [ht4] at HP
  go_enter Tryz.func159,Tryz.ntmps159
  go_wp2_with fail
  refine (aA5 ((C1 _ (Below.refl _ _)).out)).mono ?_
  rintro e x ⟨rfl,q,rfl⟩
  go_wp2_with fail
  refine (aA3 ((C2 _ q.h).out)).mono ?_
  rintro e x ⟨rfl,q,rfl⟩
  go_wp2_with fail
  refine (aA3 ((C3 _ q.h).out)).mono ?_
  rintro e x ⟨rfl,q,rfl⟩
  go_wp2_with fail
  refine (aA3 ((C4 _ q.h).out)).mono ?_
  rintro e x ⟨rfl,q,rfl⟩
  go_wp2_with fail
  go_ret
  exact ⟨aA1 HP.out.symm,bb2 HB1.out q.h⟩
 rw [ht4] at HP
 cases ht5:decide (w0≤1000)
 ·rw [ht5] at HP
  go_enter Tryz.func159,Tryz.ntmps159
  go_wp2_with fail
  refine (aA5 ((C1 _ (Below.refl _ _)).out)).mono ?_
  rintro e x ⟨rfl,q,rfl⟩
  go_wp2_with fail
  refine (aA3 ((C2 _ q.h).out)).mono ?_
  rintro e x ⟨rfl,q,rfl⟩
  go_wp2_with fail
  refine (aA3 ((C3 _ q.h).out)).mono ?_
  rintro e x ⟨rfl,q,rfl⟩
  go_wp2_with fail
  refine (aA3 ((C4 _ q.h).out)).mono ?_
  rintro e x ⟨rfl,q,rfl⟩
  go_wp2_with fail
  go_ret
  exact ⟨aA1 HP.out.symm,bb2 HB1.out q.h⟩
 rw [ht5] at HP
 go_enter Tryz.func159,Tryz.ntmps159
 go_wp2_with fail
 refine (aA5 ((C1 _ (Below.refl _ _)).out)).mono ?_
 rintro e x ⟨rfl,q,rfl⟩
 go_wp2_with fail
 refine (aA3 ((C2 _ q.h).out)).mono ?_
 rintro e x ⟨rfl,q,rfl⟩
 go_wp2_with fail
 refine (aA3 ((C3 _ q.h).out)).mono ?_
 rintro e x ⟨rfl,q,rfl⟩
 go_wp2_with fail
 refine (aA3 ((C4 _ q.h).out)).mono ?_
 rintro e x ⟨rfl,q,rfl⟩
 go_wp2_with fail
 go_ret
 exact ⟨aA1 HP.out.symm,bb2 HB1.out q.h⟩
theorem aQx (x:RfB) (w:World) (ok:OkRf x) :
  Calls Tryz.prog 123 #[rfV x] w fun e w'=>e=.returned (.bool (Ob.mayFr x))∧Below w.heap.size w w':=by
 have HP:Hid (Ob.mayFr x=(Ob.isKind x.kind&&(Ob.isL x.space&&x.name.toList.isEmpty))):=by
  unfold Hid Ob.mayFr
  rw [aBs]
 have B1:Below w.heap.size w (w.alloc (.cells #[.int .i64 x.kind,.string x.space,.string x.name] 53)):=(Below.refl _ _).alloc (Nat.le_refl _) _
 have C1:=fun W (h:Below (w.alloc (.cells #[.int .i64 x.kind,.string x.space,.string x.name] 53)).heap.size (w.alloc (.cells #[.int .i64 x.kind,.string x.space,.string x.name] 53)) W)=>hide (aEh x.kind W)
 have C2:=fun W (h:Below (w.alloc (.cells #[.int .i64 x.kind,.string x.space,.string x.name] 53)).heap.size (w.alloc (.cells #[.int .i64 x.kind,.string x.space,.string x.name] 53)) W)=>hide (aEq x.space W (sm ok.space))
 have m0:∀ q:GB (w.alloc (.cells #[.int .i64 x.kind,.string x.space,.string x.name] 53)),q.W.cell? ⟨w.heap.size,0,none⟩=some (.int .i64 x.kind):=fun q=>by simpa using (aCi (boxD q.h)).1
 have m1:∀ q:GB (w.alloc (.cells #[.int .i64 x.kind,.string x.space,.string x.name] 53)),q.W.cell? ⟨w.heap.size,1,none⟩=some (.string x.space):=fun q=>by simpa using (aCi (boxD q.h)).2.1
 have m2:∀ q:GB (w.alloc (.cells #[.int .i64 x.kind,.string x.space,.string x.name] 53)),q.W.cell? ⟨w.heap.size,2,none⟩=some (.string x.name):=fun q=>by simpa using (aCi (boxD q.h)).2.2
 have HB1:=hide B1
 clear B1
 clear ok
 generalize Ob.mayFr x=z at *
 generalize Ob.isKind x.kind=y1 at *
 generalize Ob.isL x.space=y2 at *
 obtain ⟨k0,s0,n0⟩:=x
 try dsimp only at *
 cases y1
 ·go_enter Tryz.func123,Tryz.ntmps123
  go_wp2_with fail
  refine (aA5 ((C1 _ (Below.refl _ _)).out)).mono ?_
  rintro e x ⟨rfl,q,rfl⟩
  go_wp2_with fail
  go_ret
  exact ⟨aA1 HP.out.symm,bb2 HB1.out q.h⟩
 cases y2
 ·go_enter Tryz.func123,Tryz.ntmps123
  go_wp2_with fail
  refine (aA5 ((C1 _ (Below.refl _ _)).out)).mono ?_
  rintro e x ⟨rfl,q,rfl⟩
  go_wp2_with fail
  refine (aA3 ((C2 _ q.h).out)).mono ?_
  rintro e x ⟨rfl,q,rfl⟩
  go_wp2_with fail
  go_ret
  exact ⟨aA1 HP.out.symm,bb2 HB1.out q.h⟩
 cases ht2:n0.toList.isEmpty
 ·rw [ht2] at HP
  go_enter Tryz.func123,Tryz.ntmps123
  go_wp2_with fail
  refine (aA5 ((C1 _ (Below.refl _ _)).out)).mono ?_
  rintro e x ⟨rfl,q,rfl⟩
  go_wp2_with fail
  refine (aA3 ((C2 _ q.h).out)).mono ?_
  rintro e x ⟨rfl,q,rfl⟩
  go_wp2_with fail
  go_ret
  exact ⟨aA1 HP.out.symm,bb2 HB1.out q.h⟩
 rw [ht2] at HP
 go_enter Tryz.func123,Tryz.ntmps123
 go_wp2_with fail
 refine (aA5 ((C1 _ (Below.refl _ _)).out)).mono ?_
 rintro e x ⟨rfl,q,rfl⟩
 go_wp2_with fail
 refine (aA3 ((C2 _ q.h).out)).mono ?_
 rintro e x ⟨rfl,q,rfl⟩
 go_wp2_with fail
 go_ret
 exact ⟨aA1 HP.out.symm,bb2 HB1.out q.h⟩
theorem aQy (x:RfB) (w:World) (ok:OkRf x) :
  Calls Tryz.prog 124 #[rfV x] w fun e w'=>e=.returned (.bool (Ob.mayTo x))∧Below w.heap.size w w':=by
 have HP:Hid (Ob.mayTo x=(Ob.isKind x.kind&&(x.space.toList.isEmpty&&(x.name.toList.isEmpty||Ob.isN x.name)))):=by
  unfold Hid Ob.mayTo
  rw [aBs,aBs]
 have B1:Below w.heap.size w (w.alloc (.cells #[.int .i64 x.kind,.string x.space,.string x.name] 53)):=(Below.refl _ _).alloc (Nat.le_refl _) _
 have C1:=fun W (h:Below (w.alloc (.cells #[.int .i64 x.kind,.string x.space,.string x.name] 53)).heap.size (w.alloc (.cells #[.int .i64 x.kind,.string x.space,.string x.name] 53)) W)=>hide (aEh x.kind W)
 have C2:=fun W (h:Below (w.alloc (.cells #[.int .i64 x.kind,.string x.space,.string x.name] 53)).heap.size (w.alloc (.cells #[.int .i64 x.kind,.string x.space,.string x.name] 53)) W)=>hide (aF1 x.name W (sm ok.name))
 have m0:∀ q:GB (w.alloc (.cells #[.int .i64 x.kind,.string x.space,.string x.name] 53)),q.W.cell? ⟨w.heap.size,0,none⟩=some (.int .i64 x.kind):=fun q=>by simpa using (aCi (boxD q.h)).1
 have m1:∀ q:GB (w.alloc (.cells #[.int .i64 x.kind,.string x.space,.string x.name] 53)),q.W.cell? ⟨w.heap.size,1,none⟩=some (.string x.space):=fun q=>by simpa using (aCi (boxD q.h)).2.1
 have m2:∀ q:GB (w.alloc (.cells #[.int .i64 x.kind,.string x.space,.string x.name] 53)),q.W.cell? ⟨w.heap.size,2,none⟩=some (.string x.name):=fun q=>by simpa using (aCi (boxD q.h)).2.2
 have HB1:=hide B1
 clear B1
 clear ok
 generalize Ob.mayTo x=z at *
 generalize Ob.isKind x.kind=y1 at *
 generalize Ob.isN x.name=y2 at *
 obtain ⟨k0,s0,n0⟩:=x
 try dsimp only at *
 cases y1
 ·go_enter Tryz.func124,Tryz.ntmps124
  go_wp2_with fail
  refine (aA5 ((C1 _ (Below.refl _ _)).out)).mono ?_
  rintro e x ⟨rfl,q,rfl⟩
  go_wp2_with fail
  go_ret
  exact ⟨aA1 HP.out.symm,bb2 HB1.out q.h⟩
 cases ht1:s0.toList.isEmpty
 ·rw [ht1] at HP
  go_enter Tryz.func124,Tryz.ntmps124
  go_wp2_with fail
  refine (aA5 ((C1 _ (Below.refl _ _)).out)).mono ?_
  rintro e x ⟨rfl,q,rfl⟩
  go_wp2_with fail
  go_ret
  exact ⟨aA1 HP.out.symm,bb2 HB1.out q.h⟩
 rw [ht1] at HP
 cases ht2:n0.toList.isEmpty
 ·rw [ht2] at HP
  go_enter Tryz.func124,Tryz.ntmps124
  go_wp2_with fail
  refine (aA5 ((C1 _ (Below.refl _ _)).out)).mono ?_
  rintro e x ⟨rfl,q,rfl⟩
  go_wp2_with fail
  refine (aA3 ((C2 _ q.h).out)).mono ?_
  rintro e x ⟨rfl,q,rfl⟩
  go_wp2_with fail
  go_ret
  exact ⟨aA1 HP.out.symm,bb2 HB1.out q.h⟩
 rw [ht2] at HP
 go_enter Tryz.func124,Tryz.ntmps124
 go_wp2_with fail
 refine (aA5 ((C1 _ (Below.refl _ _)).out)).mono ?_
 rintro e x ⟨rfl,q,rfl⟩
 go_wp2_with fail
 go_ret
 exact ⟨aA1 HP.out.symm,bb2 HB1.out q.h⟩
end Go.Proofs.YthnodpdiocppgaaGreatDoor
namespace Go.Proofs.YthnodpdiocppgaaGreatDoor
open Go Go.RowKit Go.Shelf
namespace Ob
def sameMV (x y:MV):Bool:=sameMB x.m y.m
def sameLiV (x y:LiV):Bool:=sameLi x.b y.b
def sameRlV (x y:RlV):Bool:=sameRl x.b y.b
theorem eqL_map {α β:Type} (eq:β→β→Bool) (f:α→β):∀ x y:List α,eqL (fun a b=>eq (f a) (f b)) x y=eqL eq (x.map f) (y.map f)
 | [],[]=>rfl
 | [],_::_=>rfl
 | _::_,[]=>rfl
 | a::x,b::y=>by
   rw [List.map_cons,List.map_cons,eqL,eqL,eqL_map eq f x y]
end Ob
theorem aIx (x y:List MV):Ob.eqL Ob.sameMV x y=Ob.eqL Ob.sameMB (x.map fun m=>m.m) (y.map fun m=>m.m):=Ob.eqL_map Ob.sameMB (fun m:MV=>m.m) x y
theorem aHk (x y:List LiV):Ob.eqL Ob.sameLiV x y=Ob.eqL Ob.sameLi (x.map LiV.b) (y.map LiV.b):=Ob.eqL_map Ob.sameLi LiV.b x y
theorem aHl (x y:List RlV):Ob.eqL Ob.sameRlV x y=Ob.eqL Ob.sameRl (x.map RlV.b) (y.map RlV.b):=Ob.eqL_map Ob.sameRl RlV.b x y
theorem aNo (x y:List Int):Ob.eqL Ob.eqI x y=decide (x=y):=by
 rw [Bool.eq_iff_iff,decide_eq_true_eq]
 exact Ob.eqL_iff (fun a b=>by unfold Ob.eqI;simp) x y
theorem aV1 (x y:MV) (w:World) (hx:x.at_ w) (hy:y.at_ w) :
  Calls Tryz.prog 203 #[mV x.m x.vh x.vq,mV y.m y.vh y.vq] w fun e w'=>e=.returned (.bool (Ob.sameMV x y))∧Below w.heap.size w w':=by
 refine (aVp x.m y.m x.vh x.vq y.vh y.vq w hx.1 hx.2 hy.1 hy.2).mono ?_
 rintro e w' ⟨rfl,hb⟩
 exact ⟨rfl,hb⟩
theorem aOr (x y:LiV) (w:World) (hx:Sl EN w x.v x.nd) (hy:Sl EN w y.v y.nd) :
  Calls Tryz.prog 172 #[liV x,liV y] w fun e w'=>e=.returned (.bool (Ob.sameLi x.b y.b))∧Below w.heap.size w w':=by
 obtain ⟨X,hX⟩:∃ z,z=((w.alloc (.cells #[.string x.name,.int .i64 x.port,.bool x.tls,.string x.host,.int .i64 x.cert.kind,.string x.cert.space,.string x.cert.name,.int .i64 x.frm,x.v] 67)).alloc (.cells #[.string y.name,.int .i64 y.port,.bool y.tls,.string y.host,.int .i64 y.cert.kind,.string y.cert.space,.string y.cert.name,.int .i64 y.frm,y.v] 67)):=⟨_,rfl⟩
 have HB0:Hid (Below w.heap.size w ((w.alloc (.cells #[.string x.name,.int .i64 x.port,.bool x.tls,.string x.host,.int .i64 x.cert.kind,.string x.cert.space,.string x.cert.name,.int .i64 x.frm,x.v] 67)).alloc (.cells #[.string y.name,.int .i64 y.port,.bool y.tls,.string y.host,.int .i64 y.cert.kind,.string y.cert.space,.string y.cert.name,.int .i64 y.frm,y.v] 67))):=((Below.refl _ _).alloc (Nat.le_refl _) _).alloc (by simp) _
 have B1:Below w.heap.size w X:=by rw [hX];exact HB0.out
 have E4:∀ W,(Op.equalIn 10000 24 (rfV x.cert) (rfV y.cert)).run Tryz.prog W=.ok (Ob.eqR x.cert y.cert) W:=fun W=>by
  rw [aG8]
  unfold Ob.eqR
  simp only [aB3]
 have C1:=fun W (h:Below X.heap.size X W)=>hide (aQd x.v y.v x.nd y.nd W (hx.below (bb2 B1 h)) (hy.below (bb2 B1 h)))
 have HP:Hid (Ob.sameLi x.b y.b=(x.name.toList == y.name.toList&&(x.port == y.port&&(x.tls == y.tls&&(x.host.toList == y.host.toList&&(Ob.eqR x.cert y.cert&&(x.frm == y.frm&&(La.sameL (nbs x.nd) (nbs y.nd))))))))):=by
  rfl
 have HB1:=hide B1
 clear B1
 clear hx hy
 generalize Ob.sameLi x.b y.b=z at *
 generalize Ob.eqR x.cert y.cert=y4 at *
 generalize La.sameL (nbs x.nd) (nbs y.nd)=y6 at *
 obtain ⟨n0,p0,t0,h0,⟨ck0,cs0,cn0⟩,f0,nd0,a0,c0⟩:=x
 obtain ⟨n1,p1,t1,h1,⟨ck1,cs1,cn1⟩,f1,nd1,a1,c1⟩:=y
 try dsimp only at *
 cases ht0:(n0.toList == n1.toList)
 ·rw [ht0] at HP
  go_enter Tryz.func172,Tryz.ntmps172
  go_wp2_with fail
  go_ret
  exact ⟨aA1 HP.out.symm,HB0.out⟩
 ·rw [ht0] at HP
  cases ht1:(p0 == p1)
  ·rw [ht1] at HP
   go_enter Tryz.func172,Tryz.ntmps172
   go_wp2_with fail
   go_ret
   exact ⟨aA1 HP.out.symm,HB0.out⟩
  ·rw [ht1] at HP
   cases ht2:(t0 == t1)
   ·rw [ht2] at HP
    go_enter Tryz.func172,Tryz.ntmps172
    go_wp2_with fail
    go_ret
    exact ⟨aA1 HP.out.symm,HB0.out⟩
   ·rw [ht2] at HP
    cases ht3:(h0.toList == h1.toList)
    ·rw [ht3] at HP
     go_enter Tryz.func172,Tryz.ntmps172
     go_wp2_with fail
     go_ret
     exact ⟨aA1 HP.out.symm,HB0.out⟩
    ·rw [ht3] at HP
     cases y4
     ·go_enter Tryz.func172,Tryz.ntmps172
      go_wp2_with fail
      go_ret
      exact ⟨aA1 HP.out.symm,HB0.out⟩
     ·cases ht5:(f0 == f1)
      ·rw [ht5] at HP
       go_enter Tryz.func172,Tryz.ntmps172
       go_wp2_with fail
       go_ret
       exact ⟨aA1 HP.out.symm,HB0.out⟩
      ·rw [ht5] at HP
       go_enter Tryz.func172,Tryz.ntmps172
       go_wp2_with fail
       rw [←hX]
       clear hX
       refine (aA5 ((C1 _ (Below.refl _ _)).out)).mono ?_
       rintro e x ⟨rfl,q,rfl⟩
       go_wp2_with fail
       go_ret
       exact ⟨aA1 HP.out.symm,bb2 HB1.out q.h⟩
theorem aOs (x y:RlV) (w:World) (hx:x.at_ w) (hy:y.at_ w) :
  Calls Tryz.prog 176 #[rlV x,rlV y] w fun e w'=>e=.returned (.bool (Ob.sameRl x.b y.b))∧Below w.heap.size w w':=by
 obtain ⟨X,hX⟩:∃ z,z=((w.alloc (.cells #[x.vm,x.vf,x.vb] 76)).alloc (.cells #[y.vm,y.vf,y.vb] 76)):=⟨_,rfl⟩
 have HB0:Hid (Below w.heap.size w ((w.alloc (.cells #[x.vm,x.vf,x.vb] 76)).alloc (.cells #[y.vm,y.vf,y.vb] 76))):=((Below.refl _ _).alloc (Nat.le_refl _) _).alloc (by simp) _
 have B1:Below w.heap.size w X:=by rw [hX];exact HB0.out
 have K0:X.heap[w.heap.size]?=some (.cells #[x.vm,x.vf,x.vb] 76):=by
  rw [hX]
  exact aA2 (aA7 w _) ((Below.refl _ _).alloc (Nat.le_refl _) _)
 have c0_1:=fun (q:GB X)=>aA0 (aA2 K0 q.h) (i:=1) rfl
 have c0_2:=fun (q:GB X)=>aA0 (aA2 K0 q.h) (i:=2) rfl
 clear K0
 have K1:X.heap[w.heap.size+1]?=some (.cells #[y.vm,y.vf,y.vb] 76):=by
  rw [hX]
  exact (by have:=aA7 (w.alloc (.cells #[x.vm,x.vf,x.vb] 76)) (.cells #[y.vm,y.vf,y.vb] 76);simpa using this)
 have c1_1:=fun (q:GB X)=>aA0 (aA2 K1 q.h) (i:=1) rfl
 have c1_2:=fun (q:GB X)=>aA0 (aA2 K1 q.h) (i:=2) rfl
 clear K1
 have C1:=fun W (h:Below X.heap.size X W)=>hide (eqfM Ob.sameMV 203 x.vm y.vm x.ms y.ms W (hx.below (bb2 B1 h)).ms (hy.below (bb2 B1 h)).ms (fun args w=>aAd Tryz.func203 (by kernel_rfl) rfl args w) (fun a _ b _ W2 _ hA hA2=>aV1 a b W2 hA hA2))
 have C2:=fun W (h:Below X.heap.size X W)=>hide (equF W x.vf y.vf x.fs y.fs (hx.below (bb2 B1 h)).fs (hy.below (bb2 B1 h)).fs)
 have C3:=fun W (h:Below X.heap.size X W)=>hide (equK W x.vb y.vb x.bs y.bs (hx.below (bb2 B1 h)).bs (hy.below (bb2 B1 h)).bs)
 have HP:Hid (Ob.sameRl x.b y.b=(Ob.eqL Ob.sameMV x.ms y.ms&&(Ob.eqL Ob.eqFi x.fs y.fs&&(Ob.eqL Ob.eqK x.bs y.bs)))):=by
  unfold Hid Ob.sameRl
  rw [aIx]
  rfl
 have HB1:=hide B1
 clear B1
 clear hx hy
 generalize Ob.sameRl x.b y.b=z at *
 generalize Ob.eqL Ob.sameMV x.ms y.ms=y0 at *
 generalize Ob.eqL Ob.eqFi x.fs y.fs=y1 at *
 generalize Ob.eqL Ob.eqK x.bs y.bs=y2 at *
 obtain ⟨ms0,am0,cm0,fs0,af0,cf0,bs0,ab0,cb0⟩:=x
 obtain ⟨ms1,am1,cm1,fs1,af1,cf1,bs1,ab1,cb1⟩:=y
 try dsimp only at *
 go_enter Tryz.func176,Tryz.ntmps176
 go_wp2_with fail
 rw [←hX]
 clear hX
 cases y0
 ·refine (aA5 ((C1 _ (Below.refl _ _)).out)).mono ?_
  rintro e x ⟨rfl,q,rfl⟩
  go_wp2_with fail
  go_ret
  exact ⟨aA1 HP.out.symm,bb2 HB1.out q.h⟩
 ·refine (aA5 ((C1 _ (Below.refl _ _)).out)).mono ?_
  rintro e x ⟨rfl,q,rfl⟩
  go_wp2_with fail
  cases y1
  ·refine (aA3 ((C2 _ q.h).out)).mono ?_
   rintro e x ⟨rfl,q,rfl⟩
   go_wp2_with fail
   go_ret
   exact ⟨aA1 HP.out.symm,bb2 HB1.out q.h⟩
  ·refine (aA3 ((C2 _ q.h).out)).mono ?_
   rintro e x ⟨rfl,q,rfl⟩
   go_wp2_with fail
   refine (aA3 ((C3 _ q.h).out)).mono ?_
   rintro e x ⟨rfl,q,rfl⟩
   go_wp2_with fail
   go_ret
   exact ⟨aA1 HP.out.symm,bb2 HB1.out q.h⟩
theorem aQz (x y:OV) (w:World) (hx:x.at_ w) (hy:y.at_ w) :
  Calls Tryz.prog 133 #[oV x,oV y] w fun e w'=>e=.returned (.bool (Ob.sameO x.b y.b))∧Below w.heap.size w w':=by
 obtain ⟨X,hX⟩:∃ z,z=((w.alloc (.cells #[.int .i64 x.ref.kind,.string x.ref.space,.string x.ref.name,.bool x.good,x.vl,x.vp,.string x.cls,x.vi,x.vq,x.vh,x.vr,x.vf,x.vo] 36)).alloc (.cells #[.int .i64 y.ref.kind,.string y.ref.space,.string y.ref.name,.bool y.good,y.vl,y.vp,.string y.cls,y.vi,y.vq,y.vh,y.vr,y.vf,y.vo] 36)):=⟨_,rfl⟩
 have HB0:Hid (Below w.heap.size w ((w.alloc (.cells #[.int .i64 x.ref.kind,.string x.ref.space,.string x.ref.name,.bool x.good,x.vl,x.vp,.string x.cls,x.vi,x.vq,x.vh,x.vr,x.vf,x.vo] 36)).alloc (.cells #[.int .i64 y.ref.kind,.string y.ref.space,.string y.ref.name,.bool y.good,y.vl,y.vp,.string y.cls,y.vi,y.vq,y.vh,y.vr,y.vf,y.vo] 36))):=((Below.refl _ _).alloc (Nat.le_refl _) _).alloc (by simp) _
 have B1:Below w.heap.size w X:=by rw [hX];exact HB0.out
 have K0:X.heap[w.heap.size]?=some (.cells #[.int .i64 x.ref.kind,.string x.ref.space,.string x.ref.name,.bool x.good,x.vl,x.vp,.string x.cls,x.vi,x.vq,x.vh,x.vr,x.vf,x.vo] 36):=by
  rw [hX]
  exact aA2 (aA7 w _) ((Below.refl _ _).alloc (Nat.le_refl _) _)
 have c0_5:=fun (q:GB X)=>aA0 (aA2 K0 q.h) (i:=5) rfl
 have c0_6:=fun (q:GB X)=>aA0 (aA2 K0 q.h) (i:=6) rfl
 have c0_7:=fun (q:GB X)=>aA0 (aA2 K0 q.h) (i:=7) rfl
 have c0_8:=fun (q:GB X)=>aA0 (aA2 K0 q.h) (i:=8) rfl
 have c0_9:=fun (q:GB X)=>aA0 (aA2 K0 q.h) (i:=9) rfl
 have c0_10:=fun (q:GB X)=>aA0 (aA2 K0 q.h) (i:=10) rfl
 have c0_11:=fun (q:GB X)=>aA0 (aA2 K0 q.h) (i:=11) rfl
 have c0_12:=fun (q:GB X)=>aA0 (aA2 K0 q.h) (i:=12) rfl
 clear K0
 have K1:X.heap[w.heap.size+1]?=some (.cells #[.int .i64 y.ref.kind,.string y.ref.space,.string y.ref.name,.bool y.good,y.vl,y.vp,.string y.cls,y.vi,y.vq,y.vh,y.vr,y.vf,y.vo] 36):=by
  rw [hX]
  exact (by have:=aA7 (w.alloc (.cells #[.int .i64 x.ref.kind,.string x.ref.space,.string x.ref.name,.bool x.good,x.vl,x.vp,.string x.cls,x.vi,x.vq,x.vh,x.vr,x.vf,x.vo] 36)) (.cells #[.int .i64 y.ref.kind,.string y.ref.space,.string y.ref.name,.bool y.good,y.vl,y.vp,.string y.cls,y.vi,y.vq,y.vh,y.vr,y.vf,y.vo] 36);simpa using this)
 have c1_5:=fun (q:GB X)=>aA0 (aA2 K1 q.h) (i:=5) rfl
 have c1_6:=fun (q:GB X)=>aA0 (aA2 K1 q.h) (i:=6) rfl
 have c1_7:=fun (q:GB X)=>aA0 (aA2 K1 q.h) (i:=7) rfl
 have c1_8:=fun (q:GB X)=>aA0 (aA2 K1 q.h) (i:=8) rfl
 have c1_9:=fun (q:GB X)=>aA0 (aA2 K1 q.h) (i:=9) rfl
 have c1_10:=fun (q:GB X)=>aA0 (aA2 K1 q.h) (i:=10) rfl
 have c1_11:=fun (q:GB X)=>aA0 (aA2 K1 q.h) (i:=11) rfl
 have c1_12:=fun (q:GB X)=>aA0 (aA2 K1 q.h) (i:=12) rfl
 clear K1
 have E0:∀ W,(Op.equalIn 10000 24 (rfV x.ref) (rfV y.ref)).run Tryz.prog W=.ok (Ob.eqR x.ref y.ref) W:=fun W=>by
  rw [aG8]
  unfold Ob.eqR
  simp only [aB3]
 have C1:=fun W (h:Below X.heap.size X W)=>hide (aGs W x.vl y.vl x.labels y.labels (hx.below (bb2 B1 h)).labels (hy.below (bb2 B1 h)).labels)
 have C2:=fun W (h:Below X.heap.size X W)=>hide (equI W x.vp y.vp x.ports y.ports (hx.below (bb2 B1 h)).ports (hy.below (bb2 B1 h)).ports)
 have C3:=fun W (h:Below X.heap.size X W)=>hide (aXg Ob.sameLiV 172 x.vi y.vi x.lis y.lis W (hx.below (bb2 B1 h)).lis (hy.below (bb2 B1 h)).lis (fun args w=>aAd Tryz.func172 (by kernel_rfl) rfl args w) (fun a _ b _ W2 _ hA hA2=>aOr a b W2 hA hA2))
 have C4:=fun W (h:Below X.heap.size X W)=>hide (aXf W x.vq y.vq x.pars y.pars (hx.below (bb2 B1 h)).pars (hy.below (bb2 B1 h)).pars)
 have C5:=fun W (h:Below X.heap.size X W)=>hide (aIl W x.vh y.vh x.hosts y.hosts (hx.below (bb2 B1 h)).hosts (hy.below (bb2 B1 h)).hosts)
 have C6:=fun W (h:Below X.heap.size X W)=>hide (aXh Ob.sameRlV 176 x.vr y.vr x.rules y.rules W (hx.below (bb2 B1 h)).rules (hy.below (bb2 B1 h)).rules (fun args w=>aAd Tryz.func176 (by kernel_rfl) rfl args w) (fun a _ b _ W2 _ hA hA2=>aOs a b W2 hA hA2))
 have C7:=fun W (h:Below X.heap.size X W)=>hide (equD W x.vf y.vf x.frm y.frm (hx.below (bb2 B1 h)).frm (hy.below (bb2 B1 h)).frm)
 have C8:=fun W (h:Below X.heap.size X W)=>hide (equD W x.vo y.vo x.tos y.tos (hx.below (bb2 B1 h)).tos (hy.below (bb2 B1 h)).tos)
 have HP:Hid (Ob.sameO x.b y.b=(Ob.eqR x.ref y.ref&&(x.good == y.good&&(decide (x.labels=y.labels)&&(Ob.eqL Ob.eqI x.ports y.ports&&(x.cls.toList == y.cls.toList&&(Ob.eqL Ob.sameLiV x.lis y.lis&&(Ob.eqL Ob.eqP x.pars y.pars&&(decide (x.hosts=y.hosts)&&(Ob.eqL Ob.sameRlV x.rules y.rules&&(Ob.eqL Ob.eqR x.frm y.frm&&(Ob.eqL Ob.eqR x.tos y.tos)))))))))))):=by
  unfold Hid Ob.sameO
  rw [aHk,aHl,aNo]
  rfl
 have HB1:=hide B1
 clear B1
 clear hx hy
 generalize Ob.sameO x.b y.b=z at *
 generalize Ob.eqR x.ref y.ref=y0 at *
 generalize decide (x.labels=y.labels)=y2 at *
 generalize Ob.eqL Ob.eqI x.ports y.ports=y3 at *
 generalize Ob.eqL Ob.sameLiV x.lis y.lis=y5 at *
 generalize Ob.eqL Ob.eqP x.pars y.pars=y6 at *
 generalize decide (x.hosts=y.hosts)=y7 at *
 generalize Ob.eqL Ob.sameRlV x.rules y.rules=y8 at *
 generalize Ob.eqL Ob.eqR x.frm y.frm=y9 at *
 generalize Ob.eqL Ob.eqR x.tos y.tos=y10 at *
 obtain ⟨⟨rk0,rs0,rn0⟩,gd0,lb0,al0,cl0,po0,ap0,cp0,cs0,ls0,ai0,ci0,pa0,aq0,cq0,ho0,ah0,ch0,ru0,ar0,cr0,fr0,af0,cf0,to0,ao0,co0⟩:=x
 obtain ⟨⟨rk1,rs1,rn1⟩,gd1,lb1,al1,cl1,po1,ap1,cp1,cs1,ls1,ai1,ci1,pa1,aq1,cq1,ho1,ah1,ch1,ru1,ar1,cr1,fr1,af1,cf1,to1,ao1,co1⟩:=y
 try dsimp only at *
 dsimp only [oV,OV.vl,OV.vp,OV.vi,OV.vq,OV.vh,OV.vr,OV.vf,OV.vo] at *
 cases y0
 ·go_enter Tryz.func133,Tryz.ntmps133
  go_wp2_with fail
  go_ret
  exact ⟨aA1 HP.out.symm,HB0.out⟩
 ·cases ht1:(gd0 == gd1)
  ·rw [ht1] at HP
   go_enter Tryz.func133,Tryz.ntmps133
   go_wp2_with fail
   go_ret
   exact ⟨aA1 HP.out.symm,HB0.out⟩
  ·rw [ht1] at HP
   go_enter Tryz.func133,Tryz.ntmps133
   go_wp2_with fail
   rw [←hX]
   clear hX
   generalize Value.agg #[.int .i64 rk0,.string rs0,.string rn0,.bool gd0,.slice al0 lb0.length cl0,.slice ap0 po0.length cp0,.string cs0,.slice ai0 ls0.length ci0,.slice aq0 pa0.length cq0,.slice ah0 ho0.length ch0,.slice ar0 ru0.length cr0,.slice af0 fr0.length cf0,.slice ao0 to0.length co0]=vv0
   generalize Value.agg #[.int .i64 rk1,.string rs1,.string rn1,.bool gd1,.slice al1 lb1.length cl1,.slice ap1 po1.length cp1,.string cs1,.slice ai1 ls1.length ci1,.slice aq1 pa1.length cq1,.slice ah1 ho1.length ch1,.slice ar1 ru1.length cr1,.slice af1 fr1.length cf1,.slice ao1 to1.length co1]=vv1
   cases y2
   ·refine (aA5 ((C1 _ (Below.refl _ _)).out)).mono ?_
    rintro e x ⟨rfl,q,rfl⟩
    go_wp2_with fail
    go_ret
    exact ⟨aA1 HP.out.symm,bb2 HB1.out q.h⟩
   ·refine (aA5 ((C1 _ (Below.refl _ _)).out)).mono ?_
    rintro e x ⟨rfl,q,rfl⟩
    go_wp2_with fail
    cases y3
    ·refine (aA3 ((C2 _ q.h).out)).mono ?_
     rintro e x ⟨rfl,q,rfl⟩
     go_wp2_with fail
     go_ret
     exact ⟨aA1 HP.out.symm,bb2 HB1.out q.h⟩
    ·cases ht4:(cs0.toList == cs1.toList)
     ·rw [ht4] at HP
      refine (aA3 ((C2 _ q.h).out)).mono ?_
      rintro e x ⟨rfl,q,rfl⟩
      go_wp2_with fail
      go_ret
      exact ⟨aA1 HP.out.symm,bb2 HB1.out q.h⟩
     ·rw [ht4] at HP
      refine (aA3 ((C2 _ q.h).out)).mono ?_
      rintro e x ⟨rfl,q,rfl⟩
      go_wp2_with fail
      cases y5
      ·refine (aA3 ((C3 _ q.h).out)).mono ?_
       rintro e x ⟨rfl,q,rfl⟩
       go_wp2_with fail
       go_ret
       exact ⟨aA1 HP.out.symm,bb2 HB1.out q.h⟩
      ·refine (aA3 ((C3 _ q.h).out)).mono ?_
       rintro e x ⟨rfl,q,rfl⟩
       go_wp2_with fail
       cases y6
       ·refine (aA3 ((C4 _ q.h).out)).mono ?_
        rintro e x ⟨rfl,q,rfl⟩
        go_wp2_with fail
        go_ret
        exact ⟨aA1 HP.out.symm,bb2 HB1.out q.h⟩
       ·refine (aA3 ((C4 _ q.h).out)).mono ?_
        rintro e x ⟨rfl,q,rfl⟩
        go_wp2_with fail
        cases y7
        ·refine (aA3 ((C5 _ q.h).out)).mono ?_
         rintro e x ⟨rfl,q,rfl⟩
         go_wp2_with fail
         go_ret
         exact ⟨aA1 HP.out.symm,bb2 HB1.out q.h⟩
        ·refine (aA3 ((C5 _ q.h).out)).mono ?_
         rintro e x ⟨rfl,q,rfl⟩
         go_wp2_with fail
         cases y8
         ·refine (aA3 ((C6 _ q.h).out)).mono ?_
          rintro e x ⟨rfl,q,rfl⟩
          go_wp2_with fail
          go_ret
          exact ⟨aA1 HP.out.symm,bb2 HB1.out q.h⟩
         ·refine (aA3 ((C6 _ q.h).out)).mono ?_
          rintro e x ⟨rfl,q,rfl⟩
          go_wp2_with fail
          cases y9
          ·refine (aA3 ((C7 _ q.h).out)).mono ?_
           rintro e x ⟨rfl,q,rfl⟩
           go_wp2_with fail
           go_ret
           exact ⟨aA1 HP.out.symm,bb2 HB1.out q.h⟩
          ·refine (aA3 ((C7 _ q.h).out)).mono ?_
           rintro e x ⟨rfl,q,rfl⟩
           go_wp2_with fail
           refine (aA3 ((C8 _ q.h).out)).mono ?_
           rintro e x ⟨rfl,q,rfl⟩
           go_wp2_with fail
           go_ret
           exact ⟨aA1 HP.out.symm,bb2 HB1.out q.h⟩
end Go.Proofs.YthnodpdiocppgaaGreatDoor
namespace Go.Proofs.YthnodpdiocppgaaGreatDoor
open Go Go.RowKit Go.Shelf
attribute [local go_sem] aAu
theorem aOt (a b:Int) (w:World):Calls Tryz.prog 107 #[.int .i64 a,.int .i64 b] w fun e w'=>e=.returned (.bool (Ob.eqI a b))∧Below w.heap.size w w':=by
 go_enter Tryz.func107,Tryz.ntmps107
 go_wp2_with fail
 go_ret
 exact ⟨rfl,Below.refl _ _⟩
theorem aOu (a b:ByteArray) (w:World):Calls Tryz.prog 119 #[.string a,.string b] w fun e w'=>e=.returned (.bool (Ob.eqS a b))∧Below w.heap.size w w':=by
 go_enter Tryz.func119,Tryz.ntmps119
 go_wp2_with fail
 go_ret
 exact ⟨rfl,Below.refl _ _⟩
theorem aN4 (a b:PtB) (w:World):Calls Tryz.prog 115 #[ptV a,ptV b] w fun e w'=>e=.returned (.bool (Ob.eqP a b))∧Below w.heap.size w w':=by
 have EQ:∀ W,(Op.equalIn 10000 70 (ptV a) (ptV b)).run Tryz.prog W=.ok (Ob.eqP a b) W:=fun W=>by
  rw [aIv]
  unfold Ob.eqP
  simp only [aB3]
 generalize Ob.eqP a b=y at *
 obtain ⟨s0,n0,t0,p0⟩:=a
 obtain ⟨s1,n1,t1,p1⟩:=b
 try dsimp only at *
 go_enter Tryz.func115,Tryz.ntmps115
 go_wp2_with fail
 go_ret
 exact ⟨rfl,((Below.refl _ _).alloc (Nat.le_refl _) _).alloc (by simp) _⟩
theorem aLq (x y:LiV) (w:World):Calls Tryz.prog 111 #[liV x,liV y] w fun e w'=>e=.returned (.bool (Ob.nameLi x.b y.b))∧Below w.heap.size w w':=by
 have HP:Hid (Ob.nameLi x.b y.b=(x.name.toList == y.name.toList)):=rfl
 generalize Ob.nameLi x.b y.b=z at *
 obtain ⟨n0,p0,t0,h0,⟨ck0,cs0,cn0⟩,f0,nd0,a0,c0⟩:=x
 obtain ⟨n1,p1,t1,h1,⟨ck1,cs1,cn1⟩,f1,nd1,a1,c1⟩:=y
 dsimp only at *
 go_enter Tryz.func111,Tryz.ntmps111
 go_wp2_with fail
 go_ret
 exact ⟨aA1 HP.out.symm,((Below.refl _ _).alloc (Nat.le_refl _) _).alloc (by simp) _⟩
theorem aR0 (a b:Int) (w:World):Calls Tryz.prog 137 #[.int .i64 a,.int .i64 b] w fun e w'=>e=.returned (.bool (decide (a<b)))∧Below w.heap.size w w':=by
 have C:=fun (x:Int) (W:World)=>hide (aPp x W)
 cases h:decide (a<b)
 ·go_enter Tryz.func137,Tryz.ntmps137
  go_wp2_with fail
  refine ((C _ _).out).mono ?_
  rintro e x ⟨rfl,hx⟩
  subst x
  go_wp2_with fail
  go_ret
  exact ⟨rfl,Below.refl _ _⟩
 ·go_enter Tryz.func137,Tryz.ntmps137
  go_wp2_with fail
  refine ((C _ _).out).mono ?_
  rintro e x ⟨rfl,hx⟩
  subst x
  go_wp2_with fail
  go_ret
  exact ⟨rfl,Below.refl _ _⟩
theorem aW2 {l:List Int} {k:Nat} (h:k+1<l.length) (hl:l[k+1]<l[k]):Ob.srt l=false:=by
 unfold Ob.srt
 rw [decide_eq_false_iff_not]
 intro hp
 have:=List.pairwise_iff_getElem.1 hp k (k+1) (by omega) h (by omega)
 omega
theorem aNp {l:List Int} (h:∀ k (hk:k+1<l.length),l[k]≤l[k+1]):Ob.srt l=true:=by
 unfold Ob.srt
 rw [decide_eq_true_eq,List.pairwise_iff_getElem]
 intro i j hi hj hij
 induction j with
 | zero=>omega
 | succ j ih =>
   rcases Nat.lt_or_ge i j with h1 | h1
   ·exact Int.le_trans (ih (by omega) h1) (h j hj)
   ·obtain rfl:i=j:=by omega
    exact h i hj
theorem aOv (v:Value) (l:List Int) (w:World) (hv:Sl EI w v l) :
  Calls Tryz.prog 105 #[v] w fun e w'=>e=.returned (.bool (Ob.srt l))∧Below w.heap.size w w':=by
 have hlen:=hv.len
 have hmx:(l.length:Int)≤9223372036854775807:=by
  obtain ⟨_,c,_,h1,h2,_⟩:=hv
  unfold maxLen at h2
  omega
 obtain ⟨a,cap,rfl⟩:=hv.form
 have HC:=hide (fun W (hB:Below w.heap.size w W) k (hk:k<l.length)=>oneI hv hB hk)
 have CL:=fun (x y:Int) (W:World)=>hide (aR0 x y W)
 clear hv
 go_enter Tryz.func105,Tryz.ntmps105
 go_wp2_with fail
 go_loopw [3] (fun i wr=>∃ z:Int,-1≤z∧z≤(l.length:Int) - 1∧i=.int .i64 z∧Hid (∀ j (h:j+1<l.length),z≤(j:Int)→l[j]≤l[j+1])∧Below w.heap.size w wr) (fun i _=>(intOf i).toNat)
 case atStart=>exact ⟨(l.length:Int) - 1,by omega,by omega,rfl,fun j h hj=>absurd hj (by omega),Below.refl _ _⟩
 case round =>
  obtain ⟨z,hz,hz2,rfl,hall,hB⟩:=hrel
  by_cases hp:0<z
  ·obtain ⟨n,rfl⟩:∃ n:Nat,z=(n:Int):=⟨z.toNat,by omega⟩
   obtain ⟨k,hnk⟩:∃ k:Nat,n=k+1:=⟨n - 1,by omega⟩
   have hn1:n<l.length:=by omega
   have hk1:k<l.length:=by omega
   obtain ⟨_,g1,off,rfl,hg1,c1⟩:=HC.out _ hB n hn1
   obtain ⟨_,g2,off2,hg2e,hg2,c2⟩:=HC.out _ hB k hk1
   injection hg2e with e1
   injection e1 with e1 e2
   subst e1 e2
   have i1:(n:Int)<(l.length:Int):=by omega
   have i2:(k:Int)<(l.length:Int):=by omega
   have hwr:IntKind.i64.wrap ((n:Int) - 1)=(k:Int):=by rw [IntKind.wrap_i64];omega
   have m1:∀ q:GB wr,q.W.cell? ⟨g1,off+n,none⟩=some (.int .i64 l[n]):=fun q=>(q.h.cell (p:=⟨g1,off+n,none⟩) (Nat.lt_of_lt_of_le hg1 hB.size)).trans c1
   have m2:∀ q:GB wr,q.W.cell? ⟨g1,off+k,none⟩=some (.int .i64 l[k]):=fun q=>(q.h.cell (p:=⟨g1,off+k,none⟩) (Nat.lt_of_lt_of_le hg1 hB.size)).trans c2
   have HN:Hid (l[n]<l[k]→Ob.srt l=false):=by subst hnk;exact aW2 (l:=l) (k:=k) hn1
   have HY:Hid (¬ l[n]<l[k]→∀ j (h:j+1<l.length),(k:Int)≤(j:Int)→l[j]≤l[j+1]):=fun hn j h hj=>by
    subst hnk
    rcases Nat.lt_or_ge k j with h1 | h1
    ·exact hall.out j h (by omega)
    ·obtain rfl:j=k:=by omega
     omega
   have hnkH:=hide hnk
   clear c1 c2 hg1 hg2 hnk
   generalize l[n]=x at *
   generalize l[k]=y at *
   cases hd:decide (x<y)
   ·have hn:¬ x<y:=by simpa using hd
    have HZ:=hide (HY.out hn)
    have C:=fun W=>hide (CL x y W).out
    rw [hd] at C
    clear hd hn HN HY hall
    go_wp2_with fail
    refine aA6 (by kernel_rfl) (by kernel_rfl) ?_
    repeat (first | go_big_quiet_step ((go_at_call 137;exact aA3 (C _).out)) | quiet_step ((go_at_call 137;exact aA3 (C _).out)))
    refine wpQuiet_nil ?_
    intro _ hw'
    obtain ⟨qq,hw2⟩:=hw'
    subst hw2
    have hq:=qq.h
    go_wp2_with fail
    have hnk:=hnkH.out
    exact ⟨⟨(k:Int),by omega,by omega,by go_num,HZ.out,bb2 hB hq⟩,by simp [intOf];omega⟩
   ·have hn:x<y:=by simpa using hd
    have HZ:=hide (HN.out hn)
    have C:=fun W=>hide (CL x y W).out
    rw [hd] at C
    clear hd hn HN HY hall
    go_wp2_with fail
    refine aA6 (by kernel_rfl) (by kernel_rfl) ?_
    repeat (first | go_big_quiet_step ((go_at_call 137;exact aA3 (C _).out)) | quiet_step ((go_at_call 137;exact aA3 (C _).out)))
    refine wpQuiet_nil ?_
    intro _ hw'
    obtain ⟨qq,hw2⟩:=hw'
    subst hw2
    have hq:=qq.h
    go_wp2_with fail
    go_ret
    exact ⟨aA1 HZ.out.symm,bb2 hB hq⟩
  ·have HZ:Hid (Ob.srt l=true):=aNp fun k hk=>hall.out k hk (by omega)
   go_wp2_with fail
   go_ret
   exact ⟨aA1 HZ.out.symm,hB⟩
theorem aN5 (x y:OV) (w:World) (hx:x.at_ w) (hy:y.at_ w) :
  Calls Tryz.prog 101 #[oV x,oV y] w fun e w'=>e=.returned (.bool (Ob.sameO x.b { y.b with ref:=x.ref }))∧Below w.heap.size w w':=by
 have C1:=fun W (h:Below w.heap.size w W)=>hide (aQz x { y with ref:=x.ref } W (hx.below h) ⟨(hy.below h).labels,(hy.below h).ports,(hy.below h).lis,(hy.below h).pars,(hy.below h).hosts,(hy.below h).rules,(hy.below h).frm,(hy.below h).tos⟩)
 have HE:Hid (Ob.sameO x.b ({ y with ref:=x.ref }:OV).b=Ob.sameO x.b { y.b with ref:=x.ref }):=rfl
 rw [HE.out] at C1
 clear hx hy HE
 generalize Ob.sameO x.b { y.b with ref:=x.ref }=z at *
 obtain ⟨⟨rk0,rs0,rn0⟩,gd0,lb0,al0,cl0,po0,ap0,cp0,cs0,ls0,ai0,ci0,pa0,aq0,cq0,ho0,ah0,ch0,ru0,ar0,cr0,fr0,af0,cf0,to0,ao0,co0⟩:=x
 obtain ⟨⟨rk1,rs1,rn1⟩,gd1,lb1,al1,cl1,po1,ap1,cp1,cs1,ls1,ai1,ci1,pa1,aq1,cq1,ho1,ah1,ch1,ru1,ar1,cr1,fr1,af1,cf1,to1,ao1,co1⟩:=y
 dsimp only at *
 have HBW:∀ (A B:Obj),Below w.heap.size w ((w.alloc A).alloc B):=fun A B=>((Below.refl _ _).alloc (Nat.le_refl _) _).alloc (by simp) _
 have HBH:=hide HBW
 clear HBW
 go_enter Tryz.func101,Tryz.ntmps101
 go_wp2_with fail
 refine (C1 _ (HBH.out _ _)).out.mono ?_
 rintro e w1 ⟨rfl,hb1⟩
 go_wp2_with fail
 go_ret
 exact ⟨rfl,bb2 (HBH.out _ _) hb1⟩
end Go.Proofs.YthnodpdiocppgaaGreatDoor
namespace Go.Proofs.YthnodpdiocppgaaGreatDoor
open Go Go.RowKit Go.Shelf
abbrev aFq:Array MapEntry:=#[⟨.int .i64 1,dF 86,0⟩,⟨.int .i64 2,dF 87,1⟩,⟨.int .i64 3,dF 88,2⟩,⟨.int .i64 4,dF 86,3⟩,⟨.int .i64 5,dF 89,4⟩,⟨.int .i64 6,dF 90,5⟩,⟨.int .i64 7,dF 91,6⟩]
theorem aDf (w:World) (es:Array MapEntry) (c:Nat) (i:Int) (v:Value) (h:Instr.findNow (.int .i64) (.int .i64 i) es.toList 0=some none) :
  (Instr.mapUpdate 110 (.map (some w.heap.size)) (.int .i64 i) v).run Tryz.prog (w.alloc (.map es c))=.ok () (w.alloc (.map (es.push ⟨.int .i64 i,v,c⟩) (c+1))):=by
 have u3:=Tryz.underlying3
 have hb:(w.alloc (.map es c)).heap[w.heap.size]?=some (.map es c):=aA7 w _
 have hg:=MapKept.run_getObj_map (P:=Tryz.prog) hb
 have hs:=MapKept.run_setObj_map (P:=Tryz.prog) (.map (es.push ⟨.int .i64 i,v,c⟩) (c+1)) hb
 have hc:=MapKept.run_checkKey (w:=w.alloc (.map es c)) (k:=.int .i64 i) u3 (by trivial) false 9999
 rw [aOm] at hs
 unfold Instr.mapUpdate Instr.findKey
 simp only [Sem.run_bind,run_underlying Tryz.underlying110,Result.andThen_ok,hg,hc,run_underlying u3,h,Sem.run_pure,hs]
theorem aR1 (w:World) :
  Calls Tryz.prog 63 #[] w fun e w'=>e=.returned (.map (some w.heap.size))∧w'=w.alloc (.map aFq 7):=by
 have hmm:=@run_makeMap Tryz.prog
 have h1:=aDf w #[] 0 1 (dF 86) rfl
 have h2:=aDf w #[⟨.int .i64 1,dF 86,0⟩] 1 2 (dF 87) rfl
 have h3:=aDf w #[⟨.int .i64 1,dF 86,0⟩,⟨.int .i64 2,dF 87,1⟩] 2 3 (dF 88) rfl
 have h4:=aDf w #[⟨.int .i64 1,dF 86,0⟩,⟨.int .i64 2,dF 87,1⟩,⟨.int .i64 3,dF 88,2⟩] 3 4 (dF 86) rfl
 have h5:=aDf w #[⟨.int .i64 1,dF 86,0⟩,⟨.int .i64 2,dF 87,1⟩,⟨.int .i64 3,dF 88,2⟩,⟨.int .i64 4,dF 86,3⟩] 4 5 (dF 89) rfl
 have h6:=aDf w #[⟨.int .i64 1,dF 86,0⟩,⟨.int .i64 2,dF 87,1⟩,⟨.int .i64 3,dF 88,2⟩,⟨.int .i64 4,dF 86,3⟩,⟨.int .i64 5,dF 89,4⟩] 5 6 (dF 90) rfl
 have h7:=aDf w #[⟨.int .i64 1,dF 86,0⟩,⟨.int .i64 2,dF 87,1⟩,⟨.int .i64 3,dF 88,2⟩,⟨.int .i64 4,dF 86,3⟩,⟨.int .i64 5,dF 89,4⟩,⟨.int .i64 6,dF 90,5⟩] 6 7 (dF 91) rfl
 simp only [List.push_toArray,List.nil_append,Nat.zero_add] at h1
 simp only [List.push_toArray,List.cons_append,List.nil_append,Nat.reduceAdd] at h2
 simp only [List.push_toArray,List.cons_append,List.nil_append,Nat.reduceAdd] at h3
 simp only [List.push_toArray,List.cons_append,List.nil_append,Nat.reduceAdd] at h4
 simp only [List.push_toArray,List.cons_append,List.nil_append,Nat.reduceAdd] at h5
 simp only [List.push_toArray,List.cons_append,List.nil_append,Nat.reduceAdd] at h6
 simp only [List.push_toArray,List.cons_append,List.nil_append,Nat.reduceAdd] at h7
 go_enter Tryz.func63,Tryz.ntmps63
 go_wp2_with fail
 go_ret
 exact ⟨rfl,rfl⟩
theorem aCv {W:World} {m:Nat} (hb:W.heap[m]?=some (.map aFq 7)) (i:Int) (n:Nat) (h:Instr.findNow (.int .i64) (.int .i64 i) aFq.toList 0=some (some ((i - 1).toNat,dF n))) :
  (Instr.lookup 110 (.map (some m)) (.int .i64 i) false).run Tryz.prog W=.ok (dF n) W:=by
 have u3:=Tryz.underlying3
 have hg:=MapKept.run_getObj_map (P:=Tryz.prog) hb
 have hc:=MapKept.run_checkKey (w:=W) (k:=.int .i64 i) u3 (by trivial) false 9999
 have he:aFq.isEmpty=false:=rfl
 unfold Instr.lookup Instr.findKey
 simp only [Sem.run_bind,run_underlying Tryz.underlying110,Result.andThen_ok,hg,he,hc,run_underlying u3,h,Sem.run_pure]
 rfl
end Go.Proofs.YthnodpdiocppgaaGreatDoor
namespace Go.Proofs.YthnodpdiocppgaaGreatDoor
open Go Go.RowKit Go.Shelf
theorem aW3 {p:aAa} (h:okB p):okP p:=⟨sm h.1,sm h.2⟩
abbrev zV (r:RfB):OV:=⟨r,false,[],none,0,[],none,0,Ob.nil,[],none,0,[],none,0,[],none,0,[],none,0,[],none,0,[],none,0⟩
theorem aDa (x y:OV) (b:Bool) (hb:Ob.sameO x.b { y.b with ref:=x.ref }=b) (w:World) (hx:x.at_ w) (hy:y.at_ w) :
  Calls Tryz.prog 101 #[oV x,oV y] w fun e w'=>e=.returned (.bool b)∧Below w.heap.size w w':=by
 rw [←hb]
 exact aN5 x y w hx hy
def enters (g:Nat):Prop:=∀ (args:Array Value) (w:World),(callFunc g args).run Tryz.prog w=.ok (.enter g args) w
theorem aHm (x:OV) (w:World) (hx:x.at_ w) (_ok:OkO x) :
  Calls Tryz.prog 86 #[oV x] w fun e w'=>e=.returned (.bool (Ob.mayGood x.b))∧Below w.heap.size w w':=by
 obtain ⟨X,hX⟩:∃ z,z=(w.alloc (.cells #[.int .i64 x.ref.kind,.string x.ref.space,.string x.ref.name,.bool x.good,x.vl,x.vp,.string x.cls,x.vi,x.vq,x.vh,x.vr,x.vf,x.vo] 112)):=⟨_,rfl⟩
 have HB0:Hid (Below w.heap.size w (w.alloc (.cells #[.int .i64 x.ref.kind,.string x.ref.space,.string x.ref.name,.bool x.good,x.vl,x.vp,.string x.cls,x.vi,x.vq,x.vh,x.vr,x.vf,x.vo] 112))):=(Below.refl _ _).alloc (Nat.le_refl _) _
 have B1:Below w.heap.size w X:=by rw [hX];exact HB0.out
 have C1:=fun W (h:Below X.heap.size X W)=>hide (aDa x { zV Ob.zR with good:=x.good } (Ob.sameO x.b { (⟨Ob.zR,x.good,[],[],Ob.nil,[],[],[],[],[],[]⟩:OB) with ref:=x.ref }) rfl W (hx.below (bb2 B1 h)) ⟨Prs.nil W,Sl.nil W,Sl.nil W,Sl.nil W,Sl.nil W,Sl.nil W,Sl.nil W,Sl.nil W⟩)
 have HP:Hid (Ob.mayGood x.b=(Ob.sameO x.b { (⟨Ob.zR,x.good,[],[],Ob.nil,[],[],[],[],[],[]⟩:OB) with ref:=x.ref })):=by
  rfl
 have HB1:=hide B1
 clear B1
 clear hx _ok
 generalize Ob.mayGood x.b=z at *
 generalize Ob.sameO x.b { (⟨Ob.zR,x.good,[],[],Ob.nil,[],[],[],[],[],[]⟩:OB) with ref:=x.ref }=y0 at *
 obtain ⟨⟨rk0,rs0,rn0⟩,gd0,lb0,al0,cl0,po0,ap0,cp0,cs0,ls0,ai0,ci0,pa0,aq0,cq0,ho0,ah0,ch0,ru0,ar0,cr0,fr0,af0,cf0,to0,ao0,co0⟩:=x
 try dsimp only at *
 go_enter Tryz.func86,Tryz.ntmps86
 go_wp2_with fail
 rw [←hX]
 clear hX
 refine (aA5 ((C1 _ (Below.refl _ _)).out)).mono ?_
 rintro e x ⟨rfl,q,rfl⟩
 go_wp2_with fail
 go_ret
 exact ⟨aA1 HP.out.symm,bb2 HB1.out q.h⟩
theorem aR2 (x:OV) (w:World) (hx:x.at_ w) (ok:OkO x) :
  Calls Tryz.prog 87 #[oV x] w fun e w'=>e=.returned (.bool (Ob.maySp x.b))∧Below w.heap.size w w':=by
 obtain ⟨X,hX⟩:∃ z,z=(w.alloc (.cells #[.int .i64 x.ref.kind,.string x.ref.space,.string x.ref.name,.bool x.good,x.vl,x.vp,.string x.cls,x.vi,x.vq,x.vh,x.vr,x.vf,x.vo] 112)):=⟨_,rfl⟩
 have HB0:Hid (Below w.heap.size w (w.alloc (.cells #[.int .i64 x.ref.kind,.string x.ref.space,.string x.ref.name,.bool x.good,x.vl,x.vp,.string x.cls,x.vi,x.vq,x.vh,x.vr,x.vf,x.vo] 112))):=(Below.refl _ _).alloc (Nat.le_refl _) _
 have B1:Below w.heap.size w X:=by rw [hX];exact HB0.out
 have K0:X.heap[w.heap.size]?=some (.cells #[.int .i64 x.ref.kind,.string x.ref.space,.string x.ref.name,.bool x.good,x.vl,x.vp,.string x.cls,x.vi,x.vq,x.vh,x.vr,x.vf,x.vo] 112):=by
  rw [hX]
  exact aA7 _ _
 have c0_4:=fun (q:GB X)=>aA0 (aA2 K0 q.h) (i:=4) rfl
 clear K0
 have C1:=fun W (h:Below X.heap.size X W)=>hide (aDa x { zV Ob.zR with labels:=x.labels,al:=x.al,cl:=x.cl } (Ob.sameO x.b { (⟨Ob.zR,false,x.labels,[],Ob.nil,[],[],[],[],[],[]⟩:OB) with ref:=x.ref }) rfl W (hx.below (bb2 B1 h)) ⟨(hx.below (bb2 B1 h)).labels,Sl.nil W,Sl.nil W,Sl.nil W,Sl.nil W,Sl.nil W,Sl.nil W,Sl.nil W⟩)
 have C2:=fun W (h:Below X.heap.size X W)=>hide (aSj x.vl x.labels W (hx.below (bb2 B1 h)).labels (fun p hp=>aW3 (ok.labels p hp)))
 have HP:Hid (Ob.maySp x.b=(Ob.sameO x.b { (⟨Ob.zR,false,x.labels,[],Ob.nil,[],[],[],[],[],[]⟩:OB) with ref:=x.ref }&&(La.mayL x.labels))):=by
  rfl
 have HB1:=hide B1
 clear B1
 clear hx ok
 generalize Ob.maySp x.b=z at *
 generalize Ob.sameO x.b { (⟨Ob.zR,false,x.labels,[],Ob.nil,[],[],[],[],[],[]⟩:OB) with ref:=x.ref }=y0 at *
 generalize La.mayL x.labels=y1 at *
 obtain ⟨⟨rk0,rs0,rn0⟩,gd0,lb0,al0,cl0,po0,ap0,cp0,cs0,ls0,ai0,ci0,pa0,aq0,cq0,ho0,ah0,ch0,ru0,ar0,cr0,fr0,af0,cf0,to0,ao0,co0⟩:=x
 try dsimp only at *
 go_enter Tryz.func87,Tryz.ntmps87
 go_wp2_with fail
 rw [←hX]
 clear hX
 cases y0
 ·refine (aA5 ((C1 _ (Below.refl _ _)).out)).mono ?_
  rintro e x ⟨rfl,q,rfl⟩
  go_wp2_with fail
  go_ret
  exact ⟨aA1 HP.out.symm,bb2 HB1.out q.h⟩
 ·refine (aA5 ((C1 _ (Below.refl _ _)).out)).mono ?_
  rintro e x ⟨rfl,q,rfl⟩
  go_wp2_with fail
  refine (aA3 ((C2 _ q.h).out)).mono ?_
  rintro e x ⟨rfl,q,rfl⟩
  go_wp2_with fail
  go_ret
  exact ⟨aA1 HP.out.symm,bb2 HB1.out q.h⟩
theorem aR3 (x:OV) (w:World) (hx:x.at_ w) (_ok:OkO x) :
  Calls Tryz.prog 88 #[oV x] w fun e w'=>e=.returned (.bool (Ob.maySv x.b))∧Below w.heap.size w w':=by
 obtain ⟨X,hX⟩:∃ z,z=(w.alloc (.cells #[.int .i64 x.ref.kind,.string x.ref.space,.string x.ref.name,.bool x.good,x.vl,x.vp,.string x.cls,x.vi,x.vq,x.vh,x.vr,x.vf,x.vo] 112)):=⟨_,rfl⟩
 have HB0:Hid (Below w.heap.size w (w.alloc (.cells #[.int .i64 x.ref.kind,.string x.ref.space,.string x.ref.name,.bool x.good,x.vl,x.vp,.string x.cls,x.vi,x.vq,x.vh,x.vr,x.vf,x.vo] 112))):=(Below.refl _ _).alloc (Nat.le_refl _) _
 have B1:Below w.heap.size w X:=by rw [hX];exact HB0.out
 have K0:X.heap[w.heap.size]?=some (.cells #[.int .i64 x.ref.kind,.string x.ref.space,.string x.ref.name,.bool x.good,x.vl,x.vp,.string x.cls,x.vi,x.vq,x.vh,x.vr,x.vf,x.vo] 112):=by
  rw [hX]
  exact aA7 _ _
 have c0_5:=fun (q:GB X)=>aA0 (aA2 K0 q.h) (i:=5) rfl
 clear K0
 have C1:=fun W (h:Below X.heap.size X W)=>hide (aDa x { zV Ob.zR with ports:=x.ports,ap:=x.ap,cp:=x.cp } (Ob.sameO x.b { (⟨Ob.zR,false,[],x.ports,Ob.nil,[],[],[],[],[],[]⟩:OB) with ref:=x.ref }) rfl W (hx.below (bb2 B1 h)) ⟨Prs.nil W,(hx.below (bb2 B1 h)).ports,Sl.nil W,Sl.nil W,Sl.nil W,Sl.nil W,Sl.nil W,Sl.nil W⟩)
 have C2:=fun W (h:Below X.heap.size X W)=>hide (cntI Ob.isPort 104 x.vp x.ports 1 8 W (hx.below (bb2 B1 h)).ports (fun args w=>aAd Tryz.func104 (by kernel_rfl) rfl args w) (fun n _ V _ _=>aGa n V))
 have C3:=fun W (h:Below X.heap.size X W)=>hide (aOv x.vp x.ports W (hx.below (bb2 B1 h)).ports)
 have C4:=fun W (h:Below X.heap.size X W)=>hide (difI Ob.eqI 107 x.vp x.ports W (hx.below (bb2 B1 h)).ports (fun args w=>aAd Tryz.func107 (by kernel_rfl) rfl args w) (fun n _ m _ V _=>aOt n m V))
 have HP:Hid (Ob.maySv x.b=(Ob.sameO x.b { (⟨Ob.zR,false,[],x.ports,Ob.nil,[],[],[],[],[],[]⟩:OB) with ref:=x.ref }&&(Ob.cnt x.ports 1 8 Ob.isPort&&(Ob.srt x.ports&&(Ob.dif Ob.eqI x.ports))))):=by
  rfl
 have HB1:=hide B1
 clear B1
 clear hx _ok
 generalize Ob.maySv x.b=z at *
 generalize Ob.sameO x.b { (⟨Ob.zR,false,[],x.ports,Ob.nil,[],[],[],[],[],[]⟩:OB) with ref:=x.ref }=y0 at *
 generalize Ob.cnt x.ports 1 8 Ob.isPort=y1 at *
 generalize Ob.srt x.ports=y2 at *
 generalize Ob.dif Ob.eqI x.ports=y3 at *
 obtain ⟨⟨rk0,rs0,rn0⟩,gd0,lb0,al0,cl0,po0,ap0,cp0,cs0,ls0,ai0,ci0,pa0,aq0,cq0,ho0,ah0,ch0,ru0,ar0,cr0,fr0,af0,cf0,to0,ao0,co0⟩:=x
 try dsimp only at *
 go_enter Tryz.func88,Tryz.ntmps88
 go_wp2_with fail
 rw [←hX]
 clear hX
 cases y0
 ·refine (aA5 ((C1 _ (Below.refl _ _)).out)).mono ?_
  rintro e x ⟨rfl,q,rfl⟩
  go_wp2_with fail
  go_ret
  exact ⟨aA1 HP.out.symm,bb2 HB1.out q.h⟩
 ·refine (aA5 ((C1 _ (Below.refl _ _)).out)).mono ?_
  rintro e x ⟨rfl,q,rfl⟩
  go_wp2_with fail
  cases y1
  ·refine (aA3 ((C2 _ q.h).out)).mono ?_
   rintro e x ⟨rfl,q,rfl⟩
   go_wp2_with fail
   go_ret
   exact ⟨aA1 HP.out.symm,bb2 HB1.out q.h⟩
  ·refine (aA3 ((C2 _ q.h).out)).mono ?_
   rintro e x ⟨rfl,q,rfl⟩
   go_wp2_with fail
   cases y2
   ·refine (aA3 ((C3 _ q.h).out)).mono ?_
    rintro e x ⟨rfl,q,rfl⟩
    go_wp2_with fail
    go_ret
    exact ⟨aA1 HP.out.symm,bb2 HB1.out q.h⟩
   ·refine (aA3 ((C3 _ q.h).out)).mono ?_
    rintro e x ⟨rfl,q,rfl⟩
    go_wp2_with fail
    refine (aA3 ((C4 _ q.h).out)).mono ?_
    rintro e x ⟨rfl,q,rfl⟩
    go_wp2_with fail
    go_ret
    exact ⟨aA1 HP.out.symm,bb2 HB1.out q.h⟩
theorem aE1 {α β:Type} (l:List α) (f:α→β) (lo hi:Int) (p:β→Bool):Ob.cnt (l.map f) lo hi p=Ob.cnt l lo hi (fun x=>p (f x)):=by
 unfold Ob.cnt
 rw [List.length_map,List.all_map]
 rfl
theorem aLr {α β:Type} (l:List α) (f:α→β) (p:β→β→Bool):Ob.dif p (l.map f)=Ob.dif (fun x y=>p (f x) (f y)) l:=by
 rw [Bool.eq_iff_iff,Ob.dif_iff,Ob.dif_iff,List.pairwise_map]
theorem aR4 (x:OV) (w:World) (hx:x.at_ w) (ok:OkO x) :
  Calls Tryz.prog 89 #[oV x] w fun e w'=>e=.returned (.bool (Ob.mayGw x.b))∧Below w.heap.size w w':=by
 obtain ⟨X,hX⟩:∃ z,z=(w.alloc (.cells #[.int .i64 x.ref.kind,.string x.ref.space,.string x.ref.name,.bool x.good,x.vl,x.vp,.string x.cls,x.vi,x.vq,x.vh,x.vr,x.vf,x.vo] 112)):=⟨_,rfl⟩
 have HB0:Hid (Below w.heap.size w (w.alloc (.cells #[.int .i64 x.ref.kind,.string x.ref.space,.string x.ref.name,.bool x.good,x.vl,x.vp,.string x.cls,x.vi,x.vq,x.vh,x.vr,x.vf,x.vo] 112))):=(Below.refl _ _).alloc (Nat.le_refl _) _
 have B1:Below w.heap.size w X:=by rw [hX];exact HB0.out
 have K0:X.heap[w.heap.size]?=some (.cells #[.int .i64 x.ref.kind,.string x.ref.space,.string x.ref.name,.bool x.good,x.vl,x.vp,.string x.cls,x.vi,x.vq,x.vh,x.vr,x.vf,x.vo] 112):=by
  rw [hX]
  exact aA7 _ _
 have c0_6:=fun (q:GB X)=>aA0 (aA2 K0 q.h) (i:=6) rfl
 have c0_7:=fun (q:GB X)=>aA0 (aA2 K0 q.h) (i:=7) rfl
 clear K0
 have C1:=fun W (h:Below X.heap.size X W)=>hide (aDa x { zV Ob.zR with cls:=x.cls,lis:=x.lis,ai:=x.ai,ci:=x.ci } (Ob.sameO x.b { (⟨Ob.zR,false,[],[],x.cls,x.lis.map LiV.b,[],[],[],[],[]⟩:OB) with ref:=x.ref }) rfl W (hx.below (bb2 B1 h)) ⟨Prs.nil W,Sl.nil W,(hx.below (bb2 B1 h)).lis,Sl.nil W,Sl.nil W,Sl.nil W,Sl.nil W,Sl.nil W⟩)
 have C2:=fun W (h:Below X.heap.size X W)=>hide (aF1 x.cls W (sm ok.cls))
 have C3:=fun W (h:Below X.heap.size X W)=>hide (aXc (fun l=>Ob.mayLi l.b) 109 x.vi x.lis 1 8 W (hx.below (bb2 B1 h)).lis (fun args w=>aAd Tryz.func109 (by kernel_rfl) rfl args w) (fun l hl V _ hA=>aQu l V hA (ok.lis l hl)))
 have C4:=fun W (h:Below X.heap.size X W)=>hide (aXp (fun a b=>Ob.nameLi a.b b.b) 111 x.vi x.lis W (hx.below (bb2 B1 h)).lis (fun args w=>aAd Tryz.func111 (by kernel_rfl) rfl args w) (fun a _ b _ V _=>aLq a b V))
 have HP:Hid (Ob.mayGw x.b=(Ob.sameO x.b { (⟨Ob.zR,false,[],[],x.cls,x.lis.map LiV.b,[],[],[],[],[]⟩:OB) with ref:=x.ref }&&(Ob.isN x.cls&&(Ob.cnt x.lis 1 8 (fun l=>Ob.mayLi l.b)&&(Ob.dif (fun a b=>Ob.nameLi a.b b.b) x.lis))))):=by
  unfold Hid Ob.mayGw
  rw [←aE1 x.lis LiV.b,←aLr x.lis LiV.b]
  rfl
 have HB1:=hide B1
 clear B1
 clear hx ok
 generalize Ob.mayGw x.b=z at *
 generalize Ob.sameO x.b { (⟨Ob.zR,false,[],[],x.cls,x.lis.map LiV.b,[],[],[],[],[]⟩:OB) with ref:=x.ref }=y0 at *
 generalize Ob.isN x.cls=y1 at *
 generalize Ob.cnt x.lis 1 8 (fun l=>Ob.mayLi l.b)=y2 at *
 generalize Ob.dif (fun a b=>Ob.nameLi a.b b.b) x.lis=y3 at *
 obtain ⟨⟨rk0,rs0,rn0⟩,gd0,lb0,al0,cl0,po0,ap0,cp0,cs0,ls0,ai0,ci0,pa0,aq0,cq0,ho0,ah0,ch0,ru0,ar0,cr0,fr0,af0,cf0,to0,ao0,co0⟩:=x
 try dsimp only at *
 go_enter Tryz.func89,Tryz.ntmps89
 go_wp2_with fail
 rw [←hX]
 clear hX
 cases y0
 ·refine (aA5 ((C1 _ (Below.refl _ _)).out)).mono ?_
  rintro e x ⟨rfl,q,rfl⟩
  go_wp2_with fail
  go_ret
  exact ⟨aA1 HP.out.symm,bb2 HB1.out q.h⟩
 ·refine (aA5 ((C1 _ (Below.refl _ _)).out)).mono ?_
  rintro e x ⟨rfl,q,rfl⟩
  go_wp2_with fail
  cases y1
  ·refine (aA3 ((C2 _ q.h).out)).mono ?_
   rintro e x ⟨rfl,q,rfl⟩
   go_wp2_with fail
   go_ret
   exact ⟨aA1 HP.out.symm,bb2 HB1.out q.h⟩
  ·refine (aA3 ((C2 _ q.h).out)).mono ?_
   rintro e x ⟨rfl,q,rfl⟩
   go_wp2_with fail
   cases y2
   ·refine (aA3 ((C3 _ q.h).out)).mono ?_
    rintro e x ⟨rfl,q,rfl⟩
    go_wp2_with fail
    go_ret
    exact ⟨aA1 HP.out.symm,bb2 HB1.out q.h⟩
   ·refine (aA3 ((C3 _ q.h).out)).mono ?_
    rintro e x ⟨rfl,q,rfl⟩
    go_wp2_with fail
    refine (aA3 ((C4 _ q.h).out)).mono ?_
    rintro e x ⟨rfl,q,rfl⟩
    go_wp2_with fail
    go_ret
    exact ⟨aA1 HP.out.symm,bb2 HB1.out q.h⟩
theorem aR5 (x:RlV) (w:World) (hx:x.at_ w) (ok:OkRl x) :
  Calls Tryz.prog 121 #[rlV x] w fun e w'=>e=.returned (.bool (Ob.mayRl x.b))∧Below w.heap.size w w':=by
 obtain ⟨X,hX⟩:∃ z,z=(w.alloc (.cells #[x.vm,x.vf,x.vb] 76)):=⟨_,rfl⟩
 have HB0:Hid (Below w.heap.size w (w.alloc (.cells #[x.vm,x.vf,x.vb] 76))):=(Below.refl _ _).alloc (Nat.le_refl _) _
 have B1:Below w.heap.size w X:=by rw [hX];exact HB0.out
 have K0:X.heap[w.heap.size]?=some (.cells #[x.vm,x.vf,x.vb] 76):=by
  rw [hX]
  exact aA7 _ _
 have c0_1:=fun (q:GB X)=>aA0 (aA2 K0 q.h) (i:=1) rfl
 have c0_2:=fun (q:GB X)=>aA0 (aA2 K0 q.h) (i:=2) rfl
 clear K0
 have C1:=fun W (h:Below X.heap.size X W)=>hide (cntM (fun m=>mayM m.m) 156 x.vm x.ms 0 4 W (hx.below (bb2 B1 h)).ms (fun args w=>aAd Tryz.func156 (by kernel_rfl) rfl args w) (fun m hm V _ hA=>aWw m.m m.vh m.vq V hA.1 hA.2 (ok.ms m hm)))
 have C2:=fun W (h:Below X.heap.size X W)=>hide (aT0 x.vf x.fs W (hx.below (bb2 B1 h)).fs ok.fs)
 have C3:=fun W (h:Below X.heap.size X W)=>hide (cntK Ob.mayBk 159 x.vb x.bs 0 4 W (hx.below (bb2 B1 h)).bs (fun args w=>aAd Tryz.func159 (by kernel_rfl) rfl args w) (fun b hb V _ _=>aQw b V (ok.bs b hb)))
 have HP:Hid (Ob.mayRl x.b=(Ob.cnt x.ms 0 4 (fun m=>mayM m.m)&&(Fi.allF x.fs&&(Ob.cnt x.bs 0 4 Ob.mayBk)))):=by
  unfold Hid Ob.mayRl
  rw [←aE1 x.ms (fun m=>m.m)]
  rfl
 have HB1:=hide B1
 clear B1
 clear hx ok
 generalize Ob.mayRl x.b=z at *
 generalize Ob.cnt x.ms 0 4 (fun m=>mayM m.m)=y0 at *
 generalize Fi.allF x.fs=y1 at *
 generalize Ob.cnt x.bs 0 4 Ob.mayBk=y2 at *
 obtain ⟨ms0,am0,cm0,fs0,af0,cf0,bs0,ab0,cb0⟩:=x
 try dsimp only at *
 go_enter Tryz.func121,Tryz.ntmps121
 go_wp2_with fail
 rw [←hX]
 clear hX
 cases y0
 ·refine (aA5 ((C1 _ (Below.refl _ _)).out)).mono ?_
  rintro e x ⟨rfl,q,rfl⟩
  go_wp2_with fail
  go_ret
  exact ⟨aA1 HP.out.symm,bb2 HB1.out q.h⟩
 ·refine (aA5 ((C1 _ (Below.refl _ _)).out)).mono ?_
  rintro e x ⟨rfl,q,rfl⟩
  go_wp2_with fail
  cases y1
  ·refine (aA3 ((C2 _ q.h).out)).mono ?_
   rintro e x ⟨rfl,q,rfl⟩
   go_wp2_with fail
   go_ret
   exact ⟨aA1 HP.out.symm,bb2 HB1.out q.h⟩
  ·refine (aA3 ((C2 _ q.h).out)).mono ?_
   rintro e x ⟨rfl,q,rfl⟩
   go_wp2_with fail
   refine (aA3 ((C3 _ q.h).out)).mono ?_
   rintro e x ⟨rfl,q,rfl⟩
   go_wp2_with fail
   go_ret
   exact ⟨aA1 HP.out.symm,bb2 HB1.out q.h⟩
theorem aR6 (x:OV) (w:World) (hx:x.at_ w) (ok:OkO x) :
  Calls Tryz.prog 90 #[oV x] w fun e w'=>e=.returned (.bool (Ob.mayRt x.b))∧Below w.heap.size w w':=by
 obtain ⟨X,hX⟩:∃ z,z=(w.alloc (.cells #[.int .i64 x.ref.kind,.string x.ref.space,.string x.ref.name,.bool x.good,x.vl,x.vp,.string x.cls,x.vi,x.vq,x.vh,x.vr,x.vf,x.vo] 112)):=⟨_,rfl⟩
 have HB0:Hid (Below w.heap.size w (w.alloc (.cells #[.int .i64 x.ref.kind,.string x.ref.space,.string x.ref.name,.bool x.good,x.vl,x.vp,.string x.cls,x.vi,x.vq,x.vh,x.vr,x.vf,x.vo] 112))):=(Below.refl _ _).alloc (Nat.le_refl _) _
 have B1:Below w.heap.size w X:=by rw [hX];exact HB0.out
 have K0:X.heap[w.heap.size]?=some (.cells #[.int .i64 x.ref.kind,.string x.ref.space,.string x.ref.name,.bool x.good,x.vl,x.vp,.string x.cls,x.vi,x.vq,x.vh,x.vr,x.vf,x.vo] 112):=by
  rw [hX]
  exact aA7 _ _
 have c0_8:=fun (q:GB X)=>aA0 (aA2 K0 q.h) (i:=8) rfl
 have c0_9:=fun (q:GB X)=>aA0 (aA2 K0 q.h) (i:=9) rfl
 have c0_10:=fun (q:GB X)=>aA0 (aA2 K0 q.h) (i:=10) rfl
 clear K0
 have C1:=fun W (h:Below X.heap.size X W)=>hide (aDa x { zV Ob.zR with pars:=x.pars,aq:=x.aq,cq:=x.cq,hosts:=x.hosts,ah:=x.ah,ch:=x.ch,rules:=x.rules,ar:=x.ar,cr:=x.cr } (Ob.sameO x.b { (⟨Ob.zR,false,[],[],Ob.nil,[],x.pars,x.hosts,x.rules.map RlV.b,[],[]⟩:OB) with ref:=x.ref }) rfl W (hx.below (bb2 B1 h)) ⟨Prs.nil W,Sl.nil W,Sl.nil W,(hx.below (bb2 B1 h)).pars,(hx.below (bb2 B1 h)).hosts,(hx.below (bb2 B1 h)).rules,Sl.nil W,Sl.nil W⟩)
 have C2:=fun W (h:Below X.heap.size X W)=>hide (aX6 Ob.mayPt 113 x.vq x.pars 0 4 W (hx.below (bb2 B1 h)).pars (fun args w=>aAd Tryz.func113 (by kernel_rfl) rfl args w) (fun p hp V _ _=>aQv p V (ok.pars p hp)))
 have C3:=fun W (h:Below X.heap.size X W)=>hide (aXn Ob.eqP 115 x.vq x.pars W (hx.below (bb2 B1 h)).pars (fun args w=>aAd Tryz.func115 (by kernel_rfl) rfl args w) (fun a _ b _ V _=>aN4 a b V))
 have C4:=fun W (h:Below X.heap.size X W)=>hide (cntS Ob.mayHo 117 x.vh x.hosts 0 4 W (hx.below (bb2 B1 h)).hosts (fun args w=>aAd Tryz.func117 (by kernel_rfl) rfl args w) (fun s hs V _ _=>aQt s V (sm (ok.hosts s hs))))
 have C5:=fun W (h:Below X.heap.size X W)=>hide (difS Ob.eqS 119 x.vh x.hosts W (hx.below (bb2 B1 h)).hosts (fun args w=>aAd Tryz.func119 (by kernel_rfl) rfl args w) (fun a _ b _ V _=>aOu a b V))
 have C6:=fun W (h:Below X.heap.size X W)=>hide (aXe (fun r=>Ob.mayRl r.b) 121 x.vr x.rules 0 6 W (hx.below (bb2 B1 h)).rules (fun args w=>aAd Tryz.func121 (by kernel_rfl) rfl args w) (fun r hr V _ hA=>aR5 r V hA (ok.rules r hr)))
 have HP:Hid (Ob.mayRt x.b=(Ob.sameO x.b { (⟨Ob.zR,false,[],[],Ob.nil,[],x.pars,x.hosts,x.rules.map RlV.b,[],[]⟩:OB) with ref:=x.ref }&&(Ob.cnt x.pars 0 4 Ob.mayPt&&(Ob.dif Ob.eqP x.pars&&(Ob.cnt x.hosts 0 4 Ob.mayHo&&(Ob.dif Ob.eqS x.hosts&&(Ob.cnt x.rules 0 6 (fun r=>Ob.mayRl r.b)))))))):=by
  unfold Hid Ob.mayRt
  rw [←aE1 x.rules RlV.b]
  rfl
 have HB1:=hide B1
 clear B1
 clear hx ok
 generalize Ob.mayRt x.b=z at *
 generalize Ob.sameO x.b { (⟨Ob.zR,false,[],[],Ob.nil,[],x.pars,x.hosts,x.rules.map RlV.b,[],[]⟩:OB) with ref:=x.ref }=y0 at *
 generalize Ob.cnt x.pars 0 4 Ob.mayPt=y1 at *
 generalize Ob.dif Ob.eqP x.pars=y2 at *
 generalize Ob.cnt x.hosts 0 4 Ob.mayHo=y3 at *
 generalize Ob.dif Ob.eqS x.hosts=y4 at *
 generalize Ob.cnt x.rules 0 6 (fun r=>Ob.mayRl r.b)=y5 at *
 obtain ⟨⟨rk0,rs0,rn0⟩,gd0,lb0,al0,cl0,po0,ap0,cp0,cs0,ls0,ai0,ci0,pa0,aq0,cq0,ho0,ah0,ch0,ru0,ar0,cr0,fr0,af0,cf0,to0,ao0,co0⟩:=x
 try dsimp only at *
 go_enter Tryz.func90,Tryz.ntmps90
 go_wp2_with fail
 rw [←hX]
 clear hX
 cases y0
 ·refine (aA5 ((C1 _ (Below.refl _ _)).out)).mono ?_
  rintro e x ⟨rfl,q,rfl⟩
  go_wp2_with fail
  go_ret
  exact ⟨aA1 HP.out.symm,bb2 HB1.out q.h⟩
 ·refine (aA5 ((C1 _ (Below.refl _ _)).out)).mono ?_
  rintro e x ⟨rfl,q,rfl⟩
  go_wp2_with fail
  cases y1
  ·refine (aA3 ((C2 _ q.h).out)).mono ?_
   rintro e x ⟨rfl,q,rfl⟩
   go_wp2_with fail
   go_ret
   exact ⟨aA1 HP.out.symm,bb2 HB1.out q.h⟩
  ·refine (aA3 ((C2 _ q.h).out)).mono ?_
   rintro e x ⟨rfl,q,rfl⟩
   go_wp2_with fail
   cases y2
   ·refine (aA3 ((C3 _ q.h).out)).mono ?_
    rintro e x ⟨rfl,q,rfl⟩
    go_wp2_with fail
    go_ret
    exact ⟨aA1 HP.out.symm,bb2 HB1.out q.h⟩
   ·refine (aA3 ((C3 _ q.h).out)).mono ?_
    rintro e x ⟨rfl,q,rfl⟩
    go_wp2_with fail
    cases y3
    ·refine (aA3 ((C4 _ q.h).out)).mono ?_
     rintro e x ⟨rfl,q,rfl⟩
     go_wp2_with fail
     go_ret
     exact ⟨aA1 HP.out.symm,bb2 HB1.out q.h⟩
    ·refine (aA3 ((C4 _ q.h).out)).mono ?_
     rintro e x ⟨rfl,q,rfl⟩
     go_wp2_with fail
     cases y4
     ·refine (aA3 ((C5 _ q.h).out)).mono ?_
      rintro e x ⟨rfl,q,rfl⟩
      go_wp2_with fail
      go_ret
      exact ⟨aA1 HP.out.symm,bb2 HB1.out q.h⟩
     ·refine (aA3 ((C5 _ q.h).out)).mono ?_
      rintro e x ⟨rfl,q,rfl⟩
      go_wp2_with fail
      refine (aA3 ((C6 _ q.h).out)).mono ?_
      rintro e x ⟨rfl,q,rfl⟩
      go_wp2_with fail
      go_ret
      exact ⟨aA1 HP.out.symm,bb2 HB1.out q.h⟩
theorem aR7 (x:OV) (w:World) (hx:x.at_ w) (ok:OkO x) :
  Calls Tryz.prog 91 #[oV x] w fun e w'=>e=.returned (.bool (Ob.mayGr x.b))∧Below w.heap.size w w':=by
 obtain ⟨X,hX⟩:∃ z,z=(w.alloc (.cells #[.int .i64 x.ref.kind,.string x.ref.space,.string x.ref.name,.bool x.good,x.vl,x.vp,.string x.cls,x.vi,x.vq,x.vh,x.vr,x.vf,x.vo] 112)):=⟨_,rfl⟩
 have HB0:Hid (Below w.heap.size w (w.alloc (.cells #[.int .i64 x.ref.kind,.string x.ref.space,.string x.ref.name,.bool x.good,x.vl,x.vp,.string x.cls,x.vi,x.vq,x.vh,x.vr,x.vf,x.vo] 112))):=(Below.refl _ _).alloc (Nat.le_refl _) _
 have B1:Below w.heap.size w X:=by rw [hX];exact HB0.out
 have K0:X.heap[w.heap.size]?=some (.cells #[.int .i64 x.ref.kind,.string x.ref.space,.string x.ref.name,.bool x.good,x.vl,x.vp,.string x.cls,x.vi,x.vq,x.vh,x.vr,x.vf,x.vo] 112):=by
  rw [hX]
  exact aA7 _ _
 have c0_11:=fun (q:GB X)=>aA0 (aA2 K0 q.h) (i:=11) rfl
 have c0_12:=fun (q:GB X)=>aA0 (aA2 K0 q.h) (i:=12) rfl
 clear K0
 have C1:=fun W (h:Below X.heap.size X W)=>hide (aDa x { zV Ob.zR with frm:=x.frm,af:=x.af,cf:=x.cf,tos:=x.tos,ao:=x.ao,co:=x.co } (Ob.sameO x.b { (⟨Ob.zR,false,[],[],Ob.nil,[],[],[],[],x.frm,x.tos⟩:OB) with ref:=x.ref }) rfl W (hx.below (bb2 B1 h)) ⟨Prs.nil W,Sl.nil W,Sl.nil W,Sl.nil W,Sl.nil W,Sl.nil W,(hx.below (bb2 B1 h)).frm,(hx.below (bb2 B1 h)).tos⟩)
 have C2:=fun W (h:Below X.heap.size X W)=>hide (cntD Ob.mayFr 123 x.vf x.frm 1 4 W (hx.below (bb2 B1 h)).frm (fun args w=>aAd Tryz.func123 (by kernel_rfl) rfl args w) (fun s hs V _ _=>aQx s V (ok.frm s hs)))
 have C3:=fun W (h:Below X.heap.size X W)=>hide (cntD Ob.mayTo 124 x.vo x.tos 1 4 W (hx.below (bb2 B1 h)).tos (fun args w=>aAd Tryz.func124 (by kernel_rfl) rfl args w) (fun s hs V _ _=>aQy s V (ok.tos s hs)))
 have HP:Hid (Ob.mayGr x.b=(Ob.sameO x.b { (⟨Ob.zR,false,[],[],Ob.nil,[],[],[],[],x.frm,x.tos⟩:OB) with ref:=x.ref }&&(Ob.cnt x.frm 1 4 Ob.mayFr&&(Ob.cnt x.tos 1 4 Ob.mayTo)))):=by
  rfl
 have HB1:=hide B1
 clear B1
 clear hx ok
 generalize Ob.mayGr x.b=z at *
 generalize Ob.sameO x.b { (⟨Ob.zR,false,[],[],Ob.nil,[],[],[],[],x.frm,x.tos⟩:OB) with ref:=x.ref }=y0 at *
 generalize Ob.cnt x.frm 1 4 Ob.mayFr=y1 at *
 generalize Ob.cnt x.tos 1 4 Ob.mayTo=y2 at *
 obtain ⟨⟨rk0,rs0,rn0⟩,gd0,lb0,al0,cl0,po0,ap0,cp0,cs0,ls0,ai0,ci0,pa0,aq0,cq0,ho0,ah0,ch0,ru0,ar0,cr0,fr0,af0,cf0,to0,ao0,co0⟩:=x
 try dsimp only at *
 go_enter Tryz.func91,Tryz.ntmps91
 go_wp2_with fail
 rw [←hX]
 clear hX
 cases y0
 ·refine (aA5 ((C1 _ (Below.refl _ _)).out)).mono ?_
  rintro e x ⟨rfl,q,rfl⟩
  go_wp2_with fail
  go_ret
  exact ⟨aA1 HP.out.symm,bb2 HB1.out q.h⟩
 ·refine (aA5 ((C1 _ (Below.refl _ _)).out)).mono ?_
  rintro e x ⟨rfl,q,rfl⟩
  go_wp2_with fail
  cases y1
  ·refine (aA3 ((C2 _ q.h).out)).mono ?_
   rintro e x ⟨rfl,q,rfl⟩
   go_wp2_with fail
   go_ret
   exact ⟨aA1 HP.out.symm,bb2 HB1.out q.h⟩
  ·refine (aA3 ((C2 _ q.h).out)).mono ?_
   rintro e x ⟨rfl,q,rfl⟩
   go_wp2_with fail
   refine (aA3 ((C3 _ q.h).out)).mono ?_
   rintro e x ⟨rfl,q,rfl⟩
   go_wp2_with fail
   go_ret
   exact ⟨aA1 HP.out.symm,bb2 HB1.out q.h⟩
end Go.Proofs.YthnodpdiocppgaaGreatDoor
namespace Go.Proofs.YthnodpdiocppgaaGreatDoor
open Go Go.RowKit Go.Shelf
theorem aV2 (w:World):Calls Tryz.prog 63 #[] w fun e w'=>e=.returned (.map (some w.heap.size))∧w'.heap[w.heap.size]?=some (.map aFq 7)∧Below w.heap.size w w' :=
 (aR1 w).mono fun _ _ h=>⟨h.1,by rw [h.2];exact aA7 w _,by rw [h.2];exact (Below.refl _ _).alloc (Nat.le_refl _) _⟩
theorem aV3 (x:OV) (w:World) (ok:OkO x) (hr:Ob.mayRef x.ref=false) :
  Calls Tryz.prog 35 #[oV x] w fun e w'=>e=.returned (.bool false)∧Below w.heap.size w w':=by
 obtain ⟨X,hX⟩:∃ z,z=w.alloc (.cells #[.int .i64 x.ref.kind,.string x.ref.space,.string x.ref.name,.bool x.good,x.vl,x.vp,.string x.cls,x.vi,x.vq,x.vh,x.vr,x.vf,x.vo] 36):=⟨_,rfl⟩
 have B1:Below w.heap.size w X:=by rw [hX];exact (Below.refl _ _).alloc (Nat.le_refl _) _
 have K0:X.heap[w.heap.size]?=some (.cells #[.int .i64 x.ref.kind,.string x.ref.space,.string x.ref.name,.bool x.good,x.vl,x.vp,.string x.cls,x.vi,x.vq,x.vh,x.vr,x.vf,x.vo] 36):=by rw [hX];exact aA7 _ _
 have m0:=fun W (h:Below X.heap.size X W)=>aA0 (aA2 K0 h) (i:=0) rfl
 have m1:=fun W (h:Below X.heap.size X W)=>aA0 (aA2 K0 h) (i:=1) rfl
 have m2:=fun W (h:Below X.heap.size X W)=>aA0 (aA2 K0 h) (i:=2) rfl
 have m3:=fun W (h:Below X.heap.size X W)=>aA0 (aA2 K0 h) (i:=3) rfl
 have m4:=fun W (h:Below X.heap.size X W)=>aA0 (aA2 K0 h) (i:=4) rfl
 have m5:=fun W (h:Below X.heap.size X W)=>aA0 (aA2 K0 h) (i:=5) rfl
 have m6:=fun W (h:Below X.heap.size X W)=>aA0 (aA2 K0 h) (i:=6) rfl
 have m7:=fun W (h:Below X.heap.size X W)=>aA0 (aA2 K0 h) (i:=7) rfl
 have m8:=fun W (h:Below X.heap.size X W)=>aA0 (aA2 K0 h) (i:=8) rfl
 have m9:=fun W (h:Below X.heap.size X W)=>aA0 (aA2 K0 h) (i:=9) rfl
 have m10:=fun W (h:Below X.heap.size X W)=>aA0 (aA2 K0 h) (i:=10) rfl
 have m11:=fun W (h:Below X.heap.size X W)=>aA0 (aA2 K0 h) (i:=11) rfl
 have m12:=fun W (h:Below X.heap.size X W)=>aA0 (aA2 K0 h) (i:=12) rfl
 have C1:=fun W=>hide (aIw x.ref W ok.ref)
 rw [hr] at C1
 have HB1:=hide B1
 clear K0 hr ok B1
 obtain ⟨⟨rk0,rs0,rn0⟩,gd0,lb0,al0,cl0,po0,ap0,cp0,cs0,ls0,ai0,ci0,pa0,aq0,cq0,ho0,ah0,ch0,ru0,ar0,cr0,fr0,af0,cf0,to0,ao0,co0⟩:=x
 dsimp only at *
 go_enter Tryz.func35,Tryz.ntmps35
 go_wp2_with fail
 rw [←hX]
 clear hX
 refine wp_region_noPanic ?_
 refine wp_region_held_drew (S:=fun W=>Below (X).heap.size (X) W) (by kernel_rfl) ((Below.refl _ _).drew) (fun hHeld=>?_)
 refine zzH 0 ?_ rfl ?_ ?_
 rotate_left 1
 ·(intro W hSw;(try dsimp only at hSw);go_simp;(try with_reducible rfl))
 try simp only [Act.put,zzB,zzC,zzD]
 refine zzH 1 ?_ rfl ?_ ?_
 rotate_left 1
 ·(intro W hSw;(try dsimp only at hSw);obtain ⟨x0,x1,x2⟩:_∧_∧_:=⟨m0 W hSw,m1 W hSw,m2 W hSw⟩;go_simp;(try with_reducible rfl))
 try simp only [Act.put,zzB,zzC,zzD]
 refine wpAnyH_ready (rs:=[2]) (by kernel_rfl) (by simp) ?_
 refine AllReadyH.cons (op_at (rest:=_) rfl) (fun K hK=>?_) AllReadyH.nil
 go_simp
 refine ((C1 _).out).mono ?_
 rintro e w1 ⟨rfl,hb1⟩
 go_wp2_with fail
 replace hHeld:=hHeld.trans (hb1.mono hHeld.size)
 refine hK.out _ _ hHeld (fun _=>?_)
 clear hK K
 try simp only [Act.put,zzB,zzC,zzD]
 refine zzH 3 ?_ rfl ?_ ?_
 rotate_left 1
 ·(intro W hSw;(try dsimp only at hSw);go_simp;(try with_reducible rfl))
 try simp only [Act.put,zzB,zzC,zzD]
 refine zzU 4 rfl ?_
 try simp only [Act.put,zzB,zzC,zzD]
 refine zzU 5 rfl ?_
 try simp only [Act.put,zzB,zzC,zzD]
 refine zzU 6 rfl ?_
 try simp only [Act.put,zzB,zzC,zzD]
 refine zzU 7 rfl ?_
 try simp only [Act.put,zzB,zzC,zzD]
 refine zzU 8 rfl ?_
 try simp only [Act.put,zzB,zzC,zzD]
 refine zzU 9 rfl ?_
 try simp only [Act.put,zzB,zzC,zzD]
 refine zzU 10 rfl ?_
 try simp only [Act.put,zzB,zzC,zzD]
 refine zzH 11 ?_ rfl ?_ ?_
 rotate_left 1
 ·(intro W hSw;(try dsimp only at hSw);go_simp;(try with_reducible rfl))
 try simp only [Act.put,zzB,zzC,zzD]
 refine zzH 12 ?_ rfl ?_ ?_
 rotate_left 1
 ·(intro W hSw;(try dsimp only at hSw);go_simp;(try with_reducible rfl))
 try simp only [Act.put,zzB,zzC,zzD]
 refine wpAnyH_done (by kernel_rfl) ?_ _
 refine NoPanic.normal ?_
 go_wp2_with fail
 go_ret
 exact ⟨rfl,bb2 HB1.out hHeld⟩
theorem aDg (x:OV) (n:Nat) (b:Bool) (w:World) (ok:OkO x) (hr:Ob.mayRef x.ref=true) (ent:∀ (args:Array Value) (w:World),(callFunc n args).run Tryz.prog w=.ok (.enter n args) w)
  (look:∀ (W:World) (m:Nat),W.heap[m]?=some (.map aFq 7)→(Instr.lookup 110 (.map (some m)) (.int .i64 x.ref.kind) false).run Tryz.prog W=.ok (dF n) W)
  (C:∀ W,Below w.heap.size w W→Calls Tryz.prog n #[oV x] W fun e w'=>e=.returned (.bool b)∧Below W.heap.size W w') :
  Calls Tryz.prog 35 #[oV x] w fun e w'=>e=.returned (.bool b)∧Below w.heap.size w w':=by
 obtain ⟨X,hX⟩:∃ z,z=w.alloc (.cells #[.int .i64 x.ref.kind,.string x.ref.space,.string x.ref.name,.bool x.good,x.vl,x.vp,.string x.cls,x.vi,x.vq,x.vh,x.vr,x.vf,x.vo] 36):=⟨_,rfl⟩
 have B1:Below w.heap.size w X:=by rw [hX];exact (Below.refl _ _).alloc (Nat.le_refl _) _
 have K0:X.heap[w.heap.size]?=some (.cells #[.int .i64 x.ref.kind,.string x.ref.space,.string x.ref.name,.bool x.good,x.vl,x.vp,.string x.cls,x.vi,x.vq,x.vh,x.vr,x.vf,x.vo] 36):=by rw [hX];exact aA7 _ _
 have m0:=fun W (h:Below X.heap.size X W)=>aA0 (aA2 K0 h) (i:=0) rfl
 have m1:=fun W (h:Below X.heap.size X W)=>aA0 (aA2 K0 h) (i:=1) rfl
 have m2:=fun W (h:Below X.heap.size X W)=>aA0 (aA2 K0 h) (i:=2) rfl
 have m3:=fun W (h:Below X.heap.size X W)=>aA0 (aA2 K0 h) (i:=3) rfl
 have m4:=fun W (h:Below X.heap.size X W)=>aA0 (aA2 K0 h) (i:=4) rfl
 have m5:=fun W (h:Below X.heap.size X W)=>aA0 (aA2 K0 h) (i:=5) rfl
 have m6:=fun W (h:Below X.heap.size X W)=>aA0 (aA2 K0 h) (i:=6) rfl
 have m7:=fun W (h:Below X.heap.size X W)=>aA0 (aA2 K0 h) (i:=7) rfl
 have m8:=fun W (h:Below X.heap.size X W)=>aA0 (aA2 K0 h) (i:=8) rfl
 have m9:=fun W (h:Below X.heap.size X W)=>aA0 (aA2 K0 h) (i:=9) rfl
 have m10:=fun W (h:Below X.heap.size X W)=>aA0 (aA2 K0 h) (i:=10) rfl
 have m11:=fun W (h:Below X.heap.size X W)=>aA0 (aA2 K0 h) (i:=11) rfl
 have m12:=fun W (h:Below X.heap.size X W)=>aA0 (aA2 K0 h) (i:=12) rfl
 have C1:=fun W=>hide (aIw x.ref W ok.ref)
 rw [hr] at C1
 have C2:=fun W (h:Below X.heap.size X W)=>hide (C W (bb2 B1 h))
 have HB1:=hide B1
 have LK:=hide look
 clear K0 hr ok B1 C look
 obtain ⟨⟨rk0,rs0,rn0⟩,gd0,lb0,al0,cl0,po0,ap0,cp0,cs0,ls0,ai0,ci0,pa0,aq0,cq0,ho0,ah0,ch0,ru0,ar0,cr0,fr0,af0,cf0,to0,ao0,co0⟩:=x
 dsimp only at *
 go_enter Tryz.func35,Tryz.ntmps35
 go_wp2_with fail
 rw [←hX]
 clear hX
 refine wp_region_noPanic ?_
 refine wp_region_held_drew (S:=fun W=>Below (X).heap.size (X) W) (by kernel_rfl) ((Below.refl _ _).drew) (fun hHeld=>?_)
 refine zzH 0 ?_ rfl ?_ ?_
 rotate_left 1
 ·(intro W hSw;(try dsimp only at hSw);go_simp;(try with_reducible rfl))
 try simp only [Act.put,zzB,zzC,zzD]
 refine zzH 1 ?_ rfl ?_ ?_
 rotate_left 1
 ·(intro W hSw;(try dsimp only at hSw);obtain ⟨x0,x1,x2⟩:_∧_∧_:=⟨m0 W hSw,m1 W hSw,m2 W hSw⟩;go_simp;(try with_reducible rfl))
 try simp only [Act.put,zzB,zzC,zzD]
 refine wpAnyH_ready (rs:=[2]) (by kernel_rfl) (by simp) ?_
 refine AllReadyH.cons (op_at (rest:=_) rfl) (fun K hK=>?_) AllReadyH.nil
 go_simp
 refine ((C1 _).out).mono ?_
 rintro e w1 ⟨rfl,hb1⟩
 go_wp2_with fail
 replace hHeld:=hHeld.trans (hb1.mono hHeld.size)
 refine hK.out _ _ hHeld (fun _=>?_)
 clear hK K
 try simp only [Act.put,zzB,zzC,zzD]
 refine zzH 3 ?_ rfl ?_ ?_
 rotate_left 1
 ·(intro W hSw;(try dsimp only at hSw);go_simp;(try with_reducible rfl))
 try simp only [Act.put,zzB,zzC,zzD]
 refine zzH 5 ?_ rfl ?_ ?_
 rotate_left 1
 ·(intro W hSw;(try dsimp only at hSw);go_simp;(try with_reducible rfl))
 try simp only [Act.put,zzB,zzC,zzD]
 refine zzH 6 ?_ rfl ?_ ?_
 rotate_left 1
 ·(intro W hSw;(try dsimp only at hSw);go_simp;(try with_reducible rfl))
 try simp only [Act.put,zzB,zzC,zzD]
 refine zzH 7 ?_ rfl ?_ ?_
 rotate_left 1
 ·(intro W hSw;(try dsimp only at hSw);have x0:=m0 W hSw;go_simp;(try with_reducible rfl))
 try simp only [Act.put,zzB,zzC,zzD]
 refine zzH 9 ?_ rfl ?_ ?_
 rotate_left 1
 ·(intro W hSw;(try dsimp only at hSw);obtain ⟨x0,x1,x2,x3,x4,x5,x6,x7,x8,x9,x10,x11,x12⟩:_∧_∧_∧_∧_∧_∧_∧_∧_∧_∧_∧_∧_:=⟨m0 W hSw,m1 W hSw,m2 W hSw,m3 W hSw,m4 W hSw,m5 W hSw,m6 W hSw,m7 W hSw,m8 W hSw,m9 W hSw,m10 W hSw,m11 W hSw,m12 W hSw⟩;go_simp;(try with_reducible rfl))
 try simp only [Act.put,zzB,zzC,zzD]
 refine wpAnyH_ready (rs:=[4]) (by kernel_rfl) (by simp) ?_
 refine AllReadyH.cons (op_at (rest:=_) rfl) (fun K hK=>?_) AllReadyH.nil
 go_simp
 refine (aV2 _).mono ?_
 rintro e w2 ⟨rfl,hmap,hb2⟩
 go_wp2_with fail
 replace hHeld:=hHeld.trans (hb2.mono hHeld.size)
 refine hK.out _ _ hHeld (fun _=>?_)
 clear hK K
 try simp only [Act.put,zzB,zzC,zzD]
 refine wpAnyH_ready (rs:=[8]) (by kernel_rfl) (by simp) ?_
 refine AllReadyH.cons (op_at (rest:=_) rfl) (fun K hK=>?_) AllReadyH.nil
 have HL:=LK.out _ _ hmap
 go_simp
 refine hK.out _ _ hHeld (fun _=>?_)
 clear hK K HL
 try simp only [Act.put,zzB,zzC,zzD]
 refine wpAnyH_ready (rs:=[10]) (by kernel_rfl) (by simp) ?_
 refine AllReadyH.cons (op_at (rest:=_) rfl) (fun K hK=>?_) AllReadyH.nil
 go_simp
 refine ((C2 _ hHeld).out).mono ?_
 rintro e w3 ⟨rfl,hb3⟩
 go_wp2_with fail
 replace hHeld:=hHeld.trans (hb3.mono hHeld.size)
 refine hK.out _ _ hHeld (fun _=>?_)
 clear hK K
 try simp only [Act.put,zzB,zzC,zzD]
 refine zzH 11 ?_ rfl ?_ ?_
 rotate_left 1
 ·(intro W hSw;(try dsimp only at hSw);go_simp;(try with_reducible rfl))
 try simp only [Act.put,zzB,zzC,zzD]
 refine zzH 12 ?_ rfl ?_ ?_
 rotate_left 1
 ·(intro W hSw;(try dsimp only at hSw);go_simp;(try with_reducible rfl))
 try simp only [Act.put,zzB,zzC,zzD]
 refine wpAnyH_done (by kernel_rfl) ?_ _
 refine NoPanic.normal ?_
 go_wp2_with fail
 go_ret
 exact ⟨rfl,bb2 HB1.out hHeld⟩
theorem aF2 {x:OV} {b:Bool} (hr:Ob.mayRef x.ref=true) (h:Ob.mayK x.b=b):Ob.mayO x.b=b:=by
 unfold Ob.mayO
 rw [show x.b.ref=x.ref from rfl,hr,h]
 rfl
theorem aT4 (x:OV) (w:World) (hx:x.at_ w) (ok:OkO x) :
  Calls Tryz.prog 35 #[oV x] w fun e w'=>e=.returned (.bool (Ob.mayO x.b))∧Below w.heap.size w w':=by
 cases hr:Ob.mayRef x.ref
 ·have:Ob.mayO x.b=false:=by
   unfold Ob.mayO
   rw [show x.b.ref=x.ref from rfl,hr]
   rfl
  rw [this]
  exact aV3 x w ok hr
 ·have hk:=Ob.mayRef_kind hr
  by_cases h1:x.ref.kind=1
  ·have e:Ob.mayO x.b=Ob.mayGood x.b:=aF2 hr (by unfold Ob.mayK;rw [show x.b.ref=x.ref from rfl];simp [h1])
   rw [e]
   exact aDg x 86 _ w ok hr (fun args w=>aAd Tryz.func86 (by kernel_rfl) rfl args w) (fun W m hb=>by rw [h1];exact aCv hb 1 _ rfl) (fun W h=>aHm x W (hx.below h) ok)
  by_cases h2:x.ref.kind=2
  ·have e:Ob.mayO x.b=Ob.maySp x.b:=aF2 hr (by unfold Ob.mayK;rw [show x.b.ref=x.ref from rfl];simp [h2])
   rw [e]
   exact aDg x 87 _ w ok hr (fun args w=>aAd Tryz.func87 (by kernel_rfl) rfl args w) (fun W m hb=>by rw [h2];exact aCv hb 2 _ rfl) (fun W h=>aR2 x W (hx.below h) ok)
  by_cases h3:x.ref.kind=3
  ·have e:Ob.mayO x.b=Ob.maySv x.b:=aF2 hr (by unfold Ob.mayK;rw [show x.b.ref=x.ref from rfl];simp [h3])
   rw [e]
   exact aDg x 88 _ w ok hr (fun args w=>aAd Tryz.func88 (by kernel_rfl) rfl args w) (fun W m hb=>by rw [h3];exact aCv hb 3 _ rfl) (fun W h=>aR3 x W (hx.below h) ok)
  by_cases h4:x.ref.kind=4
  ·have e:Ob.mayO x.b=Ob.mayGood x.b:=aF2 hr (by unfold Ob.mayK;rw [show x.b.ref=x.ref from rfl];simp [h4])
   rw [e]
   exact aDg x 86 _ w ok hr (fun args w=>aAd Tryz.func86 (by kernel_rfl) rfl args w) (fun W m hb=>by rw [h4];exact aCv hb 4 _ rfl) (fun W h=>aHm x W (hx.below h) ok)
  by_cases h5:x.ref.kind=5
  ·have e:Ob.mayO x.b=Ob.mayGw x.b:=aF2 hr (by unfold Ob.mayK;rw [show x.b.ref=x.ref from rfl];simp [h5])
   rw [e]
   exact aDg x 89 _ w ok hr (fun args w=>aAd Tryz.func89 (by kernel_rfl) rfl args w) (fun W m hb=>by rw [h5];exact aCv hb 5 _ rfl) (fun W h=>aR4 x W (hx.below h) ok)
  by_cases h6:x.ref.kind=6
  ·have e:Ob.mayO x.b=Ob.mayRt x.b:=aF2 hr (by unfold Ob.mayK;rw [show x.b.ref=x.ref from rfl];simp [h6])
   rw [e]
   exact aDg x 90 _ w ok hr (fun args w=>aAd Tryz.func90 (by kernel_rfl) rfl args w) (fun W m hb=>by rw [h6];exact aCv hb 6 _ rfl) (fun W h=>aR6 x W (hx.below h) ok)
  by_cases h7:x.ref.kind=7
  ·have e:Ob.mayO x.b=Ob.mayGr x.b:=aF2 hr (by unfold Ob.mayK;rw [show x.b.ref=x.ref from rfl];simp [h7])
   rw [e]
   exact aDg x 91 _ w ok hr (fun args w=>aAd Tryz.func91 (by kernel_rfl) rfl args w) (fun W m hb=>by rw [h7];exact aCv hb 7 _ rfl) (fun W h=>aR7 x W (hx.below h) ok)
  omega
end Go.Proofs.YthnodpdiocppgaaGreatDoor
namespace Go.Proofs.YthnodpdiocppgaaGreatDoor
open Go Go.RowKit Go.Shelf
theorem aV4 (w:World) (k:Int) (s n:ByteArray):∃ X,X=w.alloc (.cells #[.int .i64 k,.string s,.string n] 24)∧Below w.heap.size w X∧Hid (∀ W,Below X.heap.size X W→W.cell? ⟨w.heap.size,0,none⟩=some (.int .i64 k)∧W.cell? ⟨w.heap.size,1,none⟩=some (.string s)∧W.cell? ⟨w.heap.size,2,none⟩=some (.string n)) :=
 ⟨_,rfl,(Below.refl _ _).alloc (Nat.le_refl _) _,fun _ h=>⟨aA0 (aA2 (aA7 w _) h) (i:=0) rfl,aA0 (aA2 (aA7 w _) h) (i:=1) rfl,aA0 (aA2 (aA7 w _) h) (i:=2) rfl⟩⟩
theorem aC5 (r:RfB) (w:World) (ok:OkRf r) :
  Calls Tryz.prog 45 #[rfV r] w fun e w'=>e=.returned (.bool (Ob.mayRef r))∧Below w.heap.size w w':=by
 have h1:=ok.space
 have h2:=ok.name
 have CLs:=fun W=>hide (aD8 r.space W (sm h1))
 have CLn:=fun W=>hide (aD8 r.name W (sm h2))
 have CN:=fun W=>hide (aD3 r.name W (by omega))
 have HP:Hid (Ob.mayRef r=if r.kind=1 then r.space.toList.isEmpty&&D.isName r.name.data.toList else if r.kind=2 then r.space.toList.isEmpty&&D.isLabel r.name.data.toList else Ob.isKind r.kind&&(D.isLabel r.space.data.toList&&D.isName r.name.data.toList)):=by
  unfold Hid Ob.mayRef
  rw [aBs]
  rfl
 generalize Ob.mayRef r=z at *
 obtain ⟨k,s,n⟩:=r
 dsimp only at *
 obtain ⟨X,hX,hb0,KC⟩:=aV4 w k s n
 have HB:=hide hb0
 clear hb0 ok h1 h2
 generalize D.isLabel s.data.toList=ys at *
 generalize D.isLabel n.data.toList=yl at *
 generalize D.isName n.data.toList=yn at *
 by_cases k1:k=1
 ·subst k1
  rw [if_pos rfl] at HP
  cases he:s.toList.isEmpty
  ·rw [he] at HP
   go_enter Tryz.func45,Tryz.ntmps45
   go_wp2_with fail
   rw [←hX]
   go_ret
   exact ⟨aA1 HP.out.symm,HB.out⟩
  ·rw [he] at HP
   go_enter Tryz.func45,Tryz.ntmps45
   go_wp2_with fail
   rw [←hX]
   clear hX
   cases yn
   ·refine (CN _).out.mono ?_
    rintro e w1 ⟨rfl,hb1⟩
    obtain ⟨x0,x1,x2⟩:=KC.out w1 hb1
    go_wp2_with fail
    go_ret
    exact ⟨aA1 HP.out.symm,bb2 HB.out hb1⟩
   ·refine (CN _).out.mono ?_
    rintro e w1 ⟨rfl,hb1⟩
    obtain ⟨x0,x1,x2⟩:=KC.out w1 hb1
    go_wp2_with fail
    go_ret
    exact ⟨aA1 HP.out.symm,bb2 HB.out hb1⟩
 ·rw [if_neg k1] at HP
  by_cases k2:k=2
  ·subst k2
   rw [if_pos rfl] at HP
   cases he:s.toList.isEmpty
   ·rw [he] at HP
    clear k1
    go_enter Tryz.func45,Tryz.ntmps45
    go_wp2_with fail
    rw [←hX]
    go_ret
    exact ⟨aA1 HP.out.symm,HB.out⟩
   ·rw [he] at HP
    clear k1
    go_enter Tryz.func45,Tryz.ntmps45
    go_wp2_with fail
    rw [←hX]
    clear hX
    refine (CLn _).out.mono ?_
    rintro e w1 ⟨rfl,rfl⟩
    obtain ⟨x0,x1,x2⟩:=KC.out w1 (Below.refl _ _)
    go_wp2_with fail
    go_ret
    exact ⟨aA1 (by rw [HP.out];rfl),HB.out⟩
  ·rw [if_neg k2] at HP
   by_cases k3:k<1
   ·have:Ob.isKind k=false:=by unfold Ob.isKind;rw [decide_eq_false_iff_not];omega
    rw [this] at HP
    clear this k1 k2
    go_enter Tryz.func45,Tryz.ntmps45
    go_wp2_with fail
    rw [←hX]
    go_ret
    exact ⟨aA1 (by rw [HP.out];rfl),HB.out⟩
   ·by_cases k7:7<k
    ·have:Ob.isKind k=false:=by unfold Ob.isKind;rw [decide_eq_false_iff_not];omega
     rw [this] at HP
     clear this k1 k2
     go_enter Tryz.func45,Tryz.ntmps45
     go_wp2_with fail
     rw [←hX]
     go_ret
     exact ⟨aA1 (by rw [HP.out];rfl),HB.out⟩
    ·have:Ob.isKind k=true:=by unfold Ob.isKind;rw [decide_eq_true_eq];omega
     have k9:¬ k<3:=by omega
     rw [this] at HP
     clear this k1 k2
     go_enter Tryz.func45,Tryz.ntmps45
     go_wp2_with fail
     rw [←hX]
     clear hX
     cases ys
     ·refine (CLs _).out.mono ?_
      rintro e w1 ⟨rfl,rfl⟩
      go_wp2_with fail
      go_ret
      exact ⟨aA1 (by rw [HP.out];rfl),HB.out⟩
     ·refine (CLs _).out.mono ?_
      rintro e w1 ⟨rfl,rfl⟩
      obtain ⟨x0,x1,x2⟩:=KC.out w1 (Below.refl _ _)
      go_wp2_with fail
      refine (CN _).out.mono ?_
      rintro e w2 ⟨rfl,hb2⟩
      go_wp2_with fail
      go_ret
      exact ⟨aA1 (by rw [HP.out];rfl),bb2 HB.out hb2⟩
def aC1 (r:RfB):RfB:=⟨r.kind,fewB r.space,fewB r.name⟩
theorem aF3 (r:RfB):OkRf (aC1 r):=⟨aBe _,aBe _⟩
structure aCw (r:RfB):Prop where
 space:r.space.size≤maxLen
 name:r.name.size≤maxLen
theorem aDt (r:RfB) (w:World) (raw:aCw r) :
  Calls Tryz.prog 25 #[rfV r] w fun e w'=>e=.returned (rfV (aC1 r))∧Below w.heap.size w w':=by
 have C1:=fun W=>hide (aAw r.space W raw.space)
 have C2:=fun W=>hide (aAw r.name W raw.name)
 obtain ⟨k,s,n⟩:=r
 dsimp only at *
 clear raw
 obtain ⟨X,hX⟩:∃ z,z=(w.alloc (.cells #[.int .i64 k,.string s,.string n] 24)).alloc (.cells pz 24):=⟨_,rfl⟩
 have B1:Below w.heap.size w X:=by rw [hX];exact ((Below.refl _ _).alloc (Nat.le_refl _) _).alloc (by simp) _
 have K0:X.heap[w.heap.size]?=some (.cells #[.int .i64 k,.string s,.string n] 24):=by rw [hX];exact aA2 (aA7 w _) ((Below.refl _ _).alloc (Nat.le_refl _) _)
 have K1:Hid (X.heap[w.heap.size+1]?=some (.cells pz 24)):=by unfold Hid;rw [hX];have:=aA7 (w.alloc (.cells #[.int .i64 k,.string s,.string n] 24)) (.cells pz 24);simpa using this
 have m0:=fun W (h:Below X.heap.size X W)=>aA0 (aA2 K0 h) (i:=0) rfl
 have m1:=fun W (h:Below X.heap.size X W)=>aA0 (aA2 K0 h) (i:=1) rfl
 have m2:=fun W (h:Below X.heap.size X W)=>aA0 (aA2 K0 h) (i:=2) rfl
 have HB1:=hide B1
 clear K0 B1
 go_enter Tryz.func25,Tryz.ntmps25
 go_wp2_with fail
 rw [←hX]
 clear hX
 refine aB4 9 (fun W=>Below X.heap.size X W) (by kernel_rfl) ((Below.refl _ _).drew) ?_
 refine zzG 0 5 (.pointer (some ⟨w.heap.size,0,none⟩)) rfl (by kernel_rfl) (fun _ _ _ h=>h) (by rfl) (fun w1 hS=>?_) ?_
 ·(try dsimp only at hS)
  go_simp
 simp only [Act.put,zzB,zzC,zzD]
 refine zzG 1 5 (.int .i64 k) rfl (by kernel_rfl) (fun _ _ _ h=>h) (by rfl) (fun w1 hS=>?_) ?_
 ·(try dsimp only at hS)
  go_simp
 simp only [Act.put,zzB,zzC,zzD]
 refine zzG 2 5 (.pointer (some ⟨w.heap.size,1,none⟩)) rfl (by kernel_rfl) (fun _ _ _ h=>h) (by rfl) (fun w1 hS=>?_) ?_
 ·(try dsimp only at hS)
  go_simp
 simp only [Act.put,zzB,zzC,zzD]
 refine zzG 3 5 (.string s) rfl (by kernel_rfl) (fun _ _ _ h=>h) (by rfl) (fun w1 hS=>?_) ?_
 ·(try dsimp only at hS)
  go_simp
 simp only [Act.put,zzB,zzC,zzD]
 refine zzG 5 5 (.pointer (some ⟨w.heap.size,2,none⟩)) rfl (by kernel_rfl) (fun _ _ _ h=>h) (by rfl) (fun w1 hS=>?_) ?_
 ·(try dsimp only at hS)
  go_simp
 simp only [Act.put,zzB,zzC,zzD]
 refine zzG 6 5 (.string n) rfl (by kernel_rfl) (fun _ _ _ h=>h) (by rfl) (fun w1 hS=>?_) ?_
 ·(try dsimp only at hS)
  go_simp
 simp only [Act.put,zzB,zzC,zzD]
 clear m0 m1 m2
 refine zzG 4 5 (.string (fewB s)) rfl (by kernel_rfl) (fun _ _ _ h=>h) (by rfl) (fun w1 hS=>?_) ?_
 ·(try dsimp only at hS)
  go_simp
  exact aAq hS (C1 _).out
 simp only [Act.put,zzB,zzC,zzD]
 refine zzG 7 5 (.string (fewB n)) rfl (by kernel_rfl) (fun _ _ _ h=>h) (by rfl) (fun w1 hS=>?_) ?_
 ·(try dsimp only at hS)
  go_simp
  exact aAq hS (C2 _).out
 simp only [Act.put,zzB,zzC,zzD]
 refine zzG 8 5 (.agg #[.int .i64 k,.string (fewB s),.string (fewB n)]) rfl (by kernel_rfl) (fun _ _ _ h=>h) (by rfl) (fun w1 hS=>?_) ?_
 ·(try dsimp only at hS)
  go_simp
 simp only [Act.put,zzB,zzC,zzD]
 refine aAf (rs:=[9]) (by kernel_rfl) (by simp) (fun W hG hS i hi=>?_)
 obtain rfl:i=9:=by simpa using hi
 clear hi
 have kb:=aA2 K1.out hS
 have BB:=hide (bb2 HB1.out hS)
 have HK:=hide kb
 obtain ⟨z0,z1,z2⟩:_∧_∧_:=⟨aA0 kb (i:=0) rfl,aA0 kb (i:=1) rfl,aA0 kb (i:=2) rfl⟩
 have lz:=aAl kb
 clear kb hG hS
 refine aAb rfl (by rfl) (fun K' hK'=>?_)
 go_simp
 refine hK' _ _ (aBq (by decide) ?_)
 clear hK' K' z0 z1 z2 lz
 refine aBf (by kernel_rfl) ?_
 have S1:=aAh (w:=w) (B:=w.heap.size) (g:=w.heap.size+1) (Nat.le_succ _) [.int .i64 k,.string (fewB s),.string (fewB n)] _ 0 BB.out
 have K4:=aB2 [.int .i64 k,.string (fewB s),.string (fewB n)] HK.out rfl
 change Exit.then _ _ _ _ (setL W (w.heap.size+1) 0 [.int .i64 k,.string (fewB s),.string (fewB n)])
 generalize setL W (w.heap.size+1) 0 [.int .i64 k,.string (fewB s),.string (fewB n)]=W9 at *
 obtain ⟨e0,e1,e2⟩:_∧_∧_:=⟨aA0 K4 (i:=0) rfl,aA0 K4 (i:=1) rfl,aA0 K4 (i:=2) rfl⟩
 go_wp2_with fail
 exact bodyPost_ret (v:=.agg #[.int .i64 k,.string (fewB s),.string (fewB n)]) (by simp [results,Tryz.f25,go_sem,e0,e1,e2]) rfl ⟨rfl,S1⟩
end Go.Proofs.YthnodpdiocppgaaGreatDoor
