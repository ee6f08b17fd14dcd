/-
  Walks: slices.SortFunc at refs, near.
-/
import Derived.Test.YthfnjcbiiofkhaaGreatDoorJ14
import Derived.Test.YthfnjcbiiofkhaaGreatDoorJ15
import Derived.Test.YthfnjcbiiofkhaaGreatDoorFiShelf
import Derived.Test.YthfnjcbiiofkhaaGreatDoorJ6
import Derived.Test.YthfnjcbiiofkhaaGreatDoorJ7
import Derived.Test.YthfnjcbiiofkhaaGreatDoorJ2
import Derived.Test.YthfnjcbiiofkhaaGreatDoorJ1
import Derived.Test.YthfnjcbiiofkhaaGreatDoorJ13
import Derived.Shelf.SlSortCmp.NoneTotal
set_option maxHeartbeats 12800000
set_option maxRecDepth 20000
namespace Go.Proofs.YthfnjcbiiofkhaaGreatDoor
open Go Go.RowKit Go.Shelf
theorem aQ8 (w:World) (A B C:Obj):(((w.alloc A).alloc B).alloc C).drew=Sort.grow (w.drewN 1) #[A,B,C]:=by
 rw [Sort.alloc_eq_grow,Sort.alloc_eq_grow,Sort.alloc_eq_grow,Sort.grow_grow,Sort.grow_grow]
 rfl
theorem aU4 (a b:RfB) (w:World) :
  Calls Tryz.prog 49 #[rfV a,rfV b] w fun e w'=>e=.returned (.int .i64 (Ob.ordR a b))∧∃ q os,w'=Sort.grow (w.drewN q) os:=by
 obtain ⟨ka,sa,na⟩:=a
 obtain ⟨kb,sb,nb⟩:=b
 have HE:Hid (or3 (cmpI ka kb) (Lib.compareBytes sa.data.toList sb.data.toList) (Lib.compareBytes na.data.toList nb.data.toList)=Ob.ordR ⟨ka,sa,na⟩ ⟨kb,sb,nb⟩):=rfl
 generalize Ob.ordR ⟨ka,sa,na⟩ ⟨kb,sb,nb⟩=z at *
 try dsimp only at *
 go_enter Tryz.func49,Tryz.ntmps49
 go_wp2_with fail
 go_region_held3 (fun w'=>w'.cell? ⟨w.heap.size,0,none⟩=some (.int .i64 ka)∧w'.cell? ⟨w.heap.size,1,none⟩=some (.string sa)∧w'.cell? ⟨w.heap.size,2,none⟩=some (.string na)∧w'.cell? ⟨w.heap.size+1,0,none⟩=some (.int .i64 kb)∧w'.cell? ⟨w.heap.size+1,1,none⟩=some (.string sb)∧w'.cell? ⟨w.heap.size+1,2,none⟩=some (.string nb)) (go_keep) (first | (go_at_call 82;refine (aJk _ _ _).mono ?_;rintro e x ⟨rfl,rfl⟩) | (go_at_call 83;refine (aNe _ _ _).mono ?_;rintro e x ⟨rfl,rfl⟩) | (go_at_call 81;refine (aX8 _ _ _ _ _ _).mono ?_;rintro e x ⟨rfl,rfl⟩))
 go_wp2_with fail
 go_ret
 exact ⟨aAf HE.out,1,_,aQ8 _ _ _ _⟩
theorem aMx (g t m cap:Nat) (L:List RfB) (w:World) (hr:aAl ER w g t L m) (hl:L.length≤1000) {B:Nat} (hB:B≤g) :
  Calls Tryz.prog 48 #[.slice (some ⟨g,0,none⟩) L.length cap,.func (.func 49) #[] #[]] w fun e w'=>e=.returned (.tuple #[])∧(∃ D:List RfB,D.Perm L∧(D.Pairwise fun x y=>Ob.ordR x y≤0)∧aAl ER w' g t D m)∧Below B w w':=by
 haveI:Inhabited RfB:=⟨⟨0,Ob.nil,Ob.nil⟩⟩
 have h:=AnyQ.slices_SortFunc Tryz.sortRf 3 Tryz.isAgg23 Tryz.sizeOf23 aBi (fun _=>rfl) (fun x v hv=>by simp [aBi] at hv;rcases hv with rfl | rfl | rfl<;>rfl) Ob.ordR aW6 49 #[] g 0 cap L.toArray w (fun args w=>aAd Tryz.func49 (by kernel_rfl) rfl args w) (fun _ _ _ _ x y=>aU4 x y _) hr.holds hr.lt (by simp;omega)
 simp only [List.size_toArray] at h
 change Calls Tryz.prog 48 _ _ _ at h
 refine h.mono ?_
 rintro e w' ⟨rfl,d',n,os,hp,hs,rfl⟩
 obtain ⟨p1,p2,p3⟩:=aO0 hp hs
 refine ⟨rfl,⟨d'.toList,p1,p2,?_⟩,aMo hB hr.lt⟩
 have:=hr.put (D:=d'.toList) p3 n os
 simpa using this
theorem aEf (w:World) (A:Obj) (k:Int) (s n:ByteArray) (t:Nat):((w.alloc A).alloc (.cells #[.int .i64 k,.string s,.string n] t)).cell? ⟨w.heap.size+1,0,none⟩=some (.int .i64 k)∧((w.alloc A).alloc (.cells #[.int .i64 k,.string s,.string n] t)).cell? ⟨w.heap.size+1,1,none⟩=some (.string s)∧((w.alloc A).alloc (.cells #[.int .i64 k,.string s,.string n] t)).cell? ⟨w.heap.size+1,2,none⟩=some (.string n):=by
 have h:((w.alloc A).alloc (.cells #[.int .i64 k,.string s,.string n] t)).heap[w.heap.size+1]?=some (.cells #[.int .i64 k,.string s,.string n] t):=by
  have:=aA7 (w.alloc A) (.cells #[.int .i64 k,.string s,.string n] t)
  simpa using this
 exact ⟨aA2 h (i:=0) rfl,aA2 h (i:=1) rfl,aA2 h (i:=2) rfl⟩
theorem aMy (r:RfB) (sp:ByteArray) (w:World) :
  Calls Tryz.prog 47 #[rfV r,.string sp] w fun e w'=>e=.returned (rfV (Ob.near sp r))∧Below w.heap.size w w':=by
 obtain ⟨k,s,n⟩:=r
 have HBW:∀ (A B:Obj),Below w.heap.size w ((w.alloc A).alloc B):=fun A B=>((Below.refl _ _).alloc (Nat.le_refl _) _).alloc (by simp) _
 have HBH:=hide HBW
 clear HBW
 have same:(Ob.e0 s&&(decide (k≠1)&&decide (k≠2)))=false→Ob.near sp ⟨k,s,n⟩=⟨k,s,n⟩:=fun h=>by
  unfold Ob.near
  rw [if_neg (by rw [h];simp)]
 have other:(Ob.e0 s&&(decide (k≠1)&&decide (k≠2)))=true→Ob.near sp ⟨k,s,n⟩=⟨k,sp,n⟩:=fun h=>by
  unfold Ob.near
  rw [if_pos h]
 cases he:s.toList.isEmpty
 ·rw [same (by rw [←aBt,he];rfl)]
  clear same other
  try dsimp only
  go_enter Tryz.func47,Tryz.ntmps47
  go_wp2_with fail
  obtain ⟨e0,e1,e2⟩:=aEf w (.cells #[.int .i64 k,.string s,.string n] 23) k s n 23
  exact bodyPost_ret (v:=rfV ⟨k,s,n⟩) (by simp [results,Tryz.f47,go_sem,e0,e1,e2]) rfl ⟨rfl,HBH.out _ _⟩
 ·by_cases h1:k=1
  ·subst h1
   rw [same (by simp)]
   clear same other
   try dsimp only
   go_enter Tryz.func47,Tryz.ntmps47
   go_wp2_with fail
   obtain ⟨e0,e1,e2⟩:=aEf w (.cells #[.int .i64 1,.string s,.string n] 23) 1 s n 23
   exact bodyPost_ret (v:=rfV ⟨1,s,n⟩) (by simp [results,Tryz.f47,go_sem,e0,e1,e2]) rfl ⟨rfl,HBH.out _ _⟩
  ·have h1':(k != 1)=true:=by simpa using h1
   by_cases h2:k=2
   ·subst h2
    rw [same (by simp)]
    clear same other h1 h1'
    try dsimp only
    go_enter Tryz.func47,Tryz.ntmps47
    go_wp2_with fail
    obtain ⟨e0,e1,e2⟩:=aEf w (.cells #[.int .i64 2,.string s,.string n] 23) 2 s n 23
    exact bodyPost_ret (v:=rfV ⟨2,s,n⟩) (by simp [results,Tryz.f47,go_sem,e0,e1,e2]) rfl ⟨rfl,HBH.out _ _⟩
   ·have h2':(k != 2)=true:=by simpa using h2
    rw [other (by rw [←aBt,he];simp [h1,h2])]
    clear same other h1 h2
    try dsimp only
    go_enter Tryz.func47,Tryz.ntmps47
    go_wp2_with fail
    obtain ⟨e0,e1,e2⟩:=aEf w (.cells #[.int .i64 k,.string sp,.string n] 23) k sp n 23
    exact bodyPost_ret (v:=rfV ⟨k,sp,n⟩) (by simp [results,Tryz.f47,go_sem,e0,e1,e2]) rfl ⟨rfl,HBH.out _ _⟩
end Go.Proofs.YthfnjcbiiofkhaaGreatDoor
namespace Go.Proofs.YthfnjcbiiofkhaaGreatDoor
open Go Go.RowKit Go.Shelf
def aJa (r:RfB):ByteArray:=mkB (UInt8.ofNat (48+r.kind.toNat)::32::(r.space.data.toList++47::r.name.data.toList))
theorem aWg {s:ByteArray} (h:Ob.isL s=true):Ob.isN s=true:=by
 unfold Ob.isL at h
 unfold Ob.isN
 rw [aP5]
 have h1:=aKh h
 have h2:=D.spl_none (c:=46) (fun x hx=>(aT6 (aLx h x hx)).2)
 rw [h2]
 exact ⟨by rw [Array.length_toList];exact Nat.le_trans h1 (by decide),fun p hp=>by rw [List.mem_singleton] at hp;subst hp;exact h⟩
theorem aQ9 {r:RfB} (h:Ob.mayRef r=true):D.maySp r.space.data.toList=true∧D.isName r.name.data.toList=true:=by
 have he:∀ s:ByteArray,Ob.e0 s=true→D.maySp s.data.toList=true:=fun s hs=>by rw [Ob.e0_iff.1 hs];rfl
 unfold Ob.mayRef at h
 split at h
 ·rw [Bool.and_eq_true] at h
  exact ⟨he _ h.1,h.2⟩
 ·split at h
  ·rw [Bool.and_eq_true] at h
   exact ⟨he _ h.1,aWg h.2⟩
  ·simp only [Bool.and_eq_true] at h
   refine ⟨?_,h.2.2⟩
   unfold D.maySp
   have:D.isLabel r.space.data.toList=true:=h.2.1
   rw [this,Bool.or_true]
theorem dec1:∀ i:Nat,1≤i→i≤7→(⟨(Lib.decDigits i).toArray⟩:ByteArray)=mkB [UInt8.ofNat (48+i)]:=by
 intro i h1 h2
 rcases (show i=1∨i=2∨i=3∨i=4∨i=5∨i=6∨i=7 by omega) with h | h | h | h | h | h | h<;>subst h<;>(rw [Lib.decDigits];rfl)
theorem aQa (r:RfB):(mkB [UInt8.ofNat (48+r.kind.toNat)]++⟨#[32]⟩)++(r.space++⟨#[47]⟩++r.name)=aJa r:=by
 refine aX9 ?_
 rw [aDb,aDb,aDb,aDb,aSv]
 simp
theorem aU5 (r:RfB) (w:World) (ok:OkRf r) (h:Ob.mayRef r=true) :
  Calls Tryz.prog 43 #[rfV r] w fun e w'=>e=.returned (.tuple #[.string (aJa r),.int .i64 0])∧Below w.heap.size w w':=by
 obtain ⟨X,hX⟩:∃ z,z=w.alloc (.cells #[.int .i64 r.kind,.string r.space,.string r.name] 23):=⟨_,rfl⟩
 have B1:Below w.heap.size w X:=by rw [hX];exact (Below.refl _ _).alloc (Nat.le_refl _) _
 have K0:X.heap[w.heap.size]?=some (.cells #[.int .i64 r.kind,.string r.space,.string r.name] 23):=by rw [hX];exact aA7 _ _
 have KC:=hide (fun W (h:Below X.heap.size X W)=>(⟨aA2 (aA0 K0 h) (i:=0) rfl,aA2 (aA0 K0 h) (i:=1) rfl,aA2 (aA0 K0 h) (i:=2) rfl⟩:W.cell? ⟨w.heap.size,0,none⟩=some (.int .i64 r.kind)∧W.cell? ⟨w.heap.size,1,none⟩=some (.string r.space)∧W.cell? ⟨w.heap.size,2,none⟩=some (.string r.name)))
 obtain ⟨hk1,hk2⟩:=aQ9 h
 have C1:=fun W=>hide (aV7 r.space r.name W (sm ok.space) (sm ok.name) hk1 hk2)
 have C2:=fun W=>hide (aG2 r W ok)
 rw [h] at C2
 obtain ⟨hlo,hhi⟩:=Ob.mayRef_kind h
 obtain ⟨i,hi⟩:∃ i:Nat,r.kind=(i:Int):=⟨r.kind.toNat,by omega⟩
 have C3:=fun W=>hide (Tryz.strconv_Itoa_small i (by omega) W)
 have HT:Hid (((⟨(Lib.decDigits i).toArray⟩:ByteArray)++⟨#[32]⟩)++(r.space++⟨#[47]⟩++r.name)=aJa r):=by
  unfold Hid
  rw [dec1 i (by omega) (by omega),←aQa r,hi]
  rfl
 have HB1:=hide B1
 have zs:=ok.space
 have zn:=ok.name
 have zd:(⟨(Lib.decDigits i).toArray⟩:ByteArray).size≤1:=by rw [dec1 i (by omega) (by omega)];exact Nat.le_refl _
 have zk:=aT7 r.space r.name
 clear K0 B1 h hk1 hk2 hlo hhi ok
 generalize aJa r=tx at *
 generalize (⟨(Lib.decDigits i).toArray⟩:ByteArray)=dg at *
 obtain ⟨k,s,n⟩:=r
 dsimp only at *
 subst hi
 go_enter Tryz.func43,Tryz.ntmps43
 go_wp2_with fail
 rw [←hX]
 clear hX
 refine (C1 _).out.mono ?_
 rintro e w1 ⟨rfl,hb1⟩
 obtain ⟨x0,x1,x2⟩:=KC.out w1 hb1
 go_wp2_with fail
 refine (C2 _).out.mono ?_
 rintro e w2 ⟨rfl,hb2⟩
 clear x0 x1 x2
 obtain ⟨x0,x1,x2⟩:=KC.out w2 (bb2 hb1 hb2)
 go_wp2_with fail
 refine (C3 _).out.mono ?_
 rintro e w3 ⟨rfl,rfl⟩
 go_wp2_with fail
 go_ret2
 exact ⟨by rw [←HT.out];rfl,bb2 HB1.out (bb2 hb1 hb2)⟩
abbrev pz:Array Value:=#[.int .i64 0,.string ⟨#[]⟩,.string ⟨#[]⟩]
theorem aGv (w:World) (va vb:Value) (xs ys:List RfB) (ha:Sl ER w va xs) (hb:Sl ER w vb ys) :
  Calls Tryz.prog 12 #[va,vb] w fun e w'=>e=.returned (.bool (Ob.eqL Ob.eqR xs ys))∧Below w.heap.size w w':=by
 have hl:=ha.len
 have hl2:=hb.len
 obtain ⟨a,ca,rfl⟩:=ha.form
 obtain ⟨b,cb,rfl⟩:=hb.form
 have HA:=hide (fun W (hB:Below w.heap.size w W) k (hk:k<xs.length)=>oneD ha hB hk)
 have HB:=hide (fun W (hB:Below w.heap.size w W) k (hk:k<ys.length)=>oneD hb hB hk)
 clear ha hb
 by_cases hne:xs.length=ys.length
 ·have hx:((xs.length:Int) != (ys.length:Int))=false:=by rw [bne_eq_false_iff_eq];omega
  have HN:=hide hne
  clear hne
  go_enter Tryz.func12,Tryz.ntmps12
  go_wp2_with fail
  go_loopw [5] (fun i wr=>∃ k:Nat,k≤xs.length∧i=.int .i64 k∧Hid (∀ j (h1:j<xs.length) (h2:j<ys.length),j<k→Ob.eqR xs[j] ys[j]=true)∧Below w.heap.size w wr) (fun i _=>xs.length - (intOf i).toNat)
  case atStart=>exact ⟨0,Nat.zero_le _,rfl,fun j _ _ hj=>absurd hj (by omega),Below.refl _ _⟩
  case round =>
   obtain ⟨k,hk,rfl,htk,hB⟩:=hrel
   by_cases hlt:k<xs.length
   ·have hlb:k<ys.length:=by rw [←HN.out];exact hlt
    obtain ⟨_,ga,oa,rfl,hga,p0,p1,p2⟩:=HA.out _ hB k hlt
    obtain ⟨_,gb,ob,rfl,hgb,q0,q1,q2⟩:=HB.out _ hB k hlb
    have hlt':(k:Int)<(xs.length:Int):=by omega
    have hlb':(k:Int)<(ys.length:Int):=by omega
    have HT:Hid (Ob.eqR xs[k] ys[k]=true→∀ j (h1:j<xs.length) (h2:j<ys.length),j<k+1→Ob.eqR xs[j] ys[j]=true):=fun h j h1 h2 hj=>by
     rcases Nat.lt_or_ge j k with h3 | h3
     ·exact htk.out j h1 h2 h3
     ·obtain rfl:j=k:=by omega
      exact h
    have HG:Hid (Ob.eqR xs[k] ys[k]=false→Ob.eqL Ob.eqR xs ys=false):=fun h=>Ob.eqL_not xs ys k hlt hlb h
    have EQ:=fun W=>aLe xs[k] ys[k] W
    cases hq:Ob.eqR xs[k] ys[k]
    ·have hqe:=hide (HG.out hq)
     rw [hq] at EQ
     clear hq HG HT
     generalize xs[k]=x at *
     generalize ys[k]=y at *
     obtain ⟨x0,x1,x2⟩:=x
     obtain ⟨y0,y1,y2⟩:=y
     dsimp only at *
     go_wp2_with fail
     go_region
     go_wp2_with fail
     go_ret
     exact ⟨aA1 hqe.out.symm,hB.drew⟩
    ·have hqe:=hide (HT.out hq)
     rw [hq] at EQ
     clear hq HG HT
     generalize xs[k]=x at *
     generalize ys[k]=y at *
     obtain ⟨x0,x1,x2⟩:=x
     obtain ⟨y0,y1,y2⟩:=y
     dsimp only at *
     go_wp2_with fail
     go_region
     go_wp2_with fail
     exact ⟨⟨k+1,by omega,by go_num,hqe.out,hB.drew⟩,by simp [intOf];omega⟩
   ·have hqe:Hid (Ob.eqL Ob.eqR xs ys=true):=Ob.eqL_yes xs ys HN.out fun j h1 h2=>htk.out j h1 h2 (by omega)
    have hlt':¬ (k:Int)<(xs.length:Int):=by omega
    go_wp2_with fail
    go_ret
    exact ⟨aA1 hqe.out.symm,hB⟩
 ·have hx:((xs.length:Int) != (ys.length:Int))=true:=by rw [bne_iff_ne];omega
  have hd:=hide (Ob.eqL_len (eq:=Ob.eqR) xs ys hne)
  clear hne
  go_enter Tryz.func12,Tryz.ntmps12
  go_wp2_with fail
  go_ret
  exact ⟨aA1 hd.out.symm,Below.refl _ _⟩
end Go.Proofs.YthfnjcbiiofkhaaGreatDoor
namespace Go.Proofs.YthfnjcbiiofkhaaGreatDoor
open Go Go.RowKit Go.Shelf
theorem aWh (w:World) (k:Int) (s n:ByteArray):∃ X,X=w.alloc (.cells #[.int .i64 k,.string s,.string n] 23)∧Below w.heap.size w X∧Hid (∀ W,Below X.heap.size X W→W.cell? ⟨w.heap.size,0,none⟩=some (.int .i64 k)∧W.cell? ⟨w.heap.size,1,none⟩=some (.string s)∧W.cell? ⟨w.heap.size,2,none⟩=some (.string n)) :=
 ⟨_,rfl,(Below.refl _ _).alloc (Nat.le_refl _) _,fun _ h=>⟨aA2 (aA0 (aA7 w _) h) (i:=0) rfl,aA2 (aA0 (aA7 w _) h) (i:=1) rfl,aA2 (aA0 (aA7 w _) h) (i:=2) rfl⟩⟩
theorem aC1 (r:RfB) (w:World) (ok:OkRf r) :
  Calls Tryz.prog 24 #[rfV r] w fun e w'=>e=.returned (.bool (Ob.mayRef r))∧Below w.heap.size w w':=by
 have h1:=ok.space
 have h2:=ok.name
 have CLs:=fun W=>hide (aD3 r.space W (sm h1))
 have CLn:=fun W=>hide (aD3 r.name W (sm h2))
 have CN:=fun W=>hide (aCx r.name W (by omega))
 have HP:Hid (Ob.mayRef r=if r.kind=1 then r.space.toList.isEmpty&&D.isName r.name.data.toList else if r.kind=2 then r.space.toList.isEmpty&&D.isLabel r.name.data.toList else Ob.isKind r.kind&&(D.isLabel r.space.data.toList&&D.isName r.name.data.toList)):=by
  unfold Hid Ob.mayRef
  rw [aBt]
  rfl
 generalize Ob.mayRef r=z at *
 obtain ⟨k,s,n⟩:=r
 dsimp only at *
 obtain ⟨X,hX,hb0,KC⟩:=aWh w k s n
 have HB:=hide hb0
 clear hb0 ok h1 h2
 generalize D.isLabel s.data.toList=ys at *
 generalize D.isLabel n.data.toList=yl at *
 generalize D.isName n.data.toList=yn at *
 by_cases k1:k=1
 ·subst k1
  rw [if_pos rfl] at HP
  cases he:s.toList.isEmpty
  ·rw [he] at HP
   go_enter Tryz.func24,Tryz.ntmps24
   go_wp2_with fail
   rw [←hX]
   go_ret
   exact ⟨aA1 HP.out.symm,HB.out⟩
  ·rw [he] at HP
   go_enter Tryz.func24,Tryz.ntmps24
   go_wp2_with fail
   rw [←hX]
   clear hX
   cases yn
   ·refine (CN _).out.mono ?_
    rintro e w1 ⟨rfl,hb1⟩
    obtain ⟨x0,x1,x2⟩:=KC.out w1 hb1
    go_wp2_with fail
    go_ret
    exact ⟨aA1 HP.out.symm,bb2 HB.out hb1⟩
   ·refine (CN _).out.mono ?_
    rintro e w1 ⟨rfl,hb1⟩
    obtain ⟨x0,x1,x2⟩:=KC.out w1 hb1
    go_wp2_with fail
    go_ret
    exact ⟨aA1 HP.out.symm,bb2 HB.out hb1⟩
 ·rw [if_neg k1] at HP
  by_cases k2:k=2
  ·subst k2
   rw [if_pos rfl] at HP
   cases he:s.toList.isEmpty
   ·rw [he] at HP
    clear k1
    go_enter Tryz.func24,Tryz.ntmps24
    go_wp2_with fail
    rw [←hX]
    go_ret
    exact ⟨aA1 HP.out.symm,HB.out⟩
   ·rw [he] at HP
    clear k1
    go_enter Tryz.func24,Tryz.ntmps24
    go_wp2_with fail
    rw [←hX]
    clear hX
    refine (CLn _).out.mono ?_
    rintro e w1 ⟨rfl,rfl⟩
    obtain ⟨x0,x1,x2⟩:=KC.out w1 (Below.refl _ _)
    go_wp2_with fail
    go_ret
    exact ⟨aA1 (by rw [HP.out];rfl),HB.out⟩
  ·rw [if_neg k2] at HP
   by_cases k3:k<1
   ·have:Ob.isKind k=false:=by unfold Ob.isKind;rw [decide_eq_false_iff_not];omega
    rw [this] at HP
    clear this k1 k2
    go_enter Tryz.func24,Tryz.ntmps24
    go_wp2_with fail
    rw [←hX]
    go_ret
    exact ⟨aA1 (by rw [HP.out];rfl),HB.out⟩
   ·by_cases k7:7<k
    ·have:Ob.isKind k=false:=by unfold Ob.isKind;rw [decide_eq_false_iff_not];omega
     rw [this] at HP
     clear this k1 k2
     go_enter Tryz.func24,Tryz.ntmps24
     go_wp2_with fail
     rw [←hX]
     go_ret
     exact ⟨aA1 (by rw [HP.out];rfl),HB.out⟩
    ·have:Ob.isKind k=true:=by unfold Ob.isKind;rw [decide_eq_true_eq];omega
     have k9:¬ k<3:=by omega
     rw [this] at HP
     clear this k1 k2
     go_enter Tryz.func24,Tryz.ntmps24
     go_wp2_with fail
     rw [←hX]
     clear hX
     cases ys
     ·refine (CLs _).out.mono ?_
      rintro e w1 ⟨rfl,rfl⟩
      go_wp2_with fail
      go_ret
      exact ⟨aA1 (by rw [HP.out];rfl),HB.out⟩
     ·refine (CLs _).out.mono ?_
      rintro e w1 ⟨rfl,rfl⟩
      obtain ⟨x0,x1,x2⟩:=KC.out w1 (Below.refl _ _)
      go_wp2_with fail
      refine (CN _).out.mono ?_
      rintro e w2 ⟨rfl,hb2⟩
      go_wp2_with fail
      go_ret
      exact ⟨aA1 (by rw [HP.out];rfl),bb2 HB.out hb2⟩
theorem aJb (a b:RfB) (w:World) :
  Calls Tryz.prog 84 #[rfV a,rfV b] w fun e w'=>e=.returned (.int .i64 (Ob.ordR a b))∧Below w.heap.size w w':=by
 have HBW:∀ (A B:Obj),Below w.heap.size w ((w.alloc A).alloc B):=fun A B=>((Below.refl _ _).alloc (Nat.le_refl _) _).alloc (by simp) _
 have HBH:=hide HBW
 have EQ:=fun W=>aLe a b W
 have HE:Hid (Ob.ordR a b=orI (cmpI a.kind b.kind) (orI (Lib.compareBytes a.space.data.toList b.space.data.toList) (Lib.compareBytes a.name.data.toList b.name.data.toList))):=rfl
 have HQ:Hid (Ob.eqR a b=true↔a=b):=Ob.eqR_iff
 have HZ:Hid (Ob.ordR a b=0↔a=b):=Ob.ordR_zero a b
 clear HBW
 generalize Ob.ordR a b=z at *
 have key:∀ v:Int,v≠0→z=v→Ob.eqR a b=false:=fun v hv hz=>by
  cases hq:Ob.eqR a b
  ·rfl
  ·have:=HZ.out.2 (HQ.out.1 hq)
   omega
 have KEY:=hide key
 have same:z=0→Ob.eqR a b=true:=fun hz=>by
  exact HQ.out.2 (HZ.out.1 hz)
 have SAME:=hide same
 clear key same HQ HZ
 generalize Ob.eqR a b=q at *
 obtain ⟨ka,sa,na⟩:=a
 obtain ⟨kb,sb,nb⟩:=b
 dsimp only at *
 rcases Int.lt_trichotomy ka kb with h | h | h
 ·have hz:z=-1:=by rw [HE.out];unfold orI cmpI;simp [h]
  obtain rfl:=KEY.out (-1) (by decide) hz
  have t1:(ka == kb)=false:=by rw [beq_eq_false_iff_ne];omega
  have HZ:=hide hz
  clear hz KEY SAME HE
  cases hs:(sa.toList == sb.toList)
  all_goals
   go_enter Tryz.func84,Tryz.ntmps84
   go_wp2_with fail
   go_ret
   exact ⟨aAf HZ.out.symm,HBH.out _ _⟩
 ·subst h
  have hc:cmpI ka ka=0:=by unfold cmpI;simp
  rcases aIb sa sb with ⟨t1,t2⟩ | ⟨t1,t2,t3⟩ | ⟨t1,t2,t3⟩
  ·have hz:z=-1:=by rw [HE.out,hc,t2.out];rfl
   obtain rfl:=KEY.out (-1) (by decide) hz
   have t4:(sa.toList == sb.toList)=false:=by
    rw [beq_eq_false_iff_ne]
    intro e
    rw [e] at t1
    rw [La.less_irrefl] at t1
    cases t1
   have HZ:=hide hz
   clear hz KEY SAME HE hc t2
   go_enter Tryz.func84,Tryz.ntmps84
   go_wp2_with fail
   go_ret
   exact ⟨aAf HZ.out.symm,HBH.out _ _⟩
  ·rcases aIb na nb with ⟨u1,u2⟩ | ⟨u1,u2,u3⟩ | ⟨u1,u2,u3⟩
   ·have hz:z=-1:=by rw [HE.out,hc,t3.out,u2.out];rfl
    obtain rfl:=KEY.out (-1) (by decide) hz
    have HZ:=hide hz
    clear hz KEY SAME HE hc t3 u2
    go_enter Tryz.func84,Tryz.ntmps84
    go_wp2_with fail
    go_ret
    exact ⟨aAf HZ.out.symm,HBH.out _ _⟩
   ·have hz:z=0:=by rw [HE.out,hc,t3.out,u3.out];rfl
    obtain rfl:=SAME.out hz
    have HZ:=hide hz
    clear hz KEY SAME HE hc t3 u3
    go_enter Tryz.func84,Tryz.ntmps84
    go_wp2_with fail
    go_ret
    exact ⟨aAf HZ.out.symm,HBH.out _ _⟩
   ·have hz:z=1:=by rw [HE.out,hc,t3.out,u3.out];rfl
    obtain rfl:=KEY.out 1 (by decide) hz
    have HZ:=hide hz
    clear hz KEY SAME HE hc t3 u3
    go_enter Tryz.func84,Tryz.ntmps84
    go_wp2_with fail
    go_ret
    exact ⟨aAf HZ.out.symm,HBH.out _ _⟩
  ·have hz:z=1:=by rw [HE.out,hc,t3.out];rfl
   obtain rfl:=KEY.out 1 (by decide) hz
   have HZ:=hide hz
   clear hz KEY SAME HE hc t3
   go_enter Tryz.func84,Tryz.ntmps84
   go_wp2_with fail
   go_ret
   exact ⟨aAf HZ.out.symm,HBH.out _ _⟩
 ·have hc:cmpI ka kb=1:=by unfold cmpI;rw [if_neg (by omega),if_pos h]
  have hz:z=1:=by rw [HE.out,hc];rfl
  obtain rfl:=KEY.out 1 (by decide) hz
  have t1:(ka == kb)=false:=by rw [beq_eq_false_iff_ne];omega
  have t2:¬ ka<kb:=by omega
  have HZ:=hide hz
  clear hz KEY SAME HE hc
  cases hs:(sa.toList == sb.toList)
  all_goals
   go_enter Tryz.func84,Tryz.ntmps84
   go_wp2_with fail
   go_ret
   exact ⟨aAf HZ.out.symm,HBH.out _ _⟩
def aCe (r:RfB):RfB:=⟨r.kind,fewB r.space,fewB r.name⟩
theorem aG5 (r:RfB):OkRf (aCe r):=⟨aB9 _,aB9 _⟩
structure aDa (r:RfB):Prop where
 space:r.space.size≤maxLen
 name:r.name.size≤maxLen
theorem aG6 (r:RfB) (w:World) (raw:aDa r) :
  Calls Tryz.prog 15 #[rfV r] w fun e w'=>e=.returned (rfV (aCe r))∧Below w.heap.size w w':=by
 have C1:=fun W=>hide (aAu r.space W raw.space)
 have C2:=fun W=>hide (aAu r.name W raw.name)
 obtain ⟨k,s,n⟩:=r
 dsimp only at *
 clear raw
 obtain ⟨X,hX⟩:∃ z,z=(w.alloc (.cells #[.int .i64 k,.string s,.string n] 23)).alloc (.cells pz 23):=⟨_,rfl⟩
 have B1:Below w.heap.size w X:=by rw [hX];exact ((Below.refl _ _).alloc (Nat.le_refl _) _).alloc (by simp) _
 have K0:X.heap[w.heap.size]?=some (.cells #[.int .i64 k,.string s,.string n] 23):=by rw [hX];exact aA0 (aA7 w _) ((Below.refl _ _).alloc (Nat.le_refl _) _)
 have K1:Hid (X.heap[w.heap.size+1]?=some (.cells pz 23)):=by unfold Hid;rw [hX];have:=aA7 (w.alloc (.cells #[.int .i64 k,.string s,.string n] 23)) (.cells pz 23);simpa using this
 have m0:=fun W (h:Below X.heap.size X W)=>aA2 (aA0 K0 h) (i:=0) rfl
 have m1:=fun W (h:Below X.heap.size X W)=>aA2 (aA0 K0 h) (i:=1) rfl
 have m2:=fun W (h:Below X.heap.size X W)=>aA2 (aA0 K0 h) (i:=2) rfl
 have HB1:=hide B1
 clear K0 B1
 go_enter Tryz.func15,Tryz.ntmps15
 go_wp2_with fail
 rw [←hX]
 clear hX
 refine aB3 9 (fun W=>Below X.heap.size X W) (by kernel_rfl) ((Below.refl _ _).drew) ?_
 refine zzG 0 5 (.pointer (some ⟨w.heap.size,0,none⟩)) rfl (by kernel_rfl) (fun _ _ _ h=>h) (by rfl) (fun w1 hS=>?_) ?_
 ·(try dsimp only at hS)
  go_simp
 simp only [Act.put,zzB,zzC,zzD]
 refine zzG 1 5 (.int .i64 k) rfl (by kernel_rfl) (fun _ _ _ h=>h) (by rfl) (fun w1 hS=>?_) ?_
 ·(try dsimp only at hS)
  go_simp
 simp only [Act.put,zzB,zzC,zzD]
 refine zzG 2 5 (.pointer (some ⟨w.heap.size,1,none⟩)) rfl (by kernel_rfl) (fun _ _ _ h=>h) (by rfl) (fun w1 hS=>?_) ?_
 ·(try dsimp only at hS)
  go_simp
 simp only [Act.put,zzB,zzC,zzD]
 refine zzG 3 5 (.string s) rfl (by kernel_rfl) (fun _ _ _ h=>h) (by rfl) (fun w1 hS=>?_) ?_
 ·(try dsimp only at hS)
  go_simp
 simp only [Act.put,zzB,zzC,zzD]
 refine zzG 5 5 (.pointer (some ⟨w.heap.size,2,none⟩)) rfl (by kernel_rfl) (fun _ _ _ h=>h) (by rfl) (fun w1 hS=>?_) ?_
 ·(try dsimp only at hS)
  go_simp
 simp only [Act.put,zzB,zzC,zzD]
 refine zzG 6 5 (.string n) rfl (by kernel_rfl) (fun _ _ _ h=>h) (by rfl) (fun w1 hS=>?_) ?_
 ·(try dsimp only at hS)
  go_simp
 simp only [Act.put,zzB,zzC,zzD]
 clear m0 m1 m2
 refine zzG 4 5 (.string (fewB s)) rfl (by kernel_rfl) (fun _ _ _ h=>h) (by rfl) (fun w1 hS=>?_) ?_
 ·(try dsimp only at hS)
  go_simp
  exact aAo hS (C1 _).out
 simp only [Act.put,zzB,zzC,zzD]
 refine zzG 7 5 (.string (fewB n)) rfl (by kernel_rfl) (fun _ _ _ h=>h) (by rfl) (fun w1 hS=>?_) ?_
 ·(try dsimp only at hS)
  go_simp
  exact aAo hS (C2 _).out
 simp only [Act.put,zzB,zzC,zzD]
 refine zzG 8 5 (.agg #[.int .i64 k,.string (fewB s),.string (fewB n)]) rfl (by kernel_rfl) (fun _ _ _ h=>h) (by rfl) (fun w1 hS=>?_) ?_
 ·(try dsimp only at hS)
  go_simp
 simp only [Act.put,zzB,zzC,zzD]
 refine aAe (rs:=[9]) (by kernel_rfl) (by simp) (fun W hG hS i hi=>?_)
 obtain rfl:i=9:=by simpa using hi
 clear hi
 have kb:=aA0 K1.out hS
 have BB:=hide (bb2 HB1.out hS)
 have HK:=hide kb
 obtain ⟨z0,z1,z2⟩:_∧_∧_:=⟨aA2 kb (i:=0) rfl,aA2 kb (i:=1) rfl,aA2 kb (i:=2) rfl⟩
 have lz:=aBg kb
 clear kb hG hS
 refine aAb rfl (by rfl) (fun K' hK'=>?_)
 go_simp
 refine hK' _ _ (aBp (by decide) ?_)
 clear hK' K' z0 z1 z2 lz
 refine aBd (by kernel_rfl) ?_
 have S1:=aB7 (w:=w) (B:=w.heap.size) (g:=w.heap.size+1) (Nat.le_succ _) [.int .i64 k,.string (fewB s),.string (fewB n)] _ 0 BB.out
 have K4:=aC2 [.int .i64 k,.string (fewB s),.string (fewB n)] HK.out rfl
 change Exit.then _ _ _ _ (setL W (w.heap.size+1) 0 [.int .i64 k,.string (fewB s),.string (fewB n)])
 generalize setL W (w.heap.size+1) 0 [.int .i64 k,.string (fewB s),.string (fewB n)]=W9 at *
 obtain ⟨e0,e1,e2⟩:_∧_∧_:=⟨aA2 K4 (i:=0) rfl,aA2 K4 (i:=1) rfl,aA2 K4 (i:=2) rfl⟩
 go_wp2_with fail
 exact bodyPost_ret (v:=.agg #[.int .i64 k,.string (fewB s),.string (fewB n)]) (by simp [results,Tryz.f15,go_sem,e0,e1,e2]) rfl ⟨rfl,S1⟩
end Go.Proofs.YthfnjcbiiofkhaaGreatDoor
namespace Go.Proofs.YthfnjcbiiofkhaaGreatDoor
open Go Go.RowKit Go.Shelf
theorem Tryz.infoRef:(Tryz.prog.info? 23).map (fun i=>(i.zero,i.size,i.bytes))=some (some (.agg #[.int .i64 0,.string ⟨#[]⟩,.string ⟨#[]⟩]),3,40):=by kernel_rfl
theorem aGw (w:World) (A:Obj) (r:RfB) (t:Nat):Sl ER ((w.alloc A).alloc (.cells #[.int .i64 r.kind,.string r.space,.string r.name] t)) (.slice (some ⟨w.heap.size+1,0,none⟩) 1 1) [r] :=
 Sl.at_block (E:=ER) (x:=r) (by have:=aA7 (w.alloc A) (.cells #[.int .i64 r.kind,.string r.space,.string r.name] t);rw [World.size_alloc] at this;exact this) trivial
theorem aOq (w:World) (r:RfB):(w.alloc (.cells #[.int .i64 r.kind,.string r.space,.string r.name] 23)).ownsRow w.heap.size 23 ER.n (.slice (some ⟨w.heap.size,0,none⟩) 1 1) 1 (ER.flat [r]) :=
 ⟨by simp [ER,Elem.flat,aBi],.inr ⟨w.heap.size,1,#[.int .i64 r.kind,.string r.space,.string r.name],rfl,Nat.le_refl _,aA7 w _,Nat.le_refl _,by decide,by simp [ER],by simp [ER,Elem.flat,aBi]⟩⟩
def gwTo (x:OV) (k:Nat):List RfB:=⟨1,Ob.nil,x.cls⟩::((x.lis.take k).filter fun l=>l.tls).map fun l=>l.cert
theorem aMz (x:OV):gwTo x x.lis.length=Ob.rawGw x.b:=by
 unfold gwTo Ob.rawGw OV.b
 rw [List.take_length]
 simp only [List.filter_map,List.map_map]
 rfl
theorem aU6 {x:OV} {k:Nat} (hk:k<x.lis.length) (h:x.lis[k].tls=true):gwTo x (k+1)=gwTo x k++[x.lis[k].cert]:=by
 unfold gwTo
 rw [List.take_succ_eq_append_getElem hk,List.filter_append,List.map_append,List.filter_cons_of_pos (by exact h)]
 rfl
theorem aWi {x:OV} {k:Nat} (hk:k<x.lis.length) (h:x.lis[k].tls=false):gwTo x (k+1)=gwTo x k:=by
 unfold gwTo
 rw [List.take_succ_eq_append_getElem hk,List.filter_append,List.filter_cons_of_neg (by rw [h];decide)]
 simp
theorem aN0 {x:OV} {k:Nat} (hk:k≤1000):(gwTo x k).length≤1001:=by
 unfold gwTo
 rw [List.length_cons,List.length_map]
 have:=List.length_filter_le (fun l:LiV=>l.tls) (x.lis.take k)
 rw [List.length_take] at this
 omega
theorem aL7 (x:OV) (w:World) (hx:x.at_ w) (hl:x.lis.length≤1000) :
  Calls Tryz.prog 45 #[oV x] w fun e w'=>∃ v',e=.returned v'∧(∃ b,w.heap.size≤b∧w'.ownsRow b 23 ER.n v' (Ob.rawGw x.b).length (ER.flat (Ob.rawGw x.b)))∧Below w.heap.size w w':=by
 obtain ⟨X,hX⟩:∃ z,z=w.alloc (.cells #[.int .i64 x.ref.kind,.string x.ref.space,.string x.ref.name,.bool x.good,x.vl,x.vp,.string x.cls,x.vi,x.vq,x.vh,x.vr,x.vf,x.vo] 67):=⟨_,rfl⟩
 have B1:Below w.heap.size w X:=by rw [hX];exact (Below.refl _ _).alloc (Nat.le_refl _) _
 have hXs:Hid (X.heap.size=w.heap.size+1):=by unfold Hid;rw [hX];simp
 have K0:X.heap[w.heap.size]?=some (.cells #[.int .i64 x.ref.kind,.string x.ref.space,.string x.ref.name,.bool x.good,x.vl,x.vp,.string x.cls,x.vi,x.vq,x.vh,x.vr,x.vf,x.vo] 67):=by rw [hX];exact aA7 _ _
 have c4:=aA2 K0 (i:=6) rfl
 have c5:=aA2 K0 (i:=7) rfl
 have HL:=hide (fun W (hB:Below w.heap.size w W) k (hk:k<x.lis.length)=>aD9 hx.lis hB hk)
 have HG0:Hid (gwTo x 0=[⟨1,Ob.nil,x.cls⟩]):=by unfold Hid gwTo;simp
 have HGE:=hide (aMz x)
 have HGY:=hide (fun k (hk:k<x.lis.length)=>aU6 (x:=x) hk)
 have HGN:=hide (fun k (hk:k<x.lis.length)=>aWi (x:=x) hk)
 have HGL:=hide (fun k (hk:k≤1000)=>aN0 (x:=x) hk)
 have HB1:=hide B1
 have O1:Hid ((X.alloc (.cells #[.int .i64 1,.string ⟨#[]⟩,.string x.cls] 23)).ownsRow X.heap.size 23 ER.n (.slice (some ⟨w.heap.size+1,0,none⟩) 1 1) 1 (ER.flat [⟨1,Ob.nil,x.cls⟩])):=by
  have:=aOq X ⟨1,Ob.nil,x.cls⟩
  conv at this=>arg 5;rw [hXs.out]
  exact this
 have HL2:=hide hl
 clear hx K0 B1 hl
 generalize gwTo x=gt at *
 generalize Ob.rawGw x.b=gw at *
 obtain ⟨⟨rk0,rs0,rn0⟩,gd0,lb0,al0,cl0,po0,ap0,cp0,cs0,ls0,ai0,ci0,pa0,aq0,cq0,ho0,ah0,ch0,ru0,ar0,cr0,fr0,af0,cf0,to0,ao0,co0⟩:=x
 dsimp only [oV,OV.vl,OV.vp,OV.vi,OV.vq,OV.vh,OV.vr,OV.vf,OV.vo] at *
 go_enter Tryz.func45,Tryz.ntmps45
 go_wp2_with fail
 rw [←hX]
 have B2:=hide ((Below.refl _ X).alloc (Nat.le_refl _) (.cells #[.int .i64 1,.string ⟨#[]⟩,.string cs0] 23))
 clear hX c4 c5
 generalize Value.agg #[.int .i64 rk0,.string rs0,.string rn0,.bool gd0,.slice al0 lb0.length cl0,.slice ap0 po0.length cp0,.string cs0,.slice ai0 ls0.length ci0,.slice aq0 pa0.length cq0,.slice ah0 ho0.length ch0,.slice ar0 ru0.length cr0,.slice af0 fr0.length cf0,.slice ao0 to0.length co0]=vv
 go_loopw [3,13] (fun o i wr=>∃ k:Nat,k≤ls0.length∧i=.int .i64 k∧wr.ownsRow X.heap.size 23 ER.n o (gt k).length (ER.flat (gt k))∧Below X.heap.size X wr) (fun _ i _=>ls0.length - (intOf i).toNat)
 case atStart=>exact ⟨0,Nat.zero_le _,rfl,by rw [HG0.out];exact O1.out,B2.out⟩
 case round =>
  obtain ⟨k,hk,rfl,hr,hB⟩:=hrel
  have HR:=hide hr
  clear hr
  have hl9:=HL2.out
  have hBw:=HB1.out.trans (hB.mono (by rw [hXs.out];omega))
  by_cases hlt:k<ls0.length
  ·have hlt':(k:Int)<(ls0.length:Int):=by omega
   have hgl:=HGL.out k (by have:=HL2.out;omega)
   obtain ⟨_,gg,off,rfl,hgg,q0,q1,q2,q3,q4,q5,q6,q7,q8⟩:=HL.out _ hBw k hlt
   have HY:=hide (HGY.out k hlt)
   have HN:=hide (HGN.out k hlt)
   generalize ls0[k]=l at *
   obtain ⟨n1,p1,t1,h1,⟨ck1,cs1,cn1⟩,f1,nd1,a1,c1⟩:=l
   dsimp only at *
   have hbs:=hB.size
   have ba:=(Below.refl wr.heap.size wr).alloc (Nat.le_refl _) (.cells #[.string n1,.int .i64 p1,.bool t1,.string h1,.int .i64 ck1,.string cs1,.string cn1,.int .i64 f1,.slice a1 nd1.length c1] 55)
   cases t1
   ·have HZ:=hide (HN.out rfl)
    clear HY HN
    go_wp2_with fail
    exact ⟨⟨k+1,by omega,by go_num,by rw [HZ.out];exact aA6 HR.out ba,hB.trans (ba.mono hbs)⟩,by simp [intOf];omega⟩
   ·have HZ:=hide (HY.out rfl)
    clear HY HN
    have ba2:=ba.alloc (by simp) (.cells #[.int .i64 ck1,.string cs1,.string cn1] 23)
    have SL:=aGw wr (.cells #[.string n1,.int .i64 p1,.bool true,.string h1,.int .i64 ck1,.string cs1,.string cn1,.int .i64 f1,.slice a1 nd1.length c1] 55) ⟨ck1,cs1,cn1⟩ 23
    have HR2:=aA6 HR.out ba2
    go_wp2_with (at_builtin;refine aAv (E:=ER) 38 23 _ 40 Tryz.underlying38 Tryz.infoRef rfl (by decide) _ _ _ rfl (by rfl) X.heap.size _ _ _ rfl HR2 _ _ rfl SL (by simp;omega) (by simp;omega) ?_;intro v' w3 hown' hgrow)
    exact ⟨⟨k+1,by omega,by go_num,by rw [HZ.out,List.length_append];exact hown',(hB.trans (ba2.mono hbs)).grown hgrow (by simp;omega) (fun j e=>aAg HR2 e)⟩,by simp [intOf];omega⟩
  ·have hlt':¬ (k:Int)<(ls0.length:Int):=by omega
   obtain rfl:k=ls0.length:=by omega
   go_wp2_with fail
   go_ret
   exact ⟨_,rfl,⟨X.heap.size,by have:=hXs.out;omega,by rw [←HGE.out];exact HR.out⟩,hBw⟩
def rt1 (x:OV) (k:Nat):List RfB:=⟨2,Ob.nil,x.ref.space⟩::(x.pars.take k).map fun p=>⟨5,p.space,p.name⟩
def rt2 (x:OV) (k:Nat):List RfB:=rt1 x x.pars.length++(x.rules.take k).flatMap fun r=>r.bs.map fun b=>b.ref
def rt3 (x:OV) (k j:Nat):List RfB:=rt2 x k++match x.rules[k]? with | some r=>(r.bs.take j).map fun b=>b.ref | none=>[]
theorem aU7 {x:OV} {k:Nat} (hk:k<x.pars.length):rt1 x (k+1)=rt1 x k++[⟨5,x.pars[k].space,x.pars[k].name⟩]:=by
 unfold rt1
 rw [List.take_succ_eq_append_getElem hk,List.map_append]
 rfl
theorem aN1 (x:OV):rt2 x 0=rt1 x x.pars.length:=by
 unfold rt2
 simp
theorem aU8 (x:OV) (k:Nat):rt3 x k 0=rt2 x k:=by
 unfold rt3
 cases x.rules[k]?<;>simp
theorem aU9 {x:OV} {k j:Nat} (hk:k<x.rules.length) (hj:j<x.rules[k].bs.length):rt3 x k (j+1)=rt3 x k j++[x.rules[k].bs[j].ref]:=by
 unfold rt3
 rw [List.getElem?_eq_getElem hk]
 simp only []
 rw [List.take_succ_eq_append_getElem hj,List.map_append,List.append_assoc]
 rfl
theorem aOr {x:OV} {k:Nat} (hk:k<x.rules.length):rt3 x k x.rules[k].bs.length=rt2 x (k+1):=by
 unfold rt3 rt2
 rw [List.getElem?_eq_getElem hk]
 simp only []
 rw [List.take_length,List.take_succ_eq_append_getElem hk,List.flatMap_append,List.append_assoc]
 simp
theorem aOs (x:OV):rt2 x x.rules.length=Ob.rawRt x.b:=by
 unfold rt2 rt1 Ob.rawRt OV.b
 rw [List.take_length,List.take_length]
 simp only [List.flatMap_map,List.cons_append]
 rfl
theorem aOt {x:OV} {k:Nat} (hk:k≤100):(rt1 x k).length≤101:=by
 unfold rt1
 rw [List.length_cons,List.length_map,List.length_take]
 omega
theorem aJz {x:OV} (hp:x.pars.length≤100) (hb:∀ r∈x.rules,r.bs.length≤100):∀ k,k≤100→(rt2 x k).length≤101+k*100
 | 0,_=>by rw [aN1];have:=aOt (x:=x) hp;omega
 | k+1,h=>by
   have ih:=aJz hp hb k (by omega)
   by_cases hk:k<x.rules.length
   ·rw [←aOr hk]
    unfold rt3
    rw [List.getElem?_eq_getElem hk,List.length_append]
    simp only []
    have:=hb _ (List.getElem_mem hk)
    rw [List.length_map,List.take_length]
    omega
   ·unfold rt2 at ih ⊢
    rw [List.take_of_length_le (by omega)] at ih ⊢
    omega
theorem aWj {x:OV} (hp:x.pars.length≤100) (hb:∀ r∈x.rules,r.bs.length≤100) {k j:Nat} (hk:k≤100) (hj:j≤100):(rt3 x k j).length≤20000:=by
 unfold rt3
 rw [List.length_append]
 have:=aJz hp hb k hk
 cases x.rules[k]? with
 | none=>simp;omega
 | some r=>simp;omega
theorem aO9 (x:OV) (w:World) (hx:x.at_ w) (hp:x.pars.length≤100) (hr:x.rules.length≤100) (hb:∀ r∈x.rules,r.bs.length≤100) :
  Calls Tryz.prog 46 #[oV x] w fun e w'=>∃ v',e=.returned v'∧(∃ b,w.heap.size≤b∧w'.ownsRow b 23 ER.n v' (Ob.rawRt x.b).length (ER.flat (Ob.rawRt x.b)))∧Below w.heap.size w w':=by
 obtain ⟨X,hX⟩:∃ z,z=w.alloc (.cells #[.int .i64 x.ref.kind,.string x.ref.space,.string x.ref.name,.bool x.good,x.vl,x.vp,.string x.cls,x.vi,x.vq,x.vh,x.vr,x.vf,x.vo] 67):=⟨_,rfl⟩
 have B1:Below w.heap.size w X:=by rw [hX];exact (Below.refl _ _).alloc (Nat.le_refl _) _
 have hXs:Hid (X.heap.size=w.heap.size+1):=by unfold Hid;rw [hX];simp
 have K0:X.heap[w.heap.size]?=some (.cells #[.int .i64 x.ref.kind,.string x.ref.space,.string x.ref.name,.bool x.good,x.vl,x.vp,.string x.cls,x.vi,x.vq,x.vh,x.vr,x.vf,x.vo] 67):=by rw [hX];exact aA7 _ _
 have c1:=aA2 K0 (i:=1) rfl
 have KC:=hide (fun W (h:Below X.heap.size X W)=>(⟨aA2 (aA0 K0 h) (i:=8) rfl,aA2 (aA0 K0 h) (i:=10) rfl⟩:W.cell? ⟨w.heap.size,8,none⟩=some x.vq∧W.cell? ⟨w.heap.size,10,none⟩=some x.vr))
 have HL1:=hide (fun W (hB:Below w.heap.size w W) k (hk:k<x.pars.length)=>aD5 hx.pars hB hk)
 have HL2:=hide (fun W (hB:Below w.heap.size w W) k (hk:k<x.rules.length)=>aEd hx.rules hB hk)
 have H10:Hid (rt1 x 0=[⟨2,Ob.nil,x.ref.space⟩]):=by unfold Hid rt1;simp
 have H1N:=hide (fun k (hk:k<x.pars.length)=>aU7 (x:=x) hk)
 have H20:=hide (aN1 x)
 have H30:=hide (aU8 x)
 have H3N:=hide (fun k j (hk:k<x.rules.length) (hj:j<x.rules[k].bs.length)=>aU9 (x:=x) hk hj)
 have H3E:=hide (fun k (hk:k<x.rules.length)=>aOr (x:=x) hk)
 have H2E:=hide (aOs x)
 have H1L:=hide (fun k (hk:k≤100)=>aOt (x:=x) hk)
 have H3L:=hide (fun k j (hk:k≤100) (hj:j≤100)=>aWj (x:=x) hp hb (k:=k) (j:=j) hk hj)
 have HB1:=hide B1
 have O1:Hid ((X.alloc (.cells #[.int .i64 2,.string ⟨#[]⟩,.string x.ref.space] 23)).ownsRow X.heap.size 23 ER.n (.slice (some ⟨w.heap.size+1,0,none⟩) 1 1) 1 (ER.flat [⟨2,Ob.nil,x.ref.space⟩])):=by
  have:=aOq X ⟨2,Ob.nil,x.ref.space⟩
  conv at this=>arg 5;rw [hXs.out]
  exact this
 have HPL:=hide hp
 have HRL:=hide hr
 have HBL:=hide hb
 clear hx K0 B1 hp hr hb
 generalize rt1 x=g1 at *
 generalize rt2 x=g2 at *
 generalize rt3 x=g3 at *
 generalize Ob.rawRt x.b=gw at *
 obtain ⟨⟨rk0,rs0,rn0⟩,gd0,lb0,al0,cl0,po0,ap0,cp0,cs0,ls0,ai0,ci0,pa0,aq0,cq0,ho0,ah0,ch0,ru0,ar0,cr0,fr0,af0,cf0,to0,ao0,co0⟩:=x
 dsimp only [oV,OV.vl,OV.vp,OV.vi,OV.vq,OV.vh,OV.vr,OV.vf,OV.vo] at *
 have BX2:Hid (Below X.heap.size X (X.alloc (.cells #[.int .i64 2,.string ⟨#[]⟩,.string rs0] 23))):=(Below.refl _ X).alloc (Nat.le_refl _) _
 have c8:(w.alloc (.cells #[.int .i64 rk0,.string rs0,.string rn0,.bool gd0,.slice al0 lb0.length cl0,.slice ap0 po0.length cp0,.string cs0,.slice ai0 ls0.length ci0,.slice aq0 pa0.length cq0,.slice ah0 ho0.length ch0,.slice ar0 ru0.length cr0,.slice af0 fr0.length cf0,.slice ao0 to0.length co0] 67)).heap.size=w.heap.size+1:=by simp
 clear c8 c1
 go_enter Tryz.func46,Tryz.ntmps46
 go_wp2_with fail
 rw [←hX]
 clear hX
 generalize Value.agg #[.int .i64 rk0,.string rs0,.string rn0,.bool gd0,.slice al0 lb0.length cl0,.slice ap0 po0.length cp0,.string cs0,.slice ai0 ls0.length ci0,.slice aq0 pa0.length cq0,.slice ah0 ho0.length ch0,.slice ar0 ru0.length cr0,.slice af0 fr0.length cf0,.slice ao0 to0.length co0]=vv
 go_loopw [3,18] (fun o i wr=>∃ k:Nat,k≤pa0.length∧i=.int .i64 k∧wr.ownsRow X.heap.size 23 ER.n o (g1 k).length (ER.flat (g1 k))∧Below X.heap.size X wr) (fun _ i _=>pa0.length - (intOf i).toNat)
 case atStart=>exact ⟨0,Nat.zero_le _,rfl,by rw [H10.out];exact O1.out,BX2.out⟩
 case round =>
  obtain ⟨k,hk,rfl,hr,hB⟩:=hrel
  have HR:=hide hr
  clear hr
  have hl9:=HPL.out
  have hBw:=HB1.out.trans (hB.mono (by rw [hXs.out];omega))
  by_cases hlt:k<pa0.length
  ·have hlt':(k:Int)<(pa0.length:Int):=by omega
   have hgl:=H1L.out k (by omega)
   obtain ⟨_,gg,off,rfl,hgg,q0,q1,q2,q3⟩:=HL1.out _ hBw k hlt
   have HY:=hide (H1N.out k hlt)
   generalize pa0[k]=l at *
   obtain ⟨s1,n1,t1,p1⟩:=l
   dsimp only at *
   have hbs:=hB.size
   have ba:=(Below.refl wr.heap.size wr).alloc (Nat.le_refl _) (.cells #[.string s1,.string n1,.string t1,.int .i64 p1] 41)
   have ba2:=ba.alloc (by simp) (.cells #[.int .i64 5,.string s1,.string n1] 23)
   have SL:=aGw wr (.cells #[.string s1,.string n1,.string t1,.int .i64 p1] 41) ⟨5,s1,n1⟩ 23
   have HR2:=aA6 HR.out ba2
   go_wp2_with (at_builtin;refine aAv (E:=ER) 38 23 _ 40 Tryz.underlying38 Tryz.infoRef rfl (by decide) _ _ _ rfl (by rfl) X.heap.size _ _ _ rfl HR2 _ _ rfl SL (by simp;omega) (by simp;omega) ?_;intro v' w3 hown' hgrow)
   exact ⟨⟨k+1,by omega,by go_num,by rw [HY.out,List.length_append];exact hown',(hB.trans (ba2.mono hbs)).grown hgrow (by simp;omega) (fun j e=>aAg HR2 e)⟩,by simp [intOf];omega⟩
  ·have hlt':¬ (k:Int)<(pa0.length:Int):=by omega
   obtain rfl:k=pa0.length:=by omega
   obtain ⟨z1,z2⟩:=KC.out _ hB
   rw [←H20.out] at HR
   go_wp2_with fail
   clear z1 z2 hlt hlt' hk hBw H10 H1N H20 H1L HL1 O1 BX2 KC
   go_loopw [3,34] (fun o i wr=>∃ k:Nat,k≤ru0.length∧i=.int .i64 k∧wr.ownsRow X.heap.size 23 ER.n o (g2 k).length (ER.flat (g2 k))∧Below X.heap.size X wr) (fun _ i _=>ru0.length - (intOf i).toNat)
   case atStart=>exact ⟨0,Nat.zero_le _,rfl,HR.out,hB⟩
   case round =>
    clear HR hB
    obtain ⟨wq,hwq⟩:∃ W,W=wr:=⟨_,rfl⟩
    clear hwq wq
    obtain ⟨k,hk,rfl,hr,hB⟩:=hrel
    have HR:=hide hr
    clear hr
    have hr9:=HRL.out
    have hBw:=HB1.out.trans (hB.mono (by rw [hXs.out];omega))
    by_cases hlt:k<ru0.length
    ·have hlt':(k:Int)<(ru0.length:Int):=by omega
     obtain ⟨hA,gg,off,rfl,hgg,q0,q1,q2⟩:=HL2.out _ hBw k hlt
     have hbl:=HBL.out _ (List.getElem_mem hlt)
     have HN3:=hide (fun j (hj:j<ru0[k].bs.length)=>H3N.out k j hlt hj)
     have HE3:=hide (H3E.out k hlt)
     have HG3:=hide (fun j (hj:j≤100)=>H3L.out k j (by omega) hj)
     rw [←H30.out k] at HR
     obtain ⟨hA0,_⟩:=HL2.out w (Below.refl _ _) k hlt
     have HBS:=hide (fun W (h:Below w.heap.size w W) j (hj:j<ru0[k].bs.length)=>oneK hA0.bs h hj)
     clear hA hA0
     generalize ru0[k]=r at *
     obtain ⟨ms1,am1,cm1,fs1,af1,cf1,bs1,ab1,cb1⟩:=r
     dsimp only [RlV.vm,RlV.vf,RlV.vb] at *
     have ba:=(Below.refl wr.heap.size wr).alloc (Nat.le_refl _) (.cells #[.slice am1 ms1.length cm1,.slice af1 fs1.length cf1,.slice ab1 bs1.length cb1] 46)
     have HRI:=hide (aA6 HR.out ba)
     have HBI:=hide (hB.trans (ba.mono hB.size))
     generalize hg:g3 k=gk at *
     clear hg ba
     go_wp2_with fail
     clear q0 q1 q2 hgg HR
     go_loopw [3,41] (fun o i wi=>∃ j:Nat,j≤bs1.length∧i=.int .i64 j∧wi.ownsRow X.heap.size 23 ER.n o (gk j).length (ER.flat (gk j))∧Below X.heap.size X wi) (fun _ i _=>bs1.length - (intOf i).toNat)
     case atStart=>exact ⟨0,Nat.zero_le _,rfl,HRI.out,HBI.out⟩
     case round =>
      clear HRI HBI hB hBw
      obtain ⟨j,hj,rfl,hr,hB⟩:=hrel
      have HR:=hide hr
      clear hr
      have hBw:=HB1.out.trans (hB.mono (by rw [hXs.out];omega))
      by_cases hjl:j<bs1.length
      ·have hjl':(j:Int)<(bs1.length:Int):=by omega
       have hgl:=HG3.out j (by omega)
       obtain ⟨_,gg,off,rfl,hgg,q0,q1,q2,q3,q4⟩:=HBS.out _ hBw j hjl
       have HY:=hide (HN3.out j hjl)
       generalize bs1[j]=l at *
       obtain ⟨⟨k1,s1,n1⟩,p1,x1⟩:=l
       dsimp only at *
       have hbs:=hB.size
       have ba:=(Below.refl wr.heap.size wr).alloc (Nat.le_refl _) (.cells #[.int .i64 k1,.string s1,.string n1,.int .i64 p1,.int .i64 x1] 48)
       have ba2:=ba.alloc (by simp) (.cells #[.int .i64 k1,.string s1,.string n1] 23)
       have SL:=aGw wr (.cells #[.int .i64 k1,.string s1,.string n1,.int .i64 p1,.int .i64 x1] 48) ⟨k1,s1,n1⟩ 23
       have HR2:=aA6 HR.out ba2
       go_wp2_with (at_builtin;refine aAv (E:=ER) 38 23 _ 40 Tryz.underlying38 Tryz.infoRef rfl (by decide) _ _ _ rfl (by rfl) X.heap.size _ _ _ rfl HR2 _ _ rfl SL (by simp;omega) (by simp;omega) ?_;intro v' w3 hown' hgrow)
       exact ⟨⟨j+1,by omega,by go_num,by rw [HY.out,List.length_append];exact hown',(hB.trans (ba2.mono hbs)).grown hgrow (by simp;omega) (fun j e=>aAg HR2 e)⟩,by simp [intOf];omega⟩
      ·have hjl':¬ (j:Int)<(bs1.length:Int):=by omega
       obtain rfl:j=bs1.length:=by omega
       go_wp2_with fail
       exact ⟨⟨k+1,by omega,by go_num,by rw [←HE3.out];exact HR.out,hB⟩,by simp [intOf];omega⟩
    ·have hlt':¬ (k:Int)<(ru0.length:Int):=by omega
     obtain rfl:k=ru0.length:=by omega
     go_wp2_with fail
     go_ret
     exact ⟨_,rfl,⟨X.heap.size,by have:=hXs.out;omega,by rw [←H2E.out];exact HR.out⟩,hBw⟩
end Go.Proofs.YthfnjcbiiofkhaaGreatDoor
namespace Go.Proofs.YthfnjcbiiofkhaaGreatDoor
open Go Go.RowKit Go.Shelf
theorem aGx {x:OV} (h:Ob.mayO x.b=true):(x.ref.kind=5→x.lis.length≤8)∧(x.ref.kind=6→x.pars.length≤4∧x.rules.length≤6∧∀ r∈x.rules,r.bs.length≤4):=by
 refine ⟨fun h5=>?_,fun h6=>?_⟩
 ·have:=(Ob.cnt_iff.1 (Ob.gw_parts (Ob.may5 h h5)).2.2.1).2.1
  unfold OV.b at this
  simp at this
  omega
 ·obtain ⟨_,p1,_,_,_,p5⟩:=Ob.rt_parts (Ob.may6 h h6)
  have e1:=(Ob.cnt_iff.1 p1).2.1
  have e5:=(Ob.cnt_iff.1 p5).2
  unfold OV.b at e1 e5
  simp only [List.length_map] at e1 e5
  refine ⟨by omega,by omega,fun r hr=>?_⟩
  have:=e5.2 r.b (List.mem_map_of_mem hr)
  unfold Ob.mayRl at this
  simp only [Bool.and_eq_true] at this
  have:=(Ob.cnt_iff.1 this.2.2).2.1
  unfold RlV.b at this
  dsimp only at this
  omega
theorem aUa {x:OV} (h:x.lis.length≤8):(Ob.rawGw x.b).length≤1000:=by
 rw [←aMz]
 have:=aN0 (x:=x) (k:=x.lis.length) (by omega)
 unfold gwTo at this ⊢
 rw [List.take_length] at this ⊢
 rw [List.length_cons,List.length_map]
 have:=List.length_filter_le (fun l:LiV=>l.tls) x.lis
 omega
theorem aUb {x:OV} (h1:x.pars.length≤4) (h2:x.rules.length≤6) (h3:∀ r∈x.rules,r.bs.length≤4):(Ob.rawRt x.b).length≤1000:=by
 rw [←aOs]
 have:=aJz (x:=x) (by omega) (fun r hr=>by have:=h3 r hr;omega) x.rules.length (by omega)
 omega
def aBu (sp:ByteArray) (L:List RfB) (k:Nat):List RfB:=(L.take k).map (Ob.near sp)++L.drop k
theorem aG7 (sp:ByteArray) (L:List RfB) (k:Nat):(aBu sp L k).length=L.length:=by unfold aBu;simp;omega
theorem aHs (sp:ByteArray) (L:List RfB):aBu sp L 0=L:=by unfold aBu;simp
theorem aJc (sp:ByteArray) (L:List RfB):aBu sp L L.length=L.map (Ob.near sp):=by unfold aBu;simp
theorem aL0 {sp:ByteArray} {L:List RfB} {k:Nat} (hk:k<L.length):(aBu sp L k)[k]'(by rw [aG7];exact hk)=L[k]:=by
 have hm:min k L.length=k:=Nat.min_eq_left (by omega)
 unfold aBu
 rw [List.getElem_append_right (by simp [hm])]
 simp [hm]
theorem aHt {sp:ByteArray} {L:List RfB} {k:Nat} (hk:k<L.length):(aBu sp L k).set k (Ob.near sp L[k])=aBu sp L (k+1):=by
 unfold aBu
 rw [List.take_succ_eq_append_getElem hk,List.map_append,List.drop_eq_getElem_cons hk,List.append_assoc]
 have hm:min k L.length=k:=Nat.min_eq_left (by omega)
 rw [List.set_append_right _ _ (by simp [hm])]
 simp [hm]
 rw [List.drop_eq_getElem_cons hk]
 rfl
theorem aOa (w:World):Calls Tryz.prog 50 #[.slice none 0 0] w fun e w'=>e=.returned (.slice none 0 0)∧Below w.heap.size w w':=by
 go_enter Tryz.func50,Tryz.ntmps50
 go_wp2_with fail
 go_ret
 exact ⟨rfl,Below.refl _ _⟩
theorem aUc (fv:Value) (w:World):Calls Tryz.prog 48 #[.slice none 0 0,fv] w fun e w'=>e=.returned (.tuple #[])∧Below w.heap.size w w' :=
 (AnyF.slices_SortFunc_none Tryz.sortRf none 0 fv w).mono fun _ _ h=>⟨h.1,by rw [h.2];exact Below.refl _ _⟩
theorem aL1 {L D:List RfB} {sp:ByteArray} (hp:D.Perm (L.map (Ob.near sp))) (hs:D.Pairwise fun x y=>Ob.ordR x y≤0):Ob.cmpTo D D.length=Ob.sortU (L.map (Ob.near sp)):=Ob.cmpTo_sortU hp hs
theorem refs_no (x:OV) (w:World) (hx:x.at_ w) (ok:OkO x) (hm:Ob.mayO x.b=false) :
  Calls Tryz.prog 13 #[oV x] w fun e w'=>∃ v',e=.returned v'∧Sl ER w' v' (Ob.refsO x.b)∧Below w.heap.size w w':=by
 obtain ⟨X,hX⟩:∃ z,z=w.alloc (.cells #[.int .i64 x.ref.kind,.string x.ref.space,.string x.ref.name,.bool x.good,x.vl,x.vp,.string x.cls,x.vi,x.vq,x.vh,x.vr,x.vf,x.vo] 32):=⟨_,rfl⟩
 have HB0:Hid (Below w.heap.size w (w.alloc (.cells #[.int .i64 x.ref.kind,.string x.ref.space,.string x.ref.name,.bool x.good,x.vl,x.vp,.string x.cls,x.vi,x.vq,x.vh,x.vr,x.vf,x.vo] 32))):=(Below.refl _ _).alloc (Nat.le_refl _) _
 have B1:Below w.heap.size w X:=by rw [hX];exact HB0.out
 have hXs:Hid (w.heap.size≤X.heap.size):=by unfold Hid;rw [hX];simp
 have K0:X.heap[w.heap.size]?=some (.cells #[.int .i64 x.ref.kind,.string x.ref.space,.string x.ref.name,.bool x.good,x.vl,x.vp,.string x.cls,x.vi,x.vq,x.vh,x.vr,x.vf,x.vo] 32):=by rw [hX];exact aA7 _ _
 have C1:=fun W (h:Below X.heap.size X W)=>hide (aDw x W (hx.below (bb2 B1 h)) ok)
 rw [hm] at C1
 have HE:Hid (Ob.refsO x.b=[]):=Ob.refs_no hm
 have HB1:=hide B1
 clear hx K0 B1 ok hm hXs
 generalize Ob.refsO x.b=R at *
 obtain ⟨⟨rk0,rs0,rn0⟩,gd0,lb0,al0,cl0,po0,ap0,cp0,cs0,ls0,ai0,ci0,pa0,aq0,cq0,ho0,ah0,ch0,ru0,ar0,cr0,fr0,af0,cf0,to0,ao0,co0⟩:=x
 dsimp only [oV,OV.vl,OV.vp,OV.vi,OV.vq,OV.vh,OV.vr,OV.vf,OV.vo] at *
 go_enter Tryz.func13,Tryz.ntmps13
 go_wp2_with fail
 rw [←hX]
 clear hX
 refine ((C1 _ (Below.refl _ _)).out).mono ?_
 rintro e w1 ⟨rfl,hb1⟩
 go_wp2_with fail
 go_ret
 exact ⟨_,rfl,by rw [HE.out];exact Sl.nil _,bb2 HB1.out hb1⟩
theorem aSk (x:OV) (w:World) (hx:x.at_ w) (ok:OkO x) (hm:Ob.mayO x.b=true) (h5:x.ref.kind≠5) (h6:x.ref.kind≠6) :
  Calls Tryz.prog 13 #[oV x] w fun e w'=>∃ v',e=.returned v'∧Sl ER w' v' (Ob.refsO x.b)∧Below w.heap.size w w':=by
 obtain ⟨X,hX⟩:∃ z,z=w.alloc (.cells #[.int .i64 x.ref.kind,.string x.ref.space,.string x.ref.name,.bool x.good,x.vl,x.vp,.string x.cls,x.vi,x.vq,x.vh,x.vr,x.vf,x.vo] 32):=⟨_,rfl⟩
 have HB0:Hid (Below w.heap.size w (w.alloc (.cells #[.int .i64 x.ref.kind,.string x.ref.space,.string x.ref.name,.bool x.good,x.vl,x.vp,.string x.cls,x.vi,x.vq,x.vh,x.vr,x.vf,x.vo] 32))):=(Below.refl _ _).alloc (Nat.le_refl _) _
 have B1:Below w.heap.size w X:=by rw [hX];exact HB0.out
 have hXs:Hid (w.heap.size≤X.heap.size):=by unfold Hid;rw [hX];simp
 have K0:X.heap[w.heap.size]?=some (.cells #[.int .i64 x.ref.kind,.string x.ref.space,.string x.ref.name,.bool x.good,x.vl,x.vp,.string x.cls,x.vi,x.vq,x.vh,x.vr,x.vf,x.vo] 32):=by rw [hX];exact aA7 _ _
 have C1:=fun W (h:Below X.heap.size X W)=>hide (aDw x W (hx.below (bb2 B1 h)) ok)
 rw [hm] at C1
 have HE:Hid (Ob.refsO x.b=[]):=by
  unfold Hid Ob.refsO Ob.rawO
  rw [show x.b.ref=x.ref from rfl,if_neg h5,if_neg h6,hm]
  rfl
 have h5':(x.ref.kind == 5)=false:=by simpa using h5
 have h6':(x.ref.kind == 6)=false:=by simpa using h6
 have KC:=hide (fun W (h:Below X.heap.size X W)=>aA2 (aA0 K0 h) (i:=0) rfl)
 have HB1:=hide B1
 have CS:=fun W=>hide (aUc (.func (.func 49) #[] #[]) W)
 have CC:=fun W=>hide (aOa W)
 clear hx K0 B1 ok hm hXs h5 h6
 generalize Ob.refsO x.b=R at *
 obtain ⟨⟨rk0,rs0,rn0⟩,gd0,lb0,al0,cl0,po0,ap0,cp0,cs0,ls0,ai0,ci0,pa0,aq0,cq0,ho0,ah0,ch0,ru0,ar0,cr0,fr0,af0,cf0,to0,ao0,co0⟩:=x
 dsimp only [oV,OV.vl,OV.vp,OV.vi,OV.vq,OV.vh,OV.vr,OV.vf,OV.vo] at *
 go_enter Tryz.func13,Tryz.ntmps13
 go_wp2_with fail
 rw [←hX]
 clear hX
 refine (C1 _ (Below.refl _ _)).out.mono ?_
 rintro e w1 ⟨rfl,hb1⟩
 have z0:=KC.out w1 hb1
 go_wp2_with fail
 go_loopw [22] (fun i wr=>i=.int .i64 0∧Below X.heap.size X wr) (fun i _=>0)
 case atStart=>exact ⟨rfl,hb1⟩
 case round =>
  clear hb1
  obtain ⟨rfl,hB⟩:=hrel
  go_wp2_with fail
  refine ((CS _).out).mono ?_
  rintro e w2 ⟨rfl,hb2⟩
  go_wp2_with fail
  refine ((CC _).out).mono ?_
  rintro e w3 ⟨rfl,hb3⟩
  go_wp2_with fail
  go_ret
  exact ⟨_,rfl,by rw [HE.out];exact Sl.nil _,bb2 HB1.out (bb2 hB (bb2 hb2 hb3))⟩
theorem aN2 (L:List RfB):(Ob.cmpTo L L.length).length≤L.length:=by
 have:∀ n,(Ob.cmpTo L n).length≤n:=by
  intro n
  induction n with
  | zero=>simp [Ob.cmpTo]
  | succ n ih =>
    unfold Ob.cmpTo
    split
    ·split
     ·omega
     ·simp;omega
    ·omega
 exact this _
theorem bb2' {B:Nat} {a b c d:World} (h:Below B a b) (h2:Below B b c) (h3:Below B c d):Below B a d:=(h.trans h2).trans h3
theorem aUd (x:OV) (w:World) (hx:x.at_ w) (ok:OkO x) (hm:Ob.mayO x.b=true) (hk:x.ref.kind=5) :
  Calls Tryz.prog 13 #[oV x] w fun e w'=>∃ v',e=.returned v'∧Sl ER w' v' (Ob.refsO x.b)∧Below w.heap.size w w'∧∀ g,v'.ownBlock=some g→w.heap.size≤g:=by
 obtain ⟨X,hX⟩:∃ z,z=w.alloc (.cells #[.int .i64 x.ref.kind,.string x.ref.space,.string x.ref.name,.bool x.good,x.vl,x.vp,.string x.cls,x.vi,x.vq,x.vh,x.vr,x.vf,x.vo] 32):=⟨_,rfl⟩
 have HB0:Hid (Below w.heap.size w (w.alloc (.cells #[.int .i64 x.ref.kind,.string x.ref.space,.string x.ref.name,.bool x.good,x.vl,x.vp,.string x.cls,x.vi,x.vq,x.vh,x.vr,x.vf,x.vo] 32))):=(Below.refl _ _).alloc (Nat.le_refl _) _
 have B1:Below w.heap.size w X:=by rw [hX];exact HB0.out
 have hXs:Hid (w.heap.size≤X.heap.size):=by unfold Hid;rw [hX];simp
 have K0:X.heap[w.heap.size]?=some (.cells #[.int .i64 x.ref.kind,.string x.ref.space,.string x.ref.name,.bool x.good,x.vl,x.vp,.string x.cls,x.vi,x.vq,x.vh,x.vr,x.vf,x.vo] 32):=by rw [hX];exact aA7 _ _
 have C1:=fun W (h:Below X.heap.size X W)=>hide (aDw x W (hx.below (bb2 B1 h)) ok)
 rw [hm] at C1
 have hs:=aGx hm
 have hlen:=aUa (hs.1 hk)
 have hl8:=hs.1 hk
 have HE:Hid (Ob.refsO x.b=Ob.sortU ((Ob.rawGw x.b).map (Ob.near x.ref.space))):=by
  unfold Hid Ob.refsO Ob.rawO
  rw [show x.b.ref=x.ref from rfl,hm]
  simp [hk]
 have C2:=fun W (h:Below X.heap.size X W)=>hide (aL7 x W (hx.below (bb2 B1 h)) (by omega))
 have hne:Ob.rawGw x.b≠[]:=by unfold Ob.rawGw;exact List.cons_ne_nil _ _
 have KC:=hide (fun W (h:Below X.heap.size X W)=>(⟨aA2 (aA0 K0 h) (i:=0) rfl,aA2 (aA0 K0 h) (i:=1) rfl,aA2 (aA0 K0 h) (i:=2) rfl,aA2 (aA0 K0 h) (i:=3) rfl,aA2 (aA0 K0 h) (i:=4) rfl,aA2 (aA0 K0 h) (i:=5) rfl,aA2 (aA0 K0 h) (i:=6) rfl,aA2 (aA0 K0 h) (i:=7) rfl,aA2 (aA0 K0 h) (i:=8) rfl,aA2 (aA0 K0 h) (i:=9) rfl,aA2 (aA0 K0 h) (i:=10) rfl,aA2 (aA0 K0 h) (i:=11) rfl,aA2 (aA0 K0 h) (i:=12) rfl⟩:W.cell? ⟨w.heap.size,0,none⟩=some (.int .i64 x.ref.kind)∧W.cell? ⟨w.heap.size,1,none⟩=some (.string x.ref.space)∧W.cell? ⟨w.heap.size,2,none⟩=some (.string x.ref.name)∧W.cell? ⟨w.heap.size,3,none⟩=some (.bool x.good)∧W.cell? ⟨w.heap.size,4,none⟩=some (x.vl)∧W.cell? ⟨w.heap.size,5,none⟩=some (x.vp)∧W.cell? ⟨w.heap.size,6,none⟩=some (.string x.cls)∧W.cell? ⟨w.heap.size,7,none⟩=some (x.vi)∧W.cell? ⟨w.heap.size,8,none⟩=some (x.vq)∧W.cell? ⟨w.heap.size,9,none⟩=some (x.vh)∧W.cell? ⟨w.heap.size,10,none⟩=some (x.vr)∧W.cell? ⟨w.heap.size,11,none⟩=some (x.vf)∧W.cell? ⟨w.heap.size,12,none⟩=some (x.vo)))
 have HB1:=hide B1
 clear hx K0 B1 ok hm hs
 generalize Ob.refsO x.b=R at *
 generalize Ob.rawGw x.b=L at *
 have HNE:=hide hne
 have HLL:=hide hlen
 clear hne hlen
 obtain ⟨⟨rk0,rs0,rn0⟩,gd0,lb0,al0,cl0,po0,ap0,cp0,cs0,ls0,ai0,ci0,pa0,aq0,cq0,ho0,ah0,ch0,ru0,ar0,cr0,fr0,af0,cf0,to0,ao0,co0⟩:=x
 dsimp only [oV,OV.vl,OV.vp,OV.vi,OV.vq,OV.vh,OV.vr,OV.vf,OV.vo] at *
 subst hk
 go_enter Tryz.func13,Tryz.ntmps13
 go_wp2_with fail
 rw [←hX]
 clear hX
 refine (C1 _ (Below.refl _ _)).out.mono ?_
 rintro e w1 ⟨rfl,hb1⟩
 obtain ⟨z0,z1,z2,z3,z4,z5,z6,z7,z8,z9,z10,z11,z12⟩:=KC.out w1 hb1
 go_wp2_with fail
 refine (C2 _ hb1).out.mono ?_
 rintro e w2 ⟨v2,rfl,⟨b,hbb,hown⟩,hb2⟩
 obtain ⟨g,cap,m,rfl,hbg,hlc,hcm,hrow⟩:=aAl.of_own (E:=ER) hown HNE.out
 have hXg:X.heap.size≤g:=Nat.le_trans hb1.size (Nat.le_trans hbb hbg)
 have HB2:=hide (bb2 hb1 hb2)
 have HROW:=hide hrow
 clear hown hrow hb1 hb2 hbb hbg C1 C2 z0 z1 z2 z3 z4 z5 z6 z7 z8 z9 z10 z11 z12
 generalize Value.agg #[.int .i64 5,.string rs0,.string rn0,.bool gd0,.slice al0 lb0.length cl0,.slice ap0 po0.length cp0,.string cs0,.slice ai0 ls0.length ci0,.slice aq0 pa0.length cq0,.slice ah0 ho0.length ch0,.slice ar0 ru0.length cr0,.slice af0 fr0.length cf0,.slice ao0 to0.length co0]=vv
 go_wp2_with fail
 go_loopw [22] (fun i wr=>∃ k:Nat,k≤L.length∧i=.int .i64 k∧aAl ER wr g 23 (aBu rs0 L k) m∧Below X.heap.size X wr) (fun i _=>L.length - (intOf i).toNat)
 case atStart=>exact ⟨0,Nat.zero_le _,rfl,by rw [aHs];exact HROW.out,HB2.out⟩
 case round =>
  clear HROW HB2
  obtain ⟨k,hk,rfl,hrow,hB⟩:=hrel
  have hl9:=HLL.out
  by_cases hlt:k<L.length
  ·have hlt':(k:Int)<(L.length:Int):=by omega
   have hkn:k<(aBu rs0 L k).length:=by rw [aG7];exact hlt
   have HC:=aCb hrow hkn
   rw [aL0 hlt] at HC
   obtain ⟨q0,q1,q2⟩:=HC
   have HST:=hide (fun (W:World) (h:aAl ER W g 23 (aBu rs0 L k) m)=>(show aAl ER _ g _ _ m from (by have:=h.store (i:=k) hkn (Ob.near rs0 L[k]);rw [aHt hlt] at this;exact this)))
   have CN:=fun W=>hide (aMy L[k] rs0 W)
   have HROW:=hide hrow
   clear hrow
   generalize L[k]=l at *
   generalize hnl:Ob.near rs0 l=nl at *
   clear hnl
   obtain ⟨k1,s1,n1⟩:=l
   obtain ⟨k2,s2,n2⟩:=nl
   dsimp only at *
   have ba:=(Below.refl wr.heap.size wr).alloc (Nat.le_refl _) (.cells #[.int .i64 k1,.string s1,.string n1] 23)
   obtain ⟨z0,z1,z2,z3,z4,z5,z6,z7,z8,z9,z10,z11,z12⟩:=KC.out _ (bb2 hB ba)
   clear z0 z2 z3 z4 z5 z6 z7 z8 z9 z10 z11 z12
   go_wp2_with fail
   refine (CN _).out.mono ?_
   rintro e w3 ⟨rfl,hb3⟩
   have hr3:=HROW.out.below (bb2 ba hb3)
   obtain ⟨p0,p1,p2⟩:=aCb hr3 hkn
   have lv:=fun i=>hr3.live i
   have HS:=hide (HST.out w3 hr3)
   have HB3:=hide (bb2 hB (bb2 ba hb3))
   clear z1 q0 q1 q2 hr3 ba hb3 HROW HST
   go_wp2_with fail
   exact ⟨⟨k+1,by omega,by go_num,HS.out,((HB3.out.setCell (p:=⟨g,k*3,none⟩) hXg _).setCell (p:=⟨g,k*3+1,none⟩) hXg _).setCell (p:=⟨g,k*3+2,none⟩) hXg _⟩,by simp [intOf];omega⟩
  ·have hlt':¬ (k:Int)<(L.length:Int):=by omega
   obtain rfl:k=L.length:=by omega
   rw [aJc] at hrow
   have hml:(L.map (Ob.near rs0)).length=L.length:=by simp
   have CS:=hide (aMx g 23 m cap (L.map (Ob.near rs0)) wr hrow (by rw [hml];exact hl9) (B:=X.heap.size) hXg)
   rw [hml] at CS
   have HLC:=hide hlc
   have HCM:=hide hcm
   clear hrow hml hlc hcm
   go_wp2_with fail
   refine CS.out.mono ?_
   rintro e w3 ⟨rfl,⟨D,hp,hs,hr3⟩,hb3⟩
   have hdl:D.length=L.length:=by rw [hp.length_eq];simp
   have CC:=hide (aHm g 23 m cap D w3 hr3 (by rw [hdl];exact HLC.out) HCM.out (B:=X.heap.size) hXg)
   have HRL:=hide (aL1 hp hs)
   have HDL:=hide hdl
   rw [hdl] at CC
   have HLE:Hid ((Ob.cmpTo D D.length).length≤D.length):=by
    obtain ⟨e0,w0⟩:True∧True:=⟨trivial,trivial⟩
    exact aN2 D
   clear hp hs hr3 hdl CS
   go_wp2_with fail
   refine CC.out.mono ?_
   rintro e w4 ⟨rfl,⟨D4,hr4,hl4,ht4⟩,hb4⟩
   have HF:Hid (Sl ER w4 (.slice (some ⟨g,0,none⟩) (Ob.cmpTo D L.length).length cap) R):=by
    unfold Hid
    have e1:Ob.cmpTo D L.length=R:=by rw [HE.out,←HRL.out,HDL.out]
    have h1:=HLE.out
    rw [HDL.out] at h1
    have:=hr4.sl (fun _ _=>trivial) (k:=(Ob.cmpTo D L.length).length) (cap:=cap) (by rw [hl4];exact h1) (Nat.le_trans h1 HLC.out) HCM.out
    rw [ht4] at this
    rw [e1] at this ⊢
    exact this
   clear hr4 hl4 ht4 CC
   go_wp2_with fail
   go_ret
   exact ⟨_,rfl,HF.out,(HB1.out).trans ((bb2' hB hb3 hb4).mono hXs.out),fun g' e=>by obtain rfl:g=g':=Option.some.inj e;exact Nat.le_trans hXs.out hXg⟩
theorem aWk (x:OV) (w:World) (hx:x.at_ w) (ok:OkO x) (hm:Ob.mayO x.b=true) (hk:x.ref.kind=5) :
  Calls Tryz.prog 13 #[oV x] w fun e w'=>∃ v',e=.returned v'∧Sl ER w' v' (Ob.refsO x.b)∧Below w.heap.size w w' :=
 (aUd x w hx ok hm hk).mono fun _ _ ⟨v,h1,h2,h3,_⟩=>⟨v,h1,h2,h3⟩
theorem aUe (x:OV) (w:World) (hx:x.at_ w) (ok:OkO x) (hm:Ob.mayO x.b=true) (hk:x.ref.kind=6) :
  Calls Tryz.prog 13 #[oV x] w fun e w'=>∃ v',e=.returned v'∧Sl ER w' v' (Ob.refsO x.b)∧Below w.heap.size w w'∧∀ g,v'.ownBlock=some g→w.heap.size≤g:=by
 obtain ⟨X,hX⟩:∃ z,z=w.alloc (.cells #[.int .i64 x.ref.kind,.string x.ref.space,.string x.ref.name,.bool x.good,x.vl,x.vp,.string x.cls,x.vi,x.vq,x.vh,x.vr,x.vf,x.vo] 32):=⟨_,rfl⟩
 have HB0:Hid (Below w.heap.size w (w.alloc (.cells #[.int .i64 x.ref.kind,.string x.ref.space,.string x.ref.name,.bool x.good,x.vl,x.vp,.string x.cls,x.vi,x.vq,x.vh,x.vr,x.vf,x.vo] 32))):=(Below.refl _ _).alloc (Nat.le_refl _) _
 have B1:Below w.heap.size w X:=by rw [hX];exact HB0.out
 have hXs:Hid (w.heap.size≤X.heap.size):=by unfold Hid;rw [hX];simp
 have K0:X.heap[w.heap.size]?=some (.cells #[.int .i64 x.ref.kind,.string x.ref.space,.string x.ref.name,.bool x.good,x.vl,x.vp,.string x.cls,x.vi,x.vq,x.vh,x.vr,x.vf,x.vo] 32):=by rw [hX];exact aA7 _ _
 have C1:=fun W (h:Below X.heap.size X W)=>hide (aDw x W (hx.below (bb2 B1 h)) ok)
 rw [hm] at C1
 have hs:=aGx hm
 obtain ⟨hl4,hl6,hlb⟩:=hs.2 hk
 have hlen:=aUb hl4 hl6 hlb
 have HE:Hid (Ob.refsO x.b=Ob.sortU ((Ob.rawRt x.b).map (Ob.near x.ref.space))):=by
  unfold Hid Ob.refsO Ob.rawO
  rw [show x.b.ref=x.ref from rfl,hm]
  simp [hk]
 have C2:=fun W (h:Below X.heap.size X W)=>hide (aO9 x W (hx.below (bb2 B1 h)) (by omega) (by omega) (fun r hr=>by have:=hlb r hr;omega))
 have hne:Ob.rawRt x.b≠[]:=by unfold Ob.rawRt;exact List.cons_ne_nil _ _
 have KC:=hide (fun W (h:Below X.heap.size X W)=>(⟨aA2 (aA0 K0 h) (i:=0) rfl,aA2 (aA0 K0 h) (i:=1) rfl,aA2 (aA0 K0 h) (i:=2) rfl,aA2 (aA0 K0 h) (i:=3) rfl,aA2 (aA0 K0 h) (i:=4) rfl,aA2 (aA0 K0 h) (i:=5) rfl,aA2 (aA0 K0 h) (i:=6) rfl,aA2 (aA0 K0 h) (i:=7) rfl,aA2 (aA0 K0 h) (i:=8) rfl,aA2 (aA0 K0 h) (i:=9) rfl,aA2 (aA0 K0 h) (i:=10) rfl,aA2 (aA0 K0 h) (i:=11) rfl,aA2 (aA0 K0 h) (i:=12) rfl⟩:W.cell? ⟨w.heap.size,0,none⟩=some (.int .i64 x.ref.kind)∧W.cell? ⟨w.heap.size,1,none⟩=some (.string x.ref.space)∧W.cell? ⟨w.heap.size,2,none⟩=some (.string x.ref.name)∧W.cell? ⟨w.heap.size,3,none⟩=some (.bool x.good)∧W.cell? ⟨w.heap.size,4,none⟩=some (x.vl)∧W.cell? ⟨w.heap.size,5,none⟩=some (x.vp)∧W.cell? ⟨w.heap.size,6,none⟩=some (.string x.cls)∧W.cell? ⟨w.heap.size,7,none⟩=some (x.vi)∧W.cell? ⟨w.heap.size,8,none⟩=some (x.vq)∧W.cell? ⟨w.heap.size,9,none⟩=some (x.vh)∧W.cell? ⟨w.heap.size,10,none⟩=some (x.vr)∧W.cell? ⟨w.heap.size,11,none⟩=some (x.vf)∧W.cell? ⟨w.heap.size,12,none⟩=some (x.vo)))
 have HB1:=hide B1
 clear hx K0 B1 ok hm hs
 generalize Ob.refsO x.b=R at *
 generalize Ob.rawRt x.b=L at *
 have HNE:=hide hne
 have HLL:=hide hlen
 clear hne hlen
 obtain ⟨⟨rk0,rs0,rn0⟩,gd0,lb0,al0,cl0,po0,ap0,cp0,cs0,ls0,ai0,ci0,pa0,aq0,cq0,ho0,ah0,ch0,ru0,ar0,cr0,fr0,af0,cf0,to0,ao0,co0⟩:=x
 dsimp only [oV,OV.vl,OV.vp,OV.vi,OV.vq,OV.vh,OV.vr,OV.vf,OV.vo] at *
 subst hk
 go_enter Tryz.func13,Tryz.ntmps13
 go_wp2_with fail
 rw [←hX]
 clear hX
 refine (C1 _ (Below.refl _ _)).out.mono ?_
 rintro e w1 ⟨rfl,hb1⟩
 obtain ⟨z0,z1,z2,z3,z4,z5,z6,z7,z8,z9,z10,z11,z12⟩:=KC.out w1 hb1
 go_wp2_with fail
 refine (C2 _ hb1).out.mono ?_
 rintro e w2 ⟨v2,rfl,⟨b,hbb,hown⟩,hb2⟩
 obtain ⟨g,cap,m,rfl,hbg,hlc,hcm,hrow⟩:=aAl.of_own (E:=ER) hown HNE.out
 have hXg:X.heap.size≤g:=Nat.le_trans hb1.size (Nat.le_trans hbb hbg)
 have HB2:=hide (bb2 hb1 hb2)
 have HROW:=hide hrow
 clear hown hrow hb1 hb2 hbb hbg C1 C2 z0 z1 z2 z3 z4 z5 z6 z7 z8 z9 z10 z11 z12
 generalize Value.agg #[.int .i64 6,.string rs0,.string rn0,.bool gd0,.slice al0 lb0.length cl0,.slice ap0 po0.length cp0,.string cs0,.slice ai0 ls0.length ci0,.slice aq0 pa0.length cq0,.slice ah0 ho0.length ch0,.slice ar0 ru0.length cr0,.slice af0 fr0.length cf0,.slice ao0 to0.length co0]=vv
 go_wp2_with fail
 go_loopw [22] (fun i wr=>∃ k:Nat,k≤L.length∧i=.int .i64 k∧aAl ER wr g 23 (aBu rs0 L k) m∧Below X.heap.size X wr) (fun i _=>L.length - (intOf i).toNat)
 case atStart=>exact ⟨0,Nat.zero_le _,rfl,by rw [aHs];exact HROW.out,HB2.out⟩
 case round =>
  clear HROW HB2
  obtain ⟨k,hk,rfl,hrow,hB⟩:=hrel
  have hl9:=HLL.out
  by_cases hlt:k<L.length
  ·have hlt':(k:Int)<(L.length:Int):=by omega
   have hkn:k<(aBu rs0 L k).length:=by rw [aG7];exact hlt
   have HC:=aCb hrow hkn
   rw [aL0 hlt] at HC
   obtain ⟨q0,q1,q2⟩:=HC
   have HST:=hide (fun (W:World) (h:aAl ER W g 23 (aBu rs0 L k) m)=>(show aAl ER _ g _ _ m from (by have:=h.store (i:=k) hkn (Ob.near rs0 L[k]);rw [aHt hlt] at this;exact this)))
   have CN:=fun W=>hide (aMy L[k] rs0 W)
   have HROW:=hide hrow
   clear hrow
   generalize L[k]=l at *
   generalize hnl:Ob.near rs0 l=nl at *
   clear hnl
   obtain ⟨k1,s1,n1⟩:=l
   obtain ⟨k2,s2,n2⟩:=nl
   dsimp only at *
   have ba:=(Below.refl wr.heap.size wr).alloc (Nat.le_refl _) (.cells #[.int .i64 k1,.string s1,.string n1] 23)
   obtain ⟨z0,z1,z2,z3,z4,z5,z6,z7,z8,z9,z10,z11,z12⟩:=KC.out _ (bb2 hB ba)
   clear z0 z2 z3 z4 z5 z6 z7 z8 z9 z10 z11 z12
   go_wp2_with fail
   refine (CN _).out.mono ?_
   rintro e w3 ⟨rfl,hb3⟩
   have hr3:=HROW.out.below (bb2 ba hb3)
   obtain ⟨p0,p1,p2⟩:=aCb hr3 hkn
   have lv:=fun i=>hr3.live i
   have HS:=hide (HST.out w3 hr3)
   have HB3:=hide (bb2 hB (bb2 ba hb3))
   clear z1 q0 q1 q2 hr3 ba hb3 HROW HST
   go_wp2_with fail
   exact ⟨⟨k+1,by omega,by go_num,HS.out,((HB3.out.setCell (p:=⟨g,k*3,none⟩) hXg _).setCell (p:=⟨g,k*3+1,none⟩) hXg _).setCell (p:=⟨g,k*3+2,none⟩) hXg _⟩,by simp [intOf];omega⟩
  ·have hlt':¬ (k:Int)<(L.length:Int):=by omega
   obtain rfl:k=L.length:=by omega
   rw [aJc] at hrow
   have hml:(L.map (Ob.near rs0)).length=L.length:=by simp
   have CS:=hide (aMx g 23 m cap (L.map (Ob.near rs0)) wr hrow (by rw [hml];exact hl9) (B:=X.heap.size) hXg)
   rw [hml] at CS
   have HLC:=hide hlc
   have HCM:=hide hcm
   clear hrow hml hlc hcm
   go_wp2_with fail
   refine CS.out.mono ?_
   rintro e w3 ⟨rfl,⟨D,hp,hs,hr3⟩,hb3⟩
   have hdl:D.length=L.length:=by rw [hp.length_eq];simp
   have CC:=hide (aHm g 23 m cap D w3 hr3 (by rw [hdl];exact HLC.out) HCM.out (B:=X.heap.size) hXg)
   have HRL:=hide (aL1 hp hs)
   have HDL:=hide hdl
   rw [hdl] at CC
   have HLE:Hid ((Ob.cmpTo D D.length).length≤D.length):=by
    obtain ⟨e0,w0⟩:True∧True:=⟨trivial,trivial⟩
    exact aN2 D
   clear hp hs hr3 hdl CS
   go_wp2_with fail
   refine CC.out.mono ?_
   rintro e w4 ⟨rfl,⟨D4,hr4,hl4,ht4⟩,hb4⟩
   have HF:Hid (Sl ER w4 (.slice (some ⟨g,0,none⟩) (Ob.cmpTo D L.length).length cap) R):=by
    unfold Hid
    have e1:Ob.cmpTo D L.length=R:=by rw [HE.out,←HRL.out,HDL.out]
    have h1:=HLE.out
    rw [HDL.out] at h1
    have:=hr4.sl (fun _ _=>trivial) (k:=(Ob.cmpTo D L.length).length) (cap:=cap) (by rw [hl4];exact h1) (Nat.le_trans h1 HLC.out) HCM.out
    rw [ht4] at this
    rw [e1] at this ⊢
    exact this
   clear hr4 hl4 ht4 CC
   go_wp2_with fail
   go_ret
   exact ⟨_,rfl,HF.out,(HB1.out).trans ((bb2' hB hb3 hb4).mono hXs.out),fun g' e=>by obtain rfl:g=g':=Option.some.inj e;exact Nat.le_trans hXs.out hXg⟩
theorem aWl (x:OV) (w:World) (hx:x.at_ w) (ok:OkO x) (hm:Ob.mayO x.b=true) (hk:x.ref.kind=6) :
  Calls Tryz.prog 13 #[oV x] w fun e w'=>∃ v',e=.returned v'∧Sl ER w' v' (Ob.refsO x.b)∧Below w.heap.size w w' :=
 (aUe x w hx ok hm hk).mono fun _ _ ⟨v,h1,h2,h3,_⟩=>⟨v,h1,h2,h3⟩
theorem aN3 (x:OV) (w:World) (hx:x.at_ w) (ok:OkO x) :
  Calls Tryz.prog 13 #[oV x] w fun e w'=>∃ v',e=.returned v'∧Sl ER w' v' (Ob.refsO x.b)∧Below w.heap.size w w':=by
 cases hm:Ob.mayO x.b
 ·exact refs_no x w hx ok hm
 ·by_cases h5:x.ref.kind=5
  ·exact aWk x w hx ok hm h5
  ·by_cases h6:x.ref.kind=6
   ·exact aWl x w hx ok hm h6
   ·exact aSk x w hx ok hm h5 h6
end Go.Proofs.YthfnjcbiiofkhaaGreatDoor
namespace Go.Proofs.YthfnjcbiiofkhaaGreatDoor
open Go Go.RowKit Go.Shelf
abbrev sWeb:ByteArray:=⟨#[119,101,98]⟩
abbrev sA:ByteArray:=⟨#[97]⟩
abbrev sGw:ByteArray:=⟨#[103,119]⟩
abbrev sApp:ByteArray:=⟨#[97,112,112]⟩
abbrev sApi:ByteArray:=⟨#[97,112,105]⟩
def aN4:OB:=⟨⟨6,sWeb,sA⟩,false,[],[],Ob.nil,[],[⟨Ob.nil,sGw,Ob.nil,0⟩],[],[⟨[],[],[⟨⟨3,sApp,sApi⟩,0,0⟩]⟩],[],[]⟩
def gwB:OB:=⟨⟨5,sWeb,sGw⟩,false,[],[],⟨#[99]⟩,[],[],[],[],[],[]⟩
def aLf:List RfB:=[⟨2,Ob.nil,sWeb⟩,⟨3,sApp,sApi⟩,⟨5,sWeb,sGw⟩]
set_option maxRecDepth 20000 in
theorem aXu:Ob.mayO gwB=false:=by decide +kernel
set_option maxRecDepth 20000 in
theorem aQb:Ob.eqL Ob.eqR (Ob.refsO aN4) aLf=true:=by decide +kernel
set_option maxRecDepth 20000 in
theorem aSl:Ob.mayRef ⟨6,sWeb,sA⟩=true:=by decide +kernel
theorem aQc:aJa ⟨6,sWeb,sA⟩=⟨#[54,32,119,101,98,47,97]⟩:=rfl
def aCr (n:Nat):OV:=⟨⟨6,sWeb,sA⟩,false,[],none,0,[],none,0,Ob.nil,[],none,0,[⟨Ob.nil,sGw,Ob.nil,0⟩],some ⟨n+1,0,none⟩,1,[],none,0,[⟨[],none,0,[],none,0,[⟨⟨3,sApp,sApi⟩,0,0⟩],some ⟨n+1+1,0,none⟩,1⟩],some ⟨n+1+1+1,0,none⟩,1,[],none,0,[],none,0⟩
theorem aSm (n:Nat):OkO (aCr n):=by
 refine ⟨⟨by show (3:Nat)≤100;decide,by show (1:Nat)≤100;decide⟩,fun p hp=>?_,by show (0:Nat)≤100;decide,fun l hl=>?_,fun p hp=>?_,fun s hs=>?_,fun r hr=>?_,fun r hr=>?_,fun r hr=>?_⟩
 ·exact absurd hp (by simp [aCr])
 ·exact absurd hl (by simp [aCr])
 ·simp only [aCr,List.mem_singleton] at hp
  subst hp
  exact ⟨by decide,by decide,by decide⟩
 ·exact absurd hs (by simp [aCr])
 ·simp only [aCr,List.mem_singleton] at hr
  subst hr
  refine ⟨fun m hm=>absurd hm (by simp),fun f hf=>absurd hf (by simp),by simp,fun b hb=>?_⟩
  simp only [List.mem_singleton] at hb
  subst hb
  exact ⟨by decide,by decide⟩
 ·exact absurd hr (by simp [aCr])
 ·exact absurd hr (by simp [aCr])
abbrev aEw (n:Nat):Array Value:=#[.int .i64 6,.string sWeb,.string sA,.bool false,.slice none 0 0,.slice none 0 0,.string ⟨#[]⟩,.slice none 0 0,.slice (some ⟨n+1,0,none⟩) 1 1,.slice none 0 0,.slice (some ⟨n+1+1+1,0,none⟩) 1 1,.slice none 0 0,.slice none 0 0]
abbrev aE4 (w:World):World:=(((w.alloc (.cells (aEw w.heap.size) 32)).alloc (.cells #[.string ⟨#[]⟩,.string sGw,.string ⟨#[]⟩,.int .i64 0] 41)).alloc (.cells #[.int .i64 3,.string sApp,.string sApi,.int .i64 0,.int .i64 0] 48)).alloc (.cells #[.slice none 0 0,.slice none 0 0,.slice (some ⟨w.heap.size+1+1,0,none⟩) 1 1] 46)
theorem aEp {w:World} {n:Nat} {o o':Obj} (h:w.heap[n]?=some o):(w.alloc o').heap[n]?=some o:=(Below.heap_alloc _ _ _ (aAn h)).trans h
theorem aI6 {w:World} {n:Nat} (o:Obj) (h:w.heap.size=n):(w.alloc o).heap[n]?=some o:=by subst h;exact aA7 w o
theorem aSn (w:World):(aCr w.heap.size).at_ (aE4 w):=by
 have h1:(aE4 w).heap[w.heap.size+1]?=some (.cells #[.string ⟨#[]⟩,.string sGw,.string ⟨#[]⟩,.int .i64 0] 41):=aEp (aEp (aI6 _ (by simp)))
 have h2:(aE4 w).heap[w.heap.size+1+1]?=some (.cells #[.int .i64 3,.string sApp,.string sApi,.int .i64 0,.int .i64 0] 48):=aEp (aI6 _ (by simp))
 have h3:(aE4 w).heap[w.heap.size+1+1+1]?=some (.cells #[.slice none 0 0,.slice none 0 0,.slice (some ⟨w.heap.size+1+1,0,none⟩) 1 1] 46):=aI6 _ (by simp)
 exact ⟨Prs.nil _,Sl.nil _,Sl.nil _,Sl.at_block (E:=EPt) (x:=⟨Ob.nil,sGw,Ob.nil,0⟩) h1 trivial,Sl.nil _,Sl.at_block (E:=ERl) (x:=⟨[],none,0,[],none,0,[⟨⟨3,sApp,sApi⟩,0,0⟩],some ⟨w.heap.size+1+1,0,none⟩,1⟩) h3 ⟨Sl.nil _,Sl.nil _,Sl.at_block (E:=EK) (x:=⟨⟨3,sApp,sApi⟩,0,0⟩) h2 trivial⟩,Sl.nil _,Sl.nil _⟩
theorem aOb (w:World):Below w.heap.size w (aE4 w):=((((Below.refl _ _).alloc (Nat.le_refl _) _).alloc (by simp) _).alloc (by simp;omega) _).alloc (by simp;omega) _
theorem aB4 (w:World):(aE4 w).heap[w.heap.size]?=some (.cells (aEw w.heap.size) 32):=aEp (aEp (aEp (aA7 w _)))
theorem aSo (w:World) :
  Calls Tryz.prog 44 #[] w fun e w'=>e=.returned (.agg (aEw w.heap.size))∧(aCr w.heap.size).at_ w'∧Below w.heap.size w w':=by
 have HA:=hide (aSn w)
 have HB:=hide (aOb w)
 obtain ⟨e0,e1,e2,e3,e4,e5,e6,e7,e8,e9,e10,e11,e12⟩:_∧_∧_∧_∧_∧_∧_∧_∧_∧_∧_∧_∧_:=⟨aA2 (aB4 w) (i:=0) rfl,aA2 (aB4 w) (i:=1) rfl,aA2 (aB4 w) (i:=2) rfl,aA2 (aB4 w) (i:=3) rfl,aA2 (aB4 w) (i:=4) rfl,aA2 (aB4 w) (i:=5) rfl,aA2 (aB4 w) (i:=6) rfl,aA2 (aB4 w) (i:=7) rfl,aA2 (aB4 w) (i:=8) rfl,aA2 (aB4 w) (i:=9) rfl,aA2 (aB4 w) (i:=10) rfl,aA2 (aB4 w) (i:=11) rfl,aA2 (aB4 w) (i:=12) rfl⟩
 have HE:=hide (⟨e0,e1,e2,e3,e4,e5,e6,e7,e8,e9,e10,e11,e12⟩:_∧_∧_∧_∧_∧_∧_∧_∧_∧_∧_∧_∧_)
 clear e0 e1 e2 e3 e4 e5 e6 e7 e8 e9 e10 e11 e12
 go_enter Tryz.func44,Tryz.ntmps44
 go_wp2_with fail
 change bodyPost _ _ _ _ _ (aE4 w)
 generalize aE4 w=W9 at *
 obtain ⟨e0,e1,e2,e3,e4,e5,e6,e7,e8,e9,e10,e11,e12⟩:=HE.out
 exact bodyPost_ret (v:=.agg (aEw w.heap.size)) (by simp [results,Tryz.f44,go_sem,e0,e1,e2,e3,e4,e5,e6,e7,e8,e9,e10,e11,e12]) rfl ⟨rfl,HA.out,HB.out⟩
abbrev gwV:OV:=⟨⟨5,sWeb,sGw⟩,false,[],none,0,[],none,0,⟨#[99]⟩,[],none,0,[],none,0,[],none,0,[],none,0,[],none,0,[],none,0⟩
theorem aXv (w:World):gwV.at_ w:=⟨Prs.nil w,Sl.nil w,Sl.nil w,Sl.nil w,Sl.nil w,Sl.nil w,Sl.nil w,Sl.nil w⟩
theorem aXw:OkO gwV:=⟨⟨by decide,by decide⟩,fun p hp=>absurd hp (by simp),by decide,fun p hp=>absurd hp (by simp),fun p hp=>absurd hp (by simp),fun p hp=>absurd hp (by simp),fun p hp=>absurd hp (by simp),fun p hp=>absurd hp (by simp),fun p hp=>absurd hp (by simp)⟩
abbrev aQd:Array Value:=#[.int .i64 2,.string ⟨#[]⟩,.string sWeb,.int .i64 3,.string sApp,.string sApi,.int .i64 5,.string sWeb,.string sGw]
theorem aWm (w:World):Sl ER (w.alloc (.cells aQd 23)) (.slice (some ⟨w.heap.size,0,none⟩) 3 3) aLf :=
 Sl.lit (E:=ER) w 23 aLf aQd rfl 3 w.heap.size rfl rfl (by decide) (fun _ _=>trivial)
theorem aJd (w:World):Calls Tryz.prog 11 #[] w fun e w'=>e=.returned (.bool true)∧Below w.heap.size w w':=by
 have CR:=fun W=>hide (aSo W)
 have CT:=fun W=>hide (aU5 ⟨6,sWeb,sA⟩ W ⟨by decide,by decide⟩ aSl)
 rw [aQc] at CT
 have CM:=fun W=>hide (aDw gwV W (aXv W) aXw)
 have hgw:Ob.mayO gwV.b=false:=aXu
 rw [hgw] at CM
 have CF:=fun n W (h:(aCr n).at_ W)=>hide (show Calls Tryz.prog 13 #[.agg (aEw n)] W fun e w'=>∃ v',e=.returned v'∧Sl ER w' v' (Ob.refsO aN4)∧Below W.heap.size W w' from aN3 (aCr n) W h (aSm n))
 have CS:=fun W va vb (ha:Sl ER W va (Ob.refsO aN4)) (hb:Sl ER W vb aLf)=>hide (aGv W va vb _ _ ha hb)
 rw [aQb] at CS
 have HF:∀ (n:Nat) (W:World),(Instr.field 32 (.agg (aEw n)) 0).run Tryz.prog W=.ok (rfV ⟨6,sWeb,sA⟩) W:=fun n W=>by
  unfold Instr.field
  simp only [Sem.run_bind,run_underlying Tryz.underlying32,Result.andThen_ok]
  rfl
 dsimp only [aEw] at CR CF HF
 go_enter Tryz.func11,Tryz.ntmps11
 go_wp2_with fail
 refine (CR _).out.mono ?_
 rintro e w1 ⟨rfl,_,hb1⟩
 go_wp2_with fail
 refine (CT _).out.mono ?_
 rintro e w2 ⟨rfl,hb2⟩
 have HW:=hide (aWm w2)
 have BW:=hide ((Below.refl _ w2).alloc (Nat.le_refl _) (.cells aQd 23))
 go_wp2_with fail
 refine (CM _).out.mono ?_
 rintro e w3 ⟨rfl,hb3⟩
 go_wp2_with fail
 refine (CR _).out.mono ?_
 rintro e w4 ⟨rfl,ha4,hb4⟩
 go_wp2_with fail
 refine (CF _ _ ha4).out.mono ?_
 rintro e w5 ⟨v5,rfl,hs5,hb5⟩
 go_wp2_with fail
 refine (CS _ _ _ hs5 (HW.out.below (bb2 hb3 (bb2 hb4 hb5)))).out.mono ?_
 rintro e w6 ⟨rfl,hb6⟩
 go_wp2_with fail
 go_ret
 exact ⟨rfl,bb2 hb1 (bb2 hb2 (bb2 BW.out (bb2 hb3 (bb2 hb4 (bb2 hb5 hb6)))))⟩
end Go.Proofs.YthfnjcbiiofkhaaGreatDoor
