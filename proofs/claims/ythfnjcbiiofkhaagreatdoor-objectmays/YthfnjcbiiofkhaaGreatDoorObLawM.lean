/-
  The law ObjectMays.
-/
import Derived.Test.YthfnjcbiiofkhaaGreatDoorJ26
import Derived.Test.YthfnjcbiiofkhaaGreatDoorObFewC
import Derived.Test.YthfnjcbiiofkhaaGreatDoorJ17
import Derived.Test.YthfnjcbiiofkhaaGreatDoorJ18
import Derived.Test.YthfnjcbiiofkhaaGreatDoorJ16
import Derived.BigQuiet
set_option maxHeartbeats 12800000
set_option linter.unusedVariables false
set_option linter.unusedSimpArgs false
set_option maxRecDepth 20000
namespace Go.Proofs.YthfnjcbiiofkhaaGreatDoor
open Go Go.RowKit Go.Shelf
attribute [local go_sem] aAr
theorem aUr (x u:OV) (w:World) (hx:x.at_ w) (rawx:RawO x) (hu:u.at_ w) (rawu:RawO u) (m s:Bool) (hm0:Ob.mayO (fewO x.b)=m) (hs0:Ob.sameO (fewO x.b) (fewO u.b)=s) :
  Calls Tryz.prog 3 #[oV x,oV u] w fun e w'=>e=.returned (.bool true)∧Below w.heap.size w w':=by
 have HM0:=hide hm0
 have HS0:=hide hs0
 clear hm0 hs0
 have C0:=fun W (h:Below w.heap.size w W)=>hide (aI8 x W (hx.below h) rawx)
 have C1:=fun W (h:Below w.heap.size w W)=>hide (aI8 u W (hu.below h) rawu)
 obtain ⟨X,hX⟩:∃ z,z=(w.alloc (.cells #[.int .i64 x.ref.kind,.string x.ref.space,.string x.ref.name,.bool x.good,.slice x.al x.labels.length x.cl,.slice x.ap x.ports.length x.cp,.string x.cls,.slice x.ai x.lis.length x.ci,.slice x.aq x.pars.length x.cq,.slice x.ah x.hosts.length x.ch,.slice x.ar x.rules.length x.cr,.slice x.af x.frm.length x.cf,.slice x.ao x.tos.length x.co] 32)).alloc (.cells #[.int .i64 u.ref.kind,.string u.ref.space,.string u.ref.name,.bool u.good,.slice u.al u.labels.length u.cl,.slice u.ap u.ports.length u.cp,.string u.cls,.slice u.ai u.lis.length u.ci,.slice u.aq u.pars.length u.cq,.slice u.ah u.hosts.length u.ch,.slice u.ar u.rules.length u.cr,.slice u.af u.frm.length u.cf,.slice u.ao u.tos.length u.co] 32):=⟨_,rfl⟩
 have B1:Below w.heap.size w X:=by rw [hX];exact ((Below.refl _ _).alloc (Nat.le_refl _) _).alloc (by simp) _
 have K0:X.heap[w.heap.size]?=some (.cells #[.int .i64 x.ref.kind,.string x.ref.space,.string x.ref.name,.bool x.good,.slice x.al x.labels.length x.cl,.slice x.ap x.ports.length x.cp,.string x.cls,.slice x.ai x.lis.length x.ci,.slice x.aq x.pars.length x.cq,.slice x.ah x.hosts.length x.ch,.slice x.ar x.rules.length x.cr,.slice x.af x.frm.length x.cf,.slice x.ao x.tos.length x.co] 32):=by rw [hX];exact aA0 (aA7 w _) ((Below.refl _ _).alloc (Nat.le_refl _) _)
 have K1:X.heap[w.heap.size+1]?=some (.cells #[.int .i64 u.ref.kind,.string u.ref.space,.string u.ref.name,.bool u.good,.slice u.al u.labels.length u.cl,.slice u.ap u.ports.length u.cp,.string u.cls,.slice u.ai u.lis.length u.ci,.slice u.aq u.pars.length u.cq,.slice u.ah u.hosts.length u.ch,.slice u.ar u.rules.length u.cr,.slice u.af u.frm.length u.cf,.slice u.ao u.tos.length u.co] 32):=by
  rw [hX]
  have:=aA7 (w.alloc (.cells #[.int .i64 x.ref.kind,.string x.ref.space,.string x.ref.name,.bool x.good,.slice x.al x.labels.length x.cl,.slice x.ap x.ports.length x.cp,.string x.cls,.slice x.ai x.lis.length x.ci,.slice x.aq x.pars.length x.cq,.slice x.ah x.hosts.length x.ch,.slice x.ar x.rules.length x.cr,.slice x.af x.frm.length x.cf,.slice x.ao x.tos.length x.co] 32)) (.cells #[.int .i64 u.ref.kind,.string u.ref.space,.string u.ref.name,.bool u.good,.slice u.al u.labels.length u.cl,.slice u.ap u.ports.length u.cp,.string u.cls,.slice u.ai u.lis.length u.ci,.slice u.aq u.pars.length u.cq,.slice u.ah u.hosts.length u.ch,.slice u.ar u.rules.length u.cr,.slice u.af u.frm.length u.cf,.slice u.ao u.tos.length u.co] 32)
  simpa using this
 have HK0:=hide K0
 have HK1:=hide K1
 have HB1:=hide B1
 have m0:=fun W (h:Below X.heap.size X W)=>aA2 (aA0 K0 h) (i:=0) rfl
 have m1:=fun W (h:Below X.heap.size X W)=>aA2 (aA0 K0 h) (i:=1) rfl
 have m2:=fun W (h:Below X.heap.size X W)=>aA2 (aA0 K0 h) (i:=2) rfl
 have m3:=fun W (h:Below X.heap.size X W)=>aA2 (aA0 K0 h) (i:=3) rfl
 have m4:=fun W (h:Below X.heap.size X W)=>aA2 (aA0 K0 h) (i:=4) rfl
 have m5:=fun W (h:Below X.heap.size X W)=>aA2 (aA0 K0 h) (i:=5) rfl
 have m6:=fun W (h:Below X.heap.size X W)=>aA2 (aA0 K0 h) (i:=6) rfl
 have m7:=fun W (h:Below X.heap.size X W)=>aA2 (aA0 K0 h) (i:=7) rfl
 have m8:=fun W (h:Below X.heap.size X W)=>aA2 (aA0 K0 h) (i:=8) rfl
 have m9:=fun W (h:Below X.heap.size X W)=>aA2 (aA0 K0 h) (i:=9) rfl
 have m10:=fun W (h:Below X.heap.size X W)=>aA2 (aA0 K0 h) (i:=10) rfl
 have m11:=fun W (h:Below X.heap.size X W)=>aA2 (aA0 K0 h) (i:=11) rfl
 have m12:=fun W (h:Below X.heap.size X W)=>aA2 (aA0 K0 h) (i:=12) rfl
 have n0:=fun W (h:Below X.heap.size X W)=>aA2 (aA0 K1 h) (i:=0) rfl
 have n1:=fun W (h:Below X.heap.size X W)=>aA2 (aA0 K1 h) (i:=1) rfl
 have n2:=fun W (h:Below X.heap.size X W)=>aA2 (aA0 K1 h) (i:=2) rfl
 have n3:=fun W (h:Below X.heap.size X W)=>aA2 (aA0 K1 h) (i:=3) rfl
 have n4:=fun W (h:Below X.heap.size X W)=>aA2 (aA0 K1 h) (i:=4) rfl
 have n5:=fun W (h:Below X.heap.size X W)=>aA2 (aA0 K1 h) (i:=5) rfl
 have n6:=fun W (h:Below X.heap.size X W)=>aA2 (aA0 K1 h) (i:=6) rfl
 have n7:=fun W (h:Below X.heap.size X W)=>aA2 (aA0 K1 h) (i:=7) rfl
 have n8:=fun W (h:Below X.heap.size X W)=>aA2 (aA0 K1 h) (i:=8) rfl
 have n9:=fun W (h:Below X.heap.size X W)=>aA2 (aA0 K1 h) (i:=9) rfl
 have n10:=fun W (h:Below X.heap.size X W)=>aA2 (aA0 K1 h) (i:=10) rfl
 have n11:=fun W (h:Below X.heap.size X W)=>aA2 (aA0 K1 h) (i:=11) rfl
 have n12:=fun W (h:Below X.heap.size X W)=>aA2 (aA0 K1 h) (i:=12) rfl
 clear hx hu rawx rawu K0 K1 B1
 go_enter Tryz.func3,Tryz.ntmps3
 go_wp2_with fail
 rw [←hX]
 clear hX
 refine aB3 4 (fun W=>Below X.heap.size X W) (by kernel_rfl) ((Below.refl _ _).drew) ?_
 refine zzG 0 5 (.agg #[.int .i64 x.ref.kind,.string x.ref.space,.string x.ref.name,.bool x.good,.slice x.al x.labels.length x.cl,.slice x.ap x.ports.length x.cp,.string x.cls,.slice x.ai x.lis.length x.ci,.slice x.aq x.pars.length x.cq,.slice x.ah x.hosts.length x.ch,.slice x.ar x.rules.length x.cr,.slice x.af x.frm.length x.cf,.slice x.ao x.tos.length x.co]) rfl (by kernel_rfl) (fun _ _ _ h=>h) (by rfl) (fun w1 hS=>?_) ?_
 ·(try dsimp only at hS)
  go_simp
 simp only [Act.put,zzB,zzC,zzD]
 refine zzG 2 5 (.agg #[.int .i64 u.ref.kind,.string u.ref.space,.string u.ref.name,.bool u.good,.slice u.al u.labels.length u.cl,.slice u.ap u.ports.length u.cp,.string u.cls,.slice u.ai u.lis.length u.ci,.slice u.aq u.pars.length u.cq,.slice u.ah u.hosts.length u.ch,.slice u.ar u.rules.length u.cr,.slice u.af u.frm.length u.cf,.slice u.ao u.tos.length u.co]) rfl (by kernel_rfl) (fun _ _ _ h=>h) (by rfl) (fun w1 hS=>?_) ?_
 ·(try dsimp only at hS)
  go_simp
 simp only [Act.put,zzB,zzC,zzD]
 clear m0 n0 m1 n1 m2 n2 m3 n3 m4 n4 m5 n5 m6 n6 m7 n7 m8 n8 m9 n9 m10 n10 m11 n11 m12 n12
 refine aAe (rs:=[1]) (by kernel_rfl) (by simp) (fun W1 hG1 hS1 i hi=>?_)
 obtain rfl:i=1:=by simpa using hi
 clear hi
 refine aAb rfl (by rfl) (fun K' hK'=>?_)
 replace hK':=hide hK'
 go_simp
 refine (C0 _ (HB1.out.trans (hS1.mono HB1.out.size))).out.mono ?_
 rintro e w2 ⟨y,rfl,hy,owny,hb2⟩
 have HY:=hide (aK0 hy)
 have BK0:=hS1.trans (hb2.mono hS1.size)
 go_wp2_with fail
 refine hK'.out _ _ (aAp (by decide) BK0 ?_)
 have HM1:Hid (Ob.mayO y.b=m):=hide (by rw [hy];exact HM0.out)
 have HYB:=hide hy
 clear hK' K' hG1 hb2 BK0 hS1 hy HM0
 refine aAe (rs:=[3]) (by kernel_rfl) (by simp) (fun W3 hG3 hS3 i hi=>?_)
 obtain rfl:i=3:=by simpa using hi
 clear hi
 refine aAb rfl (by rfl) (fun K' hK'=>?_)
 replace hK':=hide hK'
 go_simp
 refine (C1 _ (HB1.out.trans (hS3.mono HB1.out.size))).out.mono ?_
 rintro e w4 ⟨z,rfl,hz,ownz,hb4⟩
 have HZ:=hide (aK0 hz)
 replace owny:=(owny.below hG3).below hb4
 have BK1:=hS3.trans (hb4.mono hS3.size)
 go_wp2_with fail
 refine hK'.out _ _ (aAp (by decide) BK1 ?_)
 have HS1:Hid (Ob.sameO y.b z.b=s):=hide (by rw [HYB.out,hz];exact HS0.out)
 clear hK' K' hG3 hb4 BK1 hS3 hz HS0 HYB
 refine aAe (rs:=[4]) (by kernel_rfl) (by simp) (fun W hG hS i hi=>?_)
 obtain rfl:i=4:=by simpa using hi
 clear hi
 replace owny:=owny.below hG
 replace ownz:=ownz.below hG
 have ka:=aA0 HK0.out hS
 have kb:=aA0 HK1.out hS
 have BZ:=HB1.out.trans (hS.mono HB1.out.size)
 clear hG hS C0 C1 HK0 HK1 HB1
 have lz:=aBg ka
 obtain ⟨o0,o1,o2,o3,o4,o5,o6,o7,o8,o9,o10,o11,o12⟩:_∧_∧_∧_∧_∧_∧_∧_∧_∧_∧_∧_∧_:=⟨aA2 ka (i:=0) rfl,aA2 ka (i:=1) rfl,aA2 ka (i:=2) rfl,aA2 ka (i:=3) rfl,aA2 ka (i:=4) rfl,aA2 ka (i:=5) rfl,aA2 ka (i:=6) rfl,aA2 ka (i:=7) rfl,aA2 ka (i:=8) rfl,aA2 ka (i:=9) rfl,aA2 ka (i:=10) rfl,aA2 ka (i:=11) rfl,aA2 ka (i:=12) rfl⟩
 refine aAb rfl (by rfl) (fun K' hK'=>?_)
 go_simp
 refine hK' _ _ (aBp (by decide) ?_)
 clear hK' K' lz o0 o1 o2 o3 o4 o5 o6 o7 o8 o9 o10 o11 o12
 change wpAny _ _ _ _ _ _ _ (setL W w.heap.size 0 [.int .i64 y.ref.kind,.string y.ref.space,.string y.ref.name,.bool y.good,.slice y.al y.labels.length y.cl,.slice y.ap y.ports.length y.cp,.string y.cls,.slice y.ai y.lis.length y.ci,.slice y.aq y.pars.length y.cq,.slice y.ah y.hosts.length y.ch,.slice y.ar y.rules.length y.cr,.slice y.af y.frm.length y.cf,.slice y.ao y.tos.length y.co])
 have k2:=aC2 [.int .i64 y.ref.kind,.string y.ref.space,.string y.ref.name,.bool y.good,.slice y.al y.labels.length y.cl,.slice y.ap y.ports.length y.cp,.string y.cls,.slice y.ai y.lis.length y.ci,.slice y.aq y.pars.length y.cq,.slice y.ah y.hosts.length y.ch,.slice y.ar y.rules.length y.cr,.slice y.af y.frm.length y.cf,.slice y.ao y.tos.length y.co] ka rfl
 have q2:=(aCc (show w.heap.size+1≠w.heap.size by omega) [.int .i64 y.ref.kind,.string y.ref.space,.string y.ref.name,.bool y.good,.slice y.al y.labels.length y.cl,.slice y.ap y.ports.length y.cp,.string y.cls,.slice y.ai y.lis.length y.ci,.slice y.aq y.pars.length y.cq,.slice y.ah y.hosts.length y.ch,.slice y.ar y.rules.length y.cr,.slice y.af y.frm.length y.cf,.slice y.ao y.tos.length y.co] W 0).trans kb
 replace owny:=owny.bx ((BX.refl w.heap.size W.heap.size W).setL 0 [.int .i64 y.ref.kind,.string y.ref.space,.string y.ref.name,.bool y.good,.slice y.al y.labels.length y.cl,.slice y.ap y.ports.length y.cp,.string y.cls,.slice y.ai y.lis.length y.ci,.slice y.aq y.pars.length y.cq,.slice y.ah y.hosts.length y.ch,.slice y.ar y.rules.length y.cr,.slice y.af y.frm.length y.cf,.slice y.ao y.tos.length y.co]) ka
 replace ownz:=ownz.bx ((BX.refl w.heap.size W.heap.size W).setL 0 [.int .i64 y.ref.kind,.string y.ref.space,.string y.ref.name,.bool y.good,.slice y.al y.labels.length y.cl,.slice y.ap y.ports.length y.cp,.string y.cls,.slice y.ai y.lis.length y.ci,.slice y.aq y.pars.length y.cq,.slice y.ah y.hosts.length y.ch,.slice y.ar y.rules.length y.cr,.slice y.af y.frm.length y.cf,.slice y.ao y.tos.length y.co]) ka
 have BZ2:=aB7 (w:=w) (B:=w.heap.size) (g:=w.heap.size) (Nat.le_refl _) [.int .i64 y.ref.kind,.string y.ref.space,.string y.ref.name,.bool y.good,.slice y.al y.labels.length y.cl,.slice y.ap y.ports.length y.cp,.string y.cls,.slice y.ai y.lis.length y.ci,.slice y.aq y.pars.length y.cq,.slice y.ah y.hosts.length y.ch,.slice y.ar y.rules.length y.cr,.slice y.af y.frm.length y.cf,.slice y.ao y.tos.length y.co] W 0 BZ
 clear ka kb BZ
 generalize setL W w.heap.size 0 [.int .i64 y.ref.kind,.string y.ref.space,.string y.ref.name,.bool y.good,.slice y.al y.labels.length y.cl,.slice y.ap y.ports.length y.cp,.string y.cls,.slice y.ai y.lis.length y.ci,.slice y.aq y.pars.length y.cq,.slice y.ah y.hosts.length y.ch,.slice y.ar y.rules.length y.cr,.slice y.af y.frm.length y.cf,.slice y.ao y.tos.length y.co]=V at *
 refine aCv (i:=5) (by kernel_rfl) ?_
 have lz:=aBg q2
 obtain ⟨o0,o1,o2,o3,o4,o5,o6,o7,o8,o9,o10,o11,o12⟩:_∧_∧_∧_∧_∧_∧_∧_∧_∧_∧_∧_∧_:=⟨aA2 q2 (i:=0) rfl,aA2 q2 (i:=1) rfl,aA2 q2 (i:=2) rfl,aA2 q2 (i:=3) rfl,aA2 q2 (i:=4) rfl,aA2 q2 (i:=5) rfl,aA2 q2 (i:=6) rfl,aA2 q2 (i:=7) rfl,aA2 q2 (i:=8) rfl,aA2 q2 (i:=9) rfl,aA2 q2 (i:=10) rfl,aA2 q2 (i:=11) rfl,aA2 q2 (i:=12) rfl⟩
 refine aAb rfl (by rfl) (fun K' hK'=>?_)
 go_simp
 refine hK' _ _ ?_
 clear hK' K' lz o0 o1 o2 o3 o4 o5 o6 o7 o8 o9 o10 o11 o12
 change wpAny _ _ _ _ _ _ _ (setL V (w.heap.size+1) 0 [.int .i64 z.ref.kind,.string z.ref.space,.string z.ref.name,.bool z.good,.slice z.al z.labels.length z.cl,.slice z.ap z.ports.length z.cp,.string z.cls,.slice z.ai z.lis.length z.ci,.slice z.aq z.pars.length z.cq,.slice z.ah z.hosts.length z.ch,.slice z.ar z.rules.length z.cr,.slice z.af z.frm.length z.cf,.slice z.ao z.tos.length z.co])
 have k3:=aC2 [.int .i64 z.ref.kind,.string z.ref.space,.string z.ref.name,.bool z.good,.slice z.al z.labels.length z.cl,.slice z.ap z.ports.length z.cp,.string z.cls,.slice z.ai z.lis.length z.ci,.slice z.aq z.pars.length z.cq,.slice z.ah z.hosts.length z.ch,.slice z.ar z.rules.length z.cr,.slice z.af z.frm.length z.cf,.slice z.ao z.tos.length z.co] q2 rfl
 have q3:=(aCc (show w.heap.size≠w.heap.size+1 by omega) [.int .i64 z.ref.kind,.string z.ref.space,.string z.ref.name,.bool z.good,.slice z.al z.labels.length z.cl,.slice z.ap z.ports.length z.cp,.string z.cls,.slice z.ai z.lis.length z.ci,.slice z.aq z.pars.length z.cq,.slice z.ah z.hosts.length z.ch,.slice z.ar z.rules.length z.cr,.slice z.af z.frm.length z.cf,.slice z.ao z.tos.length z.co] V 0).trans k2
 replace owny:=owny.bx ((BX.refl (w.heap.size+1) V.heap.size V).setL 0 [.int .i64 z.ref.kind,.string z.ref.space,.string z.ref.name,.bool z.good,.slice z.al z.labels.length z.cl,.slice z.ap z.ports.length z.cp,.string z.cls,.slice z.ai z.lis.length z.ci,.slice z.aq z.pars.length z.cq,.slice z.ah z.hosts.length z.ch,.slice z.ar z.rules.length z.cr,.slice z.af z.frm.length z.cf,.slice z.ao z.tos.length z.co]) q2
 replace ownz:=ownz.bx ((BX.refl (w.heap.size+1) V.heap.size V).setL 0 [.int .i64 z.ref.kind,.string z.ref.space,.string z.ref.name,.bool z.good,.slice z.al z.labels.length z.cl,.slice z.ap z.ports.length z.cp,.string z.cls,.slice z.ai z.lis.length z.ci,.slice z.aq z.pars.length z.cq,.slice z.ah z.hosts.length z.ch,.slice z.ar z.rules.length z.cr,.slice z.af z.frm.length z.cf,.slice z.ao z.tos.length z.co]) q2
 have BZ3:=aB7 (w:=w) (B:=w.heap.size) (g:=w.heap.size+1) (Nat.le_succ _) [.int .i64 z.ref.kind,.string z.ref.space,.string z.ref.name,.bool z.good,.slice z.al z.labels.length z.cl,.slice z.ap z.ports.length z.cp,.string z.cls,.slice z.ai z.lis.length z.ci,.slice z.aq z.pars.length z.cq,.slice z.ah z.hosts.length z.ch,.slice z.ar z.rules.length z.cr,.slice z.af z.frm.length z.cf,.slice z.ao z.tos.length z.co] V 0 BZ2
 clear k2 q2 BZ2
 generalize setL V (w.heap.size+1) 0 [.int .i64 z.ref.kind,.string z.ref.space,.string z.ref.name,.bool z.good,.slice z.al z.labels.length z.cl,.slice z.ap z.ports.length z.cp,.string z.cls,.slice z.ai z.lis.length z.ci,.slice z.aq z.pars.length z.cq,.slice z.ah z.hosts.length z.ch,.slice z.ar z.rules.length z.cr,.slice z.af z.frm.length z.cf,.slice z.ao z.tos.length z.co]=V2 at *
 refine aBd (by kernel_rfl) ?_
 have a0:=fun q:GB V2=>aA2 (aA0 q3 q.h) (i:=0) rfl
 have a1:=fun q:GB V2=>aA2 (aA0 q3 q.h) (i:=1) rfl
 have a2:=fun q:GB V2=>aA2 (aA0 q3 q.h) (i:=2) rfl
 have a3:=fun q:GB V2=>aA2 (aA0 q3 q.h) (i:=3) rfl
 have a4:=fun q:GB V2=>aA2 (aA0 q3 q.h) (i:=4) rfl
 have a5:=fun q:GB V2=>aA2 (aA0 q3 q.h) (i:=5) rfl
 have a6:=fun q:GB V2=>aA2 (aA0 q3 q.h) (i:=6) rfl
 have a7:=fun q:GB V2=>aA2 (aA0 q3 q.h) (i:=7) rfl
 have a8:=fun q:GB V2=>aA2 (aA0 q3 q.h) (i:=8) rfl
 have a9:=fun q:GB V2=>aA2 (aA0 q3 q.h) (i:=9) rfl
 have a10:=fun q:GB V2=>aA2 (aA0 q3 q.h) (i:=10) rfl
 have a11:=fun q:GB V2=>aA2 (aA0 q3 q.h) (i:=11) rfl
 have a12:=fun q:GB V2=>aA2 (aA0 q3 q.h) (i:=12) rfl
 have b0:=fun q:GB V2=>aA2 (aA0 k3 q.h) (i:=0) rfl
 have b1:=fun q:GB V2=>aA2 (aA0 k3 q.h) (i:=1) rfl
 have b2:=fun q:GB V2=>aA2 (aA0 k3 q.h) (i:=2) rfl
 have b3:=fun q:GB V2=>aA2 (aA0 k3 q.h) (i:=3) rfl
 have b4:=fun q:GB V2=>aA2 (aA0 k3 q.h) (i:=4) rfl
 have b5:=fun q:GB V2=>aA2 (aA0 k3 q.h) (i:=5) rfl
 have b6:=fun q:GB V2=>aA2 (aA0 k3 q.h) (i:=6) rfl
 have b7:=fun q:GB V2=>aA2 (aA0 k3 q.h) (i:=7) rfl
 have b8:=fun q:GB V2=>aA2 (aA0 k3 q.h) (i:=8) rfl
 have b9:=fun q:GB V2=>aA2 (aA0 k3 q.h) (i:=9) rfl
 have b10:=fun q:GB V2=>aA2 (aA0 k3 q.h) (i:=10) rfl
 have b11:=fun q:GB V2=>aA2 (aA0 k3 q.h) (i:=11) rfl
 have b12:=fun q:GB V2=>aA2 (aA0 k3 q.h) (i:=12) rfl
 have aty:=owny.at_
 have atz:=ownz.at_
 have CM:∀ q:GB V2,Hid (Calls Tryz.prog 7 #[.agg #[.int .i64 y.ref.kind,.string y.ref.space,.string y.ref.name,.bool y.good,.slice y.al y.labels.length y.cl,.slice y.ap y.ports.length y.cp,.string y.cls,.slice y.ai y.lis.length y.ci,.slice y.aq y.pars.length y.cq,.slice y.ah y.hosts.length y.ch,.slice y.ar y.rules.length y.cr,.slice y.af y.frm.length y.cf,.slice y.ao y.tos.length y.co]] q.W fun e w'=>e=.returned (.bool (Ob.mayO y.b))∧Below q.W.heap.size q.W w'):=fun q=>hide (aDw y q.W (aty.below q.h) HY.out)
 have CR:∀ q:GB V2,Hid (Calls Tryz.prog 8 #[.agg #[.int .i64 y.ref.kind,.string y.ref.space,.string y.ref.name,.bool y.good,.slice y.al y.labels.length y.cl,.slice y.ap y.ports.length y.cp,.string y.cls,.slice y.ai y.lis.length y.ci,.slice y.aq y.pars.length y.cq,.slice y.ah y.hosts.length y.ch,.slice y.ar y.rules.length y.cr,.slice y.af y.frm.length y.cf,.slice y.ao y.tos.length y.co]] q.W fun e w'=>e=.returned (.bool (Ob.mayO y.b))∧Below q.W.heap.size q.W w'):=fun q=>hide (aH0 y q.W (aty.below q.h) HY.out)
 have CS:∀ q:GB V2,Hid (Calls Tryz.prog 9 #[.agg #[.int .i64 y.ref.kind,.string y.ref.space,.string y.ref.name,.bool y.good,.slice y.al y.labels.length y.cl,.slice y.ap y.ports.length y.cp,.string y.cls,.slice y.ai y.lis.length y.ci,.slice y.aq y.pars.length y.cq,.slice y.ah y.hosts.length y.ch,.slice y.ar y.rules.length y.cr,.slice y.af y.frm.length y.cf,.slice y.ao y.tos.length y.co],.agg #[.int .i64 z.ref.kind,.string z.ref.space,.string z.ref.name,.bool z.good,.slice z.al z.labels.length z.cl,.slice z.ap z.ports.length z.cp,.string z.cls,.slice z.ai z.lis.length z.ci,.slice z.aq z.pars.length z.cq,.slice z.ah z.hosts.length z.ch,.slice z.ar z.rules.length z.cr,.slice z.af z.frm.length z.cf,.slice z.ao z.tos.length z.co]] q.W fun e w'=>e=.returned (.bool (Ob.sameO y.b z.b))∧Below q.W.heap.size q.W w'):=fun q=>hide (aGt y z q.W (aty.below q.h) (atz.below q.h))
 have CT:∀ q:GB V2,Hid (Calls Tryz.prog 10 #[.agg #[.int .i64 y.ref.kind,.string y.ref.space,.string y.ref.name,.bool y.good,.slice y.al y.labels.length y.cl,.slice y.ap y.ports.length y.cp,.string y.cls,.slice y.ai y.lis.length y.ci,.slice y.aq y.pars.length y.cq,.slice y.ah y.hosts.length y.ch,.slice y.ar y.rules.length y.cr,.slice y.af y.frm.length y.cf,.slice y.ao y.tos.length y.co],.agg #[.int .i64 z.ref.kind,.string z.ref.space,.string z.ref.name,.bool z.good,.slice z.al z.labels.length z.cl,.slice z.ap z.ports.length z.cp,.string z.cls,.slice z.ai z.lis.length z.ci,.slice z.aq z.pars.length z.cq,.slice z.ah z.hosts.length z.ch,.slice z.ar z.rules.length z.cr,.slice z.af z.frm.length z.cf,.slice z.ao z.tos.length z.co]] q.W fun e w'=>e=.returned (.bool (Ob.sameO y.b z.b))∧Below q.W.heap.size q.W w'):=fun q=>hide (aCi y z q.W (aty.below q.h) (atz.below q.h))
 have CU:∀ q:GB V2,Hid (Calls Tryz.prog 9 #[.agg #[.int .i64 y.ref.kind,.string y.ref.space,.string y.ref.name,.bool y.good,.slice y.al y.labels.length y.cl,.slice y.ap y.ports.length y.cp,.string y.cls,.slice y.ai y.lis.length y.ci,.slice y.aq y.pars.length y.cq,.slice y.ah y.hosts.length y.ch,.slice y.ar y.rules.length y.cr,.slice y.af y.frm.length y.cf,.slice y.ao y.tos.length y.co],.agg #[.int .i64 y.ref.kind,.string y.ref.space,.string y.ref.name,.bool y.good,.slice y.al y.labels.length y.cl,.slice y.ap y.ports.length y.cp,.string y.cls,.slice y.ai y.lis.length y.ci,.slice y.aq y.pars.length y.cq,.slice y.ah y.hosts.length y.ch,.slice y.ar y.rules.length y.cr,.slice y.af y.frm.length y.cf,.slice y.ao y.tos.length y.co]] q.W fun e w'=>e=.returned (.bool true)∧Below q.W.heap.size q.W w'):=fun q=>hide (by have:=aGt y y q.W (aty.below q.h) (aty.below q.h);rw [Ob.sameO_self] at this;exact this)
 have CA:=fun q:GB V2=>hide (aJd q.W)
 rw [HM1.out] at CM CR
 rw [HS1.out] at CS CT
 clear owny ownz q3 k3 aty atz HY HZ HM1 HS1
 all_goals
  go_wp2_with fail
  refine aA8 (by kernel_rfl) (by kernel_rfl) ?_
  repeat (first | go_big_quiet_step (first | (go_at_call 7;exact aA3 (CM _).out) | (go_at_call 8;exact aA3 (CR _).out) | (go_at_call 9;first | with_reducible exact aA3 (CS _).out | with_reducible exact aA3 (CU _).out) | (go_at_call 10;exact aA3 (CT _).out) | (go_at_call 11;exact aA3 (CA _).out)) | quiet_step (first | (go_at_call 7;exact aA3 (CM _).out) | (go_at_call 8;exact aA3 (CR _).out) | (go_at_call 9;first | with_reducible exact aA3 (CS _).out | with_reducible exact aA3 (CU _).out) | (go_at_call 10;exact aA3 (CT _).out) | (go_at_call 11;exact aA3 (CA _).out)))
  refine wpQuiet_nil ?_
  intro _ hw'
  obtain ⟨q,hw2⟩:=hw'
  subst hw2
  have hq:=q.h
  go_wp2_with fail
  go_ret
  exact ⟨rfl,bb2 BZ3 hq⟩
theorem aUs (v0 v1:Value) (w:World) (h0:aLg w v0) (h1:aLg w v1) :
  Calls Tryz.prog 3 #[v0,v1] w fun e w'=>e=.returned (.bool true)∧Below w.heap.size w w':=by
 obtain ⟨x,rfl,hx,rawx⟩:=h0
 obtain ⟨u,rfl,hu,rawu⟩:=h1
 exact aUr x u w hx rawx hu rawu _ _ rfl rfl
end Go.Proofs.YthfnjcbiiofkhaaGreatDoor
