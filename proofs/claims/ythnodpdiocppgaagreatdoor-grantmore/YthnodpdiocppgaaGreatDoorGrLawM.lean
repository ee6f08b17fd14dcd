/-
  The law GrantMore.
-/
import Derived.Test.YthnodpdiocppgaaGreatDoorJ27
import Derived.BigQuiet
set_option maxHeartbeats 12800000
set_option linter.unusedVariables false
set_option linter.unusedSimpArgs false
set_option maxRecDepth 20000
namespace Go.Proofs.YthnodpdiocppgaaGreatDoor
open Go Go.RowKit Go.Shelf
attribute [local go_sem] aCk
theorem aOc (v0 v1:Value) (w:World) (h0:aL5 w v0) (h1:aOg w v1) :
  Calls Tryz.prog 4 #[v0,v1] w fun e w'=>e=.returned (.bool true)∧Below w.heap.size w w':=by
 obtain ⟨am0,cm0,M0,rfl,hM,rawM⟩:=h1
 have HRM:=hide rawM
 have HMM:=hide hM
 clear rawM hM
 obtain ⟨a0,cap,L0,k,s0,r0,rfl,hL0,raw,hs0,rr⟩:=h0
 obtain ⟨rk0,rs0,rn0⟩:=r0
 have B1:Below w.heap.size w (w.alloc (.cells #[.slice a0 L0.length cap,.int .i64 k,.string s0,.int .i64 rk0,.string rs0,.string rn0] 26)):=(Below.refl _ _).alloc (Nat.le_refl _) _
 have CF:=hide (aOh k s0 ⟨rk0,rs0,rn0⟩ _ (hL0.below B1) raw hs0 rr)
 clear hL0 raw hs0 rr
 go_enter Tryz.func4,Tryz.ntmps4
 go_wp2_with fail
 refine CF.out.mono ?_
 rintro e w1 ⟨a,c,L,rfl,hL,hown,hb1⟩
 obtain ⟨okL,hl24⟩:=aFn hL
 have hz:w1.heap[w.heap.size]?=some (.cells #[.slice a0 L0.length cap,.int .i64 k,.string s0,.int .i64 rk0,.string rs0,.string rn0] 26):=aAo hb1
 have BB:=bb2 B1 hb1
 obtain ⟨s,hs⟩:∃ z,fewB s0=z:=⟨_,rfl⟩
 obtain ⟨⟨rk,rs,rn⟩,hr⟩:∃ z,aBg ⟨rk0,rs0,rn0⟩=z:=⟨_,rfl⟩
 rw [hs,hr]
 have hsz2:s.size≤100:=by rw [←hs];exact aAt _
 have hrf:OkRf ⟨rk,rs,rn⟩:=by rw [←hr];exact aCx _
 clear hs hr hL
 have lz:=aBk hz
 obtain ⟨z0,z1,z2,z3,z4,z5⟩:_∧_∧_∧_∧_∧_:=⟨aA1 hz (i:=0) rfl,aA1 hz (i:=1) rfl,aA1 hz (i:=2) rfl,aA1 hz (i:=3) rfl,aA1 hz (i:=4) rfl,aA1 hz (i:=5) rfl⟩
 have K2:=hide (show ((((((w1.setCell ⟨w.heap.size,0,none⟩ (.slice a L.length c)).setCell ⟨w.heap.size,1,none⟩ (.int .i64 k)).setCell ⟨w.heap.size,2,none⟩ (.string s)).setCell ⟨w.heap.size,3,none⟩ (.int .i64 rk)).setCell ⟨w.heap.size,4,none⟩ (.string rs)).setCell ⟨w.heap.size,5,none⟩ (.string rn)).heap[w.heap.size]?=some (.cells #[.slice a L.length c,.int .i64 k,.string s,.int .i64 rk,.string rs,.string rn] 26) from aCl [.slice a L.length c,.int .i64 k,.string s,.int .i64 rk,.string rs,.string rn] hz rfl)
 have OW:=hide (show OwL _ _ _ ((((((w1.setCell ⟨w.heap.size,0,none⟩ (.slice a L.length c)).setCell ⟨w.heap.size,1,none⟩ (.int .i64 k)).setCell ⟨w.heap.size,2,none⟩ (.string s)).setCell ⟨w.heap.size,3,none⟩ (.int .i64 rk)).setCell ⟨w.heap.size,4,none⟩ (.string rs)).setCell ⟨w.heap.size,5,none⟩ (.string rn)) from hown.bxt ((BX.refl w.heap.size w1.heap.size w1).setL 0 [.slice a L.length c,.int .i64 k,.string s,.int .i64 rk,.string rs,.string rn]) hz (by decide) (by decide))
 have BB2:=hide (show Below w.heap.size w ((((((w1.setCell ⟨w.heap.size,0,none⟩ (.slice a L.length c)).setCell ⟨w.heap.size,1,none⟩ (.int .i64 k)).setCell ⟨w.heap.size,2,none⟩ (.string s)).setCell ⟨w.heap.size,3,none⟩ (.int .i64 rk)).setCell ⟨w.heap.size,4,none⟩ (.string rs)).setCell ⟨w.heap.size,5,none⟩ (.string rn)) from aBl (w:=w) (B:=w.heap.size) (g:=w.heap.size) (Nat.le_refl _) [.slice a L.length c,.int .i64 k,.string s,.int .i64 rk,.string rs,.string rn] _ 0 BB)
 obtain ⟨d0,d1,d2,d3,d4,d5⟩:_∧_∧_∧_∧_∧_:=⟨aA1 K2.out (i:=0) rfl,aA1 K2.out (i:=1) rfl,aA1 K2.out (i:=2) rfl,aA1 K2.out (i:=3) rfl,aA1 K2.out (i:=4) rfl,aA1 K2.out (i:=5) rfl⟩
 have HOK:=hide okL
 have HRF:=hide hrf
 clear hz hown BB B1 hb1 CF okL hrf
 go_wp2_with fail
 have kq:((((((w1.setCell ⟨w.heap.size,0,none⟩ (.slice a L.length c)).setCell ⟨w.heap.size,1,none⟩ (.int .i64 k)).setCell ⟨w.heap.size,2,none⟩ (.string s)).setCell ⟨w.heap.size,3,none⟩ (.int .i64 rk)).setCell ⟨w.heap.size,4,none⟩ (.string rs)).setCell ⟨w.heap.size,5,none⟩ (.string rn)).heap[w.heap.size]?=some (.cells #[.slice a L.length c,.int .i64 k,.string s,.int .i64 rk,.string rs,.string rn] 26):=K2.out
 have SL:=OW.out.sl
 have BQ:Below w.heap.size w ((((((w1.setCell ⟨w.heap.size,0,none⟩ (.slice a L.length c)).setCell ⟨w.heap.size,1,none⟩ (.int .i64 k)).setCell ⟨w.heap.size,2,none⟩ (.string s)).setCell ⟨w.heap.size,3,none⟩ (.int .i64 rk)).setCell ⟨w.heap.size,4,none⟩ (.string rs)).setCell ⟨w.heap.size,5,none⟩ (.string rn)):=BB2.out
 clear K2 BB2 OW lz z0 z1 z2 z3 z4 z5 d0 d1 d2 d3 d4 d5
 generalize ((((((w1.setCell ⟨w.heap.size,0,none⟩ (.slice a L.length c)).setCell ⟨w.heap.size,1,none⟩ (.int .i64 k)).setCell ⟨w.heap.size,2,none⟩ (.string s)).setCell ⟨w.heap.size,3,none⟩ (.int .i64 rk)).setCell ⟨w.heap.size,4,none⟩ (.string rs)).setCell ⟨w.heap.size,5,none⟩ (.string rn))=V at *
 have okL:=HOK.out
 have CM:=hide (aH7 V (HMM.out.below BQ) HRM.out)
 refine CM.out.mono ?_
 rintro e w2 ⟨am,cm,M,rfl,hMb,hMo,hb2⟩
 obtain ⟨okM,hm24⟩:=aFn hMb
 have SM:=hMo.sl
 have CL0:=fun j (hj:j<L.length) W (h:Below V.heap.size V W)=>hide (aFm L[j] k s ⟨rk,rs,rn⟩ W (oneO SL h hj).1 (okL _ (List.getElem_mem hj)))
 have CP1:=hide (aB1 k s ⟨rk,rs,rn⟩ w2 (SL.below hb2) okL)
 have CPA:Hid (∀ W,Below w2.heap.size w2 W→∀ v n,n=L.length+M.length→(∃ a c,v=.slice a n c)→Sl EO W v (L++M)→Calls Tryz.prog 17 #[v,.int .i64 k,.string s,.agg #[.int .i64 rk,.string rs,.string rn]] W fun e w'=>e=.returned (.bool (Gr.permits (L.map OV.b) k s ⟨rk,rs,rn⟩||Gr.permits (M.map OV.b) k s ⟨rk,rs,rn⟩))∧Below W.heap.size W w'):=fun W h v n hn hv hsl=>by
  obtain ⟨a3,c3,rfl⟩:=hv
  have hl:n=(L++M).length:=by rw [hn,List.length_append]
  rw [hl] at hsl ⊢
  have:=aB1 k s ⟨rk,rs,rn⟩ W hsl (fun o ho=>(List.mem_append.1 ho).elim (okL o) (okM o))
  rw [List.map_append,Gr.permits_append] at this
  exact this
 have CP2:=fun W (h:Below w2.heap.size w2 W)=>hide (aB1 k s ⟨rk,rs,rn⟩ W (SM.below h) okM)
 have HLESS:Hid (Gr.permits ((L.filter fun o=>!Gr.lets o.b k s ⟨rk,rs,rn⟩).map OV.b) k s ⟨rk,rs,rn⟩=decide (s=rs)):=by
  have:=Gr.permits_less (L.map OV.b) k s ⟨rk,rs,rn⟩
  rw [List.filter_map] at this
  exact this
 obtain ⟨p,hp⟩:∃ p:OV→Bool,p=fun o=>Gr.lets o.b k s ⟨rk,rs,rn⟩:=⟨_,rfl⟩
 have hpo:∀ o,Gr.lets (OV.b o) k s ⟨rk,rs,rn⟩=p o:=fun o=>by rw [hp]
 simp only [hpo] at CL0 HLESS
 clear hp hpo
 generalize Gr.permits (L.map OV.b) k s ⟨rk,rs,rn⟩=y1 at *
 generalize Gr.permits (M.map OV.b) k s ⟨rk,rs,rn⟩=y2 at *
 have HO:=hide (fun W (h:Below V.heap.size V W) j (hj:j<L.length)=>oneO SL h hj)
 have HKQ:=hide (fun W (h:Below V.heap.size V W)=>aA3 kq h)
 have HSL:=hide SL
 have HSM:=hide SM
 have HCL:=hide CL0
 have HB2:=hide hb2
 have HBQ:=hide BQ
 clear CM hMb hMo okM CL0 okL
 have ka:=HKQ.out _ hb2
 obtain ⟨o0,o1,o2,o3,o4,o5⟩:_∧_∧_∧_∧_∧_:=⟨aA1 ka (i:=0) rfl,aA1 ka (i:=1) rfl,aA1 ka (i:=2) rfl,aA1 ka (i:=3) rfl,aA1 ka (i:=4) rfl,aA1 ka (i:=5) rfl⟩
 clear ka
 go_wp2_with fail
 refine CP1.out.mono ?_
 rintro e w3 ⟨rfl,hb3⟩
 clear o0 o1 o2 o3 o4 o5 CP1
 have HB3:=hide (bb2 HB2.out hb3)
 have hKW:=fun W (h:Below w3.heap.size w3 W)=>HKQ.out _ (bb2 HB3.out h)
 have hz3:=hb3.size
 go_wp2_with fail
 refine wp_region_noPanic ?_
 refine wp_region_held_drew (S:=fun W=>Below (w3).heap.size (w3) W) (by kernel_rfl) ((Below.refl _ _).drew) (fun hHeld=>?_)
 refine zzH 1 ?_ rfl ?_ ?_
 rotate_left 1
 ·(intro W hSw;(try dsimp only at hSw);(have ka:=hKW _ hSw;obtain ⟨o0,o1,o2,o3,o4,o5⟩:_∧_∧_∧_∧_∧_:=⟨aA1 ka (i:=0) rfl,aA1 ka (i:=1) rfl,aA1 ka (i:=2) rfl,aA1 ka (i:=3) rfl,aA1 ka (i:=4) rfl,aA1 ka (i:=5) rfl⟩);go_simp;(try with_reducible rfl))
 try simp only [Act.put,zzB,zzC,zzD]
 refine zzH 2 ?_ rfl ?_ ?_
 rotate_left 1
 ·(intro W hSw;(try dsimp only at hSw);(have ka:=hKW _ hSw;obtain ⟨o0,o1,o2,o3,o4,o5⟩:_∧_∧_∧_∧_∧_:=⟨aA1 ka (i:=0) rfl,aA1 ka (i:=1) rfl,aA1 ka (i:=2) rfl,aA1 ka (i:=3) rfl,aA1 ka (i:=4) rfl,aA1 ka (i:=5) rfl⟩);go_simp;(try with_reducible rfl))
 try simp only [Act.put,zzB,zzC,zzD]
 refine zzH 6 ?_ rfl ?_ ?_
 rotate_left 1
 ·(intro W hSw;(try dsimp only at hSw);(have ka:=hKW _ hSw;obtain ⟨o0,o1,o2,o3,o4,o5⟩:_∧_∧_∧_∧_∧_:=⟨aA1 ka (i:=0) rfl,aA1 ka (i:=1) rfl,aA1 ka (i:=2) rfl,aA1 ka (i:=3) rfl,aA1 ka (i:=4) rfl,aA1 ka (i:=5) rfl⟩);go_simp;(try with_reducible rfl))
 try simp only [Act.put,zzB,zzC,zzD]
 refine zzH 7 ?_ rfl ?_ ?_
 rotate_left 1
 ·(intro W hSw;(try dsimp only at hSw);(have ka:=hKW _ hSw;obtain ⟨o0,o1,o2,o3,o4,o5⟩:_∧_∧_∧_∧_∧_:=⟨aA1 ka (i:=0) rfl,aA1 ka (i:=1) rfl,aA1 ka (i:=2) rfl,aA1 ka (i:=3) rfl,aA1 ka (i:=4) rfl,aA1 ka (i:=5) rfl⟩);go_simp;(try with_reducible rfl))
 try simp only [Act.put,zzB,zzC,zzD]
 refine zzH 8 ?_ rfl ?_ ?_
 rotate_left 1
 ·(intro W hSw;(try dsimp only at hSw);(have ka:=hKW _ hSw;obtain ⟨o0,o1,o2,o3,o4,o5⟩:_∧_∧_∧_∧_∧_:=⟨aA1 ka (i:=0) rfl,aA1 ka (i:=1) rfl,aA1 ka (i:=2) rfl,aA1 ka (i:=3) rfl,aA1 ka (i:=4) rfl,aA1 ka (i:=5) rfl⟩);go_simp;(try with_reducible rfl))
 try simp only [Act.put,zzB,zzC,zzD]
 refine zzH 9 ?_ rfl ?_ ?_
 rotate_left 1
 ·(intro W hSw;(try dsimp only at hSw);(have ka:=hKW _ hSw;obtain ⟨o0,o1,o2,o3,o4,o5⟩:_∧_∧_∧_∧_∧_:=⟨aA1 ka (i:=0) rfl,aA1 ka (i:=1) rfl,aA1 ka (i:=2) rfl,aA1 ka (i:=3) rfl,aA1 ka (i:=4) rfl,aA1 ka (i:=5) rfl⟩);go_simp;(try with_reducible rfl))
 try simp only [Act.put,zzB,zzC,zzD]
 refine zzH 10 ?_ rfl ?_ ?_
 rotate_left 1
 ·(intro W hSw;(try dsimp only at hSw);(have ka:=hKW _ hSw;obtain ⟨o0,o1,o2,o3,o4,o5⟩:_∧_∧_∧_∧_∧_:=⟨aA1 ka (i:=0) rfl,aA1 ka (i:=1) rfl,aA1 ka (i:=2) rfl,aA1 ka (i:=3) rfl,aA1 ka (i:=4) rfl,aA1 ka (i:=5) rfl⟩);go_simp;(try with_reducible rfl))
 try simp only [Act.put,zzB,zzC,zzD]
 refine zzH 11 ?_ rfl ?_ ?_
 rotate_left 1
 ·(intro W hSw;(try dsimp only at hSw);(have ka:=hKW _ hSw;obtain ⟨o0,o1,o2,o3,o4,o5⟩:_∧_∧_∧_∧_∧_:=⟨aA1 ka (i:=0) rfl,aA1 ka (i:=1) rfl,aA1 ka (i:=2) rfl,aA1 ka (i:=3) rfl,aA1 ka (i:=4) rfl,aA1 ka (i:=5) rfl⟩);go_simp;(try with_reducible rfl))
 try simp only [Act.put,zzB,zzC,zzD]
 refine zzH 4 ?_ rfl ?_ ?_
 rotate_left 1
 ·(intro W hSw;(try dsimp only at hSw);go_simp;(try with_reducible rfl))
 try simp only [Act.put,zzB,zzC,zzD]
 refine wpAnyH_ready (rs:=[0]) (by kernel_rfl) (by simp) ?_
 refine AllReadyH.cons (op_at (rest:=_) rfl) (fun K hK=>?_) AllReadyH.nil
 go_simp
 refine hK.out _ _ (hHeld.alloc hHeld.size _) (fun hA=>?_)
 clear hK K
 try simp only [Act.put,zzB,zzC,zzD]
 have SL3:Sl EO w3 (.slice a L.length c) L:=HSL.out.below HB3.out
 have SM3:Sl EO w3 (.slice am M.length cm) M:=HSM.out.below hb3
 refine wpAnyH_ready (rs:=[3]) (by kernel_rfl) (by simp) ?_
 refine AllReadyH.cons (op_at (rest:=_) rfl) (fun K hK=>?_) AllReadyH.nil
 refine aDz (E:=EO) 22 36 _ 256 Tryz.underlying22 Tryz.infoObj rfl (by decide) _ _ _ rfl rfl w3.heap.size _ 0 [] rfl (aDv 36 13 w3.drew _ rfl) _ _ rfl (SL3.below hA) (by simp;omega) (by first | exact hA.size | (simp;try omega)) ?_
 intro v4 w4 r4 g4
 have H4:=hA.grown g4 hA.size (fun j e=>by first | exact aAf (aDv 36 13 w3.drew _ rfl) e | exact Nat.le_of_succ_le (aAf (aDv 36 13 w3.drew _ rfl) e))
 refine hK.out _ _ H4 (fun _=>?_)
 clear hK K
 try simp only [Act.put,zzB,zzC,zzD]
 refine wpAnyH_ready (rs:=[5]) (by kernel_rfl) (by simp) ?_
 refine AllReadyH.cons (op_at (rest:=_) rfl) (fun K hK=>?_) AllReadyH.nil
 refine aDz (E:=EO) 22 36 _ 256 Tryz.underlying22 Tryz.infoObj rfl (by decide) _ _ _ rfl rfl w3.heap.size _ _ _ rfl (r4) _ _ rfl (SM3.below H4) (by simp;omega) (by first | exact H4.size | (simp;try omega)) ?_
 intro v5 w5 r5 g5
 have H5:=H4.grown g5 H4.size (fun j e=>by first | exact aAf r4 e | exact Nat.le_of_succ_le (aAf r4 e))
 refine hK.out _ _ H5 (fun _=>?_)
 clear hK K
 try simp only [Act.put,zzB,zzC,zzD]
 obtain ⟨a5,c5,rfl⟩:=aAl r5
 have SA5:Sl EO w5 (.slice a5 (0+L.length+M.length) c5) (L++M):=Sl.of_row (E:=EO) (by simp) r5 (fun x hx=>(List.mem_append.1 hx).elim (fun h=>(SL3.all x h).below H5) (fun h=>(SM3.all x h).below H5))
 rw [Nat.zero_add] at SA5
 have CA5:=CPA.out w5 (bb2 hb3 H5) (.slice a5 (L.length+M.length) c5) (L.length+M.length) rfl ⟨_,_,rfl⟩ SA5
 replace hHeld:=H5
 refine wpAnyH_ready (rs:=[12]) (by kernel_rfl) (by simp) ?_
 refine AllReadyH.cons (op_at (rest:=_) rfl) (fun K hK=>?_) AllReadyH.nil
 go_simp
 refine (CA5).mono ?_
 rintro e w8 ⟨rfl,hb8⟩
 go_wp2_with fail
 replace hHeld:=hHeld.trans (hb8.mono hHeld.size)
 refine hK.out _ _ hHeld (fun _=>?_)
 clear hK K
 try simp only [Act.put,zzB,zzC,zzD]
 refine zzH 13 ?_ rfl ?_ ?_
 rotate_left 1
 ·(intro W hSw;(try dsimp only at hSw);go_simp;(try with_reducible rfl))
 try simp only [Act.put,zzB,zzC,zzD]
 refine wpAnyH_done (by kernel_rfl) ?_ _
 refine NoPanic.normal ?_
 have HB4:=hide (bb2 HB3.out hHeld)
 have CP8:=CP2 w8 (bb2 hb3 hHeld)
 have h38:=hb3
 have ka:=HKQ.out _ HB4.out
 obtain ⟨o0,o1,o2,o3,o4,o5⟩:_∧_∧_∧_∧_∧_:=⟨aA1 ka (i:=0) rfl,aA1 ka (i:=1) rfl,aA1 ka (i:=2) rfl,aA1 ka (i:=3) rfl,aA1 ka (i:=4) rfl,aA1 ka (i:=5) rfl⟩
 clear ka hA H4 H5 r4 r5 g4 g5 hHeld SA5 CA5 SL3 SM3 CP2 CPA hb8 hKW
 cases y1
 ·cases y2
  all_goals
   go_wp2_with fail
   refine CP8.out.mono ?_
   rintro e w9 ⟨rfl,hb9⟩
   have HB9:=hide (bb2 HB4.out hb9)
   have ka:=HKQ.out _ HB9.out
   obtain ⟨p0,p1,p2,p3,p4,p5⟩:_∧_∧_∧_∧_∧_:=⟨aA1 ka (i:=0) rfl,aA1 ka (i:=1) rfl,aA1 ka (i:=2) rfl,aA1 ka (i:=3) rfl,aA1 ka (i:=4) rfl,aA1 ka (i:=5) rfl⟩
   clear ka
   go_wp2_with fail
   clear o0 p0 o1 p1 o2 p2 o3 p3 o4 p4 o5 p5 CP8
   have hz4:=HB9.out.size
   go_loopw [7,8] (fun o i wr=>∃ j:Nat,j≤L.length∧i=.int .i64 j∧wr.ownsRow w9.heap.size 36 13 o ((L.take j).filter fun o=>!p o).length (EO.flat ((L.take j).filter fun o=>!p o))∧Below w9.heap.size w9 wr) (fun _ i _=>L.length - (intOf i).toNat)
   case atStart=>exact ⟨0,Nat.zero_le _,rfl,World.ownsRow_nil _ _ _ _,Below.refl _ _⟩
   case round =>
    obtain ⟨j,hj,rfl,hrow,hB⟩:=hrel
    have hBV:=HB9.out.trans (hB.mono HB9.out.size)
    have ka:=HKQ.out _ hBV
    obtain ⟨o0,o1,o2,o3,o4,o5⟩:_∧_∧_∧_∧_∧_:=⟨aA1 ka (i:=0) rfl,aA1 ka (i:=1) rfl,aA1 ka (i:=2) rfl,aA1 ka (i:=3) rfl,aA1 ka (i:=4) rfl,aA1 ka (i:=5) rfl⟩
    obtain ⟨vo,vc,rfl⟩:=aAl hrow
    have HROW:=hide hrow
    clear hrow
    by_cases hlt:j<L.length
    ·clear ka
     have hlt':(j:Int)<(L.length:Int):=by omega
     obtain ⟨hA,gg,off,rfl,hgg,c0,c1,c2,c3,c4,c5,c6,c7,c8,c9,c10,c11,c12⟩:=HO.out _ hBV j hlt
     have CL:=fun W (h:Below wr.heap.size wr W)=>HCL.out j hlt W (hBV.trans (h.mono hBV.size))
     have q0:=fun q:GB wr=>(q.h.cell (p:=⟨gg,off+j*13,none⟩) (Nat.lt_of_lt_of_le hgg hBV.size)).trans c0
     have q1:=fun q:GB wr=>(q.h.cell (p:=⟨gg,off+j*13+1,none⟩) (Nat.lt_of_lt_of_le hgg hBV.size)).trans c1
     have q2:=fun q:GB wr=>(q.h.cell (p:=⟨gg,off+j*13+2,none⟩) (Nat.lt_of_lt_of_le hgg hBV.size)).trans c2
     have q3:=fun q:GB wr=>(q.h.cell (p:=⟨gg,off+j*13+3,none⟩) (Nat.lt_of_lt_of_le hgg hBV.size)).trans c3
     have q4:=fun q:GB wr=>(q.h.cell (p:=⟨gg,off+j*13+4,none⟩) (Nat.lt_of_lt_of_le hgg hBV.size)).trans c4
     have q5:=fun q:GB wr=>(q.h.cell (p:=⟨gg,off+j*13+5,none⟩) (Nat.lt_of_lt_of_le hgg hBV.size)).trans c5
     have q6:=fun q:GB wr=>(q.h.cell (p:=⟨gg,off+j*13+6,none⟩) (Nat.lt_of_lt_of_le hgg hBV.size)).trans c6
     have q7:=fun q:GB wr=>(q.h.cell (p:=⟨gg,off+j*13+7,none⟩) (Nat.lt_of_lt_of_le hgg hBV.size)).trans c7
     have q8:=fun q:GB wr=>(q.h.cell (p:=⟨gg,off+j*13+8,none⟩) (Nat.lt_of_lt_of_le hgg hBV.size)).trans c8
     have q9:=fun q:GB wr=>(q.h.cell (p:=⟨gg,off+j*13+9,none⟩) (Nat.lt_of_lt_of_le hgg hBV.size)).trans c9
     have q10:=fun q:GB wr=>(q.h.cell (p:=⟨gg,off+j*13+10,none⟩) (Nat.lt_of_lt_of_le hgg hBV.size)).trans c10
     have q11:=fun q:GB wr=>(q.h.cell (p:=⟨gg,off+j*13+11,none⟩) (Nat.lt_of_lt_of_le hgg hBV.size)).trans c11
     have q12:=fun q:GB wr=>(q.h.cell (p:=⟨gg,off+j*13+12,none⟩) (Nat.lt_of_lt_of_le hgg hBV.size)).trans c12
     have kaq:=fun q:GB wr=>HKQ.out _ (hBV.trans (q.h.mono hBV.size))
     have r0:=fun q:GB wr=>aA1 (kaq q) (i:=0) rfl
     have r1:=fun q:GB wr=>aA1 (kaq q) (i:=1) rfl
     have r2:=fun q:GB wr=>aA1 (kaq q) (i:=2) rfl
     have r3:=fun q:GB wr=>aA1 (kaq q) (i:=3) rfl
     have r4:=fun q:GB wr=>aA1 (kaq q) (i:=4) rfl
     have r5:=fun q:GB wr=>aA1 (kaq q) (i:=5) rfl
     clear kaq
     have hl3:((L.take j).filter fun o=>!p o).length≤24:=Nat.le_trans (List.length_filter_le _ _) (by rw [List.length_take];omega)
     cases hp:p L[j]
     ·have HD:Hid ((L.take (j+1)).filter (fun o=>!p o)=(L.take j).filter (fun o=>!p o)++[L[j]]):=by
       unfold Hid
       rw [List.take_succ_eq_append_getElem hlt,List.filter_append,List.filter_cons_of_pos (by rw [hp];rfl)]
       rfl
      rw [hp] at CL
      clear hp
      generalize L[j]=x at *
      generalize (L.take j).filter (fun o=>!p o)=R at *
      go_wp2_with fail
      refine aAd (by kernel_rfl) (by kernel_rfl) ?_
      repeat (first | go_big_quiet_step ((go_at_call 15;exact aA2 (CL _ (GB.h _)).out)) | quiet_step ((go_at_call 15;exact aA2 (CL _ (GB.h _)).out)))
      refine wpQuiet_nil ?_
      intro _ hw'
      obtain ⟨qq,hw2⟩:=hw'
      subst hw2
      have hqq:=qq.h
      have ba:=(Below.refl qq.W.heap.size qq.W).alloc (Nat.le_refl _) (.cells #[.int .i64 x.ref.kind,.string x.ref.space,.string x.ref.name,.bool x.good,.slice x.al x.labels.length x.cl,.slice x.ap x.ports.length x.cp,.string x.cls,.slice x.ai x.lis.length x.ci,.slice x.aq x.pars.length x.cq,.slice x.ah x.hosts.length x.ch,.slice x.ar x.rules.length x.cr,.slice x.af x.frm.length x.cf,.slice x.ao x.tos.length x.co] 36)
      have SLX:Sl EO (qq.W.alloc (.cells #[.int .i64 x.ref.kind,.string x.ref.space,.string x.ref.name,.bool x.good,.slice x.al x.labels.length x.cl,.slice x.ap x.ports.length x.cp,.string x.cls,.slice x.ai x.lis.length x.ci,.slice x.aq x.pars.length x.cq,.slice x.ah x.hosts.length x.ch,.slice x.ar x.rules.length x.cr,.slice x.af x.frm.length x.cf,.slice x.ao x.tos.length x.co] 36)) (.slice (some ⟨qq.W.heap.size,0,none⟩) 1 1) [x]:=Sl.at_block (aA7 qq.W _) ((hA.below hqq).below ba)
      have HR3:=aA4 HROW.out (bb2 hqq ba)
      have hz3:=hB.size
      have hz5:=hqq.size
      go_wp2_with (at_builtin;refine aAx (E:=EO) 22 36 _ 256 Tryz.underlying22 Tryz.infoObj rfl (by decide) _ _ _ rfl (by rfl) w9.heap.size _ _ _ rfl HR3 _ _ rfl SLX (by simp;omega) (by simp;omega) ?_;intro v' w3 hown' hgrow)
      refine ⟨⟨j+1,by omega,by go_num,by rw [HD.out,List.length_append];exact hown',?_⟩,by simp [intOf];omega⟩
      exact (bb2 hB (bb2 hqq ba)).grown hgrow (by simp;omega) (fun j e=>aAf HR3 e)
     ·have HD:Hid ((L.take (j+1)).filter (fun o=>!p o)=(L.take j).filter (fun o=>!p o)):=by
       unfold Hid
       rw [List.take_succ_eq_append_getElem hlt,List.filter_append,List.filter_cons_of_neg (by rw [hp];decide),List.filter_nil,List.append_nil]
      rw [hp] at CL
      clear hp hA
      generalize L[j]=x at *
      go_wp2_with fail
      refine aAd (by kernel_rfl) (by kernel_rfl) ?_
      repeat (first | go_big_quiet_step ((go_at_call 15;exact aA2 (CL _ (GB.h _)).out)) | quiet_step ((go_at_call 15;exact aA2 (CL _ (GB.h _)).out)))
      refine wpQuiet_nil ?_
      intro _ hw'
      obtain ⟨qq,hw2⟩:=hw'
      subst hw2
      have hqq:=qq.h
      go_wp2_with fail
      exact ⟨⟨j+1,by omega,by go_num,by rw [HD.out];exact aA4 HROW.out hqq,bb2 hB hqq⟩,by simp [intOf];omega⟩
    ·have hlt':¬ (j:Int)<(L.length:Int):=by omega
     have hj2:j=L.length:=by omega
     have HLS:Hid ((L.take j).filter (fun o=>!p o)=L.filter fun o=>!p o):=by unfold Hid;rw [hj2,List.take_length]
     have hrow:=HROW.out
     rw [HLS.out] at hrow ⊢
     clear hj2 hlt HROW HLS
     have hj3:(j:Int)=(L.length:Int):=by omega
     have HSB:Sl EO wr (.slice vo (L.filter fun o=>!p o).length vc) (L.filter fun o=>!p o):=Sl.of_row (E:=EO) rfl hrow (fun x hx=>(HSL.out.all x (List.mem_filter.1 hx).1).below hBV)
     have hLE:Gr.permits ((L.filter fun o=>!p o).map OV.b) k s ⟨rk,rs,rn⟩=decide (s=rs):=HLESS.out
     have CPL:∀ q:GB wr,Hid (Calls Tryz.prog 17 #[.slice vo (L.filter fun o=>!p o).length vc,.int .i64 k,.string s,.agg #[.int .i64 rk,.string rs,.string rn]] q.W fun e w'=>e=.returned (.bool (decide (s=rs)))∧Below q.W.heap.size q.W w'):=fun q=>by
      have h:=aB1 k s ⟨rk,rs,rn⟩ q.W (HSB.below q.h) (fun o ho=>HOK.out o (List.mem_filter.1 ho).1)
      rw [hLE] at h
      exact hide h
     have CPN:∀ q:GB wr,Hid (Calls Tryz.prog 17 #[.slice none 0 0,.int .i64 k,.string rs,.agg #[.int .i64 rk,.string rs,.string rn]] q.W fun e w'=>e=.returned (.bool true)∧Below q.W.heap.size q.W w'):=fun q=>by
      have h:=aB1 (L:=[]) k rs ⟨rk,rs,rn⟩ q.W (Sl.nil _) (fun o ho=>absurd ho (by simp))
      rw [show Gr.permits (List.map OV.b []) k rs ⟨rk,rs,rn⟩=true from Gr.permits_own [] k ⟨rk,rs,rn⟩] at h
      exact hide h
     have HBX:=hide (bb2 HBQ.out hBV)
     generalize (L.filter fun o=>!p o).length=ln at *
     have kaq:=fun q:GB wr=>HKQ.out _ (bb2 hBV q.h)
     have r0:=fun q:GB wr=>aA1 (kaq q) (i:=0) rfl
     have r1:=fun q:GB wr=>aA1 (kaq q) (i:=1) rfl
     have r2:=fun q:GB wr=>aA1 (kaq q) (i:=2) rfl
     have r3:=fun q:GB wr=>aA1 (kaq q) (i:=3) rfl
     have r4:=fun q:GB wr=>aA1 (kaq q) (i:=4) rfl
     have r5:=fun q:GB wr=>aA1 (kaq q) (i:=5) rfl
     clear kaq ka HSB hrow hBV hB hLE
     by_cases hss:s=rs
     ·have ts:(s.toList == rs.toList)=true:=by rw [hss];simp
      rw [decide_eq_true hss] at CPL
      clear hss
      go_wp2_with fail
      refine aAd (by kernel_rfl) (by kernel_rfl) ?_
      repeat (first | go_big_quiet_step ((first | (go_at_call 17;first | with_reducible exact aA2 (CPL _).out | with_reducible exact aA2 (CPN _).out) | (go_at_call 22;exact aA2 (aB3 _)))) | quiet_step ((first | (go_at_call 17;first | with_reducible exact aA2 (CPL _).out | with_reducible exact aA2 (CPN _).out) | (go_at_call 22;exact aA2 (aB3 _)))))
      refine wpQuiet_nil ?_
      intro _ hw'
      obtain ⟨qq,hw2⟩:=hw'
      subst hw2
      have hqq:=qq.h
      go_wp2_with fail
      go_ret
      exact ⟨rfl,bb2 HBX.out hqq⟩
     ·have ts:(s.toList == rs.toList)=false:=by simpa [aBu] using hss
      rw [decide_eq_false hss] at CPL
      clear hss
      go_wp2_with fail
      refine aAd (by kernel_rfl) (by kernel_rfl) ?_
      repeat (first | go_big_quiet_step ((first | (go_at_call 17;first | with_reducible exact aA2 (CPL _).out | with_reducible exact aA2 (CPN _).out) | (go_at_call 22;exact aA2 (aB3 _)))) | quiet_step ((first | (go_at_call 17;first | with_reducible exact aA2 (CPL _).out | with_reducible exact aA2 (CPN _).out) | (go_at_call 22;exact aA2 (aB3 _)))))
      refine wpQuiet_nil ?_
      intro _ hw'
      obtain ⟨qq,hw2⟩:=hw'
      subst hw2
      have hqq:=qq.h
      go_wp2_with fail
      go_ret
      exact ⟨rfl,bb2 HBX.out hqq⟩
 ·simp only [Bool.true_or]
  go_wp2_with fail
  clear o0 o1 o2 o3 o4 o5 CP8
  have hz4:=HB4.out.size
  go_loopw [7,8] (fun o i wr=>∃ j:Nat,j≤L.length∧i=.int .i64 j∧wr.ownsRow w8.heap.size 36 13 o ((L.take j).filter fun o=>!p o).length (EO.flat ((L.take j).filter fun o=>!p o))∧Below w8.heap.size w8 wr) (fun _ i _=>L.length - (intOf i).toNat)
  case atStart=>exact ⟨0,Nat.zero_le _,rfl,World.ownsRow_nil _ _ _ _,Below.refl _ _⟩
  case round =>
   obtain ⟨j,hj,rfl,hrow,hB⟩:=hrel
   have hBV:=HB4.out.trans (hB.mono HB4.out.size)
   have ka:=HKQ.out _ hBV
   obtain ⟨o0,o1,o2,o3,o4,o5⟩:_∧_∧_∧_∧_∧_:=⟨aA1 ka (i:=0) rfl,aA1 ka (i:=1) rfl,aA1 ka (i:=2) rfl,aA1 ka (i:=3) rfl,aA1 ka (i:=4) rfl,aA1 ka (i:=5) rfl⟩
   obtain ⟨vo,vc,rfl⟩:=aAl hrow
   have HROW:=hide hrow
   clear hrow
   by_cases hlt:j<L.length
   ·clear ka
    have hlt':(j:Int)<(L.length:Int):=by omega
    obtain ⟨hA,gg,off,rfl,hgg,c0,c1,c2,c3,c4,c5,c6,c7,c8,c9,c10,c11,c12⟩:=HO.out _ hBV j hlt
    have CL:=fun W (h:Below wr.heap.size wr W)=>HCL.out j hlt W (hBV.trans (h.mono hBV.size))
    have q0:=fun q:GB wr=>(q.h.cell (p:=⟨gg,off+j*13,none⟩) (Nat.lt_of_lt_of_le hgg hBV.size)).trans c0
    have q1:=fun q:GB wr=>(q.h.cell (p:=⟨gg,off+j*13+1,none⟩) (Nat.lt_of_lt_of_le hgg hBV.size)).trans c1
    have q2:=fun q:GB wr=>(q.h.cell (p:=⟨gg,off+j*13+2,none⟩) (Nat.lt_of_lt_of_le hgg hBV.size)).trans c2
    have q3:=fun q:GB wr=>(q.h.cell (p:=⟨gg,off+j*13+3,none⟩) (Nat.lt_of_lt_of_le hgg hBV.size)).trans c3
    have q4:=fun q:GB wr=>(q.h.cell (p:=⟨gg,off+j*13+4,none⟩) (Nat.lt_of_lt_of_le hgg hBV.size)).trans c4
    have q5:=fun q:GB wr=>(q.h.cell (p:=⟨gg,off+j*13+5,none⟩) (Nat.lt_of_lt_of_le hgg hBV.size)).trans c5
    have q6:=fun q:GB wr=>(q.h.cell (p:=⟨gg,off+j*13+6,none⟩) (Nat.lt_of_lt_of_le hgg hBV.size)).trans c6
    have q7:=fun q:GB wr=>(q.h.cell (p:=⟨gg,off+j*13+7,none⟩) (Nat.lt_of_lt_of_le hgg hBV.size)).trans c7
    have q8:=fun q:GB wr=>(q.h.cell (p:=⟨gg,off+j*13+8,none⟩) (Nat.lt_of_lt_of_le hgg hBV.size)).trans c8
    have q9:=fun q:GB wr=>(q.h.cell (p:=⟨gg,off+j*13+9,none⟩) (Nat.lt_of_lt_of_le hgg hBV.size)).trans c9
    have q10:=fun q:GB wr=>(q.h.cell (p:=⟨gg,off+j*13+10,none⟩) (Nat.lt_of_lt_of_le hgg hBV.size)).trans c10
    have q11:=fun q:GB wr=>(q.h.cell (p:=⟨gg,off+j*13+11,none⟩) (Nat.lt_of_lt_of_le hgg hBV.size)).trans c11
    have q12:=fun q:GB wr=>(q.h.cell (p:=⟨gg,off+j*13+12,none⟩) (Nat.lt_of_lt_of_le hgg hBV.size)).trans c12
    have kaq:=fun q:GB wr=>HKQ.out _ (hBV.trans (q.h.mono hBV.size))
    have r0:=fun q:GB wr=>aA1 (kaq q) (i:=0) rfl
    have r1:=fun q:GB wr=>aA1 (kaq q) (i:=1) rfl
    have r2:=fun q:GB wr=>aA1 (kaq q) (i:=2) rfl
    have r3:=fun q:GB wr=>aA1 (kaq q) (i:=3) rfl
    have r4:=fun q:GB wr=>aA1 (kaq q) (i:=4) rfl
    have r5:=fun q:GB wr=>aA1 (kaq q) (i:=5) rfl
    clear kaq
    have hl3:((L.take j).filter fun o=>!p o).length≤24:=Nat.le_trans (List.length_filter_le _ _) (by rw [List.length_take];omega)
    cases hp:p L[j]
    ·have HD:Hid ((L.take (j+1)).filter (fun o=>!p o)=(L.take j).filter (fun o=>!p o)++[L[j]]):=by
      unfold Hid
      rw [List.take_succ_eq_append_getElem hlt,List.filter_append,List.filter_cons_of_pos (by rw [hp];rfl)]
      rfl
     rw [hp] at CL
     clear hp
     generalize L[j]=x at *
     generalize (L.take j).filter (fun o=>!p o)=R at *
     go_wp2_with fail
     refine aAd (by kernel_rfl) (by kernel_rfl) ?_
     repeat (first | go_big_quiet_step ((go_at_call 15;exact aA2 (CL _ (GB.h _)).out)) | quiet_step ((go_at_call 15;exact aA2 (CL _ (GB.h _)).out)))
     refine wpQuiet_nil ?_
     intro _ hw'
     obtain ⟨qq,hw2⟩:=hw'
     subst hw2
     have hqq:=qq.h
     have ba:=(Below.refl qq.W.heap.size qq.W).alloc (Nat.le_refl _) (.cells #[.int .i64 x.ref.kind,.string x.ref.space,.string x.ref.name,.bool x.good,.slice x.al x.labels.length x.cl,.slice x.ap x.ports.length x.cp,.string x.cls,.slice x.ai x.lis.length x.ci,.slice x.aq x.pars.length x.cq,.slice x.ah x.hosts.length x.ch,.slice x.ar x.rules.length x.cr,.slice x.af x.frm.length x.cf,.slice x.ao x.tos.length x.co] 36)
     have SLX:Sl EO (qq.W.alloc (.cells #[.int .i64 x.ref.kind,.string x.ref.space,.string x.ref.name,.bool x.good,.slice x.al x.labels.length x.cl,.slice x.ap x.ports.length x.cp,.string x.cls,.slice x.ai x.lis.length x.ci,.slice x.aq x.pars.length x.cq,.slice x.ah x.hosts.length x.ch,.slice x.ar x.rules.length x.cr,.slice x.af x.frm.length x.cf,.slice x.ao x.tos.length x.co] 36)) (.slice (some ⟨qq.W.heap.size,0,none⟩) 1 1) [x]:=Sl.at_block (aA7 qq.W _) ((hA.below hqq).below ba)
     have HR3:=aA4 HROW.out (bb2 hqq ba)
     have hz3:=hB.size
     have hz5:=hqq.size
     go_wp2_with (at_builtin;refine aAx (E:=EO) 22 36 _ 256 Tryz.underlying22 Tryz.infoObj rfl (by decide) _ _ _ rfl (by rfl) w8.heap.size _ _ _ rfl HR3 _ _ rfl SLX (by simp;omega) (by simp;omega) ?_;intro v' w3 hown' hgrow)
     refine ⟨⟨j+1,by omega,by go_num,by rw [HD.out,List.length_append];exact hown',?_⟩,by simp [intOf];omega⟩
     exact (bb2 hB (bb2 hqq ba)).grown hgrow (by simp;omega) (fun j e=>aAf HR3 e)
    ·have HD:Hid ((L.take (j+1)).filter (fun o=>!p o)=(L.take j).filter (fun o=>!p o)):=by
      unfold Hid
      rw [List.take_succ_eq_append_getElem hlt,List.filter_append,List.filter_cons_of_neg (by rw [hp];decide),List.filter_nil,List.append_nil]
     rw [hp] at CL
     clear hp hA
     generalize L[j]=x at *
     go_wp2_with fail
     refine aAd (by kernel_rfl) (by kernel_rfl) ?_
     repeat (first | go_big_quiet_step ((go_at_call 15;exact aA2 (CL _ (GB.h _)).out)) | quiet_step ((go_at_call 15;exact aA2 (CL _ (GB.h _)).out)))
     refine wpQuiet_nil ?_
     intro _ hw'
     obtain ⟨qq,hw2⟩:=hw'
     subst hw2
     have hqq:=qq.h
     go_wp2_with fail
     exact ⟨⟨j+1,by omega,by go_num,by rw [HD.out];exact aA4 HROW.out hqq,bb2 hB hqq⟩,by simp [intOf];omega⟩
   ·have hlt':¬ (j:Int)<(L.length:Int):=by omega
    have hj2:j=L.length:=by omega
    have HLS:Hid ((L.take j).filter (fun o=>!p o)=L.filter fun o=>!p o):=by unfold Hid;rw [hj2,List.take_length]
    have hrow:=HROW.out
    rw [HLS.out] at hrow ⊢
    clear hj2 hlt HROW HLS
    have hj3:(j:Int)=(L.length:Int):=by omega
    have HSB:Sl EO wr (.slice vo (L.filter fun o=>!p o).length vc) (L.filter fun o=>!p o):=Sl.of_row (E:=EO) rfl hrow (fun x hx=>(HSL.out.all x (List.mem_filter.1 hx).1).below hBV)
    have hLE:Gr.permits ((L.filter fun o=>!p o).map OV.b) k s ⟨rk,rs,rn⟩=decide (s=rs):=HLESS.out
    have CPL:∀ q:GB wr,Hid (Calls Tryz.prog 17 #[.slice vo (L.filter fun o=>!p o).length vc,.int .i64 k,.string s,.agg #[.int .i64 rk,.string rs,.string rn]] q.W fun e w'=>e=.returned (.bool (decide (s=rs)))∧Below q.W.heap.size q.W w'):=fun q=>by
     have h:=aB1 k s ⟨rk,rs,rn⟩ q.W (HSB.below q.h) (fun o ho=>HOK.out o (List.mem_filter.1 ho).1)
     rw [hLE] at h
     exact hide h
    have CPN:∀ q:GB wr,Hid (Calls Tryz.prog 17 #[.slice none 0 0,.int .i64 k,.string rs,.agg #[.int .i64 rk,.string rs,.string rn]] q.W fun e w'=>e=.returned (.bool true)∧Below q.W.heap.size q.W w'):=fun q=>by
     have h:=aB1 (L:=[]) k rs ⟨rk,rs,rn⟩ q.W (Sl.nil _) (fun o ho=>absurd ho (by simp))
     rw [show Gr.permits (List.map OV.b []) k rs ⟨rk,rs,rn⟩=true from Gr.permits_own [] k ⟨rk,rs,rn⟩] at h
     exact hide h
    have HBX:=hide (bb2 HBQ.out hBV)
    generalize (L.filter fun o=>!p o).length=ln at *
    have kaq:=fun q:GB wr=>HKQ.out _ (bb2 hBV q.h)
    have r0:=fun q:GB wr=>aA1 (kaq q) (i:=0) rfl
    have r1:=fun q:GB wr=>aA1 (kaq q) (i:=1) rfl
    have r2:=fun q:GB wr=>aA1 (kaq q) (i:=2) rfl
    have r3:=fun q:GB wr=>aA1 (kaq q) (i:=3) rfl
    have r4:=fun q:GB wr=>aA1 (kaq q) (i:=4) rfl
    have r5:=fun q:GB wr=>aA1 (kaq q) (i:=5) rfl
    clear kaq ka HSB hrow hBV hB hLE
    by_cases hss:s=rs
    ·have ts:(s.toList == rs.toList)=true:=by rw [hss];simp
     rw [decide_eq_true hss] at CPL
     clear hss
     go_wp2_with fail
     refine aAd (by kernel_rfl) (by kernel_rfl) ?_
     repeat (first | go_big_quiet_step ((first | (go_at_call 17;first | with_reducible exact aA2 (CPL _).out | with_reducible exact aA2 (CPN _).out) | (go_at_call 22;exact aA2 (aB3 _)))) | quiet_step ((first | (go_at_call 17;first | with_reducible exact aA2 (CPL _).out | with_reducible exact aA2 (CPN _).out) | (go_at_call 22;exact aA2 (aB3 _)))))
     refine wpQuiet_nil ?_
     intro _ hw'
     obtain ⟨qq,hw2⟩:=hw'
     subst hw2
     have hqq:=qq.h
     go_wp2_with fail
     go_ret
     exact ⟨rfl,bb2 HBX.out hqq⟩
    ·have ts:(s.toList == rs.toList)=false:=by simpa [aBu] using hss
     rw [decide_eq_false hss] at CPL
     clear hss
     go_wp2_with fail
     refine aAd (by kernel_rfl) (by kernel_rfl) ?_
     repeat (first | go_big_quiet_step ((first | (go_at_call 17;first | with_reducible exact aA2 (CPL _).out | with_reducible exact aA2 (CPN _).out) | (go_at_call 22;exact aA2 (aB3 _)))) | quiet_step ((first | (go_at_call 17;first | with_reducible exact aA2 (CPL _).out | with_reducible exact aA2 (CPN _).out) | (go_at_call 22;exact aA2 (aB3 _)))))
     refine wpQuiet_nil ?_
     intro _ hw'
     obtain ⟨qq,hw2⟩:=hw'
     subst hw2
     have hqq:=qq.h
     go_wp2_with fail
     go_ret
     exact ⟨rfl,bb2 HBX.out hqq⟩
end Go.Proofs.YthnodpdiocppgaaGreatDoor
