/-
  Walks: the document's in, Near (of refs).
-/
import Derived.Test.YthfnjcbiiofkhaaGreatDoorJ16
import Derived.Test.YthfnjcbiiofkhaaGreatDoorJ24
import Derived.BigQuiet
import Derived.Test.YthfnjcbiiofkhaaGreatDoorJ26
import Derived.Deep.CutRange
set_option maxHeartbeats 6400000
set_option linter.unusedVariables false
set_option linter.unusedSimpArgs false
set_option maxRecDepth 20000
namespace Go.Proofs.YthfnjcbiiofkhaaGreatDoor
open Go Go.RowKit Go.Shelf
attribute [local go_sem] aAr
def aBf (sp:ByteArray) (r:RfB):RfB:=if decide (2<r.kind)&&Ob.e0 r.space then { r with space:=sp } else r
theorem aJh {sp:ByteArray} {r:RfB} (h:1≤r.kind):aBf sp r=Ob.near sp r:=by
 unfold aBf Ob.near
 have e:decide (2<r.kind)=(decide (r.kind≠1)&&decide (r.kind≠2)):=by
  rw [Bool.eq_iff_iff]
  simp only [Bool.and_eq_true,decide_eq_true_eq]
  omega
 rw [e,Bool.and_comm]
def inA (L:List RfB) (r:RfB):List RfB:=L.filter fun x=>decide (Ob.ordR x r<0)
def inB (L:List RfB) (r:RfB):List RfB:=L.filter fun x=>decide (0<Ob.ordR x r)
theorem aWp {L:List RfB} {r:RfB} {k:Nat} (hk:k<L.length) (h:decide (Ob.ordR L[k] r<0)=true):inA (L.take (k+1)) r=inA (L.take k) r++[L[k]]:=by
 unfold inA
 rw [List.take_succ_eq_append_getElem hk,List.filter_append,List.filter_cons_of_pos (by simpa using h),List.filter_nil]
theorem aYf {L:List RfB} {r:RfB} {k:Nat} (hk:k<L.length) (h:decide (Ob.ordR L[k] r<0)=false):inA (L.take (k+1)) r=inA (L.take k) r:=by
 unfold inA
 rw [List.take_succ_eq_append_getElem hk,List.filter_append,List.filter_cons_of_neg (by simpa using h),List.filter_nil,List.append_nil]
theorem aWq {L:List RfB} {r:RfB} {k:Nat} (hk:k<L.length) (h:decide (0<Ob.ordR L[k] r)=true):inB (L.take (k+1)) r=inB (L.take k) r++[L[k]]:=by
 unfold inB
 rw [List.take_succ_eq_append_getElem hk,List.filter_append,List.filter_cons_of_pos (by simpa using h),List.filter_nil]
theorem aYg {L:List RfB} {r:RfB} {k:Nat} (hk:k<L.length) (h:decide (0<Ob.ordR L[k] r)=false):inB (L.take (k+1)) r=inB (L.take k) r:=by
 unfold inB
 rw [List.take_succ_eq_append_getElem hk,List.filter_append,List.filter_cons_of_neg (by simpa using h),List.filter_nil,List.append_nil]
theorem aFk (L:List RfB) (r:RfB):(inA L r).length≤L.length:=List.length_filter_le _ _
theorem aOu (L:List RfB) (r:RfB):(inB L r).length≤L.length:=List.length_filter_le _ _
theorem aNb (r:RfB):∀ L:List RfB,(inA L r).length+(inB L r).length≤L.length
 | []=>by simp [inA,inB]
 | x::L=>by
   have ih:=aNb r L
   unfold inA inB at *
   simp only [List.filter_cons,List.length_cons]
   by_cases h1:Ob.ordR x r<0
   ·have h2:¬ 0<Ob.ordR x r:=by omega
    simp only [h1,h2,decide_true,decide_false,if_true,List.length_cons]
    simp
    omega
   ·by_cases h2:0<Ob.ordR x r
    ·simp only [h1,h2,decide_true,decide_false,if_true,List.length_cons]
     simp
     omega
    ·simp only [h1,h2,decide_false]
     simp
     omega
theorem aK2 (L:List RfB) (r:RfB):(Ob.ins L r).length≤L.length+1:=by
 have:=aNb r L
 unfold inA inB at this
 unfold Ob.ins
 simp only [List.length_append,List.length_cons]
 omega
theorem aD8:∀ (l a:List RfB),(l.foldl Ob.ins a).length≤a.length+l.length
 | [],a=>by simp
 | r::l,a=>by
   have:=aD8 l (Ob.ins a r)
   have:=aK2 a r
   simp only [List.foldl_cons,List.length_cons]
   omega
theorem aGf (r:RfB) (sp:ByteArray) (w:World) :
  Calls Tryz.prog 52 #[rfV r,.string sp] w fun e w'=>e=.returned (rfV (aBf sp r))∧Below w.heap.size w w':=by
 have HE:Hid (aBf sp r=if decide (2<r.kind)&&r.space.toList.isEmpty then { r with space:=sp } else r):=by unfold Hid aBf;rw [aBt]
 have B1:Hid (∀ A C:Obj,Below w.heap.size w ((w.alloc A).alloc C)):=fun A C=>((Below.refl _ _).alloc (Nat.le_refl _) _).alloc (by simp) _
 generalize aBf sp r=d at *
 obtain ⟨k,s,n⟩:=r
 dsimp only at *
 cases h1:decide (2<k)
 ·rw [h1] at HE
  go_enter Tryz.func52,Tryz.ntmps52
  go_wp2_with fail
  exact bodyPost_ret (v:=.agg #[.int .i64 k,.string s,.string n]) (by simp [results,Tryz.results52,go_sem]) rfl ⟨by rw [HE.out];rfl,B1.out _ _⟩
 ·rw [h1] at HE
  cases h2:s.toList.isEmpty
  ·rw [h2] at HE
   go_enter Tryz.func52,Tryz.ntmps52
   go_wp2_with fail
   exact bodyPost_ret (v:=.agg #[.int .i64 k,.string s,.string n]) (by simp [results,Tryz.results52,go_sem]) rfl ⟨by rw [HE.out];rfl,B1.out _ _⟩
  ·rw [h2] at HE
   go_enter Tryz.func52,Tryz.ntmps52
   go_wp2_with fail
   exact bodyPost_ret (v:=.agg #[.int .i64 k,.string sp,.string n]) (by simp [results,Tryz.results52,go_sem]) rfl ⟨by rw [HE.out];rfl,B1.out _ _⟩
theorem aFl (v:Value) (L:List RfB) (r:RfB) (w:World) (hv:Sl ER w v L) (hl:L.length≤500) :
  Calls Tryz.prog 51 #[v,rfV r] w fun e w'=>∃ v',e=.returned v'∧Sl ER w' v' (Ob.ins L r)∧Below w.heap.size w w':=by
 have hlen:=hv.len
 obtain ⟨a,cap,rfl⟩:=hv.form
 obtain ⟨rk,rs,rn⟩:=r
 obtain ⟨X,hX⟩:∃ z,z=w.alloc (.cells #[.int .i64 rk,.string rs,.string rn] 23):=⟨_,rfl⟩
 have B1:Below w.heap.size w X:=by rw [hX];exact (Below.refl _ _).alloc (Nat.le_refl _) _
 have HK:Hid (X.heap[w.heap.size]?=some (.cells #[.int .i64 rk,.string rs,.string rn] 23)):=by unfold Hid;rw [hX];exact aA7 _ _
 have HL:=hide (fun W (hB:Below w.heap.size w W) k (hk:k<L.length)=>oneD hv hB hk)
 have HB1:=hide B1
 have HLEN:=hide hl
 clear hv B1 hl
 go_enter Tryz.func51,Tryz.ntmps51
 go_wp2_with fail
 go_loopw [5,6] (fun o i wr=>∃ k:Nat,k≤L.length∧i=.int .i64 k∧wr.ownsRow X.heap.size 23 ER.n o (inA (L.take k) ⟨rk,rs,rn⟩).length (ER.flat (inA (L.take k) ⟨rk,rs,rn⟩))∧Below X.heap.size X wr) (fun _ i _=>L.length - (intOf i).toNat)
 case atStart=>exact ⟨0,Nat.zero_le _,rfl,by rw [List.take_zero];exact ⟨rfl,.inl ⟨rfl,rfl⟩⟩,by rw [hX];exact Below.refl _ _⟩
 case round =>
  clear hX
  obtain ⟨k,hk,rfl,hr,hB⟩:=hrel
  have HR:=hide hr
  clear hr
  have hBw:=bb2 HB1.out hB
  have hlen:=HLEN.out
  have z3:∀ q:GB wr,_∧_∧_:=fun q=>⟨aA2 (aA0 HK.out (bb2 hB q.h)) (i:=0) rfl,aA2 (aA0 HK.out (bb2 hB q.h)) (i:=1) rfl,aA2 (aA0 HK.out (bb2 hB q.h)) (i:=2) rfl⟩
  have z30:=fun q:GB wr=>(z3 q).1
  have z31:=fun q:GB wr=>(z3 q).2.1
  have z32:=fun q:GB wr=>(z3 q).2.2
  clear z3
  by_cases hlt:k<L.length
  ·have hlt':(k:Int)<(L.length:Int):=by omega
   obtain ⟨_,g,off,rfl,hg,p0,p1,p2⟩:=HL.out _ hBw k hlt
   have q0:=fun q:GB wr=>(q.h.cell (p:=⟨g,off+k*3,none⟩) (Nat.lt_of_lt_of_le hg hBw.size)).trans p0
   have q1:=fun q:GB wr=>(q.h.cell (p:=⟨g,off+k*3+1,none⟩) (Nat.lt_of_lt_of_le hg hBw.size)).trans p1
   have q2:=fun q:GB wr=>(q.h.cell (p:=⟨g,off+k*3+2,none⟩) (Nat.lt_of_lt_of_le hg hBw.size)).trans p2
   have CO:=fun q:GB wr=>hide (aJb L[k] ⟨rk,rs,rn⟩ q.W)
   have HAL:Hid ((inA (L.take k) ⟨rk,rs,rn⟩).length≤500∧(inA L ⟨rk,rs,rn⟩).length≤500∧(inB (L.take k) ⟨rk,rs,rn⟩).length≤500):=hide ⟨Nat.le_trans (aFk _ _) (by have:=List.length_take_le k L;omega),Nat.le_trans (aFk _ _) (by omega),Nat.le_trans (aOu _ _) (by have:=List.length_take_le k L;omega)⟩
   clear p0 p1 p2 hg
   cases hd:decide (Ob.ordR L[k] ⟨rk,rs,rn⟩<0)
   ·have HN:Hid (inA (L.take (k+1)) ⟨rk,rs,rn⟩=inA (L.take k) ⟨rk,rs,rn⟩):=by unfold Hid;rw [aYf hlt hd]
    generalize Ob.ordR L[k] ⟨rk,rs,rn⟩=ord at *
    generalize L[k]=y at *
    obtain ⟨yk,ys,yn⟩:=y
    dsimp only at *
    go_wp2_with fail
    refine aA8 (by kernel_rfl) (by kernel_rfl) ?_
    repeat (first | go_big_quiet_step ((go_at_call 84;exact aA3 (CO _).out)) | quiet_step ((go_at_call 84;exact aA3 (CO _).out)))
    refine wpQuiet_nil ?_
    intro _ hw'
    obtain ⟨qq,hw2⟩:=hw'
    subst hw2
    have hq:=qq.h
    go_wp2_with fail
    exact ⟨⟨k+1,by omega,by go_num,by rw [HN.out];exact aA6 HR.out hq,bb2 hB hq⟩,by simp [intOf];omega⟩
   ·have HN:Hid (inA (L.take (k+1)) ⟨rk,rs,rn⟩=inA (L.take k) ⟨rk,rs,rn⟩++[L[k]]):=by unfold Hid;rw [aWp hlt hd]
    generalize Ob.ordR L[k] ⟨rk,rs,rn⟩=ord at *
    generalize L[k]=y at *
    obtain ⟨yk,ys,yn⟩:=y
    dsimp only at *
    go_wp2_with fail
    refine aA8 (by kernel_rfl) (by kernel_rfl) ?_
    repeat (first | go_big_quiet_step ((go_at_call 84;exact aA3 (CO _).out)) | quiet_step ((go_at_call 84;exact aA3 (CO _).out)))
    refine wpQuiet_nil ?_
    intro _ hw'
    obtain ⟨qq,hw2⟩:=hw'
    subst hw2
    have hq:=qq.h
    have ba:=(Below.refl qq.W.heap.size qq.W).alloc (Nat.le_refl _) (.cells #[.int .i64 yk,.string ys,.string yn] 23)
    have SL:Sl ER (qq.W.alloc (.cells #[.int .i64 yk,.string ys,.string yn] 23)) (.slice (some ⟨qq.W.heap.size,0,none⟩) 1 1) [⟨yk,ys,yn⟩]:=Sl.at_block (E:=ER) (x:=⟨yk,ys,yn⟩) (aA7 _ _) trivial
    have HR2:=aA6 HR.out (bb2 hq ba)
    have hB2:=bb2 hB (bb2 hq ba)
    obtain ⟨hal1,hal2,hal3⟩:=HAL.out
    have hsz:=(bb2 hB hq).size
    go_wp2_with (at_builtin;refine aAv (E:=ER) 38 23 _ 40 Tryz.underlying38 Tryz.infoRef rfl (by decide) _ _ _ rfl (by rfl) X.heap.size _ _ _ rfl HR2 _ _ rfl SL (by simp;omega) (by simp;omega) ?_;intro v' w3 hown' hgrow)
    exact ⟨⟨k+1,by omega,by go_num,by rw [HN.out,List.length_append];exact hown',hB2.grown hgrow hB2.size (fun j e=>aAg HR2 e)⟩,by simp [intOf];omega⟩
  ·have hlt':¬ (k:Int)<(L.length:Int):=by omega
   obtain rfl:k=L.length:=by omega
   have HAL:Hid ((inA L ⟨rk,rs,rn⟩).length≤1000):=hide (by have:=aFk L ⟨rk,rs,rn⟩;omega)
   have hr:=HR.out
   rw [List.take_length] at hr
   have o0:=z30 ⟨wr,Below.refl _ _⟩
   have o1:=z31 ⟨wr,Below.refl _ _⟩
   have o2:=z32 ⟨wr,Below.refl _ _⟩
   dsimp only at o0 o1 o2
   have ba:=(Below.refl wr.heap.size wr).alloc (Nat.le_refl _) (.cells #[.int .i64 rk,.string rs,.string rn] 23)
   have SL:Sl ER (wr.alloc (.cells #[.int .i64 rk,.string rs,.string rn] 23)) (.slice (some ⟨wr.heap.size,0,none⟩) 1 1) [⟨rk,rs,rn⟩]:=Sl.at_block (E:=ER) (x:=⟨rk,rs,rn⟩) (aA7 _ _) trivial
   have HR2:=aA6 hr ba
   have hB2:=bb2 hB ba
   have hal:=HAL.out
   have hsz:=hB.size
   clear hr HR
   go_wp2_with (at_builtin;refine aAv (E:=ER) 38 23 _ 40 Tryz.underlying38 Tryz.infoRef rfl (by decide) _ _ _ rfl (by rfl) X.heap.size _ _ _ rfl HR2 _ _ rfl SL (by simp;omega) (by simp;omega) ?_;intro v' w3 hown' hgrow)
   have HB5:=hide (hB2.grown hgrow hB2.size (fun j e=>aAg HR2 e))
   have HR5:Hid (w3.ownsRow X.heap.size 23 ER.n v' (inA L ⟨rk,rs,rn⟩++[(⟨rk,rs,rn⟩:RfB)]++inB [] ⟨rk,rs,rn⟩).length (ER.flat (inA L ⟨rk,rs,rn⟩++[(⟨rk,rs,rn⟩:RfB)]++inB [] ⟨rk,rs,rn⟩))):=by
    unfold Hid
    rw [show inB [] ⟨rk,rs,rn⟩=[] from rfl,List.append_nil,List.length_append]
    exact hown'
   clear hsz hown' hgrow HR2 SL hal HAL o0 o1 o2 z30 z31 z32 ba hB2 hB hBw hlt hlt' hk
   go_loopw [5,7] (fun o i wr=>∃ k:Nat,k≤L.length∧i=.int .i64 k∧wr.ownsRow X.heap.size 23 ER.n o (inA L ⟨rk,rs,rn⟩++[(⟨rk,rs,rn⟩:RfB)]++inB (L.take k) ⟨rk,rs,rn⟩).length (ER.flat (inA L ⟨rk,rs,rn⟩++[(⟨rk,rs,rn⟩:RfB)]++inB (L.take k) ⟨rk,rs,rn⟩))∧Below X.heap.size X wr) (fun _ i _=>L.length - (intOf i).toNat)
   case atStart=>exact ⟨0,Nat.zero_le _,rfl,by simp only [List.take_zero];exact HR5.out,HB5.out⟩
   case round =>
    clear HR5
    obtain ⟨k,hk,rfl,hr,hB⟩:=hrel
    have HR:=hide hr
    clear hr
    have hBw:=bb2 HB1.out hB
    have hlen:=HLEN.out
    have z3:∀ q:GB wr,_∧_∧_:=fun q=>⟨aA2 (aA0 HK.out (bb2 hB q.h)) (i:=0) rfl,aA2 (aA0 HK.out (bb2 hB q.h)) (i:=1) rfl,aA2 (aA0 HK.out (bb2 hB q.h)) (i:=2) rfl⟩
    have z30:=fun q:GB wr=>(z3 q).1
    have z31:=fun q:GB wr=>(z3 q).2.1
    have z32:=fun q:GB wr=>(z3 q).2.2
    clear z3
    by_cases hlt:k<L.length
    ·have hlt':(k:Int)<(L.length:Int):=by omega
     obtain ⟨_,g,off,rfl,hg,p0,p1,p2⟩:=HL.out _ hBw k hlt
     have q0:=fun q:GB wr=>(q.h.cell (p:=⟨g,off+k*3,none⟩) (Nat.lt_of_lt_of_le hg hBw.size)).trans p0
     have q1:=fun q:GB wr=>(q.h.cell (p:=⟨g,off+k*3+1,none⟩) (Nat.lt_of_lt_of_le hg hBw.size)).trans p1
     have q2:=fun q:GB wr=>(q.h.cell (p:=⟨g,off+k*3+2,none⟩) (Nat.lt_of_lt_of_le hg hBw.size)).trans p2
     have CO:=fun q:GB wr=>hide (aJb L[k] ⟨rk,rs,rn⟩ q.W)
     have HAL:Hid ((inA (L.take k) ⟨rk,rs,rn⟩).length≤500∧(inA L ⟨rk,rs,rn⟩).length≤500∧(inB (L.take k) ⟨rk,rs,rn⟩).length≤500):=hide ⟨Nat.le_trans (aFk _ _) (by have:=List.length_take_le k L;omega),Nat.le_trans (aFk _ _) (by omega),Nat.le_trans (aOu _ _) (by have:=List.length_take_le k L;omega)⟩
     clear p0 p1 p2 hg
     cases hd:decide (0<Ob.ordR L[k] ⟨rk,rs,rn⟩)
     ·have HN:Hid (inA L ⟨rk,rs,rn⟩++[(⟨rk,rs,rn⟩:RfB)]++inB (L.take (k+1)) ⟨rk,rs,rn⟩=inA L ⟨rk,rs,rn⟩++[(⟨rk,rs,rn⟩:RfB)]++inB (L.take k) ⟨rk,rs,rn⟩):=by unfold Hid;rw [aYg hlt hd]
      generalize Ob.ordR L[k] ⟨rk,rs,rn⟩=ord at *
      generalize L[k]=y at *
      obtain ⟨yk,ys,yn⟩:=y
      dsimp only at *
      go_wp2_with fail
      refine aA8 (by kernel_rfl) (by kernel_rfl) ?_
      repeat (first | go_big_quiet_step ((go_at_call 84;exact aA3 (CO _).out)) | quiet_step ((go_at_call 84;exact aA3 (CO _).out)))
      refine wpQuiet_nil ?_
      intro _ hw'
      obtain ⟨qq,hw2⟩:=hw'
      subst hw2
      have hq:=qq.h
      go_wp2_with fail
      exact ⟨⟨k+1,by omega,by go_num,by rw [HN.out];exact aA6 HR.out hq,bb2 hB hq⟩,by simp [intOf];omega⟩
     ·have HN:Hid (inA L ⟨rk,rs,rn⟩++[(⟨rk,rs,rn⟩:RfB)]++inB (L.take (k+1)) ⟨rk,rs,rn⟩=inA L ⟨rk,rs,rn⟩++[(⟨rk,rs,rn⟩:RfB)]++inB (L.take k) ⟨rk,rs,rn⟩++[L[k]]):=by unfold Hid;rw [aWq hlt hd];simp only [List.append_assoc]
      generalize Ob.ordR L[k] ⟨rk,rs,rn⟩=ord at *
      generalize L[k]=y at *
      obtain ⟨yk,ys,yn⟩:=y
      dsimp only at *
      go_wp2_with fail
      refine aA8 (by kernel_rfl) (by kernel_rfl) ?_
      repeat (first | go_big_quiet_step ((go_at_call 84;exact aA3 (CO _).out)) | quiet_step ((go_at_call 84;exact aA3 (CO _).out)))
      refine wpQuiet_nil ?_
      intro _ hw'
      obtain ⟨qq,hw2⟩:=hw'
      subst hw2
      have hq:=qq.h
      have ba:=(Below.refl qq.W.heap.size qq.W).alloc (Nat.le_refl _) (.cells #[.int .i64 yk,.string ys,.string yn] 23)
      have SL:Sl ER (qq.W.alloc (.cells #[.int .i64 yk,.string ys,.string yn] 23)) (.slice (some ⟨qq.W.heap.size,0,none⟩) 1 1) [⟨yk,ys,yn⟩]:=Sl.at_block (E:=ER) (x:=⟨yk,ys,yn⟩) (aA7 _ _) trivial
      have HR2:=aA6 HR.out (bb2 hq ba)
      have hB2:=bb2 hB (bb2 hq ba)
      obtain ⟨hal1,hal2,hal3⟩:=HAL.out
      have hsz:=(bb2 hB hq).size
      go_wp2_with (at_builtin;refine aAv (E:=ER) 38 23 _ 40 Tryz.underlying38 Tryz.infoRef rfl (by decide) _ _ _ rfl (by rfl) X.heap.size _ _ _ rfl HR2 _ _ rfl SL (by simp;omega) (by simp;omega) ?_;intro v' w3 hown' hgrow)
      exact ⟨⟨k+1,by omega,by go_num,by rw [HN.out,List.length_append];exact hown',hB2.grown hgrow hB2.size (fun j e=>aAg HR2 e)⟩,by simp [intOf];omega⟩
    ·have hlt':¬ (k:Int)<(L.length:Int):=by omega
     obtain rfl:k=L.length:=by omega
     go_wp2_with fail
     go_ret
     have HE:inA L ⟨rk,rs,rn⟩++[(⟨rk,rs,rn⟩:RfB)]++inB (L.take L.length) ⟨rk,rs,rn⟩=Ob.ins L ⟨rk,rs,rn⟩:=by
      rw [List.take_length,List.append_assoc]
      rfl
     have hr:=HR.out
     rw [HE] at hr
     exact ⟨_,rfl,Sl.of_row rfl hr (fun _ _=>trivial),hBw⟩
end Go.Proofs.YthfnjcbiiofkhaaGreatDoor
namespace Go.Proofs.YthfnjcbiiofkhaaGreatDoor
open Go Go.RowKit Go.Shelf
attribute [local go_sem] aAr
theorem aJi {o:OB} (h:Ob.mayO o=true):(o.ref.kind≠5→o.lis=[])∧(o.ref.kind≠6→o.pars=[]∧o.rules=[]):=by
 unfold Ob.mayO at h
 rw [Bool.and_eq_true] at h
 have hk:=h.2
 unfold Ob.mayK at hk
 split at hk
 ·have e:=Ob.sameO_iff.1 hk
  exact ⟨fun _=>congrArg OB.lis e,fun _=>⟨congrArg OB.pars e,congrArg OB.rules e⟩⟩
 split at hk
 ·unfold Ob.maySp at hk
  have e:=Ob.sameO_iff.1 (Bool.and_eq_true _ _ ▸ hk).1
  exact ⟨fun _=>congrArg OB.lis e,fun _=>⟨congrArg OB.pars e,congrArg OB.rules e⟩⟩
 split at hk
 ·unfold Ob.maySv at hk
  have e:=Ob.sameO_iff.1 (Bool.and_eq_true _ _ ▸ hk).1
  exact ⟨fun _=>congrArg OB.lis e,fun _=>⟨congrArg OB.pars e,congrArg OB.rules e⟩⟩
 split at hk
 ·have e:=Ob.sameO_iff.1 hk
  exact ⟨fun _=>congrArg OB.lis e,fun _=>⟨congrArg OB.pars e,congrArg OB.rules e⟩⟩
 split at hk
 ·rename_i h5
  unfold Ob.mayGw at hk
  have e:=Ob.sameO_iff.1 (Bool.and_eq_true _ _ ▸ hk).1
  exact ⟨fun h=>absurd h5 h,fun _=>⟨congrArg OB.pars e,congrArg OB.rules e⟩⟩
 split at hk
 ·rename_i h6
  unfold Ob.mayRt at hk
  have e:=Ob.sameO_iff.1 (Bool.and_eq_true _ _ ▸ hk).1
  exact ⟨fun _=>congrArg OB.lis e,fun h=>absurd h6 h⟩
 ·unfold Ob.mayGr at hk
  have e:=Ob.sameO_iff.1 (Bool.and_eq_true _ _ ▸ hk).1
  exact ⟨fun _=>congrArg OB.lis e,fun _=>⟨congrArg OB.pars e,congrArg OB.rules e⟩⟩
theorem aWr {x:OV} (h:Ob.mayO x.b=true):x.lis.length≤8∧x.pars.length≤4∧x.rules.length≤6∧∀ r∈x.rules,r.bs.length≤4:=by
 obtain ⟨e1,e2⟩:=aJi h
 obtain ⟨r1,r2⟩:=aGx h
 have hl:x.lis.length≤8:=by
  by_cases h5:x.ref.kind=5
  ·exact r1 h5
  ·have:x.b.lis.length=0:=by rw [e1 h5];rfl
   have e:x.b.lis.length=x.lis.length:=by unfold OV.b;simp
   omega
 by_cases h6:x.ref.kind=6
 ·exact ⟨hl,r2 h6⟩
 ·have e3:x.pars=[]:=(e2 h6).1
  have e4:x.rules.map RlV.b=[]:=(e2 h6).2
  have e5:x.rules=[]:=by simpa using e4
  rw [e3,e5]
  exact ⟨hl,by simp,by simp,by simp⟩
def dA0 (x:OV):List RfB:=if x.ref.kind=5 then Ob.ins [] ⟨1,Ob.nil,x.cls⟩ else []
def dA1 (x:OV) (k:Nat):List RfB:=(((x.lis.take k).filter fun l=>l.tls).map fun l=>aBf x.ref.space l.cert).foldl Ob.ins (dA0 x)
def dA2 (x:OV):List RfB:=if x.ref.kind=6 then Ob.ins (dA1 x x.lis.length) ⟨2,Ob.nil,x.ref.space⟩ else dA1 x x.lis.length
def dA3 (x:OV) (k:Nat):List RfB:=((x.pars.take k).map fun p=>aBf x.ref.space ⟨5,p.space,p.name⟩).foldl Ob.ins (dA2 x)
def dA4 (x:OV) (k:Nat):List RfB:=((x.rules.take k).flatMap fun r=>r.bs.map fun b=>aBf x.ref.space b.ref).foldl Ob.ins (dA3 x x.pars.length)
def dA5 (x:OV) (k j:Nat) (r:RlV):List RfB:=((r.bs.take j).map fun b=>aBf x.ref.space b.ref).foldl Ob.ins (dA4 x k)
theorem aWs {x:OV} {k:Nat} (hk:k<x.lis.length) (h:x.lis[k].tls=true):dA1 x (k+1)=Ob.ins (dA1 x k) (aBf x.ref.space x.lis[k].cert):=by
 unfold dA1
 rw [List.take_succ_eq_append_getElem hk,List.filter_append,List.filter_cons_of_pos (by simpa using h),List.filter_nil,List.map_append,List.foldl_append]
 rfl
theorem aYh {x:OV} {k:Nat} (hk:k<x.lis.length) (h:x.lis[k].tls=false):dA1 x (k+1)=dA1 x k:=by
 unfold dA1
 rw [List.take_succ_eq_append_getElem hk,List.filter_append,List.filter_cons_of_neg (by simpa using h),List.filter_nil,List.append_nil]
theorem aUt {x:OV} {k:Nat} (hk:k<x.pars.length):dA3 x (k+1)=Ob.ins (dA3 x k) (aBf x.ref.space ⟨5,x.pars[k].space,x.pars[k].name⟩):=by
 unfold dA3
 rw [List.take_succ_eq_append_getElem hk,List.map_append,List.foldl_append]
 rfl
theorem aUu {x:OV} {k j:Nat} {r:RlV} (hj:j<r.bs.length):dA5 x k (j+1) r=Ob.ins (dA5 x k j r) (aBf x.ref.space r.bs[j].ref):=by
 unfold dA5
 rw [List.take_succ_eq_append_getElem hj,List.map_append,List.foldl_append]
 rfl
theorem aWt {x:OV} {k:Nat} (hk:k<x.rules.length):dA5 x k x.rules[k].bs.length x.rules[k]=dA4 x (k+1):=by
 unfold dA5 dA4
 rw [List.take_length,List.take_succ_eq_append_getElem hk,List.flatMap_append,List.foldl_append]
 simp
theorem aWu (x:OV):(dA0 x).length≤1:=by
 unfold dA0
 split
 ·exact aK2 _ _
 ·simp
theorem aK3 (x:OV) {k:Nat} (hk:k≤8):(dA1 x k).length≤9:=by
 refine Nat.le_trans (aD8 _ _) ?_
 have h0:=aWu x
 have h1:=List.length_filter_le (fun l:LiV=>l.tls) (x.lis.take k)
 have h2:=List.length_take_le k x.lis
 rw [List.length_map]
 omega
theorem aWv (x:OV) (hl:x.lis.length≤8):(dA2 x).length≤10:=by
 have h1:=aK3 x hl
 unfold dA2
 split
 ·exact Nat.le_trans (aK2 _ _) (by omega)
 ·omega
theorem aOv (x:OV) (hl:x.lis.length≤8) {k:Nat} (hk:k≤4):(dA3 x k).length≤14:=by
 refine Nat.le_trans (aD8 _ _) ?_
 have h0:=aWv x hl
 have h2:=List.length_take_le k x.pars
 rw [List.length_map]
 omega
theorem aL3 (sp:ByteArray):∀ l:List RlV,(∀ r∈l,r.bs.length≤4)→(l.flatMap fun r=>r.bs.map fun b=>aBf sp b.ref).length≤l.length*4
 | [],_=>by simp
 | r::l,h=>by
   have h1:=h r (by simp)
   have h2:=aL3 sp l (fun s hs=>h s (by simp [hs]))
   rw [List.flatMap_cons,List.length_append,List.length_map,List.length_cons]
   omega
theorem aWw (x:OV) (hl:x.lis.length≤8) (hp:x.pars.length≤4) (hb:∀ r∈x.rules,r.bs.length≤4) {k:Nat} (hk:k≤6):(dA4 x k).length≤38:=by
 refine Nat.le_trans (aD8 _ _) ?_
 have h0:=aOv x hl hp
 have h2:=aL3 x.ref.space (x.rules.take k) (fun r hr=>hb r (List.mem_of_mem_take hr))
 have h3:=List.length_take_le k x.rules
 omega
theorem aWx (x:OV) (hl:x.lis.length≤8) (hp:x.pars.length≤4) (hb:∀ r∈x.rules,r.bs.length≤4) {k j:Nat} (hk:k≤6) (r:RlV) (hj:j≤4):(dA5 x k j r).length≤42:=by
 refine Nat.le_trans (aD8 _ _) ?_
 have h0:=aWw x hl hp hb hk
 have h2:=List.length_take_le j r.bs
 rw [List.length_map]
 omega
theorem aIa {sp:ByteArray} {α:Type} (f:α→RfB):∀ l:List α,(∀ a∈l,1≤(f a).kind)→(l.map fun a=>aBf sp (f a))=(l.map f).map (Ob.near sp)
 | [],_=>rfl
 | a::l,h=>by
   rw [List.map_cons,List.map_cons,List.map_cons,aJh (h a (by simp)),aIa f l (fun b hb=>h b (by simp [hb]))]
theorem aL4 (sp:ByteArray):∀ l:List RlV,(∀ r∈l,∀ b∈r.bs,1≤b.ref.kind)→(l.flatMap fun r=>r.bs.map fun b=>aBf sp b.ref)=((l.map RlV.b).flatMap fun r=>r.bs.map fun b=>b.ref).map (Ob.near sp)
 | [],_=>rfl
 | r::l,h=>by
   rw [List.flatMap_cons,List.map_cons,List.flatMap_cons,List.map_append,aIa (fun b:BkB=>b.ref) r.bs (fun b hb=>h r (by simp) b hb),aL4 sp l (fun s hs=>h s (by simp [hs]))]
   rfl
theorem aNc (sp:ByteArray):∀ l:List LiV,(∀ a∈l,a.tls=true→1≤a.cert.kind)→((l.filter fun l=>l.tls).map fun l=>aBf sp l.cert)=(((l.map LiV.b).filter fun l=>l.tls).map fun l=>l.cert).map (Ob.near sp)
 | [],_=>rfl
 | a::l,h=>by
   have ih:=aNc sp l (fun b hb=>h b (by simp [hb]))
   cases ht:a.tls
   ·rw [List.filter_cons_of_neg (by rw [ht];simp),List.map_cons,List.filter_cons_of_neg (by show ¬ a.tls=true;rw [ht];simp),ih]
   ·rw [List.filter_cons_of_pos (by rw [ht]),List.map_cons,List.map_cons,List.filter_cons_of_pos (by show a.tls=true;rw [ht]),List.map_cons,List.map_cons,ih,aJh (h a (by simp) ht)]
    rfl
theorem aWy {x:OV} (hm:Ob.mayO x.b=true):dA4 x x.rules.length=Ob.refsO x.b:=by
 obtain ⟨e1,e2⟩:=aJi hm
 unfold Ob.refsO
 rw [hm,if_pos rfl]
 unfold dA4 Ob.sortU
 rw [List.take_length]
 by_cases h5:x.ref.kind=5
 ·have h6:x.b.ref.kind≠6:=by show x.ref.kind≠6;omega
  have ep:x.pars=[]:=(e2 h6).1
  have er:x.rules=[]:=by simpa using (show x.rules.map RlV.b=[] from (e2 h6).2)
  have hr:Ob.rawO x.b=Ob.rawGw x.b:=by unfold Ob.rawO;rw [if_pos (show x.b.ref.kind=5 from h5)]
  have hc:∀ a∈x.lis,a.tls=true→1≤a.cert.kind:=fun a ha ht=>by
   have h1:=(Ob.cnt_iff.1 (Ob.gw_parts (Ob.may5 hm h5)).2.2.1).2.2 a.b (List.mem_map.2 ⟨a,ha,rfl⟩)
   unfold Ob.mayLi Ob.mayCert at h1
   simp only [Bool.and_eq_true] at h1
   have h2:=h1.2.2.2.1
   rw [show a.b.tls=true from ht,if_pos rfl,Bool.and_eq_true,decide_eq_true_eq] at h2
   have:a.cert.kind=4:=h2.1
   omega
  rw [er,hr]
  unfold dA3 dA2 dA1 dA0 Ob.rawGw
  rw [ep,if_neg (show ¬ x.ref.kind=6 by omega),if_pos h5,List.take_length,aNc _ _ hc]
  rfl
 ·by_cases h6:x.ref.kind=6
  ·have el:x.lis=[]:=by simpa using (show x.lis.map LiV.b=[] from e1 h5)
   have hr:Ob.rawO x.b=Ob.rawRt x.b:=by unfold Ob.rawO;rw [if_neg (show ¬ x.b.ref.kind=5 from h5),if_pos (show x.b.ref.kind=6 from h6)]
   have hb:∀ r∈x.rules,∀ b∈r.bs,1≤b.ref.kind:=fun r hr b hb=>by
    have h1:=(Ob.cnt_iff.1 (Ob.rt_parts (Ob.may6 hm h6)).2.2.2.2.2).2.2 r.b (List.mem_map.2 ⟨r,hr,rfl⟩)
    unfold Ob.mayRl at h1
    simp only [Bool.and_eq_true] at h1
    have h2:=(Ob.cnt_iff.1 h1.2.2).2.2 b hb
    unfold Ob.mayBk Ob.isKind at h2
    simp only [Bool.and_eq_true,decide_eq_true_eq] at h2
    exact h2.1.1
   rw [hr,aL4 _ _ hb]
   unfold dA3 dA2 dA1 dA0 Ob.rawRt
   rw [el,if_neg h5,if_pos h6]
   simp only [List.take_length]
   rw [aIa (fun p:PtB=>(⟨5,p.space,p.name⟩:RfB)) _ (fun _ _=>(by simp:(1:Int)≤5))]
   rw [←List.foldl_append,List.map_cons,List.map_append]
   rfl
  ·have el:x.lis=[]:=by simpa using (show x.lis.map LiV.b=[] from e1 h5)
   have ep:x.pars=[]:=(e2 h6).1
   have er:x.rules=[]:=by simpa using (show x.rules.map RlV.b=[] from (e2 h6).2)
   have hr:Ob.rawO x.b=[]:=by unfold Ob.rawO;rw [if_neg (show ¬ x.b.ref.kind=5 from h5),if_neg (show ¬ x.b.ref.kind=6 from h6)]
   rw [hr,er]
   unfold dA3 dA2 dA1 dA0
   rw [el,ep,if_neg h5,if_neg h6]
   rfl
end Go.Proofs.YthfnjcbiiofkhaaGreatDoor
namespace Go.Proofs.YthfnjcbiiofkhaaGreatDoor
open Go Go.RowKit Go.Shelf
attribute [local go_sem] aAr
theorem aSt (x:OV) (w:World) (hx:x.at_ w) (ok:OkO x) (hm:Ob.mayO x.b=true) :
  Calls Tryz.prog 14 #[oV x] w fun e w'=>∃ v',e=.returned v'∧Sl ER w' v' (dA4 x x.rules.length)∧Below w.heap.size w w':=by
 obtain ⟨X,hX⟩:∃ z,z=w.alloc (.cells #[.int .i64 x.ref.kind,.string x.ref.space,.string x.ref.name,.bool x.good,x.vl,x.vp,.string x.cls,x.vi,x.vq,x.vh,x.vr,x.vf,x.vo] 32):=⟨_,rfl⟩
 have B1:Below w.heap.size w X:=by rw [hX];exact (Below.refl _ _).alloc (Nat.le_refl _) _
 have K0:X.heap[w.heap.size]?=some (.cells #[.int .i64 x.ref.kind,.string x.ref.space,.string x.ref.name,.bool x.good,x.vl,x.vp,.string x.cls,x.vi,x.vq,x.vh,x.vr,x.vf,x.vo] 32):=by rw [hX];exact aA7 _ _
 have HK0:=hide K0
 have HB1:=hide B1
 have HX:=hide hx
 have HBND:=hide (aWr hm)
 have CM:=hide (show Calls Tryz.prog 8 #[.agg #[.int .i64 x.ref.kind,.string x.ref.space,.string x.ref.name,.bool x.good,x.vl,x.vp,.string x.cls,x.vi,x.vq,x.vh,x.vr,x.vf,x.vo]] X fun e w'=>e=.returned (.bool true)∧Below X.heap.size X w' from by have:=aH0 x X (hx.below B1) ok;rw [hm] at this;exact this)
 clear B1 K0 hx ok hm
 go_enter Tryz.func14,Tryz.ntmps14
 go_wp2_with fail
 rw [←hX]
 clear hX
 refine CM.out.mono ?_
 rintro e w1 ⟨rfl,hb1⟩
 have kb:=aA0 HK0.out hb1
 have o0:w1.cell? ⟨w.heap.size,0,none⟩=some (.int .i64 x.ref.kind):=aA2 kb (i:=0) rfl
 have o6:w1.cell? ⟨w.heap.size,6,none⟩=some (.string x.cls):=aA2 kb (i:=6) rfl
 have HB2:=hide hb1
 clear CM kb hb1
 go_upto_if 14 with fail
 go_cut [3] from 11 (fun o wx=>∃ v:Value,v=o∧Sl ER wx v (dA0 x)∧Below X.heap.size X wx)
 case first =>
  cases h5:(x.ref.kind == 5)
  ·have HA:Hid (dA0 x=[]):=by
    unfold Hid dA0
    rw [if_neg (by simpa using h5)]
   go_wp2_with fail
   go_meet
   case rel=>exact ⟨_,rfl,by rw [HA.out];exact Sl.nil _,HB2.out⟩
  ·have HA:Hid (dA0 x=Ob.ins [] ⟨1,Ob.nil,x.cls⟩):=by
    unfold Hid dA0
    rw [if_pos (by simpa using h5)]
   go_wp2_with fail
   refine (aFl _ [] ⟨1,Ob.nil,x.cls⟩ _ (Sl.nil _) (by simp)).mono ?_
   rintro e w3 ⟨v3,rfl,hs3,hb3⟩
   have HS3:=hide hs3
   clear hs3
   go_wp2_with fail
   go_meet
   case rel=>exact ⟨_,rfl,by rw [HA.out];exact HS3.out,bb2 HB2.out hb3⟩
 case rest =>
  obtain ⟨v1,rfl,hs1,hB4⟩:=hcut
  have HS1:Hid (Sl ER wc v1 (dA1 x 0)):=hide hs1
  have HB4:=hide hB4
  clear hs1 hB4 HB2 o0 o6
  go_wp2_with fail
  go_loopw [3,4] (fun o i wr=>∃ (k:Nat) (v:Value),k≤x.lis.length∧v=o∧i=.int .i64 k∧Sl ER wr v (dA1 x k)∧Below X.heap.size X wr) (fun _ i _=>x.lis.length - (intOf i).toNat)
  case atStart=>exact ⟨0,_,Nat.zero_le _,rfl,rfl,HS1.out,HB4.out⟩
  case round =>
   clear HS1 HB4
   obtain ⟨k,v,hk,rfl,rfl,hs,hB⟩:=hrel
   have hBw:=bb2 HB1.out hB
   have hlen:=HX.out.lis.len
   have m7:∀ W,Below wr.heap.size wr W→W.cell? ⟨w.heap.size,7,none⟩=some (.slice x.ai x.lis.length x.ci):=fun W h=>aA2 (aA0 HK0.out (bb2 hB h)) (i:=7) rfl
   have m1:∀ W,Below wr.heap.size wr W→W.cell? ⟨w.heap.size,1,none⟩=some (.string x.ref.space):=fun W h=>aA2 (aA0 HK0.out (bb2 hB h)) (i:=1) rfl
   have o7:=m7 wr (Below.refl _ _)
   have o1:=m1 wr (Below.refl _ _)
   by_cases hlt:k<x.lis.length
   ·have hlt':(k:Int)<(x.lis.length:Int):=by omega
    obtain ⟨_,g,off,ha,hg,p0,p1,p2,p3,p4,p5,p6,p7,p8⟩:=aD9 HX.out.lis hBw hlt
    rw [ha] at o7 m7
    have e0:=fun W (h:Below wr.heap.size wr W)=>(h.cell (p:=⟨g,off+k*9,none⟩) (Nat.lt_of_lt_of_le hg hBw.size)).trans p0
    have e1:=fun W (h:Below wr.heap.size wr W)=>(h.cell (p:=⟨g,off+k*9+1,none⟩) (Nat.lt_of_lt_of_le hg hBw.size)).trans p1
    have e2:=fun W (h:Below wr.heap.size wr W)=>(h.cell (p:=⟨g,off+k*9+2,none⟩) (Nat.lt_of_lt_of_le hg hBw.size)).trans p2
    have e3:=fun W (h:Below wr.heap.size wr W)=>(h.cell (p:=⟨g,off+k*9+3,none⟩) (Nat.lt_of_lt_of_le hg hBw.size)).trans p3
    have e4:=fun W (h:Below wr.heap.size wr W)=>(h.cell (p:=⟨g,off+k*9+4,none⟩) (Nat.lt_of_lt_of_le hg hBw.size)).trans p4
    have e5:=fun W (h:Below wr.heap.size wr W)=>(h.cell (p:=⟨g,off+k*9+5,none⟩) (Nat.lt_of_lt_of_le hg hBw.size)).trans p5
    have e6:=fun W (h:Below wr.heap.size wr W)=>(h.cell (p:=⟨g,off+k*9+6,none⟩) (Nat.lt_of_lt_of_le hg hBw.size)).trans p6
    have e7:=fun W (h:Below wr.heap.size wr W)=>(h.cell (p:=⟨g,off+k*9+7,none⟩) (Nat.lt_of_lt_of_le hg hBw.size)).trans p7
    have e8:=fun W (h:Below wr.heap.size wr W)=>(h.cell (p:=⟨g,off+k*9+8,none⟩) (Nat.lt_of_lt_of_le hg hBw.size)).trans p8
    cases ht:x.lis[k].tls
    ·have HN:Hid (dA1 x (k+1)=dA1 x k):=aYh hlt ht
     rw [ht] at p2
     have HS:=hide hs
     clear ht ha hg hs
     go_wp2_with fail
     exact ⟨⟨k+1,v,by omega,rfl,by go_num,by rw [HN.out];exact HS.out,hB⟩,by simp [intOf];omega⟩
    ·have HN:Hid (dA1 x (k+1)=Ob.ins (dA1 x k) (aBf x.ref.space x.lis[k].cert)):=aWs hlt ht
     have HBD:=HBND.out
     have CI:=fun W (h:Below wr.heap.size wr W)=>aFl v (dA1 x k) (aBf x.ref.space x.lis[k].cert) W (hs.below h) (Nat.le_trans (aK3 x (by have:=HBD.1;omega)) (by decide))
     rw [ht] at p2
     clear ht ha hg hs HBD p0 p1 p3 p4 p5 p6 p7 p8 e0 e1 e2 e3 e7 e8
     have CN:=fun W=>hide (aGf x.lis[k].cert x.ref.space W)
     generalize aBf x.ref.space x.lis[k].cert=dn at *
     go_wp2_with fail
     refine wp_region_noPanic ?_
     refine wp_region_held_drew (S:=fun W=>Below (wr).heap.size (wr) W) (by kernel_rfl) ((Below.refl _ _).drew) (fun hHeld=>?_)
     refine zzH 0 ?_ rfl ?_ ?_
     rotate_left 1
     ·(intro W hSw;(try dsimp only at hSw);go_simp;(try with_reducible rfl))
     try simp only [Act.put,zzB,zzC,zzD]
     refine zzH 1 ?_ rfl ?_ ?_
     rotate_left 1
     ·(intro W hSw;(try dsimp only at hSw);go_simp;(try with_reducible rfl))
     try simp only [Act.put,zzB,zzC,zzD]
     refine zzH 2 ?_ rfl ?_ ?_
     rotate_left 1
     ·(intro W hSw;(try dsimp only at hSw);have q:=m7 W hSw;go_simp;(try with_reducible rfl))
     try simp only [Act.put,zzB,zzC,zzD]
     refine zzH 3 ?_ rfl ?_ ?_
     rotate_left 1
     ·(intro W hSw;(try dsimp only at hSw);go_simp;(try with_reducible rfl))
     try simp only [Act.put,zzB,zzC,zzD]
     refine zzH 4 ?_ rfl ?_ ?_
     rotate_left 1
     ·(intro W hSw;(try dsimp only at hSw);go_simp;(try with_reducible rfl))
     try simp only [Act.put,zzB,zzC,zzD]
     refine zzH 5 ?_ rfl ?_ ?_
     rotate_left 1
     ·(intro W hSw;(try dsimp only at hSw);go_simp;(try with_reducible rfl))
     try simp only [Act.put,zzB,zzC,zzD]
     refine zzH 6 ?_ rfl ?_ ?_
     rotate_left 1
     ·(intro W hSw;(try dsimp only at hSw);have q0:=e4 W hSw ;have q1:=e5 W hSw ;have q2:=e6 W hSw;go_simp;(try with_reducible rfl))
     try simp only [Act.put,zzB,zzC,zzD]
     refine zzH 7 ?_ rfl ?_ ?_
     rotate_left 1
     ·(intro W hSw;(try dsimp only at hSw);go_simp;(try with_reducible rfl))
     try simp only [Act.put,zzB,zzC,zzD]
     refine zzH 8 ?_ rfl ?_ ?_
     rotate_left 1
     ·(intro W hSw;(try dsimp only at hSw);go_simp;(try with_reducible rfl))
     try simp only [Act.put,zzB,zzC,zzD]
     refine zzH 9 ?_ rfl ?_ ?_
     rotate_left 1
     ·(intro W hSw;(try dsimp only at hSw);have q:=m1 W hSw;go_simp;(try with_reducible rfl))
     try simp only [Act.put,zzB,zzC,zzD]
     refine wpAnyH_ready (rs:=[10]) (by kernel_rfl) (by simp) ?_
     refine AllReadyH.cons (op_at (rest:=_) rfl) (fun K hK=>?_) AllReadyH.nil
     go_simp
     refine ((CN _).out).mono ?_
     rintro e w5 ⟨rfl,hb5⟩
     go_wp2_with fail
     replace hHeld:=hHeld.trans (hb5.mono hHeld.size)
     refine hK.out _ _ hHeld (fun _=>?_)
     clear hK K
     try simp only [Act.put,zzB,zzC,zzD]
     refine wpAnyH_ready (rs:=[11]) (by kernel_rfl) (by simp) ?_
     refine AllReadyH.cons (op_at (rest:=_) rfl) (fun K hK=>?_) AllReadyH.nil
     go_simp
     refine (CI _ hHeld).mono ?_
     rintro e w6 ⟨v6,rfl,hs6,hb6⟩
     go_wp2_with fail
     replace hHeld:=hHeld.trans (hb6.mono hHeld.size)
     refine hK.out _ _ hHeld (fun _=>?_)
     clear hK K
     try simp only [Act.put,zzB,zzC,zzD]
     refine zzH 12 ?_ rfl ?_ ?_
     rotate_left 1
     ·(intro W hSw;(try dsimp only at hSw);go_simp;(try with_reducible rfl))
     try simp only [Act.put,zzB,zzC,zzD]
     refine wpAnyH_done (by kernel_rfl) ?_ _
     refine NoPanic.normal ?_
     go_wp2_with fail
     exact ⟨⟨k+1,v6,by omega,rfl,by go_num,by rw [HN.out];exact hs6,bb2 hB hHeld⟩,by simp [intOf];omega⟩
   ·have hlt':¬ (k:Int)<(x.lis.length:Int):=by omega
    obtain rfl:k=x.lis.length:=by omega
    have HS:=hide hs
    have o0:wr.cell? ⟨w.heap.size,0,none⟩=some (.int .i64 x.ref.kind):=aA2 (aA0 HK0.out hB) (i:=0) rfl
    clear hs m7 m1
    go_upto_if 48 with fail
    go_cut [3] from 45 (fun o wx=>∃ v:Value,v=o∧Sl ER wx v (dA2 x)∧Below X.heap.size X wx)
    case first =>
     cases h6:(x.ref.kind == 6)
     ·have HA:Hid (dA2 x=dA1 x x.lis.length):=by
       unfold Hid dA2
       rw [if_neg (by simpa using h6)]
      go_wp2_with fail
      go_meet
      case rel=>exact ⟨_,rfl,by rw [HA.out];exact HS.out,hB⟩
     ·have HA:Hid (dA2 x=Ob.ins (dA1 x x.lis.length) ⟨2,Ob.nil,x.ref.space⟩):=by
       unfold Hid dA2
       rw [if_pos (by simpa using h6)]
      have HBD:=HBND.out
      go_wp2_with fail
      refine (aFl _ (dA1 x x.lis.length) ⟨2,Ob.nil,x.ref.space⟩ _ HS.out (Nat.le_trans (aK3 x HBD.1) (by decide))).mono ?_
      rintro e w3 ⟨v3,rfl,hs3,hb3⟩
      have HS3:=hide hs3
      clear hs3
      go_wp2_with fail
      go_meet
      case rel=>exact ⟨_,rfl,by rw [HA.out];exact HS3.out,bb2 hB hb3⟩
    case rest =>
     obtain ⟨v1,rfl,hs1,hB4⟩:=hcut
     have HS1:Hid (Sl ER wc v1 (dA3 x 0)):=hide hs1
     have HB4:=hide hB4
     clear hs1 hB4 HS hB hBw o0 o1 o7 hlen hlt hlt' hk
     go_wp2_with fail
     go_loopw [3,5] (fun o i wr=>∃ (k:Nat) (v:Value),k≤x.pars.length∧v=o∧i=.int .i64 k∧Sl ER wr v (dA3 x k)∧Below X.heap.size X wr) (fun _ i _=>x.pars.length - (intOf i).toNat)
     case atStart=>exact ⟨0,_,Nat.zero_le _,rfl,rfl,HS1.out,HB4.out⟩
     case round =>
      clear HS1 HB4
      obtain ⟨k,v,hk,rfl,rfl,hs,hB⟩:=hrel
      have hBw:=bb2 HB1.out hB
      have hlen:=HX.out.pars.len
      have m8:∀ W,Below wr.heap.size wr W→W.cell? ⟨w.heap.size,8,none⟩=some (.slice x.aq x.pars.length x.cq):=fun W h=>aA2 (aA0 HK0.out (bb2 hB h)) (i:=8) rfl
      have m1:∀ W,Below wr.heap.size wr W→W.cell? ⟨w.heap.size,1,none⟩=some (.string x.ref.space):=fun W h=>aA2 (aA0 HK0.out (bb2 hB h)) (i:=1) rfl
      have o8:=m8 wr (Below.refl _ _)
      have o1:=m1 wr (Below.refl _ _)
      by_cases hlt:k<x.pars.length
      ·have hlt':(k:Int)<(x.pars.length:Int):=by omega
       obtain ⟨_,g,off,ha,hg,p0,p1,p2,p3⟩:=aD5 HX.out.pars hBw hlt
       rw [ha] at o8 m8
       have e0:=fun W (h:Below wr.heap.size wr W)=>(h.cell (p:=⟨g,off+k*4,none⟩) (Nat.lt_of_lt_of_le hg hBw.size)).trans p0
       have e1:=fun W (h:Below wr.heap.size wr W)=>(h.cell (p:=⟨g,off+k*4+1,none⟩) (Nat.lt_of_lt_of_le hg hBw.size)).trans p1
       have HN:Hid (dA3 x (k+1)=Ob.ins (dA3 x k) (aBf x.ref.space ⟨5,x.pars[k].space,x.pars[k].name⟩)):=aUt hlt
       have HBD:=HBND.out
       have CI:=fun W (h:Below wr.heap.size wr W)=>aFl v (dA3 x k) (aBf x.ref.space ⟨5,x.pars[k].space,x.pars[k].name⟩) W (hs.below h) (Nat.le_trans (aOv x HBD.1 (by have:=HBD.2.1;omega)) (by decide))
       have CN:=fun W=>hide (aGf ⟨5,x.pars[k].space,x.pars[k].name⟩ x.ref.space W)
       clear ha hg hs HBD p0 p1 p2 p3
       generalize aBf x.ref.space ⟨5,x.pars[k].space,x.pars[k].name⟩=dn at *
       go_wp2_with fail
       refine wp_region_noPanic ?_
       refine wp_region_held_drew (S:=fun W=>Below (wr).heap.size (wr) W) (by kernel_rfl) ((Below.refl _ _).drew) (fun hHeld=>?_)
       refine zzH 0 ?_ rfl ?_ ?_
       rotate_left 1
       ·(intro W hSw;(try dsimp only at hSw);go_simp;(try with_reducible rfl))
       try simp only [Act.put,zzB,zzC,zzD]
       refine zzH 1 ?_ rfl ?_ ?_
       rotate_left 1
       ·(intro W hSw;(try dsimp only at hSw);go_simp;(try with_reducible rfl))
       try simp only [Act.put,zzB,zzC,zzD]
       refine zzH 2 ?_ rfl ?_ ?_
       rotate_left 1
       ·(intro W hSw;(try dsimp only at hSw);have q:=m8 W hSw;go_simp;(try with_reducible rfl))
       try simp only [Act.put,zzB,zzC,zzD]
       refine zzH 3 ?_ rfl ?_ ?_
       rotate_left 1
       ·(intro W hSw;(try dsimp only at hSw);go_simp;(try with_reducible rfl))
       try simp only [Act.put,zzB,zzC,zzD]
       refine zzH 4 ?_ rfl ?_ ?_
       rotate_left 1
       ·(intro W hSw;(try dsimp only at hSw);go_simp;(try with_reducible rfl))
       try simp only [Act.put,zzB,zzC,zzD]
       refine zzH 5 ?_ rfl ?_ ?_
       rotate_left 1
       ·(intro W hSw;(try dsimp only at hSw);go_simp;(try with_reducible rfl))
       try simp only [Act.put,zzB,zzC,zzD]
       refine zzH 6 ?_ rfl ?_ ?_
       rotate_left 1
       ·(intro W hSw;(try dsimp only at hSw);have q0:=e0 W hSw;go_simp;(try with_reducible rfl))
       try simp only [Act.put,zzB,zzC,zzD]
       refine zzH 7 ?_ rfl ?_ ?_
       rotate_left 1
       ·(intro W hSw;(try dsimp only at hSw);go_simp;(try with_reducible rfl))
       try simp only [Act.put,zzB,zzC,zzD]
       refine zzH 8 ?_ rfl ?_ ?_
       rotate_left 1
       ·(intro W hSw;(try dsimp only at hSw);have q:=m8 W hSw;go_simp;(try with_reducible rfl))
       try simp only [Act.put,zzB,zzC,zzD]
       refine zzH 9 ?_ rfl ?_ ?_
       rotate_left 1
       ·(intro W hSw;(try dsimp only at hSw);go_simp;(try with_reducible rfl))
       try simp only [Act.put,zzB,zzC,zzD]
       refine zzH 10 ?_ rfl ?_ ?_
       rotate_left 1
       ·(intro W hSw;(try dsimp only at hSw);go_simp;(try with_reducible rfl))
       try simp only [Act.put,zzB,zzC,zzD]
       refine zzH 11 ?_ rfl ?_ ?_
       rotate_left 1
       ·(intro W hSw;(try dsimp only at hSw);go_simp;(try with_reducible rfl))
       try simp only [Act.put,zzB,zzC,zzD]
       refine zzH 12 ?_ rfl ?_ ?_
       rotate_left 1
       ·(intro W hSw;(try dsimp only at hSw);have q0:=e1 W hSw;go_simp;(try with_reducible rfl))
       try simp only [Act.put,zzB,zzC,zzD]
       refine zzH 13 ?_ rfl ?_ ?_
       rotate_left 1
       ·(intro W hSw;(try dsimp only at hSw);go_simp;(try with_reducible rfl))
       try simp only [Act.put,zzB,zzC,zzD]
       refine zzH 14 ?_ rfl ?_ ?_
       rotate_left 1
       ·(intro W hSw;(try dsimp only at hSw);go_simp;(try with_reducible rfl))
       try simp only [Act.put,zzB,zzC,zzD]
       refine zzH 15 ?_ rfl ?_ ?_
       rotate_left 1
       ·(intro W hSw;(try dsimp only at hSw);go_simp;(try with_reducible rfl))
       try simp only [Act.put,zzB,zzC,zzD]
       refine zzH 16 ?_ rfl ?_ ?_
       rotate_left 1
       ·(intro W hSw;(try dsimp only at hSw);have q:=m1 W hSw;go_simp;(try with_reducible rfl))
       try simp only [Act.put,zzB,zzC,zzD]
       refine wpAnyH_ready (rs:=[17]) (by kernel_rfl) (by simp) ?_
       refine AllReadyH.cons (op_at (rest:=_) rfl) (fun K hK=>?_) AllReadyH.nil
       go_simp
       refine ((CN _).out).mono ?_
       rintro e w5 ⟨rfl,hb5⟩
       go_wp2_with fail
       replace hHeld:=hHeld.trans (hb5.mono hHeld.size)
       refine hK.out _ _ hHeld (fun _=>?_)
       clear hK K
       try simp only [Act.put,zzB,zzC,zzD]
       refine wpAnyH_ready (rs:=[18]) (by kernel_rfl) (by simp) ?_
       refine AllReadyH.cons (op_at (rest:=_) rfl) (fun K hK=>?_) AllReadyH.nil
       go_simp
       refine (CI _ hHeld).mono ?_
       rintro e w6 ⟨v6,rfl,hs6,hb6⟩
       go_wp2_with fail
       replace hHeld:=hHeld.trans (hb6.mono hHeld.size)
       refine hK.out _ _ hHeld (fun _=>?_)
       clear hK K
       try simp only [Act.put,zzB,zzC,zzD]
       refine zzH 19 ?_ rfl ?_ ?_
       rotate_left 1
       ·(intro W hSw;(try dsimp only at hSw);go_simp;(try with_reducible rfl))
       try simp only [Act.put,zzB,zzC,zzD]
       refine wpAnyH_done (by kernel_rfl) ?_ _
       refine NoPanic.normal ?_
       go_wp2_with fail
       exact ⟨⟨k+1,v6,by omega,rfl,by go_num,by rw [HN.out];exact hs6,bb2 hB hHeld⟩,by simp [intOf];omega⟩
      ·have hlt':¬ (k:Int)<(x.pars.length:Int):=by omega
       obtain rfl:k=x.pars.length:=by omega
       have HS4:Hid (Sl ER wr v (dA4 x 0)):=hide hs
       have HB5:=hide hB
       clear hs m8 m1 hBw
       go_wp2_with fail
       clear o8 o1 hlen hlt hlt' hk hB
       go_loopw [3,6] (fun o i wr=>∃ (k:Nat) (v:Value),k≤x.rules.length∧v=o∧i=.int .i64 k∧Sl ER wr v (dA4 x k)∧Below X.heap.size X wr) (fun _ i _=>x.rules.length - (intOf i).toNat)
       case atStart=>exact ⟨0,_,Nat.zero_le _,rfl,rfl,HS4.out,HB5.out⟩
       case round =>
        clear HS4 HB5
        obtain ⟨k,v,hk,rfl,rfl,hs,hB⟩:=hrel
        have hBw:=bb2 HB1.out hB
        have hlen:=HX.out.rules.len
        have m10:∀ W,Below wr.heap.size wr W→W.cell? ⟨w.heap.size,10,none⟩=some (.slice x.ar x.rules.length x.cr):=fun W h=>aA2 (aA0 HK0.out (bb2 hB h)) (i:=10) rfl
        have o10:=m10 wr (Below.refl _ _)
        by_cases hlt:k<x.rules.length
        ·have hlt':(k:Int)<(x.rules.length:Int):=by omega
         have HS5:Hid (Sl ER wr v (dA5 x k 0 x.rules[k])):=hide hs
         have HBR:Hid (x.rules[k].bs.length≤4):=hide (HBND.out.2.2.2 _ (List.getElem_mem hlt))
         have HB5:=hide hB
         clear hs m10 hBw
         go_wp2_with fail
         go_loopw [3,7] (fun o i wr=>∃ (j:Nat) (v:Value),j≤x.rules[k].bs.length∧v=o∧i=.int .i64 j∧Sl ER wr v (dA5 x k j x.rules[k])∧Below X.heap.size X wr) (fun _ i _=>x.rules[k].bs.length - (intOf i).toNat)
         case atStart=>exact ⟨0,_,Nat.zero_le _,rfl,rfl,HS5.out,HB5.out⟩
         case round =>
          clear HS5 HB5 o10 hB
          obtain ⟨j,v,hj,rfl,rfl,hs,hB⟩:=hrel
          have hBw:=bb2 HB1.out hB
          have m10:∀ W,Below wr.heap.size wr W→W.cell? ⟨w.heap.size,10,none⟩=some (.slice x.ar x.rules.length x.cr):=fun W h=>aA2 (aA0 HK0.out (bb2 hB h)) (i:=10) rfl
          have m1:∀ W,Below wr.heap.size wr W→W.cell? ⟨w.heap.size,1,none⟩=some (.string x.ref.space):=fun W h=>aA2 (aA0 HK0.out (bb2 hB h)) (i:=1) rfl
          have o10:=m10 wr (Below.refl _ _)
          have o1:=m1 wr (Below.refl _ _)
          obtain ⟨hE,g,off,ha,hg,p0,p1,p2⟩:=aEd HX.out.rules hBw hlt
          have hE2:x.rules[k].at_ wr:=hE
          rw [ha] at o10 m10
          have er:=fun W (h:Below wr.heap.size wr W)=>(h.cell (p:=⟨g,off+k*3+2,none⟩) (Nat.lt_of_lt_of_le hg hBw.size)).trans p2
          have hbl:=HBR.out
          by_cases hjl:j<x.rules[k].bs.length
          ·have hjl':(j:Int)<(x.rules[k].bs.length:Int):=by omega
           obtain ⟨_,g2,off2,hab,hg2,b0,b1,b2,_⟩:=oneK hE2.bs (Below.refl _ _) hjl
           unfold RlV.vb at p2 er
           rw [hab] at p2 er
           have e0:=fun W (h:Below wr.heap.size wr W)=>(h.cell (p:=⟨g2,off2+j*5,none⟩) hg2).trans b0
           have e1:=fun W (h:Below wr.heap.size wr W)=>(h.cell (p:=⟨g2,off2+j*5+1,none⟩) hg2).trans b1
           have e2:=fun W (h:Below wr.heap.size wr W)=>(h.cell (p:=⟨g2,off2+j*5+2,none⟩) hg2).trans b2
           have HN:Hid (dA5 x k (j+1) x.rules[k]=Ob.ins (dA5 x k j x.rules[k]) (aBf x.ref.space x.rules[k].bs[j].ref)):=aUu hjl
           have HBD:=HBND.out
           have CI:=fun W (h:Below wr.heap.size wr W)=>aFl v (dA5 x k j x.rules[k]) (aBf x.ref.space x.rules[k].bs[j].ref) W (hs.below h) (Nat.le_trans (aWx x HBD.1 HBD.2.1 HBD.2.2.2 (by have:=HBD.2.2.1;omega) _ (by omega)) (by decide))
           have CN:=fun W=>hide (aGf x.rules[k].bs[j].ref x.ref.space W)
           clear ha hg hs HBD p0 p1 hE hE2 hab hg2 b0 b1 b2
           generalize aBf x.ref.space x.rules[k].bs[j].ref=dn at *
           go_wp2_with fail
           refine wp_region_noPanic ?_
           refine wp_region_held_drew (S:=fun W=>Below (wr).heap.size (wr) W) (by kernel_rfl) ((Below.refl _ _).drew) (fun hHeld=>?_)
           refine zzH 0 ?_ rfl ?_ ?_
           rotate_left 1
           ·(intro W hSw;(try dsimp only at hSw);go_simp;(try with_reducible rfl))
           try simp only [Act.put,zzB,zzC,zzD]
           refine zzH 1 ?_ rfl ?_ ?_
           rotate_left 1
           ·(intro W hSw;(try dsimp only at hSw);go_simp;(try with_reducible rfl))
           try simp only [Act.put,zzB,zzC,zzD]
           refine zzH 2 ?_ rfl ?_ ?_
           rotate_left 1
           ·(intro W hSw;(try dsimp only at hSw);have q:=m10 W hSw;go_simp;(try with_reducible rfl))
           try simp only [Act.put,zzB,zzC,zzD]
           refine zzH 3 ?_ rfl ?_ ?_
           rotate_left 1
           ·(intro W hSw;(try dsimp only at hSw);go_simp;(try with_reducible rfl))
           try simp only [Act.put,zzB,zzC,zzD]
           refine zzH 4 ?_ rfl ?_ ?_
           rotate_left 1
           ·(intro W hSw;(try dsimp only at hSw);go_simp;(try with_reducible rfl))
           try simp only [Act.put,zzB,zzC,zzD]
           refine zzH 5 ?_ rfl ?_ ?_
           rotate_left 1
           ·(intro W hSw;(try dsimp only at hSw);go_simp;(try with_reducible rfl))
           try simp only [Act.put,zzB,zzC,zzD]
           refine zzH 6 ?_ rfl ?_ ?_
           rotate_left 1
           ·(intro W hSw;(try dsimp only at hSw);have q:=er W hSw;go_simp;(try with_reducible rfl))
           try simp only [Act.put,zzB,zzC,zzD]
           refine zzH 7 ?_ rfl ?_ ?_
           rotate_left 1
           ·(intro W hSw;(try dsimp only at hSw);go_simp;(try with_reducible rfl))
           try simp only [Act.put,zzB,zzC,zzD]
           refine zzH 8 ?_ rfl ?_ ?_
           rotate_left 1
           ·(intro W hSw;(try dsimp only at hSw);go_simp;(try with_reducible rfl))
           try simp only [Act.put,zzB,zzC,zzD]
           refine zzH 9 ?_ rfl ?_ ?_
           rotate_left 1
           ·(intro W hSw;(try dsimp only at hSw);go_simp;(try with_reducible rfl))
           try simp only [Act.put,zzB,zzC,zzD]
           refine zzH 10 ?_ rfl ?_ ?_
           rotate_left 1
           ·(intro W hSw;(try dsimp only at hSw);have q0:=e0 W hSw ;have q1:=e1 W hSw ;have q2:=e2 W hSw;go_simp;(try with_reducible rfl))
           try simp only [Act.put,zzB,zzC,zzD]
           refine zzH 11 ?_ rfl ?_ ?_
           rotate_left 1
           ·(intro W hSw;(try dsimp only at hSw);go_simp;(try with_reducible rfl))
           try simp only [Act.put,zzB,zzC,zzD]
           refine zzH 12 ?_ rfl ?_ ?_
           rotate_left 1
           ·(intro W hSw;(try dsimp only at hSw);go_simp;(try with_reducible rfl))
           try simp only [Act.put,zzB,zzC,zzD]
           refine zzH 13 ?_ rfl ?_ ?_
           rotate_left 1
           ·(intro W hSw;(try dsimp only at hSw);have q:=m1 W hSw;go_simp;(try with_reducible rfl))
           try simp only [Act.put,zzB,zzC,zzD]
           refine wpAnyH_ready (rs:=[14]) (by kernel_rfl) (by simp) ?_
           refine AllReadyH.cons (op_at (rest:=_) rfl) (fun K hK=>?_) AllReadyH.nil
           go_simp
           refine ((CN _).out).mono ?_
           rintro e w5 ⟨rfl,hb5⟩
           go_wp2_with fail
           replace hHeld:=hHeld.trans (hb5.mono hHeld.size)
           refine hK.out _ _ hHeld (fun _=>?_)
           clear hK K
           try simp only [Act.put,zzB,zzC,zzD]
           refine wpAnyH_ready (rs:=[15]) (by kernel_rfl) (by simp) ?_
           refine AllReadyH.cons (op_at (rest:=_) rfl) (fun K hK=>?_) AllReadyH.nil
           go_simp
           refine (CI _ hHeld).mono ?_
           rintro e w6 ⟨v6,rfl,hs6,hb6⟩
           go_wp2_with fail
           replace hHeld:=hHeld.trans (hb6.mono hHeld.size)
           refine hK.out _ _ hHeld (fun _=>?_)
           clear hK K
           try simp only [Act.put,zzB,zzC,zzD]
           refine zzH 16 ?_ rfl ?_ ?_
           rotate_left 1
           ·(intro W hSw;(try dsimp only at hSw);go_simp;(try with_reducible rfl))
           try simp only [Act.put,zzB,zzC,zzD]
           refine wpAnyH_done (by kernel_rfl) ?_ _
           refine NoPanic.normal ?_
           go_wp2_with fail
           exact ⟨⟨j+1,v6,by omega,rfl,by go_num,by rw [HN.out];exact hs6,bb2 hB hHeld⟩,by simp [intOf];omega⟩
          ·have hjl':¬ (j:Int)<(x.rules[k].bs.length:Int):=by omega
           have HSE:Hid (Sl ER wr v (dA4 x (k+1))):=by
            unfold Hid
            rw [←aWt hlt]
            have:j=x.rules[k].bs.length:=by omega
            rw [←this]
            exact hs
           clear hs hE hE2 ha hg p0 p1 er m10 m1
           go_wp2_with fail
           exact ⟨⟨k+1,v,by omega,rfl,by go_num,HSE.out,hB⟩,by simp [intOf];omega⟩
        ·have hlt':¬ (k:Int)<(x.rules.length:Int):=by omega
         obtain rfl:k=x.rules.length:=by omega
         have HS:=hide hs
         clear hs m10
         go_wp2_with fail
         go_ret
         exact ⟨_,rfl,HS.out,hBw⟩
theorem aUv (x:OV) (w:World) (hx:x.at_ w) (ok:OkO x) (hm:Ob.mayO x.b=false) :
  Calls Tryz.prog 14 #[oV x] w fun e w'=>∃ v',e=.returned v'∧Sl ER w' v' (Ob.refsO x.b)∧Below w.heap.size w w':=by
 obtain ⟨X,hX⟩:∃ z,z=w.alloc (.cells #[.int .i64 x.ref.kind,.string x.ref.space,.string x.ref.name,.bool x.good,x.vl,x.vp,.string x.cls,x.vi,x.vq,x.vh,x.vr,x.vf,x.vo] 32):=⟨_,rfl⟩
 have B1:Below w.heap.size w X:=by rw [hX];exact (Below.refl _ _).alloc (Nat.le_refl _) _
 have HB1:=hide B1
 have HR:Hid (Ob.refsO x.b=[]):=by
  unfold Hid Ob.refsO
  rw [hm]
  rfl
 have CM:=hide (show Calls Tryz.prog 8 #[.agg #[.int .i64 x.ref.kind,.string x.ref.space,.string x.ref.name,.bool x.good,x.vl,x.vp,.string x.cls,x.vi,x.vq,x.vh,x.vr,x.vf,x.vo]] X fun e w'=>e=.returned (.bool false)∧Below X.heap.size X w' from by have:=aH0 x X (hx.below B1) ok;rw [hm] at this;exact this)
 clear B1 hx ok hm
 go_enter Tryz.func14,Tryz.ntmps14
 go_wp2_with fail
 rw [←hX]
 clear hX
 refine CM.out.mono ?_
 rintro e w1 ⟨rfl,hb1⟩
 go_wp2_with fail
 go_ret
 exact ⟨_,rfl,by rw [HR.out];exact Sl.nil _,bb2 HB1.out hb1⟩
theorem aSu (x:OV) (w:World) (hx:x.at_ w) (ok:OkO x) :
  Calls Tryz.prog 14 #[oV x] w fun e w'=>∃ v',e=.returned v'∧Sl ER w' v' (Ob.refsO x.b)∧Below w.heap.size w w':=by
 cases hm:Ob.mayO x.b
 ·exact aUv x w hx ok hm
 ·have:=aSt x w hx ok hm
  rw [aWy hm] at this
  exact this
end Go.Proofs.YthfnjcbiiofkhaaGreatDoor
