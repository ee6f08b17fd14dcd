/-
  Walks of the leaves: inLabel, Label.
-/
import Derived.Test.YthnodpdiocppgaaGreatDoorJ2
import Derived.Test.YthnodpdiocppgaaGreatDoorJ1
import Derived.RangeFuncNested
import Derived.RangeFuncBound
import Derived.RangeFuncCalls
import Derived.RangeFuncLeaves
import Derived.RangeFuncBox
import Derived.Lib.Bytealg
import Derived.Lib.Strings
import Derived.Shelf.Abstract
import Derived.Shelf.RegionOpen
import Derived.OwnWalkIn
import Derived.TacticsInMore
import Derived.LoopNIn
import Derived.LoopIn
import Derived.Lib.IndexBytes
set_option maxHeartbeats 400000
set_option maxRecDepth 20000
namespace Go.Proofs.YthnodpdiocppgaaGreatDoor
open Go Go.RowKit
theorem aHd (c:Int) (w:World) (h0:0≤c) (h1:c<256) :
  Calls Tryz.prog 100 #[.int .u8 c] w fun e w'=>e=.returned (.bool (D.inLab c))∧w'=w:=by
 go_enter Tryz.func100,Tryz.ntmps100
 go_wp2
 all_goals go_ret
 all_goals (refine ⟨aA1 ?_,rfl⟩)
 all_goals (simp only [D.inLab];rw [Bool.eq_iff_iff];simp)
 all_goals omega
theorem aIg (s:ByteArray) (k:Nat) (h:k<s.size):D.at' s.data.toList k=(s[k].toNat:Int):=by
 unfold D.at'
 rw [List.getElem?_eq_getElem (by simpa using h)]
 rfl
theorem aF7 (s:ByteArray) (w:World) (hs:s.size≤maxLen) :
  Calls Tryz.prog 84 #[.string s] w fun e w'=>e=.returned (.bool (D.isLabel s.data.toList))∧w'=w:=by
 unfold maxLen at hs
 have hsz:s.data.toList.length=s.size:=by simp
 by_cases h0:s.size=0
 ·have hb:((s.size:Int) == 0)=true:=by simp [h0]
  have hx:Hid (D.isLabel s.data.toList=false):=by simp [Hid,D.isLabel,hsz,h0]
  clear hsz
  go_enter Tryz.func84,Tryz.ntmps84
  go_wp2
  all_goals go_ret
  all_goals exact ⟨aA1 hx.out.symm,rfl⟩
 by_cases h20:20<s.size
 ·have hb:((s.size:Int) == 0)=false:=zzE (by omega)
  have hx:Hid (D.isLabel s.data.toList=false):=by simp [Hid,D.isLabel,hsz];omega
  clear hsz
  go_enter Tryz.func84,Tryz.ntmps84
  go_wp2
  all_goals go_ret
  all_goals exact ⟨aA1 hx.out.symm,rfl⟩
 have hb:((s.size:Int) == 0)=false:=zzE (by omega)
 have hb2:¬ ((20:Int)<s.size):=by omega
 go_enter Tryz.func84,Tryz.ntmps84
 go_wp2
 go_loop [14] (fun i=>∃ k:Nat,k≤s.size∧i=.int .i64 k∧∀ j,j<k→D.inLab (D.at' s.data.toList j)=true) (fun i=>s.size - (intOf i).toNat)
 case atStart=>exact ⟨0,Nat.zero_le _,rfl,by simp⟩
 case round =>
  obtain ⟨k,hk,rfl,hall⟩:=hrel
  have HA:=hide hall
  clear hall
  by_cases hlt:k<s.size
  ·have hk8:=s[k].toNat_lt
   have HE:=hide (aIg s k hlt)
   cases hin:D.inLab (s[k].toNat:Int)
   ·go_wp2_with (go_at_call 100;refine (aHd _ _ (by omega) (by omega)).mono ?_;rintro e w' ⟨rfl,rfl⟩)
    go_ret
    refine ⟨aA1 ?_,rfl⟩
    symm
    unfold D.isLabel
    have:s.data.toList.all (fun c=>D.inLab c.toNat)=false:=by
     rw [List.all_eq_false]
     exact ⟨s[k],by simp [ByteArray.getElem_eq_getElem_data],by simp [hin]⟩
    simp [this]
   ·go_wp2_with (go_at_call 100;refine (aHd _ _ (by omega) (by omega)).mono ?_;rintro e w' ⟨rfl,rfl⟩)
    go_round
    case rel=>exact ⟨k+1,by omega,by go_num,fun j hj=>by
     by_cases e:j=k
     ·subst e;rw [HE.out];exact hin
     ·exact HA.out j (by omega)⟩
    case measure=>simp [intOf];omega
  ·have hks:k=s.size:=by omega
   subst hks
   have l0:0<s.size:=by omega
   have l1:s.size - 1<s.size:=by omega
   have e0:=hide (aIg s 0 l0)
   have e1:=hide (aIg s (s.size - 1) l1)
   have hL:∀ b:Bool,b=(((s[0].toNat:Int) != 45)&&((s[s.size - 1].toNat:Int) != 45))→Hid (b=D.isLabel s.data.toList):=by
    intro b hb'
    subst hb'
    unfold D.isLabel Hid
    have hall:s.data.toList.all (fun c=>D.inLab c.toNat)=true:=by
     rw [List.all_eq_true]
     intro x hx
     obtain ⟨j,hj,rfl⟩:=List.getElem_of_mem hx
     have hj':j<s.size:=by simpa using hj
     have:=HA.out j hj'
     rw [aIg s j hj'] at this
     exact this
    rw [hall,hsz,e0.out,e1.out]
    have a1:decide (1≤s.size)=true:=decide_eq_true (by omega)
    have a2:decide (s.size≤20)=true:=decide_eq_true (by omega)
    rw [a1,a2]
    simp [bne,BEq.beq]
   have hL0:=fun h=>(hL false h).out
   have hL1:=(hL _ rfl).out
   have HL0:=hide hL0
   have HL1:=hide hL1
   clear hL hL0 hL1
   go_wp2
   all_goals go_ret
   ·exact ⟨aA1 (HL0.out (by rename_i h _ ;simp [h])),rfl⟩
   ·exact ⟨aA1 HL1.out,rfl⟩
end Go.Proofs.YthnodpdiocppgaaGreatDoor
namespace Go.Proofs.YthnodpdiocppgaaGreatDoor
open Go Go.RowKit
def aH4 (B:Nat) (I:Nat→World→Prop):Prop:=∀ k W v,I k W→I k (W.setCell ⟨B,0,none⟩ v)
def aBg (lo hi:Nat) (W W':World):Prop:=∀ b,lo≤b→b<hi→W'.heap[b]?=W.heap[b]?
theorem aBg.refl (lo hi:Nat) (W:World):aBg lo hi W W:=fun _ _ _=>rfl
theorem aBg.trans {lo hi:Nat} {A B C:World} (h:aBg lo hi A B) (k:aBg lo hi B C):aBg lo hi A C:=fun b h1 h2=>(k b h1 h2).trans (h b h1 h2)
theorem aBg.putObj {lo hi l:Nat} (W:World) (o:Obj) (h:hi≤l):aBg lo hi W (W.putObj l o):=fun b _ h2=>World.putObj_heap_other (by omega)
theorem aBg.alloc {lo hi:Nat} (W:World) (o:Obj) (h:hi≤W.heap.size):aBg lo hi W (W.alloc o):=fun b _ h2=>Below.heap_alloc W o b (by omega)
theorem aBg.setCell {lo hi:Nat} (W:World) (a:Addr) (v:Value) (h:a.block<lo∨hi≤a.block):aBg lo hi W (W.setCell a v):=fun b h1 h2=>Below.heap_setCell W a v b (by omega)
theorem aBg.of_below {lo hi n:Nat} {W W':World} (h:Below n W W') (hn:hi≤n):aBg lo hi W W':=fun b _ h2=>h.block b (by omega)
theorem aBg.cell {lo hi:Nat} {W W':World} (h:aBg lo hi W W') {b o:Nat} (h1:lo≤b) (h2:b<hi):W'.cell? ⟨b,o,none⟩=W.cell? ⟨b,o,none⟩:=World.cell?_of_block (w:=W) (h b h1 h2)
theorem aBg.frozen {lo hi:Nat} {W W':World} (h:aBg lo hi W W') {b o:Nat} (h1:lo≤b) (h2:b<hi):W'.frozen? ⟨b,o,none⟩=W.frozen? ⟨b,o,none⟩:=World.frozen?_of_block (w:=W) (h b h1 h2)
def aHs (F:Fence) (n:Nat) (P:Program) (g:Nat) (lb:Array Value) (xs:List ByteArray) (B lo hi:Nat) (w:World):Prop :=
 ∀ (l:Nat) (J Jx:Nat→World→Prop) (W:World),Below w.heap.size w W→aH4 B J→aH4 B Jx →
   (∀ k W1 (h:k<xs.length),J k W1→YieldAt F (n - 1) P l #[.string xs[k]] W1 fun e W' =>
    (e=.returned (.bool true)∧J (k+1) W'∧aBg lo hi W1 W')∨(e=.returned (.bool false)∧Jx (k+1) W')) →
   J 0 W →
   CallsIn F n P g (#[.func (.yield l) #[] #[]]++lb) W fun e W'=>(∃ v,e=.returned v)∧(J xs.length W'∨∃ k,k<xs.length∧Jx (k+1) W')
def aL0 (lo hi:Nat) (I:Nat→World→Prop) (Ix:Code→Nat→World→Prop) (k:Nat) (W:World):Exit→Act→World→Prop
 | .normal,_,W'=>KeepsOthers W W'∧aBg lo hi W W'∧I k W'
 | .ret,_,W'=>KeepsOthers W W'∧Ix .ret k W'
 | .exit id,_,W'=>KeepsOthers W W'∧Ix (.exit id) k W'
 | .goto t,_,W'=>KeepsOthers W W'∧Ix (.goto t) k W'
 | .panic _,_,_=>False
 | .outgrown,_,_=>False
variable {F:Fence} {n:Nat} {P:Program}
structure Book (r:Loop) (d:Nat) (st:LoopState) (pe:Option Code) (W:World):Prop where
 rcd:W.heap[d+1]?=some (.loop { r with state:=st,pending:=pe })
 defs:W.heap[d]?=some (.deferred (some []))
theorem Book.others {r:Loop} {d:Nat} {st:LoopState} {pe:Option Code} {W W':World} (h:Book r d st pe W) (k:KeepsOthers W W'):Book r d st pe W' :=
 ⟨k.same _ _ h.rcd rfl,k.same _ _ h.defs rfl⟩
theorem Book.put {r:Loop} {d:Nat} {st:LoopState} {pe:Option Code} {W:World} (h:Book r d st pe W) (st':LoopState) (pe':Option Code) :
  Book r d st' pe' (W.putObj (d+1) (.loop { r with state:=st',pending:=pe' })) :=
 ⟨World.putObj_heap_same (Array.getElem?_eq_some_iff.1 h.rcd).1,(World.putObj_heap_other (Nat.ne_of_lt (Nat.lt_succ_self d))).trans h.defs⟩
theorem Book.new (r:Loop) (w:World) (h:r.state=.ready∧r.pending=none):Book r w.heap.size .ready none ((w.alloc (.deferred (some []))).alloc (.loop r)):=by
 have hr:r={ r with state:=.ready,pending:=none }:=by cases r;obtain ⟨h1,h2⟩:=h;simp at h1 h2;subst h1;subst h2;rfl
 constructor
 ·have:=World.alloc_heap_new (w.alloc (.deferred (some []))) (.loop r)
  rw [World.size_alloc] at this
  rw [←hr]
  exact this
 ·exact (Below.heap_alloc _ _ _ (by simp)).trans (World.alloc_heap_new w _)
theorem aCl {I:Nat→World→Prop} {d:Nat} (h:OwnFrom d I) {r:Loop} {st:LoopState} {pe:Option Code} {W:World} {k:Nat} (hi:I k W) (hb:Book r d st pe W) (o:Obj):I k (W.putObj (d+1) o) :=
 h.putObj o hi (Nat.le_succ d) hb.rcd rfl
theorem aDi {r:Loop} {d lo hi:Nat} {W W3:World} (hhi:hi≤d) (hb:Book r d .busy none W) (k3:KeepsOthers W W3) (jump:Option Code) :
  ∃ W4,(Instr.endRound (d+1) jump).run P W3=.ok (.bool jump.isNone) W4∧Book r d (if jump.isNone then .ready else .done) jump W4∧aBg lo hi W3 W4 ∧
    ∀ (I:Nat→World→Prop) (k:Nat),OwnFrom d I→I k W3→I k W4:=by
 have b3:=hb.others k3
 exact ⟨_,run_endRound jump b3.rcd,b3.put _ _,aBg.putObj _ _ (Nat.le_succ_of_le hhi),fun I k hI h=>aCl hI h b3 _⟩
theorem aMn {r:Loop} {d lo hi:Nat} {x:ByteArray} {W:World} {k:Nat} {I:Nat→World→Prop} {Ix:Code→Nat→World→Prop} {a₁:ByteArray→Act} (hF:F.fn r.fn) (hhi:hi≤d) (hI:OwnFrom d I) (hIx:∀ c,OwnFrom d (Ix c))
  (hps:r.params.size=1) (hb:Book r d .ready none W) (hi':I k W)
  (hassign:∀ K:Act→World→Prop,K (a₁ x) W→r.assign.wpIn (F.inRound (d+1)) n P (Exit.then K (fun _ _ _=>False)) { tmps:=(r.params.zip #[.string x]).foldl (fun t (p,v)=>t.setIfInBounds p v) r.tmps,defers:=[] } W)
  (hbody:∀ W':World,I k W'→r.body.wpIn (F.inRound (d+1)) n P (aL0 lo hi I Ix (k+1) W') (a₁ x) W') :
  YieldAt F n P (d+1) #[.string x] W fun e W' =>
   (e=.returned (.bool true)∧(I (k+1) W'∧Book r d .ready none W')∧aBg lo hi W W')∨(e=.returned (.bool false)∧∃ c,Ix c (k+1) W'∧Book r d .done (some c) W'):=by
 refine ⟨_,_,_,_,run_yield (P:=P) (args:=#[.string x]) hb.rcd hps.symm,roundIn_of_wpIn hF (hassign _ ⟨_,run_beginRound hb.rcd rfl,?_⟩)⟩
 have bb:Book r d .busy none (W.putObj (d+1) (.loop { r with state:=.busy,pending:=none })):=hb.put .busy none
 have s0:aBg lo hi W (W.putObj (d+1) (.loop { r with state:=.busy,pending:=none })):=aBg.putObj _ _ (Nat.le_succ_of_le hhi)
 refine wpIn_mono (hbody _ (aCl hI hi' hb _)) ?_
 have leave:∀ (c:Code) (W3:World),KeepsOthers (W.putObj (d+1) (.loop { r with state:=.busy,pending:=none })) W3→Ix c (k+1) W3 →
   ∃ v W4,(Instr.endRound (d+1) (some c)).run P W3=.ok v W4∧((Ending.returned v=.returned (.bool true)∧(I (k+1) W4∧Book r d .ready none W4)∧aBg lo hi W W4) ∨
     (Ending.returned v=.returned (.bool false)∧∃ c,Ix c (k+1) W4∧Book r d .done (some c) W4)):=fun c W3 k3 hx=>by
  obtain ⟨W4,hr,b4,_,own⟩:=aDi (P:=P) (lo:=lo) hhi bb k3 (some c)
  exact ⟨_,W4,hr,.inr ⟨rfl,c,own _ _ (hIx c) hx,b4⟩⟩
 intro e a3 W3 hp
 match e,hp with
 | .normal,⟨k3,s3,i3⟩ =>
   obtain ⟨W4,hr,b4,s4,own⟩:=aDi (P:=P) (lo:=lo) hhi bb k3 none
   exact ⟨_,W4,hr,.inl ⟨rfl,⟨own _ _ hI i3,b4⟩,(s0.trans s3).trans s4⟩⟩
 | .ret,⟨k3,i3⟩=>exact leave .ret W3 k3 i3
 | .exit id,⟨k3,i3⟩=>exact leave (.exit id) W3 k3 i3
 | .goto l,⟨k3,i3⟩=>exact leave (.goto l) W3 k3 i3
theorem aG0 {g:Operand} {ps:Array Tmp} {assign body:Code} {Q:Exit→Act→World→Prop} {a:Act} {w:World}
  (hro:F.round=none) (h1:1≤n) {gf:Nat} {lb:Array Value} (hg:a.eval g=.func (.func gf) #[] lb) (hFg:F.fn gf) (eg:∀ args w,(callFunc gf args).run P w=.ok (.enter gf args) w)
  {xs:List ByteArray} {B lo hi:Nat} {w0:World} (hseq:aHs F (n - 1) P gf lb xs B lo hi w0)
  (hb0:Below w0.heap.size w0 w) (hhi:hi≤w.heap.size) (hps:ps.size=1)
  (I:Nat→World→Prop) (Ix:Code→Nat→World→Prop) (hI:OwnFrom w.heap.size I) (hIx:∀ c,OwnFrom w.heap.size (Ix c)) (cI:aH4 B I) (cIx:∀ c,aH4 B (Ix c)) (h0:I 0 w) (a₁:ByteArray→Act)
  (hassign:∀ (l:Nat) (x:ByteArray) (W:World) (K:Act→World→Prop),K (a₁ x) W →
   assign.wpIn (F.inRound l) (n - 1 - 1) P (Exit.then K (fun _ _ _=>False)) { tmps:=(ps.zip #[.string x]).foldl (fun t (p,v)=>t.setIfInBounds p v) a.tmps,defers:=[] } W)
  (hbody:∀ (l:Nat) (k:Nat) (W:World) (h:k<xs.length),I k W→body.wpIn (F.inRound l) (n - 1 - 1) P (aL0 lo hi I Ix (k+1) W) (a₁ xs[k]) W)
  (hdone:∀ (D:Nat) (W:World),w.heap.size≤D→I xs.length W→W.heap[D]?=some (.deferred (some []))→Q .normal { a with defers:={ target:=.collected D,args:=#[] }::a.defers } W)
  (hstop:∀ (D:Nat) (c:Code) (k:Nat) (W:World),w.heap.size≤D→k<xs.length→Ix c (k+1) W→W.heap[D]?=some (.deferred (some []))→c.wpIn F n P Q { a with defers:={ target:=.collected D,args:=#[] }::a.defers } W) :
  (Code.rangeFunc g ps assign body).wpIn F n P Q a w:=by
 refine wpIn_rangeFunc fun fn hfn=>?_
 rw [hro]
 let r:Loop:={ state:=.ready,pending:=none,fn:=fn,tmps:=a.tmps,params:=ps,assign:=assign,body:=body,defers:=w.heap.size }
 have hbelow:Below w0.heap.size w0 ((w.alloc (.deferred (some []))).alloc (.loop r)) :=
  hb0.trans ((((Below.refl _ w).alloc (Nat.le_refl _) _).alloc (by simp) _).mono hb0.size)
 have hstart:I 0 ((w.alloc (.deferred (some []))).alloc (.loop r)):=hI.alloc _ (hI.alloc _ h0)
 have hbook:=Book.new r w ⟨rfl,rfl⟩
 have hcell:∀ (st:LoopState) (pe:Option Code) (W:World) (v:Value),Book r w.heap.size st pe W→Book r w.heap.size st pe (W.setCell ⟨B,0,none⟩ v):=fun st pe W v h=>h.others (KeepsOthers.setCell _ _ _)
 have hits:=hseq (w.heap.size+1) (fun k W=>I k W∧Book r w.heap.size .ready none W) (fun k W=>∃ c,Ix c k W∧Book r w.heap.size .done (some c) W) _ hbelow
  (fun k W v h=>⟨cI k W v h.1,hcell _ _ _ _ h.2⟩) (fun k W v h=>let ⟨c,h1,h2⟩:=h;⟨c,cIx c k W v h1,hcell _ _ _ _ h2⟩)
  (fun k W hk h=>aMn (r:=r) (a₁:=a₁) hfn hhi hI hIx hps h.2 h.1 (fun K hK=>hassign _ _ _ _ hK) (fun W' hW'=>hbody _ k W' hk hW'))
  ⟨hstart,hbook⟩
 have hent:(Instr.enterLoop fn a.tmps ps assign body none).run P w=.ok (w.heap.size+1,[{ target:=.collected w.heap.size,args:=#[] }]) ((w.alloc (.deferred (some []))).alloc (.loop r)):=run_enterLoop_outer _ _ _ _ _
 generalize (w.alloc (.deferred (some []))).alloc (.loop r)=W1 at hent hits
 refine ⟨_,_,W1,{ target:=.fn (.func gf) lb,args:=#[.func (.yield (w.heap.size+1)) #[] #[]] },W1,gf,_,W1,hent,?_,?_,?_,fun _=>h1,hits.mono ?_⟩
 ·simp only [resolve,hg]
  simp [go_sem]
 ·intro f' hf'
  simp [Target.leads] at hf'
  exact hf' ▸ hFg
 ·simp [invoke,go_sem,eg]
 ·rintro e W2 ⟨⟨v,rfl⟩,⟨hi',hb⟩ | ⟨k,hk,c,hi',hb⟩⟩
  ·exact ⟨none,_,run_endLoop hb.rcd (by simp),hdone _ _ (Nat.le_refl _) (aCl hI hi' hb _) ((World.putObj_heap_other (Nat.ne_of_lt (Nat.lt_succ_self _))).trans hb.defs)⟩
  ·exact ⟨some c,_,run_endLoop hb.rcd (by simp),hstop _ c k _ (Nat.le_refl _) hk (aCl (hIx c) hi' hb _) ((World.putObj_heap_other (Nat.ne_of_lt (Nat.lt_succ_self _))).trans hb.defs)⟩
end Go.Proofs.YthnodpdiocppgaaGreatDoor
namespace Go.Proofs.YthnodpdiocppgaaGreatDoor
open Go Go.RowKit
theorem aNz (s:ByteArray) (c:UInt8) (w:World) :
  Calls Tryz.prog 200 #[.string s,.string ⟨#[c]⟩] w fun e w'=>e=.returned (.int .i64 (Lib.indexByte s.data.toList c))∧w'=w:=by
 cases h:([c] == s.toList)
 ·go_enter Tryz.func200,Tryz.ntmps200
  go_wp2_with (go_at_call 224;refine (aGm _ _ _).mono ?_;rintro e w' ⟨rfl,rfl⟩)
  go_ret
  exact ⟨aAp rfl,rfl⟩
 ·have hx:Hid (Lib.indexByte s.data.toList c=0):=by
   have:=eq_of_beq h
   rw [Lib.toList_data] at this
   unfold Hid
   rw [←this]
   simp [Lib.indexByte]
  go_enter Tryz.func200,Tryz.ntmps200
  go_wp2
  go_ret
  exact ⟨aAp hx.out.symm,rfl⟩
theorem aJq (s:ByteArray) (c:UInt8) (w:World) :
  Calls Tryz.prog 168 #[.string s,.string ⟨#[c]⟩] w fun e w'=>e=.returned (.int .i64 (Lib.indexByte s.data.toList c))∧w'=w:=by
 go_enter Tryz.func168,Tryz.ntmps168
 go_wp2_with (go_at_call 200;refine (aNz _ _ _).mono ?_;rintro e w' ⟨rfl,rfl⟩)
 go_ret
 exact ⟨rfl,rfl⟩
theorem aQ3 (c:UInt8) (l:List UInt8):(Lib.indexByte l c=-1∧∀ x∈l,x≠c) ∨
  ∃ i:Nat,i<l.length∧Lib.indexByte l c=i∧l=l.take i++c::l.drop (i+1)∧∀ x∈l.take i,x≠c:=by
 induction l with
 | nil=>left;simp [Lib.indexByte]
 | cons a r ih =>
   by_cases h:a=c
   ·right
    exact ⟨0,by simp,by simp [Lib.indexByte,h],by simp [h],by simp⟩
   ·rcases ih with ⟨h1,h2⟩ | ⟨i,h1,h2,h3,h4⟩
    ·left
     refine ⟨by simp [Lib.indexByte,h,h1],?_⟩
     intro x hx
     rcases List.mem_cons.1 hx with rfl | hx
     ·exact h
     ·exact h2 x hx
    ·right
     refine ⟨i+1,by simp;omega,?_,?_,?_⟩
     ·have hne:¬ ((i:Int)=-1):=by omega
      simp [Lib.indexByte,h,h2,hne]
     ·simp;exact h3
     ·intro x hx
      simp at hx
      rcases hx with rfl | hx
      ·exact h
      ·exact h4 x hx
theorem aL1 {c:UInt8} {l:List UInt8} (h:∀ x∈l,x≠c):D.spl c l=[l]:=D.spl_none h
theorem aL2 {c:UInt8} {l:List UInt8} {i:Nat} (h:l=l.take i++c::l.drop (i+1)) (h':∀ x∈l.take i,x≠c):D.spl c l=l.take i::D.spl c (l.drop (i+1)):=by
 conv=>lhs;rw [h]
 exact D.spl_at h'
end Go.Proofs.YthnodpdiocppgaaGreatDoor
namespace Go.Proofs.YthnodpdiocppgaaGreatDoor
open Go Go.RowKit Go.Shelf
attribute [local go_sem] Oper.semAt_some
theorem aCr {n:Nat}:Fence.wide.depth.isSome=true→1≤n:=fun h=>by simp [Fence.wide] at h
def aAo (c:UInt8) (s:ByteArray):List ByteArray:=(D.spl c s.data.toList).map fun l=>⟨l.toArray⟩
theorem aCo (c:UInt8) (s:ByteArray):(aAo c s).length=(D.spl c s.data.toList).length:=by simp [aAo]
def aJb (W:World) (B:Nat):Nat:=match W.cell? ⟨B,0,none⟩ with | some (.string s)=>s.size | _=>0
theorem aIh {W:World} {B:Nat} {s:ByteArray} (h:W.cell? ⟨B,0,none⟩=some (.string s)):aJb W B=s.size:=by simp [aJb,h]
theorem aJr {c:UInt8} {s:ByteArray} {k:Nat} {p:List UInt8} {rest:List (List UInt8)} (h:(D.spl c s.data.toList).drop k=p::rest) :
  ∃ hk:k<(aAo c s).length,(aAo c s)[k]=⟨p.toArray⟩:=by
 have hk:k<(D.spl c s.data.toList).length:=by
  rcases Nat.lt_or_ge k (D.spl c s.data.toList).length with h' | h'
  ·exact h'
  ·rw [List.drop_eq_nil_of_le h'] at h;cases h
 refine ⟨by rw [aCo];exact hk,?_⟩
 rw [List.drop_eq_getElem_cons hk] at h
 simp [aAo,(List.cons.inj h).1]
theorem aQ4 {c:UInt8} {s:ByteArray} {k:Nat} {p:List UInt8} {rest:List (List UInt8)} (h:(D.spl c s.data.toList).drop k=p::rest) :
  (D.spl c s.data.toList).drop (k+1)=rest:=by
 rw [←List.drop_drop,h];rfl
theorem aQ5 {c:UInt8} {s:ByteArray} {k:Nat} {p:List UInt8} (h:(D.spl c s.data.toList).drop k=[p]):(aAo c s).length=k+1:=by
 rw [aCo]
 have:=congrArg List.length h
 simp at this
 omega
set_option maxRecDepth 100000 in
theorem aQ6 (n:Nat) (B:Nat) (c:UInt8) (s:ByteArray) (w:World) (hs:s.size≤maxLen) (hB:B+2<w.heap.size)
  (h0:w.cell? ⟨B,0,none⟩=some (.string s)) (f0:w.frozen? ⟨B,0,none⟩=false)
  (h1:w.cell? ⟨B+1,0,none⟩=some (.string ⟨#[c]⟩)) (h2:w.cell? ⟨B+2,0,none⟩=some (.int .i64 0)) :
  aHs Fence.wide n Tryz.prog 166 #[.pointer (some ⟨B+1,0,none⟩),.pointer (some ⟨B,0,none⟩),.pointer (some ⟨B+2,0,none⟩)] (aAo c s) B B (B+3) w:=by
 intro l J Jx W hW hJ hJx hY hJ0
 unfold maxLen at hs
 have g0:W.cell? ⟨B,0,none⟩=some (.string s):=(hW.cell (p:=⟨B,0,none⟩) (by show B<_;omega)).trans h0
 have gf:W.frozen? ⟨B,0,none⟩=false:=(hW.frozen (p:=⟨B,0,none⟩) (by show B<_;omega)).trans f0
 have g1:W.cell? ⟨B+1,0,none⟩=some (.string ⟨#[c]⟩):=(hW.cell (p:=⟨B+1,0,none⟩) (by show B+1<_;omega)).trans h1
 have g2:W.cell? ⟨B+2,0,none⟩=some (.int .i64 0):=(hW.cell (p:=⟨B+2,0,none⟩) (by show B+2<_;omega)).trans h2
 clear h0 f0 h1 h2
 have HY:=hide hY
 clear hY
 have HJ:=hide hJ
 have HJx:=hide hJx
 clear hJ hJx
 refine callsIn_of_wp Tryz.func166 rfl trivial ?_ rfl
 simp only [Tryz.ntmps166,List.size_toArray,List.length_cons,List.length_nil,Nat.reduceAdd,Nat.reduceSub,Array.replicate_succ,Array.replicate_zero,List.push_toArray,List.append_toArray,List.nil_append,List.cons_append]
 gi_wp2
 gi_loopw [7] (fun _ wr=>∃ (k:Nat) (r:ByteArray),r.size≤s.size∧Hid ((D.spl c s.data.toList).drop k=D.spl c r.data.toList)∧J k wr∧wr.cell? ⟨B,0,none⟩=some (.string r)∧wr.frozen? ⟨B,0,none⟩=false∧wr.cell? ⟨B+1,0,none⟩=some (.string ⟨#[c]⟩)∧wr.cell? ⟨B+2,0,none⟩=some (.int .i64 0))
  (fun _ wr=>aJb wr B)
 case atStart =>
  exact ⟨0,s,Nat.le_refl _,by simp [Hid],hJ0,g0,gf,g1,g2⟩
 case round =>
  clear g0 gf g1 g2 hJ0
  obtain ⟨k,r,hr,hd,hJk,g0,gf,g1,g2⟩:=hrel
  have hrs:r.size≤9223372036854775807:=by omega
  rcases aQ3 c r.data.toList with ⟨hi,hno⟩ | ⟨i,hil,hi,hcut,hno⟩
  ·have hd1:(D.spl c s.data.toList).drop k=[r.data.toList]:=hd.out.trans (aL1 hno)
   obtain ⟨hk,hx⟩:=aJr hd1
   have hlast:=hide (aQ5 hd1)
   rw [Lib.mk_data] at hx
   obtain ⟨fn,tmps,assign,body,hy,hR⟩:=HY.out k wr hk hJk
   rw [hx] at hy
   have HI:=hide hi
   clear hi hno hd1 hx
   gi_wp2_with fail
   refine ⟨trivial,aCr,?_⟩
   refine (callsIn_wide.2 (aJq _ _ _)).mono ?_
   rintro e w' ⟨rfl,rfl⟩
   rw [HI.out]
   gi_wp2
   refine ⟨aCr,hR.mono ?_⟩
   rintro e W3 (⟨rfl,hJ3,hk3⟩ | ⟨rfl,hJx3⟩)
   ·gi_wp2
    go_end0
    exact ⟨⟨_,rfl⟩,.inl (by rw [hlast.out];exact hJ3)⟩
   ·gi_wp2
    go_end0
    exact ⟨⟨_,rfl⟩,.inr ⟨k,hk,hJx3⟩⟩
  ·have hil':i<r.size:=by simpa using hil
   have hd1:(D.spl c s.data.toList).drop k=r.data.toList.take i::D.spl c (r.data.toList.drop (i+1)):=hd.out.trans (aL2 hcut hno)
   obtain ⟨hk,hx⟩:=aJr hd1
   have hrest:=hide (aQ4 hd1)
   have hfr:r.extract 0 i=⟨(r.data.toList.take i).toArray⟩:=by rw [Lib.extract_eq];simp
   have hto:(r.extract (i+1) r.size).data.toList=r.data.toList.drop (i+1):=Lib.extract_to_end r (i+1)
   rw [←hfr] at hx
   obtain ⟨fn,tmps,assign,body,hy,hR⟩:=HY.out k wr hk hJk
   rw [hx] at hy
   have HI:=hide hi
   have HT:=hide hto
   clear hi hno hcut hil hd1 hx hfr hto
   gi_wp2_with fail
   refine ⟨trivial,aCr,?_⟩
   refine (callsIn_wide.2 (aJq _ _ _)).mono ?_
   rintro e w' ⟨rfl,rfl⟩
   rw [HI.out]
   gi_wp2
   refine ⟨aCr,hR.mono ?_⟩
   rintro e W3 (⟨rfl,hJ3,hk3⟩ | ⟨rfl,hJx3⟩)
   ·have e0:=(hk3.cell (o:=0) (Nat.le_refl B) (by omega)).trans g0
    have ef:=(hk3.frozen (o:=0) (Nat.le_refl B) (by omega)).trans gf
    have e1:=(hk3.cell (b:=B+1) (o:=0) (by omega) (by omega)).trans g1
    have e2:=(hk3.cell (b:=B+2) (o:=0) (by omega) (by omega)).trans g2
    gi_wp2
    have hsz:(r.extract (i+1) r.size).size=r.size - (i+1):=by simp
    have c0:(W3.setCell ⟨B,0,none⟩ (.string (r.extract (i+1) r.size))).cell? ⟨B,0,none⟩=some (.string (r.extract (i+1) r.size)):=World.cell?_setCell_same' _ _ _ (by rw [e0];rfl)
    refine ⟨⟨k+1,r.extract (i+1) r.size,by omega,?_,HJ.out _ _ _ hJ3,c0,by rw [World.frozen?_setCell];exact ef,?_,?_⟩,?_⟩
    ·unfold Hid
     rw [HT.out]
     exact hrest.out
    ·exact (World.cell?_of_block (w:=W3) (Below.heap_setCell W3 ⟨B,0,none⟩ _ (B+1) (by show _≠B;omega))).trans e1
    ·exact (World.cell?_of_block (w:=W3) (Below.heap_setCell W3 ⟨B,0,none⟩ _ (B+2) (by show _≠B;omega))).trans e2
    ·rw [aIh c0,aIh g0];omega
   ·gi_wp2
    refine bodyPost_ret (results_none rfl _ _ _) rfl ?_
    exact ⟨⟨_,rfl⟩,.inr ⟨k,hk,hJx3⟩⟩
end Go.Proofs.YthnodpdiocppgaaGreatDoor
namespace Go.Proofs.YthnodpdiocppgaaGreatDoor
open Go Go.RowKit Go.Shelf
attribute [local go_sem] Oper.semAt_some
def aDn (w:World) (s sep:ByteArray):World:=((w.alloc (.cells #[.string s] 9)).alloc (.cells #[.string sep] 9)).alloc (.cells #[.int .i64 0] 3)
abbrev itv (B:Nat):Value:=.func (.func 166) #[] #[.pointer (some ⟨B+1,0,none⟩),.pointer (some ⟨B,0,none⟩),.pointer (some ⟨B+2,0,none⟩)]
theorem aL3 (s sep:ByteArray) (w:World) :
  Calls Tryz.prog 132 #[.string s,.string sep,.int .i64 0] w fun e w'=>e=.returned (itv w.heap.size)∧w'=aDn w s sep:=by
 go_enter Tryz.func132,Tryz.ntmps132
 go_wp2
 go_ret
 exact ⟨rfl,rfl⟩
theorem aL4 (s sep:ByteArray) (w:World) :
  Calls Tryz.prog 99 #[.string s,.string sep] w fun e w'=>e=.returned (itv w.heap.size)∧w'=aDn w s sep:=by
 go_enter Tryz.func99,Tryz.ntmps99
 go_wp2_with (go_at_call 132;refine (aL3 _ _ _).mono ?_;rintro e w' ⟨rfl,rfl⟩)
 go_ret
 exact ⟨rfl,rfl⟩
theorem aHe (w:World) (s sep:ByteArray):(aDn w s sep).heap.size=w.heap.size+3:=by simp [aDn]
theorem aL5 (w:World) (s sep:ByteArray) (n:Nat) (h:n≤w.heap.size):Below n w (aDn w s sep) :=
 (((Below.refl n w).alloc h _).alloc (by simp;omega) _).alloc (by simp;omega) _
theorem aJs (w:World) (s sep:ByteArray):Boxed (aDn w s sep) w.heap.size 9 (.string s) :=
 ((Boxed.new w 9 (.string s)).alloc _).alloc _
theorem aQ7 (w:World) (s sep:ByteArray):Boxed (aDn w s sep) (w.heap.size+1) 9 (.string sep):=by
 have h:=Boxed.new (w.alloc (.cells #[.string s] 9)) 9 (.string sep)
 rw [World.size_alloc] at h
 exact h.alloc _
theorem aQ8 (w:World) (s sep:ByteArray):Boxed (aDn w s sep) (w.heap.size+2) 3 (.int .i64 0):=by
 have h:=Boxed.new ((w.alloc (.cells #[.string s] 9)).alloc (.cells #[.string sep] 9)) 3 (.int .i64 0)
 simp only [World.size_alloc] at h
 exact h
theorem aJt {W:World} {B B':Nat} {t:TypeId} {v:Value} (h:Boxed W B t v) (hne:B≠B') (u:Value):Boxed (W.setCell ⟨B',0,none⟩ u) B t v :=
 (Below.heap_setCell W ⟨B',0,none⟩ u B hne).trans h
theorem aMo (n:Nat) (c:UInt8) (s:ByteArray) (w W:World) (hs:s.size≤maxLen) (hW:W=aDn w s ⟨#[c]⟩) :
  aHs Fence.wide n Tryz.prog 166 #[.pointer (some ⟨w.heap.size+1,0,none⟩),.pointer (some ⟨w.heap.size,0,none⟩),.pointer (some ⟨w.heap.size+2,0,none⟩)] (aAo c s) w.heap.size w.heap.size (w.heap.size+3) W:=by
 subst hW
 exact aQ6 n w.heap.size c s _ hs (by rw [aHe];omega) (aJs ..).cell (aJs ..).frozen (aQ7 ..).cell (aQ8 ..).cell
theorem aGn (s:ByteArray) (h:s.size≤60) (hall:∀ j (hj:j<(aAo 46 s).length),D.isLabel (aAo 46 s)[j].data.toList=true):D.isName s.data.toList=true:=by
 unfold D.isName
 rw [Bool.and_eq_true]
 refine ⟨decide_eq_true (by simpa using h),List.all_eq_true.2 fun p hp=>?_⟩
 obtain ⟨j,hj,rfl⟩:=List.getElem_of_mem hp
 have:=hall j (by rw [aCo];exact hj)
 simpa [aAo] using this
theorem aEx (s:ByteArray) {j:Nat} (hj:j<(aAo 46 s).length) (h:D.isLabel (aAo 46 s)[j].data.toList=false):D.isName s.data.toList=false:=by
 unfold D.isName
 rw [Bool.and_eq_false_iff]
 right
 rw [List.all_eq_false]
 refine ⟨(D.spl 46 s.data.toList)[j]'(by rw [←aCo];exact hj),List.getElem_mem _,?_⟩
 have:D.isLabel ((D.spl 46 s.data.toList)[j]'(by rw [←aCo];exact hj))=false:=by simpa [aAo] using h
 simp [this]
theorem aJu (c:UInt8) (s:ByteArray) {j:Nat} (hj:j<(aAo c s).length):(aAo c s)[j].size≤s.size:=by
 have hm:(D.spl c s.data.toList)[j]'(by rw [←aCo];exact hj)∈D.spl c s.data.toList:=List.getElem_mem _
 have:=D.spl_len _ hm
 have e:(aAo c s)[j]=⟨((D.spl c s.data.toList)[j]'(by rw [←aCo];exact hj)).toArray⟩:=by simp only [aAo,List.getElem_map]
 rw [e]
 have e2:s.size=s.data.toList.length:=by simp
 rw [e2]
 show (List.toArray _).size≤_
 rw [List.size_toArray]
 exact this
theorem aQ9 (s:ByteArray) (w:World) (hs:s.size≤maxLen) (h60:60<s.size) :
  Calls Tryz.prog 83 #[.string s] w fun e w'=>e=.returned (.bool (D.isName s.data.toList))∧Below w.heap.size w w':=by
 have hx:Hid (D.isName s.data.toList=false):=by
  unfold Hid D.isName
  rw [Bool.and_eq_false_iff];left;apply decide_eq_false;simp;exact h60
 unfold maxLen at hs
 go_enter Tryz.func83,Tryz.ntmps83
 go_wp2
 refine bodyPost_ret (v:=.bool false) (by simp [results,Tryz.f83,go_sem]) rfl ⟨aA1 hx.out.symm,?_⟩
 exact (Below.refl _ _).alloc (Nat.le_refl _) _
set_option maxRecDepth 100000 in
theorem aC2 (s:ByteArray) (w:World) (hs:s.size≤maxLen) :
  Calls Tryz.prog 83 #[.string s] w fun e w'=>e=.returned (.bool (D.isName s.data.toList))∧Below w.heap.size w w':=by
 by_cases h60:60<s.size
 ·exact aQ9 s w hs h60
 refine (callsIn_wide (n:=8)).1 ?_
 have hs':=hs
 unfold maxLen at hs
 have h60':s.size≤60:=by omega
 refine callsIn_of_wp_marks Tryz.func83 rfl trivial ?_ rfl
 simp only [Tryz.ntmps83,List.size_toArray,List.length_cons,List.length_nil,Nat.reduceAdd,Nat.reduceSub,Array.replicate_succ,Array.replicate_zero,List.push_toArray,List.append_toArray,List.nil_append,List.cons_append]
 gi_wp2_with fail
 refine ⟨trivial,(callsIn_wide.2 (aL4 _ _ _)).mono ?_⟩
 rintro e w' ⟨rfl,hw'⟩
 have b0:Boxed w' w.heap.size 4 (.bool false):=by
  rw [hw'];exact (((Boxed.new w 4 (.bool false)).alloc _).alloc _).alloc _
 have hB0:Below w.heap.size w w':=by
  rw [hw'];exact ((Below.refl _ w).alloc (Nat.le_refl _) _).trans (aL5 _ _ _ _ (by simp))
 have hsz:w'.heap.size=w.heap.size+4:=by rw [hw',aHe];simp
 have hst:=aMo 7 46 s _ w' hs' hw'
 simp only [World.size_alloc] at hst
 have HST:=hide hst
 clear hst
 have HW:=hide hw'
 clear hw'
 gi_wp2_with fail
 refine aG0 rfl (by omega) (gf:=166) (lb:=#[.pointer (some ⟨w.heap.size+1+1,0,none⟩),.pointer (some ⟨w.heap.size+1,0,none⟩),.pointer (some ⟨w.heap.size+1+2,0,none⟩)]) rfl trivial (enters_of Tryz.func166 (by kernel_rfl) rfl)
  HST.out (Below.refl _ _) (by omega) rfl
  (fun k W=>Boxed W w.heap.size 4 (.bool false)∧(∀ j (hj:j<(aAo 46 s).length),j<k→D.isLabel (aAo 46 s)[j].data.toList=true)∧Below w.heap.size w W)
  (fun c _ W=>Boxed W w.heap.size 4 (.bool false)∧c=.ret∧D.isName s.data.toList=false∧Below w.heap.size w W)
  (OwnFrom.and (Own.from (boxed_own _ _ _) _) (OwnFrom.and (fun _ _ _ _ h _ _=>h) (ownFrom_below (Nat.le_refl _) (by omega))))
  (fun c=>OwnFrom.and (Own.from (boxed_own _ _ _) _) (OwnFrom.and (fun _ _ _ _ h _ _=>h) (OwnFrom.and (fun _ _ _ _ h _ _=>h) (ownFrom_below (Nat.le_refl _) (by omega)))))
  (fun k W v h=>⟨aJt h.1 (by omega) v,h.2.1,h.2.2.setCell (p:=⟨w.heap.size+1,0,none⟩) (by show _≤w.heap.size+1;omega) v⟩)
  (fun c k W v h=>⟨aJt h.1 (by omega) v,h.2.1,h.2.2.1,h.2.2.2.setCell (p:=⟨w.heap.size+1,0,none⟩) (by show _≤w.heap.size+1;omega) v⟩)
  ⟨b0,fun _ _ h=>absurd h (by omega),hB0⟩
  (fun x=>{ tmps:=#[.string s,undef,.pointer (some ⟨w.heap.size,0,none⟩),.string x,.string s,.int .i64 s.size,.bool (decide ((60:Int)<s.size)),.string s,itv (w.heap.size+1),.string x,undef,undef,undef],defers:=[] }) ?assign ?body ?done ?stop
 case assign =>
  intro l x W K hK
  gi_wp2
  exact hK
 case body =>
  rintro l k W hk ⟨hb,hall,hB⟩
  have hps:=aJu 46 s hk
  have hpm:(aAo 46 s)[k].size≤maxLen:=Nat.le_trans hps hs'
  obtain ⟨p,hp⟩:∃ p,(aAo 46 s)[k]=p:=⟨_,rfl⟩
  rw [hp] at hpm
  have HP:=hide hp
  have HALL:=hide hall
  have hc:=hb.cell
  have hf:=hb.frozen
  clear hall hps
  rw [hp]
  clear hp
  cases hl:D.isLabel p.data.toList
  ·have HL:=hide hl
   clear hl
   gi_wp2_with fail
   refine ⟨trivial,(CallsIn.inRound l (callsIn_wide.2 (aF7 _ _ hpm))).mono ?_⟩
   rintro e w2 ⟨rfl,rfl⟩
   rw [HL.out]
   gi_wp2
   refine ⟨KeepsOthers.setCell _ _ _,hb.set _,rfl,?_,hB.setCell (p:=⟨w.heap.size,0,none⟩) (Nat.le_refl _) _⟩
   exact aEx s hk (by rw [HP.out];exact HL.out)
  ·have HL:=hide hl
   clear hl
   gi_wp2_with fail
   refine ⟨trivial,(CallsIn.inRound l (callsIn_wide.2 (aF7 _ _ hpm))).mono ?_⟩
   rintro e w2 ⟨rfl,rfl⟩
   rw [HL.out]
   gi_wp2
   refine ⟨KeepsOthers.refl _,aBg.refl _ _ _,hb,?_,hB⟩
   intro j hj hjk
   by_cases e:j=k
   ·subst e;rw [HP.out];exact HL.out
   ·exact HALL.out j hj (by omega)
 case done =>
  rintro D W hD ⟨hb,hall,hB⟩ hK
  have hn:=hide (aGn s h60' (fun j hj=>hall j hj hj))
  clear hall
  have hc:=hb.cell
  have hf:=hb.frozen
  gi_wp2
  have hK':=(KeepsOthers.setCell W ⟨w.heap.size,0,none⟩ (.bool true)).same D _ hK rfl
  refine ⟨by simp,.inl ⟨_,_,rfl,run_takeDeferred hK',?_⟩⟩
  have hc5:=cell_kept (World.cell?_setCell_same' W ⟨w.heap.size,0,none⟩ (.bool true) (by rw [hc];rfl)) (grownBy_putObj' _ D (.deferred none)) (fun r e=>by cases e;exact ⟨_,hK',rfl⟩)
  refine ⟨.bool true,?_,aA1 hn.out.symm,(hB.setCell (p:=⟨w.heap.size,0,none⟩) (Nat.le_refl _) _).trans (belowK_b (w:=w) (Nat.le_refl _) _ D _ _ (by omega) hK' rfl rfl)⟩
  simp [results,Tryz.f83,go_sem,hc5]
 case stop =>
  rintro D c k W hD hk ⟨hb,rfl,hn,hB⟩ hK
  have HN:=hide hn
  clear hn
  have hc:=hb.cell
  gi_wp2
  refine ⟨by simp,.inl ⟨_,_,rfl,run_takeDeferred hK,?_⟩⟩
  have hc5:=cell_kept hc (grownBy_putObj' _ D (.deferred none)) (fun r e=>by cases e;exact ⟨_,hK,rfl⟩)
  refine ⟨.bool false,?_,aA1 HN.out.symm,hB.trans (belowK_b (w:=w) (Nat.le_refl _) W D _ _ (by omega) hK rfl rfl)⟩
  simp [results,Tryz.f83,go_sem,hc5]
end Go.Proofs.YthnodpdiocppgaaGreatDoor
namespace Go.Proofs.YthnodpdiocppgaaGreatDoor
open Go Go.RowKit Go.Shelf
def under (a b:List UInt8):Bool:=D.isName a&&D.isName b&&Lib.hasSuffix a (46::b)
end Go.Proofs.YthnodpdiocppgaaGreatDoor
namespace Go.Proofs.YthnodpdiocppgaaGreatDoor
open Go Go.RowKit
def aAk (I:Nat→World→Prop):Prop:=∀ k W W',I k W→Below W.heap.size W W'→I k W'
theorem aAk.and {I I':Nat→World→Prop} (h:aAk I) (h':aAk I'):aAk fun k W=>I k W∧I' k W:=fun k W W' hi hb=>⟨h k W W' hi.1 hb,h' k W W' hi.2 hb⟩
theorem aAk.const (p:Nat→Prop):aAk fun k _=>p k:=fun _ _ _ hi _=>hi
theorem aAk.boxed (B t:Nat) (v:Value):aAk fun _ W=>Boxed W B t v:=fun _ _ _ h hb=>(hb.block B h.lt).trans h
theorem aAk.below (n:Nat) (w0:World) (h0:n≤w0.heap.size):aAk fun _ W=>Below n w0 W:=fun _ _ _ h hb=>h.trans (hb.mono (Nat.le_trans h0 h.size))
theorem aAk.size (n:Nat):aAk fun _ W=>n≤W.heap.size:=fun _ _ _ h hb=>Nat.le_trans h hb.size
def aEy (F:Fence) (n:Nat) (P:Program) (g:Nat) (lb:Array Value) (xs:List Value) (Need:World→Prop):Prop :=
 ∀ (l:Nat) (J Jx:Nat→World→Prop) (W:World),aAk J→aAk Jx→(∀ k W1,J k W1→Need W1) →
   (∀ k W1 (h:k<xs.length),J k W1→YieldAt F (n - 1) P l #[xs[k]] W1 fun e W' =>
    (e=.returned (.bool true)∧J (k+1) W')∨(e=.returned (.bool false)∧Jx (k+1) W')) →
   J 0 W →
   CallsIn F n P g (#[.func (.yield l) #[] #[]]++lb) W fun e W'=>(∃ v,e=.returned v)∧(J xs.length W'∨∃ k,k<xs.length∧Jx (k+1) W')
def aEz (I:Nat→World→Prop) (Ix:Code→Nat→World→Prop) (k:Nat) (W:World):Exit→Act→World→Prop
 | .normal,_,W'=>KeepsOthers W W'∧I k W'
 | .ret,_,W'=>KeepsOthers W W'∧Ix .ret k W'
 | .exit id,_,W'=>KeepsOthers W W'∧Ix (.exit id) k W'
 | .goto t,_,W'=>KeepsOthers W W'∧Ix (.goto t) k W'
 | .panic _,_,_=>False
 | .outgrown,_,_=>False
variable {F:Fence} {n:Nat} {P:Program}
theorem Book.grown (r:Loop) (d:Nat) (st:LoopState) (pe:Option Code) {W W':World} (h:Book r d st pe W) (hb:Below W.heap.size W W'):Book r d st pe W' :=
 ⟨(hb.block _ (Array.getElem?_eq_some_iff.1 h.rcd).1).trans h.rcd,(hb.block _ (Array.getElem?_eq_some_iff.1 h.defs).1).trans h.defs⟩
theorem aO0 {r:Loop} {d:Nat} {x:Value} {W:World} {k:Nat} {I:Nat→World→Prop} {Ix:Code→Nat→World→Prop} {a₁:Value→Act} (hF:F.fn r.fn) (hI:OwnFrom d I) (hIx:∀ c,OwnFrom d (Ix c))
  (hps:r.params.size=1) (hb:Book r d .ready none W) (hi':I k W)
  (hassign:∀ K:Act→World→Prop,K (a₁ x) W→r.assign.wpIn (F.inRound (d+1)) n P (Exit.then K (fun _ _ _=>False)) { tmps:=(r.params.zip #[x]).foldl (fun t (p,v)=>t.setIfInBounds p v) r.tmps,defers:=[] } W)
  (hbody:∀ W':World,I k W'→r.body.wpIn (F.inRound (d+1)) n P (aEz I Ix (k+1) W') (a₁ x) W') :
  YieldAt F n P (d+1) #[x] W fun e W' =>
   (e=.returned (.bool true)∧(I (k+1) W'∧Book r d .ready none W'))∨(e=.returned (.bool false)∧∃ c,Ix c (k+1) W'∧Book r d .done (some c) W'):=by
 refine ⟨_,_,_,_,run_yield (P:=P) (args:=#[x]) hb.rcd hps.symm,roundIn_of_wpIn hF (hassign _ ⟨_,run_beginRound hb.rcd rfl,?_⟩)⟩
 have bb:Book r d .busy none (W.putObj (d+1) (.loop { r with state:=.busy,pending:=none })):=hb.put .busy none
 refine wpIn_mono (hbody _ (aCl hI hi' hb _)) ?_
 have leave:∀ (c:Code) (W3:World),KeepsOthers (W.putObj (d+1) (.loop { r with state:=.busy,pending:=none })) W3→Ix c (k+1) W3 →
   ∃ v W4,(Instr.endRound (d+1) (some c)).run P W3=.ok v W4∧((Ending.returned v=.returned (.bool true)∧(I (k+1) W4∧Book r d .ready none W4)) ∨
     (Ending.returned v=.returned (.bool false)∧∃ c,Ix c (k+1) W4∧Book r d .done (some c) W4)):=fun c W3 k3 hx=>by
  obtain ⟨W4,hr,b4,_,own⟩:=aDi (P:=P) (lo:=0) (hi:=0) (Nat.zero_le d) bb k3 (some c)
  exact ⟨_,W4,hr,.inr ⟨rfl,c,own _ _ (hIx c) hx,b4⟩⟩
 intro e a3 W3 hp
 match e,hp with
 | .normal,⟨k3,i3⟩ =>
   obtain ⟨W4,hr,b4,_,own⟩:=aDi (P:=P) (lo:=0) (hi:=0) (Nat.zero_le d) bb k3 none
   exact ⟨_,W4,hr,.inl ⟨rfl,⟨own _ _ hI i3,b4⟩⟩⟩
 | .ret,⟨k3,i3⟩=>exact leave .ret W3 k3 i3
 | .exit id,⟨k3,i3⟩=>exact leave (.exit id) W3 k3 i3
 | .goto l,⟨k3,i3⟩=>exact leave (.goto l) W3 k3 i3
theorem aG1 {g:Operand} {ps:Array Tmp} {assign body:Code} {Q:Exit→Act→World→Prop} {a:Act} {w:World}
  (hro:F.round=none) (h1:1≤n) {gf:Nat} {lb:Array Value} (hg:a.eval g=.func (.func gf) #[] lb) (hFg:F.fn gf) (eg:∀ args w,(callFunc gf args).run P w=.ok (.enter gf args) w)
  {xs:List Value} {Need:World→Prop} (hseq:aEy F (n - 1) P gf lb xs Need) (hps:ps.size=1)
  (I:Nat→World→Prop) (Ix:Code→Nat→World→Prop) (hI:OwnFrom w.heap.size I) (hIx:∀ c,OwnFrom w.heap.size (Ix c)) (gI:aAk I) (gIx:∀ c,aAk (Ix c)) (nI:∀ k W,I k W→Need W) (h0:I 0 w) (a₁:Value→Act)
  (hassign:∀ (l:Nat) (x:Value) (W:World) (K:Act→World→Prop),K (a₁ x) W →
   assign.wpIn (F.inRound l) (n - 1 - 1) P (Exit.then K (fun _ _ _=>False)) { tmps:=(ps.zip #[x]).foldl (fun t (p,v)=>t.setIfInBounds p v) a.tmps,defers:=[] } W)
  (hbody:∀ (l:Nat) (k:Nat) (W:World) (h:k<xs.length),I k W→body.wpIn (F.inRound l) (n - 1 - 1) P (aEz I Ix (k+1) W) (a₁ xs[k]) W)
  (hdone:∀ (D:Nat) (W:World),w.heap.size≤D→I xs.length W→W.heap[D]?=some (.deferred (some []))→Q .normal { a with defers:={ target:=.collected D,args:=#[] }::a.defers } W)
  (hstop:∀ (D:Nat) (c:Code) (k:Nat) (W:World),w.heap.size≤D→k<xs.length→Ix c (k+1) W→W.heap[D]?=some (.deferred (some []))→c.wpIn F n P Q { a with defers:={ target:=.collected D,args:=#[] }::a.defers } W) :
  (Code.rangeFunc g ps assign body).wpIn F n P Q a w:=by
 refine wpIn_rangeFunc fun fn hfn=>?_
 rw [hro]
 let r:Loop:={ state:=.ready,pending:=none,fn:=fn,tmps:=a.tmps,params:=ps,assign:=assign,body:=body,defers:=w.heap.size }
 have hstart:I 0 ((w.alloc (.deferred (some []))).alloc (.loop r)):=hI.alloc _ (hI.alloc _ h0)
 have hbook:=Book.new r w ⟨rfl,rfl⟩
 have hits:=hseq (w.heap.size+1) (fun k W=>I k W∧Book r w.heap.size .ready none W) (fun k W=>∃ c,Ix c k W∧Book r w.heap.size .done (some c) W) ((w.alloc (.deferred (some []))).alloc (.loop r))
  (fun k W W' h hb=>⟨gI k W W' h.1 hb,h.2.grown r _ _ _ hb⟩) (fun k W W' h hb=>let ⟨c,h1,h2⟩:=h;⟨c,gIx c k W W' h1 hb,h2.grown r _ _ _ hb⟩) (fun k W h=>nI k W h.1)
  (fun k W hk h=>aO0 (r:=r) (a₁:=a₁) hfn hI hIx hps h.2 h.1 (fun K hK=>hassign _ _ _ _ hK) (fun W' hW'=>hbody _ k W' hk hW'))
  ⟨hstart,hbook⟩
 have hent:(Instr.enterLoop fn a.tmps ps assign body none).run P w=.ok (w.heap.size+1,[{ target:=.collected w.heap.size,args:=#[] }]) ((w.alloc (.deferred (some []))).alloc (.loop r)):=run_enterLoop_outer _ _ _ _ _
 generalize (w.alloc (.deferred (some []))).alloc (.loop r)=W1 at hent hits
 refine ⟨_,_,W1,{ target:=.fn (.func gf) lb,args:=#[.func (.yield (w.heap.size+1)) #[] #[]] },W1,gf,_,W1,hent,?_,?_,?_,fun _=>h1,hits.mono ?_⟩
 ·simp only [resolve,hg]
  simp [go_sem]
 ·intro f' hf'
  simp [Target.leads] at hf'
  exact hf' ▸ hFg
 ·simp [invoke,go_sem,eg]
 ·rintro e W2 ⟨⟨v,rfl⟩,⟨hi',hb⟩ | ⟨k,hk,c,hi',hb⟩⟩
  ·exact ⟨none,_,run_endLoop hb.rcd (by simp),hdone _ _ (Nat.le_refl _) (aCl hI hi' hb _) ((World.putObj_heap_other (Nat.ne_of_lt (Nat.lt_succ_self _))).trans hb.defs)⟩
  ·exact ⟨some c,_,run_endLoop hb.rcd (by simp),hstop _ c k _ (Nat.le_refl _) hk (aCl (hIx c) hi' hb _) ((World.putObj_heap_other (Nat.ne_of_lt (Nat.lt_succ_self _))).trans hb.defs)⟩
theorem aGr {β:Type} (cs:β→Array Value) (t:β→Nat) (p:β→Nat):Own fun s W=>W.heap[p s]?=some (.cells (cs s) (t s)):=fun s W W' row h hg hr =>
 (hg.block _ (Array.getElem?_eq_some_iff.1 h).1 (fun e=>by
  obtain ⟨o,ho,hc⟩:=hr _ e.symm
  rw [h] at ho
  cases ho
  cases hc)).trans h
theorem aQa {r:Loop} {d:Nat} {x:Value} {W:World} {k:Nat} {I:Nat→World→Prop} {Ix:Code→Nat→World→Prop} {a₁:Nat→Act} {Bx:Nat→World→Prop} (hF:F.fn r.fn) (hI:OwnFrom d I) (hIx:∀ c,OwnFrom d (Ix c)) (gI:aAk I) (hBx:OwnFrom d Bx)
  (hps:r.params.size=1) (hb:Book r d .ready none W) (hi':I k W)
  (hassign:∀ K:Act→World→Prop,(∀ p V,Below W.heap.size W V→Bx p V→K (a₁ p) V)→r.assign.wpIn (F.inRound (d+1)) n P (Exit.then K (fun _ _ _=>False)) { tmps:=(r.params.zip #[x]).foldl (fun t (p,v)=>t.setIfInBounds p v) r.tmps,defers:=[] } W)
  (hbody:∀ (p:Nat) (W':World),I k W'→Bx p W'→r.body.wpIn (F.inRound (d+1)) n P (aEz I Ix (k+1) W') (a₁ p) W') :
  YieldAt F n P (d+1) #[x] W fun e W' =>
   (e=.returned (.bool true)∧(I (k+1) W'∧Book r d .ready none W'))∨(e=.returned (.bool false)∧∃ c,Ix c (k+1) W'∧Book r d .done (some c) W'):=by
 refine ⟨_,_,_,_,run_yield (P:=P) (args:=#[x]) hb.rcd hps.symm,roundIn_of_wpIn hF (hassign _ fun p V hV hx=>⟨_,run_beginRound (hb.grown r _ _ _ hV).rcd rfl,?_⟩)⟩
 have hbV:=hb.grown r _ _ _ hV
 have hiV:=gI k W V hi' hV
 have bb:Book r d .busy none (V.putObj (d+1) (.loop { r with state:=.busy,pending:=none })):=hbV.put .busy none
 refine wpIn_mono (hbody p _ (aCl hI hiV hbV _) (aCl hBx hx hbV _)) ?_
 have leave:∀ (c:Code) (W3:World),KeepsOthers (V.putObj (d+1) (.loop { r with state:=.busy,pending:=none })) W3→Ix c (k+1) W3 →
   ∃ v W4,(Instr.endRound (d+1) (some c)).run P W3=.ok v W4∧((Ending.returned v=.returned (.bool true)∧(I (k+1) W4∧Book r d .ready none W4)) ∨
     (Ending.returned v=.returned (.bool false)∧∃ c,Ix c (k+1) W4∧Book r d .done (some c) W4)):=fun c W3 k3 hx=>by
  obtain ⟨W4,hr,b4,_,own⟩:=aDi (P:=P) (lo:=0) (hi:=0) (Nat.zero_le d) bb k3 (some c)
  exact ⟨_,W4,hr,.inr ⟨rfl,c,own _ _ (hIx c) hx,b4⟩⟩
 intro e a3 W3 hp
 match e,hp with
 | .normal,⟨k3,i3⟩ =>
   obtain ⟨W4,hr,b4,_,own⟩:=aDi (P:=P) (lo:=0) (hi:=0) (Nat.zero_le d) bb k3 none
   exact ⟨_,W4,hr,.inl ⟨rfl,⟨own _ _ hI i3,b4⟩⟩⟩
 | .ret,⟨k3,i3⟩=>exact leave .ret W3 k3 i3
 | .exit id,⟨k3,i3⟩=>exact leave (.exit id) W3 k3 i3
 | .goto l,⟨k3,i3⟩=>exact leave (.goto l) W3 k3 i3
theorem aDo {g:Operand} {ps:Array Tmp} {assign body:Code} {Q:Exit→Act→World→Prop} {a:Act} {w:World}
  (hro:F.round=none) (h1:1≤n) {gf:Nat} {lb:Array Value} (hg:a.eval g=.func (.func gf) #[] lb) (hFg:F.fn gf) (eg:∀ args w,(callFunc gf args).run P w=.ok (.enter gf args) w)
  {xs:List Value} {Need:World→Prop} (hseq:aEy F (n - 1) P gf lb xs Need) (hps:ps.size=1)
  (I:Nat→World→Prop) (Ix:Code→Nat→World→Prop) (hI:OwnFrom w.heap.size I) (hIx:∀ c,OwnFrom w.heap.size (Ix c)) (gI:aAk I) (gIx:∀ c,aAk (Ix c)) (nI:∀ k W,I k W→Need W) (h0:I 0 w) (a₁:Nat→Nat→Act) (Bx:Nat→Nat→World→Prop) (hBx:∀ k,OwnFrom w.heap.size (Bx k))
  (hassign:∀ (l:Nat) (k:Nat) (W:World) (h:k<xs.length) (K:Act→World→Prop),(∀ p V,Below W.heap.size W V→Bx k p V→K (a₁ k p) V) →
   assign.wpIn (F.inRound l) (n - 1 - 1) P (Exit.then K (fun _ _ _=>False)) { tmps:=(ps.zip #[xs[k]]).foldl (fun t (p,v)=>t.setIfInBounds p v) a.tmps,defers:=[] } W)
  (hbody:∀ (l:Nat) (k p:Nat) (W:World) (h:k<xs.length),I k W→Bx k p W→body.wpIn (F.inRound l) (n - 1 - 1) P (aEz I Ix (k+1) W) (a₁ k p) W)
  (hdone:∀ (D:Nat) (W:World),w.heap.size≤D→I xs.length W→W.heap[D]?=some (.deferred (some []))→Q .normal { a with defers:={ target:=.collected D,args:=#[] }::a.defers } W)
  (hstop:∀ (D:Nat) (c:Code) (k:Nat) (W:World),w.heap.size≤D→k<xs.length→Ix c (k+1) W→W.heap[D]?=some (.deferred (some []))→c.wpIn F n P Q { a with defers:={ target:=.collected D,args:=#[] }::a.defers } W) :
  (Code.rangeFunc g ps assign body).wpIn F n P Q a w:=by
 refine wpIn_rangeFunc fun fn hfn=>?_
 rw [hro]
 let r:Loop:={ state:=.ready,pending:=none,fn:=fn,tmps:=a.tmps,params:=ps,assign:=assign,body:=body,defers:=w.heap.size }
 have hstart:I 0 ((w.alloc (.deferred (some []))).alloc (.loop r)):=hI.alloc _ (hI.alloc _ h0)
 have hbook:=Book.new r w ⟨rfl,rfl⟩
 have hits:=hseq (w.heap.size+1) (fun k W=>I k W∧Book r w.heap.size .ready none W) (fun k W=>∃ c,Ix c k W∧Book r w.heap.size .done (some c) W) ((w.alloc (.deferred (some []))).alloc (.loop r))
  (fun k W W' h hb=>⟨gI k W W' h.1 hb,h.2.grown r _ _ _ hb⟩) (fun k W W' h hb=>let ⟨c,h1,h2⟩:=h;⟨c,gIx c k W W' h1 hb,h2.grown r _ _ _ hb⟩) (fun k W h=>nI k W h.1)
  (fun k W hk h=>aQa (r:=r) (a₁:=a₁ k) hfn hI hIx gI (hBx k) hps h.2 h.1 (fun K hK=>hassign _ k _ hk _ hK) (fun p W' hW' hx=>hbody _ k p W' hk hW' hx))
  ⟨hstart,hbook⟩
 have hent:(Instr.enterLoop fn a.tmps ps assign body none).run P w=.ok (w.heap.size+1,[{ target:=.collected w.heap.size,args:=#[] }]) ((w.alloc (.deferred (some []))).alloc (.loop r)):=run_enterLoop_outer _ _ _ _ _
 generalize (w.alloc (.deferred (some []))).alloc (.loop r)=W1 at hent hits
 refine ⟨_,_,W1,{ target:=.fn (.func gf) lb,args:=#[.func (.yield (w.heap.size+1)) #[] #[]] },W1,gf,_,W1,hent,?_,?_,?_,fun _=>h1,hits.mono ?_⟩
 ·simp only [resolve,hg]
  simp [go_sem]
 ·intro f' hf'
  simp [Target.leads] at hf'
  exact hf' ▸ hFg
 ·simp [invoke,go_sem,eg]
 ·rintro e W2 ⟨⟨v,rfl⟩,⟨hi',hb⟩ | ⟨k,hk,c,hi',hb⟩⟩
  ·exact ⟨none,_,run_endLoop hb.rcd (by simp),hdone _ _ (Nat.le_refl _) (aCl hI hi' hb _) ((World.putObj_heap_other (Nat.ne_of_lt (Nat.lt_succ_self _))).trans hb.defs)⟩
  ·exact ⟨some c,_,run_endLoop hb.rcd (by simp),hstop _ c k _ (Nat.le_refl _) hk (aCl (hIx c) hi' hb _) ((World.putObj_heap_other (Nat.ne_of_lt (Nat.lt_succ_self _))).trans hb.defs)⟩
end Go.Proofs.YthnodpdiocppgaaGreatDoor
