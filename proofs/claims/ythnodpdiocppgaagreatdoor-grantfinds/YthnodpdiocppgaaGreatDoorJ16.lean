/-
  The laws' Few of filters.
-/
import Derived.Test.YthnodpdiocppgaaGreatDoorJ11
import Derived.Test.YthnodpdiocppgaaGreatDoorJ15
import Derived.Test.YthnodpdiocppgaaGreatDoorJ12
import Derived.Test.YthnodpdiocppgaaGreatDoorJ2
set_option maxHeartbeats 6400000
set_option maxRecDepth 20000
namespace Go.Proofs.YthnodpdiocppgaaGreatDoor
open Go Go.RowKit Go.Shelf Fi
theorem Tryz.infoFil:(Tryz.prog.info? 108).map (fun i=>(i.zero,i.size,i.bytes))=some (some (.agg #[.int .i64 0,.string ⟨#[]⟩,.string ⟨#[]⟩,.string ⟨#[]⟩,.int .i64 0,.string ⟨#[]⟩,.bool false,.int .i64 0]),8,96):=by kernel_rfl
theorem aT5 (v:Value) (l:List FB) (w:World) (hv:Sl EF w v l) (raw:∀ f∈l,RawF f) :
  Calls Tryz.prog 43 #[v] w fun e w'=>∃ v',e=.returned v'∧w'.ownsRow w.heap.size 108 8 v' (aB6 l).length (EF.flat (aB6 l))∧Below w.heap.size w w':=by
 have hlen:=hv.len
 obtain ⟨a,cap,rfl,_,_,hc⟩:=hv
 have HC:=hide hc
 have HRAW:=hide raw
 clear hc raw
 go_enter Tryz.func43,Tryz.ntmps43
 go_wp2_with fail
 go_loopw [3,4] (fun o i wr=>∃ k:Nat,k≤l.length∧k≤9∧i=.int .i64 k∧wr.ownsRow w.heap.size 108 8 o ((l.take k).map fewF).length (EF.flat ((l.take k).map fewF))∧Below w.heap.size w wr) (fun _ i _=>9 - (intOf i).toNat)
 case atStart=>exact ⟨0,Nat.zero_le _,by omega,rfl,World.ownsRow_nil _ _ _ _,Below.refl _ _⟩
 case round =>
  obtain ⟨k,hk,hk9,rfl,hr,hB⟩:=hrel
  have HR:=hide hr
  clear hr
  have hl':((l.take k).map fewF).length≤9:=by simp;omega
  by_cases hlt:k<l.length
  ·have hlt':(k:Int)<(l.length:Int):=by omega
   by_cases h9:k<9
   ·have h9':(k:Int)<9:=by omega
    obtain ⟨_,gg,off,rfl,hgg,hat⟩:=HC.out k hlt
    obtain ⟨c0,c1,c2,c3,c4,c5,c6,c7⟩:=aAm (show EF.At wr gg (off+k*8) l[k] from fun j u hu=>(hB.cell (p:=⟨gg,off+k*8+j,none⟩) hgg).trans (hat j u hu))
    have rk:=HRAW.out l[k] (List.getElem_mem hlt)
    have HN:=hide (aOj hlt)
    clear hat
    generalize l[k]=fk at *
    obtain ⟨k0,n0,v0,h0,p0,t0,b0,z0⟩:=fk
    have C1:=fun W=>hide (aAw n0 W rk.name)
    have C2:=fun W=>hide (aAw v0 W rk.val)
    have C3:=fun W=>hide (aAw h0 W rk.host)
    have C5:=fun W=>hide (aAw t0 W rk.path)
    dsimp only at *
    obtain ⟨X,hX⟩:∃ z,z=wr.alloc (.cells #[.int .i64 k0,.string n0,.string v0,.string h0,.int .i64 p0,.string t0,.bool b0,.int .i64 z0] 108):=⟨_,rfl⟩
    have HBK:∀ W,Below X.heap.size X W→W.heap[wr.heap.size]?=some (.cells #[.int .i64 k0,.string n0,.string v0,.string h0,.int .i64 p0,.string t0,.bool b0,.int .i64 z0] 108):=fun W h=>aA2 (by rw [hX];exact aA7 wr _) h
    have BX:Below wr.heap.size wr X:=by rw [hX];exact (Below.refl _ wr).alloc (Nat.le_refl _) _
    have m1:=fun W h=>aA0 (HBK W h) (i:=1) rfl
    have m2:=fun W h=>aA0 (HBK W h) (i:=2) rfl
    have m3:=fun W h=>aA0 (HBK W h) (i:=3) rfl
    have m5:=fun W h=>aA0 (HBK W h) (i:=5) rfl
    have HBH:=hide HBK
    clear HBK rk
    go_wp2_with fail
    rw [←hX]
    clear hX c0 c1 c2 c3 c4 c5 c6 c7
    refine aB4 13 (fun w'=>Below X.heap.size X w') (by kernel_rfl) ((Below.refl _ _).drew) ?_
    refine zzG 0 5 (.pointer (some ⟨wr.heap.size,1,none⟩)) rfl (by kernel_rfl) (fun _ _ _ h=>h) (by rfl) (fun w1 hS=>?_) ?_
    ·(try dsimp only at hS)
     go_simp
    simp only [Act.put,zzB,zzC,zzD]
    refine zzG 1 5 (.string n0) rfl (by kernel_rfl) (fun _ _ _ h=>h) (by rfl) (fun w1 hS=>?_) ?_
    ·(try dsimp only at hS)
     go_simp
    simp only [Act.put,zzB,zzC,zzD]
    refine zzG 3 5 (.pointer (some ⟨wr.heap.size,2,none⟩)) rfl (by kernel_rfl) (fun _ _ _ h=>h) (by rfl) (fun w1 hS=>?_) ?_
    ·(try dsimp only at hS)
     go_simp
    simp only [Act.put,zzB,zzC,zzD]
    refine zzG 4 5 (.string v0) rfl (by kernel_rfl) (fun _ _ _ h=>h) (by rfl) (fun w1 hS=>?_) ?_
    ·(try dsimp only at hS)
     go_simp
    simp only [Act.put,zzB,zzC,zzD]
    refine zzG 6 5 (.pointer (some ⟨wr.heap.size,3,none⟩)) rfl (by kernel_rfl) (fun _ _ _ h=>h) (by rfl) (fun w1 hS=>?_) ?_
    ·(try dsimp only at hS)
     go_simp
    simp only [Act.put,zzB,zzC,zzD]
    refine zzG 7 5 (.string h0) rfl (by kernel_rfl) (fun _ _ _ h=>h) (by rfl) (fun w1 hS=>?_) ?_
    ·(try dsimp only at hS)
     go_simp
    simp only [Act.put,zzB,zzC,zzD]
    refine zzG 9 5 (.pointer (some ⟨wr.heap.size,5,none⟩)) rfl (by kernel_rfl) (fun _ _ _ h=>h) (by rfl) (fun w1 hS=>?_) ?_
    ·(try dsimp only at hS)
     go_simp
    simp only [Act.put,zzB,zzC,zzD]
    refine zzG 10 5 (.string t0) rfl (by kernel_rfl) (fun _ _ _ h=>h) (by rfl) (fun w1 hS=>?_) ?_
    ·(try dsimp only at hS)
     go_simp
    simp only [Act.put,zzB,zzC,zzD]
    clear m1 m2 m3 m5
    refine zzG 2 5 (.string (fewB n0)) rfl (by kernel_rfl) (fun _ _ _ h=>h) (by rfl) (fun w1 hS=>?_) ?_
    ·(try dsimp only at hS)
     go_simp
     exact aAq hS (C1 _).out
    simp only [Act.put,zzB,zzC,zzD]
    refine zzG 5 5 (.string (fewB v0)) rfl (by kernel_rfl) (fun _ _ _ h=>h) (by rfl) (fun w1 hS=>?_) ?_
    ·(try dsimp only at hS)
     go_simp
     exact aAq hS (C2 _).out
    simp only [Act.put,zzB,zzC,zzD]
    refine zzG 8 5 (.string (fewB h0)) rfl (by kernel_rfl) (fun _ _ _ h=>h) (by rfl) (fun w1 hS=>?_) ?_
    ·(try dsimp only at hS)
     go_simp
     exact aAq hS (C3 _).out
    simp only [Act.put,zzB,zzC,zzD]
    refine zzG 11 5 (.string (fewB t0)) rfl (by kernel_rfl) (fun _ _ _ h=>h) (by rfl) (fun w1 hS=>?_) ?_
    ·(try dsimp only at hS)
     go_simp
     exact aAq hS (C5 _).out
    simp only [Act.put,zzB,zzC,zzD]
    refine zzG 12 5 (.pointer (some ⟨wr.heap.size,1,none⟩)) rfl (by kernel_rfl) (fun _ _ _ h=>h) (by rfl) (fun w1 hS=>?_) ?_
    ·(try dsimp only at hS)
     go_simp
    simp only [Act.put,zzB,zzC,zzD]
    refine aAf (rs:=[13]) (by kernel_rfl) (by simp) (fun W hG hS i hi=>?_)
    obtain rfl:i=13:=by simpa using hi
    clear hi
    have kb:=HBH.out W hS
    have BW:Below wr.heap.size wr W:=bb2 BX hS
    clear hG hS HBH C1 C2 C3 C5 BX
    have xc:=aA0 kb (i:=1) rfl
    have lv:=aAl kb
    refine aAb rfl (by rfl) (fun K' hK'=>?_)
    go_simp
    refine hK' _ _ (aBq (by decide) ?_)
    clear hK' K' xc lv
    replace kb:=aBi (i:=1) (.string (fewB n0)) kb
    replace BW:=BW.setCell (p:=⟨wr.heap.size,1,none⟩) (Nat.le_refl _) (.string (fewB n0))
    refine aCm (i:=14) (by kernel_rfl) ?_
    refine aAb rfl (by rfl) (fun K' hK'=>?_)
    go_simp
    refine hK' _ _ ?_
    clear hK' K'
    refine aCm (i:=15) (by kernel_rfl) ?_
    have xc:=aA0 kb (i:=2) rfl
    have lv:=aAl kb
    refine aAb rfl (by rfl) (fun K' hK'=>?_)
    go_simp
    refine hK' _ _ ?_
    clear hK' K' xc lv
    replace kb:=aBi (i:=2) (.string (fewB v0)) kb
    replace BW:=BW.setCell (p:=⟨wr.heap.size,2,none⟩) (Nat.le_refl _) (.string (fewB v0))
    refine aCm (i:=16) (by kernel_rfl) ?_
    refine aAb rfl (by rfl) (fun K' hK'=>?_)
    go_simp
    refine hK' _ _ ?_
    clear hK' K'
    refine aCm (i:=17) (by kernel_rfl) ?_
    have xc:=aA0 kb (i:=3) rfl
    have lv:=aAl kb
    refine aAb rfl (by rfl) (fun K' hK'=>?_)
    go_simp
    refine hK' _ _ ?_
    clear hK' K' xc lv
    replace kb:=aBi (i:=3) (.string (fewB h0)) kb
    replace BW:=BW.setCell (p:=⟨wr.heap.size,3,none⟩) (Nat.le_refl _) (.string (fewB h0))
    refine aCm (i:=18) (by kernel_rfl) ?_
    refine aAb rfl (by rfl) (fun K' hK'=>?_)
    go_simp
    refine hK' _ _ ?_
    clear hK' K'
    refine aCm (i:=19) (by kernel_rfl) ?_
    have xc:=aA0 kb (i:=5) rfl
    have lv:=aAl kb
    refine aAb rfl (by rfl) (fun K' hK'=>?_)
    go_simp
    refine hK' _ _ ?_
    clear hK' K' xc lv
    replace kb:=aBi (i:=5) (.string (fewB t0)) kb
    replace BW:=BW.setCell (p:=⟨wr.heap.size,5,none⟩) (Nat.le_refl _) (.string (fewB t0))
    refine aBf (by kernel_rfl) ?_
    change ((((W.setCell ⟨wr.heap.size,1,none⟩ (.string (fewB n0))).setCell ⟨wr.heap.size,2,none⟩ (.string (fewB v0))).setCell ⟨wr.heap.size,3,none⟩ (.string (fewB h0))).setCell ⟨wr.heap.size,5,none⟩ (.string (fewB t0))).heap[_]?=some (Obj.cells #[.int .i64 k0,.string (fewB n0),.string (fewB v0),.string (fewB h0),.int .i64 p0,.string (fewB t0),.bool b0,.int .i64 z0] 108) at kb
    generalize (((W.setCell ⟨wr.heap.size,1,none⟩ (.string (fewB n0))).setCell ⟨wr.heap.size,2,none⟩ (.string (fewB v0))).setCell ⟨wr.heap.size,3,none⟩ (.string (fewB h0))).setCell ⟨wr.heap.size,5,none⟩ (.string (fewB t0))=W2 at *
    obtain ⟨d0,d1,d2,d3,d4,d5,d6,d7⟩:_∧_∧_∧_∧_∧_∧_∧_:=⟨aA0 kb (i:=0) rfl,aA0 kb (i:=1) rfl,aA0 kb (i:=2) rfl,aA0 kb (i:=3) rfl,aA0 kb (i:=4) rfl,aA0 kb (i:=5) rfl,aA0 kb (i:=6) rfl,aA0 kb (i:=7) rfl⟩
    have HR2:=hide (aA4 HR.out BW)
    have hB2:=bb2 hB BW
    have hbs:=hB2.size
    clear kb BW HR
    have ba:=(Below.refl W2.heap.size W2).alloc (Nat.le_refl _) (.cells #[.int .i64 k0,.string (fewB n0),.string (fewB v0),.string (fewB h0),.int .i64 p0,.string (fewB t0),.bool b0,.int .i64 z0] 108)
    have SL:Sl EF (W2.alloc (.cells #[.int .i64 k0,.string (fewB n0),.string (fewB v0),.string (fewB h0),.int .i64 p0,.string (fewB t0),.bool b0,.int .i64 z0] 108)) (.slice (some ⟨W2.heap.size,0,none⟩) 1 1) [fewF ⟨k0,n0,v0,h0,p0,t0,b0,z0⟩]:=Sl.at_block (aA7 W2 _) trivial
    have HR3:=aA4 HR2.out ba
    go_wp2_with (at_builtin;refine aAg (E:=EF) 73 108 _ 96 Tryz.underlying73 Tryz.infoFil rfl (by decide) _ _ _ rfl (by rfl) w.heap.size _ _ _ rfl HR3 _ _ rfl SL (by simp;omega) (by simp;omega) ?_;intro v' w3 hown' hgrow)
    refine ⟨⟨k+1,by omega,by omega,by go_num,by rw [HN.out,List.length_append];exact hown',?_⟩,by simp [intOf];omega⟩
    exact (hB2.alloc hB2.size _).grown hgrow (by simp;omega) (fun j e=>aAe HR3 e)
   ·have h9':¬ (k:Int)<9:=by omega
    have HE:=hide (aK3 hk hk9 (by omega))
    go_wp2_with fail
    go_ret
    exact ⟨_,rfl,by rw [←HE.out];exact HR.out,hB⟩
  ·have hlt':¬ (k:Int)<(l.length:Int):=by omega
   have HE:=hide (aK3 hk hk9 (by omega))
   go_wp2_with fail
   go_ret
   exact ⟨_,rfl,by rw [←HE.out];exact HR.out,hB⟩
end Go.Proofs.YthnodpdiocppgaaGreatDoor
namespace Go.Proofs.YthnodpdiocppgaaGreatDoor
open Go Go.RowKit Go.Shelf Go.Deep
structure BX (B n:Nat) (w w':World):Prop where
 os:w'.os=w.os
 tape:w'.tape=w.tape
 output:w'.output=w.output
 size:w.heap.size≤w'.heap.size
 block:∀ k,k<n→k≠B→w'.heap[k]?=w.heap[k]?
theorem BX.of_below {B n:Nat} {w w':World} (h:Below n w w'):BX B n w w':=⟨h.os,h.tape,h.output,h.size,fun k hk _=>h.block k hk⟩
theorem BX.refl (B n:Nat) (w:World):BX B n w w:=BX.of_below (Below.refl _ _)
theorem BX.trans {B n:Nat} {a b c:World} (h:BX B n a b) (k:BX B n b c):BX B n a c :=
 ⟨k.os.trans h.os,k.tape.trans h.tape,k.output.trans h.output,Nat.le_trans h.size k.size,fun i hi hB=>(k.block i hi hB).trans (h.block i hi hB)⟩
theorem BX.below {B n:Nat} {a b c:World} (h:BX B n a b) (k:Below n b c):BX B n a c:=h.trans (BX.of_below k)
theorem BX.setL {B n:Nat} {a b:World} (h:BX B n a b) (k:Nat) (cs:List Value):BX B n a (setL b B k cs):=by
 have e:∀ (cs:List Value) (W:World) (k:Nat),(Go.Proofs.YthnodpdiocppgaaGreatDoor.setL W B k cs).os=W.os∧(Go.Proofs.YthnodpdiocppgaaGreatDoor.setL W B k cs).tape=W.tape∧(Go.Proofs.YthnodpdiocppgaaGreatDoor.setL W B k cs).output=W.output:=by
  intro cs
  induction cs with
  | nil=>exact fun W k=>⟨rfl,rfl,rfl⟩
  | cons c cs ih=>exact fun W k=>ih (W.setCell ⟨B,k,none⟩ c) (k+1)
 obtain ⟨e1,e2,e3⟩:=e cs b k
 exact ⟨e1.trans h.os,e2.trans h.tape,e3.trans h.output,by rw [aJp];exact h.size,fun i hi hB=>by rw [aCf hB];exact h.block i hi hB⟩
theorem BX.under {B n m:Nat} {a b:World} (h:BX B n a b) (hm:m≤B) (hn:m≤n):Below m a b:=⟨h.os,h.tape,h.output,h.size,fun k hk=>h.block k (by omega) (by omega)⟩
theorem BX.row {B t:Nat} {w w':World} {old:Array Value} (h:BX B w.heap.size w w') (hz:w.heap[B]?=some (.cells old t)) {b0 e0 s n:Nat} {u:Value} {xs:List Value} (hr:w.ownsRow b0 e0 s u n xs) (hne:e0≠t):w'.ownsRow b0 e0 s u n xs:=by
 obtain ⟨h1,h2⟩:=hr
 refine ⟨h1,?_⟩
 rcases h2 with h2 | ⟨g,cap,cur,hv,hb,hh,r⟩
 ·exact .inl h2
 ·refine .inr ⟨g,cap,cur,hv,hb,?_,r⟩
  rw [h.block g (aAs hh) (fun e=>?_)]
  ·exact hh
  ·rw [e,hz] at hh
   injection hh with hh
   injection hh with _ hh _
   exact hne hh.symm
def aA9 (l:List RfB):List RfB:=(l.take 5).map aC1
theorem Tryz.infoSide:(Tryz.prog.info? 53).map (fun i=>(i.zero,i.size,i.bytes))=some (some (.agg #[.int .i64 0,.string ⟨#[]⟩,.string ⟨#[]⟩]),3,40):=by kernel_rfl
theorem aK6 (v:Value) (l:List RfB) (w:World) (hv:Sl ER w v l) (raw:∀ r∈l,aCw r) :
  Calls Tryz.prog 41 #[v] w fun e w'=>∃ v',e=.returned v'∧w'.ownsRow w.heap.size 53 ER.n v' (aA9 l).length (ER.flat (aA9 l))∧Below w.heap.size w w':=by
 have hlen:=hv.len
 obtain ⟨a,cap,rfl⟩:=hv.form
 have HC:=hide (fun W (hB:Below w.heap.size w W) k (hk:k<l.length)=>oneD hv hB hk)
 have HRAW:=hide raw
 clear hv raw
 go_enter Tryz.func41,Tryz.ntmps41
 go_wp2_with fail
 go_loopw [3,4] (fun o i wr=>∃ k:Nat,k≤l.length∧k≤5∧i=.int .i64 k∧wr.ownsRow w.heap.size 53 ER.n o ((l.take k).map aC1).length (ER.flat ((l.take k).map aC1))∧Below w.heap.size w wr) (fun _ i _=>5 - (intOf i).toNat)
 case atStart=>exact ⟨0,Nat.zero_le _,by omega,rfl,World.ownsRow_nil _ _ _ _,Below.refl _ _⟩
 case round =>
  obtain ⟨k,hk,hk5,rfl,hr,hB⟩:=hrel
  have hl':((l.take k).map aC1).length≤5:=by simp;omega
  have HEND:Hid (¬ (k<l.length∧k<5)→(l.take k).map aC1=aA9 l):=fun h=>by
   unfold aA9
   rcases (show k=5∨l.length≤k by omega) with h1 | h1
   ·rw [h1]
   ·rw [List.take_of_length_le h1,List.take_of_length_le (by omega)]
  by_cases hlt:k<l.length
  ·have hlt':(k:Int)<(l.length:Int):=by omega
   by_cases h5:k<5
   ·have h5':(k:Int)<5:=by omega
    obtain ⟨a1,c1,hv5⟩:=aAj hr
    subst hv5
    have HR:=hide hr
    clear hr HEND
    obtain ⟨_,g,off,rfl,hg,q0,q1,q2⟩:=HC.out _ hB k hlt
    obtain ⟨r1,r2⟩:=HRAW.out _ (List.getElem_mem hlt)
    have HN:Hid ((l.take (k+1)).map aC1=(l.take k).map aC1++[aC1 l[k]]):=by
     unfold Hid
     rw [List.take_succ_eq_append_getElem hlt,List.map_append]
     rfl
    have QB:=hide (fun W (h:Below w.heap.size wr W)=>(⟨(h.cell (p:=⟨g,off+k*3,none⟩) hg).trans q0,(h.cell (p:=⟨g,off+k*3+1,none⟩) hg).trans q1,(h.cell (p:=⟨g,off+k*3+2,none⟩) hg).trans q2⟩:_∧_∧_))
    have m0:=fun W h=>(QB.out W h).1
    have m1:=fun W h=>(QB.out W h).2.1
    have m2:=fun W h=>(QB.out W h).2.2
    have C1:=fun W=>hide (aAw l[k].space W r1)
    have C2:=fun W=>hide (aAw l[k].name W r2)
    clear q0 q1 q2 r1 r2 QB
    generalize l[k]=x at *
    obtain ⟨kd,s,n⟩:=x
    generalize hR0:(l.take k).map aC1=R0 at *
    have HR0:=hide hR0
    clear hR0
    dsimp only at *
    go_wp2_with fail
    refine aB4 21 (fun W=>Below w.heap.size wr W) (by kernel_rfl) ((Below.refl _ _).drew) ?_
    refine zzG 0 5 (.slice a1 R0.length c1) rfl (by kernel_rfl) (fun _ _ _ h=>h) (by rfl) (fun w1 hS=>?_) ?_
    ·(try dsimp only at hS)
     go_simp
    simp only [Act.put,zzB,zzC,zzD]
    refine zzG 1 5 (.slice (some ⟨g,off,none⟩) l.length cap) rfl (by kernel_rfl) (fun _ _ _ h=>h) (by rfl) (fun w1 hS=>?_) ?_
    ·(try dsimp only at hS)
     go_simp
    simp only [Act.put,zzB,zzC,zzD]
    refine zzG 2 5 (.int .i64 k) rfl (by kernel_rfl) (fun _ _ _ h=>h) (by rfl) (fun w1 hS=>?_) ?_
    ·(try dsimp only at hS)
     go_simp
    simp only [Act.put,zzB,zzC,zzD]
    refine zzG 3 5 (.pointer (some ⟨g,off+k*3,none⟩)) rfl (by kernel_rfl) (fun _ _ _ h=>h) (by rfl) (fun w1 hS=>?_) ?_
    ·(try dsimp only at hS)
     go_simp
    simp only [Act.put,zzB,zzC,zzD]
    refine zzG 4 5 (.pointer (some ⟨g,off+k*3,none⟩)) rfl (by kernel_rfl) (fun _ _ _ h=>h) (by rfl) (fun w1 hS=>?_) ?_
    ·(try dsimp only at hS)
     go_simp
    simp only [Act.put,zzB,zzC,zzD]
    refine zzG 5 5 (.int .i64 kd) rfl (by kernel_rfl) (fun _ _ _ h=>h) (by rfl) (fun w1 hS=>?_) ?_
    ·(try dsimp only at hS)
     go_simp
    simp only [Act.put,zzB,zzC,zzD]
    refine zzG 6 5 (.slice (some ⟨g,off,none⟩) l.length cap) rfl (by kernel_rfl) (fun _ _ _ h=>h) (by rfl) (fun w1 hS=>?_) ?_
    ·(try dsimp only at hS)
     go_simp
    simp only [Act.put,zzB,zzC,zzD]
    refine zzG 7 5 (.int .i64 k) rfl (by kernel_rfl) (fun _ _ _ h=>h) (by rfl) (fun w1 hS=>?_) ?_
    ·(try dsimp only at hS)
     go_simp
    simp only [Act.put,zzB,zzC,zzD]
    refine zzG 8 5 (.pointer (some ⟨g,off+k*3,none⟩)) rfl (by kernel_rfl) (fun _ _ _ h=>h) (by rfl) (fun w1 hS=>?_) ?_
    ·(try dsimp only at hS)
     go_simp
    simp only [Act.put,zzB,zzC,zzD]
    refine zzG 9 5 (.pointer (some ⟨g,off+k*3+1,none⟩)) rfl (by kernel_rfl) (fun _ _ _ h=>h) (by rfl) (fun w1 hS=>?_) ?_
    ·(try dsimp only at hS)
     go_simp
    simp only [Act.put,zzB,zzC,zzD]
    refine zzG 10 5 (.string s) rfl (by kernel_rfl) (fun _ _ _ h=>h) (by rfl) (fun w1 hS=>?_) ?_
    ·(try dsimp only at hS)
     go_simp
    simp only [Act.put,zzB,zzC,zzD]
    refine zzG 12 5 (.slice (some ⟨g,off,none⟩) l.length cap) rfl (by kernel_rfl) (fun _ _ _ h=>h) (by rfl) (fun w1 hS=>?_) ?_
    ·(try dsimp only at hS)
     go_simp
    simp only [Act.put,zzB,zzC,zzD]
    refine zzG 13 5 (.int .i64 k) rfl (by kernel_rfl) (fun _ _ _ h=>h) (by rfl) (fun w1 hS=>?_) ?_
    ·(try dsimp only at hS)
     go_simp
    simp only [Act.put,zzB,zzC,zzD]
    refine zzG 14 5 (.pointer (some ⟨g,off+k*3,none⟩)) rfl (by kernel_rfl) (fun _ _ _ h=>h) (by rfl) (fun w1 hS=>?_) ?_
    ·(try dsimp only at hS)
     go_simp
    simp only [Act.put,zzB,zzC,zzD]
    refine zzG 15 5 (.pointer (some ⟨g,off+k*3+2,none⟩)) rfl (by kernel_rfl) (fun _ _ _ h=>h) (by rfl) (fun w1 hS=>?_) ?_
    ·(try dsimp only at hS)
     go_simp
    simp only [Act.put,zzB,zzC,zzD]
    refine zzG 16 5 (.string n) rfl (by kernel_rfl) (fun _ _ _ h=>h) (by rfl) (fun w1 hS=>?_) ?_
    ·(try dsimp only at hS)
     go_simp
    simp only [Act.put,zzB,zzC,zzD]
    clear m0 m1 m2
    refine zzG 11 5 (.string (fewB s)) rfl (by kernel_rfl) (fun _ _ _ h=>h) (by rfl) (fun w1 hS=>?_) ?_
    ·(try dsimp only at hS)
     go_simp
     exact aAq hS (C1 _).out
    simp only [Act.put,zzB,zzC,zzD]
    refine zzG 17 5 (.string (fewB n)) rfl (by kernel_rfl) (fun _ _ _ h=>h) (by rfl) (fun w1 hS=>?_) ?_
    ·(try dsimp only at hS)
     go_simp
     exact aAq hS (C2 _).out
    simp only [Act.put,zzB,zzC,zzD]
    refine zzG 18 5 (.agg #[.int .i64 kd,.string (fewB s),.string (fewB n)]) rfl (by kernel_rfl) (fun _ _ _ h=>h) (by rfl) (fun w1 hS=>?_) ?_
    ·(try dsimp only at hS)
     go_simp
    simp only [Act.put,zzB,zzC,zzD]
    refine aAf (rs:=[19]) (by kernel_rfl) (by simp) (fun wd hGd hSd i hi=>?_)
    obtain rfl:i=19:=by simpa using hi
    clear hi
    refine aAb rfl (by rfl) (fun K' hK'=>?_)
    replace hK':=hide hK'
    go_simp
    refine hK'.out _ _ (aAx (by decide) (hSd.alloc (by have:=hSd.size;have:=hB.size;omega) _) ?_)
    clear hK' K'
    refine aAf (rs:=[20]) (by kernel_rfl) (by simp) (fun we hGe hSe i hi=>?_)
    obtain rfl:i=20:=by simpa using hi
    clear hi
    have RW:=aA4 (aA4 (aA4 HR.out ((Below.refl _ _).drew)) hGd) (aA8 hGe)
    have SLW:Sl ER we (.slice (some ⟨wd.heap.size,0,none⟩) 1 1) [⟨kd,fewB s,fewB n⟩]:=Sl.at_block (E:=ER) (x:=⟨kd,fewB s,fewB n⟩) (aB7 hGe) trivial
    refine aAb rfl (by rfl) (fun K' hK'=>?_)
    refine aBy (E:=ER) 34 53 _ 40 Tryz.underlying34 Tryz.infoSide rfl (by decide) _ _ _ rfl w.heap.size _ _ _ rfl RW _ _ rfl SLW (by simp;omega) (by have:=hSe.size;have:=hB.size;omega) ?_
    intro v5 w5 hr5 hg5
    have hS5:Below w.heap.size wr w5:=hSe.grown hg5 (by have:=hSe.size;have:=hB.size;omega) (fun j e=>aAe RW e)
    refine hK' _ _ (aAx (by decide) hS5 ?_)
    clear hK' K' hGd hSd hGe hSe RW SLW hg5
    try simp only [Act.put,zzB,zzC,zzD]
    refine aAf (rs:=[21]) (by kernel_rfl) (by simp) (fun wf hGf hSf i hi=>?_)
    obtain rfl:i=21:=by simpa using hi
    clear hi
    refine aAb rfl (by rfl) (fun K' hK'=>?_)
    go_simp
    refine hK' _ _ (aBq (by decide) ?_)
    clear hK' K'
    refine aBf (by kernel_rfl) ?_
    have HF:=hide (aA4 hr5 hGf)
    clear hGf hr5 hS5
    go_wp2_with fail
    exact ⟨⟨k+1,by omega,by omega,by go_num,by rw [HN.out,List.length_append];exact HF.out,hB.trans hSf⟩,by simp [intOf];omega⟩
   ·have h5':¬ (k:Int)<5:=by omega
    have HE:=hide (HEND.out (by omega))
    have HR:=hide hr
    clear hr
    go_wp2_with fail
    go_ret
    exact ⟨_,rfl,by rw [←HE.out];exact HR.out,hB⟩
  ·have hlt':¬ (k:Int)<(l.length:Int):=by omega
   have HE:=hide (HEND.out (by omega))
   have HR:=hide hr
   clear hr
   go_wp2_with fail
   go_ret
   exact ⟨_,rfl,by rw [←HE.out];exact HR.out,hB⟩
end Go.Proofs.YthnodpdiocppgaaGreatDoor
namespace Go.Proofs.YthnodpdiocppgaaGreatDoor
open Go Go.RowKit Go.Shelf Go.Deep
def LiV.own (x:LiV) (w:World):Prop:=(∃ b,w.ownsRow b 105 EN.n x.v x.nd.length (EN.flat x.nd))∧∀ n∈x.nd,n.own w
structure RlV.own (x:RlV) (w:World):Prop where
 ms:∃ b,w.ownsRow b 88 EM.n x.vm x.ms.length (EM.flat x.ms)
 msA:∀ m∈x.ms,m.own w
 fs:∃ b,w.ownsRow b 108 EF.n x.vf x.fs.length (EF.flat x.fs)
 bs:∃ b,w.ownsRow b 91 EK.n x.vb x.bs.length (EK.flat x.bs)
structure OV.own (x:OV) (w:World):Prop where
 labels:∃ b,w.ownsRow b 96 2 x.vl x.labels.length (flat x.labels)
 ports:∃ b,w.ownsRow b 3 EI.n x.vp x.ports.length (EI.flat x.ports)
 lis:∃ b,w.ownsRow b 67 ELi.n x.vi x.lis.length (ELi.flat x.lis)
 lisA:∀ l∈x.lis,l.own w
 pars:∃ b,w.ownsRow b 70 EPt.n x.vq x.pars.length (EPt.flat x.pars)
 hosts:∃ b,w.ownsRow b 9 ES.n x.vh x.hosts.length (ES.flat x.hosts)
 rules:∃ b,w.ownsRow b 76 ERl.n x.vr x.rules.length (ERl.flat x.rules)
 rulesA:∀ r∈x.rules,r.own w
 frm:∃ b,w.ownsRow b 53 ER.n x.vf x.frm.length (ER.flat x.frm)
 tos:∃ b,w.ownsRow b 53 ER.n x.vo x.tos.length (ER.flat x.tos)
theorem LiV.own.below {x:LiV} {w w':World} (h:x.own w) (hb:Below w.heap.size w w'):x.own w':=by
 obtain ⟨⟨b,h1⟩,h2⟩:=h
 exact ⟨⟨b,aA4 h1 hb⟩,fun n hn=>(h2 n hn).below hb⟩
theorem RlV.own.below {x:RlV} {w w':World} (h:x.own w) (hb:Below w.heap.size w w'):x.own w':=by
 obtain ⟨⟨b,h1⟩,h2,⟨c,h3⟩,⟨d,h4⟩⟩:=h
 exact ⟨⟨b,aA4 h1 hb⟩,fun m hm=>(h2 m hm).below hb,⟨c,aA4 h3 hb⟩,⟨d,aA4 h4 hb⟩⟩
theorem LiV.own.at_ {x:LiV} {w:World} (h:x.own w):Sl EN w x.v x.nd:=by
 obtain ⟨⟨b,h1⟩,h2⟩:=h
 exact Sl.of_row (E:=EN) rfl h1 (fun n hn=>(h2 n hn).at_)
theorem RlV.own.at_ {x:RlV} {w:World} (h:x.own w):x.at_ w:=by
 obtain ⟨⟨b,h1⟩,h2,⟨c,h3⟩,⟨d,h4⟩⟩:=h
 exact ⟨Sl.of_row (E:=EM) rfl h1 (fun m hm=>(h2 m hm).at_),Sl.of_row (E:=EF) rfl h3 (fun _ _=>trivial),Sl.of_row (E:=EK) rfl h4 (fun _ _=>trivial)⟩
theorem OV.own.at_ {x:OV} {w:World} (h:x.own w):x.at_ w:=by
 obtain ⟨⟨b1,h1⟩,⟨b2,h2⟩,⟨b3,h3⟩,h4,⟨b5,h5⟩,⟨b6,h6⟩,⟨b7,h7⟩,h8,⟨b9,h9⟩,⟨b10,h10⟩⟩:=h
 exact ⟨Prs.of_row rfl h1,Sl.of_row (E:=EI) rfl h2 (fun _ _=>trivial),Sl.of_row (E:=ELi) rfl h3 (fun l hl=>(h4 l hl).at_),Sl.of_row (E:=EPt) rfl h5 (fun _ _=>trivial),Sl.of_row (E:=ES) rfl h6 (fun _ _=>trivial),Sl.of_row (E:=ERl) rfl h7 (fun r hr=>(h8 r hr).at_),Sl.of_row (E:=ER) rfl h9 (fun _ _=>trivial),Sl.of_row (E:=ER) rfl h10 (fun _ _=>trivial)⟩
theorem OV.own.below {x:OV} {w w':World} (h:x.own w) (hb:Below w.heap.size w w'):x.own w':=by
 obtain ⟨⟨b1,h1⟩,⟨b2,h2⟩,⟨b3,h3⟩,h4,⟨b5,h5⟩,⟨b6,h6⟩,⟨b7,h7⟩,h8,⟨b9,h9⟩,⟨b10,h10⟩⟩:=h
 exact ⟨⟨b1,aA4 h1 hb⟩,⟨b2,aA4 h2 hb⟩,⟨b3,aA4 h3 hb⟩,fun l hl=>(h4 l hl).below hb,⟨b5,aA4 h5 hb⟩,⟨b6,aA4 h6 hb⟩,⟨b7,aA4 h7 hb⟩,fun r hr=>(h8 r hr).below hb,⟨b9,aA4 h9 hb⟩,⟨b10,aA4 h10 hb⟩⟩
theorem NV.own.bx {x:NV} {B t:Nat} {w w':World} {old:Array Value} (h:x.own w) (hx:BX B w.heap.size w w') (hz:w.heap[B]?=some (.cells old t)) (h9:(9:Nat)≠t):x.own w':=by
 obtain ⟨b,h⟩:=h
 exact ⟨b,hx.row hz h h9⟩
theorem LiV.own.bx {x:LiV} {B t:Nat} {w w':World} {old:Array Value} (h:x.own w) (hx:BX B w.heap.size w w') (hz:w.heap[B]?=some (.cells old t)) (h9:(9:Nat)≠t) (hn:105≠t):x.own w':=by
 obtain ⟨⟨b,h1⟩,h2⟩:=h
 exact ⟨⟨b,hx.row hz h1 hn⟩,fun n hn=>(h2 n hn).bx hx hz h9⟩
theorem MV.own.bx {x:MV} {B t:Nat} {w w':World} {old:Array Value} (h:x.own w) (hx:BX B w.heap.size w w') (hz:w.heap[B]?=some (.cells old t)) (hp:96≠t):x.own w':=by
 obtain ⟨⟨b,h1⟩,c,h2⟩:=h
 exact ⟨⟨b,hx.row hz h1 hp⟩,c,hx.row hz h2 hp⟩
theorem RlV.own.bx {x:RlV} {B:Nat} {w w':World} {old:Array Value} (h:x.own w) (hx:BX B w.heap.size w w') (hz:w.heap[B]?=some (.cells old 36)):x.own w':=by
 obtain ⟨⟨b,h1⟩,h2,⟨c,h3⟩,⟨d,h4⟩⟩:=h
 exact ⟨⟨b,hx.row hz h1 (by decide)⟩,fun m hm=>(h2 m hm).bx hx hz (by decide),⟨c,hx.row hz h3 (by decide)⟩,⟨d,hx.row hz h4 (by decide)⟩⟩
theorem OV.own.bx {x:OV} {B:Nat} {w w':World} {old:Array Value} (h:x.own w) (hx:BX B w.heap.size w w') (hz:w.heap[B]?=some (.cells old 36)):x.own w':=by
 obtain ⟨⟨b1,h1⟩,⟨b2,h2⟩,⟨b3,h3⟩,h4,⟨b5,h5⟩,⟨b6,h6⟩,⟨b7,h7⟩,h8,⟨b9,h9⟩,⟨b10,h10⟩⟩:=h
 exact ⟨⟨b1,hx.row hz h1 (by decide)⟩,⟨b2,hx.row hz h2 (by decide)⟩,⟨b3,hx.row hz h3 (by decide)⟩,fun l hl=>(h4 l hl).bx hx hz (by decide) (by decide),⟨b5,hx.row hz h5 (by decide)⟩,⟨b6,hx.row hz h6 (by decide)⟩,⟨b7,hx.row hz h7 (by decide)⟩,fun r hr=>(h8 r hr).bx hx hz,⟨b9,hx.row hz h9 (by decide)⟩,⟨b10,hx.row hz h10 (by decide)⟩⟩
def aBb (p:PtB):PtB:=⟨fewB p.space,fewB p.name,fewB p.sect,p.port⟩
def aBx (b:BkB):BkB:=⟨aC1 b.ref,b.port,b.weight⟩
def aDc (l:LiB):LiB:=⟨fewB l.name,l.port,l.tls,fewB l.host,aC1 l.cert,l.frm,aE2 l.needs⟩
def aDd (r:RlB):RlB:=⟨(r.ms.take 5).map fewM,aB6 r.fs,(r.bs.take 5).map aBx⟩
def fewO (o:OB):OB:=⟨aC1 o.ref,o.good,aAc o.labels,o.ports.take 9,fewB o.cls,(o.lis.take 9).map aDc,(o.pars.take 5).map aBb,(o.hosts.take 5).map fewB,(o.rules.take 7).map aDd,aA9 o.frm,aA9 o.tos⟩
structure aOw (p:PtB):Prop where
 space:p.space.size≤maxLen
 name:p.name.size≤maxLen
 sect:p.sect.size≤maxLen
structure aOx (l:LiV):Prop where
 name:l.name.size≤maxLen
 host:l.host.size≤maxLen
 cert:aCw l.cert
 nd:∀ n∈l.nd,RawN n.n
structure aOy (r:RlV):Prop where
 ms:∀ m∈r.ms,RawM m.m
 fs:∀ f∈r.fs,RawF f
 bs:∀ b∈r.bs,aCw b.ref
structure RawO (o:OV):Prop where
 ref:aCw o.ref
 labels:∀ p∈o.labels,okP p
 cls:o.cls.size≤maxLen
 lis:∀ l∈o.lis,aOx l
 pars:∀ p∈o.pars,aOw p
 hosts:∀ s∈o.hosts,s.size≤maxLen
 rules:∀ r∈o.rules,aOy r
 frm:∀ r∈o.frm,aCw r
 tos:∀ r∈o.tos,aCw r
end Go.Proofs.YthnodpdiocppgaaGreatDoor
namespace Go.Proofs.YthnodpdiocppgaaGreatDoor
open Go Go.RowKit Go.Shelf
abbrev ownT:List Nat:=[96,3,67,105,9,70,76,88,108,91,53]
theorem RlV.own.bxt {x:RlV} {B t:Nat} {w w':World} {old:Array Value} (h:x.own w) (hx:BX B w.heap.size w w') (hz:w.heap[B]?=some (.cells old t)) (ht:∀ e∈ownT,e≠t):x.own w':=by
 obtain ⟨⟨b,h1⟩,h2,⟨c,h3⟩,⟨d,h4⟩⟩:=h
 exact ⟨⟨b,hx.row hz h1 (ht _ (by decide))⟩,fun m hm=>(h2 m hm).bx hx hz (ht _ (by decide)),⟨c,hx.row hz h3 (ht _ (by decide))⟩,⟨d,hx.row hz h4 (ht _ (by decide))⟩⟩
theorem OV.own.bxt {x:OV} {B t:Nat} {w w':World} {old:Array Value} (h:x.own w) (hx:BX B w.heap.size w w') (hz:w.heap[B]?=some (.cells old t)) (ht:∀ e∈ownT,e≠t):x.own w':=by
 obtain ⟨⟨b1,h1⟩,⟨b2,h2⟩,⟨b3,h3⟩,h4,⟨b5,h5⟩,⟨b6,h6⟩,⟨b7,h7⟩,h8,⟨b9,h9⟩,⟨b10,h10⟩⟩:=h
 exact ⟨⟨b1,hx.row hz h1 (ht _ (by decide))⟩,⟨b2,hx.row hz h2 (ht _ (by decide))⟩,⟨b3,hx.row hz h3 (ht _ (by decide))⟩,fun l hl=>(h4 l hl).bx hx hz (ht _ (by decide)) (ht _ (by decide)),⟨b5,hx.row hz h5 (ht _ (by decide))⟩,⟨b6,hx.row hz h6 (ht _ (by decide))⟩,⟨b7,hx.row hz h7 (ht _ (by decide))⟩,fun r hr=>(h8 r hr).bxt hx hz ht,⟨b9,hx.row hz h9 (ht _ (by decide))⟩,⟨b10,hx.row hz h10 (ht _ (by decide))⟩⟩
theorem aLs (l:List RfB):∀ r∈aA9 l,OkRf r:=fun r hr=>by
 obtain ⟨x,_,rfl⟩:=List.mem_map.1 hr
 exact aF3 x
theorem aV5 {y:OV} {b:OB} (h:y.b=fewO b):OkO y:=by
 have e1:y.ref=aC1 b.ref:=congrArg OB.ref h
 have e2:y.labels=aAc b.labels:=congrArg OB.labels h
 have e3:y.cls=fewB b.cls:=congrArg OB.cls h
 have e4:y.lis.map LiV.b=(b.lis.take 9).map aDc:=congrArg OB.lis h
 have e5:y.pars=(b.pars.take 5).map aBb:=congrArg OB.pars h
 have e6:y.hosts=(b.hosts.take 5).map fewB:=congrArg OB.hosts h
 have e7:y.rules.map RlV.b=(b.rules.take 7).map aDd:=congrArg OB.rules h
 have e8:y.frm=aA9 b.frm:=congrArg OB.frm h
 have e9:y.tos=aA9 b.tos:=congrArg OB.tos h
 refine ⟨by rw [e1];exact aF3 _,by rw [e2];exact aJd _,by rw [e3];exact aBe _,fun l hl=>?_,fun p hp=>?_,fun s hs=>?_,fun r hr=>?_,by rw [e8];exact aLs _,by rw [e9];exact aLs _⟩
 ·have hm:l.b∈(b.lis.take 9).map aDc:=by rw [←e4];exact List.mem_map.2 ⟨l,hl,rfl⟩
  obtain ⟨l0,_,hl0⟩:=List.mem_map.1 hm
  have f1:fewB l0.name=l.name:=congrArg LiB.name hl0
  have f2:fewB l0.host=l.host:=congrArg LiB.host hl0
  have f3:aC1 l0.cert=l.cert:=congrArg LiB.cert hl0
  have f4:aE2 l0.needs=nbs l.nd:=congrArg LiB.needs hl0
  refine ⟨by rw [←f1];exact aBe _,by rw [←f2];exact aBe _,by rw [←f3];exact aF3 _,fun x hx=>?_⟩
  exact aSi l0.needs _ (by rw [f4];exact List.mem_map.2 ⟨x,hx,rfl⟩)
 ·rw [e5] at hp
  obtain ⟨q,_,rfl⟩:=List.mem_map.1 hp
  exact ⟨aBe _,aBe _,aBe _⟩
 ·rw [e6] at hs
  obtain ⟨q,_,rfl⟩:=List.mem_map.1 hs
  exact aBe _
 ·have hm:r.b∈(b.rules.take 7).map aDd:=by rw [←e7];exact List.mem_map.2 ⟨r,hr,rfl⟩
  obtain ⟨r0,_,hr0⟩:=List.mem_map.1 hm
  have f1:(r0.ms.take 5).map fewM=r.ms.map fun m=>m.m:=congrArg RlB.ms hr0
  have f2:aB6 r0.fs=r.fs:=congrArg RlB.fs hr0
  have f3:(r0.bs.take 5).map aBx=r.bs:=congrArg RlB.bs hr0
  refine ⟨fun m hm=>?_,by rw [←f2];exact aSu _,by rw [←f2];exact aK2 _,fun k hk=>?_⟩
  ·have:m.m∈(r0.ms.take 5).map fewM:=by rw [f1];exact List.mem_map.2 ⟨m,hm,rfl⟩
   obtain ⟨m0,_,he⟩:=List.mem_map.1 this
   rw [←he]
   exact aUt m0
  ·rw [←f3] at hk
   obtain ⟨k0,_,rfl⟩:=List.mem_map.1 hk
   exact aF3 _
end Go.Proofs.YthnodpdiocppgaaGreatDoor
