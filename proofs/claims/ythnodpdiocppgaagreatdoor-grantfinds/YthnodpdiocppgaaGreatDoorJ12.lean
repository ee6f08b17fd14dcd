/-
  Walks: the laws' Few (of needs).
-/
import Derived.Test.YthnodpdiocppgaaGreatDoorJ10
import Derived.Test.YthnodpdiocppgaaGreatDoorRowA
import Derived.Test.YthnodpdiocppgaaGreatDoorJ9
import Derived.Test.YthnodpdiocppgaaGreatDoorJ7
set_option maxHeartbeats 6400000
set_option maxRecDepth 20000
namespace Go.Proofs.YthnodpdiocppgaaGreatDoor
open Go Go.RowKit Go.Shelf Go.Deep
def NV.own (x:NV) (w:World):Prop:=∃ b,w.ownsRow b 9 ES.n x.v x.n.vals.length (ES.flat x.n.vals)
theorem NV.own.at_ {x:NV} {w:World} (h:x.own w):Sl ES w x.v x.n.vals:=by
 obtain ⟨b,h⟩:=h
 exact Sl.of_row (E:=ES) rfl h (fun _ _=>trivial)
theorem NV.own.below {x:NV} {w w':World} (h:x.own w) (hb:Below w.heap.size w w'):x.own w':=by
 obtain ⟨b,h⟩:=h
 exact ⟨b,aA4 h hb⟩
theorem NV.own.grown {x:NV} {w w':World} (h:x.own w) {b' n' s':Nat} {v':Value} {ys:List Value} (h':w.ownsRow b' 105 s' v' n' ys) (hg:w.grownBy w' v'.ownBlock):x.own w':=by
 obtain ⟨b,h⟩:=h
 exact ⟨b,aAv h h' (by decide) hg⟩
theorem Tryz.infoNeed:(Tryz.prog.info? 105).map (fun i=>(i.zero,i.size,i.bytes))=some (some (.agg #[.int .i64 0,.string ⟨#[]⟩,.slice none 0 0]),3,48):=by kernel_rfl
theorem Tryz.infoStr:(Tryz.prog.info? 9).map (fun i=>(i.zero,i.size,i.bytes))=some (some (.string ⟨#[]⟩),1,16):=by kernel_rfl
theorem aBy {α:Type} {E:Elem α} {P:Program} {o:Oper} {a:Act} {Q:Exit→Act→World→Prop} {K:Act→World→Prop} (t e:TypeId) (z:Value) (bytes:Nat) (ht:P.underlying t=some (.slice e)) (hinfo:(P.info? e).map (fun i=>(i.zero,i.size,i.bytes))=some (some z,E.n,bytes)) (hz:z.cells.size=E.n) (hby:bytes≤1000000) (w:World) (s x:Operand)
  (ho:o.op=.call { callee:=.builtin .append,args:=#[s,x],argTypes:=#[t,t] })
  (base:Nat) (v:Value) (n:Nat) (xs:List α) (hs:a.eval s=v) (hown:w.ownsRow base e E.n v n (E.flat xs))
  (y:Value) (l:List α) (hy:a.eval x=y) (hl:Sl E w y l) (hn:n+l.length≤100000) (hbase:base≤w.heap.size)
  (h:∀ v' w',w'.ownsRow base e E.n v' (n+l.length) (E.flat (xs++l))→w.grownBy w' v.ownBlock→K (a.put o.dst v') w'):o.wp P a w K Q:=by
 obtain ⟨i0,hi,hz0,hz1,hz2⟩:=info_parts hinfo
 exact aEa w s x _ ho base _ i0 _ E.n bytes ht hi hz0 hz1 hz2 hz E.pos v n (E.flat xs) hs hown y l.length (E.flat l) hy hl.lies (E.flat_len l) (Elem.flat_ones hl.all) (by unfold maxLen;omega) (Nat.le_trans (Nat.mul_le_mul hn hby) (by decide)) hbase (fun v' w' h2 h3=>h v' w' (by rw [Elem.flat_append];exact h2) h3)
theorem aLl {w:World} {a:Option Addr} {n cap:Nat} {L:List NV} (h:Sl EN w (.slice a n cap) L) {k:Nat} (hk:k<L.length) :
  ∃ g off,a=some ⟨g,off,none⟩∧g<w.heap.size∧Sl ES w L[k].v L[k].n.vals∧∀ W,Below w.heap.size w W→W.cell? ⟨g,off+k*3,none⟩=some (.int .i64 L[k].n.kind)∧W.cell? ⟨g,off+k*3+1,none⟩=some (.string L[k].n.name)∧W.cell? ⟨g,off+k*3+2,none⟩=some L[k].v:=by
 obtain ⟨a',cap',hv,_,_,hc⟩:=h
 injection hv with e1 e2 e3
 subst e1
 obtain ⟨hA,g,off,ha,hg,c⟩:=hc k hk
 exact ⟨g,off,ha,hg,hA,fun W hB=>aTs (c.below hg hB)⟩
theorem aVq {w:World} {a:Option Addr} {n cap:Nat} {l:List ByteArray} (h:Sl ES w (.slice a n cap) l) {k:Nat} (hk:k<l.length) :
  ∃ g off,a=some ⟨g,off,none⟩∧g<w.heap.size∧∀ W,Below w.heap.size w W→W.cell? ⟨g,off+k,none⟩=some (.string l[k]):=by
 obtain ⟨a',cap',hv,_,_,hc⟩:=h
 injection hv with e1 e2 e3
 subst e1
 obtain ⟨_,g,off,ha,hg,c⟩:=hc k hk
 refine ⟨g,off,ha,hg,fun W hB=>?_⟩
 have:=aEf (c.below hg hB)
 rwa [show off+k*ES.n=off+k from by show off+k*1=_;rw [Nat.mul_one]] at this
theorem aSs (v:Value) (L:List NV) (w:World) (hv:Sl EN w v L) (raw:∀ x∈L,RawN x.n) :
  Calls Tryz.prog 42 #[v] w fun e w'=>∃ v',e=.returned v'∧∃ L':List NV,nbs L'=aE2 (nbs L)∧w'.ownsRow w.heap.size 105 EN.n v' L'.length (EN.flat L')∧(∀ x∈L',x.own w')∧Below w.heap.size w w':=by
 have hlen:=hv.len
 obtain ⟨a,cap,rfl⟩:=hv.form
 have HC:=hide (fun k (hk:k<L.length)=>aLl hv hk)
 have HRAW:=hide raw
 clear hv raw
 go_enter Tryz.func42,Tryz.ntmps42
 go_wp2_with fail
 go_loopw [3,4] (fun o i wr=>∃ (k:Nat) (L':List NV),k≤L.length∧k≤9∧i=.int .i64 k∧Hid (nbs L'=((nbs L).take k).map fewN)∧Hid (∀ x∈L',x.own wr)∧wr.ownsRow w.heap.size 105 EN.n o L'.length (EN.flat L')∧Below w.heap.size w wr) (fun _ i _=>9 - (intOf i).toNat)
 case atStart=>exact ⟨0,[],Nat.zero_le _,by omega,rfl,rfl,fun x hx=>absurd hx (by simp),World.ownsRow_nil _ _ _ _,Below.refl _ _⟩
 case round =>
  obtain ⟨k,L',hk,hk9,rfl,hmap,hown,hr,hB⟩:=hrel
  have HR:=hide hr
  clear hr
  have hl':L'.length≤9:=by
   have:=congrArg List.length hmap.out
   simp at this
   omega
  have HEND:Hid (¬ (k<L.length∧k<9)→nbs L'=aE2 (nbs L)):=fun h=>by
   rw [hmap.out]
   unfold aE2
   rcases (show k=9∨L.length≤k by omega) with h1 | h1
   ·rw [h1]
   ·rw [List.take_of_length_le (by rw [List.length_map];exact h1),List.take_of_length_le (by rw [List.length_map];omega)]
  by_cases hlt:k<L.length
  ·have hlt':(k:Int)<(L.length:Int):=by omega
   by_cases h9:k<9
   ·have h9':(k:Int)<9:=by omega
    clear HEND
    obtain ⟨wo,hwo⟩:∃ W,W=wr:=⟨_,rfl⟩
    subst hwo
    obtain ⟨g,off,rfl,hg,hA,hcells⟩:=HC.out k hlt
    obtain ⟨rnm,rvs⟩:=HRAW.out _ (List.getElem_mem hlt)
    have HSN:Hid (∀ y:NV,y.n=fewN L[k].n→nbs (L'++[y])=((nbs L).take (k+1)).map fewN):=fun y hy=>by
     unfold nbs at *
     rw [List.map_append,hmap.out,List.take_succ_eq_append_getElem (by rw [List.length_map];exact hlt),List.map_append,List.getElem_map]
     simp [hy]
    clear HC HRAW hmap
    generalize L[k]=x at *
    obtain ⟨⟨kd,nm,vs⟩,xa,xc⟩:=x
    dsimp only at *
    have m0:=fun W (h:Below wo.heap.size wo W)=>(hcells W (bb2 hB h)).1
    have m1:=fun W (h:Below wo.heap.size wo W)=>(hcells W (bb2 hB h)).2.1
    have CN:=fun W=>hide (aAw nm W rnm)
    have HVS:=hide (fun j (hj:j<vs.length)=>aVq hA hj)
    have HRV:=hide rvs
    have HCE:=hide hcells
    clear hcells hA rvs
    go_wp2_with fail
    refine aB4 13 (fun W=>Below wo.heap.size wo W) (by kernel_rfl) ((Below.refl _ _).drew) ?_
    refine zzG 0 5 (.slice (some ⟨g,off,none⟩) L.length cap) rfl (by kernel_rfl) (fun _ _ _ h=>h) (by rfl) (fun w1 hS=>?_) ?_
    ·(try dsimp only at hS)
     go_simp
    simp only [Act.put,zzB,zzC,zzD]
    refine zzG 1 5 (.int .i64 k) rfl (by kernel_rfl) (fun _ _ _ h=>h) (by rfl) (fun w1 hS=>?_) ?_
    ·(try dsimp only at hS)
     go_simp
    simp only [Act.put,zzB,zzC,zzD]
    refine zzG 2 5 (.pointer (some ⟨g,off+k*3,none⟩)) rfl (by kernel_rfl) (fun _ _ _ h=>h) (by rfl) (fun w1 hS=>?_) ?_
    ·(try dsimp only at hS)
     go_simp
    simp only [Act.put,zzB,zzC,zzD]
    refine zzG 3 5 (.pointer (some ⟨g,off+k*3,none⟩)) rfl (by kernel_rfl) (fun _ _ _ h=>h) (by rfl) (fun w1 hS=>?_) ?_
    ·(try dsimp only at hS)
     go_simp
    simp only [Act.put,zzB,zzC,zzD]
    refine zzG 4 5 (.int .i64 kd) rfl (by kernel_rfl) (fun _ _ _ h=>h) (by rfl) (fun w1 hS=>?_) ?_
    ·(try dsimp only at hS)
     go_simp
    simp only [Act.put,zzB,zzC,zzD]
    refine zzG 5 5 (.slice (some ⟨g,off,none⟩) L.length cap) rfl (by kernel_rfl) (fun _ _ _ h=>h) (by rfl) (fun w1 hS=>?_) ?_
    ·(try dsimp only at hS)
     go_simp
    simp only [Act.put,zzB,zzC,zzD]
    refine zzG 6 5 (.int .i64 k) rfl (by kernel_rfl) (fun _ _ _ h=>h) (by rfl) (fun w1 hS=>?_) ?_
    ·(try dsimp only at hS)
     go_simp
    simp only [Act.put,zzB,zzC,zzD]
    refine zzG 7 5 (.pointer (some ⟨g,off+k*3,none⟩)) rfl (by kernel_rfl) (fun _ _ _ h=>h) (by rfl) (fun w1 hS=>?_) ?_
    ·(try dsimp only at hS)
     go_simp
    simp only [Act.put,zzB,zzC,zzD]
    refine zzG 8 5 (.pointer (some ⟨g,off+k*3+1,none⟩)) rfl (by kernel_rfl) (fun _ _ _ h=>h) (by rfl) (fun w1 hS=>?_) ?_
    ·(try dsimp only at hS)
     go_simp
    simp only [Act.put,zzB,zzC,zzD]
    refine zzG 9 5 (.string nm) rfl (by kernel_rfl) (fun _ _ _ h=>h) (by rfl) (fun w1 hS=>?_) ?_
    ·(try dsimp only at hS)
     go_simp
    simp only [Act.put,zzB,zzC,zzD]
    refine zzG 10 5 (.string (fewB nm)) rfl (by kernel_rfl) (fun _ _ _ h=>h) (by rfl) (fun w1 hS=>?_) ?_
    ·(try dsimp only at hS)
     go_simp
     exact aAq hS (CN _).out
    simp only [Act.put,zzB,zzC,zzD]
    refine zzG 11 5 (.agg #[.int .i64 kd,.string (fewB nm),.slice none 0 0]) rfl (by kernel_rfl) (fun _ _ _ h=>h) (by rfl) (fun w1 hS=>?_) ?_
    ·(try dsimp only at hS)
     go_simp
    simp only [Act.put,zzB,zzC,zzD]
    clear m0 m1 CN
    refine aAf (rs:=[12]) (by kernel_rfl) (by simp) (fun wb hGb hSb i hi=>?_)
    obtain rfl:i=12:=by simpa using hi
    clear hi
    refine aAb rfl (by rfl) (fun K' hK'=>?_)
    replace hK':=hide hK'
    go_simp
    refine hK'.out _ _ (aAx (by decide) (hSb.alloc hSb.size _) ?_)
    clear hK' K' hGb
    refine aAf (rs:=[13]) (by kernel_rfl) (by simp) (fun wc hGc hSc i hi=>?_)
    obtain rfl:i=13:=by simpa using hi
    clear hi
    have hz:=aB7 hGc
    have hbc:=aA8 hGc
    obtain ⟨z0,z1,z2⟩:_∧_∧_:=⟨aA0 hz (i:=0) rfl,aA0 hz (i:=1) rfl,aA0 hz (i:=2) rfl⟩
    have lz:=aAl hz
    refine aAb rfl (by rfl) (fun K' hK'=>?_)
    go_simp
    refine hK' _ _ (aBq (by decide) ?_)
    clear hK' K' z0 z1 z2 lz hGc hSc
    have KB:=aB2 [.int .i64 kd,.string (fewB nm),.slice none 0 0] hz rfl
    have KS:=aAh (w:=wb) (B:=wb.heap.size) (g:=wb.heap.size) (Nat.le_refl _) [.int .i64 kd,.string (fewB nm),.slice none 0 0] wc 0 hbc
    refine aBf (by kernel_rfl) ?_
    change Exit.then _ _ _ _ (setL wc wb.heap.size 0 [.int .i64 kd,.string (fewB nm),.slice none 0 0])
    generalize setL wc wb.heap.size 0 [.int .i64 kd,.string (fewB nm),.slice none 0 0]=w2 at *
    clear hz hbc wc
    have HBB:=hide (bb2 hB hSb)
    have KBH:=hide KB
    have KSH:=hide KS
    clear KB KS
    generalize hBn:wb.heap.size=B at *
    go_wp2_with fail
    go_loopw [6] (fun i wr=>∃ (j:Nat) (ts:List ByteArray) (xa:Option Addr) (xc:Nat),j≤vs.length∧j≤9∧i=.int .i64 j∧Hid (ts=(vs.take j).map fewB)∧wr.heap[B]?=some (.cells #[.int .i64 kd,.string (fewB nm),.slice xa ts.length xc] 105)∧wr.ownsRow (B+1) 9 ES.n (.slice xa ts.length xc) ts.length (ES.flat ts)∧Below B wb wr) (fun i _=>9 - (intOf i).toNat)
    case atStart=>exact ⟨0,[],none,0,Nat.zero_le _,by omega,rfl,rfl,KBH.out,World.ownsRow_nil _ _ _ _,KSH.out⟩
    case round =>
     obtain ⟨j,ts,a1,c1,hj,hj9,rfl,hts,hblk,hrow,hI⟩:=hrel
     have hch:Below w.heap.size w wr:=(HBB.out).trans (hI.mono (by rw [←hBn];exact HBB.out.size))
     have hwB:w.heap.size≤B:=by rw [←hBn];exact HBB.out.size
     have htl:ts.length=j:=by
      rw [hts.out]
      simp
      omega
     have HTL:=hide htl
     clear htl
     obtain ⟨q0,q1,q2⟩:=HCE.out wr hch
     clear q0 q1
     by_cases hjl:j<vs.length
     ·have hjl':(j:Int)<(vs.length:Int):=by omega
      by_cases hj9':j<9
      ·have hj9'':(j:Int)<9:=by omega
       obtain ⟨gx,ox,rfl,hgx,scell⟩:=HVS.out j hjl
       have rs:=HRV.out _ (List.getElem_mem hjl)
       have HTS:Hid (ts++[fewB vs[j]]=(vs.take (j+1)).map fewB):=by
        unfold Hid
        rw [List.take_succ_eq_append_getElem hjl,List.map_append,←hts.out]
        rfl
       generalize vs[j]=s at *
       have hch2:∀ W,Below (B+1) wr W→Below w.heap.size w W:=fun W hW=>hch.trans (hW.mono (by omega))
       have n1:∀ W,Below (B+1) wr W→W.cell? ⟨B,2,none⟩=some (.slice a1 ts.length c1):=fun W hW=>aA0 ((hW.block B (by omega)).trans hblk) rfl
       have n2:=fun W (hW:Below (B+1) wr W)=>(HCE.out W (hch2 W hW)).2.2
       have n3:=fun W (hW:Below (B+1) wr W)=>scell W (hch2 W hW)
       have NB:=hide (fun W (hW:Below (B+1) wr W)=>(hW.block B (by omega)).trans hblk)
       have CS:=fun W=>hide (aAw s W rs)
       have hBsz:B+1≤wr.heap.size:=aAs hblk
       have HROW:=hide hrow
       clear scell rs hch2 hrow hblk
       go_wp2_with fail
       refine aB4 14 (fun W=>Below (B+1) wr W) (by kernel_rfl) ((Below.refl _ _).drew) ?_
       refine zzG 0 5 (.pointer (some ⟨B,2,none⟩)) rfl (by kernel_rfl) (fun _ _ _ h=>h) (by rfl) (fun w1 hS=>?_) ?_
       ·(try dsimp only at hS)
        go_simp
       simp only [Act.put,zzB,zzC,zzD]
       refine zzG 1 5 (.slice a1 ts.length c1) rfl (by kernel_rfl) (fun _ _ _ h=>h) (by rfl) (fun w1 hS=>?_) ?_
       ·(try dsimp only at hS)
        go_simp
       simp only [Act.put,zzB,zzC,zzD]
       refine zzG 2 5 (.slice (some ⟨g,off,none⟩) L.length cap) rfl (by kernel_rfl) (fun _ _ _ h=>h) (by rfl) (fun w1 hS=>?_) ?_
       ·(try dsimp only at hS)
        go_simp
       simp only [Act.put,zzB,zzC,zzD]
       refine zzG 3 5 (.int .i64 k) rfl (by kernel_rfl) (fun _ _ _ h=>h) (by rfl) (fun w1 hS=>?_) ?_
       ·(try dsimp only at hS)
        go_simp
       simp only [Act.put,zzB,zzC,zzD]
       refine zzG 4 5 (.pointer (some ⟨g,off+k*3,none⟩)) rfl (by kernel_rfl) (fun _ _ _ h=>h) (by rfl) (fun w1 hS=>?_) ?_
       ·(try dsimp only at hS)
        go_simp
       simp only [Act.put,zzB,zzC,zzD]
       refine zzG 5 5 (.pointer (some ⟨g,off+k*3+2,none⟩)) rfl (by kernel_rfl) (fun _ _ _ h=>h) (by rfl) (fun w1 hS=>?_) ?_
       ·(try dsimp only at hS)
        go_simp
       simp only [Act.put,zzB,zzC,zzD]
       refine zzG 6 5 (.slice (some ⟨gx,ox,none⟩) vs.length xc) rfl (by kernel_rfl) (fun _ _ _ h=>h) (by rfl) (fun w1 hS=>?_) ?_
       ·(try dsimp only at hS)
        go_simp
       simp only [Act.put,zzB,zzC,zzD]
       refine zzG 7 5 (.int .i64 j) rfl (by kernel_rfl) (fun _ _ _ h=>h) (by rfl) (fun w1 hS=>?_) ?_
       ·(try dsimp only at hS)
        go_simp
       simp only [Act.put,zzB,zzC,zzD]
       refine zzG 8 5 (.pointer (some ⟨gx,ox+j,none⟩)) rfl (by kernel_rfl) (fun _ _ _ h=>h) (by rfl) (fun w1 hS=>?_) ?_
       ·(try dsimp only at hS)
        go_simp
       simp only [Act.put,zzB,zzC,zzD]
       refine zzG 9 5 (.string s) rfl (by kernel_rfl) (fun _ _ _ h=>h) (by rfl) (fun w1 hS=>?_) ?_
       ·(try dsimp only at hS)
        go_simp
       simp only [Act.put,zzB,zzC,zzD]
       refine zzG 10 5 (.string (fewB s)) rfl (by kernel_rfl) (fun _ _ _ h=>h) (by rfl) (fun w1 hS=>?_) ?_
       ·(try dsimp only at hS)
        go_simp
        exact aAq hS (CS _).out
       simp only [Act.put,zzB,zzC,zzD]
       clear n1 n2 n3 CS
       refine aAf (rs:=[11]) (by kernel_rfl) (by simp) (fun wd hGd hSd i hi=>?_)
       obtain rfl:i=11:=by simpa using hi
       clear hi
       refine aAb rfl (by rfl) (fun K' hK'=>?_)
       replace hK':=hide hK'
       go_simp
       refine hK'.out _ _ (aAx (by decide) (hSd.alloc (by have:=hSd.size;omega) _) ?_)
       clear hK' K'
       refine aAf (rs:=[12]) (by kernel_rfl) (by simp) (fun we hGe hSe i hi=>?_)
       obtain rfl:i=12:=by simpa using hi
       clear hi
       have RW:we.ownsRow (B+1) 9 ES.n (.slice a1 ts.length c1) ts.length (ES.flat ts):=aA4 (aA4 (aA4 HROW.out ((Below.refl _ _).drew)) hGd) (aA8 hGe)
       have SLW:Sl ES we (.slice (some ⟨wd.heap.size,0,none⟩) 1 1) [fewB s]:=Sl.at_block (E:=ES) (x:=fewB s) (aB7 hGe) trivial
       refine aAb rfl (by rfl) (fun K' hK'=>?_)
       refine aBy (E:=ES) 32 9 _ 16 Tryz.underlying32 Tryz.infoStr rfl (by decide) _ _ _ rfl (B+1) _ _ _ rfl RW _ _ rfl SLW (by have:=HTL.out;simp;omega) (by have:=hSe.size;omega) ?_
       intro v5 w5 hr5 hg5
       have hS5:Below (B+1) wr w5:=hSe.grown hg5 (by have:=hSe.size;omega) (fun j e=>aAe RW e)
       obtain ⟨a5,c5,hv5⟩:=aAj hr5
       subst hv5
       refine hK' _ _ (aAx (by decide) hS5 ?_)
       clear hK' K' hGd hSd hGe hSe RW SLW hg5
       try simp only [Act.put,zzB,zzC,zzD]
       refine zzG 13 5 (.pointer (some ⟨B,2,none⟩)) rfl (by kernel_rfl) (fun _ _ _ h=>h) (by rfl) (fun w1 hS=>?_) ?_
       ·(try dsimp only at hS)
        go_simp
       simp only [Act.put,zzB,zzC,zzD]
       refine aAf (rs:=[14]) (by kernel_rfl) (by simp) (fun wf hGf hSf i hi=>?_)
       obtain rfl:i=14:=by simpa using hi
       clear hi
       have hz:=NB.out wf hSf
       have z2:=aA0 hz (i:=2) rfl
       have lz:=aAl hz
       refine aAb rfl (by rfl) (fun K' hK'=>?_)
       go_simp
       refine hK' _ _ (aBq (by decide) ?_)
       clear hK' K' z2 lz
       have KB:=aJ8 (g:=B) (t:=105) [.slice a5 (ts.length+1) c5] [.int .i64 kd,.string (fewB nm)] [.slice a1 ts.length c1] wf hz rfl
       have KS:=aAh (w:=wb) (B:=B) (g:=B) (Nat.le_refl _) [.slice a5 (ts.length+1) c5] wf 2 (hI.trans (hSf.mono (by omega)))
       have KR:=aCn (W:=wf) (g:=B) (k:=2) (cs:=[.slice a5 (ts.length+1) c5]) (aA4 hr5 hGf) (by omega)
       refine aBf (by kernel_rfl) ?_
       change Exit.inBlock _ _ _ _ (setL wf B 2 [.slice a5 (ts.length+1) c5])
       change (setL wf B 2 [.slice a5 (ts.length+1) c5]).heap[B]?=_ at KB
       generalize setL wf B 2 [.slice a5 (ts.length+1) c5]=w6 at *
       clear hz hGf hSf hr5 hS5 NB HROW
       go_wp2_with fail
       exact ⟨⟨j+1,ts++[fewB s],a5,c5,by omega,by omega,by go_num,HTS,by rw [List.length_append];exact KB,by rw [List.length_append];exact KR,KS⟩,by simp [intOf];omega⟩
      ·have hj9'':¬ (j:Int)<9:=by omega
       have hts2:Hid (ts=(vs.take 9).map fewB):=by
        unfold Hid
        rw [hts.out,show j=9 by omega]
       have hSB:Below wo.heap.size wo wr:=hSb.trans (hI.mono (by rw [←hBn];exact hSb.size))
       have HR2:=hide (aA4 HR.out hSB)
       have HO2:Hid (∀ x∈L',x.own wr):=fun x hx=>(hown.out x hx).below hSB
       have hB2:=bb2 hB hSB
       have HY:=hide (HSN.out ⟨⟨kd,fewB nm,ts⟩,a1,c1⟩ (by rw [hts2.out];rfl))
       have OWY:NV.own ⟨⟨kd,fewB nm,ts⟩,a1,c1⟩ wr:=⟨_,hrow⟩
       have OWYH:=hide OWY
       obtain ⟨y0,y1,y2⟩:_∧_∧_:=⟨aA0 hblk (i:=0) rfl,aA0 hblk (i:=1) rfl,aA0 hblk (i:=2) rfl⟩
       have hbs:=hB2.size
       have ba:=(Below.refl wr.heap.size wr).alloc (Nat.le_refl _) (.cells #[.int .i64 kd,.string (fewB nm),.slice a1 ts.length c1] 105)
       clear hblk hrow OWY
       go_wp2_with (at_builtin;refine aAg (E:=EN) 65 105 _ 48 Tryz.underlying65 Tryz.infoNeed rfl (by decide) _ _ _ rfl (by rfl) w.heap.size _ _ _ rfl (aA4 HR2.out ba) _ _ rfl (Sl.at_block (E:=EN) (x:=⟨⟨kd,fewB nm,ts⟩,a1,c1⟩) (aA7 wr _) (OWYH.out.at_.below ba)) (by simp;omega) (by simp;omega) ?_;intro v' w3 hown' hgrow)
       have HR3:=aA4 HR2.out ba
       refine ⟨⟨k+1,L'++[⟨⟨kd,fewB nm,ts⟩,a1,c1⟩],by omega,by omega,by go_num,HY,fun x hx=>?_,by rw [List.length_append];exact hown',?_⟩,by simp [intOf];omega⟩
       ·rcases List.mem_append.1 hx with h1 | h1
        ·exact ((HO2.out x h1).below ba).grown HR3 hgrow
        ·rw [List.mem_singleton] at h1
         subst h1
         exact (OWYH.out.below ba).grown HR3 hgrow
       ·exact (hB2.alloc hB2.size _).grown hgrow (by simp;omega) (fun j e=>aAe HR3 e)
     ·have hjl':¬ (j:Int)<(vs.length:Int):=by omega
      have hts2:Hid (ts=(vs.take 9).map fewB):=by
       unfold Hid
       rw [hts.out,List.take_of_length_le (by omega),List.take_of_length_le (by omega)]
      have hSB:Below wo.heap.size wo wr:=hSb.trans (hI.mono (by rw [←hBn];exact hSb.size))
      have HR2:=hide (aA4 HR.out hSB)
      have HO2:Hid (∀ x∈L',x.own wr):=fun x hx=>(hown.out x hx).below hSB
      have hB2:=bb2 hB hSB
      have HY:=hide (HSN.out ⟨⟨kd,fewB nm,ts⟩,a1,c1⟩ (by rw [hts2.out];rfl))
      have OWY:NV.own ⟨⟨kd,fewB nm,ts⟩,a1,c1⟩ wr:=⟨_,hrow⟩
      have OWYH:=hide OWY
      obtain ⟨y0,y1,y2⟩:_∧_∧_:=⟨aA0 hblk (i:=0) rfl,aA0 hblk (i:=1) rfl,aA0 hblk (i:=2) rfl⟩
      have hbs:=hB2.size
      have ba:=(Below.refl wr.heap.size wr).alloc (Nat.le_refl _) (.cells #[.int .i64 kd,.string (fewB nm),.slice a1 ts.length c1] 105)
      clear hblk hrow OWY
      go_wp2_with (at_builtin;refine aAg (E:=EN) 65 105 _ 48 Tryz.underlying65 Tryz.infoNeed rfl (by decide) _ _ _ rfl (by rfl) w.heap.size _ _ _ rfl (aA4 HR2.out ba) _ _ rfl (Sl.at_block (E:=EN) (x:=⟨⟨kd,fewB nm,ts⟩,a1,c1⟩) (aA7 wr _) (OWYH.out.at_.below ba)) (by simp;omega) (by simp;omega) ?_;intro v' w3 hown' hgrow)
      have HR3:=aA4 HR2.out ba
      refine ⟨⟨k+1,L'++[⟨⟨kd,fewB nm,ts⟩,a1,c1⟩],by omega,by omega,by go_num,HY,fun x hx=>?_,by rw [List.length_append];exact hown',?_⟩,by simp [intOf];omega⟩
      ·rcases List.mem_append.1 hx with h1 | h1
       ·exact ((HO2.out x h1).below ba).grown HR3 hgrow
       ·rw [List.mem_singleton] at h1
        subst h1
        exact (OWYH.out.below ba).grown HR3 hgrow
      ·exact (hB2.alloc hB2.size _).grown hgrow (by simp;omega) (fun j e=>aAe HR3 e)
   ·have h9':¬ (k:Int)<9:=by omega
    have HE:=hide (HEND.out (by omega))
    go_wp2_with fail
    go_ret
    exact ⟨_,rfl,L',HE.out,HR.out,hown.out,hB⟩
  ·have hlt':¬ (k:Int)<(L.length:Int):=by omega
   have HE:=hide (HEND.out (by omega))
   go_wp2_with fail
   go_ret
   exact ⟨_,rfl,L',HE.out,HR.out,hown.out,hB⟩
end Go.Proofs.YthnodpdiocppgaaGreatDoor
namespace Go.Proofs.YthnodpdiocppgaaGreatDoor
open Go Go.RowKit Go.Shelf Go.ChangeShapes Go.WideShapes Go.Deep
theorem aE0 {W:World} {b0 e0 s n g:Nat} {u:Value} {xs:List Value} {t:Nat} {x1 x2 x3 x4 x5 a b c d e:Value} (h:W.ownsRow b0 e0 s u n xs) (hz:W.heap[g]?=some (.cells #[x1,x2,x3,x4,x5] t)) (hne:e0≠t):(set5 W g a b c d e).ownsRow b0 e0 s u n xs:=by
 obtain ⟨h1,h2⟩:=h
 refine ⟨h1,?_⟩
 rcases h2 with h2 | ⟨g',cap,cur,hv,hb,hh,r⟩
 ·exact .inl h2
 ·refine .inr ⟨g',cap,cur,hv,hb,?_,r⟩
  rw [aSq (fun e1=>?_)]
  ·exact hh
  ·rw [e1,hz] at hh
   injection hh with hh
   injection hh with _ hh _
   exact hne hh.symm
def MV.own (x:MV) (w:World):Prop:=(∃ b,w.ownsRow b 96 2 x.vh x.m.head.length (flat x.m.head))∧∃ b,w.ownsRow b 96 2 x.vq x.m.query.length (flat x.m.query)
theorem MV.own.at_ {x:MV} {w:World} (h:x.own w):x.at_ w:=by
 obtain ⟨⟨b,h1⟩,c,h2⟩:=h
 exact ⟨Prs.of_row rfl h1,Prs.of_row rfl h2⟩
theorem MV.own.below {x:MV} {w w':World} (h:x.own w) (hb:Below w.heap.size w w'):x.own w':=by
 obtain ⟨⟨b,h1⟩,c,h2⟩:=h
 exact ⟨⟨b,aA4 h1 hb⟩,c,aA4 h2 hb⟩
theorem MV.own.grown {x:MV} {w w':World} (h:x.own w) {b' n':Nat} {v':Value} {ys:List Value} (h':w.ownsRow b' 88 5 v' n' ys) (hg:w.grownBy w' v'.ownBlock):x.own w':=by
 obtain ⟨⟨b,h1⟩,c,h2⟩:=h
 exact ⟨⟨b,aAv h1 h' (by decide) hg⟩,c,aAv h2 h' (by decide) hg⟩
structure RawM (m:MB):Prop where
 val:m.val.size≤maxLen
 meth:m.meth.size≤maxLen
 head:∀ p∈m.head,okP p
 query:∀ p∈m.query,okP p
def fewM (m:MB):MB:=⟨m.kind,fewB m.val,fewB m.meth,aAc m.head,aAc m.query⟩
theorem aUt (m:MB):OkM (fewM m):=⟨aBe _,aBe _,aF0 _,aF0 _,aJd _,aJd _⟩
structure RV where
 r:RB
 aq:Option Addr
 cq:Nat
 ah:Option Addr
 ch:Nat
abbrev RV.vq (x:RV):Value:=.slice x.aq x.r.query.length x.cq
abbrev RV.vh (x:RV):Value:=.slice x.ah x.r.head.length x.ch
def RV.at_ (x:RV) (w:World):Prop:=Prs w x.vq x.r.query∧Prs w x.vh x.r.head
def RV.own (x:RV) (w:World):Prop:=(∃ b,w.ownsRow b 96 2 x.vq x.r.query.length (flat x.r.query))∧∃ b,w.ownsRow b 96 2 x.vh x.r.head.length (flat x.r.head)
theorem RV.own.at_ {x:RV} {w:World} (h:x.own w):x.at_ w:=by
 obtain ⟨⟨b,h1⟩,c,h2⟩:=h
 exact ⟨Prs.of_row rfl h1,Prs.of_row rfl h2⟩
theorem RV.own.below {x:RV} {w w':World} (h:x.own w) (hb:Below w.heap.size w w'):x.own w':=by
 obtain ⟨⟨b,h1⟩,c,h2⟩:=h
 exact ⟨⟨b,aA4 h1 hb⟩,c,aA4 h2 hb⟩
theorem RV.at_.below {x:RV} {w w':World} (h:x.at_ w) (hb:Below w.heap.size w w'):x.at_ w':=⟨h.1.below hb,h.2.below hb⟩
theorem RV.own.set5 {x:RV} {W:World} {g t:Nat} {x1 x2 x3 x4 x5 a b c d e:Value} (h:x.own W) (hz:W.heap[g]?=some (.cells #[x1,x2,x3,x4,x5] t)) (hne:96≠t):x.own (Go.Proofs.YthnodpdiocppgaaGreatDoor.set5 W g a b c d e):=by
 obtain ⟨⟨b,h1⟩,c,h2⟩:=h
 exact ⟨⟨b,aE0 h1 hz hne⟩,c,aE0 h2 hz hne⟩
theorem aWx {w W:World} {o:Obj} {a b c d e:Value} {t:Nat} (h:Below ((w.alloc o).alloc (.cells #[a,b,c,d,e] t)).heap.size ((w.alloc o).alloc (.cells #[a,b,c,d,e] t)) W):W.heap[w.heap.size+1]?=some (.cells #[a,b,c,d,e] t):=by
 have:=aB7 h
 simpa using this
theorem MV.own.set5 {x:MV} {W:World} {g t:Nat} {x1 x2 x3 x4 x5 a b c d e:Value} (h:x.own W) (hz:W.heap[g]?=some (.cells #[x1,x2,x3,x4,x5] t)) (hne:96≠t):x.own (Go.Proofs.YthnodpdiocppgaaGreatDoor.set5 W g a b c d e):=by
 obtain ⟨⟨b,h1⟩,c,h2⟩:=h
 exact ⟨⟨b,aE0 h1 hz hne⟩,c,aE0 h2 hz hne⟩
theorem aSt (m:MB) (vh vq:Value) (w:World) (raw:RawM m) (hh:Prs w vh m.head) (hq:Prs w vq m.query) :
  Calls Tryz.prog 44 #[mV m vh vq] w fun e w'=>∃ x:MV,e=.returned (mV x.m x.vh x.vq)∧x.m=fewM m∧x.own w'∧Below w.heap.size w w':=by
 obtain ⟨rv,rm,rh,rq⟩:=raw
 obtain ⟨k,v,t,hd,qu⟩:=m
 dsimp only at *
 have C2:=fun W=>hide (aSm k v W rv)
 have C5:=fun W=>hide (aAw t W rm)
 have C8:=fun W (h:Below w.heap.size w W)=>hide (aHt vh hd W (hh.below h) rh)
 have C11:=fun W (h:Below w.heap.size w W)=>hide (aHt vq qu W (hq.below h) rq)
 clear rv rm rh rq hh hq
 obtain ⟨base,hbase⟩:∃ z,z=((w.alloc (.cells #[.int .i64 k,.string v,.string t,vh,vq] 88)).alloc (.cells #[.int .i64 0,.string ⟨#[]⟩,.string ⟨#[]⟩,.slice none 0 0,.slice none 0 0] 88)):=⟨_,rfl⟩
 have HB:=fun W (h:Below base.heap.size base W)=>(box5 (aA8 (by rw [←hbase];exact h)):W.cell? ⟨w.heap.size,0,none⟩=some (.int .i64 k)∧W.cell? ⟨w.heap.size,1,none⟩=some (.string v)∧W.cell? ⟨w.heap.size,2,none⟩=some (.string t)∧W.cell? ⟨w.heap.size,3,none⟩=some vh∧W.cell? ⟨w.heap.size,4,none⟩=some vq)
 have HZ:=fun W (h:Below base.heap.size base W)=>(aWx (by rw [←hbase];exact h):W.heap[w.heap.size+1]?=some (.cells #[.int .i64 0,.string ⟨#[]⟩,.string ⟨#[]⟩,.slice none 0 0,.slice none 0 0] 88))
 have B0:Below w.heap.size w base:=by rw [hbase];exact ((Below.refl _ _).alloc (Nat.le_refl _) _).alloc (by simp) _
 have m0:=fun W h=>(HB W h).1
 have m1:=fun W h=>(HB W h).2.1
 have m2:=fun W h=>(HB W h).2.2.1
 have m3:=fun W h=>(HB W h).2.2.2.1
 have m4:=fun W h=>(HB W h).2.2.2.2
 have HZH:=hide HZ
 clear HB HZ
 go_enter Tryz.func44,Tryz.ntmps44
 go_wp2_with fail
 rw [←hbase]
 clear hbase
 refine aB4 13 (fun w'=>Below base.heap.size base w') (by kernel_rfl) ((Below.refl _ _).drew) ?_
 refine zzG 0 5 (.pointer (some ⟨w.heap.size,0,none⟩)) rfl (by kernel_rfl) (fun _ _ _ h=>h) (by rfl) (fun w1 hS=>?_) ?_
 ·(try dsimp only at hS)
  go_simp
 simp only [Act.put,zzB,zzC,zzD]
 refine zzG 1 5 (.agg #[.int .i64 k,.string v]) rfl (by kernel_rfl) (fun _ _ _ h=>h) (by rfl) (fun w1 hS=>?_) ?_
 ·(try dsimp only at hS)
  go_simp
 simp only [Act.put,zzB,zzC,zzD]
 refine zzG 3 5 (.pointer (some ⟨w.heap.size,2,none⟩)) rfl (by kernel_rfl) (fun _ _ _ h=>h) (by rfl) (fun w1 hS=>?_) ?_
 ·(try dsimp only at hS)
  go_simp
 simp only [Act.put,zzB,zzC,zzD]
 refine zzG 4 5 (.string t) rfl (by kernel_rfl) (fun _ _ _ h=>h) (by rfl) (fun w1 hS=>?_) ?_
 ·(try dsimp only at hS)
  go_simp
 simp only [Act.put,zzB,zzC,zzD]
 refine zzG 6 5 (.pointer (some ⟨w.heap.size,3,none⟩)) rfl (by kernel_rfl) (fun _ _ _ h=>h) (by rfl) (fun w1 hS=>?_) ?_
 ·(try dsimp only at hS)
  go_simp
 simp only [Act.put,zzB,zzC,zzD]
 refine zzG 7 5 (vh) rfl (by kernel_rfl) (fun _ _ _ h=>h) (by rfl) (fun w1 hS=>?_) ?_
 ·(try dsimp only at hS)
  go_simp
 simp only [Act.put,zzB,zzC,zzD]
 refine zzG 9 5 (.pointer (some ⟨w.heap.size,4,none⟩)) rfl (by kernel_rfl) (fun _ _ _ h=>h) (by rfl) (fun w1 hS=>?_) ?_
 ·(try dsimp only at hS)
  go_simp
 simp only [Act.put,zzB,zzC,zzD]
 refine zzG 10 5 (vq) rfl (by kernel_rfl) (fun _ _ _ h=>h) (by rfl) (fun w1 hS=>?_) ?_
 ·(try dsimp only at hS)
  go_simp
 simp only [Act.put,zzB,zzC,zzD]
 refine zzG 2 5 (.agg #[.int .i64 k,.string (fewB v)]) rfl (by kernel_rfl) (fun _ _ _ h=>h) (by rfl) (fun w1 hS=>?_) ?_
 ·(try dsimp only at hS)
  go_simp
  exact aFv hS (Nat.le_refl _) (C2 _).out
 simp only [Act.put,zzB,zzC,zzD]
 refine zzG 5 5 (.string (fewB t)) rfl (by kernel_rfl) (fun _ _ _ h=>h) (by rfl) (fun w1 hS=>?_) ?_
 ·(try dsimp only at hS)
  go_simp
  exact aAq hS (C5 _).out
 simp only [Act.put,zzB,zzC,zzD]
 clear m0 m1 m2 m3 m4 C2 C5
 refine aAf (rs:=[8]) (by kernel_rfl) (by simp) (fun W8 hG8 hS8 i hi=>?_)
 obtain rfl:i=8:=by simpa using hi
 clear hi
 refine aAb rfl (by rfl) (fun K' hK'=>?_)
 replace hK':=hide hK'
 go_simp
 refine ((C8 _ (B0.trans (hS8.mono B0.size))).out).mono ?_
 rintro e x8 ⟨u8,rfl,r8,hb8⟩
 have B8:=hS8.trans (hb8.mono hS8.size)
 obtain ⟨aa,ac,hu8⟩:=aAj r8
 subst hu8
 go_wp2_with fail
 refine hK'.out _ _ (aAx (by decide) B8 ?_)
 clear hK' K' hG8 hS8 hb8
 refine aAf (rs:=[11]) (by kernel_rfl) (by simp) (fun W11 hG11 hS11 i hi=>?_)
 obtain rfl:i=11:=by simpa using hi
 clear hi
 refine aAb rfl (by rfl) (fun K' hK'=>?_)
 replace hK':=hide hK'
 go_simp
 refine ((C11 _ (B0.trans (hS11.mono B0.size))).out).mono ?_
 rintro e x11 ⟨u11,rfl,r11,hb11⟩
 have B11:=hS11.trans (hb11.mono hS11.size)
 obtain ⟨ba,bc,hu11⟩:=aAj r11
 subst hu11
 go_wp2_with fail
 refine hK'.out _ _ (aAx (by decide) B11 ?_)
 replace r8:=aA4 (aA4 r8 hG11) hb11
 clear hK' K' hG11 hS11 hb11
 refine zzG 12 5 (.agg #[.int .i64 k,.string (fewB v),.string (fewB t),.slice aa (aAc hd).length ac,.slice ba (aAc qu).length bc]) rfl (by kernel_rfl) (fun _ _ _ h=>h) (by rfl) (fun w1 hS=>?_) ?_
 ·(try dsimp only at hS)
  go_simp
 simp only [Act.put,zzB,zzC,zzD]
 refine aAf (rs:=[13]) (by kernel_rfl) (by simp) (fun W hG hS i hi=>?_)
 obtain rfl:i=13:=by simpa using hi
 clear hi
 have hz:=HZH.out W hS
 have R8:=aA4 r8 hG
 have R11:=aA4 r11 hG
 have BB:=B0.trans (hS.mono B0.size)
 obtain ⟨z0,z1,z2,z3,z4⟩:=aOh hz
 have lz:=aWv hz
 refine aAb rfl (by rfl) (fun K' hK'=>?_)
 go_simp
 refine hK' _ _ (aBq (by decide) ?_)
 clear hK' K' z0 z1 z2 z3 z4 lz r8 r11 hG hS B8 B11 C8 C11
 have s1:=aUs (a':=.int .i64 k) (b':=.string (fewB v)) (c':=.string (fewB t)) (d':=.slice aa (aAc hd).length ac) (e':=.slice ba (aAc qu).length bc) hz
 have S1:=aOi (a:=.int .i64 k) (b:=.string (fewB v)) (c:=.string (fewB t)) (d:=.slice aa (aAc hd).length ac) (e:=.slice ba (aAc qu).length bc) BB (Nat.le_succ _)
 have R8':=aE0 (a:=.int .i64 k) (b:=.string (fewB v)) (c:=.string (fewB t)) (d:=.slice aa (aAc hd).length ac) (e:=.slice ba (aAc qu).length bc) R8 hz (by decide)
 have R11':=aE0 (a:=.int .i64 k) (b:=.string (fewB v)) (c:=.string (fewB t)) (d:=.slice aa (aAc hd).length ac) (e:=.slice ba (aAc qu).length bc) R11 hz (by decide)
 refine aBf (by kernel_rfl) ?_
 change Exit.then _ _ _ _ (set5 W (w.heap.size+1) (.int .i64 k) (.string (fewB v)) (.string (fewB t)) (.slice aa (aAc hd).length ac) (.slice ba (aAc qu).length bc))
 generalize set5 W (w.heap.size+1) (.int .i64 k) (.string (fewB v)) (.string (fewB t)) (.slice aa (aAc hd).length ac) (.slice ba (aAc qu).length bc)=W2 at *
 obtain ⟨c0,c1,c2,c3,c4⟩:=aOh s1
 have OWN:MV.own ⟨fewM ⟨k,v,t,hd,qu⟩,aa,ac,ba,bc⟩ W2:=⟨⟨_,R8'⟩,_,R11'⟩
 clear R8 R11 R8' R11' hz HZH s1 BB
 go_wp2_with fail
 exact bodyPost_ret (v:=.agg #[.int .i64 k,.string (fewB v),.string (fewB t),.slice aa (aAc hd).length ac,.slice ba (aAc qu).length bc]) (by simp [results,Tryz.results44,go_sem,c0,c1,c2,c3,c4]) rfl ⟨⟨fewM ⟨k,v,t,hd,qu⟩,aa,ac,ba,bc⟩,rfl,rfl,OWN,S1⟩
end Go.Proofs.YthnodpdiocppgaaGreatDoor
