/-
  Walks: the laws' Few (at pairs), awake.
-/
import Derived.Test.YthnodpdiocppgaaGreatDoorJ2
import Derived.Deep.RegionHeld3
set_option maxHeartbeats 1600000
set_option maxRecDepth 20000
namespace Go.Proofs.YthnodpdiocppgaaGreatDoor
open Go Go.RowKit Go.Shelf Go.Deep
def cutB (p:aAa):aAa:=(fewB p.1,fewB p.2)
def aAc (l:List aAa):List aAa:=(l.take 31).map cutB
theorem aF0 (l:List aAa):(aAc l).length≤31:=by simp [aAc];omega
theorem aJd (l:List aAa):∀ p∈aAc l,p.1.size≤100∧p.2.size≤100:=by
 intro p hp
 obtain ⟨q,_,rfl⟩:=List.mem_map.1 hp
 exact ⟨aBe _,aBe _⟩
theorem aSk {l:List aAa} (h:∀ p∈l,p.1.size≤100∧p.2.size≤100):∀ p∈l,okP p:=fun p hp=>by
 have:=h p hp
 unfold okP maxLen
 omega
def aDq (l:List aAa) (k:Nat):List aAa:=(l.take k).map cutB
theorem aMt (l:List aAa) (k:Nat) (h:k<l.length):aDq l (k+1)=aDq l k++[(fewB l[k].1,fewB l[k].2)]:=by
 unfold aDq
 rw [List.take_succ_eq_append_getElem h,List.map_append]
 rfl
theorem aO6 (l:List aAa) (k:Nat) (h:k≤l.length):(aDq l k).length=k:=by simp [aDq];omega
theorem aHt (v:Value) (l:List aAa) (w:World) (hv:Prs w v l) (hok:∀ p∈l,okP p) :
  Calls Tryz.prog 40 #[v] w fun e w'=>∃ v',e=.returned v'∧w'.ownsRow w.heap.size 96 2 v' (aAc l).length (flat (aAc l))∧Below w.heap.size w w':=by
 have hlen:=hv.len
 obtain ⟨a,cap,rfl,_,_,hc⟩:=hv
 have HC:=hide hc
 have HOK:=hide hok
 clear hc hok
 go_enter Tryz.func40,Tryz.ntmps40
 go_wp2_with fail
 go_loopw [3,4] (fun o i wr=>∃ k:Nat,k≤l.length∧k≤31∧i=.int .i64 k∧wr.ownsRow w.heap.size 96 2 o (aDq l k).length (flat (aDq l k))∧Below w.heap.size w wr) (fun _ i _=>31 - (intOf i).toNat)
 case atStart=>exact ⟨0,Nat.zero_le _,by omega,rfl,World.ownsRow_nil _ _ _ _,Below.refl _ _⟩
 case round =>
  obtain ⟨k,hk,hk31,rfl,hr,hB⟩:=hrel
  have HR:=hide hr
  clear hr
  by_cases hlt:k<l.length
  ·have hlt':(k:Int)<(l.length:Int):=by omega
   by_cases h31:k<31
   ·have h31':(k:Int)<31:=by omega
    obtain ⟨g,off,rfl,hg,c1,c2⟩:=HC.out k hlt
    replace c1:=fun W (hW:Below w.heap.size w W)=>(hW.cell (p:=⟨g,off+k*2,none⟩) hg).trans c1
    replace c2:=fun W (hW:Below w.heap.size w W)=>(hW.cell (p:=⟨g,off+k*2+1,none⟩) hg).trans c2
    obtain ⟨o1,o2⟩:=HOK.out _ (List.getElem_mem hlt)
    have HSN:=hide (aMt l k hlt)
    generalize l[k].1=p1 at *
    generalize l[k].2=p2 at *
    go_wp2_with fail
    refine wp_region_noPanic ?_
    refine wp_region_held_drew (S:=fun W=>Below w.heap.size w W) (by kernel_rfl) hB.drew (fun hHeld=>?_)
    refine zzH 0 ?_ rfl ?_ ?_
    rotate_left 1
    ·(intro W hSw;(try dsimp only at hSw);go_simp;(try with_reducible rfl))
    try simp only [Act.put,zzB,zzC,zzD]
    refine zzH 1 ?_ rfl ?_ ?_
    rotate_left 1
    ·(intro W hSw;(try dsimp only at hSw);go_simp;(try with_reducible rfl))
    try simp only [Act.put,zzB,zzC,zzD]
    refine zzH 2 ?_ rfl ?_ ?_
    rotate_left 1
    ·(intro W hSw;(try dsimp only at hSw);go_simp;(try with_reducible rfl))
    try simp only [Act.put,zzB,zzC,zzD]
    refine zzH 3 ?_ rfl ?_ ?_
    rotate_left 1
    ·(intro W hSw;(try dsimp only at hSw);go_simp;(try with_reducible rfl))
    try simp only [Act.put,zzB,zzC,zzD]
    refine zzH 4 ?_ rfl ?_ ?_
    rotate_left 1
    ·(intro W hSw;(try dsimp only at hSw);go_simp;(try with_reducible rfl))
    try simp only [Act.put,zzB,zzC,zzD]
    refine zzH 5 ?_ rfl ?_ ?_
    rotate_left 1
    ·(intro W hSw;(try dsimp only at hSw);have c1':=c1 W hSw;go_simp;(try with_reducible rfl))
    try simp only [Act.put,zzB,zzC,zzD]
    refine zzH 7 ?_ rfl ?_ ?_
    rotate_left 1
    ·(intro W hSw;(try dsimp only at hSw);go_simp;(try with_reducible rfl))
    try simp only [Act.put,zzB,zzC,zzD]
    refine zzH 8 ?_ rfl ?_ ?_
    rotate_left 1
    ·(intro W hSw;(try dsimp only at hSw);go_simp;(try with_reducible rfl))
    try simp only [Act.put,zzB,zzC,zzD]
    refine zzH 9 ?_ rfl ?_ ?_
    rotate_left 1
    ·(intro W hSw;(try dsimp only at hSw);go_simp;(try with_reducible rfl))
    try simp only [Act.put,zzB,zzC,zzD]
    refine zzH 10 ?_ rfl ?_ ?_
    rotate_left 1
    ·(intro W hSw;(try dsimp only at hSw);go_simp;(try with_reducible rfl))
    try simp only [Act.put,zzB,zzC,zzD]
    refine zzH 11 ?_ rfl ?_ ?_
    rotate_left 1
    ·(intro W hSw;(try dsimp only at hSw);have c2':=c2 W hSw;go_simp;(try with_reducible rfl))
    try simp only [Act.put,zzB,zzC,zzD]
    refine wpAnyH_ready (rs:=[6]) (by kernel_rfl) (by simp) ?_
    refine AllReadyH.cons (op_at (rest:=_) rfl) (fun K hK=>?_) AllReadyH.nil
    go_simp
    refine (aAw _ _ o1).mono ?_
    rintro e w3 ⟨rfl,hw3⟩
    subst w3
    go_wp2_with fail
    refine hK.out _ _ ?_ (fun _=>?_)
    ·exact hHeld
    clear hK K
    try simp only [Act.put,zzB,zzC,zzD]
    refine wpAnyH_ready (rs:=[12]) (by kernel_rfl) (by simp) ?_
    refine AllReadyH.cons (op_at (rest:=_) rfl) (fun K hK=>?_) AllReadyH.nil
    go_simp
    refine (aAw _ _ o2).mono ?_
    rintro e w3 ⟨rfl,hw3⟩
    subst w3
    go_wp2_with fail
    refine hK.out _ _ ?_ (fun _=>?_)
    ·exact hHeld
    clear hK K
    try simp only [Act.put,zzB,zzC,zzD]
    refine zzH 13 ?_ rfl ?_ ?_
    rotate_left 1
    ·(intro W hSw;(try dsimp only at hSw);go_simp;(try with_reducible rfl))
    try simp only [Act.put,zzB,zzC,zzD]
    refine wpAnyH_ready (rs:=[14]) (by kernel_rfl) (by simp) ?_
    refine AllReadyH.cons (op_at (rest:=_) rfl) (fun K hK=>?_) AllReadyH.nil
    go_simp
    refine hK.out _ _ (hHeld.alloc hHeld.size _) (fun hHeld2=>?_)
    clear hK K
    try simp only [Act.put,zzB,zzC,zzD]
    refine wpAnyH_ready (rs:=[15]) (by kernel_rfl) (by simp) ?_
    refine AllReadyH.cons (op_at (rest:=_) rfl) (fun K hK=>?_) AllReadyH.nil
    refine aI7 _ _ _ rfl rfl w.heap.size _ _ _ rfl (aA4 HR.out ((Below.refl _ _).drew.alloc (Nat.le_refl _) _)) _ _ rfl (Prs.at1 wr.drew _ rfl _ _) (by rw [aO6 l k hk];simp;omega) hHeld2.size ?_
    intro v5 w5 hr5 hg5
    have hb5:=hHeld2.grown hg5 hHeld2.size (fun j e=>aAe HR.out e)
    refine hK.out _ _ hb5 (fun _=>?_)
    clear hK K
    try simp only [Act.put,zzB,zzC,zzD]
    refine zzH 16 ?_ rfl ?_ ?_
    rotate_left 1
    ·(intro W hSw;(try dsimp only at hSw);go_simp;(try with_reducible rfl))
    try simp only [Act.put,zzB,zzC,zzD]
    refine wpAnyH_done (by kernel_rfl) ?_ _
    refine NoPanic.normal ?_
    go_wp2_with fail
    exact ⟨⟨k+1,by omega,by omega,by go_num,by rw [HSN.out,List.length_append];exact hr5,hb5⟩,by simp [intOf];omega⟩
   ·have h31':¬ (k:Int)<31:=by omega
    obtain rfl:k=31:=by omega
    go_wp2_with fail
    go_ret
    exact ⟨_,rfl,HR.out,hB⟩
  ·have hlt':¬ (k:Int)<(l.length:Int):=by omega
   have hfl:Hid (aDq l k=aAc l):=by
    unfold Hid aDq aAc
    rw [List.take_of_length_le (by omega),List.take_of_length_le (by omega)]
   rw [hfl.out] at HR
   go_wp2_with fail
   go_ret
   exact ⟨_,rfl,HR.out,hB⟩
end Go.Proofs.YthnodpdiocppgaaGreatDoor
