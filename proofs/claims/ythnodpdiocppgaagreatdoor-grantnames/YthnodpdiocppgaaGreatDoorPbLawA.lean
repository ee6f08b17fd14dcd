/-
  Walks: the laws' Few (at pairs), awake.
-/
import Derived.Test.YthnodpdiocppgaaGreatDoorJ2
import Derived.Deep.RegionHeld3
set_option maxHeartbeats 1600000
set_option maxRecDepth 20000
namespace Go.Proofs.YthnodpdiocppgaaGreatDoor
open Go Go.RowKit Go.Shelf Go.Deep
def cutB (p:aA9):aA9:=(fewB p.1,fewB p.2)
def aAb (l:List aA9):List aA9:=(l.take 31).map cutB
theorem aI4 (l:List aA9):(aAb l).length≤31:=by simp [aAb];omega
theorem aGj (l:List aA9):∀ p∈aAb l,p.1.size≤100∧p.2.size≤100:=by
 intro p hp
 obtain ⟨q,_,rfl⟩:=List.mem_map.1 hp
 exact ⟨aAt _,aAt _⟩
theorem aNj {l:List aA9} (h:∀ p∈l,p.1.size≤100∧p.2.size≤100):∀ p∈l,okP p:=fun p hp=>by
 have:=h p hp
 unfold okP maxLen
 omega
def aCt (l:List aA9) (k:Nat):List aA9:=(l.take k).map cutB
theorem aIz (l:List aA9) (k:Nat) (h:k<l.length):aCt l (k+1)=aCt l k++[(fewB l[k].1,fewB l[k].2)]:=by
 unfold aCt
 rw [List.take_succ_eq_append_getElem h,List.map_append]
 rfl
theorem aK8 (l:List aA9) (k:Nat) (h:k≤l.length):(aCt l k).length=k:=by simp [aCt];omega
theorem aFh (v:Value) (l:List aA9) (w:World) (hv:Prs w v l) (hok:∀ p∈l,okP p) :
  Calls Tryz.prog 40 #[v] w fun e w'=>∃ v',e=.returned v'∧w'.ownsRow w.heap.size 96 2 v' (aAb l).length (flat (aAb l))∧Below w.heap.size w w':=by
 have hlen:=hv.len
 obtain ⟨a,cap,rfl,_,_,hc⟩:=hv
 have HC:=hide hc
 have HOK:=hide hok
 clear hc hok
 go_enter Tryz.func40,Tryz.ntmps40
 go_wp2_with fail
 go_loopw [3,4] (fun o i wr=>∃ k:Nat,k≤l.length∧k≤31∧i=.int .i64 k∧wr.ownsRow w.heap.size 96 2 o (aCt l k).length (flat (aCt l k))∧Below w.heap.size w wr) (fun _ i _=>31 - (intOf i).toNat)
 case atStart=>exact ⟨0,Nat.zero_le _,by omega,rfl,World.ownsRow_nil _ _ _ _,Below.refl _ _⟩
 case round =>
  obtain ⟨k,hk,hk31,rfl,hr,hB⟩:=hrel
  have HR:=hide hr
  clear hr
  by_cases hlt:k<l.length
  ·have hlt':(k:Int)<(l.length:Int):=by omega
   by_cases h31:k<31
   ·have h31':(k:Int)<31:=by omega
    obtain ⟨g,off,rfl,hg,c1,c2⟩:=HC.out k hlt
    replace c1:=fun W (hW:Below w.heap.size w W)=>(hW.cell (p:=⟨g,off+k*2,none⟩) hg).trans c1
    replace c2:=fun W (hW:Below w.heap.size w W)=>(hW.cell (p:=⟨g,off+k*2+1,none⟩) hg).trans c2
    obtain ⟨o1,o2⟩:=HOK.out _ (List.getElem_mem hlt)
    have HSN:=hide (aIz l k hlt)
    generalize l[k].1=p1 at *
    generalize l[k].2=p2 at *
    go_wp2_with fail
    refine wp_region_noPanic ?_
    refine wp_region_held_drew (S:=fun W=>Below w.heap.size w W) (by kernel_rfl) hB.drew (fun hHeld=>?_)
    refine zzH 0 ?_ rfl ?_ ?_
    rotate_left 1
    ·(intro W hSw;(try dsimp only at hSw);go_simp;(try with_reducible rfl))
    try simp only [Act.put,zzB,zzC,zzD]
    refine zzH 1 ?_ rfl ?_ ?_
    rotate_left 1
    ·(intro W hSw;(try dsimp only at hSw);go_simp;(try with_reducible rfl))
    try simp only [Act.put,zzB,zzC,zzD]
    refine zzH 2 ?_ rfl ?_ ?_
    rotate_left 1
    ·(intro W hSw;(try dsimp only at hSw);go_simp;(try with_reducible rfl))
    try simp only [Act.put,zzB,zzC,zzD]
    refine zzH 3 ?_ rfl ?_ ?_
    rotate_left 1
    ·(intro W hSw;(try dsimp only at hSw);go_simp;(try with_reducible rfl))
    try simp only [Act.put,zzB,zzC,zzD]
    refine zzH 4 ?_ rfl ?_ ?_
    rotate_left 1
    ·(intro W hSw;(try dsimp only at hSw);go_simp;(try with_reducible rfl))
    try simp only [Act.put,zzB,zzC,zzD]
    refine zzH 5 ?_ rfl ?_ ?_
    rotate_left 1
    ·(intro W hSw;(try dsimp only at hSw);have c1':=c1 W hSw;go_simp;(try with_reducible rfl))
    try simp only [Act.put,zzB,zzC,zzD]
    refine zzH 7 ?_ rfl ?_ ?_
    rotate_left 1
    ·(intro W hSw;(try dsimp only at hSw);go_simp;(try with_reducible rfl))
    try simp only [Act.put,zzB,zzC,zzD]
    refine zzH 8 ?_ rfl ?_ ?_
    rotate_left 1
    ·(intro W hSw;(try dsimp only at hSw);go_simp;(try with_reducible rfl))
    try simp only [Act.put,zzB,zzC,zzD]
    refine zzH 9 ?_ rfl ?_ ?_
    rotate_left 1
    ·(intro W hSw;(try dsimp only at hSw);go_simp;(try with_reducible rfl))
    try simp only [Act.put,zzB,zzC,zzD]
    refine zzH 10 ?_ rfl ?_ ?_
    rotate_left 1
    ·(intro W hSw;(try dsimp only at hSw);go_simp;(try with_reducible rfl))
    try simp only [Act.put,zzB,zzC,zzD]
    refine zzH 11 ?_ rfl ?_ ?_
    rotate_left 1
    ·(intro W hSw;(try dsimp only at hSw);have c2':=c2 W hSw;go_simp;(try with_reducible rfl))
    try simp only [Act.put,zzB,zzC,zzD]
    refine wpAnyH_ready (rs:=[6]) (by kernel_rfl) (by simp) ?_
    refine AllReadyH.cons (op_at (rest:=_) rfl) (fun K hK=>?_) AllReadyH.nil
    go_simp
    refine (aAm _ _ o1).mono ?_
    rintro e w3 ⟨rfl,hw3⟩
    subst w3
    go_wp2_with fail
    refine hK.out _ _ ?_ (fun _=>?_)
    ·exact hHeld
    clear hK K
    try simp only [Act.put,zzB,zzC,zzD]
    refine wpAnyH_ready (rs:=[12]) (by kernel_rfl) (by simp) ?_
    refine AllReadyH.cons (op_at (rest:=_) rfl) (fun K hK=>?_) AllReadyH.nil
    go_simp
    refine (aAm _ _ o2).mono ?_
    rintro e w3 ⟨rfl,hw3⟩
    subst w3
    go_wp2_with fail
    refine hK.out _ _ ?_ (fun _=>?_)
    ·exact hHeld
    clear hK K
    try simp only [Act.put,zzB,zzC,zzD]
    refine zzH 13 ?_ rfl ?_ ?_
    rotate_left 1
    ·(intro W hSw;(try dsimp only at hSw);go_simp;(try with_reducible rfl))
    try simp only [Act.put,zzB,zzC,zzD]
    refine wpAnyH_ready (rs:=[14]) (by kernel_rfl) (by simp) ?_
    refine AllReadyH.cons (op_at (rest:=_) rfl) (fun K hK=>?_) AllReadyH.nil
    go_simp
    refine hK.out _ _ (hHeld.alloc hHeld.size _) (fun hHeld2=>?_)
    clear hK K
    try simp only [Act.put,zzB,zzC,zzD]
    refine wpAnyH_ready (rs:=[15]) (by kernel_rfl) (by simp) ?_
    refine AllReadyH.cons (op_at (rest:=_) rfl) (fun K hK=>?_) AllReadyH.nil
    refine aFq _ _ _ rfl rfl w.heap.size _ _ _ rfl (aA4 HR.out ((Below.refl _ _).drew.alloc (Nat.le_refl _) _)) _ _ rfl (Prs.at1 wr.drew _ rfl _ _) (by rw [aK8 l k hk];simp;omega) hHeld2.size ?_
    intro v5 w5 hr5 hg5
    have hb5:=hHeld2.grown hg5 hHeld2.size (fun j e=>aAf HR.out e)
    refine hK.out _ _ hb5 (fun _=>?_)
    clear hK K
    try simp only [Act.put,zzB,zzC,zzD]
    refine zzH 16 ?_ rfl ?_ ?_
    rotate_left 1
    ·(intro W hSw;(try dsimp only at hSw);go_simp;(try with_reducible rfl))
    try simp only [Act.put,zzB,zzC,zzD]
    refine wpAnyH_done (by kernel_rfl) ?_ _
    refine NoPanic.normal ?_
    go_wp2_with fail
    exact ⟨⟨k+1,by omega,by omega,by go_num,by rw [HSN.out,List.length_append];exact hr5,hb5⟩,by simp [intOf];omega⟩
   ·have h31':¬ (k:Int)<31:=by omega
    obtain rfl:k=31:=by omega
    go_wp2_with fail
    go_ret
    exact ⟨_,rfl,HR.out,hB⟩
  ·have hlt':¬ (k:Int)<(l.length:Int):=by omega
   have hfl:Hid (aCt l k=aAb l):=by
    unfold Hid aCt aAb
    rw [List.take_of_length_le (by omega),List.take_of_length_le (by omega)]
   rw [hfl.out] at HR
   go_wp2_with fail
   go_ret
   exact ⟨_,rfl,HR.out,hB⟩
end Go.Proofs.YthnodpdiocppgaaGreatDoor
