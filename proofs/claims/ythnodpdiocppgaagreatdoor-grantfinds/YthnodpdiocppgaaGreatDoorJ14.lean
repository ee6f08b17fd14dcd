/-
  Walks: slices.IndexFunc, slices.ContainsFunc and object's counted, at each type of layer 9.
-/
import Derived.Test.YthnodpdiocppgaaGreatDoorJ13
import Derived.Test.YthnodpdiocppgaaGreatDoorFiEq
set_option maxHeartbeats 3200000
set_option maxRecDepth 20000
namespace Go.Proofs.YthnodpdiocppgaaGreatDoor
open Go Go.RowKit Go.Shelf
def idxG {α:Type} (P:α→Bool) (l:List α):Int:=if l.any P then (l.findIdx P:Nat) else -1
theorem aBw {α:Type} {P:α→Bool} {l:List α} {k:Nat} (hk:k<l.length) (h:∀ j (h:j<l.length),j<k→P l[j]=false) (hs:P l[k]=true):idxG P l=(k:Int):=by
 have h1:l.any P=true:=List.any_eq_true.2 ⟨_,List.getElem_mem hk,hs⟩
 have h2:l.findIdx P=k:=by
  rw [List.findIdx_eq hk]
  exact ⟨hs,fun j hj=>h j (by omega) hj⟩
 unfold idxG
 rw [if_pos h1,h2]
theorem aC6 {α:Type} {P:α→Bool} {l:List α} (h:∀ j (h:j<l.length),P l[j]=false):idxG P l=-1:=by
 have h1:l.any P=false:=by
  rw [List.any_eq_false]
  intro p hp
  obtain ⟨j,hj,rfl⟩:=List.getElem_of_mem hp
  rw [h j hj]
  decide
 unfold idxG
 rw [h1]
 rfl
theorem aC7 {α:Type} (P:α→Bool) (l:List α):decide (0≤idxG P l)=l.any P:=by
 unfold idxG
 cases l.any P
 ·rfl
 ·simp
theorem aWz (P:Int→Bool) (b:Nat) (v:Value) (l:List Int) (w:World) (hv:Sl EI w v l) (go:∀ x∈l,∀ W,Below w.heap.size w W→EI.A x W→Calls Tryz.prog 136 #[(.int .i64 x),.pointer (some ⟨b,0,none⟩)] W fun e w'=>e=.returned (.bool (P x))∧Below W.heap.size W w') :
  Calls Tryz.prog 178 #[v,.func (.func 136) #[] #[.pointer (some ⟨b,0,none⟩)]] w fun e w'=>e=.returned (.int .i64 (idxG P l))∧Below w.heap.size w w':=by
 have hlen:=hv.len
 obtain ⟨a,cap,rfl⟩:=hv.form
 have HC:=hide (fun W (hB:Below w.heap.size w W) k (hk:k<l.length)=>oneI hv hB hk)
 have GO:=hide go
 clear hv go
 have ent:∀ (args:Array Value) (w:World),(callFunc 136 args).run Tryz.prog w=.ok (.enter 136 args) w:=fun args w=>aAd Tryz.func136 (by kernel_rfl) rfl args w
 go_enter Tryz.func178,Tryz.ntmps178
 go_wp2_with fail
 go_loopw [8] (fun i wr=>∃ k:Nat,k≤l.length∧i=.int .i64 k∧Hid (∀ j (h:j<l.length),j<k→P l[j]=false)∧Below w.heap.size w wr) (fun i _=>l.length - (intOf i).toNat)
 case atStart=>exact ⟨0,Nat.zero_le _,rfl,fun j h hj=>absurd hj (by omega),Below.refl _ _⟩
 case round =>
  obtain ⟨k,hk,rfl,hno,hB⟩:=hrel
  by_cases hlt:k<l.length
  ·have hlt':(k:Int)<(l.length:Int):=by omega
   obtain ⟨hA,gg,off,rfl,hgg,c0⟩:=HC.out _ hB k hlt
   have C1:=hide (GO.out l[k] (List.getElem_mem hlt) wr hB hA)
   clear hA
   cases hs:P l[k]
   ·have HN:Hid (∀ j (h:j<l.length),j<k+1→P l[j]=false):=fun j h hj=>by
     rcases Nat.lt_or_ge j k with h1 | h1
     ·exact hno.out j h h1
     ·obtain rfl:j=k:=by omega
      exact hs
    rw [hs] at C1
    clear hs
    generalize l[k]=fk at *
    try dsimp only at *
    go_wp2_with fail
    refine (C1.out).mono ?_
    rintro e w1 ⟨rfl,hb1⟩
    go_wp2_with fail
    exact ⟨⟨k+1,by omega,by go_num,HN.out,bb2 hB hb1⟩,by simp [intOf];omega⟩
   ·have HI:Hid ((k:Int)=idxG P l):=(aBw hlt hno.out hs).symm
    rw [hs] at C1
    clear hs
    generalize l[k]=fk at *
    try dsimp only at *
    go_wp2_with fail
    refine (C1.out).mono ?_
    rintro e w1 ⟨rfl,hb1⟩
    go_wp2_with fail
    go_ret
    exact ⟨aAp HI.out,bb2 hB hb1⟩
  ·have hlt':¬ (k:Int)<(l.length:Int):=by omega
   have HI:Hid (-1=idxG P l):=(aC6 (fun j h=>hno.out j h (by omega))).symm
   go_wp2_with fail
   go_ret
   exact ⟨aAp HI.out,hB⟩
theorem aX0 (P:Int→Bool) (b:Nat) (v:Value) (l:List Int) (w:World) (hv:Sl EI w v l) (go:∀ x∈l,∀ W,Below w.heap.size w W→EI.A x W→Calls Tryz.prog 136 #[(.int .i64 x),.pointer (some ⟨b,0,none⟩)] W fun e w'=>e=.returned (.bool (P x))∧Below W.heap.size W w') :
  Calls Tryz.prog 135 #[v,.func (.func 136) #[] #[.pointer (some ⟨b,0,none⟩)]] w fun e w'=>e=.returned (.bool (l.any P))∧Below w.heap.size w w':=by
 have C1:=hide (aWz P b v l w hv go)
 have HE:=hide (aC7 P l)
 clear hv go
 go_enter Tryz.func135,Tryz.ntmps135
 go_wp2_with fail
 refine (C1.out).mono ?_
 rintro e w1 ⟨rfl,hb1⟩
 go_wp2_with fail
 go_ret
 exact ⟨aA1 HE.out,hb1⟩
theorem cclI (p:Int→Bool) (g b:Nat) (x:Int) (w:World) (ent:∀ (args:Array Value) (w:World),(callFunc g args).run Tryz.prog w=.ok (.enter g args) w) (_:b<w.heap.size) (hc:w.cell? ⟨b,0,none⟩=some (.func (.func g) #[] #[])) (go:∀ W,Below w.heap.size w W→Calls Tryz.prog g #[(.int .i64 x)] W fun e w'=>e=.returned (.bool (p x))∧Below W.heap.size W w') :
  Calls Tryz.prog 136 #[(.int .i64 x),.pointer (some ⟨b,0,none⟩)] w fun e w'=>e=.returned (.bool (!p x))∧Below w.heap.size w w':=by
 have GO:=hide (go _ (Below.refl w.heap.size w))
 clear go
 generalize p x=r at *
 go_enter Tryz.func136,Tryz.ntmps136
 go_wp2_with fail
 refine (GO.out).mono ?_
 rintro e w1 ⟨rfl,hb1⟩
 go_wp2_with fail
 go_ret
 exact ⟨rfl,hb1⟩
theorem cntI (p:Int→Bool) (g:Nat) (v:Value) (l:List Int) (lo hi:Int) (w:World) (hv:Sl EI w v l) (ent:∀ (args:Array Value) (w:World),(callFunc g args).run Tryz.prog w=.ok (.enter g args) w)
  (go:∀ x∈l,∀ W,Below w.heap.size w W→EI.A x W→Calls Tryz.prog g #[(.int .i64 x)] W fun e w'=>e=.returned (.bool (p x))∧Below W.heap.size W w') :
  Calls Tryz.prog 103 #[v,.int .i64 lo,.int .i64 hi,.func (.func g) #[] #[]] w fun e w'=>e=.returned (.bool (Ob.cnt l lo hi p))∧Below w.heap.size w w':=by
 have hlen:=hv.len
 have hmf:∀ (fn:Fn) (first cap:Array Value) (w:World),(Instr.makeFunc fn first cap).run Tryz.prog w=.ok (.func fn first cap) w:=fun _ _ _ _=>rfl
 have B1:Below w.heap.size w (w.alloc (.cells #[.func (.func g) #[] #[]] 94)):=(Below.refl _ w).alloc (Nat.le_refl _) _
 have HC:=hide (aX0 (fun x=>!p x) w.heap.size v l (w.alloc (.cells #[.func (.func g) #[] #[]] 94)) (hv.below B1) fun x hx W hW hA=>cclI p g w.heap.size x W ent (by have:=hW.size;simp at this;omega) ((hW.cell (p:=⟨w.heap.size,0,none⟩) (by simp)).trans (aA0 (aA7 w _) rfl)) fun W2 h2=>go x hx W2 (bb2 (bb2 B1 hW) h2) (EI.below _ _ _ hA h2))
 have HV:Hid (l.any (fun x=>!p x)=!l.all p):=by unfold Hid;rw [List.not_all_eq_any_not]
 have HE:Hid (Ob.cnt l lo hi p=(decide (lo≤(l.length:Int)∧(l.length:Int)≤hi)&&l.all p)):=rfl
 obtain ⟨a,cap,rfl⟩:=hv.form
 clear hv go
 generalize Ob.cnt l lo hi p=r at *
 generalize l.all p=ra at *
 generalize l.any (fun x=>!p x)=rb at *
 by_cases h1:(l.length:Int)<lo
 ·rw [decide_eq_false (by omega)] at HE
  go_enter Tryz.func103,Tryz.ntmps103
  go_wp2_with fail
  go_ret
  exact ⟨aA1 HE.out.symm,B1⟩
 ·by_cases h2:hi<(l.length:Int)
  ·rw [decide_eq_false (by omega)] at HE
   go_enter Tryz.func103,Tryz.ntmps103
   go_wp2_with fail
   go_ret
   exact ⟨aA1 HE.out.symm,B1⟩
  ·rw [decide_eq_true (by omega)] at HE
   go_enter Tryz.func103,Tryz.ntmps103
   go_wp2_with fail
   refine (HC.out).mono ?_
   rintro e w1 ⟨rfl,hb1⟩
   go_wp2_with fail
   go_ret
   exact ⟨aA1 (by rw [HE.out,HV.out];simp),bb2 B1 hb1⟩
theorem aX1 (P:ByteArray→Bool) (b:Nat) (v:Value) (l:List ByteArray) (w:World) (hv:Sl ES w v l) (go:∀ x∈l,∀ W,Below w.heap.size w W→ES.A x W→Calls Tryz.prog 151 #[(.string x),.pointer (some ⟨b,0,none⟩)] W fun e w'=>e=.returned (.bool (P x))∧Below W.heap.size W w') :
  Calls Tryz.prog 184 #[v,.func (.func 151) #[] #[.pointer (some ⟨b,0,none⟩)]] w fun e w'=>e=.returned (.int .i64 (idxG P l))∧Below w.heap.size w w':=by
 have hlen:=hv.len
 obtain ⟨a,cap,rfl⟩:=hv.form
 have HC:=hide (fun W (hB:Below w.heap.size w W) k (hk:k<l.length)=>oneS hv hB hk)
 have GO:=hide go
 clear hv go
 have ent:∀ (args:Array Value) (w:World),(callFunc 151 args).run Tryz.prog w=.ok (.enter 151 args) w:=fun args w=>aAd Tryz.func151 (by kernel_rfl) rfl args w
 go_enter Tryz.func184,Tryz.ntmps184
 go_wp2_with fail
 go_loopw [8] (fun i wr=>∃ k:Nat,k≤l.length∧i=.int .i64 k∧Hid (∀ j (h:j<l.length),j<k→P l[j]=false)∧Below w.heap.size w wr) (fun i _=>l.length - (intOf i).toNat)
 case atStart=>exact ⟨0,Nat.zero_le _,rfl,fun j h hj=>absurd hj (by omega),Below.refl _ _⟩
 case round =>
  obtain ⟨k,hk,rfl,hno,hB⟩:=hrel
  by_cases hlt:k<l.length
  ·have hlt':(k:Int)<(l.length:Int):=by omega
   obtain ⟨hA,gg,off,rfl,hgg,c0⟩:=HC.out _ hB k hlt
   have C1:=hide (GO.out l[k] (List.getElem_mem hlt) wr hB hA)
   clear hA
   cases hs:P l[k]
   ·have HN:Hid (∀ j (h:j<l.length),j<k+1→P l[j]=false):=fun j h hj=>by
     rcases Nat.lt_or_ge j k with h1 | h1
     ·exact hno.out j h h1
     ·obtain rfl:j=k:=by omega
      exact hs
    rw [hs] at C1
    clear hs
    generalize l[k]=fk at *
    try dsimp only at *
    go_wp2_with fail
    refine (C1.out).mono ?_
    rintro e w1 ⟨rfl,hb1⟩
    go_wp2_with fail
    exact ⟨⟨k+1,by omega,by go_num,HN.out,bb2 hB hb1⟩,by simp [intOf];omega⟩
   ·have HI:Hid ((k:Int)=idxG P l):=(aBw hlt hno.out hs).symm
    rw [hs] at C1
    clear hs
    generalize l[k]=fk at *
    try dsimp only at *
    go_wp2_with fail
    refine (C1.out).mono ?_
    rintro e w1 ⟨rfl,hb1⟩
    go_wp2_with fail
    go_ret
    exact ⟨aAp HI.out,bb2 hB hb1⟩
  ·have hlt':¬ (k:Int)<(l.length:Int):=by omega
   have HI:Hid (-1=idxG P l):=(aC6 (fun j h=>hno.out j h (by omega))).symm
   go_wp2_with fail
   go_ret
   exact ⟨aAp HI.out,hB⟩
theorem aX2 (P:ByteArray→Bool) (b:Nat) (v:Value) (l:List ByteArray) (w:World) (hv:Sl ES w v l) (go:∀ x∈l,∀ W,Below w.heap.size w W→ES.A x W→Calls Tryz.prog 151 #[(.string x),.pointer (some ⟨b,0,none⟩)] W fun e w'=>e=.returned (.bool (P x))∧Below W.heap.size W w') :
  Calls Tryz.prog 150 #[v,.func (.func 151) #[] #[.pointer (some ⟨b,0,none⟩)]] w fun e w'=>e=.returned (.bool (l.any P))∧Below w.heap.size w w':=by
 have C1:=hide (aX1 P b v l w hv go)
 have HE:=hide (aC7 P l)
 clear hv go
 go_enter Tryz.func150,Tryz.ntmps150
 go_wp2_with fail
 refine (C1.out).mono ?_
 rintro e w1 ⟨rfl,hb1⟩
 go_wp2_with fail
 go_ret
 exact ⟨aA1 HE.out,hb1⟩
theorem cclS (p:ByteArray→Bool) (g b:Nat) (x:ByteArray) (w:World) (ent:∀ (args:Array Value) (w:World),(callFunc g args).run Tryz.prog w=.ok (.enter g args) w) (_:b<w.heap.size) (hc:w.cell? ⟨b,0,none⟩=some (.func (.func g) #[] #[])) (go:∀ W,Below w.heap.size w W→Calls Tryz.prog g #[(.string x)] W fun e w'=>e=.returned (.bool (p x))∧Below W.heap.size W w') :
  Calls Tryz.prog 151 #[(.string x),.pointer (some ⟨b,0,none⟩)] w fun e w'=>e=.returned (.bool (!p x))∧Below w.heap.size w w':=by
 have GO:=hide (go _ (Below.refl w.heap.size w))
 clear go
 generalize p x=r at *
 go_enter Tryz.func151,Tryz.ntmps151
 go_wp2_with fail
 refine (GO.out).mono ?_
 rintro e w1 ⟨rfl,hb1⟩
 go_wp2_with fail
 go_ret
 exact ⟨rfl,hb1⟩
theorem cntS (p:ByteArray→Bool) (g:Nat) (v:Value) (l:List ByteArray) (lo hi:Int) (w:World) (hv:Sl ES w v l) (ent:∀ (args:Array Value) (w:World),(callFunc g args).run Tryz.prog w=.ok (.enter g args) w)
  (go:∀ x∈l,∀ W,Below w.heap.size w W→ES.A x W→Calls Tryz.prog g #[(.string x)] W fun e w'=>e=.returned (.bool (p x))∧Below W.heap.size W w') :
  Calls Tryz.prog 116 #[v,.int .i64 lo,.int .i64 hi,.func (.func g) #[] #[]] w fun e w'=>e=.returned (.bool (Ob.cnt l lo hi p))∧Below w.heap.size w w':=by
 have hlen:=hv.len
 have hmf:∀ (fn:Fn) (first cap:Array Value) (w:World),(Instr.makeFunc fn first cap).run Tryz.prog w=.ok (.func fn first cap) w:=fun _ _ _ _=>rfl
 have B1:Below w.heap.size w (w.alloc (.cells #[.func (.func g) #[] #[]] 115)):=(Below.refl _ w).alloc (Nat.le_refl _) _
 have HC:=hide (aX2 (fun x=>!p x) w.heap.size v l (w.alloc (.cells #[.func (.func g) #[] #[]] 115)) (hv.below B1) fun x hx W hW hA=>cclS p g w.heap.size x W ent (by have:=hW.size;simp at this;omega) ((hW.cell (p:=⟨w.heap.size,0,none⟩) (by simp)).trans (aA0 (aA7 w _) rfl)) fun W2 h2=>go x hx W2 (bb2 (bb2 B1 hW) h2) (ES.below _ _ _ hA h2))
 have HV:Hid (l.any (fun x=>!p x)=!l.all p):=by unfold Hid;rw [List.not_all_eq_any_not]
 have HE:Hid (Ob.cnt l lo hi p=(decide (lo≤(l.length:Int)∧(l.length:Int)≤hi)&&l.all p)):=rfl
 obtain ⟨a,cap,rfl⟩:=hv.form
 clear hv go
 generalize Ob.cnt l lo hi p=r at *
 generalize l.all p=ra at *
 generalize l.any (fun x=>!p x)=rb at *
 by_cases h1:(l.length:Int)<lo
 ·rw [decide_eq_false (by omega)] at HE
  go_enter Tryz.func116,Tryz.ntmps116
  go_wp2_with fail
  go_ret
  exact ⟨aA1 HE.out.symm,B1⟩
 ·by_cases h2:hi<(l.length:Int)
  ·rw [decide_eq_false (by omega)] at HE
   go_enter Tryz.func116,Tryz.ntmps116
   go_wp2_with fail
   go_ret
   exact ⟨aA1 HE.out.symm,B1⟩
  ·rw [decide_eq_true (by omega)] at HE
   go_enter Tryz.func116,Tryz.ntmps116
   go_wp2_with fail
   refine (HC.out).mono ?_
   rintro e w1 ⟨rfl,hb1⟩
   go_wp2_with fail
   go_ret
   exact ⟨aA1 (by rw [HE.out,HV.out];simp),bb2 B1 hb1⟩
theorem aX3 (P:RfB→Bool) (b:Nat) (v:Value) (l:List RfB) (w:World) (hv:Sl ER w v l) (go:∀ x∈l,∀ W,Below w.heap.size w W→ER.A x W→Calls Tryz.prog 161 #[(rfV x),.pointer (some ⟨b,0,none⟩)] W fun e w'=>e=.returned (.bool (P x))∧Below W.heap.size W w') :
  Calls Tryz.prog 198 #[v,.func (.func 161) #[] #[.pointer (some ⟨b,0,none⟩)]] w fun e w'=>e=.returned (.int .i64 (idxG P l))∧Below w.heap.size w w':=by
 have hlen:=hv.len
 obtain ⟨a,cap,rfl⟩:=hv.form
 have HC:=hide (fun W (hB:Below w.heap.size w W) k (hk:k<l.length)=>oneD hv hB hk)
 have GO:=hide go
 clear hv go
 have ent:∀ (args:Array Value) (w:World),(callFunc 161 args).run Tryz.prog w=.ok (.enter 161 args) w:=fun args w=>aAd Tryz.func161 (by kernel_rfl) rfl args w
 go_enter Tryz.func198,Tryz.ntmps198
 go_wp2_with fail
 go_loopw [8] (fun i wr=>∃ k:Nat,k≤l.length∧i=.int .i64 k∧Hid (∀ j (h:j<l.length),j<k→P l[j]=false)∧Below w.heap.size w wr) (fun i _=>l.length - (intOf i).toNat)
 case atStart=>exact ⟨0,Nat.zero_le _,rfl,fun j h hj=>absurd hj (by omega),Below.refl _ _⟩
 case round =>
  obtain ⟨k,hk,rfl,hno,hB⟩:=hrel
  by_cases hlt:k<l.length
  ·have hlt':(k:Int)<(l.length:Int):=by omega
   obtain ⟨hA,gg,off,rfl,hgg,c0,c1,c2⟩:=HC.out _ hB k hlt
   have C1:=hide (GO.out l[k] (List.getElem_mem hlt) wr hB hA)
   clear hA
   cases hs:P l[k]
   ·have HN:Hid (∀ j (h:j<l.length),j<k+1→P l[j]=false):=fun j h hj=>by
     rcases Nat.lt_or_ge j k with h1 | h1
     ·exact hno.out j h h1
     ·obtain rfl:j=k:=by omega
      exact hs
    rw [hs] at C1
    clear hs
    generalize l[k]=fk at *
    obtain ⟨k0,s0,n0⟩:=fk
    try dsimp only at *
    go_wp2_with fail
    refine (C1.out).mono ?_
    rintro e w1 ⟨rfl,hb1⟩
    go_wp2_with fail
    exact ⟨⟨k+1,by omega,by go_num,HN.out,bb2 hB hb1⟩,by simp [intOf];omega⟩
   ·have HI:Hid ((k:Int)=idxG P l):=(aBw hlt hno.out hs).symm
    rw [hs] at C1
    clear hs
    generalize l[k]=fk at *
    obtain ⟨k0,s0,n0⟩:=fk
    try dsimp only at *
    go_wp2_with fail
    refine (C1.out).mono ?_
    rintro e w1 ⟨rfl,hb1⟩
    go_wp2_with fail
    go_ret
    exact ⟨aAp HI.out,bb2 hB hb1⟩
  ·have hlt':¬ (k:Int)<(l.length:Int):=by omega
   have HI:Hid (-1=idxG P l):=(aC6 (fun j h=>hno.out j h (by omega))).symm
   go_wp2_with fail
   go_ret
   exact ⟨aAp HI.out,hB⟩
theorem aX4 (P:RfB→Bool) (b:Nat) (v:Value) (l:List RfB) (w:World) (hv:Sl ER w v l) (go:∀ x∈l,∀ W,Below w.heap.size w W→ER.A x W→Calls Tryz.prog 161 #[(rfV x),.pointer (some ⟨b,0,none⟩)] W fun e w'=>e=.returned (.bool (P x))∧Below W.heap.size W w') :
  Calls Tryz.prog 160 #[v,.func (.func 161) #[] #[.pointer (some ⟨b,0,none⟩)]] w fun e w'=>e=.returned (.bool (l.any P))∧Below w.heap.size w w':=by
 have C1:=hide (aX3 P b v l w hv go)
 have HE:=hide (aC7 P l)
 clear hv go
 go_enter Tryz.func160,Tryz.ntmps160
 go_wp2_with fail
 refine (C1.out).mono ?_
 rintro e w1 ⟨rfl,hb1⟩
 go_wp2_with fail
 go_ret
 exact ⟨aA1 HE.out,hb1⟩
theorem cclD (p:RfB→Bool) (g b:Nat) (x:RfB) (w:World) (ent:∀ (args:Array Value) (w:World),(callFunc g args).run Tryz.prog w=.ok (.enter g args) w) (hb:b<w.heap.size) (hc:w.cell? ⟨b,0,none⟩=some (.func (.func g) #[] #[])) (go:∀ W,Below w.heap.size w W→Calls Tryz.prog g #[(rfV x)] W fun e w'=>e=.returned (.bool (p x))∧Below W.heap.size W w') :
  Calls Tryz.prog 161 #[(rfV x),.pointer (some ⟨b,0,none⟩)] w fun e w'=>e=.returned (.bool (!p x))∧Below w.heap.size w w':=by
 have hc':=((Below.refl w.heap.size w).alloc (Nat.le_refl _) (.cells (ER.cells x).toArray 53)).cell (p:=⟨b,0,none⟩) hb
 rw [hc] at hc'
 have GO:=hide (go _ ((Below.refl w.heap.size w).alloc (Nat.le_refl _) (.cells (ER.cells x).toArray 53)))
 clear go hc
 generalize p x=r at *
 obtain ⟨k0,s0,n0⟩:=x
 simp only [ER,aFn] at hc' GO
 try dsimp only at hc' GO
 go_enter Tryz.func161,Tryz.ntmps161
 go_wp2_with fail
 refine (GO.out).mono ?_
 rintro e w1 ⟨rfl,hb1⟩
 go_wp2_with fail
 go_ret
 exact ⟨rfl,aA8 hb1⟩
theorem cntD (p:RfB→Bool) (g:Nat) (v:Value) (l:List RfB) (lo hi:Int) (w:World) (hv:Sl ER w v l) (ent:∀ (args:Array Value) (w:World),(callFunc g args).run Tryz.prog w=.ok (.enter g args) w)
  (go:∀ x∈l,∀ W,Below w.heap.size w W→ER.A x W→Calls Tryz.prog g #[(rfV x)] W fun e w'=>e=.returned (.bool (p x))∧Below W.heap.size W w') :
  Calls Tryz.prog 122 #[v,.int .i64 lo,.int .i64 hi,.func (.func g) #[] #[]] w fun e w'=>e=.returned (.bool (Ob.cnt l lo hi p))∧Below w.heap.size w w':=by
 have hlen:=hv.len
 have hmf:∀ (fn:Fn) (first cap:Array Value) (w:World),(Instr.makeFunc fn first cap).run Tryz.prog w=.ok (.func fn first cap) w:=fun _ _ _ _=>rfl
 have B1:Below w.heap.size w (w.alloc (.cells #[.func (.func g) #[] #[]] 152)):=(Below.refl _ w).alloc (Nat.le_refl _) _
 have HC:=hide (aX4 (fun x=>!p x) w.heap.size v l (w.alloc (.cells #[.func (.func g) #[] #[]] 152)) (hv.below B1) fun x hx W hW hA=>cclD p g w.heap.size x W ent (by have:=hW.size;simp at this;omega) ((hW.cell (p:=⟨w.heap.size,0,none⟩) (by simp)).trans (aA0 (aA7 w _) rfl)) fun W2 h2=>go x hx W2 (bb2 (bb2 B1 hW) h2) (ER.below _ _ _ hA h2))
 have HV:Hid (l.any (fun x=>!p x)=!l.all p):=by unfold Hid;rw [List.not_all_eq_any_not]
 have HE:Hid (Ob.cnt l lo hi p=(decide (lo≤(l.length:Int)∧(l.length:Int)≤hi)&&l.all p)):=rfl
 obtain ⟨a,cap,rfl⟩:=hv.form
 clear hv go
 generalize Ob.cnt l lo hi p=r at *
 generalize l.all p=ra at *
 generalize l.any (fun x=>!p x)=rb at *
 by_cases h1:(l.length:Int)<lo
 ·rw [decide_eq_false (by omega)] at HE
  go_enter Tryz.func122,Tryz.ntmps122
  go_wp2_with fail
  go_ret
  exact ⟨aA1 HE.out.symm,B1⟩
 ·by_cases h2:hi<(l.length:Int)
  ·rw [decide_eq_false (by omega)] at HE
   go_enter Tryz.func122,Tryz.ntmps122
   go_wp2_with fail
   go_ret
   exact ⟨aA1 HE.out.symm,B1⟩
  ·rw [decide_eq_true (by omega)] at HE
   go_enter Tryz.func122,Tryz.ntmps122
   go_wp2_with fail
   refine (HC.out).mono ?_
   rintro e w1 ⟨rfl,hb1⟩
   go_wp2_with fail
   go_ret
   exact ⟨aA1 (by rw [HE.out,HV.out];simp),bb2 B1 hb1⟩
theorem aVs (P:PtB→Bool) (b:Nat) (v:Value) (l:List PtB) (w:World) (hv:Sl EPt w v l) (go:∀ x∈l,∀ W,Below w.heap.size w W→EPt.A x W→Calls Tryz.prog 146 #[(ptV x),.pointer (some ⟨b,0,none⟩)] W fun e w'=>e=.returned (.bool (P x))∧Below W.heap.size W w') :
  Calls Tryz.prog 183 #[v,.func (.func 146) #[] #[.pointer (some ⟨b,0,none⟩)]] w fun e w'=>e=.returned (.int .i64 (idxG P l))∧Below w.heap.size w w':=by
 have hlen:=hv.len
 obtain ⟨a,cap,rfl⟩:=hv.form
 have HC:=hide (fun W (hB:Below w.heap.size w W) k (hk:k<l.length)=>aDs hv hB hk)
 have GO:=hide go
 clear hv go
 have ent:∀ (args:Array Value) (w:World),(callFunc 146 args).run Tryz.prog w=.ok (.enter 146 args) w:=fun args w=>aAd Tryz.func146 (by kernel_rfl) rfl args w
 go_enter Tryz.func183,Tryz.ntmps183
 go_wp2_with fail
 go_loopw [8] (fun i wr=>∃ k:Nat,k≤l.length∧i=.int .i64 k∧Hid (∀ j (h:j<l.length),j<k→P l[j]=false)∧Below w.heap.size w wr) (fun i _=>l.length - (intOf i).toNat)
 case atStart=>exact ⟨0,Nat.zero_le _,rfl,fun j h hj=>absurd hj (by omega),Below.refl _ _⟩
 case round =>
  obtain ⟨k,hk,rfl,hno,hB⟩:=hrel
  by_cases hlt:k<l.length
  ·have hlt':(k:Int)<(l.length:Int):=by omega
   obtain ⟨hA,gg,off,rfl,hgg,c0,c1,c2,c3⟩:=HC.out _ hB k hlt
   have C1:=hide (GO.out l[k] (List.getElem_mem hlt) wr hB hA)
   clear hA
   cases hs:P l[k]
   ·have HN:Hid (∀ j (h:j<l.length),j<k+1→P l[j]=false):=fun j h hj=>by
     rcases Nat.lt_or_ge j k with h1 | h1
     ·exact hno.out j h h1
     ·obtain rfl:j=k:=by omega
      exact hs
    rw [hs] at C1
    clear hs
    generalize l[k]=fk at *
    obtain ⟨s0,n0,t0,p0⟩:=fk
    try dsimp only at *
    go_wp2_with fail
    refine (C1.out).mono ?_
    rintro e w1 ⟨rfl,hb1⟩
    go_wp2_with fail
    exact ⟨⟨k+1,by omega,by go_num,HN.out,bb2 hB hb1⟩,by simp [intOf];omega⟩
   ·have HI:Hid ((k:Int)=idxG P l):=(aBw hlt hno.out hs).symm
    rw [hs] at C1
    clear hs
    generalize l[k]=fk at *
    obtain ⟨s0,n0,t0,p0⟩:=fk
    try dsimp only at *
    go_wp2_with fail
    refine (C1.out).mono ?_
    rintro e w1 ⟨rfl,hb1⟩
    go_wp2_with fail
    go_ret
    exact ⟨aAp HI.out,bb2 hB hb1⟩
  ·have hlt':¬ (k:Int)<(l.length:Int):=by omega
   have HI:Hid (-1=idxG P l):=(aC6 (fun j h=>hno.out j h (by omega))).symm
   go_wp2_with fail
   go_ret
   exact ⟨aAp HI.out,hB⟩
theorem aVt (P:PtB→Bool) (b:Nat) (v:Value) (l:List PtB) (w:World) (hv:Sl EPt w v l) (go:∀ x∈l,∀ W,Below w.heap.size w W→EPt.A x W→Calls Tryz.prog 146 #[(ptV x),.pointer (some ⟨b,0,none⟩)] W fun e w'=>e=.returned (.bool (P x))∧Below W.heap.size W w') :
  Calls Tryz.prog 145 #[v,.func (.func 146) #[] #[.pointer (some ⟨b,0,none⟩)]] w fun e w'=>e=.returned (.bool (l.any P))∧Below w.heap.size w w':=by
 have C1:=hide (aVs P b v l w hv go)
 have HE:=hide (aC7 P l)
 clear hv go
 go_enter Tryz.func145,Tryz.ntmps145
 go_wp2_with fail
 refine (C1.out).mono ?_
 rintro e w1 ⟨rfl,hb1⟩
 go_wp2_with fail
 go_ret
 exact ⟨aA1 HE.out,hb1⟩
theorem aX5 (p:PtB→Bool) (g b:Nat) (x:PtB) (w:World) (ent:∀ (args:Array Value) (w:World),(callFunc g args).run Tryz.prog w=.ok (.enter g args) w) (hb:b<w.heap.size) (hc:w.cell? ⟨b,0,none⟩=some (.func (.func g) #[] #[])) (go:∀ W,Below w.heap.size w W→Calls Tryz.prog g #[(ptV x)] W fun e w'=>e=.returned (.bool (p x))∧Below W.heap.size W w') :
  Calls Tryz.prog 146 #[(ptV x),.pointer (some ⟨b,0,none⟩)] w fun e w'=>e=.returned (.bool (!p x))∧Below w.heap.size w w':=by
 have hc':=((Below.refl w.heap.size w).alloc (Nat.le_refl _) (.cells (EPt.cells x).toArray 70)).cell (p:=⟨b,0,none⟩) hb
 rw [hc] at hc'
 have GO:=hide (go _ ((Below.refl w.heap.size w).alloc (Nat.le_refl _) (.cells (EPt.cells x).toArray 70)))
 clear go hc
 generalize p x=r at *
 obtain ⟨s0,n0,t0,p0⟩:=x
 simp only [EPt,aEp] at hc' GO
 try dsimp only at hc' GO
 go_enter Tryz.func146,Tryz.ntmps146
 go_wp2_with fail
 refine (GO.out).mono ?_
 rintro e w1 ⟨rfl,hb1⟩
 go_wp2_with fail
 go_ret
 exact ⟨rfl,aA8 hb1⟩
theorem aX6 (p:PtB→Bool) (g:Nat) (v:Value) (l:List PtB) (lo hi:Int) (w:World) (hv:Sl EPt w v l) (ent:∀ (args:Array Value) (w:World),(callFunc g args).run Tryz.prog w=.ok (.enter g args) w)
  (go:∀ x∈l,∀ W,Below w.heap.size w W→EPt.A x W→Calls Tryz.prog g #[(ptV x)] W fun e w'=>e=.returned (.bool (p x))∧Below W.heap.size W w') :
  Calls Tryz.prog 112 #[v,.int .i64 lo,.int .i64 hi,.func (.func g) #[] #[]] w fun e w'=>e=.returned (.bool (Ob.cnt l lo hi p))∧Below w.heap.size w w':=by
 have hlen:=hv.len
 have hmf:∀ (fn:Fn) (first cap:Array Value) (w:World),(Instr.makeFunc fn first cap).run Tryz.prog w=.ok (.func fn first cap) w:=fun _ _ _ _=>rfl
 have B1:Below w.heap.size w (w.alloc (.cells #[.func (.func g) #[] #[]] 144)):=(Below.refl _ w).alloc (Nat.le_refl _) _
 have HC:=hide (aVt (fun x=>!p x) w.heap.size v l (w.alloc (.cells #[.func (.func g) #[] #[]] 144)) (hv.below B1) fun x hx W hW hA=>aX5 p g w.heap.size x W ent (by have:=hW.size;simp at this;omega) ((hW.cell (p:=⟨w.heap.size,0,none⟩) (by simp)).trans (aA0 (aA7 w _) rfl)) fun W2 h2=>go x hx W2 (bb2 (bb2 B1 hW) h2) (EPt.below _ _ _ hA h2))
 have HV:Hid (l.any (fun x=>!p x)=!l.all p):=by unfold Hid;rw [List.not_all_eq_any_not]
 have HE:Hid (Ob.cnt l lo hi p=(decide (lo≤(l.length:Int)∧(l.length:Int)≤hi)&&l.all p)):=rfl
 obtain ⟨a,cap,rfl⟩:=hv.form
 clear hv go
 generalize Ob.cnt l lo hi p=r at *
 generalize l.all p=ra at *
 generalize l.any (fun x=>!p x)=rb at *
 by_cases h1:(l.length:Int)<lo
 ·rw [decide_eq_false (by omega)] at HE
  go_enter Tryz.func112,Tryz.ntmps112
  go_wp2_with fail
  go_ret
  exact ⟨aA1 HE.out.symm,B1⟩
 ·by_cases h2:hi<(l.length:Int)
  ·rw [decide_eq_false (by omega)] at HE
   go_enter Tryz.func112,Tryz.ntmps112
   go_wp2_with fail
   go_ret
   exact ⟨aA1 HE.out.symm,B1⟩
  ·rw [decide_eq_true (by omega)] at HE
   go_enter Tryz.func112,Tryz.ntmps112
   go_wp2_with fail
   refine (HC.out).mono ?_
   rintro e w1 ⟨rfl,hb1⟩
   go_wp2_with fail
   go_ret
   exact ⟨aA1 (by rw [HE.out,HV.out];simp),bb2 B1 hb1⟩
theorem aX7 (P:BkB→Bool) (b:Nat) (v:Value) (l:List BkB) (w:World) (hv:Sl EK w v l) (go:∀ x∈l,∀ W,Below w.heap.size w W→EK.A x W→Calls Tryz.prog 197 #[(bkV x),.pointer (some ⟨b,0,none⟩)] W fun e w'=>e=.returned (.bool (P x))∧Below W.heap.size W w') :
  Calls Tryz.prog 223 #[v,.func (.func 197) #[] #[.pointer (some ⟨b,0,none⟩)]] w fun e w'=>e=.returned (.int .i64 (idxG P l))∧Below w.heap.size w w':=by
 have hlen:=hv.len
 obtain ⟨a,cap,rfl⟩:=hv.form
 have HC:=hide (fun W (hB:Below w.heap.size w W) k (hk:k<l.length)=>oneK hv hB hk)
 have GO:=hide go
 clear hv go
 have ent:∀ (args:Array Value) (w:World),(callFunc 197 args).run Tryz.prog w=.ok (.enter 197 args) w:=fun args w=>aAd Tryz.func197 (by kernel_rfl) rfl args w
 go_enter Tryz.func223,Tryz.ntmps223
 go_wp2_with fail
 go_loopw [8] (fun i wr=>∃ k:Nat,k≤l.length∧i=.int .i64 k∧Hid (∀ j (h:j<l.length),j<k→P l[j]=false)∧Below w.heap.size w wr) (fun i _=>l.length - (intOf i).toNat)
 case atStart=>exact ⟨0,Nat.zero_le _,rfl,fun j h hj=>absurd hj (by omega),Below.refl _ _⟩
 case round =>
  obtain ⟨k,hk,rfl,hno,hB⟩:=hrel
  by_cases hlt:k<l.length
  ·have hlt':(k:Int)<(l.length:Int):=by omega
   obtain ⟨hA,gg,off,rfl,hgg,c0,c1,c2,c3,c4⟩:=HC.out _ hB k hlt
   have C1:=hide (GO.out l[k] (List.getElem_mem hlt) wr hB hA)
   clear hA
   cases hs:P l[k]
   ·have HN:Hid (∀ j (h:j<l.length),j<k+1→P l[j]=false):=fun j h hj=>by
     rcases Nat.lt_or_ge j k with h1 | h1
     ·exact hno.out j h h1
     ·obtain rfl:j=k:=by omega
      exact hs
    rw [hs] at C1
    clear hs
    generalize l[k]=fk at *
    obtain ⟨⟨k0,s0,n0⟩,p0,w0⟩:=fk
    try dsimp only at *
    go_wp2_with fail
    refine (C1.out).mono ?_
    rintro e w1 ⟨rfl,hb1⟩
    go_wp2_with fail
    exact ⟨⟨k+1,by omega,by go_num,HN.out,bb2 hB hb1⟩,by simp [intOf];omega⟩
   ·have HI:Hid ((k:Int)=idxG P l):=(aBw hlt hno.out hs).symm
    rw [hs] at C1
    clear hs
    generalize l[k]=fk at *
    obtain ⟨⟨k0,s0,n0⟩,p0,w0⟩:=fk
    try dsimp only at *
    go_wp2_with fail
    refine (C1.out).mono ?_
    rintro e w1 ⟨rfl,hb1⟩
    go_wp2_with fail
    go_ret
    exact ⟨aAp HI.out,bb2 hB hb1⟩
  ·have hlt':¬ (k:Int)<(l.length:Int):=by omega
   have HI:Hid (-1=idxG P l):=(aC6 (fun j h=>hno.out j h (by omega))).symm
   go_wp2_with fail
   go_ret
   exact ⟨aAp HI.out,hB⟩
theorem aX8 (P:BkB→Bool) (b:Nat) (v:Value) (l:List BkB) (w:World) (hv:Sl EK w v l) (go:∀ x∈l,∀ W,Below w.heap.size w W→EK.A x W→Calls Tryz.prog 197 #[(bkV x),.pointer (some ⟨b,0,none⟩)] W fun e w'=>e=.returned (.bool (P x))∧Below W.heap.size W w') :
  Calls Tryz.prog 196 #[v,.func (.func 197) #[] #[.pointer (some ⟨b,0,none⟩)]] w fun e w'=>e=.returned (.bool (l.any P))∧Below w.heap.size w w':=by
 have C1:=hide (aX7 P b v l w hv go)
 have HE:=hide (aC7 P l)
 clear hv go
 go_enter Tryz.func196,Tryz.ntmps196
 go_wp2_with fail
 refine (C1.out).mono ?_
 rintro e w1 ⟨rfl,hb1⟩
 go_wp2_with fail
 go_ret
 exact ⟨aA1 HE.out,hb1⟩
theorem cclK (p:BkB→Bool) (g b:Nat) (x:BkB) (w:World) (ent:∀ (args:Array Value) (w:World),(callFunc g args).run Tryz.prog w=.ok (.enter g args) w) (hb:b<w.heap.size) (hc:w.cell? ⟨b,0,none⟩=some (.func (.func g) #[] #[])) (go:∀ W,Below w.heap.size w W→Calls Tryz.prog g #[(bkV x)] W fun e w'=>e=.returned (.bool (p x))∧Below W.heap.size W w') :
  Calls Tryz.prog 197 #[(bkV x),.pointer (some ⟨b,0,none⟩)] w fun e w'=>e=.returned (.bool (!p x))∧Below w.heap.size w w':=by
 have hc':=((Below.refl w.heap.size w).alloc (Nat.le_refl _) (.cells (EK.cells x).toArray 91)).cell (p:=⟨b,0,none⟩) hb
 rw [hc] at hc'
 have GO:=hide (go _ ((Below.refl w.heap.size w).alloc (Nat.le_refl _) (.cells (EK.cells x).toArray 91)))
 clear go hc
 generalize p x=r at *
 obtain ⟨⟨k0,s0,n0⟩,p0,w0⟩:=x
 simp only [EK,aFo] at hc' GO
 try dsimp only at hc' GO
 go_enter Tryz.func197,Tryz.ntmps197
 go_wp2_with fail
 refine (GO.out).mono ?_
 rintro e w1 ⟨rfl,hb1⟩
 go_wp2_with fail
 go_ret
 exact ⟨rfl,aA8 hb1⟩
theorem cntK (p:BkB→Bool) (g:Nat) (v:Value) (l:List BkB) (lo hi:Int) (w:World) (hv:Sl EK w v l) (ent:∀ (args:Array Value) (w:World),(callFunc g args).run Tryz.prog w=.ok (.enter g args) w)
  (go:∀ x∈l,∀ W,Below w.heap.size w W→EK.A x W→Calls Tryz.prog g #[(bkV x)] W fun e w'=>e=.returned (.bool (p x))∧Below W.heap.size W w') :
  Calls Tryz.prog 158 #[v,.int .i64 lo,.int .i64 hi,.func (.func g) #[] #[]] w fun e w'=>e=.returned (.bool (Ob.cnt l lo hi p))∧Below w.heap.size w w':=by
 have hlen:=hv.len
 have hmf:∀ (fn:Fn) (first cap:Array Value) (w:World),(Instr.makeFunc fn first cap).run Tryz.prog w=.ok (.func fn first cap) w:=fun _ _ _ _=>rfl
 have B1:Below w.heap.size w (w.alloc (.cells #[.func (.func g) #[] #[]] 163)):=(Below.refl _ w).alloc (Nat.le_refl _) _
 have HC:=hide (aX8 (fun x=>!p x) w.heap.size v l (w.alloc (.cells #[.func (.func g) #[] #[]] 163)) (hv.below B1) fun x hx W hW hA=>cclK p g w.heap.size x W ent (by have:=hW.size;simp at this;omega) ((hW.cell (p:=⟨w.heap.size,0,none⟩) (by simp)).trans (aA0 (aA7 w _) rfl)) fun W2 h2=>go x hx W2 (bb2 (bb2 B1 hW) h2) (EK.below _ _ _ hA h2))
 have HV:Hid (l.any (fun x=>!p x)=!l.all p):=by unfold Hid;rw [List.not_all_eq_any_not]
 have HE:Hid (Ob.cnt l lo hi p=(decide (lo≤(l.length:Int)∧(l.length:Int)≤hi)&&l.all p)):=rfl
 obtain ⟨a,cap,rfl⟩:=hv.form
 clear hv go
 generalize Ob.cnt l lo hi p=r at *
 generalize l.all p=ra at *
 generalize l.any (fun x=>!p x)=rb at *
 by_cases h1:(l.length:Int)<lo
 ·rw [decide_eq_false (by omega)] at HE
  go_enter Tryz.func158,Tryz.ntmps158
  go_wp2_with fail
  go_ret
  exact ⟨aA1 HE.out.symm,B1⟩
 ·by_cases h2:hi<(l.length:Int)
  ·rw [decide_eq_false (by omega)] at HE
   go_enter Tryz.func158,Tryz.ntmps158
   go_wp2_with fail
   go_ret
   exact ⟨aA1 HE.out.symm,B1⟩
  ·rw [decide_eq_true (by omega)] at HE
   go_enter Tryz.func158,Tryz.ntmps158
   go_wp2_with fail
   refine (HC.out).mono ?_
   rintro e w1 ⟨rfl,hb1⟩
   go_wp2_with fail
   go_ret
   exact ⟨aA1 (by rw [HE.out,HV.out];simp),bb2 B1 hb1⟩
theorem aX9 (P:MV→Bool) (b:Nat) (v:Value) (l:List MV) (w:World) (hv:Sl EM w v l) (go:∀ x∈l,∀ W,Below w.heap.size w W→EM.A x W→Calls Tryz.prog 187 #[(mV x.m x.vh x.vq),.pointer (some ⟨b,0,none⟩)] W fun e w'=>e=.returned (.bool (P x))∧Below W.heap.size W w') :
  Calls Tryz.prog 208 #[v,.func (.func 187) #[] #[.pointer (some ⟨b,0,none⟩)]] w fun e w'=>e=.returned (.int .i64 (idxG P l))∧Below w.heap.size w w':=by
 have hlen:=hv.len
 obtain ⟨a,cap,rfl⟩:=hv.form
 have HC:=hide (fun W (hB:Below w.heap.size w W) k (hk:k<l.length)=>oneM hv hB hk)
 have GO:=hide go
 clear hv go
 have ent:∀ (args:Array Value) (w:World),(callFunc 187 args).run Tryz.prog w=.ok (.enter 187 args) w:=fun args w=>aAd Tryz.func187 (by kernel_rfl) rfl args w
 go_enter Tryz.func208,Tryz.ntmps208
 go_wp2_with fail
 go_loopw [8] (fun i wr=>∃ k:Nat,k≤l.length∧i=.int .i64 k∧Hid (∀ j (h:j<l.length),j<k→P l[j]=false)∧Below w.heap.size w wr) (fun i _=>l.length - (intOf i).toNat)
 case atStart=>exact ⟨0,Nat.zero_le _,rfl,fun j h hj=>absurd hj (by omega),Below.refl _ _⟩
 case round =>
  obtain ⟨k,hk,rfl,hno,hB⟩:=hrel
  by_cases hlt:k<l.length
  ·have hlt':(k:Int)<(l.length:Int):=by omega
   obtain ⟨hA,gg,off,rfl,hgg,c0,c1,c2,c3,c4⟩:=HC.out _ hB k hlt
   have C1:=hide (GO.out l[k] (List.getElem_mem hlt) wr hB hA)
   clear hA
   cases hs:P l[k]
   ·have HN:Hid (∀ j (h:j<l.length),j<k+1→P l[j]=false):=fun j h hj=>by
     rcases Nat.lt_or_ge j k with h1 | h1
     ·exact hno.out j h h1
     ·obtain rfl:j=k:=by omega
      exact hs
    rw [hs] at C1
    clear hs
    generalize l[k]=fk at *
    obtain ⟨⟨k0,v0,m0,hd0,qu0⟩,ah0,ch0,aq0,cq0⟩:=fk
    try dsimp only at *
    go_wp2_with fail
    refine (C1.out).mono ?_
    rintro e w1 ⟨rfl,hb1⟩
    go_wp2_with fail
    exact ⟨⟨k+1,by omega,by go_num,HN.out,bb2 hB hb1⟩,by simp [intOf];omega⟩
   ·have HI:Hid ((k:Int)=idxG P l):=(aBw hlt hno.out hs).symm
    rw [hs] at C1
    clear hs
    generalize l[k]=fk at *
    obtain ⟨⟨k0,v0,m0,hd0,qu0⟩,ah0,ch0,aq0,cq0⟩:=fk
    try dsimp only at *
    go_wp2_with fail
    refine (C1.out).mono ?_
    rintro e w1 ⟨rfl,hb1⟩
    go_wp2_with fail
    go_ret
    exact ⟨aAp HI.out,bb2 hB hb1⟩
  ·have hlt':¬ (k:Int)<(l.length:Int):=by omega
   have HI:Hid (-1=idxG P l):=(aC6 (fun j h=>hno.out j h (by omega))).symm
   go_wp2_with fail
   go_ret
   exact ⟨aAp HI.out,hB⟩
theorem aXa (P:MV→Bool) (b:Nat) (v:Value) (l:List MV) (w:World) (hv:Sl EM w v l) (go:∀ x∈l,∀ W,Below w.heap.size w W→EM.A x W→Calls Tryz.prog 187 #[(mV x.m x.vh x.vq),.pointer (some ⟨b,0,none⟩)] W fun e w'=>e=.returned (.bool (P x))∧Below W.heap.size W w') :
  Calls Tryz.prog 186 #[v,.func (.func 187) #[] #[.pointer (some ⟨b,0,none⟩)]] w fun e w'=>e=.returned (.bool (l.any P))∧Below w.heap.size w w':=by
 have C1:=hide (aX9 P b v l w hv go)
 have HE:=hide (aC7 P l)
 clear hv go
 go_enter Tryz.func186,Tryz.ntmps186
 go_wp2_with fail
 refine (C1.out).mono ?_
 rintro e w1 ⟨rfl,hb1⟩
 go_wp2_with fail
 go_ret
 exact ⟨aA1 HE.out,hb1⟩
theorem cclM (p:MV→Bool) (g b:Nat) (x:MV) (w:World) (ent:∀ (args:Array Value) (w:World),(callFunc g args).run Tryz.prog w=.ok (.enter g args) w) (hb:b<w.heap.size) (hc:w.cell? ⟨b,0,none⟩=some (.func (.func g) #[] #[])) (go:∀ W,Below w.heap.size w W→Calls Tryz.prog g #[(mV x.m x.vh x.vq)] W fun e w'=>e=.returned (.bool (p x))∧Below W.heap.size W w') :
  Calls Tryz.prog 187 #[(mV x.m x.vh x.vq),.pointer (some ⟨b,0,none⟩)] w fun e w'=>e=.returned (.bool (!p x))∧Below w.heap.size w w':=by
 have hc':=((Below.refl w.heap.size w).alloc (Nat.le_refl _) (.cells (EM.cells x).toArray 88)).cell (p:=⟨b,0,none⟩) hb
 rw [hc] at hc'
 have GO:=hide (go _ ((Below.refl w.heap.size w).alloc (Nat.le_refl _) (.cells (EM.cells x).toArray 88)))
 clear go hc
 generalize p x=r at *
 obtain ⟨⟨k0,v0,m0,hd0,qu0⟩,ah0,ch0,aq0,cq0⟩:=x
 simp only [EM,aFm] at hc' GO
 try dsimp only at hc' GO
 go_enter Tryz.func187,Tryz.ntmps187
 go_wp2_with fail
 refine (GO.out).mono ?_
 rintro e w1 ⟨rfl,hb1⟩
 go_wp2_with fail
 go_ret
 exact ⟨rfl,aA8 hb1⟩
theorem cntM (p:MV→Bool) (g:Nat) (v:Value) (l:List MV) (lo hi:Int) (w:World) (hv:Sl EM w v l) (ent:∀ (args:Array Value) (w:World),(callFunc g args).run Tryz.prog w=.ok (.enter g args) w)
  (go:∀ x∈l,∀ W,Below w.heap.size w W→EM.A x W→Calls Tryz.prog g #[(mV x.m x.vh x.vq)] W fun e w'=>e=.returned (.bool (p x))∧Below W.heap.size W w') :
  Calls Tryz.prog 155 #[v,.int .i64 lo,.int .i64 hi,.func (.func g) #[] #[]] w fun e w'=>e=.returned (.bool (Ob.cnt l lo hi p))∧Below w.heap.size w w':=by
 have hlen:=hv.len
 have hmf:∀ (fn:Fn) (first cap:Array Value) (w:World),(Instr.makeFunc fn first cap).run Tryz.prog w=.ok (.func fn first cap) w:=fun _ _ _ _=>rfl
 have B1:Below w.heap.size w (w.alloc (.cells #[.func (.func g) #[] #[]] 129)):=(Below.refl _ w).alloc (Nat.le_refl _) _
 have HC:=hide (aXa (fun x=>!p x) w.heap.size v l (w.alloc (.cells #[.func (.func g) #[] #[]] 129)) (hv.below B1) fun x hx W hW hA=>cclM p g w.heap.size x W ent (by have:=hW.size;simp at this;omega) ((hW.cell (p:=⟨w.heap.size,0,none⟩) (by simp)).trans (aA0 (aA7 w _) rfl)) fun W2 h2=>go x hx W2 (bb2 (bb2 B1 hW) h2) (EM.below _ _ _ hA h2))
 have HV:Hid (l.any (fun x=>!p x)=!l.all p):=by unfold Hid;rw [List.not_all_eq_any_not]
 have HE:Hid (Ob.cnt l lo hi p=(decide (lo≤(l.length:Int)∧(l.length:Int)≤hi)&&l.all p)):=rfl
 obtain ⟨a,cap,rfl⟩:=hv.form
 clear hv go
 generalize Ob.cnt l lo hi p=r at *
 generalize l.all p=ra at *
 generalize l.any (fun x=>!p x)=rb at *
 by_cases h1:(l.length:Int)<lo
 ·rw [decide_eq_false (by omega)] at HE
  go_enter Tryz.func155,Tryz.ntmps155
  go_wp2_with fail
  go_ret
  exact ⟨aA1 HE.out.symm,B1⟩
 ·by_cases h2:hi<(l.length:Int)
  ·rw [decide_eq_false (by omega)] at HE
   go_enter Tryz.func155,Tryz.ntmps155
   go_wp2_with fail
   go_ret
   exact ⟨aA1 HE.out.symm,B1⟩
  ·rw [decide_eq_true (by omega)] at HE
   go_enter Tryz.func155,Tryz.ntmps155
   go_wp2_with fail
   refine (HC.out).mono ?_
   rintro e w1 ⟨rfl,hb1⟩
   go_wp2_with fail
   go_ret
   exact ⟨aA1 (by rw [HE.out,HV.out];simp),bb2 B1 hb1⟩
theorem aVu (P:LiV→Bool) (b:Nat) (v:Value) (l:List LiV) (w:World) (hv:Sl ELi w v l) (go:∀ x∈l,∀ W,Below w.heap.size w W→ELi.A x W→Calls Tryz.prog 140 #[(liV x),.pointer (some ⟨b,0,none⟩)] W fun e w'=>e=.returned (.bool (P x))∧Below W.heap.size W w') :
  Calls Tryz.prog 180 #[v,.func (.func 140) #[] #[.pointer (some ⟨b,0,none⟩)]] w fun e w'=>e=.returned (.int .i64 (idxG P l))∧Below w.heap.size w w':=by
 have hlen:=hv.len
 obtain ⟨a,cap,rfl⟩:=hv.form
 have HC:=hide (fun W (hB:Below w.heap.size w W) k (hk:k<l.length)=>aE5 hv hB hk)
 have GO:=hide go
 clear hv go
 have ent:∀ (args:Array Value) (w:World),(callFunc 140 args).run Tryz.prog w=.ok (.enter 140 args) w:=fun args w=>aAd Tryz.func140 (by kernel_rfl) rfl args w
 go_enter Tryz.func180,Tryz.ntmps180
 go_wp2_with fail
 go_loopw [8] (fun i wr=>∃ k:Nat,k≤l.length∧i=.int .i64 k∧Hid (∀ j (h:j<l.length),j<k→P l[j]=false)∧Below w.heap.size w wr) (fun i _=>l.length - (intOf i).toNat)
 case atStart=>exact ⟨0,Nat.zero_le _,rfl,fun j h hj=>absurd hj (by omega),Below.refl _ _⟩
 case round =>
  obtain ⟨k,hk,rfl,hno,hB⟩:=hrel
  by_cases hlt:k<l.length
  ·have hlt':(k:Int)<(l.length:Int):=by omega
   obtain ⟨hA,gg,off,rfl,hgg,c0,c1,c2,c3,c4,c5,c6,c7,c8⟩:=HC.out _ hB k hlt
   have C1:=hide (GO.out l[k] (List.getElem_mem hlt) wr hB hA)
   clear hA
   cases hs:P l[k]
   ·have HN:Hid (∀ j (h:j<l.length),j<k+1→P l[j]=false):=fun j h hj=>by
     rcases Nat.lt_or_ge j k with h1 | h1
     ·exact hno.out j h h1
     ·obtain rfl:j=k:=by omega
      exact hs
    rw [hs] at C1
    clear hs
    generalize l[k]=fk at *
    obtain ⟨n0,p0,t0,h0,⟨ck0,cs0,cn0⟩,f0,nd0,a0,c0⟩:=fk
    try dsimp only at *
    go_wp2_with fail
    refine (C1.out).mono ?_
    rintro e w1 ⟨rfl,hb1⟩
    go_wp2_with fail
    exact ⟨⟨k+1,by omega,by go_num,HN.out,bb2 hB hb1⟩,by simp [intOf];omega⟩
   ·have HI:Hid ((k:Int)=idxG P l):=(aBw hlt hno.out hs).symm
    rw [hs] at C1
    clear hs
    generalize l[k]=fk at *
    obtain ⟨n0,p0,t0,h0,⟨ck0,cs0,cn0⟩,f0,nd0,a0,c0⟩:=fk
    try dsimp only at *
    go_wp2_with fail
    refine (C1.out).mono ?_
    rintro e w1 ⟨rfl,hb1⟩
    go_wp2_with fail
    go_ret
    exact ⟨aAp HI.out,bb2 hB hb1⟩
  ·have hlt':¬ (k:Int)<(l.length:Int):=by omega
   have HI:Hid (-1=idxG P l):=(aC6 (fun j h=>hno.out j h (by omega))).symm
   go_wp2_with fail
   go_ret
   exact ⟨aAp HI.out,hB⟩
theorem aVv (P:LiV→Bool) (b:Nat) (v:Value) (l:List LiV) (w:World) (hv:Sl ELi w v l) (go:∀ x∈l,∀ W,Below w.heap.size w W→ELi.A x W→Calls Tryz.prog 140 #[(liV x),.pointer (some ⟨b,0,none⟩)] W fun e w'=>e=.returned (.bool (P x))∧Below W.heap.size W w') :
  Calls Tryz.prog 139 #[v,.func (.func 140) #[] #[.pointer (some ⟨b,0,none⟩)]] w fun e w'=>e=.returned (.bool (l.any P))∧Below w.heap.size w w':=by
 have C1:=hide (aVu P b v l w hv go)
 have HE:=hide (aC7 P l)
 clear hv go
 go_enter Tryz.func139,Tryz.ntmps139
 go_wp2_with fail
 refine (C1.out).mono ?_
 rintro e w1 ⟨rfl,hb1⟩
 go_wp2_with fail
 go_ret
 exact ⟨aA1 HE.out,hb1⟩
theorem aXb (p:LiV→Bool) (g b:Nat) (x:LiV) (w:World) (ent:∀ (args:Array Value) (w:World),(callFunc g args).run Tryz.prog w=.ok (.enter g args) w) (hb:b<w.heap.size) (hc:w.cell? ⟨b,0,none⟩=some (.func (.func g) #[] #[])) (go:∀ W,Below w.heap.size w W→Calls Tryz.prog g #[(liV x)] W fun e w'=>e=.returned (.bool (p x))∧Below W.heap.size W w') :
  Calls Tryz.prog 140 #[(liV x),.pointer (some ⟨b,0,none⟩)] w fun e w'=>e=.returned (.bool (!p x))∧Below w.heap.size w w':=by
 have hc':=((Below.refl w.heap.size w).alloc (Nat.le_refl _) (.cells (ELi.cells x).toArray 67)).cell (p:=⟨b,0,none⟩) hb
 rw [hc] at hc'
 have GO:=hide (go _ ((Below.refl w.heap.size w).alloc (Nat.le_refl _) (.cells (ELi.cells x).toArray 67)))
 clear go hc
 generalize p x=r at *
 obtain ⟨n0,p0,t0,h0,⟨ck0,cs0,cn0⟩,f0,nd0,a0,c0⟩:=x
 simp only [ELi,aDk] at hc' GO
 try dsimp only at hc' GO
 go_enter Tryz.func140,Tryz.ntmps140
 go_wp2_with fail
 refine (GO.out).mono ?_
 rintro e w1 ⟨rfl,hb1⟩
 go_wp2_with fail
 go_ret
 exact ⟨rfl,aA8 hb1⟩
theorem aXc (p:LiV→Bool) (g:Nat) (v:Value) (l:List LiV) (lo hi:Int) (w:World) (hv:Sl ELi w v l) (ent:∀ (args:Array Value) (w:World),(callFunc g args).run Tryz.prog w=.ok (.enter g args) w)
  (go:∀ x∈l,∀ W,Below w.heap.size w W→ELi.A x W→Calls Tryz.prog g #[(liV x)] W fun e w'=>e=.returned (.bool (p x))∧Below W.heap.size W w') :
  Calls Tryz.prog 108 #[v,.int .i64 lo,.int .i64 hi,.func (.func g) #[] #[]] w fun e w'=>e=.returned (.bool (Ob.cnt l lo hi p))∧Below w.heap.size w w':=by
 have hlen:=hv.len
 have hmf:∀ (fn:Fn) (first cap:Array Value) (w:World),(Instr.makeFunc fn first cap).run Tryz.prog w=.ok (.func fn first cap) w:=fun _ _ _ _=>rfl
 have B1:Below w.heap.size w (w.alloc (.cells #[.func (.func g) #[] #[]] 140)):=(Below.refl _ w).alloc (Nat.le_refl _) _
 have HC:=hide (aVv (fun x=>!p x) w.heap.size v l (w.alloc (.cells #[.func (.func g) #[] #[]] 140)) (hv.below B1) fun x hx W hW hA=>aXb p g w.heap.size x W ent (by have:=hW.size;simp at this;omega) ((hW.cell (p:=⟨w.heap.size,0,none⟩) (by simp)).trans (aA0 (aA7 w _) rfl)) fun W2 h2=>go x hx W2 (bb2 (bb2 B1 hW) h2) (ELi.below _ _ _ hA h2))
 have HV:Hid (l.any (fun x=>!p x)=!l.all p):=by unfold Hid;rw [List.not_all_eq_any_not]
 have HE:Hid (Ob.cnt l lo hi p=(decide (lo≤(l.length:Int)∧(l.length:Int)≤hi)&&l.all p)):=rfl
 obtain ⟨a,cap,rfl⟩:=hv.form
 clear hv go
 generalize Ob.cnt l lo hi p=r at *
 generalize l.all p=ra at *
 generalize l.any (fun x=>!p x)=rb at *
 by_cases h1:(l.length:Int)<lo
 ·rw [decide_eq_false (by omega)] at HE
  go_enter Tryz.func108,Tryz.ntmps108
  go_wp2_with fail
  go_ret
  exact ⟨aA1 HE.out.symm,B1⟩
 ·by_cases h2:hi<(l.length:Int)
  ·rw [decide_eq_false (by omega)] at HE
   go_enter Tryz.func108,Tryz.ntmps108
   go_wp2_with fail
   go_ret
   exact ⟨aA1 HE.out.symm,B1⟩
  ·rw [decide_eq_true (by omega)] at HE
   go_enter Tryz.func108,Tryz.ntmps108
   go_wp2_with fail
   refine (HC.out).mono ?_
   rintro e w1 ⟨rfl,hb1⟩
   go_wp2_with fail
   go_ret
   exact ⟨aA1 (by rw [HE.out,HV.out];simp),bb2 B1 hb1⟩
theorem aVw (P:RlV→Bool) (b:Nat) (v:Value) (l:List RlV) (w:World) (hv:Sl ERl w v l) (go:∀ x∈l,∀ W,Below w.heap.size w W→ERl.A x W→Calls Tryz.prog 154 #[(rlV x),.pointer (some ⟨b,0,none⟩)] W fun e w'=>e=.returned (.bool (P x))∧Below W.heap.size W w') :
  Calls Tryz.prog 185 #[v,.func (.func 154) #[] #[.pointer (some ⟨b,0,none⟩)]] w fun e w'=>e=.returned (.int .i64 (idxG P l))∧Below w.heap.size w w':=by
 have hlen:=hv.len
 obtain ⟨a,cap,rfl⟩:=hv.form
 have HC:=hide (fun W (hB:Below w.heap.size w W) k (hk:k<l.length)=>aG7 hv hB hk)
 have GO:=hide go
 clear hv go
 have ent:∀ (args:Array Value) (w:World),(callFunc 154 args).run Tryz.prog w=.ok (.enter 154 args) w:=fun args w=>aAd Tryz.func154 (by kernel_rfl) rfl args w
 go_enter Tryz.func185,Tryz.ntmps185
 go_wp2_with fail
 go_loopw [8] (fun i wr=>∃ k:Nat,k≤l.length∧i=.int .i64 k∧Hid (∀ j (h:j<l.length),j<k→P l[j]=false)∧Below w.heap.size w wr) (fun i _=>l.length - (intOf i).toNat)
 case atStart=>exact ⟨0,Nat.zero_le _,rfl,fun j h hj=>absurd hj (by omega),Below.refl _ _⟩
 case round =>
  obtain ⟨k,hk,rfl,hno,hB⟩:=hrel
  by_cases hlt:k<l.length
  ·have hlt':(k:Int)<(l.length:Int):=by omega
   obtain ⟨hA,gg,off,rfl,hgg,c0,c1,c2⟩:=HC.out _ hB k hlt
   have C1:=hide (GO.out l[k] (List.getElem_mem hlt) wr hB hA)
   clear hA
   cases hs:P l[k]
   ·have HN:Hid (∀ j (h:j<l.length),j<k+1→P l[j]=false):=fun j h hj=>by
     rcases Nat.lt_or_ge j k with h1 | h1
     ·exact hno.out j h h1
     ·obtain rfl:j=k:=by omega
      exact hs
    rw [hs] at C1
    clear hs
    generalize l[k]=fk at *
    obtain ⟨ms0,am0,cm0,fs0,af0,cf0,bs0,ab0,cb0⟩:=fk
    try dsimp only at *
    go_wp2_with fail
    refine (C1.out).mono ?_
    rintro e w1 ⟨rfl,hb1⟩
    go_wp2_with fail
    exact ⟨⟨k+1,by omega,by go_num,HN.out,bb2 hB hb1⟩,by simp [intOf];omega⟩
   ·have HI:Hid ((k:Int)=idxG P l):=(aBw hlt hno.out hs).symm
    rw [hs] at C1
    clear hs
    generalize l[k]=fk at *
    obtain ⟨ms0,am0,cm0,fs0,af0,cf0,bs0,ab0,cb0⟩:=fk
    try dsimp only at *
    go_wp2_with fail
    refine (C1.out).mono ?_
    rintro e w1 ⟨rfl,hb1⟩
    go_wp2_with fail
    go_ret
    exact ⟨aAp HI.out,bb2 hB hb1⟩
  ·have hlt':¬ (k:Int)<(l.length:Int):=by omega
   have HI:Hid (-1=idxG P l):=(aC6 (fun j h=>hno.out j h (by omega))).symm
   go_wp2_with fail
   go_ret
   exact ⟨aAp HI.out,hB⟩
theorem aVx (P:RlV→Bool) (b:Nat) (v:Value) (l:List RlV) (w:World) (hv:Sl ERl w v l) (go:∀ x∈l,∀ W,Below w.heap.size w W→ERl.A x W→Calls Tryz.prog 154 #[(rlV x),.pointer (some ⟨b,0,none⟩)] W fun e w'=>e=.returned (.bool (P x))∧Below W.heap.size W w') :
  Calls Tryz.prog 153 #[v,.func (.func 154) #[] #[.pointer (some ⟨b,0,none⟩)]] w fun e w'=>e=.returned (.bool (l.any P))∧Below w.heap.size w w':=by
 have C1:=hide (aVw P b v l w hv go)
 have HE:=hide (aC7 P l)
 clear hv go
 go_enter Tryz.func153,Tryz.ntmps153
 go_wp2_with fail
 refine (C1.out).mono ?_
 rintro e w1 ⟨rfl,hb1⟩
 go_wp2_with fail
 go_ret
 exact ⟨aA1 HE.out,hb1⟩
theorem aXd (p:RlV→Bool) (g b:Nat) (x:RlV) (w:World) (ent:∀ (args:Array Value) (w:World),(callFunc g args).run Tryz.prog w=.ok (.enter g args) w) (hb:b<w.heap.size) (hc:w.cell? ⟨b,0,none⟩=some (.func (.func g) #[] #[])) (go:∀ W,Below w.heap.size w W→Calls Tryz.prog g #[(rlV x)] W fun e w'=>e=.returned (.bool (p x))∧Below W.heap.size W w') :
  Calls Tryz.prog 154 #[(rlV x),.pointer (some ⟨b,0,none⟩)] w fun e w'=>e=.returned (.bool (!p x))∧Below w.heap.size w w':=by
 have hc':=((Below.refl w.heap.size w).alloc (Nat.le_refl _) (.cells (ERl.cells x).toArray 76)).cell (p:=⟨b,0,none⟩) hb
 rw [hc] at hc'
 have GO:=hide (go _ ((Below.refl w.heap.size w).alloc (Nat.le_refl _) (.cells (ERl.cells x).toArray 76)))
 clear go hc
 generalize p x=r at *
 obtain ⟨ms0,am0,cm0,fs0,af0,cf0,bs0,ab0,cb0⟩:=x
 simp only [ERl,aH8] at hc' GO
 try dsimp only at hc' GO
 go_enter Tryz.func154,Tryz.ntmps154
 go_wp2_with fail
 refine (GO.out).mono ?_
 rintro e w1 ⟨rfl,hb1⟩
 go_wp2_with fail
 go_ret
 exact ⟨rfl,aA8 hb1⟩
theorem aXe (p:RlV→Bool) (g:Nat) (v:Value) (l:List RlV) (lo hi:Int) (w:World) (hv:Sl ERl w v l) (ent:∀ (args:Array Value) (w:World),(callFunc g args).run Tryz.prog w=.ok (.enter g args) w)
  (go:∀ x∈l,∀ W,Below w.heap.size w W→ERl.A x W→Calls Tryz.prog g #[(rlV x)] W fun e w'=>e=.returned (.bool (p x))∧Below W.heap.size W w') :
  Calls Tryz.prog 120 #[v,.int .i64 lo,.int .i64 hi,.func (.func g) #[] #[]] w fun e w'=>e=.returned (.bool (Ob.cnt l lo hi p))∧Below w.heap.size w w':=by
 have hlen:=hv.len
 have hmf:∀ (fn:Fn) (first cap:Array Value) (w:World),(Instr.makeFunc fn first cap).run Tryz.prog w=.ok (.func fn first cap) w:=fun _ _ _ _=>rfl
 have B1:Below w.heap.size w (w.alloc (.cells #[.func (.func g) #[] #[]] 117)):=(Below.refl _ w).alloc (Nat.le_refl _) _
 have HC:=hide (aVx (fun x=>!p x) w.heap.size v l (w.alloc (.cells #[.func (.func g) #[] #[]] 117)) (hv.below B1) fun x hx W hW hA=>aXd p g w.heap.size x W ent (by have:=hW.size;simp at this;omega) ((hW.cell (p:=⟨w.heap.size,0,none⟩) (by simp)).trans (aA0 (aA7 w _) rfl)) fun W2 h2=>go x hx W2 (bb2 (bb2 B1 hW) h2) (ERl.below _ _ _ hA h2))
 have HV:Hid (l.any (fun x=>!p x)=!l.all p):=by unfold Hid;rw [List.not_all_eq_any_not]
 have HE:Hid (Ob.cnt l lo hi p=(decide (lo≤(l.length:Int)∧(l.length:Int)≤hi)&&l.all p)):=rfl
 obtain ⟨a,cap,rfl⟩:=hv.form
 clear hv go
 generalize Ob.cnt l lo hi p=r at *
 generalize l.all p=ra at *
 generalize l.any (fun x=>!p x)=rb at *
 by_cases h1:(l.length:Int)<lo
 ·rw [decide_eq_false (by omega)] at HE
  go_enter Tryz.func120,Tryz.ntmps120
  go_wp2_with fail
  go_ret
  exact ⟨aA1 HE.out.symm,B1⟩
 ·by_cases h2:hi<(l.length:Int)
  ·rw [decide_eq_false (by omega)] at HE
   go_enter Tryz.func120,Tryz.ntmps120
   go_wp2_with fail
   go_ret
   exact ⟨aA1 HE.out.symm,B1⟩
  ·rw [decide_eq_true (by omega)] at HE
   go_enter Tryz.func120,Tryz.ntmps120
   go_wp2_with fail
   refine (HC.out).mono ?_
   rintro e w1 ⟨rfl,hb1⟩
   go_wp2_with fail
   go_ret
   exact ⟨aA1 (by rw [HE.out,HV.out];simp),bb2 B1 hb1⟩
end Go.Proofs.YthnodpdiocppgaaGreatDoor
namespace Go.Proofs.YthnodpdiocppgaaGreatDoor
open Go Go.RowKit Go.Shelf
theorem aB3 {a b:ByteArray}:a.toList=b.toList↔a=b:=Ob.toList_iff
theorem aG8 (k:Int) (s n:ByteArray) (k':Int) (s' n':ByteArray) (w:World) :
  (Op.equalIn 10000 24 (.agg #[.int .i64 k,.string s,.string n]) (.agg #[.int .i64 k',.string s',.string n'])).run Tryz.prog w=.ok (decide (k=k'∧s.toList=s'.toList∧n.toList=n'.toList)) w:=by
 have u3:=Tryz.underlying3
 have i3:=Tryz.isAgg3
 have z3:=Tryz.sizeOf3
 rw [show (10000:Nat)=9999+1 from rfl,Op.equalIn]
 simp only [Sem.run_bind,run_underlying Tryz.underlying24,Result.andThen_ok]
 go_simp
 repeat' split
 all_goals simp_all
theorem aIu (k:Int) (s n:ByteArray) (k':Int) (s' n':ByteArray) (w:World) :
  (Op.equalIn 10000 53 (.agg #[.int .i64 k,.string s,.string n]) (.agg #[.int .i64 k',.string s',.string n'])).run Tryz.prog w=.ok (decide (k=k'∧s.toList=s'.toList∧n.toList=n'.toList)) w:=by
 have u3:=Tryz.underlying3
 have i3:=Tryz.isAgg3
 have z3:=Tryz.sizeOf3
 rw [show (10000:Nat)=9999+1 from rfl,Op.equalIn]
 simp only [Sem.run_bind,run_underlying Tryz.underlying53,Result.andThen_ok]
 go_simp
 repeat' split
 all_goals simp_all
theorem aIv (s n t:ByteArray) (p:Int) (s' n' t':ByteArray) (p':Int) (w:World) :
  (Op.equalIn 10000 70 (.agg #[.string s,.string n,.string t,.int .i64 p]) (.agg #[.string s',.string n',.string t',.int .i64 p'])).run Tryz.prog w=.ok (decide (s.toList=s'.toList∧n.toList=n'.toList∧t.toList=t'.toList∧p=p')) w:=by
 have u3:=Tryz.underlying3
 have i3:=Tryz.isAgg3
 have z3:=Tryz.sizeOf3
 rw [show (10000:Nat)=9999+1 from rfl,Op.equalIn]
 simp only [Sem.run_bind,run_underlying Tryz.underlying70,Result.andThen_ok]
 go_simp
 repeat' split
 all_goals simp_all
theorem aUx (k:Int) (s n:ByteArray) (k':Int) (s' n':ByteArray) (w:World) :
  (Op.equalIn 9999 24 (.agg #[.int .i64 k,.string s,.string n]) (.agg #[.int .i64 k',.string s',.string n'])).run Tryz.prog w=.ok (decide (k=k'∧s.toList=s'.toList∧n.toList=n'.toList)) w:=by
 have u3:=Tryz.underlying3
 have i3:=Tryz.isAgg3
 have z3:=Tryz.sizeOf3
 rw [show (9999:Nat)=9998+1 from rfl,Op.equalIn]
 simp only [Sem.run_bind,run_underlying Tryz.underlying24,Result.andThen_ok]
 go_simp
 repeat' split
 all_goals simp_all
theorem aQs (k:Int) (s n:ByteArray) (p x:Int) (k':Int) (s' n':ByteArray) (p' x':Int) (w:World) :
  (Op.equalIn 10000 91 (.agg #[.int .i64 k,.string s,.string n,.int .i64 p,.int .i64 x]) (.agg #[.int .i64 k',.string s',.string n',.int .i64 p',.int .i64 x'])).run Tryz.prog w=.ok (decide (k=k'∧s.toList=s'.toList∧n.toList=n'.toList∧p=p'∧x=x')) w:=by
 have u3:=Tryz.underlying3
 have i3:=Tryz.isAgg3
 have z3:=Tryz.sizeOf3
 have uR:=Tryz.underlying24
 have iR:=Tryz.isAgg24
 have zR:=Tryz.sizeOf24
 have eR:=aUx k s n k' s' n'
 rw [show (10000:Nat)=9999+1 from rfl,Op.equalIn]
 simp only [Sem.run_bind,run_underlying Tryz.underlying91,Result.andThen_ok]
 go_simp
 repeat' split
 all_goals simp_all
theorem oneF {w W:World} {a:Option Addr} {n cap:Nat} {L:List FB} (h:Sl EF w (.slice a n cap) L) (hB:Below w.heap.size w W) {k:Nat} (hk:k<L.length) :
  EF.A L[k] W∧∃ g off,a=some ⟨g,off,none⟩∧g<w.heap.size∧W.cell? ⟨g,off+k*8,none⟩=some (.int .i64 L[k].kind)∧W.cell? ⟨g,off+k*8+1,none⟩=some (.string L[k].name)∧W.cell? ⟨g,off+k*8+2,none⟩=some (.string L[k].val)∧W.cell? ⟨g,off+k*8+3,none⟩=some (.string L[k].host)∧W.cell? ⟨g,off+k*8+4,none⟩=some (.int .i64 L[k].port)∧W.cell? ⟨g,off+k*8+5,none⟩=some (.string L[k].path)∧W.cell? ⟨g,off+k*8+6,none⟩=some (.bool L[k].whole)∧W.cell? ⟨g,off+k*8+7,none⟩=some (.int .i64 L[k].code):=by
 obtain ⟨a',cap',hv,_,_,hc⟩:=h
 injection hv with e1 e2 e3
 subst e1
 obtain ⟨hA,g,off,ha,hg,c⟩:=hc k hk
 exact ⟨trivial,g,off,ha,hg,aAm (c.below hg hB)⟩
theorem equI (w:World) (va vb:Value) (xs ys:List Int) (ha:Sl EI w va xs) (hb:Sl EI w vb ys) :
  Calls Tryz.prog 170 #[va,vb] w fun e w'=>e=.returned (.bool (Ob.eqL Ob.eqI xs ys))∧Below w.heap.size w w':=by
 have hl:=ha.len
 obtain ⟨a,ca,rfl⟩:=ha.form
 obtain ⟨b,cb,rfl⟩:=hb.form
 have HA:=hide (fun W (hB:Below w.heap.size w W) k (hk:k<xs.length)=>oneI ha hB hk)
 have HB:=hide (fun W (hB:Below w.heap.size w W) k (hk:k<ys.length)=>oneI hb hB hk)
 clear ha hb
 by_cases hne:xs.length=ys.length
 ·have hx:((xs.length:Int) != (ys.length:Int))=false:=by rw [bne_eq_false_iff_eq];omega
  have HN:=hide hne
  clear hne
  go_enter Tryz.func170,Tryz.ntmps170
  go_wp2_with fail
  go_loopw [13] (fun i wr=>∃ k:Nat,k≤xs.length∧i=.int .i64 k∧Hid (∀ j (h1:j<xs.length) (h2:j<ys.length),j<k→Ob.eqI xs[j] ys[j]=true)∧Below w.heap.size w wr) (fun i _=>xs.length - (intOf i).toNat)
  case atStart=>exact ⟨0,Nat.zero_le _,rfl,fun j _ _ hj=>absurd hj (by omega),Below.refl _ _⟩
  case round =>
   obtain ⟨k,hk,rfl,htk,hB⟩:=hrel
   by_cases hlt:k<xs.length
   ·have hlb:k<ys.length:=by rw [←HN.out];exact hlt
    obtain ⟨_,ga,oa,rfl,hga,c_0⟩:=HA.out _ hB k hlt
    obtain ⟨_,gb,ob,rfl,hgb,d_0⟩:=HB.out _ hB k hlb
    have hlt':(k:Int)<(xs.length:Int):=by omega
    have hlb':(k:Int)<(ys.length:Int):=by omega
    have HT:Hid (Ob.eqI xs[k] ys[k]=true→∀ j (h1:j<xs.length) (h2:j<ys.length),j<k+1→Ob.eqI xs[j] ys[j]=true):=fun h j h1 h2 hj=>by
     rcases Nat.lt_or_ge j k with h3 | h3
     ·exact htk.out j h1 h2 h3
     ·obtain rfl:j=k:=by omega
      exact h
    have HG:Hid (Ob.eqI xs[k] ys[k]=false→Ob.eqL Ob.eqI xs ys=false):=fun h=>Ob.eqL_not xs ys k hlt hlb h
    generalize hx1:xs[k]=x at *
    generalize hy1:ys[k]=y at *
    cases hq:Ob.eqI x y
    ·have hqe:=hide (HG.out hq)
     clear HG HT
     have hq':(x == y)=false:=hq
     clear hq hx1 hy1
     go_wp2_with fail
     go_region
     go_wp2_with fail
     go_ret
     exact ⟨aA1 hqe.out.symm,hB.drew⟩
    ·have hqe:=hide (HT.out hq)
     clear HG HT
     have hq':(x == y)=true:=hq
     clear hq hx1 hy1
     go_wp2_with fail
     go_region
     go_wp2_with fail
     exact ⟨⟨k+1,by omega,by go_num,hqe.out,hB.drew⟩,by simp [intOf];omega⟩
   ·have hqe:Hid (Ob.eqL Ob.eqI xs ys=true):=Ob.eqL_yes xs ys HN.out fun j h1 h2=>htk.out j h1 h2 (by omega)
    have hlt':¬ (k:Int)<(xs.length:Int):=by omega
    go_wp2_with fail
    go_ret
    exact ⟨aA1 hqe.out.symm,hB⟩
 ·have hx:((xs.length:Int) != (ys.length:Int))=true:=by rw [bne_iff_ne];omega
  have hd:=hide (Ob.eqL_len (eq:=Ob.eqI) xs ys hne)
  clear hne
  go_enter Tryz.func170,Tryz.ntmps170
  go_wp2_with fail
  go_ret
  exact ⟨aA1 hd.out.symm,Below.refl _ _⟩
theorem equD (w:World) (va vb:Value) (xs ys:List RfB) (ha:Sl ER w va xs) (hb:Sl ER w vb ys) :
  Calls Tryz.prog 177 #[va,vb] w fun e w'=>e=.returned (.bool (Ob.eqL Ob.eqR xs ys))∧Below w.heap.size w w':=by
 have hl:=ha.len
 obtain ⟨a,ca,rfl⟩:=ha.form
 obtain ⟨b,cb,rfl⟩:=hb.form
 have HA:=hide (fun W (hB:Below w.heap.size w W) k (hk:k<xs.length)=>oneD ha hB hk)
 have HB:=hide (fun W (hB:Below w.heap.size w W) k (hk:k<ys.length)=>oneD hb hB hk)
 clear ha hb
 by_cases hne:xs.length=ys.length
 ·have hx:((xs.length:Int) != (ys.length:Int))=false:=by rw [bne_eq_false_iff_eq];omega
  have HN:=hide hne
  clear hne
  go_enter Tryz.func177,Tryz.ntmps177
  go_wp2_with fail
  go_loopw [13] (fun i wr=>∃ k:Nat,k≤xs.length∧i=.int .i64 k∧Hid (∀ j (h1:j<xs.length) (h2:j<ys.length),j<k→Ob.eqR xs[j] ys[j]=true)∧Below w.heap.size w wr) (fun i _=>xs.length - (intOf i).toNat)
  case atStart=>exact ⟨0,Nat.zero_le _,rfl,fun j _ _ hj=>absurd hj (by omega),Below.refl _ _⟩
  case round =>
   obtain ⟨k,hk,rfl,htk,hB⟩:=hrel
   by_cases hlt:k<xs.length
   ·have hlb:k<ys.length:=by rw [←HN.out];exact hlt
    obtain ⟨_,ga,oa,rfl,hga,c_0,c_1,c_2⟩:=HA.out _ hB k hlt
    obtain ⟨_,gb,ob,rfl,hgb,d_0,d_1,d_2⟩:=HB.out _ hB k hlb
    have hlt':(k:Int)<(xs.length:Int):=by omega
    have hlb':(k:Int)<(ys.length:Int):=by omega
    have HT:Hid (Ob.eqR xs[k] ys[k]=true→∀ j (h1:j<xs.length) (h2:j<ys.length),j<k+1→Ob.eqR xs[j] ys[j]=true):=fun h j h1 h2 hj=>by
     rcases Nat.lt_or_ge j k with h3 | h3
     ·exact htk.out j h1 h2 h3
     ·obtain rfl:j=k:=by omega
      exact h
    have HG:Hid (Ob.eqR xs[k] ys[k]=false→Ob.eqL Ob.eqR xs ys=false):=fun h=>Ob.eqL_not xs ys k hlt hlb h
    generalize hx1:xs[k]=x at *
    generalize hy1:ys[k]=y at *
    have HQ:Hid (∀ W,(Op.equalIn 10000 53 (rfV x) (rfV y)).run Tryz.prog W=.ok (Ob.eqR x y) W):=by
     intro W
     obtain ⟨k0,s0,n0⟩:=x
     obtain ⟨k1,s1,n1⟩:=y
     rw [aIu k0 s0 n0 k1 s1 n1 W]
     unfold Ob.eqR
     simp only [aB3]
    cases hq:Ob.eqR x y
    ·have hqe:=hide (HG.out hq)
     clear HG HT
     have EQF:=HQ.out
     rw [hq] at EQF
     clear hq HQ hx1 hy1
     obtain ⟨k0,s0,n0⟩:=x
     obtain ⟨k1,s1,n1⟩:=y
     dsimp only at *
     go_wp2_with fail
     go_region
     go_wp2_with fail
     go_ret
     exact ⟨aA1 hqe.out.symm,hB.drew⟩
    ·have hqe:=hide (HT.out hq)
     clear HG HT
     have EQF:=HQ.out
     rw [hq] at EQF
     clear hq HQ hx1 hy1
     obtain ⟨k0,s0,n0⟩:=x
     obtain ⟨k1,s1,n1⟩:=y
     dsimp only at *
     go_wp2_with fail
     go_region
     go_wp2_with fail
     exact ⟨⟨k+1,by omega,by go_num,hqe.out,hB.drew⟩,by simp [intOf];omega⟩
   ·have hqe:Hid (Ob.eqL Ob.eqR xs ys=true):=Ob.eqL_yes xs ys HN.out fun j h1 h2=>htk.out j h1 h2 (by omega)
    have hlt':¬ (k:Int)<(xs.length:Int):=by omega
    go_wp2_with fail
    go_ret
    exact ⟨aA1 hqe.out.symm,hB⟩
 ·have hx:((xs.length:Int) != (ys.length:Int))=true:=by rw [bne_iff_ne];omega
  have hd:=hide (Ob.eqL_len (eq:=Ob.eqR) xs ys hne)
  clear hne
  go_enter Tryz.func177,Tryz.ntmps177
  go_wp2_with fail
  go_ret
  exact ⟨aA1 hd.out.symm,Below.refl _ _⟩
theorem aXf (w:World) (va vb:Value) (xs ys:List PtB) (ha:Sl EPt w va xs) (hb:Sl EPt w vb ys) :
  Calls Tryz.prog 173 #[va,vb] w fun e w'=>e=.returned (.bool (Ob.eqL Ob.eqP xs ys))∧Below w.heap.size w w':=by
 have hl:=ha.len
 obtain ⟨a,ca,rfl⟩:=ha.form
 obtain ⟨b,cb,rfl⟩:=hb.form
 have HA:=hide (fun W (hB:Below w.heap.size w W) k (hk:k<xs.length)=>aDs ha hB hk)
 have HB:=hide (fun W (hB:Below w.heap.size w W) k (hk:k<ys.length)=>aDs hb hB hk)
 clear ha hb
 by_cases hne:xs.length=ys.length
 ·have hx:((xs.length:Int) != (ys.length:Int))=false:=by rw [bne_eq_false_iff_eq];omega
  have HN:=hide hne
  clear hne
  go_enter Tryz.func173,Tryz.ntmps173
  go_wp2_with fail
  go_loopw [13] (fun i wr=>∃ k:Nat,k≤xs.length∧i=.int .i64 k∧Hid (∀ j (h1:j<xs.length) (h2:j<ys.length),j<k→Ob.eqP xs[j] ys[j]=true)∧Below w.heap.size w wr) (fun i _=>xs.length - (intOf i).toNat)
  case atStart=>exact ⟨0,Nat.zero_le _,rfl,fun j _ _ hj=>absurd hj (by omega),Below.refl _ _⟩
  case round =>
   obtain ⟨k,hk,rfl,htk,hB⟩:=hrel
   by_cases hlt:k<xs.length
   ·have hlb:k<ys.length:=by rw [←HN.out];exact hlt
    obtain ⟨_,ga,oa,rfl,hga,c_0,c_1,c_2,c_3⟩:=HA.out _ hB k hlt
    obtain ⟨_,gb,ob,rfl,hgb,d_0,d_1,d_2,d_3⟩:=HB.out _ hB k hlb
    have hlt':(k:Int)<(xs.length:Int):=by omega
    have hlb':(k:Int)<(ys.length:Int):=by omega
    have HT:Hid (Ob.eqP xs[k] ys[k]=true→∀ j (h1:j<xs.length) (h2:j<ys.length),j<k+1→Ob.eqP xs[j] ys[j]=true):=fun h j h1 h2 hj=>by
     rcases Nat.lt_or_ge j k with h3 | h3
     ·exact htk.out j h1 h2 h3
     ·obtain rfl:j=k:=by omega
      exact h
    have HG:Hid (Ob.eqP xs[k] ys[k]=false→Ob.eqL Ob.eqP xs ys=false):=fun h=>Ob.eqL_not xs ys k hlt hlb h
    generalize hx1:xs[k]=x at *
    generalize hy1:ys[k]=y at *
    have HQ:Hid (∀ W,(Op.equalIn 10000 70 (ptV x) (ptV y)).run Tryz.prog W=.ok (Ob.eqP x y) W):=by
     intro W
     obtain ⟨s0,n0,t0,p0⟩:=x
     obtain ⟨s1,n1,t1,p1⟩:=y
     rw [aIv s0 n0 t0 p0 s1 n1 t1 p1 W]
     unfold Ob.eqP
     simp only [aB3]
    cases hq:Ob.eqP x y
    ·have hqe:=hide (HG.out hq)
     clear HG HT
     have EQF:=HQ.out
     rw [hq] at EQF
     clear hq HQ hx1 hy1
     obtain ⟨s0,n0,t0,p0⟩:=x
     obtain ⟨s1,n1,t1,p1⟩:=y
     dsimp only at *
     go_wp2_with fail
     go_region
     go_wp2_with fail
     go_ret
     exact ⟨aA1 hqe.out.symm,hB.drew⟩
    ·have hqe:=hide (HT.out hq)
     clear HG HT
     have EQF:=HQ.out
     rw [hq] at EQF
     clear hq HQ hx1 hy1
     obtain ⟨s0,n0,t0,p0⟩:=x
     obtain ⟨s1,n1,t1,p1⟩:=y
     dsimp only at *
     go_wp2_with fail
     go_region
     go_wp2_with fail
     exact ⟨⟨k+1,by omega,by go_num,hqe.out,hB.drew⟩,by simp [intOf];omega⟩
   ·have hqe:Hid (Ob.eqL Ob.eqP xs ys=true):=Ob.eqL_yes xs ys HN.out fun j h1 h2=>htk.out j h1 h2 (by omega)
    have hlt':¬ (k:Int)<(xs.length:Int):=by omega
    go_wp2_with fail
    go_ret
    exact ⟨aA1 hqe.out.symm,hB⟩
 ·have hx:((xs.length:Int) != (ys.length:Int))=true:=by rw [bne_iff_ne];omega
  have hd:=hide (Ob.eqL_len (eq:=Ob.eqP) xs ys hne)
  clear hne
  go_enter Tryz.func173,Tryz.ntmps173
  go_wp2_with fail
  go_ret
  exact ⟨aA1 hd.out.symm,Below.refl _ _⟩
theorem equK (w:World) (va vb:Value) (xs ys:List BkB) (ha:Sl EK w va xs) (hb:Sl EK w vb ys) :
  Calls Tryz.prog 205 #[va,vb] w fun e w'=>e=.returned (.bool (Ob.eqL Ob.eqK xs ys))∧Below w.heap.size w w':=by
 have hl:=ha.len
 obtain ⟨a,ca,rfl⟩:=ha.form
 obtain ⟨b,cb,rfl⟩:=hb.form
 have HA:=hide (fun W (hB:Below w.heap.size w W) k (hk:k<xs.length)=>oneK ha hB hk)
 have HB:=hide (fun W (hB:Below w.heap.size w W) k (hk:k<ys.length)=>oneK hb hB hk)
 clear ha hb
 by_cases hne:xs.length=ys.length
 ·have hx:((xs.length:Int) != (ys.length:Int))=false:=by rw [bne_eq_false_iff_eq];omega
  have HN:=hide hne
  clear hne
  go_enter Tryz.func205,Tryz.ntmps205
  go_wp2_with fail
  go_loopw [13] (fun i wr=>∃ k:Nat,k≤xs.length∧i=.int .i64 k∧Hid (∀ j (h1:j<xs.length) (h2:j<ys.length),j<k→Ob.eqK xs[j] ys[j]=true)∧Below w.heap.size w wr) (fun i _=>xs.length - (intOf i).toNat)
  case atStart=>exact ⟨0,Nat.zero_le _,rfl,fun j _ _ hj=>absurd hj (by omega),Below.refl _ _⟩
  case round =>
   obtain ⟨k,hk,rfl,htk,hB⟩:=hrel
   by_cases hlt:k<xs.length
   ·have hlb:k<ys.length:=by rw [←HN.out];exact hlt
    obtain ⟨_,ga,oa,rfl,hga,c_0,c_1,c_2,c_3,c_4⟩:=HA.out _ hB k hlt
    obtain ⟨_,gb,ob,rfl,hgb,d_0,d_1,d_2,d_3,d_4⟩:=HB.out _ hB k hlb
    have hlt':(k:Int)<(xs.length:Int):=by omega
    have hlb':(k:Int)<(ys.length:Int):=by omega
    have HT:Hid (Ob.eqK xs[k] ys[k]=true→∀ j (h1:j<xs.length) (h2:j<ys.length),j<k+1→Ob.eqK xs[j] ys[j]=true):=fun h j h1 h2 hj=>by
     rcases Nat.lt_or_ge j k with h3 | h3
     ·exact htk.out j h1 h2 h3
     ·obtain rfl:j=k:=by omega
      exact h
    have HG:Hid (Ob.eqK xs[k] ys[k]=false→Ob.eqL Ob.eqK xs ys=false):=fun h=>Ob.eqL_not xs ys k hlt hlb h
    generalize hx1:xs[k]=x at *
    generalize hy1:ys[k]=y at *
    have HQ:Hid (∀ W,(Op.equalIn 10000 91 (bkV x) (bkV y)).run Tryz.prog W=.ok (Ob.eqK x y) W):=by
     intro W
     obtain ⟨⟨k0,s0,n0⟩,p0,w0⟩:=x
     obtain ⟨⟨k1,s1,n1⟩,p1,w1⟩:=y
     rw [aQs k0 s0 n0 p0 w0 k1 s1 n1 p1 w1 W]
     unfold Ob.eqK
     simp only [aB3]
    cases hq:Ob.eqK x y
    ·have hqe:=hide (HG.out hq)
     clear HG HT
     have EQF:=HQ.out
     rw [hq] at EQF
     clear hq HQ hx1 hy1
     obtain ⟨⟨k0,s0,n0⟩,p0,w0⟩:=x
     obtain ⟨⟨k1,s1,n1⟩,p1,w1⟩:=y
     dsimp only at *
     go_wp2_with fail
     go_region
     go_wp2_with fail
     go_ret
     exact ⟨aA1 hqe.out.symm,hB.drew⟩
    ·have hqe:=hide (HT.out hq)
     clear HG HT
     have EQF:=HQ.out
     rw [hq] at EQF
     clear hq HQ hx1 hy1
     obtain ⟨⟨k0,s0,n0⟩,p0,w0⟩:=x
     obtain ⟨⟨k1,s1,n1⟩,p1,w1⟩:=y
     dsimp only at *
     go_wp2_with fail
     go_region
     go_wp2_with fail
     exact ⟨⟨k+1,by omega,by go_num,hqe.out,hB.drew⟩,by simp [intOf];omega⟩
   ·have hqe:Hid (Ob.eqL Ob.eqK xs ys=true):=Ob.eqL_yes xs ys HN.out fun j h1 h2=>htk.out j h1 h2 (by omega)
    have hlt':¬ (k:Int)<(xs.length:Int):=by omega
    go_wp2_with fail
    go_ret
    exact ⟨aA1 hqe.out.symm,hB⟩
 ·have hx:((xs.length:Int) != (ys.length:Int))=true:=by rw [bne_iff_ne];omega
  have hd:=hide (Ob.eqL_len (eq:=Ob.eqK) xs ys hne)
  clear hne
  go_enter Tryz.func205,Tryz.ntmps205
  go_wp2_with fail
  go_ret
  exact ⟨aA1 hd.out.symm,Below.refl _ _⟩
theorem equF (w:World) (va vb:Value) (xs ys:List FB) (ha:Sl EF w va xs) (hb:Sl EF w vb ys) :
  Calls Tryz.prog 204 #[va,vb] w fun e w'=>e=.returned (.bool (Ob.eqL Ob.eqFi xs ys))∧Below w.heap.size w w':=by
 have hl:=ha.len
 obtain ⟨a,ca,rfl⟩:=ha.form
 obtain ⟨b,cb,rfl⟩:=hb.form
 have HA:=hide (fun W (hB:Below w.heap.size w W) k (hk:k<xs.length)=>oneF ha hB hk)
 have HB:=hide (fun W (hB:Below w.heap.size w W) k (hk:k<ys.length)=>oneF hb hB hk)
 clear ha hb
 by_cases hne:xs.length=ys.length
 ·have hx:((xs.length:Int) != (ys.length:Int))=false:=by rw [bne_eq_false_iff_eq];omega
  have HN:=hide hne
  clear hne
  go_enter Tryz.func204,Tryz.ntmps204
  go_wp2_with fail
  go_loopw [13] (fun i wr=>∃ k:Nat,k≤xs.length∧i=.int .i64 k∧Hid (∀ j (h1:j<xs.length) (h2:j<ys.length),j<k→Ob.eqFi xs[j] ys[j]=true)∧Below w.heap.size w wr) (fun i _=>xs.length - (intOf i).toNat)
  case atStart=>exact ⟨0,Nat.zero_le _,rfl,fun j _ _ hj=>absurd hj (by omega),Below.refl _ _⟩
  case round =>
   obtain ⟨k,hk,rfl,htk,hB⟩:=hrel
   by_cases hlt:k<xs.length
   ·have hlb:k<ys.length:=by rw [←HN.out];exact hlt
    obtain ⟨_,ga,oa,rfl,hga,c_0,c_1,c_2,c_3,c_4,c_5,c_6,c_7⟩:=HA.out _ hB k hlt
    obtain ⟨_,gb,ob,rfl,hgb,d_0,d_1,d_2,d_3,d_4,d_5,d_6,d_7⟩:=HB.out _ hB k hlb
    have hlt':(k:Int)<(xs.length:Int):=by omega
    have hlb':(k:Int)<(ys.length:Int):=by omega
    have HT:Hid (Ob.eqFi xs[k] ys[k]=true→∀ j (h1:j<xs.length) (h2:j<ys.length),j<k+1→Ob.eqFi xs[j] ys[j]=true):=fun h j h1 h2 hj=>by
     rcases Nat.lt_or_ge j k with h3 | h3
     ·exact htk.out j h1 h2 h3
     ·obtain rfl:j=k:=by omega
      exact h
    have HG:Hid (Ob.eqFi xs[k] ys[k]=false→Ob.eqL Ob.eqFi xs ys=false):=fun h=>Ob.eqL_not xs ys k hlt hlb h
    generalize hx1:xs[k]=x at *
    generalize hy1:ys[k]=y at *
    have HQ:Hid (∀ W,(Op.equalIn 10000 108 (fV x) (fV y)).run Tryz.prog W=.ok (Ob.eqFi x y) W):=by
     intro W
     obtain ⟨k0,n0,v0,h0,p0,t0,b0,c0⟩:=x
     obtain ⟨k1,n1,v1,h1,p1,t1,b1,c1⟩:=y
     rw [aH5 k0 p0 c0 k1 p1 c1 n0 v0 h0 t0 n1 v1 h1 t1 b0 b1 W]
     unfold Ob.eqFi
     simp only [aB3]
    cases hq:Ob.eqFi x y
    ·have hqe:=hide (HG.out hq)
     clear HG HT
     have EQF:=HQ.out
     rw [hq] at EQF
     clear hq HQ hx1 hy1
     obtain ⟨k0,n0,v0,h0,p0,t0,b0,c0⟩:=x
     obtain ⟨k1,n1,v1,h1,p1,t1,b1,c1⟩:=y
     dsimp only at *
     go_wp2_with fail
     go_region
     go_wp2_with fail
     go_ret
     exact ⟨aA1 hqe.out.symm,hB.drew⟩
    ·have hqe:=hide (HT.out hq)
     clear HG HT
     have EQF:=HQ.out
     rw [hq] at EQF
     clear hq HQ hx1 hy1
     obtain ⟨k0,n0,v0,h0,p0,t0,b0,c0⟩:=x
     obtain ⟨k1,n1,v1,h1,p1,t1,b1,c1⟩:=y
     dsimp only at *
     go_wp2_with fail
     go_region
     go_wp2_with fail
     exact ⟨⟨k+1,by omega,by go_num,hqe.out,hB.drew⟩,by simp [intOf];omega⟩
   ·have hqe:Hid (Ob.eqL Ob.eqFi xs ys=true):=Ob.eqL_yes xs ys HN.out fun j h1 h2=>htk.out j h1 h2 (by omega)
    have hlt':¬ (k:Int)<(xs.length:Int):=by omega
    go_wp2_with fail
    go_ret
    exact ⟨aA1 hqe.out.symm,hB⟩
 ·have hx:((xs.length:Int) != (ys.length:Int))=true:=by rw [bne_iff_ne];omega
  have hd:=hide (Ob.eqL_len (eq:=Ob.eqFi) xs ys hne)
  clear hne
  go_enter Tryz.func204,Tryz.ntmps204
  go_wp2_with fail
  go_ret
  exact ⟨aA1 hd.out.symm,Below.refl _ _⟩
end Go.Proofs.YthnodpdiocppgaaGreatDoor
namespace Go.Proofs.YthnodpdiocppgaaGreatDoor
open Go Go.RowKit Go.Shelf
theorem aXg (eq:LiV→LiV→Bool) (g:Nat) (va vb:Value) (A B:List LiV) (w:World) (ha:Sl ELi w va A) (hb:Sl ELi w vb B) (ent:∀ (args:Array Value) (w:World),(callFunc g args).run Tryz.prog w=.ok (.enter g args) w)
  (go:∀ x∈A,∀ y∈B,∀ W,Below w.heap.size w W→ELi.A x W→ELi.A y W→Calls Tryz.prog g #[(liV x),(liV y)] W fun e w'=>e=.returned (.bool (eq x y))∧Below W.heap.size W w') :
  Calls Tryz.prog 171 #[va,vb,.func (.func g) #[] #[]] w fun e w'=>e=.returned (.bool (Ob.eqL eq A B))∧Below w.heap.size w w':=by
 have hlen:=ha.len
 obtain ⟨a,ca,rfl⟩:=ha.form
 obtain ⟨b,cb,rfl⟩:=hb.form
 have HA:=hide (fun W (hB:Below w.heap.size w W) k (hk:k<A.length)=>aE5 ha hB hk)
 have HB:=hide (fun W (hB:Below w.heap.size w W) k (hk:k<B.length)=>aE5 hb hB hk)
 have GO:=hide go
 clear ha hb go
 by_cases hne:A.length=B.length
 ·have hx:((A.length:Int) != (B.length:Int))=false:=by rw [bne_eq_false_iff_eq];omega
  have HN:=hide hne
  clear hne
  go_enter Tryz.func171,Tryz.ntmps171
  go_wp2_with fail
  go_loopw [17] (fun i wr=>∃ k:Nat,k≤A.length∧i=.int .i64 k∧Hid (∀ j (h1:j<A.length) (h2:j<B.length),j<k→eq A[j] B[j]=true)∧Below w.heap.size w wr) (fun i _=>A.length - (intOf i).toNat)
  case atStart=>exact ⟨0,Nat.zero_le _,rfl,fun j _ _ hj=>absurd hj (by omega),Below.refl _ _⟩
  case round =>
   obtain ⟨k,hk,rfl,htk,hB⟩:=hrel
   by_cases hlt:k<A.length
   ·have hlb:k<B.length:=by rw [←HN.out];exact hlt
    have hlt':(k:Int)<(A.length:Int):=by omega
    have hlb':(k:Int)<(B.length:Int):=by omega
    obtain ⟨hA,g1,off,rfl,hg,c_0,c_1,c_2,c_3,c_4,c_5,c_6,c_7,c_8⟩:=HA.out _ hB k hlt
    obtain ⟨hA2,g2,off2,rfl,hg2,d_0,d_1,d_2,d_3,d_4,d_5,d_6,d_7,d_8⟩:=HB.out _ (hB.alloc hB.size (.cells #[.string A[k].name,.int .i64 A[k].port,.bool A[k].tls,.string A[k].host,.int .i64 A[k].cert.kind,.string A[k].cert.space,.string A[k].cert.name,.int .i64 A[k].frm,A[k].v] 67)) k hlb
    have HT:Hid (eq A[k] B[k]=true→∀ j (h1:j<A.length) (h2:j<B.length),j<k+1→eq A[j] B[j]=true):=fun h j h1 h2 hj=>by
     rcases Nat.lt_or_ge j k with h3 | h3
     ·exact htk.out j h1 h2 h3
     ·obtain rfl:j=k:=by omega
      exact h
    have HG:Hid (eq A[k] B[k]=false→Ob.eqL eq A B=false):=fun h=>Ob.eqL_not A B k hlt hlb h
    have GO1:=GO.out A[k] (List.getElem_mem hlt) B[k] (List.getElem_mem hlb)
    generalize A[k]=x at *
    generalize B[k]=y at *
    have HM:=hide (fun W (h:Below wr.heap.size wr W) (h2:Below (wr.alloc (.cells #[.string x.name,.int .i64 x.port,.bool x.tls,.string x.host,.int .i64 x.cert.kind,.string x.cert.space,.string x.cert.name,.int .i64 x.frm,x.v] 67)).heap.size (wr.alloc (.cells #[.string x.name,.int .i64 x.port,.bool x.tls,.string x.host,.int .i64 x.cert.kind,.string x.cert.space,.string x.cert.name,.int .i64 x.frm,x.v] 67)) W)=>GO1 W (bb2 hB h) (ELi.below _ _ _ hA h) (ELi.below _ _ _ hA2 h2))
    clear hA hA2 GO1
    cases hq:eq x y
    ·have hq2:=hide (HG.out hq)
     rw [hq] at HM
     clear hq HG HT
     obtain ⟨n0,p0,t0,h0,⟨ck0,cs0,cn0⟩,f0,nd0,a0,c0⟩:=x
     obtain ⟨n1,p1,t1,h1,⟨ck1,cs1,cn1⟩,f1,nd1,a1,c1⟩:=y
     try dsimp only at *
     go_wp2_with fail
     refine (HM.out _ (((Below.refl _ _).alloc (Nat.le_refl _) _).alloc (by simp) _) ((Below.refl _ _).alloc (Nat.le_refl _) _)).mono ?_
     rintro e w1 ⟨rfl,hb1⟩
     go_wp2_with fail
     go_ret
     exact ⟨aA1 (by rw [hq2.out]),bb2 hB (aA8 (aA8 hb1))⟩
    ·have hq2:=hide (HT.out hq)
     rw [hq] at HM
     clear hq HG HT
     obtain ⟨n0,p0,t0,h0,⟨ck0,cs0,cn0⟩,f0,nd0,a0,c0⟩:=x
     obtain ⟨n1,p1,t1,h1,⟨ck1,cs1,cn1⟩,f1,nd1,a1,c1⟩:=y
     try dsimp only at *
     go_wp2_with fail
     refine (HM.out _ (((Below.refl _ _).alloc (Nat.le_refl _) _).alloc (by simp) _) ((Below.refl _ _).alloc (Nat.le_refl _) _)).mono ?_
     rintro e w1 ⟨rfl,hb1⟩
     go_wp2_with fail
     exact ⟨⟨k+1,by omega,by go_num,hq2.out,bb2 hB (aA8 (aA8 hb1))⟩,by simp [intOf];omega⟩
   ·have hlt':¬ (k:Int)<(A.length:Int):=by omega
    have hq:Hid (Ob.eqL eq A B=true):=Ob.eqL_yes A B HN.out fun j h1 h2=>htk.out j h1 h2 (by omega)
    go_wp2_with fail
    go_ret
    exact ⟨aA1 (by rw [hq.out]),hB⟩
 ·have hx:((A.length:Int) != (B.length:Int))=true:=by rw [bne_iff_ne];omega
  have hd:=hide (Ob.eqL_len (eq:=eq) A B hne)
  clear hne
  go_enter Tryz.func171,Tryz.ntmps171
  go_wp2_with fail
  go_ret
  exact ⟨aA1 hd.out.symm,Below.refl _ _⟩
theorem aXh (eq:RlV→RlV→Bool) (g:Nat) (va vb:Value) (A B:List RlV) (w:World) (ha:Sl ERl w va A) (hb:Sl ERl w vb B) (ent:∀ (args:Array Value) (w:World),(callFunc g args).run Tryz.prog w=.ok (.enter g args) w)
  (go:∀ x∈A,∀ y∈B,∀ W,Below w.heap.size w W→ERl.A x W→ERl.A y W→Calls Tryz.prog g #[(rlV x),(rlV y)] W fun e w'=>e=.returned (.bool (eq x y))∧Below W.heap.size W w') :
  Calls Tryz.prog 175 #[va,vb,.func (.func g) #[] #[]] w fun e w'=>e=.returned (.bool (Ob.eqL eq A B))∧Below w.heap.size w w':=by
 have hlen:=ha.len
 obtain ⟨a,ca,rfl⟩:=ha.form
 obtain ⟨b,cb,rfl⟩:=hb.form
 have HA:=hide (fun W (hB:Below w.heap.size w W) k (hk:k<A.length)=>aG7 ha hB hk)
 have HB:=hide (fun W (hB:Below w.heap.size w W) k (hk:k<B.length)=>aG7 hb hB hk)
 have GO:=hide go
 clear ha hb go
 by_cases hne:A.length=B.length
 ·have hx:((A.length:Int) != (B.length:Int))=false:=by rw [bne_eq_false_iff_eq];omega
  have HN:=hide hne
  clear hne
  go_enter Tryz.func175,Tryz.ntmps175
  go_wp2_with fail
  go_loopw [17] (fun i wr=>∃ k:Nat,k≤A.length∧i=.int .i64 k∧Hid (∀ j (h1:j<A.length) (h2:j<B.length),j<k→eq A[j] B[j]=true)∧Below w.heap.size w wr) (fun i _=>A.length - (intOf i).toNat)
  case atStart=>exact ⟨0,Nat.zero_le _,rfl,fun j _ _ hj=>absurd hj (by omega),Below.refl _ _⟩
  case round =>
   obtain ⟨k,hk,rfl,htk,hB⟩:=hrel
   by_cases hlt:k<A.length
   ·have hlb:k<B.length:=by rw [←HN.out];exact hlt
    have hlt':(k:Int)<(A.length:Int):=by omega
    have hlb':(k:Int)<(B.length:Int):=by omega
    obtain ⟨hA,g1,off,rfl,hg,c_0,c_1,c_2⟩:=HA.out _ hB k hlt
    obtain ⟨hA2,g2,off2,rfl,hg2,d_0,d_1,d_2⟩:=HB.out _ (hB.alloc hB.size (.cells #[A[k].vm,A[k].vf,A[k].vb] 76)) k hlb
    have HT:Hid (eq A[k] B[k]=true→∀ j (h1:j<A.length) (h2:j<B.length),j<k+1→eq A[j] B[j]=true):=fun h j h1 h2 hj=>by
     rcases Nat.lt_or_ge j k with h3 | h3
     ·exact htk.out j h1 h2 h3
     ·obtain rfl:j=k:=by omega
      exact h
    have HG:Hid (eq A[k] B[k]=false→Ob.eqL eq A B=false):=fun h=>Ob.eqL_not A B k hlt hlb h
    have GO1:=GO.out A[k] (List.getElem_mem hlt) B[k] (List.getElem_mem hlb)
    generalize A[k]=x at *
    generalize B[k]=y at *
    have HM:=hide (fun W (h:Below wr.heap.size wr W) (h2:Below (wr.alloc (.cells #[x.vm,x.vf,x.vb] 76)).heap.size (wr.alloc (.cells #[x.vm,x.vf,x.vb] 76)) W)=>GO1 W (bb2 hB h) (ERl.below _ _ _ hA h) (ERl.below _ _ _ hA2 h2))
    clear hA hA2 GO1
    cases hq:eq x y
    ·have hq2:=hide (HG.out hq)
     rw [hq] at HM
     clear hq HG HT
     obtain ⟨ms0,am0,cm0,fs0,af0,cf0,bs0,ab0,cb0⟩:=x
     obtain ⟨ms1,am1,cm1,fs1,af1,cf1,bs1,ab1,cb1⟩:=y
     try dsimp only at *
     go_wp2_with fail
     refine (HM.out _ (((Below.refl _ _).alloc (Nat.le_refl _) _).alloc (by simp) _) ((Below.refl _ _).alloc (Nat.le_refl _) _)).mono ?_
     rintro e w1 ⟨rfl,hb1⟩
     go_wp2_with fail
     go_ret
     exact ⟨aA1 (by rw [hq2.out]),bb2 hB (aA8 (aA8 hb1))⟩
    ·have hq2:=hide (HT.out hq)
     rw [hq] at HM
     clear hq HG HT
     obtain ⟨ms0,am0,cm0,fs0,af0,cf0,bs0,ab0,cb0⟩:=x
     obtain ⟨ms1,am1,cm1,fs1,af1,cf1,bs1,ab1,cb1⟩:=y
     try dsimp only at *
     go_wp2_with fail
     refine (HM.out _ (((Below.refl _ _).alloc (Nat.le_refl _) _).alloc (by simp) _) ((Below.refl _ _).alloc (Nat.le_refl _) _)).mono ?_
     rintro e w1 ⟨rfl,hb1⟩
     go_wp2_with fail
     exact ⟨⟨k+1,by omega,by go_num,hq2.out,bb2 hB (aA8 (aA8 hb1))⟩,by simp [intOf];omega⟩
   ·have hlt':¬ (k:Int)<(A.length:Int):=by omega
    have hq:Hid (Ob.eqL eq A B=true):=Ob.eqL_yes A B HN.out fun j h1 h2=>htk.out j h1 h2 (by omega)
    go_wp2_with fail
    go_ret
    exact ⟨aA1 (by rw [hq.out]),hB⟩
 ·have hx:((A.length:Int) != (B.length:Int))=true:=by rw [bne_iff_ne];omega
  have hd:=hide (Ob.eqL_len (eq:=eq) A B hne)
  clear hne
  go_enter Tryz.func175,Tryz.ntmps175
  go_wp2_with fail
  go_ret
  exact ⟨aA1 hd.out.symm,Below.refl _ _⟩
theorem eqfM (eq:MV→MV→Bool) (g:Nat) (va vb:Value) (A B:List MV) (w:World) (ha:Sl EM w va A) (hb:Sl EM w vb B) (ent:∀ (args:Array Value) (w:World),(callFunc g args).run Tryz.prog w=.ok (.enter g args) w)
  (go:∀ x∈A,∀ y∈B,∀ W,Below w.heap.size w W→EM.A x W→EM.A y W→Calls Tryz.prog g #[(mV x.m x.vh x.vq),(mV y.m y.vh y.vq)] W fun e w'=>e=.returned (.bool (eq x y))∧Below W.heap.size W w') :
  Calls Tryz.prog 202 #[va,vb,.func (.func g) #[] #[]] w fun e w'=>e=.returned (.bool (Ob.eqL eq A B))∧Below w.heap.size w w':=by
 have hlen:=ha.len
 obtain ⟨a,ca,rfl⟩:=ha.form
 obtain ⟨b,cb,rfl⟩:=hb.form
 have HA:=hide (fun W (hB:Below w.heap.size w W) k (hk:k<A.length)=>oneM ha hB hk)
 have HB:=hide (fun W (hB:Below w.heap.size w W) k (hk:k<B.length)=>oneM hb hB hk)
 have GO:=hide go
 clear ha hb go
 by_cases hne:A.length=B.length
 ·have hx:((A.length:Int) != (B.length:Int))=false:=by rw [bne_eq_false_iff_eq];omega
  have HN:=hide hne
  clear hne
  go_enter Tryz.func202,Tryz.ntmps202
  go_wp2_with fail
  go_loopw [17] (fun i wr=>∃ k:Nat,k≤A.length∧i=.int .i64 k∧Hid (∀ j (h1:j<A.length) (h2:j<B.length),j<k→eq A[j] B[j]=true)∧Below w.heap.size w wr) (fun i _=>A.length - (intOf i).toNat)
  case atStart=>exact ⟨0,Nat.zero_le _,rfl,fun j _ _ hj=>absurd hj (by omega),Below.refl _ _⟩
  case round =>
   obtain ⟨k,hk,rfl,htk,hB⟩:=hrel
   by_cases hlt:k<A.length
   ·have hlb:k<B.length:=by rw [←HN.out];exact hlt
    have hlt':(k:Int)<(A.length:Int):=by omega
    have hlb':(k:Int)<(B.length:Int):=by omega
    obtain ⟨hA,g1,off,rfl,hg,c_0,c_1,c_2,c_3,c_4⟩:=HA.out _ hB k hlt
    obtain ⟨hA2,g2,off2,rfl,hg2,d_0,d_1,d_2,d_3,d_4⟩:=HB.out _ (hB.alloc hB.size (.cells #[.int .i64 A[k].m.kind,.string A[k].m.val,.string A[k].m.meth,A[k].vh,A[k].vq] 88)) k hlb
    have HT:Hid (eq A[k] B[k]=true→∀ j (h1:j<A.length) (h2:j<B.length),j<k+1→eq A[j] B[j]=true):=fun h j h1 h2 hj=>by
     rcases Nat.lt_or_ge j k with h3 | h3
     ·exact htk.out j h1 h2 h3
     ·obtain rfl:j=k:=by omega
      exact h
    have HG:Hid (eq A[k] B[k]=false→Ob.eqL eq A B=false):=fun h=>Ob.eqL_not A B k hlt hlb h
    have GO1:=GO.out A[k] (List.getElem_mem hlt) B[k] (List.getElem_mem hlb)
    generalize A[k]=x at *
    generalize B[k]=y at *
    have HM:=hide (fun W (h:Below wr.heap.size wr W) (h2:Below (wr.alloc (.cells #[.int .i64 x.m.kind,.string x.m.val,.string x.m.meth,x.vh,x.vq] 88)).heap.size (wr.alloc (.cells #[.int .i64 x.m.kind,.string x.m.val,.string x.m.meth,x.vh,x.vq] 88)) W)=>GO1 W (bb2 hB h) (EM.below _ _ _ hA h) (EM.below _ _ _ hA2 h2))
    clear hA hA2 GO1
    cases hq:eq x y
    ·have hq2:=hide (HG.out hq)
     rw [hq] at HM
     clear hq HG HT
     obtain ⟨⟨k0,v0,m0,hd0,qu0⟩,ah0,ch0,aq0,cq0⟩:=x
     obtain ⟨⟨k1,v1,m1,hd1,qu1⟩,ah1,ch1,aq1,cq1⟩:=y
     try dsimp only at *
     go_wp2_with fail
     refine (HM.out _ (((Below.refl _ _).alloc (Nat.le_refl _) _).alloc (by simp) _) ((Below.refl _ _).alloc (Nat.le_refl _) _)).mono ?_
     rintro e w1 ⟨rfl,hb1⟩
     go_wp2_with fail
     go_ret
     exact ⟨aA1 (by rw [hq2.out]),bb2 hB (aA8 (aA8 hb1))⟩
    ·have hq2:=hide (HT.out hq)
     rw [hq] at HM
     clear hq HG HT
     obtain ⟨⟨k0,v0,m0,hd0,qu0⟩,ah0,ch0,aq0,cq0⟩:=x
     obtain ⟨⟨k1,v1,m1,hd1,qu1⟩,ah1,ch1,aq1,cq1⟩:=y
     try dsimp only at *
     go_wp2_with fail
     refine (HM.out _ (((Below.refl _ _).alloc (Nat.le_refl _) _).alloc (by simp) _) ((Below.refl _ _).alloc (Nat.le_refl _) _)).mono ?_
     rintro e w1 ⟨rfl,hb1⟩
     go_wp2_with fail
     exact ⟨⟨k+1,by omega,by go_num,hq2.out,bb2 hB (aA8 (aA8 hb1))⟩,by simp [intOf];omega⟩
   ·have hlt':¬ (k:Int)<(A.length:Int):=by omega
    have hq:Hid (Ob.eqL eq A B=true):=Ob.eqL_yes A B HN.out fun j h1 h2=>htk.out j h1 h2 (by omega)
    go_wp2_with fail
    go_ret
    exact ⟨aA1 (by rw [hq.out]),hB⟩
 ·have hx:((A.length:Int) != (B.length:Int))=true:=by rw [bne_iff_ne];omega
  have hd:=hide (Ob.eqL_len (eq:=eq) A B hne)
  clear hne
  go_enter Tryz.func202,Tryz.ntmps202
  go_wp2_with fail
  go_ret
  exact ⟨aA1 hd.out.symm,Below.refl _ _⟩
end Go.Proofs.YthnodpdiocppgaaGreatDoor
namespace Go.Proofs.YthnodpdiocppgaaGreatDoor
open Go Go.RowKit Go.Shelf
theorem aXi (P:Int→Bool) (b bx:Nat) (v:Value) (l:List Int) (w:World) (hv:Sl EI w v l) (go:∀ x∈l,∀ W,Below w.heap.size w W→EI.A x W→Calls Tryz.prog 138 #[(.int .i64 x),.pointer (some ⟨b,0,none⟩),.pointer (some ⟨bx,0,none⟩)] W fun e w'=>e=.returned (.bool (P x))∧Below W.heap.size W w') :
  Calls Tryz.prog 178 #[v,.func (.func 138) #[] #[.pointer (some ⟨b,0,none⟩),.pointer (some ⟨bx,0,none⟩)]] w fun e w'=>e=.returned (.int .i64 (idxG P l))∧Below w.heap.size w w':=by
 have hlen:=hv.len
 obtain ⟨a,cap,rfl⟩:=hv.form
 have HC:=hide (fun W (hB:Below w.heap.size w W) k (hk:k<l.length)=>oneI hv hB hk)
 have GO:=hide go
 clear hv go
 have ent:∀ (args:Array Value) (w:World),(callFunc 138 args).run Tryz.prog w=.ok (.enter 138 args) w:=fun args w=>aAd Tryz.func138 (by kernel_rfl) rfl args w
 go_enter Tryz.func178,Tryz.ntmps178
 go_wp2_with fail
 go_loopw [8] (fun i wr=>∃ k:Nat,k≤l.length∧i=.int .i64 k∧Hid (∀ j (h:j<l.length),j<k→P l[j]=false)∧Below w.heap.size w wr) (fun i _=>l.length - (intOf i).toNat)
 case atStart=>exact ⟨0,Nat.zero_le _,rfl,fun j h hj=>absurd hj (by omega),Below.refl _ _⟩
 case round =>
  obtain ⟨k,hk,rfl,hno,hB⟩:=hrel
  by_cases hlt:k<l.length
  ·have hlt':(k:Int)<(l.length:Int):=by omega
   obtain ⟨hA,gg,off,rfl,hgg,c0⟩:=HC.out _ hB k hlt
   have C1:=hide (GO.out l[k] (List.getElem_mem hlt) wr hB hA)
   clear hA
   cases hs:P l[k]
   ·have HN:Hid (∀ j (h:j<l.length),j<k+1→P l[j]=false):=fun j h hj=>by
     rcases Nat.lt_or_ge j k with h1 | h1
     ·exact hno.out j h h1
     ·obtain rfl:j=k:=by omega
      exact hs
    rw [hs] at C1
    clear hs
    generalize l[k]=fk at *
    try dsimp only at *
    go_wp2_with fail
    refine (C1.out).mono ?_
    rintro e w1 ⟨rfl,hb1⟩
    go_wp2_with fail
    exact ⟨⟨k+1,by omega,by go_num,HN.out,bb2 hB hb1⟩,by simp [intOf];omega⟩
   ·have HI:Hid ((k:Int)=idxG P l):=(aBw hlt hno.out hs).symm
    rw [hs] at C1
    clear hs
    generalize l[k]=fk at *
    try dsimp only at *
    go_wp2_with fail
    refine (C1.out).mono ?_
    rintro e w1 ⟨rfl,hb1⟩
    go_wp2_with fail
    go_ret
    exact ⟨aAp HI.out,bb2 hB hb1⟩
  ·have hlt':¬ (k:Int)<(l.length:Int):=by omega
   have HI:Hid (-1=idxG P l):=(aC6 (fun j h=>hno.out j h (by omega))).symm
   go_wp2_with fail
   go_ret
   exact ⟨aAp HI.out,hB⟩
theorem aXj (P:Int→Bool) (b bx:Nat) (v:Value) (l:List Int) (w:World) (hv:Sl EI w v l) (go:∀ x∈l,∀ W,Below w.heap.size w W→EI.A x W→Calls Tryz.prog 138 #[(.int .i64 x),.pointer (some ⟨b,0,none⟩),.pointer (some ⟨bx,0,none⟩)] W fun e w'=>e=.returned (.bool (P x))∧Below W.heap.size W w') :
  Calls Tryz.prog 135 #[v,.func (.func 138) #[] #[.pointer (some ⟨b,0,none⟩),.pointer (some ⟨bx,0,none⟩)]] w fun e w'=>e=.returned (.bool (l.any P))∧Below w.heap.size w w':=by
 have C1:=hide (aXi P b bx v l w hv go)
 have HE:=hide (aC7 P l)
 clear hv go
 go_enter Tryz.func135,Tryz.ntmps135
 go_wp2_with fail
 refine (C1.out).mono ?_
 rintro e w1 ⟨rfl,hb1⟩
 go_wp2_with fail
 go_ret
 exact ⟨aA1 HE.out,hb1⟩
theorem dclI (same:Int→Int→Bool) (g b bx:Nat) (x y:Int) (w:World) (ent:∀ (args:Array Value) (w:World),(callFunc g args).run Tryz.prog w=.ok (.enter g args) w) (_:b<w.heap.size) (hc:w.cell? ⟨b,0,none⟩=some (.func (.func g) #[] #[])) (_:bx<w.heap.size) (hx:EI.At w bx 0 x)
  (go:∀ W,Below w.heap.size w W→Calls Tryz.prog g #[(.int .i64 x),(.int .i64 y)] W fun e w'=>e=.returned (.bool (same x y))∧Below W.heap.size W w') :
  Calls Tryz.prog 138 #[(.int .i64 y),.pointer (some ⟨b,0,none⟩),.pointer (some ⟨bx,0,none⟩)] w fun e w'=>e=.returned (.bool (same x y))∧Below w.heap.size w w':=by
 have c0:=aTt hx
 have GO:=hide (go _ (Below.refl w.heap.size w))
 clear go hx
 generalize same x y=r at *
 go_enter Tryz.func138,Tryz.ntmps138
 go_wp2_with fail
 refine (GO.out).mono ?_
 rintro e w1 ⟨rfl,hb1⟩
 go_wp2_with fail
 go_ret
 exact ⟨rfl,hb1⟩
theorem difI (same:Int→Int→Bool) (g:Nat) (v:Value) (l:List Int) (w:World) (hv:Sl EI w v l) (ent:∀ (args:Array Value) (w:World),(callFunc g args).run Tryz.prog w=.ok (.enter g args) w)
  (go:∀ x∈l,∀ y∈l,∀ W,Below w.heap.size w W→Calls Tryz.prog g #[(.int .i64 x),(.int .i64 y)] W fun e w'=>e=.returned (.bool (same x y))∧Below W.heap.size W w') :
  Calls Tryz.prog 106 #[v,.func (.func g) #[] #[]] w fun e w'=>e=.returned (.bool (Ob.dif same l))∧Below w.heap.size w w':=by
 have hlen:=hv.len
 have hmf:∀ (fn:Fn) (first cap:Array Value) (w:World),(Instr.makeFunc fn first cap).run Tryz.prog w=.ok (.func fn first cap) w:=fun _ _ _ _=>rfl
 have B1:Below w.heap.size w (w.alloc (.cells #[.func (.func g) #[] #[]] 138)):=(Below.refl _ w).alloc (Nat.le_refl _) _
 have HF:Hid (∀ W,Below (w.alloc (.cells #[.func (.func g) #[] #[]] 138)).heap.size (w.alloc (.cells #[.func (.func g) #[] #[]] 138)) W→w.heap.size<W.heap.size∧W.cell? ⟨w.heap.size,0,none⟩=some (.func (.func g) #[] #[])):=fun W hW=>⟨by have:=hW.size;simp at this;omega,(hW.cell (p:=⟨w.heap.size,0,none⟩) (by simp)).trans (aA0 (aA7 w _) rfl)⟩
 have HV:=hide (hv.below B1)
 have GO:=hide go
 have HB1:=hide B1
 obtain ⟨a,cap,rfl,hcap,hmax,_⟩:=hv
 have HC:=hide (fun W (hB:Below (w.alloc (.cells #[.func (.func g) #[] #[]] 138)).heap.size (w.alloc (.cells #[.func (.func g) #[] #[]] 138)) W) k (hk:k<l.length)=>oneI HV.out hB hk)
 clear go B1
 have hcap':(l.length:Int)≤(cap:Int):=by omega
 go_enter Tryz.func106,Tryz.ntmps106
 go_wp2_with fail
 go_loopw [9] (fun i wr=>∃ k:Nat,k≤l.length∧i=.int .i64 k∧Hid (∀ j (hj:j<l.length),j<k→(l.take j).any (same l[j])=false)∧Below (w.alloc (.cells #[.func (.func g) #[] #[]] 138)).heap.size (w.alloc (.cells #[.func (.func g) #[] #[]] 138)) wr) (fun i _=>l.length - (intOf i).toNat)
 case atStart=>exact ⟨0,Nat.zero_le _,rfl,fun j h hj=>absurd hj (by omega),Below.refl _ _⟩
 case round =>
  obtain ⟨k,hk,rfl,hno,hB⟩:=hrel
  by_cases hlt:k<l.length
  ·have hlt':(k:Int)<(l.length:Int):=by omega
   have hkc:(k:Int)≤(cap:Int):=by omega
   obtain ⟨_,gg,off,rfl,hgg,c0⟩:=HC.out _ hB k hlt
   have B2:Below wr.heap.size wr (wr.alloc (.cells #[.int .i64 l[k]] 3)):=(Below.refl _ wr).alloc (Nat.le_refl _) _
   have C2:=hide (aXj (same l[k]) w.heap.size wr.heap.size (.slice (some ⟨gg,off,none⟩) k cap) (l.take k) (wr.alloc (.cells #[.int .i64 l[k]] 3)) ((HV.out.pre (k:=k) (by omega)).below (bb2 hB B2)) fun y hy W hW hAy =>
    dclI same g w.heap.size wr.heap.size l[k] y W ent (HF.out W (bb2 (bb2 hB B2) hW)).1 (HF.out W (bb2 (bb2 hB B2) hW)).2 (by have:=hW.size;simp at this;omega) (boxI hW) fun W2 h2=>GO.out l[k] (List.getElem_mem hlt) y (List.mem_of_mem_take hy) W2 (bb2 HB1.out (bb2 (bb2 (bb2 hB B2) hW) h2)))
   have HY:Hid ((l.take k).any (same l[k])=false→∀ j (hj:j<l.length),j<k+1→(l.take j).any (same l[j])=false):=fun h2 j h hj=>by
    rcases Nat.lt_or_ge j k with h3 | h3
    ·exact hno.out j h h3
    ·obtain rfl:j=k:=by omega
     exact h2
   have HN:=hide (fun h=>Ob.dif_not (same:=same) (l:=l) (k:=k) hlt h)
   have HB2:=hide B2
   clear B2
   generalize (l.take k).any (same l[k])=x2 at *
   generalize l[k]=fk at *
   try dsimp only at *
   cases x2
   ·have HZ:=hide (HY.out rfl)
    clear HN HY
    go_wp2_with fail
    refine (C2.out).mono ?_
    rintro e w1 ⟨rfl,hb1⟩
    go_wp2_with fail
    exact ⟨⟨k+1,by omega,by go_num,HZ.out,bb2 hB (bb2 HB2.out hb1)⟩,by simp [intOf];omega⟩
   ·have HR:Hid (false=Ob.dif same l):=(HN.out rfl).symm
    clear HN HY
    go_wp2_with fail
    refine (C2.out).mono ?_
    rintro e w1 ⟨rfl,hb1⟩
    go_wp2_with fail
    go_ret
    exact ⟨aA1 HR.out,bb2 HB1.out (bb2 hB (bb2 HB2.out hb1))⟩
  ·have hlt':¬ (k:Int)<(l.length:Int):=by omega
   have HR:Hid (true=Ob.dif same l):=(Ob.dif_yes (fun j h=>hno.out j h (by omega))).symm
   go_wp2_with fail
   go_ret
   exact ⟨aA1 HR.out,bb2 HB1.out hB⟩
theorem aXk (P:ByteArray→Bool) (b bx:Nat) (v:Value) (l:List ByteArray) (w:World) (hv:Sl ES w v l) (go:∀ x∈l,∀ W,Below w.heap.size w W→ES.A x W→Calls Tryz.prog 152 #[(.string x),.pointer (some ⟨b,0,none⟩),.pointer (some ⟨bx,0,none⟩)] W fun e w'=>e=.returned (.bool (P x))∧Below W.heap.size W w') :
  Calls Tryz.prog 184 #[v,.func (.func 152) #[] #[.pointer (some ⟨b,0,none⟩),.pointer (some ⟨bx,0,none⟩)]] w fun e w'=>e=.returned (.int .i64 (idxG P l))∧Below w.heap.size w w':=by
 have hlen:=hv.len
 obtain ⟨a,cap,rfl⟩:=hv.form
 have HC:=hide (fun W (hB:Below w.heap.size w W) k (hk:k<l.length)=>oneS hv hB hk)
 have GO:=hide go
 clear hv go
 have ent:∀ (args:Array Value) (w:World),(callFunc 152 args).run Tryz.prog w=.ok (.enter 152 args) w:=fun args w=>aAd Tryz.func152 (by kernel_rfl) rfl args w
 go_enter Tryz.func184,Tryz.ntmps184
 go_wp2_with fail
 go_loopw [8] (fun i wr=>∃ k:Nat,k≤l.length∧i=.int .i64 k∧Hid (∀ j (h:j<l.length),j<k→P l[j]=false)∧Below w.heap.size w wr) (fun i _=>l.length - (intOf i).toNat)
 case atStart=>exact ⟨0,Nat.zero_le _,rfl,fun j h hj=>absurd hj (by omega),Below.refl _ _⟩
 case round =>
  obtain ⟨k,hk,rfl,hno,hB⟩:=hrel
  by_cases hlt:k<l.length
  ·have hlt':(k:Int)<(l.length:Int):=by omega
   obtain ⟨hA,gg,off,rfl,hgg,c0⟩:=HC.out _ hB k hlt
   have C1:=hide (GO.out l[k] (List.getElem_mem hlt) wr hB hA)
   clear hA
   cases hs:P l[k]
   ·have HN:Hid (∀ j (h:j<l.length),j<k+1→P l[j]=false):=fun j h hj=>by
     rcases Nat.lt_or_ge j k with h1 | h1
     ·exact hno.out j h h1
     ·obtain rfl:j=k:=by omega
      exact hs
    rw [hs] at C1
    clear hs
    generalize l[k]=fk at *
    try dsimp only at *
    go_wp2_with fail
    refine (C1.out).mono ?_
    rintro e w1 ⟨rfl,hb1⟩
    go_wp2_with fail
    exact ⟨⟨k+1,by omega,by go_num,HN.out,bb2 hB hb1⟩,by simp [intOf];omega⟩
   ·have HI:Hid ((k:Int)=idxG P l):=(aBw hlt hno.out hs).symm
    rw [hs] at C1
    clear hs
    generalize l[k]=fk at *
    try dsimp only at *
    go_wp2_with fail
    refine (C1.out).mono ?_
    rintro e w1 ⟨rfl,hb1⟩
    go_wp2_with fail
    go_ret
    exact ⟨aAp HI.out,bb2 hB hb1⟩
  ·have hlt':¬ (k:Int)<(l.length:Int):=by omega
   have HI:Hid (-1=idxG P l):=(aC6 (fun j h=>hno.out j h (by omega))).symm
   go_wp2_with fail
   go_ret
   exact ⟨aAp HI.out,hB⟩
theorem aXl (P:ByteArray→Bool) (b bx:Nat) (v:Value) (l:List ByteArray) (w:World) (hv:Sl ES w v l) (go:∀ x∈l,∀ W,Below w.heap.size w W→ES.A x W→Calls Tryz.prog 152 #[(.string x),.pointer (some ⟨b,0,none⟩),.pointer (some ⟨bx,0,none⟩)] W fun e w'=>e=.returned (.bool (P x))∧Below W.heap.size W w') :
  Calls Tryz.prog 150 #[v,.func (.func 152) #[] #[.pointer (some ⟨b,0,none⟩),.pointer (some ⟨bx,0,none⟩)]] w fun e w'=>e=.returned (.bool (l.any P))∧Below w.heap.size w w':=by
 have C1:=hide (aXk P b bx v l w hv go)
 have HE:=hide (aC7 P l)
 clear hv go
 go_enter Tryz.func150,Tryz.ntmps150
 go_wp2_with fail
 refine (C1.out).mono ?_
 rintro e w1 ⟨rfl,hb1⟩
 go_wp2_with fail
 go_ret
 exact ⟨aA1 HE.out,hb1⟩
theorem dclS (same:ByteArray→ByteArray→Bool) (g b bx:Nat) (x y:ByteArray) (w:World) (ent:∀ (args:Array Value) (w:World),(callFunc g args).run Tryz.prog w=.ok (.enter g args) w) (_:b<w.heap.size) (hc:w.cell? ⟨b,0,none⟩=some (.func (.func g) #[] #[])) (_:bx<w.heap.size) (hx:ES.At w bx 0 x)
  (go:∀ W,Below w.heap.size w W→Calls Tryz.prog g #[(.string x),(.string y)] W fun e w'=>e=.returned (.bool (same x y))∧Below W.heap.size W w') :
  Calls Tryz.prog 152 #[(.string y),.pointer (some ⟨b,0,none⟩),.pointer (some ⟨bx,0,none⟩)] w fun e w'=>e=.returned (.bool (same x y))∧Below w.heap.size w w':=by
 have c0:=aEf hx
 have GO:=hide (go _ (Below.refl w.heap.size w))
 clear go hx
 generalize same x y=r at *
 go_enter Tryz.func152,Tryz.ntmps152
 go_wp2_with fail
 refine (GO.out).mono ?_
 rintro e w1 ⟨rfl,hb1⟩
 go_wp2_with fail
 go_ret
 exact ⟨rfl,hb1⟩
theorem difS (same:ByteArray→ByteArray→Bool) (g:Nat) (v:Value) (l:List ByteArray) (w:World) (hv:Sl ES w v l) (ent:∀ (args:Array Value) (w:World),(callFunc g args).run Tryz.prog w=.ok (.enter g args) w)
  (go:∀ x∈l,∀ y∈l,∀ W,Below w.heap.size w W→Calls Tryz.prog g #[(.string x),(.string y)] W fun e w'=>e=.returned (.bool (same x y))∧Below W.heap.size W w') :
  Calls Tryz.prog 118 #[v,.func (.func g) #[] #[]] w fun e w'=>e=.returned (.bool (Ob.dif same l))∧Below w.heap.size w w':=by
 have hlen:=hv.len
 have hmf:∀ (fn:Fn) (first cap:Array Value) (w:World),(Instr.makeFunc fn first cap).run Tryz.prog w=.ok (.func fn first cap) w:=fun _ _ _ _=>rfl
 have B1:Below w.heap.size w (w.alloc (.cells #[.func (.func g) #[] #[]] 149)):=(Below.refl _ w).alloc (Nat.le_refl _) _
 have HF:Hid (∀ W,Below (w.alloc (.cells #[.func (.func g) #[] #[]] 149)).heap.size (w.alloc (.cells #[.func (.func g) #[] #[]] 149)) W→w.heap.size<W.heap.size∧W.cell? ⟨w.heap.size,0,none⟩=some (.func (.func g) #[] #[])):=fun W hW=>⟨by have:=hW.size;simp at this;omega,(hW.cell (p:=⟨w.heap.size,0,none⟩) (by simp)).trans (aA0 (aA7 w _) rfl)⟩
 have HV:=hide (hv.below B1)
 have GO:=hide go
 have HB1:=hide B1
 obtain ⟨a,cap,rfl,hcap,hmax,_⟩:=hv
 have HC:=hide (fun W (hB:Below (w.alloc (.cells #[.func (.func g) #[] #[]] 149)).heap.size (w.alloc (.cells #[.func (.func g) #[] #[]] 149)) W) k (hk:k<l.length)=>oneS HV.out hB hk)
 clear go B1
 have hcap':(l.length:Int)≤(cap:Int):=by omega
 go_enter Tryz.func118,Tryz.ntmps118
 go_wp2_with fail
 go_loopw [9] (fun i wr=>∃ k:Nat,k≤l.length∧i=.int .i64 k∧Hid (∀ j (hj:j<l.length),j<k→(l.take j).any (same l[j])=false)∧Below (w.alloc (.cells #[.func (.func g) #[] #[]] 149)).heap.size (w.alloc (.cells #[.func (.func g) #[] #[]] 149)) wr) (fun i _=>l.length - (intOf i).toNat)
 case atStart=>exact ⟨0,Nat.zero_le _,rfl,fun j h hj=>absurd hj (by omega),Below.refl _ _⟩
 case round =>
  obtain ⟨k,hk,rfl,hno,hB⟩:=hrel
  by_cases hlt:k<l.length
  ·have hlt':(k:Int)<(l.length:Int):=by omega
   have hkc:(k:Int)≤(cap:Int):=by omega
   obtain ⟨_,gg,off,rfl,hgg,c0⟩:=HC.out _ hB k hlt
   have B2:Below wr.heap.size wr (wr.alloc (.cells #[.string l[k]] 9)):=(Below.refl _ wr).alloc (Nat.le_refl _) _
   have C2:=hide (aXl (same l[k]) w.heap.size wr.heap.size (.slice (some ⟨gg,off,none⟩) k cap) (l.take k) (wr.alloc (.cells #[.string l[k]] 9)) ((HV.out.pre (k:=k) (by omega)).below (bb2 hB B2)) fun y hy W hW hAy =>
    dclS same g w.heap.size wr.heap.size l[k] y W ent (HF.out W (bb2 (bb2 hB B2) hW)).1 (HF.out W (bb2 (bb2 hB B2) hW)).2 (by have:=hW.size;simp at this;omega) (boxS hW) fun W2 h2=>GO.out l[k] (List.getElem_mem hlt) y (List.mem_of_mem_take hy) W2 (bb2 HB1.out (bb2 (bb2 (bb2 hB B2) hW) h2)))
   have HY:Hid ((l.take k).any (same l[k])=false→∀ j (hj:j<l.length),j<k+1→(l.take j).any (same l[j])=false):=fun h2 j h hj=>by
    rcases Nat.lt_or_ge j k with h3 | h3
    ·exact hno.out j h h3
    ·obtain rfl:j=k:=by omega
     exact h2
   have HN:=hide (fun h=>Ob.dif_not (same:=same) (l:=l) (k:=k) hlt h)
   have HB2:=hide B2
   clear B2
   generalize (l.take k).any (same l[k])=x2 at *
   generalize l[k]=fk at *
   try dsimp only at *
   cases x2
   ·have HZ:=hide (HY.out rfl)
    clear HN HY
    go_wp2_with fail
    refine (C2.out).mono ?_
    rintro e w1 ⟨rfl,hb1⟩
    go_wp2_with fail
    exact ⟨⟨k+1,by omega,by go_num,HZ.out,bb2 hB (bb2 HB2.out hb1)⟩,by simp [intOf];omega⟩
   ·have HR:Hid (false=Ob.dif same l):=(HN.out rfl).symm
    clear HN HY
    go_wp2_with fail
    refine (C2.out).mono ?_
    rintro e w1 ⟨rfl,hb1⟩
    go_wp2_with fail
    go_ret
    exact ⟨aA1 HR.out,bb2 HB1.out (bb2 hB (bb2 HB2.out hb1))⟩
  ·have hlt':¬ (k:Int)<(l.length:Int):=by omega
   have HR:Hid (true=Ob.dif same l):=(Ob.dif_yes (fun j h=>hno.out j h (by omega))).symm
   go_wp2_with fail
   go_ret
   exact ⟨aA1 HR.out,bb2 HB1.out hB⟩
theorem aVy (P:PtB→Bool) (b bx:Nat) (v:Value) (l:List PtB) (w:World) (hv:Sl EPt w v l) (go:∀ x∈l,∀ W,Below w.heap.size w W→EPt.A x W→Calls Tryz.prog 149 #[(ptV x),.pointer (some ⟨b,0,none⟩),.pointer (some ⟨bx,0,none⟩)] W fun e w'=>e=.returned (.bool (P x))∧Below W.heap.size W w') :
  Calls Tryz.prog 183 #[v,.func (.func 149) #[] #[.pointer (some ⟨b,0,none⟩),.pointer (some ⟨bx,0,none⟩)]] w fun e w'=>e=.returned (.int .i64 (idxG P l))∧Below w.heap.size w w':=by
 have hlen:=hv.len
 obtain ⟨a,cap,rfl⟩:=hv.form
 have HC:=hide (fun W (hB:Below w.heap.size w W) k (hk:k<l.length)=>aDs hv hB hk)
 have GO:=hide go
 clear hv go
 have ent:∀ (args:Array Value) (w:World),(callFunc 149 args).run Tryz.prog w=.ok (.enter 149 args) w:=fun args w=>aAd Tryz.func149 (by kernel_rfl) rfl args w
 go_enter Tryz.func183,Tryz.ntmps183
 go_wp2_with fail
 go_loopw [8] (fun i wr=>∃ k:Nat,k≤l.length∧i=.int .i64 k∧Hid (∀ j (h:j<l.length),j<k→P l[j]=false)∧Below w.heap.size w wr) (fun i _=>l.length - (intOf i).toNat)
 case atStart=>exact ⟨0,Nat.zero_le _,rfl,fun j h hj=>absurd hj (by omega),Below.refl _ _⟩
 case round =>
  obtain ⟨k,hk,rfl,hno,hB⟩:=hrel
  by_cases hlt:k<l.length
  ·have hlt':(k:Int)<(l.length:Int):=by omega
   obtain ⟨hA,gg,off,rfl,hgg,c0,c1,c2,c3⟩:=HC.out _ hB k hlt
   have C1:=hide (GO.out l[k] (List.getElem_mem hlt) wr hB hA)
   clear hA
   cases hs:P l[k]
   ·have HN:Hid (∀ j (h:j<l.length),j<k+1→P l[j]=false):=fun j h hj=>by
     rcases Nat.lt_or_ge j k with h1 | h1
     ·exact hno.out j h h1
     ·obtain rfl:j=k:=by omega
      exact hs
    rw [hs] at C1
    clear hs
    generalize l[k]=fk at *
    obtain ⟨s0,n0,t0,p0⟩:=fk
    try dsimp only at *
    go_wp2_with fail
    refine (C1.out).mono ?_
    rintro e w1 ⟨rfl,hb1⟩
    go_wp2_with fail
    exact ⟨⟨k+1,by omega,by go_num,HN.out,bb2 hB hb1⟩,by simp [intOf];omega⟩
   ·have HI:Hid ((k:Int)=idxG P l):=(aBw hlt hno.out hs).symm
    rw [hs] at C1
    clear hs
    generalize l[k]=fk at *
    obtain ⟨s0,n0,t0,p0⟩:=fk
    try dsimp only at *
    go_wp2_with fail
    refine (C1.out).mono ?_
    rintro e w1 ⟨rfl,hb1⟩
    go_wp2_with fail
    go_ret
    exact ⟨aAp HI.out,bb2 hB hb1⟩
  ·have hlt':¬ (k:Int)<(l.length:Int):=by omega
   have HI:Hid (-1=idxG P l):=(aC6 (fun j h=>hno.out j h (by omega))).symm
   go_wp2_with fail
   go_ret
   exact ⟨aAp HI.out,hB⟩
theorem aVz (P:PtB→Bool) (b bx:Nat) (v:Value) (l:List PtB) (w:World) (hv:Sl EPt w v l) (go:∀ x∈l,∀ W,Below w.heap.size w W→EPt.A x W→Calls Tryz.prog 149 #[(ptV x),.pointer (some ⟨b,0,none⟩),.pointer (some ⟨bx,0,none⟩)] W fun e w'=>e=.returned (.bool (P x))∧Below W.heap.size W w') :
  Calls Tryz.prog 145 #[v,.func (.func 149) #[] #[.pointer (some ⟨b,0,none⟩),.pointer (some ⟨bx,0,none⟩)]] w fun e w'=>e=.returned (.bool (l.any P))∧Below w.heap.size w w':=by
 have C1:=hide (aVy P b bx v l w hv go)
 have HE:=hide (aC7 P l)
 clear hv go
 go_enter Tryz.func145,Tryz.ntmps145
 go_wp2_with fail
 refine (C1.out).mono ?_
 rintro e w1 ⟨rfl,hb1⟩
 go_wp2_with fail
 go_ret
 exact ⟨aA1 HE.out,hb1⟩
theorem aXm (same:PtB→PtB→Bool) (g b bx:Nat) (x y:PtB) (w:World) (ent:∀ (args:Array Value) (w:World),(callFunc g args).run Tryz.prog w=.ok (.enter g args) w) (hb:b<w.heap.size) (hc:w.cell? ⟨b,0,none⟩=some (.func (.func g) #[] #[])) (hbx:bx<w.heap.size) (hx:EPt.At w bx 0 x)
  (go:∀ W,Below w.heap.size w W→Calls Tryz.prog g #[(ptV x),(ptV y)] W fun e w'=>e=.returned (.bool (same x y))∧Below W.heap.size W w') :
  Calls Tryz.prog 149 #[(ptV y),.pointer (some ⟨b,0,none⟩),.pointer (some ⟨bx,0,none⟩)] w fun e w'=>e=.returned (.bool (same x y))∧Below w.heap.size w w':=by
 have B1:=(Below.refl w.heap.size w).alloc (Nat.le_refl _) (.cells (EPt.cells y).toArray 70)
 have hc':=B1.cell (p:=⟨b,0,none⟩) hb
 rw [hc] at hc'
 obtain ⟨c0,c1,c2,c3⟩:=aFp (hx.below hbx B1)
 have GO:=hide (go _ B1)
 clear go hc hx B1
 generalize same x y=r at *
 obtain ⟨s1,n1,t1,p1⟩:=x
 obtain ⟨s0,n0,t0,p0⟩:=y
 simp only [EPt,aEp,Nat.zero_add] at hc' GO c0 c1 c2 c3
 try dsimp only at hc' GO c0 c1 c2 c3
 go_enter Tryz.func149,Tryz.ntmps149
 go_wp2_with fail
 refine (GO.out).mono ?_
 rintro e w1 ⟨rfl,hb1⟩
 go_wp2_with fail
 go_ret
 exact ⟨rfl,aA8 hb1⟩
theorem aXn (same:PtB→PtB→Bool) (g:Nat) (v:Value) (l:List PtB) (w:World) (hv:Sl EPt w v l) (ent:∀ (args:Array Value) (w:World),(callFunc g args).run Tryz.prog w=.ok (.enter g args) w)
  (go:∀ x∈l,∀ y∈l,∀ W,Below w.heap.size w W→Calls Tryz.prog g #[(ptV x),(ptV y)] W fun e w'=>e=.returned (.bool (same x y))∧Below W.heap.size W w') :
  Calls Tryz.prog 114 #[v,.func (.func g) #[] #[]] w fun e w'=>e=.returned (.bool (Ob.dif same l))∧Below w.heap.size w w':=by
 have hlen:=hv.len
 have hmf:∀ (fn:Fn) (first cap:Array Value) (w:World),(Instr.makeFunc fn first cap).run Tryz.prog w=.ok (.func fn first cap) w:=fun _ _ _ _=>rfl
 have B1:Below w.heap.size w (w.alloc (.cells #[.func (.func g) #[] #[]] 146)):=(Below.refl _ w).alloc (Nat.le_refl _) _
 have HF:Hid (∀ W,Below (w.alloc (.cells #[.func (.func g) #[] #[]] 146)).heap.size (w.alloc (.cells #[.func (.func g) #[] #[]] 146)) W→w.heap.size<W.heap.size∧W.cell? ⟨w.heap.size,0,none⟩=some (.func (.func g) #[] #[])):=fun W hW=>⟨by have:=hW.size;simp at this;omega,(hW.cell (p:=⟨w.heap.size,0,none⟩) (by simp)).trans (aA0 (aA7 w _) rfl)⟩
 have HV:=hide (hv.below B1)
 have GO:=hide go
 have HB1:=hide B1
 obtain ⟨a,cap,rfl,hcap,hmax,_⟩:=hv
 have HC:=hide (fun W (hB:Below (w.alloc (.cells #[.func (.func g) #[] #[]] 146)).heap.size (w.alloc (.cells #[.func (.func g) #[] #[]] 146)) W) k (hk:k<l.length)=>aDs HV.out hB hk)
 clear go B1
 have hcap':(l.length:Int)≤(cap:Int):=by omega
 go_enter Tryz.func114,Tryz.ntmps114
 go_wp2_with fail
 go_loopw [9] (fun i wr=>∃ k:Nat,k≤l.length∧i=.int .i64 k∧Hid (∀ j (hj:j<l.length),j<k→(l.take j).any (same l[j])=false)∧Below (w.alloc (.cells #[.func (.func g) #[] #[]] 146)).heap.size (w.alloc (.cells #[.func (.func g) #[] #[]] 146)) wr) (fun i _=>l.length - (intOf i).toNat)
 case atStart=>exact ⟨0,Nat.zero_le _,rfl,fun j h hj=>absurd hj (by omega),Below.refl _ _⟩
 case round =>
  obtain ⟨k,hk,rfl,hno,hB⟩:=hrel
  by_cases hlt:k<l.length
  ·have hlt':(k:Int)<(l.length:Int):=by omega
   have hkc:(k:Int)≤(cap:Int):=by omega
   obtain ⟨_,gg,off,rfl,hgg,c0,c1,c2,c3⟩:=HC.out _ hB k hlt
   have B2:Below wr.heap.size wr (wr.alloc (.cells #[.string l[k].space,.string l[k].name,.string l[k].sect,.int .i64 l[k].port] 70)):=(Below.refl _ wr).alloc (Nat.le_refl _) _
   have C2:=hide (aVz (same l[k]) w.heap.size wr.heap.size (.slice (some ⟨gg,off,none⟩) k cap) (l.take k) (wr.alloc (.cells #[.string l[k].space,.string l[k].name,.string l[k].sect,.int .i64 l[k].port] 70)) ((HV.out.pre (k:=k) (by omega)).below (bb2 hB B2)) fun y hy W hW hAy =>
    aXm same g w.heap.size wr.heap.size l[k] y W ent (HF.out W (bb2 (bb2 hB B2) hW)).1 (HF.out W (bb2 (bb2 hB B2) hW)).2 (by have:=hW.size;simp at this;omega) (aIt hW) fun W2 h2=>GO.out l[k] (List.getElem_mem hlt) y (List.mem_of_mem_take hy) W2 (bb2 HB1.out (bb2 (bb2 (bb2 hB B2) hW) h2)))
   have HY:Hid ((l.take k).any (same l[k])=false→∀ j (hj:j<l.length),j<k+1→(l.take j).any (same l[j])=false):=fun h2 j h hj=>by
    rcases Nat.lt_or_ge j k with h3 | h3
    ·exact hno.out j h h3
    ·obtain rfl:j=k:=by omega
     exact h2
   have HN:=hide (fun h=>Ob.dif_not (same:=same) (l:=l) (k:=k) hlt h)
   have HB2:=hide B2
   clear B2
   generalize (l.take k).any (same l[k])=x2 at *
   generalize l[k]=fk at *
   obtain ⟨s0,n0,t0,p0⟩:=fk
   try dsimp only at *
   cases x2
   ·have HZ:=hide (HY.out rfl)
    clear HN HY
    go_wp2_with fail
    refine (C2.out).mono ?_
    rintro e w1 ⟨rfl,hb1⟩
    go_wp2_with fail
    exact ⟨⟨k+1,by omega,by go_num,HZ.out,bb2 hB (bb2 HB2.out hb1)⟩,by simp [intOf];omega⟩
   ·have HR:Hid (false=Ob.dif same l):=(HN.out rfl).symm
    clear HN HY
    go_wp2_with fail
    refine (C2.out).mono ?_
    rintro e w1 ⟨rfl,hb1⟩
    go_wp2_with fail
    go_ret
    exact ⟨aA1 HR.out,bb2 HB1.out (bb2 hB (bb2 HB2.out hb1))⟩
  ·have hlt':¬ (k:Int)<(l.length:Int):=by omega
   have HR:Hid (true=Ob.dif same l):=(Ob.dif_yes (fun j h=>hno.out j h (by omega))).symm
   go_wp2_with fail
   go_ret
   exact ⟨aA1 HR.out,bb2 HB1.out hB⟩
theorem aW0 (P:LiV→Bool) (b bx:Nat) (v:Value) (l:List LiV) (w:World) (hv:Sl ELi w v l) (go:∀ x∈l,∀ W,Below w.heap.size w W→ELi.A x W→Calls Tryz.prog 144 #[(liV x),.pointer (some ⟨b,0,none⟩),.pointer (some ⟨bx,0,none⟩)] W fun e w'=>e=.returned (.bool (P x))∧Below W.heap.size W w') :
  Calls Tryz.prog 180 #[v,.func (.func 144) #[] #[.pointer (some ⟨b,0,none⟩),.pointer (some ⟨bx,0,none⟩)]] w fun e w'=>e=.returned (.int .i64 (idxG P l))∧Below w.heap.size w w':=by
 have hlen:=hv.len
 obtain ⟨a,cap,rfl⟩:=hv.form
 have HC:=hide (fun W (hB:Below w.heap.size w W) k (hk:k<l.length)=>aE5 hv hB hk)
 have GO:=hide go
 clear hv go
 have ent:∀ (args:Array Value) (w:World),(callFunc 144 args).run Tryz.prog w=.ok (.enter 144 args) w:=fun args w=>aAd Tryz.func144 (by kernel_rfl) rfl args w
 go_enter Tryz.func180,Tryz.ntmps180
 go_wp2_with fail
 go_loopw [8] (fun i wr=>∃ k:Nat,k≤l.length∧i=.int .i64 k∧Hid (∀ j (h:j<l.length),j<k→P l[j]=false)∧Below w.heap.size w wr) (fun i _=>l.length - (intOf i).toNat)
 case atStart=>exact ⟨0,Nat.zero_le _,rfl,fun j h hj=>absurd hj (by omega),Below.refl _ _⟩
 case round =>
  obtain ⟨k,hk,rfl,hno,hB⟩:=hrel
  by_cases hlt:k<l.length
  ·have hlt':(k:Int)<(l.length:Int):=by omega
   obtain ⟨hA,gg,off,rfl,hgg,c0,c1,c2,c3,c4,c5,c6,c7,c8⟩:=HC.out _ hB k hlt
   have C1:=hide (GO.out l[k] (List.getElem_mem hlt) wr hB hA)
   clear hA
   cases hs:P l[k]
   ·have HN:Hid (∀ j (h:j<l.length),j<k+1→P l[j]=false):=fun j h hj=>by
     rcases Nat.lt_or_ge j k with h1 | h1
     ·exact hno.out j h h1
     ·obtain rfl:j=k:=by omega
      exact hs
    rw [hs] at C1
    clear hs
    generalize l[k]=fk at *
    obtain ⟨n0,p0,t0,h0,⟨ck0,cs0,cn0⟩,f0,nd0,a0,c0⟩:=fk
    try dsimp only at *
    go_wp2_with fail
    refine (C1.out).mono ?_
    rintro e w1 ⟨rfl,hb1⟩
    go_wp2_with fail
    exact ⟨⟨k+1,by omega,by go_num,HN.out,bb2 hB hb1⟩,by simp [intOf];omega⟩
   ·have HI:Hid ((k:Int)=idxG P l):=(aBw hlt hno.out hs).symm
    rw [hs] at C1
    clear hs
    generalize l[k]=fk at *
    obtain ⟨n0,p0,t0,h0,⟨ck0,cs0,cn0⟩,f0,nd0,a0,c0⟩:=fk
    try dsimp only at *
    go_wp2_with fail
    refine (C1.out).mono ?_
    rintro e w1 ⟨rfl,hb1⟩
    go_wp2_with fail
    go_ret
    exact ⟨aAp HI.out,bb2 hB hb1⟩
  ·have hlt':¬ (k:Int)<(l.length:Int):=by omega
   have HI:Hid (-1=idxG P l):=(aC6 (fun j h=>hno.out j h (by omega))).symm
   go_wp2_with fail
   go_ret
   exact ⟨aAp HI.out,hB⟩
theorem aW1 (P:LiV→Bool) (b bx:Nat) (v:Value) (l:List LiV) (w:World) (hv:Sl ELi w v l) (go:∀ x∈l,∀ W,Below w.heap.size w W→ELi.A x W→Calls Tryz.prog 144 #[(liV x),.pointer (some ⟨b,0,none⟩),.pointer (some ⟨bx,0,none⟩)] W fun e w'=>e=.returned (.bool (P x))∧Below W.heap.size W w') :
  Calls Tryz.prog 139 #[v,.func (.func 144) #[] #[.pointer (some ⟨b,0,none⟩),.pointer (some ⟨bx,0,none⟩)]] w fun e w'=>e=.returned (.bool (l.any P))∧Below w.heap.size w w':=by
 have C1:=hide (aW0 P b bx v l w hv go)
 have HE:=hide (aC7 P l)
 clear hv go
 go_enter Tryz.func139,Tryz.ntmps139
 go_wp2_with fail
 refine (C1.out).mono ?_
 rintro e w1 ⟨rfl,hb1⟩
 go_wp2_with fail
 go_ret
 exact ⟨aA1 HE.out,hb1⟩
theorem aXo (same:LiV→LiV→Bool) (g b bx:Nat) (x y:LiV) (w:World) (ent:∀ (args:Array Value) (w:World),(callFunc g args).run Tryz.prog w=.ok (.enter g args) w) (hb:b<w.heap.size) (hc:w.cell? ⟨b,0,none⟩=some (.func (.func g) #[] #[])) (hbx:bx<w.heap.size) (hx:ELi.At w bx 0 x)
  (go:∀ W,Below w.heap.size w W→Calls Tryz.prog g #[(liV x),(liV y)] W fun e w'=>e=.returned (.bool (same x y))∧Below W.heap.size W w') :
  Calls Tryz.prog 144 #[(liV y),.pointer (some ⟨b,0,none⟩),.pointer (some ⟨bx,0,none⟩)] w fun e w'=>e=.returned (.bool (same x y))∧Below w.heap.size w w':=by
 have B1:=(Below.refl w.heap.size w).alloc (Nat.le_refl _) (.cells (ELi.cells y).toArray 67)
 have hc':=B1.cell (p:=⟨b,0,none⟩) hb
 rw [hc] at hc'
 obtain ⟨c0,c1,c2,c3,c4,c5,c6,c7,c8⟩:=aBn (hx.below hbx B1)
 have GO:=hide (go _ B1)
 clear go hc hx B1
 generalize same x y=r at *
 obtain ⟨n1,p1,t1,h1,⟨ck1,cs1,cn1⟩,f1,nd1,a1,c1⟩:=x
 obtain ⟨n0,p0,t0,h0,⟨ck0,cs0,cn0⟩,f0,nd0,a0,c0⟩:=y
 simp only [ELi,aDk,Nat.zero_add] at hc' GO c0 c1 c2 c3 c4 c5 c6 c7 c8
 try dsimp only at hc' GO c0 c1 c2 c3 c4 c5 c6 c7 c8
 go_enter Tryz.func144,Tryz.ntmps144
 go_wp2_with fail
 refine (GO.out).mono ?_
 rintro e w1 ⟨rfl,hb1⟩
 go_wp2_with fail
 go_ret
 exact ⟨rfl,aA8 hb1⟩
theorem aXp (same:LiV→LiV→Bool) (g:Nat) (v:Value) (l:List LiV) (w:World) (hv:Sl ELi w v l) (ent:∀ (args:Array Value) (w:World),(callFunc g args).run Tryz.prog w=.ok (.enter g args) w)
  (go:∀ x∈l,∀ y∈l,∀ W,Below w.heap.size w W→Calls Tryz.prog g #[(liV x),(liV y)] W fun e w'=>e=.returned (.bool (same x y))∧Below W.heap.size W w') :
  Calls Tryz.prog 110 #[v,.func (.func g) #[] #[]] w fun e w'=>e=.returned (.bool (Ob.dif same l))∧Below w.heap.size w w':=by
 have hlen:=hv.len
 have hmf:∀ (fn:Fn) (first cap:Array Value) (w:World),(Instr.makeFunc fn first cap).run Tryz.prog w=.ok (.func fn first cap) w:=fun _ _ _ _=>rfl
 have B1:Below w.heap.size w (w.alloc (.cells #[.func (.func g) #[] #[]] 142)):=(Below.refl _ w).alloc (Nat.le_refl _) _
 have HF:Hid (∀ W,Below (w.alloc (.cells #[.func (.func g) #[] #[]] 142)).heap.size (w.alloc (.cells #[.func (.func g) #[] #[]] 142)) W→w.heap.size<W.heap.size∧W.cell? ⟨w.heap.size,0,none⟩=some (.func (.func g) #[] #[])):=fun W hW=>⟨by have:=hW.size;simp at this;omega,(hW.cell (p:=⟨w.heap.size,0,none⟩) (by simp)).trans (aA0 (aA7 w _) rfl)⟩
 have HV:=hide (hv.below B1)
 have GO:=hide go
 have HB1:=hide B1
 obtain ⟨a,cap,rfl,hcap,hmax,_⟩:=hv
 have HC:=hide (fun W (hB:Below (w.alloc (.cells #[.func (.func g) #[] #[]] 142)).heap.size (w.alloc (.cells #[.func (.func g) #[] #[]] 142)) W) k (hk:k<l.length)=>aE5 HV.out hB hk)
 clear go B1
 have hcap':(l.length:Int)≤(cap:Int):=by omega
 go_enter Tryz.func110,Tryz.ntmps110
 go_wp2_with fail
 go_loopw [9] (fun i wr=>∃ k:Nat,k≤l.length∧i=.int .i64 k∧Hid (∀ j (hj:j<l.length),j<k→(l.take j).any (same l[j])=false)∧Below (w.alloc (.cells #[.func (.func g) #[] #[]] 142)).heap.size (w.alloc (.cells #[.func (.func g) #[] #[]] 142)) wr) (fun i _=>l.length - (intOf i).toNat)
 case atStart=>exact ⟨0,Nat.zero_le _,rfl,fun j h hj=>absurd hj (by omega),Below.refl _ _⟩
 case round =>
  obtain ⟨k,hk,rfl,hno,hB⟩:=hrel
  by_cases hlt:k<l.length
  ·have hlt':(k:Int)<(l.length:Int):=by omega
   have hkc:(k:Int)≤(cap:Int):=by omega
   obtain ⟨_,gg,off,rfl,hgg,c0,c1,c2,c3,c4,c5,c6,c7,c8⟩:=HC.out _ hB k hlt
   have B2:Below wr.heap.size wr (wr.alloc (.cells #[.string l[k].name,.int .i64 l[k].port,.bool l[k].tls,.string l[k].host,.int .i64 l[k].cert.kind,.string l[k].cert.space,.string l[k].cert.name,.int .i64 l[k].frm,l[k].v] 67)):=(Below.refl _ wr).alloc (Nat.le_refl _) _
   have C2:=hide (aW1 (same l[k]) w.heap.size wr.heap.size (.slice (some ⟨gg,off,none⟩) k cap) (l.take k) (wr.alloc (.cells #[.string l[k].name,.int .i64 l[k].port,.bool l[k].tls,.string l[k].host,.int .i64 l[k].cert.kind,.string l[k].cert.space,.string l[k].cert.name,.int .i64 l[k].frm,l[k].v] 67)) ((HV.out.pre (k:=k) (by omega)).below (bb2 hB B2)) fun y hy W hW hAy =>
    aXo same g w.heap.size wr.heap.size l[k] y W ent (HF.out W (bb2 (bb2 hB B2) hW)).1 (HF.out W (bb2 (bb2 hB B2) hW)).2 (by have:=hW.size;simp at this;omega) (aC4 hW) fun W2 h2=>GO.out l[k] (List.getElem_mem hlt) y (List.mem_of_mem_take hy) W2 (bb2 HB1.out (bb2 (bb2 (bb2 hB B2) hW) h2)))
   have HY:Hid ((l.take k).any (same l[k])=false→∀ j (hj:j<l.length),j<k+1→(l.take j).any (same l[j])=false):=fun h2 j h hj=>by
    rcases Nat.lt_or_ge j k with h3 | h3
    ·exact hno.out j h h3
    ·obtain rfl:j=k:=by omega
     exact h2
   have HN:=hide (fun h=>Ob.dif_not (same:=same) (l:=l) (k:=k) hlt h)
   have HB2:=hide B2
   clear B2
   generalize (l.take k).any (same l[k])=x2 at *
   generalize l[k]=fk at *
   obtain ⟨n0,p0,t0,h0,⟨ck0,cs0,cn0⟩,f0,nd0,a0,c0⟩:=fk
   try dsimp only at *
   cases x2
   ·have HZ:=hide (HY.out rfl)
    clear HN HY
    go_wp2_with fail
    refine (C2.out).mono ?_
    rintro e w1 ⟨rfl,hb1⟩
    go_wp2_with fail
    exact ⟨⟨k+1,by omega,by go_num,HZ.out,bb2 hB (bb2 HB2.out hb1)⟩,by simp [intOf];omega⟩
   ·have HR:Hid (false=Ob.dif same l):=(HN.out rfl).symm
    clear HN HY
    go_wp2_with fail
    refine (C2.out).mono ?_
    rintro e w1 ⟨rfl,hb1⟩
    go_wp2_with fail
    go_ret
    exact ⟨aA1 HR.out,bb2 HB1.out (bb2 hB (bb2 HB2.out hb1))⟩
  ·have hlt':¬ (k:Int)<(l.length:Int):=by omega
   have HR:Hid (true=Ob.dif same l):=(Ob.dif_yes (fun j h=>hno.out j h (by omega))).symm
   go_wp2_with fail
   go_ret
   exact ⟨aA1 HR.out,bb2 HB1.out hB⟩
end Go.Proofs.YthnodpdiocppgaaGreatDoor
namespace Go.Proofs.YthnodpdiocppgaaGreatDoor
open Go Go.RowKit Go.Shelf
abbrev pz:Array Value:=#[.int .i64 0,.string ⟨#[]⟩,.string ⟨#[]⟩]
theorem Tryz.infoRef:(Tryz.prog.info? 24).map (fun i=>(i.zero,i.size,i.bytes))=some (some (.agg #[.int .i64 0,.string ⟨#[]⟩,.string ⟨#[]⟩]),3,40):=by kernel_rfl
theorem aG9 (a b:RfB) (W:World):(Op.equalIn 10000 24 (.agg #[.int .i64 a.kind,.string a.space,.string a.name]) (.agg #[.int .i64 b.kind,.string b.space,.string b.name])).run Tryz.prog W=.ok (Ob.eqR a b) W:=by
 rw [aG8]
 unfold Ob.eqR
 simp only [aB3]
theorem aLp (w:World) (va vb:Value) (xs ys:List RfB) (ha:Sl ER w va xs) (hb:Sl ER w vb ys) :
  Calls Tryz.prog 19 #[va,vb] w fun e w'=>e=.returned (.bool (Ob.eqL Ob.eqR xs ys))∧Below w.heap.size w w':=by
 have hl:=ha.len
 have hl2:=hb.len
 obtain ⟨a,ca,rfl⟩:=ha.form
 obtain ⟨b,cb,rfl⟩:=hb.form
 have HA:=hide (fun W (hB:Below w.heap.size w W) k (hk:k<xs.length)=>oneD ha hB hk)
 have HB:=hide (fun W (hB:Below w.heap.size w W) k (hk:k<ys.length)=>oneD hb hB hk)
 clear ha hb
 by_cases hne:xs.length=ys.length
 ·have hx:((xs.length:Int) != (ys.length:Int))=false:=by rw [bne_eq_false_iff_eq];omega
  have HN:=hide hne
  clear hne
  go_enter Tryz.func19,Tryz.ntmps19
  go_wp2_with fail
  go_loopw [5] (fun i wr=>∃ k:Nat,k≤xs.length∧i=.int .i64 k∧Hid (∀ j (h1:j<xs.length) (h2:j<ys.length),j<k→Ob.eqR xs[j] ys[j]=true)∧Below w.heap.size w wr) (fun i _=>xs.length - (intOf i).toNat)
  case atStart=>exact ⟨0,Nat.zero_le _,rfl,fun j _ _ hj=>absurd hj (by omega),Below.refl _ _⟩
  case round =>
   obtain ⟨k,hk,rfl,htk,hB⟩:=hrel
   by_cases hlt:k<xs.length
   ·have hlb:k<ys.length:=by rw [←HN.out];exact hlt
    obtain ⟨_,ga,oa,rfl,hga,p0,p1,p2⟩:=HA.out _ hB k hlt
    obtain ⟨_,gb,ob,rfl,hgb,q0,q1,q2⟩:=HB.out _ hB k hlb
    have hlt':(k:Int)<(xs.length:Int):=by omega
    have hlb':(k:Int)<(ys.length:Int):=by omega
    have HT:Hid (Ob.eqR xs[k] ys[k]=true→∀ j (h1:j<xs.length) (h2:j<ys.length),j<k+1→Ob.eqR xs[j] ys[j]=true):=fun h j h1 h2 hj=>by
     rcases Nat.lt_or_ge j k with h3 | h3
     ·exact htk.out j h1 h2 h3
     ·obtain rfl:j=k:=by omega
      exact h
    have HG:Hid (Ob.eqR xs[k] ys[k]=false→Ob.eqL Ob.eqR xs ys=false):=fun h=>Ob.eqL_not xs ys k hlt hlb h
    have EQ:=fun W=>aG9 xs[k] ys[k] W
    cases hq:Ob.eqR xs[k] ys[k]
    ·have hqe:=hide (HG.out hq)
     rw [hq] at EQ
     clear hq HG HT
     generalize xs[k]=x at *
     generalize ys[k]=y at *
     obtain ⟨x0,x1,x2⟩:=x
     obtain ⟨y0,y1,y2⟩:=y
     dsimp only at *
     go_wp2_with fail
     go_region
     go_wp2_with fail
     go_ret
     exact ⟨aA1 hqe.out.symm,hB.drew⟩
    ·have hqe:=hide (HT.out hq)
     rw [hq] at EQ
     clear hq HG HT
     generalize xs[k]=x at *
     generalize ys[k]=y at *
     obtain ⟨x0,x1,x2⟩:=x
     obtain ⟨y0,y1,y2⟩:=y
     dsimp only at *
     go_wp2_with fail
     go_region
     go_wp2_with fail
     exact ⟨⟨k+1,by omega,by go_num,hqe.out,hB.drew⟩,by simp [intOf];omega⟩
   ·have hqe:Hid (Ob.eqL Ob.eqR xs ys=true):=Ob.eqL_yes xs ys HN.out fun j h1 h2=>htk.out j h1 h2 (by omega)
    have hlt':¬ (k:Int)<(xs.length:Int):=by omega
    go_wp2_with fail
    go_ret
    exact ⟨aA1 hqe.out.symm,hB⟩
 ·have hx:((xs.length:Int) != (ys.length:Int))=true:=by rw [bne_iff_ne];omega
  have hd:=hide (Ob.eqL_len (eq:=Ob.eqR) xs ys hne)
  clear hne
  go_enter Tryz.func19,Tryz.ntmps19
  go_wp2_with fail
  go_ret
  exact ⟨aA1 hd.out.symm,Below.refl _ _⟩
end Go.Proofs.YthnodpdiocppgaaGreatDoor
