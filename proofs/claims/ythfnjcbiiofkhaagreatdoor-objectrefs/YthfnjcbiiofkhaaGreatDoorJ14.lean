/-
  Walks: slices.IndexFunc, slices.ContainsFunc and object's counted, at each type of layer 9.
-/
import Derived.Test.YthfnjcbiiofkhaaGreatDoorJ13
import Derived.Test.YthfnjcbiiofkhaaGreatDoorFiEq
import Derived.Lib.SliceRun
set_option maxHeartbeats 6400000
set_option maxRecDepth 20000
namespace Go.Proofs.YthfnjcbiiofkhaaGreatDoor
open Go Go.RowKit Go.Shelf
def idxG {α:Type} (P:α→Bool) (l:List α):Int:=if l.any P then (l.findIdx P:Nat) else -1
theorem aBx {α:Type} {P:α→Bool} {l:List α} {k:Nat} (hk:k<l.length) (h:∀ j (h:j<l.length),j<k→P l[j]=false) (hs:P l[k]=true):idxG P l=(k:Int):=by
 have h1:l.any P=true:=List.any_eq_true.2 ⟨_,List.getElem_mem hk,hs⟩
 have h2:l.findIdx P=k:=by
  rw [List.findIdx_eq hk]
  exact ⟨hs,fun j hj=>h j (by omega) hj⟩
 unfold idxG
 rw [if_pos h1,h2]
theorem aC6 {α:Type} {P:α→Bool} {l:List α} (h:∀ j (h:j<l.length),P l[j]=false):idxG P l=-1:=by
 have h1:l.any P=false:=by
  rw [List.any_eq_false]
  intro p hp
  obtain ⟨j,hj,rfl⟩:=List.getElem_of_mem hp
  rw [h j hj]
  decide
 unfold idxG
 rw [h1]
 rfl
theorem aC7 {α:Type} (P:α→Bool) (l:List α):decide (0≤idxG P l)=l.any P:=by
 unfold idxG
 cases l.any P
 ·rfl
 ·simp
theorem aYo (P:Int→Bool) (b:Nat) (v:Value) (l:List Int) (w:World) (hv:Sl EI w v l) (go:∀ x∈l,∀ W,Below w.heap.size w W→EI.A x W→Calls Tryz.prog 135 #[(.int .i64 x),.pointer (some ⟨b,0,none⟩)] W fun e w'=>e=.returned (.bool (P x))∧Below W.heap.size W w') :
  Calls Tryz.prog 178 #[v,.func (.func 135) #[] #[.pointer (some ⟨b,0,none⟩)]] w fun e w'=>e=.returned (.int .i64 (idxG P l))∧Below w.heap.size w w':=by
 have hlen:=hv.len
 obtain ⟨a,cap,rfl⟩:=hv.form
 have HC:=hide (fun W (hB:Below w.heap.size w W) k (hk:k<l.length)=>oneI hv hB hk)
 have GO:=hide go
 clear hv go
 have ent:∀ (args:Array Value) (w:World),(callFunc 135 args).run Tryz.prog w=.ok (.enter 135 args) w:=fun args w=>aAd Tryz.func135 (by kernel_rfl) rfl args w
 go_enter Tryz.func178,Tryz.ntmps178
 go_wp2_with fail
 go_loopw [8] (fun i wr=>∃ k:Nat,k≤l.length∧i=.int .i64 k∧Hid (∀ j (h:j<l.length),j<k→P l[j]=false)∧Below w.heap.size w wr) (fun i _=>l.length - (intOf i).toNat)
 case atStart=>exact ⟨0,Nat.zero_le _,rfl,fun j h hj=>absurd hj (by omega),Below.refl _ _⟩
 case round =>
  obtain ⟨k,hk,rfl,hno,hB⟩:=hrel
  by_cases hlt:k<l.length
  ·have hlt':(k:Int)<(l.length:Int):=by omega
   obtain ⟨hA,gg,off,rfl,hgg,c0⟩:=HC.out _ hB k hlt
   have C1:=hide (GO.out l[k] (List.getElem_mem hlt) wr hB hA)
   clear hA
   cases hs:P l[k]
   ·have HN:Hid (∀ j (h:j<l.length),j<k+1→P l[j]=false):=fun j h hj=>by
     rcases Nat.lt_or_ge j k with h1 | h1
     ·exact hno.out j h h1
     ·obtain rfl:j=k:=by omega
      exact hs
    rw [hs] at C1
    clear hs
    generalize l[k]=fk at *
    try dsimp only at *
    go_wp2_with fail
    refine (C1.out).mono ?_
    rintro e w1 ⟨rfl,hb1⟩
    go_wp2_with fail
    exact ⟨⟨k+1,by omega,by go_num,HN.out,bb2 hB hb1⟩,by simp [intOf];omega⟩
   ·have HI:Hid ((k:Int)=idxG P l):=(aBx hlt hno.out hs).symm
    rw [hs] at C1
    clear hs
    generalize l[k]=fk at *
    try dsimp only at *
    go_wp2_with fail
    refine (C1.out).mono ?_
    rintro e w1 ⟨rfl,hb1⟩
    go_wp2_with fail
    go_ret
    exact ⟨aAf HI.out,bb2 hB hb1⟩
  ·have hlt':¬ (k:Int)<(l.length:Int):=by omega
   have HI:Hid (-1=idxG P l):=(aC6 (fun j h=>hno.out j h (by omega))).symm
   go_wp2_with fail
   go_ret
   exact ⟨aAf HI.out,hB⟩
theorem aYp (P:Int→Bool) (b:Nat) (v:Value) (l:List Int) (w:World) (hv:Sl EI w v l) (go:∀ x∈l,∀ W,Below w.heap.size w W→EI.A x W→Calls Tryz.prog 135 #[(.int .i64 x),.pointer (some ⟨b,0,none⟩)] W fun e w'=>e=.returned (.bool (P x))∧Below W.heap.size W w') :
  Calls Tryz.prog 134 #[v,.func (.func 135) #[] #[.pointer (some ⟨b,0,none⟩)]] w fun e w'=>e=.returned (.bool (l.any P))∧Below w.heap.size w w':=by
 have C1:=hide (aYo P b v l w hv go)
 have HE:=hide (aC7 P l)
 clear hv go
 go_enter Tryz.func134,Tryz.ntmps134
 go_wp2_with fail
 refine (C1.out).mono ?_
 rintro e w1 ⟨rfl,hb1⟩
 go_wp2_with fail
 go_ret
 exact ⟨aA1 HE.out,hb1⟩
theorem cclI (p:Int→Bool) (g b:Nat) (x:Int) (w:World) (ent:∀ (args:Array Value) (w:World),(callFunc g args).run Tryz.prog w=.ok (.enter g args) w) (_:b<w.heap.size) (hc:w.cell? ⟨b,0,none⟩=some (.func (.func g) #[] #[])) (go:∀ W,Below w.heap.size w W→Calls Tryz.prog g #[(.int .i64 x)] W fun e w'=>e=.returned (.bool (p x))∧Below W.heap.size W w') :
  Calls Tryz.prog 135 #[(.int .i64 x),.pointer (some ⟨b,0,none⟩)] w fun e w'=>e=.returned (.bool (!p x))∧Below w.heap.size w w':=by
 have GO:=hide (go _ (Below.refl w.heap.size w))
 clear go
 generalize p x=r at *
 go_enter Tryz.func135,Tryz.ntmps135
 go_wp2_with fail
 refine (GO.out).mono ?_
 rintro e w1 ⟨rfl,hb1⟩
 go_wp2_with fail
 go_ret
 exact ⟨rfl,hb1⟩
theorem cntI (p:Int→Bool) (g:Nat) (v:Value) (l:List Int) (lo hi:Int) (w:World) (hv:Sl EI w v l) (ent:∀ (args:Array Value) (w:World),(callFunc g args).run Tryz.prog w=.ok (.enter g args) w)
  (go:∀ x∈l,∀ W,Below w.heap.size w W→EI.A x W→Calls Tryz.prog g #[(.int .i64 x)] W fun e w'=>e=.returned (.bool (p x))∧Below W.heap.size W w') :
  Calls Tryz.prog 89 #[v,.int .i64 lo,.int .i64 hi,.func (.func g) #[] #[]] w fun e w'=>e=.returned (.bool (Ob.cnt l lo hi p))∧Below w.heap.size w w':=by
 have hlen:=hv.len
 have hmf:∀ (fn:Fn) (first cap:Array Value) (w:World),(Instr.makeFunc fn first cap).run Tryz.prog w=.ok (.func fn first cap) w:=fun _ _ _ _=>rfl
 have B1:Below w.heap.size w (w.alloc (.cells #[.func (.func g) #[] #[]] 69)):=(Below.refl _ w).alloc (Nat.le_refl _) _
 have HC:=hide (aYp (fun x=>!p x) w.heap.size v l (w.alloc (.cells #[.func (.func g) #[] #[]] 69)) (hv.below B1) fun x hx W hW hA=>cclI p g w.heap.size x W ent (by have:=hW.size;simp at this;omega) ((hW.cell (p:=⟨w.heap.size,0,none⟩) (by simp)).trans (aA2 (aA7 w _) rfl)) fun W2 h2=>go x hx W2 (bb2 (bb2 B1 hW) h2) (EI.below _ _ _ hA h2))
 have HV:Hid (l.any (fun x=>!p x)=!l.all p):=by unfold Hid;rw [List.not_all_eq_any_not]
 have HE:Hid (Ob.cnt l lo hi p=(decide (lo≤(l.length:Int)∧(l.length:Int)≤hi)&&l.all p)):=rfl
 obtain ⟨a,cap,rfl⟩:=hv.form
 clear hv go
 generalize Ob.cnt l lo hi p=r at *
 generalize l.all p=ra at *
 generalize l.any (fun x=>!p x)=rb at *
 by_cases h1:(l.length:Int)<lo
 ·rw [decide_eq_false (by omega)] at HE
  go_enter Tryz.func89,Tryz.ntmps89
  go_wp2_with fail
  go_ret
  exact ⟨aA1 HE.out.symm,B1⟩
 ·by_cases h2:hi<(l.length:Int)
  ·rw [decide_eq_false (by omega)] at HE
   go_enter Tryz.func89,Tryz.ntmps89
   go_wp2_with fail
   go_ret
   exact ⟨aA1 HE.out.symm,B1⟩
  ·rw [decide_eq_true (by omega)] at HE
   go_enter Tryz.func89,Tryz.ntmps89
   go_wp2_with fail
   refine (HC.out).mono ?_
   rintro e w1 ⟨rfl,hb1⟩
   go_wp2_with fail
   go_ret
   exact ⟨aA1 (by rw [HE.out,HV.out];simp),bb2 B1 hb1⟩
theorem aYq (P:ByteArray→Bool) (b:Nat) (v:Value) (l:List ByteArray) (w:World) (hv:Sl ES w v l) (go:∀ x∈l,∀ W,Below w.heap.size w W→ES.A x W→Calls Tryz.prog 150 #[(.string x),.pointer (some ⟨b,0,none⟩)] W fun e w'=>e=.returned (.bool (P x))∧Below W.heap.size W w') :
  Calls Tryz.prog 183 #[v,.func (.func 150) #[] #[.pointer (some ⟨b,0,none⟩)]] w fun e w'=>e=.returned (.int .i64 (idxG P l))∧Below w.heap.size w w':=by
 have hlen:=hv.len
 obtain ⟨a,cap,rfl⟩:=hv.form
 have HC:=hide (fun W (hB:Below w.heap.size w W) k (hk:k<l.length)=>oneS hv hB hk)
 have GO:=hide go
 clear hv go
 have ent:∀ (args:Array Value) (w:World),(callFunc 150 args).run Tryz.prog w=.ok (.enter 150 args) w:=fun args w=>aAd Tryz.func150 (by kernel_rfl) rfl args w
 go_enter Tryz.func183,Tryz.ntmps183
 go_wp2_with fail
 go_loopw [8] (fun i wr=>∃ k:Nat,k≤l.length∧i=.int .i64 k∧Hid (∀ j (h:j<l.length),j<k→P l[j]=false)∧Below w.heap.size w wr) (fun i _=>l.length - (intOf i).toNat)
 case atStart=>exact ⟨0,Nat.zero_le _,rfl,fun j h hj=>absurd hj (by omega),Below.refl _ _⟩
 case round =>
  obtain ⟨k,hk,rfl,hno,hB⟩:=hrel
  by_cases hlt:k<l.length
  ·have hlt':(k:Int)<(l.length:Int):=by omega
   obtain ⟨hA,gg,off,rfl,hgg,c0⟩:=HC.out _ hB k hlt
   have C1:=hide (GO.out l[k] (List.getElem_mem hlt) wr hB hA)
   clear hA
   cases hs:P l[k]
   ·have HN:Hid (∀ j (h:j<l.length),j<k+1→P l[j]=false):=fun j h hj=>by
     rcases Nat.lt_or_ge j k with h1 | h1
     ·exact hno.out j h h1
     ·obtain rfl:j=k:=by omega
      exact hs
    rw [hs] at C1
    clear hs
    generalize l[k]=fk at *
    try dsimp only at *
    go_wp2_with fail
    refine (C1.out).mono ?_
    rintro e w1 ⟨rfl,hb1⟩
    go_wp2_with fail
    exact ⟨⟨k+1,by omega,by go_num,HN.out,bb2 hB hb1⟩,by simp [intOf];omega⟩
   ·have HI:Hid ((k:Int)=idxG P l):=(aBx hlt hno.out hs).symm
    rw [hs] at C1
    clear hs
    generalize l[k]=fk at *
    try dsimp only at *
    go_wp2_with fail
    refine (C1.out).mono ?_
    rintro e w1 ⟨rfl,hb1⟩
    go_wp2_with fail
    go_ret
    exact ⟨aAf HI.out,bb2 hB hb1⟩
  ·have hlt':¬ (k:Int)<(l.length:Int):=by omega
   have HI:Hid (-1=idxG P l):=(aC6 (fun j h=>hno.out j h (by omega))).symm
   go_wp2_with fail
   go_ret
   exact ⟨aAf HI.out,hB⟩
theorem aYr (P:ByteArray→Bool) (b:Nat) (v:Value) (l:List ByteArray) (w:World) (hv:Sl ES w v l) (go:∀ x∈l,∀ W,Below w.heap.size w W→ES.A x W→Calls Tryz.prog 150 #[(.string x),.pointer (some ⟨b,0,none⟩)] W fun e w'=>e=.returned (.bool (P x))∧Below W.heap.size W w') :
  Calls Tryz.prog 149 #[v,.func (.func 150) #[] #[.pointer (some ⟨b,0,none⟩)]] w fun e w'=>e=.returned (.bool (l.any P))∧Below w.heap.size w w':=by
 have C1:=hide (aYq P b v l w hv go)
 have HE:=hide (aC7 P l)
 clear hv go
 go_enter Tryz.func149,Tryz.ntmps149
 go_wp2_with fail
 refine (C1.out).mono ?_
 rintro e w1 ⟨rfl,hb1⟩
 go_wp2_with fail
 go_ret
 exact ⟨aA1 HE.out,hb1⟩
theorem cclS (p:ByteArray→Bool) (g b:Nat) (x:ByteArray) (w:World) (ent:∀ (args:Array Value) (w:World),(callFunc g args).run Tryz.prog w=.ok (.enter g args) w) (_:b<w.heap.size) (hc:w.cell? ⟨b,0,none⟩=some (.func (.func g) #[] #[])) (go:∀ W,Below w.heap.size w W→Calls Tryz.prog g #[(.string x)] W fun e w'=>e=.returned (.bool (p x))∧Below W.heap.size W w') :
  Calls Tryz.prog 150 #[(.string x),.pointer (some ⟨b,0,none⟩)] w fun e w'=>e=.returned (.bool (!p x))∧Below w.heap.size w w':=by
 have GO:=hide (go _ (Below.refl w.heap.size w))
 clear go
 generalize p x=r at *
 go_enter Tryz.func150,Tryz.ntmps150
 go_wp2_with fail
 refine (GO.out).mono ?_
 rintro e w1 ⟨rfl,hb1⟩
 go_wp2_with fail
 go_ret
 exact ⟨rfl,hb1⟩
theorem cntS (p:ByteArray→Bool) (g:Nat) (v:Value) (l:List ByteArray) (lo hi:Int) (w:World) (hv:Sl ES w v l) (ent:∀ (args:Array Value) (w:World),(callFunc g args).run Tryz.prog w=.ok (.enter g args) w)
  (go:∀ x∈l,∀ W,Below w.heap.size w W→ES.A x W→Calls Tryz.prog g #[(.string x)] W fun e w'=>e=.returned (.bool (p x))∧Below W.heap.size W w') :
  Calls Tryz.prog 102 #[v,.int .i64 lo,.int .i64 hi,.func (.func g) #[] #[]] w fun e w'=>e=.returned (.bool (Ob.cnt l lo hi p))∧Below w.heap.size w w':=by
 have hlen:=hv.len
 have hmf:∀ (fn:Fn) (first cap:Array Value) (w:World),(Instr.makeFunc fn first cap).run Tryz.prog w=.ok (.func fn first cap) w:=fun _ _ _ _=>rfl
 have B1:Below w.heap.size w (w.alloc (.cells #[.func (.func g) #[] #[]] 98)):=(Below.refl _ w).alloc (Nat.le_refl _) _
 have HC:=hide (aYr (fun x=>!p x) w.heap.size v l (w.alloc (.cells #[.func (.func g) #[] #[]] 98)) (hv.below B1) fun x hx W hW hA=>cclS p g w.heap.size x W ent (by have:=hW.size;simp at this;omega) ((hW.cell (p:=⟨w.heap.size,0,none⟩) (by simp)).trans (aA2 (aA7 w _) rfl)) fun W2 h2=>go x hx W2 (bb2 (bb2 B1 hW) h2) (ES.below _ _ _ hA h2))
 have HV:Hid (l.any (fun x=>!p x)=!l.all p):=by unfold Hid;rw [List.not_all_eq_any_not]
 have HE:Hid (Ob.cnt l lo hi p=(decide (lo≤(l.length:Int)∧(l.length:Int)≤hi)&&l.all p)):=rfl
 obtain ⟨a,cap,rfl⟩:=hv.form
 clear hv go
 generalize Ob.cnt l lo hi p=r at *
 generalize l.all p=ra at *
 generalize l.any (fun x=>!p x)=rb at *
 by_cases h1:(l.length:Int)<lo
 ·rw [decide_eq_false (by omega)] at HE
  go_enter Tryz.func102,Tryz.ntmps102
  go_wp2_with fail
  go_ret
  exact ⟨aA1 HE.out.symm,B1⟩
 ·by_cases h2:hi<(l.length:Int)
  ·rw [decide_eq_false (by omega)] at HE
   go_enter Tryz.func102,Tryz.ntmps102
   go_wp2_with fail
   go_ret
   exact ⟨aA1 HE.out.symm,B1⟩
  ·rw [decide_eq_true (by omega)] at HE
   go_enter Tryz.func102,Tryz.ntmps102
   go_wp2_with fail
   refine (HC.out).mono ?_
   rintro e w1 ⟨rfl,hb1⟩
   go_wp2_with fail
   go_ret
   exact ⟨aA1 (by rw [HE.out,HV.out];simp),bb2 B1 hb1⟩
theorem aYs (P:RfB→Bool) (b:Nat) (v:Value) (l:List RfB) (w:World) (hv:Sl ER w v l) (go:∀ x∈l,∀ W,Below w.heap.size w W→ER.A x W→Calls Tryz.prog 160 #[(rfV x),.pointer (some ⟨b,0,none⟩)] W fun e w'=>e=.returned (.bool (P x))∧Below W.heap.size W w') :
  Calls Tryz.prog 197 #[v,.func (.func 160) #[] #[.pointer (some ⟨b,0,none⟩)]] w fun e w'=>e=.returned (.int .i64 (idxG P l))∧Below w.heap.size w w':=by
 have hlen:=hv.len
 obtain ⟨a,cap,rfl⟩:=hv.form
 have HC:=hide (fun W (hB:Below w.heap.size w W) k (hk:k<l.length)=>oneD hv hB hk)
 have GO:=hide go
 clear hv go
 have ent:∀ (args:Array Value) (w:World),(callFunc 160 args).run Tryz.prog w=.ok (.enter 160 args) w:=fun args w=>aAd Tryz.func160 (by kernel_rfl) rfl args w
 go_enter Tryz.func197,Tryz.ntmps197
 go_wp2_with fail
 go_loopw [8] (fun i wr=>∃ k:Nat,k≤l.length∧i=.int .i64 k∧Hid (∀ j (h:j<l.length),j<k→P l[j]=false)∧Below w.heap.size w wr) (fun i _=>l.length - (intOf i).toNat)
 case atStart=>exact ⟨0,Nat.zero_le _,rfl,fun j h hj=>absurd hj (by omega),Below.refl _ _⟩
 case round =>
  obtain ⟨k,hk,rfl,hno,hB⟩:=hrel
  by_cases hlt:k<l.length
  ·have hlt':(k:Int)<(l.length:Int):=by omega
   obtain ⟨hA,gg,off,rfl,hgg,c0,c1,c2⟩:=HC.out _ hB k hlt
   have C1:=hide (GO.out l[k] (List.getElem_mem hlt) wr hB hA)
   clear hA
   cases hs:P l[k]
   ·have HN:Hid (∀ j (h:j<l.length),j<k+1→P l[j]=false):=fun j h hj=>by
     rcases Nat.lt_or_ge j k with h1 | h1
     ·exact hno.out j h h1
     ·obtain rfl:j=k:=by omega
      exact hs
    rw [hs] at C1
    clear hs
    generalize l[k]=fk at *
    obtain ⟨k0,s0,n0⟩:=fk
    try dsimp only at *
    go_wp2_with fail
    refine (C1.out).mono ?_
    rintro e w1 ⟨rfl,hb1⟩
    go_wp2_with fail
    exact ⟨⟨k+1,by omega,by go_num,HN.out,bb2 hB hb1⟩,by simp [intOf];omega⟩
   ·have HI:Hid ((k:Int)=idxG P l):=(aBx hlt hno.out hs).symm
    rw [hs] at C1
    clear hs
    generalize l[k]=fk at *
    obtain ⟨k0,s0,n0⟩:=fk
    try dsimp only at *
    go_wp2_with fail
    refine (C1.out).mono ?_
    rintro e w1 ⟨rfl,hb1⟩
    go_wp2_with fail
    go_ret
    exact ⟨aAf HI.out,bb2 hB hb1⟩
  ·have hlt':¬ (k:Int)<(l.length:Int):=by omega
   have HI:Hid (-1=idxG P l):=(aC6 (fun j h=>hno.out j h (by omega))).symm
   go_wp2_with fail
   go_ret
   exact ⟨aAf HI.out,hB⟩
theorem aYt (P:RfB→Bool) (b:Nat) (v:Value) (l:List RfB) (w:World) (hv:Sl ER w v l) (go:∀ x∈l,∀ W,Below w.heap.size w W→ER.A x W→Calls Tryz.prog 160 #[(rfV x),.pointer (some ⟨b,0,none⟩)] W fun e w'=>e=.returned (.bool (P x))∧Below W.heap.size W w') :
  Calls Tryz.prog 159 #[v,.func (.func 160) #[] #[.pointer (some ⟨b,0,none⟩)]] w fun e w'=>e=.returned (.bool (l.any P))∧Below w.heap.size w w':=by
 have C1:=hide (aYs P b v l w hv go)
 have HE:=hide (aC7 P l)
 clear hv go
 go_enter Tryz.func159,Tryz.ntmps159
 go_wp2_with fail
 refine (C1.out).mono ?_
 rintro e w1 ⟨rfl,hb1⟩
 go_wp2_with fail
 go_ret
 exact ⟨aA1 HE.out,hb1⟩
theorem cclD (p:RfB→Bool) (g b:Nat) (x:RfB) (w:World) (ent:∀ (args:Array Value) (w:World),(callFunc g args).run Tryz.prog w=.ok (.enter g args) w) (hb:b<w.heap.size) (hc:w.cell? ⟨b,0,none⟩=some (.func (.func g) #[] #[])) (go:∀ W,Below w.heap.size w W→Calls Tryz.prog g #[(rfV x)] W fun e w'=>e=.returned (.bool (p x))∧Below W.heap.size W w') :
  Calls Tryz.prog 160 #[(rfV x),.pointer (some ⟨b,0,none⟩)] w fun e w'=>e=.returned (.bool (!p x))∧Below w.heap.size w w':=by
 have hc':=((Below.refl w.heap.size w).alloc (Nat.le_refl _) (.cells (ER.cells x).toArray 81)).cell (p:=⟨b,0,none⟩) hb
 rw [hc] at hc'
 have GO:=hide (go _ ((Below.refl w.heap.size w).alloc (Nat.le_refl _) (.cells (ER.cells x).toArray 81)))
 clear go hc
 generalize p x=r at *
 obtain ⟨k0,s0,n0⟩:=x
 simp only [ER,aBi] at hc' GO
 try dsimp only at hc' GO
 go_enter Tryz.func160,Tryz.ntmps160
 go_wp2_with fail
 refine (GO.out).mono ?_
 rintro e w1 ⟨rfl,hb1⟩
 go_wp2_with fail
 go_ret
 exact ⟨rfl,aA5 hb1⟩
theorem cntD (p:RfB→Bool) (g:Nat) (v:Value) (l:List RfB) (lo hi:Int) (w:World) (hv:Sl ER w v l) (ent:∀ (args:Array Value) (w:World),(callFunc g args).run Tryz.prog w=.ok (.enter g args) w)
  (go:∀ x∈l,∀ W,Below w.heap.size w W→ER.A x W→Calls Tryz.prog g #[(rfV x)] W fun e w'=>e=.returned (.bool (p x))∧Below W.heap.size W w') :
  Calls Tryz.prog 108 #[v,.int .i64 lo,.int .i64 hi,.func (.func g) #[] #[]] w fun e w'=>e=.returned (.bool (Ob.cnt l lo hi p))∧Below w.heap.size w w':=by
 have hlen:=hv.len
 have hmf:∀ (fn:Fn) (first cap:Array Value) (w:World),(Instr.makeFunc fn first cap).run Tryz.prog w=.ok (.func fn first cap) w:=fun _ _ _ _=>rfl
 have B1:Below w.heap.size w (w.alloc (.cells #[.func (.func g) #[] #[]] 133)):=(Below.refl _ w).alloc (Nat.le_refl _) _
 have HC:=hide (aYt (fun x=>!p x) w.heap.size v l (w.alloc (.cells #[.func (.func g) #[] #[]] 133)) (hv.below B1) fun x hx W hW hA=>cclD p g w.heap.size x W ent (by have:=hW.size;simp at this;omega) ((hW.cell (p:=⟨w.heap.size,0,none⟩) (by simp)).trans (aA2 (aA7 w _) rfl)) fun W2 h2=>go x hx W2 (bb2 (bb2 B1 hW) h2) (ER.below _ _ _ hA h2))
 have HV:Hid (l.any (fun x=>!p x)=!l.all p):=by unfold Hid;rw [List.not_all_eq_any_not]
 have HE:Hid (Ob.cnt l lo hi p=(decide (lo≤(l.length:Int)∧(l.length:Int)≤hi)&&l.all p)):=rfl
 obtain ⟨a,cap,rfl⟩:=hv.form
 clear hv go
 generalize Ob.cnt l lo hi p=r at *
 generalize l.all p=ra at *
 generalize l.any (fun x=>!p x)=rb at *
 by_cases h1:(l.length:Int)<lo
 ·rw [decide_eq_false (by omega)] at HE
  go_enter Tryz.func108,Tryz.ntmps108
  go_wp2_with fail
  go_ret
  exact ⟨aA1 HE.out.symm,B1⟩
 ·by_cases h2:hi<(l.length:Int)
  ·rw [decide_eq_false (by omega)] at HE
   go_enter Tryz.func108,Tryz.ntmps108
   go_wp2_with fail
   go_ret
   exact ⟨aA1 HE.out.symm,B1⟩
  ·rw [decide_eq_true (by omega)] at HE
   go_enter Tryz.func108,Tryz.ntmps108
   go_wp2_with fail
   refine (HC.out).mono ?_
   rintro e w1 ⟨rfl,hb1⟩
   go_wp2_with fail
   go_ret
   exact ⟨aA1 (by rw [HE.out,HV.out];simp),bb2 B1 hb1⟩
theorem aXf (P:PtB→Bool) (b:Nat) (v:Value) (l:List PtB) (w:World) (hv:Sl EPt w v l) (go:∀ x∈l,∀ W,Below w.heap.size w W→EPt.A x W→Calls Tryz.prog 145 #[(ptV x),.pointer (some ⟨b,0,none⟩)] W fun e w'=>e=.returned (.bool (P x))∧Below W.heap.size W w') :
  Calls Tryz.prog 182 #[v,.func (.func 145) #[] #[.pointer (some ⟨b,0,none⟩)]] w fun e w'=>e=.returned (.int .i64 (idxG P l))∧Below w.heap.size w w':=by
 have hlen:=hv.len
 obtain ⟨a,cap,rfl⟩:=hv.form
 have HC:=hide (fun W (hB:Below w.heap.size w W) k (hk:k<l.length)=>aD5 hv hB hk)
 have GO:=hide go
 clear hv go
 have ent:∀ (args:Array Value) (w:World),(callFunc 145 args).run Tryz.prog w=.ok (.enter 145 args) w:=fun args w=>aAd Tryz.func145 (by kernel_rfl) rfl args w
 go_enter Tryz.func182,Tryz.ntmps182
 go_wp2_with fail
 go_loopw [8] (fun i wr=>∃ k:Nat,k≤l.length∧i=.int .i64 k∧Hid (∀ j (h:j<l.length),j<k→P l[j]=false)∧Below w.heap.size w wr) (fun i _=>l.length - (intOf i).toNat)
 case atStart=>exact ⟨0,Nat.zero_le _,rfl,fun j h hj=>absurd hj (by omega),Below.refl _ _⟩
 case round =>
  obtain ⟨k,hk,rfl,hno,hB⟩:=hrel
  by_cases hlt:k<l.length
  ·have hlt':(k:Int)<(l.length:Int):=by omega
   obtain ⟨hA,gg,off,rfl,hgg,c0,c1,c2,c3⟩:=HC.out _ hB k hlt
   have C1:=hide (GO.out l[k] (List.getElem_mem hlt) wr hB hA)
   clear hA
   cases hs:P l[k]
   ·have HN:Hid (∀ j (h:j<l.length),j<k+1→P l[j]=false):=fun j h hj=>by
     rcases Nat.lt_or_ge j k with h1 | h1
     ·exact hno.out j h h1
     ·obtain rfl:j=k:=by omega
      exact hs
    rw [hs] at C1
    clear hs
    generalize l[k]=fk at *
    obtain ⟨s0,n0,t0,p0⟩:=fk
    try dsimp only at *
    go_wp2_with fail
    refine (C1.out).mono ?_
    rintro e w1 ⟨rfl,hb1⟩
    go_wp2_with fail
    exact ⟨⟨k+1,by omega,by go_num,HN.out,bb2 hB hb1⟩,by simp [intOf];omega⟩
   ·have HI:Hid ((k:Int)=idxG P l):=(aBx hlt hno.out hs).symm
    rw [hs] at C1
    clear hs
    generalize l[k]=fk at *
    obtain ⟨s0,n0,t0,p0⟩:=fk
    try dsimp only at *
    go_wp2_with fail
    refine (C1.out).mono ?_
    rintro e w1 ⟨rfl,hb1⟩
    go_wp2_with fail
    go_ret
    exact ⟨aAf HI.out,bb2 hB hb1⟩
  ·have hlt':¬ (k:Int)<(l.length:Int):=by omega
   have HI:Hid (-1=idxG P l):=(aC6 (fun j h=>hno.out j h (by omega))).symm
   go_wp2_with fail
   go_ret
   exact ⟨aAf HI.out,hB⟩
theorem aXg (P:PtB→Bool) (b:Nat) (v:Value) (l:List PtB) (w:World) (hv:Sl EPt w v l) (go:∀ x∈l,∀ W,Below w.heap.size w W→EPt.A x W→Calls Tryz.prog 145 #[(ptV x),.pointer (some ⟨b,0,none⟩)] W fun e w'=>e=.returned (.bool (P x))∧Below W.heap.size W w') :
  Calls Tryz.prog 144 #[v,.func (.func 145) #[] #[.pointer (some ⟨b,0,none⟩)]] w fun e w'=>e=.returned (.bool (l.any P))∧Below w.heap.size w w':=by
 have C1:=hide (aXf P b v l w hv go)
 have HE:=hide (aC7 P l)
 clear hv go
 go_enter Tryz.func144,Tryz.ntmps144
 go_wp2_with fail
 refine (C1.out).mono ?_
 rintro e w1 ⟨rfl,hb1⟩
 go_wp2_with fail
 go_ret
 exact ⟨aA1 HE.out,hb1⟩
theorem aYu (p:PtB→Bool) (g b:Nat) (x:PtB) (w:World) (ent:∀ (args:Array Value) (w:World),(callFunc g args).run Tryz.prog w=.ok (.enter g args) w) (hb:b<w.heap.size) (hc:w.cell? ⟨b,0,none⟩=some (.func (.func g) #[] #[])) (go:∀ W,Below w.heap.size w W→Calls Tryz.prog g #[(ptV x)] W fun e w'=>e=.returned (.bool (p x))∧Below W.heap.size W w') :
  Calls Tryz.prog 145 #[(ptV x),.pointer (some ⟨b,0,none⟩)] w fun e w'=>e=.returned (.bool (!p x))∧Below w.heap.size w w':=by
 have hc':=((Below.refl w.heap.size w).alloc (Nat.le_refl _) (.cells (EPt.cells x).toArray 41)).cell (p:=⟨b,0,none⟩) hb
 rw [hc] at hc'
 have GO:=hide (go _ ((Below.refl w.heap.size w).alloc (Nat.le_refl _) (.cells (EPt.cells x).toArray 41)))
 clear go hc
 generalize p x=r at *
 obtain ⟨s0,n0,t0,p0⟩:=x
 simp only [EPt,aEl] at hc' GO
 try dsimp only at hc' GO
 go_enter Tryz.func145,Tryz.ntmps145
 go_wp2_with fail
 refine (GO.out).mono ?_
 rintro e w1 ⟨rfl,hb1⟩
 go_wp2_with fail
 go_ret
 exact ⟨rfl,aA5 hb1⟩
theorem aYv (p:PtB→Bool) (g:Nat) (v:Value) (l:List PtB) (lo hi:Int) (w:World) (hv:Sl EPt w v l) (ent:∀ (args:Array Value) (w:World),(callFunc g args).run Tryz.prog w=.ok (.enter g args) w)
  (go:∀ x∈l,∀ W,Below w.heap.size w W→EPt.A x W→Calls Tryz.prog g #[(ptV x)] W fun e w'=>e=.returned (.bool (p x))∧Below W.heap.size W w') :
  Calls Tryz.prog 98 #[v,.int .i64 lo,.int .i64 hi,.func (.func g) #[] #[]] w fun e w'=>e=.returned (.bool (Ob.cnt l lo hi p))∧Below w.heap.size w w':=by
 have hlen:=hv.len
 have hmf:∀ (fn:Fn) (first cap:Array Value) (w:World),(Instr.makeFunc fn first cap).run Tryz.prog w=.ok (.func fn first cap) w:=fun _ _ _ _=>rfl
 have B1:Below w.heap.size w (w.alloc (.cells #[.func (.func g) #[] #[]] 125)):=(Below.refl _ w).alloc (Nat.le_refl _) _
 have HC:=hide (aXg (fun x=>!p x) w.heap.size v l (w.alloc (.cells #[.func (.func g) #[] #[]] 125)) (hv.below B1) fun x hx W hW hA=>aYu p g w.heap.size x W ent (by have:=hW.size;simp at this;omega) ((hW.cell (p:=⟨w.heap.size,0,none⟩) (by simp)).trans (aA2 (aA7 w _) rfl)) fun W2 h2=>go x hx W2 (bb2 (bb2 B1 hW) h2) (EPt.below _ _ _ hA h2))
 have HV:Hid (l.any (fun x=>!p x)=!l.all p):=by unfold Hid;rw [List.not_all_eq_any_not]
 have HE:Hid (Ob.cnt l lo hi p=(decide (lo≤(l.length:Int)∧(l.length:Int)≤hi)&&l.all p)):=rfl
 obtain ⟨a,cap,rfl⟩:=hv.form
 clear hv go
 generalize Ob.cnt l lo hi p=r at *
 generalize l.all p=ra at *
 generalize l.any (fun x=>!p x)=rb at *
 by_cases h1:(l.length:Int)<lo
 ·rw [decide_eq_false (by omega)] at HE
  go_enter Tryz.func98,Tryz.ntmps98
  go_wp2_with fail
  go_ret
  exact ⟨aA1 HE.out.symm,B1⟩
 ·by_cases h2:hi<(l.length:Int)
  ·rw [decide_eq_false (by omega)] at HE
   go_enter Tryz.func98,Tryz.ntmps98
   go_wp2_with fail
   go_ret
   exact ⟨aA1 HE.out.symm,B1⟩
  ·rw [decide_eq_true (by omega)] at HE
   go_enter Tryz.func98,Tryz.ntmps98
   go_wp2_with fail
   refine (HC.out).mono ?_
   rintro e w1 ⟨rfl,hb1⟩
   go_wp2_with fail
   go_ret
   exact ⟨aA1 (by rw [HE.out,HV.out];simp),bb2 B1 hb1⟩
theorem aYw (P:BkB→Bool) (b:Nat) (v:Value) (l:List BkB) (w:World) (hv:Sl EK w v l) (go:∀ x∈l,∀ W,Below w.heap.size w W→EK.A x W→Calls Tryz.prog 196 #[(bkV x),.pointer (some ⟨b,0,none⟩)] W fun e w'=>e=.returned (.bool (P x))∧Below W.heap.size W w') :
  Calls Tryz.prog 226 #[v,.func (.func 196) #[] #[.pointer (some ⟨b,0,none⟩)]] w fun e w'=>e=.returned (.int .i64 (idxG P l))∧Below w.heap.size w w':=by
 have hlen:=hv.len
 obtain ⟨a,cap,rfl⟩:=hv.form
 have HC:=hide (fun W (hB:Below w.heap.size w W) k (hk:k<l.length)=>oneK hv hB hk)
 have GO:=hide go
 clear hv go
 have ent:∀ (args:Array Value) (w:World),(callFunc 196 args).run Tryz.prog w=.ok (.enter 196 args) w:=fun args w=>aAd Tryz.func196 (by kernel_rfl) rfl args w
 go_enter Tryz.func226,Tryz.ntmps226
 go_wp2_with fail
 go_loopw [8] (fun i wr=>∃ k:Nat,k≤l.length∧i=.int .i64 k∧Hid (∀ j (h:j<l.length),j<k→P l[j]=false)∧Below w.heap.size w wr) (fun i _=>l.length - (intOf i).toNat)
 case atStart=>exact ⟨0,Nat.zero_le _,rfl,fun j h hj=>absurd hj (by omega),Below.refl _ _⟩
 case round =>
  obtain ⟨k,hk,rfl,hno,hB⟩:=hrel
  by_cases hlt:k<l.length
  ·have hlt':(k:Int)<(l.length:Int):=by omega
   obtain ⟨hA,gg,off,rfl,hgg,c0,c1,c2,c3,c4⟩:=HC.out _ hB k hlt
   have C1:=hide (GO.out l[k] (List.getElem_mem hlt) wr hB hA)
   clear hA
   cases hs:P l[k]
   ·have HN:Hid (∀ j (h:j<l.length),j<k+1→P l[j]=false):=fun j h hj=>by
     rcases Nat.lt_or_ge j k with h1 | h1
     ·exact hno.out j h h1
     ·obtain rfl:j=k:=by omega
      exact hs
    rw [hs] at C1
    clear hs
    generalize l[k]=fk at *
    obtain ⟨⟨k0,s0,n0⟩,p0,w0⟩:=fk
    try dsimp only at *
    go_wp2_with fail
    refine (C1.out).mono ?_
    rintro e w1 ⟨rfl,hb1⟩
    go_wp2_with fail
    exact ⟨⟨k+1,by omega,by go_num,HN.out,bb2 hB hb1⟩,by simp [intOf];omega⟩
   ·have HI:Hid ((k:Int)=idxG P l):=(aBx hlt hno.out hs).symm
    rw [hs] at C1
    clear hs
    generalize l[k]=fk at *
    obtain ⟨⟨k0,s0,n0⟩,p0,w0⟩:=fk
    try dsimp only at *
    go_wp2_with fail
    refine (C1.out).mono ?_
    rintro e w1 ⟨rfl,hb1⟩
    go_wp2_with fail
    go_ret
    exact ⟨aAf HI.out,bb2 hB hb1⟩
  ·have hlt':¬ (k:Int)<(l.length:Int):=by omega
   have HI:Hid (-1=idxG P l):=(aC6 (fun j h=>hno.out j h (by omega))).symm
   go_wp2_with fail
   go_ret
   exact ⟨aAf HI.out,hB⟩
theorem aYx (P:BkB→Bool) (b:Nat) (v:Value) (l:List BkB) (w:World) (hv:Sl EK w v l) (go:∀ x∈l,∀ W,Below w.heap.size w W→EK.A x W→Calls Tryz.prog 196 #[(bkV x),.pointer (some ⟨b,0,none⟩)] W fun e w'=>e=.returned (.bool (P x))∧Below W.heap.size W w') :
  Calls Tryz.prog 195 #[v,.func (.func 196) #[] #[.pointer (some ⟨b,0,none⟩)]] w fun e w'=>e=.returned (.bool (l.any P))∧Below w.heap.size w w':=by
 have C1:=hide (aYw P b v l w hv go)
 have HE:=hide (aC7 P l)
 clear hv go
 go_enter Tryz.func195,Tryz.ntmps195
 go_wp2_with fail
 refine (C1.out).mono ?_
 rintro e w1 ⟨rfl,hb1⟩
 go_wp2_with fail
 go_ret
 exact ⟨aA1 HE.out,hb1⟩
theorem cclK (p:BkB→Bool) (g b:Nat) (x:BkB) (w:World) (ent:∀ (args:Array Value) (w:World),(callFunc g args).run Tryz.prog w=.ok (.enter g args) w) (hb:b<w.heap.size) (hc:w.cell? ⟨b,0,none⟩=some (.func (.func g) #[] #[])) (go:∀ W,Below w.heap.size w W→Calls Tryz.prog g #[(bkV x)] W fun e w'=>e=.returned (.bool (p x))∧Below W.heap.size W w') :
  Calls Tryz.prog 196 #[(bkV x),.pointer (some ⟨b,0,none⟩)] w fun e w'=>e=.returned (.bool (!p x))∧Below w.heap.size w w':=by
 have hc':=((Below.refl w.heap.size w).alloc (Nat.le_refl _) (.cells (EK.cells x).toArray 48)).cell (p:=⟨b,0,none⟩) hb
 rw [hc] at hc'
 have GO:=hide (go _ ((Below.refl w.heap.size w).alloc (Nat.le_refl _) (.cells (EK.cells x).toArray 48)))
 clear go hc
 generalize p x=r at *
 obtain ⟨⟨k0,s0,n0⟩,p0,w0⟩:=x
 simp only [EK,aFf] at hc' GO
 try dsimp only at hc' GO
 go_enter Tryz.func196,Tryz.ntmps196
 go_wp2_with fail
 refine (GO.out).mono ?_
 rintro e w1 ⟨rfl,hb1⟩
 go_wp2_with fail
 go_ret
 exact ⟨rfl,aA5 hb1⟩
theorem cntK (p:BkB→Bool) (g:Nat) (v:Value) (l:List BkB) (lo hi:Int) (w:World) (hv:Sl EK w v l) (ent:∀ (args:Array Value) (w:World),(callFunc g args).run Tryz.prog w=.ok (.enter g args) w)
  (go:∀ x∈l,∀ W,Below w.heap.size w W→EK.A x W→Calls Tryz.prog g #[(bkV x)] W fun e w'=>e=.returned (.bool (p x))∧Below W.heap.size W w') :
  Calls Tryz.prog 157 #[v,.int .i64 lo,.int .i64 hi,.func (.func g) #[] #[]] w fun e w'=>e=.returned (.bool (Ob.cnt l lo hi p))∧Below w.heap.size w w':=by
 have hlen:=hv.len
 have hmf:∀ (fn:Fn) (first cap:Array Value) (w:World),(Instr.makeFunc fn first cap).run Tryz.prog w=.ok (.func fn first cap) w:=fun _ _ _ _=>rfl
 have B1:Below w.heap.size w (w.alloc (.cells #[.func (.func g) #[] #[]] 162)):=(Below.refl _ w).alloc (Nat.le_refl _) _
 have HC:=hide (aYx (fun x=>!p x) w.heap.size v l (w.alloc (.cells #[.func (.func g) #[] #[]] 162)) (hv.below B1) fun x hx W hW hA=>cclK p g w.heap.size x W ent (by have:=hW.size;simp at this;omega) ((hW.cell (p:=⟨w.heap.size,0,none⟩) (by simp)).trans (aA2 (aA7 w _) rfl)) fun W2 h2=>go x hx W2 (bb2 (bb2 B1 hW) h2) (EK.below _ _ _ hA h2))
 have HV:Hid (l.any (fun x=>!p x)=!l.all p):=by unfold Hid;rw [List.not_all_eq_any_not]
 have HE:Hid (Ob.cnt l lo hi p=(decide (lo≤(l.length:Int)∧(l.length:Int)≤hi)&&l.all p)):=rfl
 obtain ⟨a,cap,rfl⟩:=hv.form
 clear hv go
 generalize Ob.cnt l lo hi p=r at *
 generalize l.all p=ra at *
 generalize l.any (fun x=>!p x)=rb at *
 by_cases h1:(l.length:Int)<lo
 ·rw [decide_eq_false (by omega)] at HE
  go_enter Tryz.func157,Tryz.ntmps157
  go_wp2_with fail
  go_ret
  exact ⟨aA1 HE.out.symm,B1⟩
 ·by_cases h2:hi<(l.length:Int)
  ·rw [decide_eq_false (by omega)] at HE
   go_enter Tryz.func157,Tryz.ntmps157
   go_wp2_with fail
   go_ret
   exact ⟨aA1 HE.out.symm,B1⟩
  ·rw [decide_eq_true (by omega)] at HE
   go_enter Tryz.func157,Tryz.ntmps157
   go_wp2_with fail
   refine (HC.out).mono ?_
   rintro e w1 ⟨rfl,hb1⟩
   go_wp2_with fail
   go_ret
   exact ⟨aA1 (by rw [HE.out,HV.out];simp),bb2 B1 hb1⟩
theorem aYy (P:MV→Bool) (b:Nat) (v:Value) (l:List MV) (w:World) (hv:Sl EM w v l) (go:∀ x∈l,∀ W,Below w.heap.size w W→EM.A x W→Calls Tryz.prog 186 #[(mV x.m x.vh x.vq),.pointer (some ⟨b,0,none⟩)] W fun e w'=>e=.returned (.bool (P x))∧Below W.heap.size W w') :
  Calls Tryz.prog 211 #[v,.func (.func 186) #[] #[.pointer (some ⟨b,0,none⟩)]] w fun e w'=>e=.returned (.int .i64 (idxG P l))∧Below w.heap.size w w':=by
 have hlen:=hv.len
 obtain ⟨a,cap,rfl⟩:=hv.form
 have HC:=hide (fun W (hB:Below w.heap.size w W) k (hk:k<l.length)=>oneM hv hB hk)
 have GO:=hide go
 clear hv go
 have ent:∀ (args:Array Value) (w:World),(callFunc 186 args).run Tryz.prog w=.ok (.enter 186 args) w:=fun args w=>aAd Tryz.func186 (by kernel_rfl) rfl args w
 go_enter Tryz.func211,Tryz.ntmps211
 go_wp2_with fail
 go_loopw [8] (fun i wr=>∃ k:Nat,k≤l.length∧i=.int .i64 k∧Hid (∀ j (h:j<l.length),j<k→P l[j]=false)∧Below w.heap.size w wr) (fun i _=>l.length - (intOf i).toNat)
 case atStart=>exact ⟨0,Nat.zero_le _,rfl,fun j h hj=>absurd hj (by omega),Below.refl _ _⟩
 case round =>
  obtain ⟨k,hk,rfl,hno,hB⟩:=hrel
  by_cases hlt:k<l.length
  ·have hlt':(k:Int)<(l.length:Int):=by omega
   obtain ⟨hA,gg,off,rfl,hgg,c0,c1,c2,c3,c4⟩:=HC.out _ hB k hlt
   have C1:=hide (GO.out l[k] (List.getElem_mem hlt) wr hB hA)
   clear hA
   cases hs:P l[k]
   ·have HN:Hid (∀ j (h:j<l.length),j<k+1→P l[j]=false):=fun j h hj=>by
     rcases Nat.lt_or_ge j k with h1 | h1
     ·exact hno.out j h h1
     ·obtain rfl:j=k:=by omega
      exact hs
    rw [hs] at C1
    clear hs
    generalize l[k]=fk at *
    obtain ⟨⟨k0,v0,m0,hd0,qu0⟩,ah0,ch0,aq0,cq0⟩:=fk
    try dsimp only at *
    go_wp2_with fail
    refine (C1.out).mono ?_
    rintro e w1 ⟨rfl,hb1⟩
    go_wp2_with fail
    exact ⟨⟨k+1,by omega,by go_num,HN.out,bb2 hB hb1⟩,by simp [intOf];omega⟩
   ·have HI:Hid ((k:Int)=idxG P l):=(aBx hlt hno.out hs).symm
    rw [hs] at C1
    clear hs
    generalize l[k]=fk at *
    obtain ⟨⟨k0,v0,m0,hd0,qu0⟩,ah0,ch0,aq0,cq0⟩:=fk
    try dsimp only at *
    go_wp2_with fail
    refine (C1.out).mono ?_
    rintro e w1 ⟨rfl,hb1⟩
    go_wp2_with fail
    go_ret
    exact ⟨aAf HI.out,bb2 hB hb1⟩
  ·have hlt':¬ (k:Int)<(l.length:Int):=by omega
   have HI:Hid (-1=idxG P l):=(aC6 (fun j h=>hno.out j h (by omega))).symm
   go_wp2_with fail
   go_ret
   exact ⟨aAf HI.out,hB⟩
theorem aYz (P:MV→Bool) (b:Nat) (v:Value) (l:List MV) (w:World) (hv:Sl EM w v l) (go:∀ x∈l,∀ W,Below w.heap.size w W→EM.A x W→Calls Tryz.prog 186 #[(mV x.m x.vh x.vq),.pointer (some ⟨b,0,none⟩)] W fun e w'=>e=.returned (.bool (P x))∧Below W.heap.size W w') :
  Calls Tryz.prog 185 #[v,.func (.func 186) #[] #[.pointer (some ⟨b,0,none⟩)]] w fun e w'=>e=.returned (.bool (l.any P))∧Below w.heap.size w w':=by
 have C1:=hide (aYy P b v l w hv go)
 have HE:=hide (aC7 P l)
 clear hv go
 go_enter Tryz.func185,Tryz.ntmps185
 go_wp2_with fail
 refine (C1.out).mono ?_
 rintro e w1 ⟨rfl,hb1⟩
 go_wp2_with fail
 go_ret
 exact ⟨aA1 HE.out,hb1⟩
theorem cclM (p:MV→Bool) (g b:Nat) (x:MV) (w:World) (ent:∀ (args:Array Value) (w:World),(callFunc g args).run Tryz.prog w=.ok (.enter g args) w) (hb:b<w.heap.size) (hc:w.cell? ⟨b,0,none⟩=some (.func (.func g) #[] #[])) (go:∀ W,Below w.heap.size w W→Calls Tryz.prog g #[(mV x.m x.vh x.vq)] W fun e w'=>e=.returned (.bool (p x))∧Below W.heap.size W w') :
  Calls Tryz.prog 186 #[(mV x.m x.vh x.vq),.pointer (some ⟨b,0,none⟩)] w fun e w'=>e=.returned (.bool (!p x))∧Below w.heap.size w w':=by
 have hc':=((Below.refl w.heap.size w).alloc (Nat.le_refl _) (.cells (EM.cells x).toArray 61)).cell (p:=⟨b,0,none⟩) hb
 rw [hc] at hc'
 have GO:=hide (go _ ((Below.refl w.heap.size w).alloc (Nat.le_refl _) (.cells (EM.cells x).toArray 61)))
 clear go hc
 generalize p x=r at *
 obtain ⟨⟨k0,v0,m0,hd0,qu0⟩,ah0,ch0,aq0,cq0⟩:=x
 simp only [EM,aFe] at hc' GO
 try dsimp only at hc' GO
 go_enter Tryz.func186,Tryz.ntmps186
 go_wp2_with fail
 refine (GO.out).mono ?_
 rintro e w1 ⟨rfl,hb1⟩
 go_wp2_with fail
 go_ret
 exact ⟨rfl,aA5 hb1⟩
theorem cntM (p:MV→Bool) (g:Nat) (v:Value) (l:List MV) (lo hi:Int) (w:World) (hv:Sl EM w v l) (ent:∀ (args:Array Value) (w:World),(callFunc g args).run Tryz.prog w=.ok (.enter g args) w)
  (go:∀ x∈l,∀ W,Below w.heap.size w W→EM.A x W→Calls Tryz.prog g #[(mV x.m x.vh x.vq)] W fun e w'=>e=.returned (.bool (p x))∧Below W.heap.size W w') :
  Calls Tryz.prog 154 #[v,.int .i64 lo,.int .i64 hi,.func (.func g) #[] #[]] w fun e w'=>e=.returned (.bool (Ob.cnt l lo hi p))∧Below w.heap.size w w':=by
 have hlen:=hv.len
 have hmf:∀ (fn:Fn) (first cap:Array Value) (w:World),(Instr.makeFunc fn first cap).run Tryz.prog w=.ok (.func fn first cap) w:=fun _ _ _ _=>rfl
 have B1:Below w.heap.size w (w.alloc (.cells #[.func (.func g) #[] #[]] 139)):=(Below.refl _ w).alloc (Nat.le_refl _) _
 have HC:=hide (aYz (fun x=>!p x) w.heap.size v l (w.alloc (.cells #[.func (.func g) #[] #[]] 139)) (hv.below B1) fun x hx W hW hA=>cclM p g w.heap.size x W ent (by have:=hW.size;simp at this;omega) ((hW.cell (p:=⟨w.heap.size,0,none⟩) (by simp)).trans (aA2 (aA7 w _) rfl)) fun W2 h2=>go x hx W2 (bb2 (bb2 B1 hW) h2) (EM.below _ _ _ hA h2))
 have HV:Hid (l.any (fun x=>!p x)=!l.all p):=by unfold Hid;rw [List.not_all_eq_any_not]
 have HE:Hid (Ob.cnt l lo hi p=(decide (lo≤(l.length:Int)∧(l.length:Int)≤hi)&&l.all p)):=rfl
 obtain ⟨a,cap,rfl⟩:=hv.form
 clear hv go
 generalize Ob.cnt l lo hi p=r at *
 generalize l.all p=ra at *
 generalize l.any (fun x=>!p x)=rb at *
 by_cases h1:(l.length:Int)<lo
 ·rw [decide_eq_false (by omega)] at HE
  go_enter Tryz.func154,Tryz.ntmps154
  go_wp2_with fail
  go_ret
  exact ⟨aA1 HE.out.symm,B1⟩
 ·by_cases h2:hi<(l.length:Int)
  ·rw [decide_eq_false (by omega)] at HE
   go_enter Tryz.func154,Tryz.ntmps154
   go_wp2_with fail
   go_ret
   exact ⟨aA1 HE.out.symm,B1⟩
  ·rw [decide_eq_true (by omega)] at HE
   go_enter Tryz.func154,Tryz.ntmps154
   go_wp2_with fail
   refine (HC.out).mono ?_
   rintro e w1 ⟨rfl,hb1⟩
   go_wp2_with fail
   go_ret
   exact ⟨aA1 (by rw [HE.out,HV.out];simp),bb2 B1 hb1⟩
theorem aXh (P:LiV→Bool) (b:Nat) (v:Value) (l:List LiV) (w:World) (hv:Sl ELi w v l) (go:∀ x∈l,∀ W,Below w.heap.size w W→ELi.A x W→Calls Tryz.prog 139 #[(liV x),.pointer (some ⟨b,0,none⟩)] W fun e w'=>e=.returned (.bool (P x))∧Below W.heap.size W w') :
  Calls Tryz.prog 179 #[v,.func (.func 139) #[] #[.pointer (some ⟨b,0,none⟩)]] w fun e w'=>e=.returned (.int .i64 (idxG P l))∧Below w.heap.size w w':=by
 have hlen:=hv.len
 obtain ⟨a,cap,rfl⟩:=hv.form
 have HC:=hide (fun W (hB:Below w.heap.size w W) k (hk:k<l.length)=>aD9 hv hB hk)
 have GO:=hide go
 clear hv go
 have ent:∀ (args:Array Value) (w:World),(callFunc 139 args).run Tryz.prog w=.ok (.enter 139 args) w:=fun args w=>aAd Tryz.func139 (by kernel_rfl) rfl args w
 go_enter Tryz.func179,Tryz.ntmps179
 go_wp2_with fail
 go_loopw [8] (fun i wr=>∃ k:Nat,k≤l.length∧i=.int .i64 k∧Hid (∀ j (h:j<l.length),j<k→P l[j]=false)∧Below w.heap.size w wr) (fun i _=>l.length - (intOf i).toNat)
 case atStart=>exact ⟨0,Nat.zero_le _,rfl,fun j h hj=>absurd hj (by omega),Below.refl _ _⟩
 case round =>
  obtain ⟨k,hk,rfl,hno,hB⟩:=hrel
  by_cases hlt:k<l.length
  ·have hlt':(k:Int)<(l.length:Int):=by omega
   obtain ⟨hA,gg,off,rfl,hgg,c0,c1,c2,c3,c4,c5,c6,c7,c8⟩:=HC.out _ hB k hlt
   have C1:=hide (GO.out l[k] (List.getElem_mem hlt) wr hB hA)
   clear hA
   cases hs:P l[k]
   ·have HN:Hid (∀ j (h:j<l.length),j<k+1→P l[j]=false):=fun j h hj=>by
     rcases Nat.lt_or_ge j k with h1 | h1
     ·exact hno.out j h h1
     ·obtain rfl:j=k:=by omega
      exact hs
    rw [hs] at C1
    clear hs
    generalize l[k]=fk at *
    obtain ⟨n0,p0,t0,h0,⟨ck0,cs0,cn0⟩,f0,nd0,a0,c0⟩:=fk
    try dsimp only at *
    go_wp2_with fail
    refine (C1.out).mono ?_
    rintro e w1 ⟨rfl,hb1⟩
    go_wp2_with fail
    exact ⟨⟨k+1,by omega,by go_num,HN.out,bb2 hB hb1⟩,by simp [intOf];omega⟩
   ·have HI:Hid ((k:Int)=idxG P l):=(aBx hlt hno.out hs).symm
    rw [hs] at C1
    clear hs
    generalize l[k]=fk at *
    obtain ⟨n0,p0,t0,h0,⟨ck0,cs0,cn0⟩,f0,nd0,a0,c0⟩:=fk
    try dsimp only at *
    go_wp2_with fail
    refine (C1.out).mono ?_
    rintro e w1 ⟨rfl,hb1⟩
    go_wp2_with fail
    go_ret
    exact ⟨aAf HI.out,bb2 hB hb1⟩
  ·have hlt':¬ (k:Int)<(l.length:Int):=by omega
   have HI:Hid (-1=idxG P l):=(aC6 (fun j h=>hno.out j h (by omega))).symm
   go_wp2_with fail
   go_ret
   exact ⟨aAf HI.out,hB⟩
theorem aXi (P:LiV→Bool) (b:Nat) (v:Value) (l:List LiV) (w:World) (hv:Sl ELi w v l) (go:∀ x∈l,∀ W,Below w.heap.size w W→ELi.A x W→Calls Tryz.prog 139 #[(liV x),.pointer (some ⟨b,0,none⟩)] W fun e w'=>e=.returned (.bool (P x))∧Below W.heap.size W w') :
  Calls Tryz.prog 138 #[v,.func (.func 139) #[] #[.pointer (some ⟨b,0,none⟩)]] w fun e w'=>e=.returned (.bool (l.any P))∧Below w.heap.size w w':=by
 have C1:=hide (aXh P b v l w hv go)
 have HE:=hide (aC7 P l)
 clear hv go
 go_enter Tryz.func138,Tryz.ntmps138
 go_wp2_with fail
 refine (C1.out).mono ?_
 rintro e w1 ⟨rfl,hb1⟩
 go_wp2_with fail
 go_ret
 exact ⟨aA1 HE.out,hb1⟩
theorem aZ0 (p:LiV→Bool) (g b:Nat) (x:LiV) (w:World) (ent:∀ (args:Array Value) (w:World),(callFunc g args).run Tryz.prog w=.ok (.enter g args) w) (hb:b<w.heap.size) (hc:w.cell? ⟨b,0,none⟩=some (.func (.func g) #[] #[])) (go:∀ W,Below w.heap.size w W→Calls Tryz.prog g #[(liV x)] W fun e w'=>e=.returned (.bool (p x))∧Below W.heap.size W w') :
  Calls Tryz.prog 139 #[(liV x),.pointer (some ⟨b,0,none⟩)] w fun e w'=>e=.returned (.bool (!p x))∧Below w.heap.size w w':=by
 have hc':=((Below.refl w.heap.size w).alloc (Nat.le_refl _) (.cells (ELi.cells x).toArray 55)).cell (p:=⟨b,0,none⟩) hb
 rw [hc] at hc'
 have GO:=hide (go _ ((Below.refl w.heap.size w).alloc (Nat.le_refl _) (.cells (ELi.cells x).toArray 55)))
 clear go hc
 generalize p x=r at *
 obtain ⟨n0,p0,t0,h0,⟨ck0,cs0,cn0⟩,f0,nd0,a0,c0⟩:=x
 simp only [ELi,aDh] at hc' GO
 try dsimp only at hc' GO
 go_enter Tryz.func139,Tryz.ntmps139
 go_wp2_with fail
 refine (GO.out).mono ?_
 rintro e w1 ⟨rfl,hb1⟩
 go_wp2_with fail
 go_ret
 exact ⟨rfl,aA5 hb1⟩
theorem aZ1 (p:LiV→Bool) (g:Nat) (v:Value) (l:List LiV) (lo hi:Int) (w:World) (hv:Sl ELi w v l) (ent:∀ (args:Array Value) (w:World),(callFunc g args).run Tryz.prog w=.ok (.enter g args) w)
  (go:∀ x∈l,∀ W,Below w.heap.size w W→ELi.A x W→Calls Tryz.prog g #[(liV x)] W fun e w'=>e=.returned (.bool (p x))∧Below W.heap.size W w') :
  Calls Tryz.prog 94 #[v,.int .i64 lo,.int .i64 hi,.func (.func g) #[] #[]] w fun e w'=>e=.returned (.bool (Ob.cnt l lo hi p))∧Below w.heap.size w w':=by
 have hlen:=hv.len
 have hmf:∀ (fn:Fn) (first cap:Array Value) (w:World),(Instr.makeFunc fn first cap).run Tryz.prog w=.ok (.func fn first cap) w:=fun _ _ _ _=>rfl
 have B1:Below w.heap.size w (w.alloc (.cells #[.func (.func g) #[] #[]] 122)):=(Below.refl _ w).alloc (Nat.le_refl _) _
 have HC:=hide (aXi (fun x=>!p x) w.heap.size v l (w.alloc (.cells #[.func (.func g) #[] #[]] 122)) (hv.below B1) fun x hx W hW hA=>aZ0 p g w.heap.size x W ent (by have:=hW.size;simp at this;omega) ((hW.cell (p:=⟨w.heap.size,0,none⟩) (by simp)).trans (aA2 (aA7 w _) rfl)) fun W2 h2=>go x hx W2 (bb2 (bb2 B1 hW) h2) (ELi.below _ _ _ hA h2))
 have HV:Hid (l.any (fun x=>!p x)=!l.all p):=by unfold Hid;rw [List.not_all_eq_any_not]
 have HE:Hid (Ob.cnt l lo hi p=(decide (lo≤(l.length:Int)∧(l.length:Int)≤hi)&&l.all p)):=rfl
 obtain ⟨a,cap,rfl⟩:=hv.form
 clear hv go
 generalize Ob.cnt l lo hi p=r at *
 generalize l.all p=ra at *
 generalize l.any (fun x=>!p x)=rb at *
 by_cases h1:(l.length:Int)<lo
 ·rw [decide_eq_false (by omega)] at HE
  go_enter Tryz.func94,Tryz.ntmps94
  go_wp2_with fail
  go_ret
  exact ⟨aA1 HE.out.symm,B1⟩
 ·by_cases h2:hi<(l.length:Int)
  ·rw [decide_eq_false (by omega)] at HE
   go_enter Tryz.func94,Tryz.ntmps94
   go_wp2_with fail
   go_ret
   exact ⟨aA1 HE.out.symm,B1⟩
  ·rw [decide_eq_true (by omega)] at HE
   go_enter Tryz.func94,Tryz.ntmps94
   go_wp2_with fail
   refine (HC.out).mono ?_
   rintro e w1 ⟨rfl,hb1⟩
   go_wp2_with fail
   go_ret
   exact ⟨aA1 (by rw [HE.out,HV.out];simp),bb2 B1 hb1⟩
theorem aXj (P:RlV→Bool) (b:Nat) (v:Value) (l:List RlV) (w:World) (hv:Sl ERl w v l) (go:∀ x∈l,∀ W,Below w.heap.size w W→ERl.A x W→Calls Tryz.prog 153 #[(rlV x),.pointer (some ⟨b,0,none⟩)] W fun e w'=>e=.returned (.bool (P x))∧Below W.heap.size W w') :
  Calls Tryz.prog 184 #[v,.func (.func 153) #[] #[.pointer (some ⟨b,0,none⟩)]] w fun e w'=>e=.returned (.int .i64 (idxG P l))∧Below w.heap.size w w':=by
 have hlen:=hv.len
 obtain ⟨a,cap,rfl⟩:=hv.form
 have HC:=hide (fun W (hB:Below w.heap.size w W) k (hk:k<l.length)=>aEd hv hB hk)
 have GO:=hide go
 clear hv go
 have ent:∀ (args:Array Value) (w:World),(callFunc 153 args).run Tryz.prog w=.ok (.enter 153 args) w:=fun args w=>aAd Tryz.func153 (by kernel_rfl) rfl args w
 go_enter Tryz.func184,Tryz.ntmps184
 go_wp2_with fail
 go_loopw [8] (fun i wr=>∃ k:Nat,k≤l.length∧i=.int .i64 k∧Hid (∀ j (h:j<l.length),j<k→P l[j]=false)∧Below w.heap.size w wr) (fun i _=>l.length - (intOf i).toNat)
 case atStart=>exact ⟨0,Nat.zero_le _,rfl,fun j h hj=>absurd hj (by omega),Below.refl _ _⟩
 case round =>
  obtain ⟨k,hk,rfl,hno,hB⟩:=hrel
  by_cases hlt:k<l.length
  ·have hlt':(k:Int)<(l.length:Int):=by omega
   obtain ⟨hA,gg,off,rfl,hgg,c0,c1,c2⟩:=HC.out _ hB k hlt
   have C1:=hide (GO.out l[k] (List.getElem_mem hlt) wr hB hA)
   clear hA
   cases hs:P l[k]
   ·have HN:Hid (∀ j (h:j<l.length),j<k+1→P l[j]=false):=fun j h hj=>by
     rcases Nat.lt_or_ge j k with h1 | h1
     ·exact hno.out j h h1
     ·obtain rfl:j=k:=by omega
      exact hs
    rw [hs] at C1
    clear hs
    generalize l[k]=fk at *
    obtain ⟨ms0,am0,cm0,fs0,af0,cf0,bs0,ab0,cb0⟩:=fk
    try dsimp only at *
    go_wp2_with fail
    refine (C1.out).mono ?_
    rintro e w1 ⟨rfl,hb1⟩
    go_wp2_with fail
    exact ⟨⟨k+1,by omega,by go_num,HN.out,bb2 hB hb1⟩,by simp [intOf];omega⟩
   ·have HI:Hid ((k:Int)=idxG P l):=(aBx hlt hno.out hs).symm
    rw [hs] at C1
    clear hs
    generalize l[k]=fk at *
    obtain ⟨ms0,am0,cm0,fs0,af0,cf0,bs0,ab0,cb0⟩:=fk
    try dsimp only at *
    go_wp2_with fail
    refine (C1.out).mono ?_
    rintro e w1 ⟨rfl,hb1⟩
    go_wp2_with fail
    go_ret
    exact ⟨aAf HI.out,bb2 hB hb1⟩
  ·have hlt':¬ (k:Int)<(l.length:Int):=by omega
   have HI:Hid (-1=idxG P l):=(aC6 (fun j h=>hno.out j h (by omega))).symm
   go_wp2_with fail
   go_ret
   exact ⟨aAf HI.out,hB⟩
theorem aXk (P:RlV→Bool) (b:Nat) (v:Value) (l:List RlV) (w:World) (hv:Sl ERl w v l) (go:∀ x∈l,∀ W,Below w.heap.size w W→ERl.A x W→Calls Tryz.prog 153 #[(rlV x),.pointer (some ⟨b,0,none⟩)] W fun e w'=>e=.returned (.bool (P x))∧Below W.heap.size W w') :
  Calls Tryz.prog 152 #[v,.func (.func 153) #[] #[.pointer (some ⟨b,0,none⟩)]] w fun e w'=>e=.returned (.bool (l.any P))∧Below w.heap.size w w':=by
 have C1:=hide (aXj P b v l w hv go)
 have HE:=hide (aC7 P l)
 clear hv go
 go_enter Tryz.func152,Tryz.ntmps152
 go_wp2_with fail
 refine (C1.out).mono ?_
 rintro e w1 ⟨rfl,hb1⟩
 go_wp2_with fail
 go_ret
 exact ⟨aA1 HE.out,hb1⟩
theorem aZ2 (p:RlV→Bool) (g b:Nat) (x:RlV) (w:World) (ent:∀ (args:Array Value) (w:World),(callFunc g args).run Tryz.prog w=.ok (.enter g args) w) (hb:b<w.heap.size) (hc:w.cell? ⟨b,0,none⟩=some (.func (.func g) #[] #[])) (go:∀ W,Below w.heap.size w W→Calls Tryz.prog g #[(rlV x)] W fun e w'=>e=.returned (.bool (p x))∧Below W.heap.size W w') :
  Calls Tryz.prog 153 #[(rlV x),.pointer (some ⟨b,0,none⟩)] w fun e w'=>e=.returned (.bool (!p x))∧Below w.heap.size w w':=by
 have hc':=((Below.refl w.heap.size w).alloc (Nat.le_refl _) (.cells (ERl.cells x).toArray 46)).cell (p:=⟨b,0,none⟩) hb
 rw [hc] at hc'
 have GO:=hide (go _ ((Below.refl w.heap.size w).alloc (Nat.le_refl _) (.cells (ERl.cells x).toArray 46)))
 clear go hc
 generalize p x=r at *
 obtain ⟨ms0,am0,cm0,fs0,af0,cf0,bs0,ab0,cb0⟩:=x
 simp only [ERl,aHa] at hc' GO
 try dsimp only at hc' GO
 go_enter Tryz.func153,Tryz.ntmps153
 go_wp2_with fail
 refine (GO.out).mono ?_
 rintro e w1 ⟨rfl,hb1⟩
 go_wp2_with fail
 go_ret
 exact ⟨rfl,aA5 hb1⟩
theorem aZ3 (p:RlV→Bool) (g:Nat) (v:Value) (l:List RlV) (lo hi:Int) (w:World) (hv:Sl ERl w v l) (ent:∀ (args:Array Value) (w:World),(callFunc g args).run Tryz.prog w=.ok (.enter g args) w)
  (go:∀ x∈l,∀ W,Below w.heap.size w W→ERl.A x W→Calls Tryz.prog g #[(rlV x)] W fun e w'=>e=.returned (.bool (p x))∧Below W.heap.size W w') :
  Calls Tryz.prog 106 #[v,.int .i64 lo,.int .i64 hi,.func (.func g) #[] #[]] w fun e w'=>e=.returned (.bool (Ob.cnt l lo hi p))∧Below w.heap.size w w':=by
 have hlen:=hv.len
 have hmf:∀ (fn:Fn) (first cap:Array Value) (w:World),(Instr.makeFunc fn first cap).run Tryz.prog w=.ok (.func fn first cap) w:=fun _ _ _ _=>rfl
 have B1:Below w.heap.size w (w.alloc (.cells #[.func (.func g) #[] #[]] 100)):=(Below.refl _ w).alloc (Nat.le_refl _) _
 have HC:=hide (aXk (fun x=>!p x) w.heap.size v l (w.alloc (.cells #[.func (.func g) #[] #[]] 100)) (hv.below B1) fun x hx W hW hA=>aZ2 p g w.heap.size x W ent (by have:=hW.size;simp at this;omega) ((hW.cell (p:=⟨w.heap.size,0,none⟩) (by simp)).trans (aA2 (aA7 w _) rfl)) fun W2 h2=>go x hx W2 (bb2 (bb2 B1 hW) h2) (ERl.below _ _ _ hA h2))
 have HV:Hid (l.any (fun x=>!p x)=!l.all p):=by unfold Hid;rw [List.not_all_eq_any_not]
 have HE:Hid (Ob.cnt l lo hi p=(decide (lo≤(l.length:Int)∧(l.length:Int)≤hi)&&l.all p)):=rfl
 obtain ⟨a,cap,rfl⟩:=hv.form
 clear hv go
 generalize Ob.cnt l lo hi p=r at *
 generalize l.all p=ra at *
 generalize l.any (fun x=>!p x)=rb at *
 by_cases h1:(l.length:Int)<lo
 ·rw [decide_eq_false (by omega)] at HE
  go_enter Tryz.func106,Tryz.ntmps106
  go_wp2_with fail
  go_ret
  exact ⟨aA1 HE.out.symm,B1⟩
 ·by_cases h2:hi<(l.length:Int)
  ·rw [decide_eq_false (by omega)] at HE
   go_enter Tryz.func106,Tryz.ntmps106
   go_wp2_with fail
   go_ret
   exact ⟨aA1 HE.out.symm,B1⟩
  ·rw [decide_eq_true (by omega)] at HE
   go_enter Tryz.func106,Tryz.ntmps106
   go_wp2_with fail
   refine (HC.out).mono ?_
   rintro e w1 ⟨rfl,hb1⟩
   go_wp2_with fail
   go_ret
   exact ⟨aA1 (by rw [HE.out,HV.out];simp),bb2 B1 hb1⟩
end Go.Proofs.YthfnjcbiiofkhaaGreatDoor
namespace Go.Proofs.YthfnjcbiiofkhaaGreatDoor
open Go Go.RowKit Go.Shelf
theorem aBm {a b:ByteArray}:a.toList=b.toList↔a=b:=Ob.toList_iff
theorem aG0 (k:Int) (s n:ByteArray) (k':Int) (s' n':ByteArray) (w:World) :
  (Op.equalIn 10000 23 (.agg #[.int .i64 k,.string s,.string n]) (.agg #[.int .i64 k',.string s',.string n'])).run Tryz.prog w=.ok (decide (k=k'∧s.toList=s'.toList∧n.toList=n'.toList)) w:=by
 have u3:=Tryz.underlying3
 have i3:=Tryz.isAgg3
 have z3:=Tryz.sizeOf3
 rw [show (10000:Nat)=9999+1 from rfl,Op.equalIn]
 simp only [Sem.run_bind,run_underlying Tryz.underlying23,Result.andThen_ok]
 go_simp
 repeat' split
 all_goals simp_all
theorem aMp (k:Int) (s n:ByteArray) (k':Int) (s' n':ByteArray) (w:World) :
  (Op.equalIn 10000 81 (.agg #[.int .i64 k,.string s,.string n]) (.agg #[.int .i64 k',.string s',.string n'])).run Tryz.prog w=.ok (decide (k=k'∧s.toList=s'.toList∧n.toList=n'.toList)) w:=by
 have u3:=Tryz.underlying3
 have i3:=Tryz.isAgg3
 have z3:=Tryz.sizeOf3
 rw [show (10000:Nat)=9999+1 from rfl,Op.equalIn]
 simp only [Sem.run_bind,run_underlying Tryz.underlying81,Result.andThen_ok]
 go_simp
 repeat' split
 all_goals simp_all
theorem aJ6 (s n t:ByteArray) (p:Int) (s' n' t':ByteArray) (p':Int) (w:World) :
  (Op.equalIn 10000 41 (.agg #[.string s,.string n,.string t,.int .i64 p]) (.agg #[.string s',.string n',.string t',.int .i64 p'])).run Tryz.prog w=.ok (decide (s.toList=s'.toList∧n.toList=n'.toList∧t.toList=t'.toList∧p=p')) w:=by
 have u3:=Tryz.underlying3
 have i3:=Tryz.isAgg3
 have z3:=Tryz.sizeOf3
 rw [show (10000:Nat)=9999+1 from rfl,Op.equalIn]
 simp only [Sem.run_bind,run_underlying Tryz.underlying41,Result.andThen_ok]
 go_simp
 repeat' split
 all_goals simp_all
theorem aW7 (k:Int) (s n:ByteArray) (k':Int) (s' n':ByteArray) (w:World) :
  (Op.equalIn 9999 23 (.agg #[.int .i64 k,.string s,.string n]) (.agg #[.int .i64 k',.string s',.string n'])).run Tryz.prog w=.ok (decide (k=k'∧s.toList=s'.toList∧n.toList=n'.toList)) w:=by
 have u3:=Tryz.underlying3
 have i3:=Tryz.isAgg3
 have z3:=Tryz.sizeOf3
 rw [show (9999:Nat)=9998+1 from rfl,Op.equalIn]
 simp only [Sem.run_bind,run_underlying Tryz.underlying23,Result.andThen_ok]
 go_simp
 repeat' split
 all_goals simp_all
theorem aRt (k:Int) (s n:ByteArray) (p x:Int) (k':Int) (s' n':ByteArray) (p' x':Int) (w:World) :
  (Op.equalIn 10000 48 (.agg #[.int .i64 k,.string s,.string n,.int .i64 p,.int .i64 x]) (.agg #[.int .i64 k',.string s',.string n',.int .i64 p',.int .i64 x'])).run Tryz.prog w=.ok (decide (k=k'∧s.toList=s'.toList∧n.toList=n'.toList∧p=p'∧x=x')) w:=by
 have u3:=Tryz.underlying3
 have i3:=Tryz.isAgg3
 have z3:=Tryz.sizeOf3
 have uR:=Tryz.underlying23
 have iR:=Tryz.isAgg23
 have zR:=Tryz.sizeOf23
 have eR:=aW7 k s n k' s' n'
 rw [show (10000:Nat)=9999+1 from rfl,Op.equalIn]
 simp only [Sem.run_bind,run_underlying Tryz.underlying48,Result.andThen_ok]
 go_simp
 repeat' split
 all_goals simp_all
theorem oneF {w W:World} {a:Option Addr} {n cap:Nat} {L:List FB} (h:Sl EF w (.slice a n cap) L) (hB:Below w.heap.size w W) {k:Nat} (hk:k<L.length) :
  EF.A L[k] W∧∃ g off,a=some ⟨g,off,none⟩∧g<w.heap.size∧W.cell? ⟨g,off+k*8,none⟩=some (.int .i64 L[k].kind)∧W.cell? ⟨g,off+k*8+1,none⟩=some (.string L[k].name)∧W.cell? ⟨g,off+k*8+2,none⟩=some (.string L[k].val)∧W.cell? ⟨g,off+k*8+3,none⟩=some (.string L[k].host)∧W.cell? ⟨g,off+k*8+4,none⟩=some (.int .i64 L[k].port)∧W.cell? ⟨g,off+k*8+5,none⟩=some (.string L[k].path)∧W.cell? ⟨g,off+k*8+6,none⟩=some (.bool L[k].whole)∧W.cell? ⟨g,off+k*8+7,none⟩=some (.int .i64 L[k].code):=by
 obtain ⟨a',cap',hv,_,_,hc⟩:=h
 injection hv with e1 e2 e3
 subst e1
 obtain ⟨hA,g,off,ha,hg,c⟩:=hc k hk
 exact ⟨trivial,g,off,ha,hg,aAi (c.below hg hB)⟩
theorem equI (w:World) (va vb:Value) (xs ys:List Int) (ha:Sl EI w va xs) (hb:Sl EI w vb ys) :
  Calls Tryz.prog 31 #[va,vb] w fun e w'=>e=.returned (.bool (Ob.eqL Ob.eqI xs ys))∧Below w.heap.size w w':=by
 have hl:=ha.len
 obtain ⟨a,ca,rfl⟩:=ha.form
 obtain ⟨b,cb,rfl⟩:=hb.form
 have HA:=hide (fun W (hB:Below w.heap.size w W) k (hk:k<xs.length)=>oneI ha hB hk)
 have HB:=hide (fun W (hB:Below w.heap.size w W) k (hk:k<ys.length)=>oneI hb hB hk)
 clear ha hb
 by_cases hne:xs.length=ys.length
 ·have hx:((xs.length:Int) != (ys.length:Int))=false:=by rw [bne_eq_false_iff_eq];omega
  have HN:=hide hne
  clear hne
  go_enter Tryz.func31,Tryz.ntmps31
  go_wp2_with fail
  go_loopw [13] (fun i wr=>∃ k:Nat,k≤xs.length∧i=.int .i64 k∧Hid (∀ j (h1:j<xs.length) (h2:j<ys.length),j<k→Ob.eqI xs[j] ys[j]=true)∧Below w.heap.size w wr) (fun i _=>xs.length - (intOf i).toNat)
  case atStart=>exact ⟨0,Nat.zero_le _,rfl,fun j _ _ hj=>absurd hj (by omega),Below.refl _ _⟩
  case round =>
   obtain ⟨k,hk,rfl,htk,hB⟩:=hrel
   by_cases hlt:k<xs.length
   ·have hlb:k<ys.length:=by rw [←HN.out];exact hlt
    obtain ⟨_,ga,oa,rfl,hga,c_0⟩:=HA.out _ hB k hlt
    obtain ⟨_,gb,ob,rfl,hgb,d_0⟩:=HB.out _ hB k hlb
    have hlt':(k:Int)<(xs.length:Int):=by omega
    have hlb':(k:Int)<(ys.length:Int):=by omega
    have HT:Hid (Ob.eqI xs[k] ys[k]=true→∀ j (h1:j<xs.length) (h2:j<ys.length),j<k+1→Ob.eqI xs[j] ys[j]=true):=fun h j h1 h2 hj=>by
     rcases Nat.lt_or_ge j k with h3 | h3
     ·exact htk.out j h1 h2 h3
     ·obtain rfl:j=k:=by omega
      exact h
    have HG:Hid (Ob.eqI xs[k] ys[k]=false→Ob.eqL Ob.eqI xs ys=false):=fun h=>Ob.eqL_not xs ys k hlt hlb h
    generalize hx1:xs[k]=x at *
    generalize hy1:ys[k]=y at *
    cases hq:Ob.eqI x y
    ·have hqe:=hide (HG.out hq)
     clear HG HT
     have hq':(x == y)=false:=hq
     clear hq hx1 hy1
     go_wp2_with fail
     go_region
     go_wp2_with fail
     go_ret
     exact ⟨aA1 hqe.out.symm,hB.drew⟩
    ·have hqe:=hide (HT.out hq)
     clear HG HT
     have hq':(x == y)=true:=hq
     clear hq hx1 hy1
     go_wp2_with fail
     go_region
     go_wp2_with fail
     exact ⟨⟨k+1,by omega,by go_num,hqe.out,hB.drew⟩,by simp [intOf];omega⟩
   ·have hqe:Hid (Ob.eqL Ob.eqI xs ys=true):=Ob.eqL_yes xs ys HN.out fun j h1 h2=>htk.out j h1 h2 (by omega)
    have hlt':¬ (k:Int)<(xs.length:Int):=by omega
    go_wp2_with fail
    go_ret
    exact ⟨aA1 hqe.out.symm,hB⟩
 ·have hx:((xs.length:Int) != (ys.length:Int))=true:=by rw [bne_iff_ne];omega
  have hd:=hide (Ob.eqL_len (eq:=Ob.eqI) xs ys hne)
  clear hne
  go_enter Tryz.func31,Tryz.ntmps31
  go_wp2_with fail
  go_ret
  exact ⟨aA1 hd.out.symm,Below.refl _ _⟩
theorem equD (w:World) (va vb:Value) (xs ys:List RfB) (ha:Sl ER w va xs) (hb:Sl ER w vb ys) :
  Calls Tryz.prog 38 #[va,vb] w fun e w'=>e=.returned (.bool (Ob.eqL Ob.eqR xs ys))∧Below w.heap.size w w':=by
 have hl:=ha.len
 obtain ⟨a,ca,rfl⟩:=ha.form
 obtain ⟨b,cb,rfl⟩:=hb.form
 have HA:=hide (fun W (hB:Below w.heap.size w W) k (hk:k<xs.length)=>oneD ha hB hk)
 have HB:=hide (fun W (hB:Below w.heap.size w W) k (hk:k<ys.length)=>oneD hb hB hk)
 clear ha hb
 by_cases hne:xs.length=ys.length
 ·have hx:((xs.length:Int) != (ys.length:Int))=false:=by rw [bne_eq_false_iff_eq];omega
  have HN:=hide hne
  clear hne
  go_enter Tryz.func38,Tryz.ntmps38
  go_wp2_with fail
  go_loopw [13] (fun i wr=>∃ k:Nat,k≤xs.length∧i=.int .i64 k∧Hid (∀ j (h1:j<xs.length) (h2:j<ys.length),j<k→Ob.eqR xs[j] ys[j]=true)∧Below w.heap.size w wr) (fun i _=>xs.length - (intOf i).toNat)
  case atStart=>exact ⟨0,Nat.zero_le _,rfl,fun j _ _ hj=>absurd hj (by omega),Below.refl _ _⟩
  case round =>
   obtain ⟨k,hk,rfl,htk,hB⟩:=hrel
   by_cases hlt:k<xs.length
   ·have hlb:k<ys.length:=by rw [←HN.out];exact hlt
    obtain ⟨_,ga,oa,rfl,hga,c_0,c_1,c_2⟩:=HA.out _ hB k hlt
    obtain ⟨_,gb,ob,rfl,hgb,d_0,d_1,d_2⟩:=HB.out _ hB k hlb
    have hlt':(k:Int)<(xs.length:Int):=by omega
    have hlb':(k:Int)<(ys.length:Int):=by omega
    have HT:Hid (Ob.eqR xs[k] ys[k]=true→∀ j (h1:j<xs.length) (h2:j<ys.length),j<k+1→Ob.eqR xs[j] ys[j]=true):=fun h j h1 h2 hj=>by
     rcases Nat.lt_or_ge j k with h3 | h3
     ·exact htk.out j h1 h2 h3
     ·obtain rfl:j=k:=by omega
      exact h
    have HG:Hid (Ob.eqR xs[k] ys[k]=false→Ob.eqL Ob.eqR xs ys=false):=fun h=>Ob.eqL_not xs ys k hlt hlb h
    generalize hx1:xs[k]=x at *
    generalize hy1:ys[k]=y at *
    have HQ:Hid (∀ W,(Op.equalIn 10000 81 (rfV x) (rfV y)).run Tryz.prog W=.ok (Ob.eqR x y) W):=by
     intro W
     obtain ⟨k0,s0,n0⟩:=x
     obtain ⟨k1,s1,n1⟩:=y
     rw [aMp k0 s0 n0 k1 s1 n1 W]
     unfold Ob.eqR
     simp only [aBm]
    cases hq:Ob.eqR x y
    ·have hqe:=hide (HG.out hq)
     clear HG HT
     have EQF:=HQ.out
     rw [hq] at EQF
     clear hq HQ hx1 hy1
     obtain ⟨k0,s0,n0⟩:=x
     obtain ⟨k1,s1,n1⟩:=y
     dsimp only at *
     go_wp2_with fail
     go_region
     go_wp2_with fail
     go_ret
     exact ⟨aA1 hqe.out.symm,hB.drew⟩
    ·have hqe:=hide (HT.out hq)
     clear HG HT
     have EQF:=HQ.out
     rw [hq] at EQF
     clear hq HQ hx1 hy1
     obtain ⟨k0,s0,n0⟩:=x
     obtain ⟨k1,s1,n1⟩:=y
     dsimp only at *
     go_wp2_with fail
     go_region
     go_wp2_with fail
     exact ⟨⟨k+1,by omega,by go_num,hqe.out,hB.drew⟩,by simp [intOf];omega⟩
   ·have hqe:Hid (Ob.eqL Ob.eqR xs ys=true):=Ob.eqL_yes xs ys HN.out fun j h1 h2=>htk.out j h1 h2 (by omega)
    have hlt':¬ (k:Int)<(xs.length:Int):=by omega
    go_wp2_with fail
    go_ret
    exact ⟨aA1 hqe.out.symm,hB⟩
 ·have hx:((xs.length:Int) != (ys.length:Int))=true:=by rw [bne_iff_ne];omega
  have hd:=hide (Ob.eqL_len (eq:=Ob.eqR) xs ys hne)
  clear hne
  go_enter Tryz.func38,Tryz.ntmps38
  go_wp2_with fail
  go_ret
  exact ⟨aA1 hd.out.symm,Below.refl _ _⟩
theorem aZ4 (w:World) (va vb:Value) (xs ys:List PtB) (ha:Sl EPt w va xs) (hb:Sl EPt w vb ys) :
  Calls Tryz.prog 34 #[va,vb] w fun e w'=>e=.returned (.bool (Ob.eqL Ob.eqP xs ys))∧Below w.heap.size w w':=by
 have hl:=ha.len
 obtain ⟨a,ca,rfl⟩:=ha.form
 obtain ⟨b,cb,rfl⟩:=hb.form
 have HA:=hide (fun W (hB:Below w.heap.size w W) k (hk:k<xs.length)=>aD5 ha hB hk)
 have HB:=hide (fun W (hB:Below w.heap.size w W) k (hk:k<ys.length)=>aD5 hb hB hk)
 clear ha hb
 by_cases hne:xs.length=ys.length
 ·have hx:((xs.length:Int) != (ys.length:Int))=false:=by rw [bne_eq_false_iff_eq];omega
  have HN:=hide hne
  clear hne
  go_enter Tryz.func34,Tryz.ntmps34
  go_wp2_with fail
  go_loopw [13] (fun i wr=>∃ k:Nat,k≤xs.length∧i=.int .i64 k∧Hid (∀ j (h1:j<xs.length) (h2:j<ys.length),j<k→Ob.eqP xs[j] ys[j]=true)∧Below w.heap.size w wr) (fun i _=>xs.length - (intOf i).toNat)
  case atStart=>exact ⟨0,Nat.zero_le _,rfl,fun j _ _ hj=>absurd hj (by omega),Below.refl _ _⟩
  case round =>
   obtain ⟨k,hk,rfl,htk,hB⟩:=hrel
   by_cases hlt:k<xs.length
   ·have hlb:k<ys.length:=by rw [←HN.out];exact hlt
    obtain ⟨_,ga,oa,rfl,hga,c_0,c_1,c_2,c_3⟩:=HA.out _ hB k hlt
    obtain ⟨_,gb,ob,rfl,hgb,d_0,d_1,d_2,d_3⟩:=HB.out _ hB k hlb
    have hlt':(k:Int)<(xs.length:Int):=by omega
    have hlb':(k:Int)<(ys.length:Int):=by omega
    have HT:Hid (Ob.eqP xs[k] ys[k]=true→∀ j (h1:j<xs.length) (h2:j<ys.length),j<k+1→Ob.eqP xs[j] ys[j]=true):=fun h j h1 h2 hj=>by
     rcases Nat.lt_or_ge j k with h3 | h3
     ·exact htk.out j h1 h2 h3
     ·obtain rfl:j=k:=by omega
      exact h
    have HG:Hid (Ob.eqP xs[k] ys[k]=false→Ob.eqL Ob.eqP xs ys=false):=fun h=>Ob.eqL_not xs ys k hlt hlb h
    generalize hx1:xs[k]=x at *
    generalize hy1:ys[k]=y at *
    have HQ:Hid (∀ W,(Op.equalIn 10000 41 (ptV x) (ptV y)).run Tryz.prog W=.ok (Ob.eqP x y) W):=by
     intro W
     obtain ⟨s0,n0,t0,p0⟩:=x
     obtain ⟨s1,n1,t1,p1⟩:=y
     rw [aJ6 s0 n0 t0 p0 s1 n1 t1 p1 W]
     unfold Ob.eqP
     simp only [aBm]
    cases hq:Ob.eqP x y
    ·have hqe:=hide (HG.out hq)
     clear HG HT
     have EQF:=HQ.out
     rw [hq] at EQF
     clear hq HQ hx1 hy1
     obtain ⟨s0,n0,t0,p0⟩:=x
     obtain ⟨s1,n1,t1,p1⟩:=y
     dsimp only at *
     go_wp2_with fail
     go_region
     go_wp2_with fail
     go_ret
     exact ⟨aA1 hqe.out.symm,hB.drew⟩
    ·have hqe:=hide (HT.out hq)
     clear HG HT
     have EQF:=HQ.out
     rw [hq] at EQF
     clear hq HQ hx1 hy1
     obtain ⟨s0,n0,t0,p0⟩:=x
     obtain ⟨s1,n1,t1,p1⟩:=y
     dsimp only at *
     go_wp2_with fail
     go_region
     go_wp2_with fail
     exact ⟨⟨k+1,by omega,by go_num,hqe.out,hB.drew⟩,by simp [intOf];omega⟩
   ·have hqe:Hid (Ob.eqL Ob.eqP xs ys=true):=Ob.eqL_yes xs ys HN.out fun j h1 h2=>htk.out j h1 h2 (by omega)
    have hlt':¬ (k:Int)<(xs.length:Int):=by omega
    go_wp2_with fail
    go_ret
    exact ⟨aA1 hqe.out.symm,hB⟩
 ·have hx:((xs.length:Int) != (ys.length:Int))=true:=by rw [bne_iff_ne];omega
  have hd:=hide (Ob.eqL_len (eq:=Ob.eqP) xs ys hne)
  clear hne
  go_enter Tryz.func34,Tryz.ntmps34
  go_wp2_with fail
  go_ret
  exact ⟨aA1 hd.out.symm,Below.refl _ _⟩
theorem equK (w:World) (va vb:Value) (xs ys:List BkB) (ha:Sl EK w va xs) (hb:Sl EK w vb ys) :
  Calls Tryz.prog 75 #[va,vb] w fun e w'=>e=.returned (.bool (Ob.eqL Ob.eqK xs ys))∧Below w.heap.size w w':=by
 have hl:=ha.len
 obtain ⟨a,ca,rfl⟩:=ha.form
 obtain ⟨b,cb,rfl⟩:=hb.form
 have HA:=hide (fun W (hB:Below w.heap.size w W) k (hk:k<xs.length)=>oneK ha hB hk)
 have HB:=hide (fun W (hB:Below w.heap.size w W) k (hk:k<ys.length)=>oneK hb hB hk)
 clear ha hb
 by_cases hne:xs.length=ys.length
 ·have hx:((xs.length:Int) != (ys.length:Int))=false:=by rw [bne_eq_false_iff_eq];omega
  have HN:=hide hne
  clear hne
  go_enter Tryz.func75,Tryz.ntmps75
  go_wp2_with fail
  go_loopw [13] (fun i wr=>∃ k:Nat,k≤xs.length∧i=.int .i64 k∧Hid (∀ j (h1:j<xs.length) (h2:j<ys.length),j<k→Ob.eqK xs[j] ys[j]=true)∧Below w.heap.size w wr) (fun i _=>xs.length - (intOf i).toNat)
  case atStart=>exact ⟨0,Nat.zero_le _,rfl,fun j _ _ hj=>absurd hj (by omega),Below.refl _ _⟩
  case round =>
   obtain ⟨k,hk,rfl,htk,hB⟩:=hrel
   by_cases hlt:k<xs.length
   ·have hlb:k<ys.length:=by rw [←HN.out];exact hlt
    obtain ⟨_,ga,oa,rfl,hga,c_0,c_1,c_2,c_3,c_4⟩:=HA.out _ hB k hlt
    obtain ⟨_,gb,ob,rfl,hgb,d_0,d_1,d_2,d_3,d_4⟩:=HB.out _ hB k hlb
    have hlt':(k:Int)<(xs.length:Int):=by omega
    have hlb':(k:Int)<(ys.length:Int):=by omega
    have HT:Hid (Ob.eqK xs[k] ys[k]=true→∀ j (h1:j<xs.length) (h2:j<ys.length),j<k+1→Ob.eqK xs[j] ys[j]=true):=fun h j h1 h2 hj=>by
     rcases Nat.lt_or_ge j k with h3 | h3
     ·exact htk.out j h1 h2 h3
     ·obtain rfl:j=k:=by omega
      exact h
    have HG:Hid (Ob.eqK xs[k] ys[k]=false→Ob.eqL Ob.eqK xs ys=false):=fun h=>Ob.eqL_not xs ys k hlt hlb h
    generalize hx1:xs[k]=x at *
    generalize hy1:ys[k]=y at *
    have HQ:Hid (∀ W,(Op.equalIn 10000 48 (bkV x) (bkV y)).run Tryz.prog W=.ok (Ob.eqK x y) W):=by
     intro W
     obtain ⟨⟨k0,s0,n0⟩,p0,w0⟩:=x
     obtain ⟨⟨k1,s1,n1⟩,p1,w1⟩:=y
     rw [aRt k0 s0 n0 p0 w0 k1 s1 n1 p1 w1 W]
     unfold Ob.eqK
     simp only [aBm]
    cases hq:Ob.eqK x y
    ·have hqe:=hide (HG.out hq)
     clear HG HT
     have EQF:=HQ.out
     rw [hq] at EQF
     clear hq HQ hx1 hy1
     obtain ⟨⟨k0,s0,n0⟩,p0,w0⟩:=x
     obtain ⟨⟨k1,s1,n1⟩,p1,w1⟩:=y
     dsimp only at *
     go_wp2_with fail
     go_region
     go_wp2_with fail
     go_ret
     exact ⟨aA1 hqe.out.symm,hB.drew⟩
    ·have hqe:=hide (HT.out hq)
     clear HG HT
     have EQF:=HQ.out
     rw [hq] at EQF
     clear hq HQ hx1 hy1
     obtain ⟨⟨k0,s0,n0⟩,p0,w0⟩:=x
     obtain ⟨⟨k1,s1,n1⟩,p1,w1⟩:=y
     dsimp only at *
     go_wp2_with fail
     go_region
     go_wp2_with fail
     exact ⟨⟨k+1,by omega,by go_num,hqe.out,hB.drew⟩,by simp [intOf];omega⟩
   ·have hqe:Hid (Ob.eqL Ob.eqK xs ys=true):=Ob.eqL_yes xs ys HN.out fun j h1 h2=>htk.out j h1 h2 (by omega)
    have hlt':¬ (k:Int)<(xs.length:Int):=by omega
    go_wp2_with fail
    go_ret
    exact ⟨aA1 hqe.out.symm,hB⟩
 ·have hx:((xs.length:Int) != (ys.length:Int))=true:=by rw [bne_iff_ne];omega
  have hd:=hide (Ob.eqL_len (eq:=Ob.eqK) xs ys hne)
  clear hne
  go_enter Tryz.func75,Tryz.ntmps75
  go_wp2_with fail
  go_ret
  exact ⟨aA1 hd.out.symm,Below.refl _ _⟩
theorem equF (w:World) (va vb:Value) (xs ys:List FB) (ha:Sl EF w va xs) (hb:Sl EF w vb ys) :
  Calls Tryz.prog 74 #[va,vb] w fun e w'=>e=.returned (.bool (Ob.eqL Ob.eqFi xs ys))∧Below w.heap.size w w':=by
 have hl:=ha.len
 obtain ⟨a,ca,rfl⟩:=ha.form
 obtain ⟨b,cb,rfl⟩:=hb.form
 have HA:=hide (fun W (hB:Below w.heap.size w W) k (hk:k<xs.length)=>oneF ha hB hk)
 have HB:=hide (fun W (hB:Below w.heap.size w W) k (hk:k<ys.length)=>oneF hb hB hk)
 clear ha hb
 by_cases hne:xs.length=ys.length
 ·have hx:((xs.length:Int) != (ys.length:Int))=false:=by rw [bne_eq_false_iff_eq];omega
  have HN:=hide hne
  clear hne
  go_enter Tryz.func74,Tryz.ntmps74
  go_wp2_with fail
  go_loopw [13] (fun i wr=>∃ k:Nat,k≤xs.length∧i=.int .i64 k∧Hid (∀ j (h1:j<xs.length) (h2:j<ys.length),j<k→Ob.eqFi xs[j] ys[j]=true)∧Below w.heap.size w wr) (fun i _=>xs.length - (intOf i).toNat)
  case atStart=>exact ⟨0,Nat.zero_le _,rfl,fun j _ _ hj=>absurd hj (by omega),Below.refl _ _⟩
  case round =>
   obtain ⟨k,hk,rfl,htk,hB⟩:=hrel
   by_cases hlt:k<xs.length
   ·have hlb:k<ys.length:=by rw [←HN.out];exact hlt
    obtain ⟨_,ga,oa,rfl,hga,c_0,c_1,c_2,c_3,c_4,c_5,c_6,c_7⟩:=HA.out _ hB k hlt
    obtain ⟨_,gb,ob,rfl,hgb,d_0,d_1,d_2,d_3,d_4,d_5,d_6,d_7⟩:=HB.out _ hB k hlb
    have hlt':(k:Int)<(xs.length:Int):=by omega
    have hlb':(k:Int)<(ys.length:Int):=by omega
    have HT:Hid (Ob.eqFi xs[k] ys[k]=true→∀ j (h1:j<xs.length) (h2:j<ys.length),j<k+1→Ob.eqFi xs[j] ys[j]=true):=fun h j h1 h2 hj=>by
     rcases Nat.lt_or_ge j k with h3 | h3
     ·exact htk.out j h1 h2 h3
     ·obtain rfl:j=k:=by omega
      exact h
    have HG:Hid (Ob.eqFi xs[k] ys[k]=false→Ob.eqL Ob.eqFi xs ys=false):=fun h=>Ob.eqL_not xs ys k hlt hlb h
    generalize hx1:xs[k]=x at *
    generalize hy1:ys[k]=y at *
    have HQ:Hid (∀ W,(Op.equalIn 10000 96 (fV x) (fV y)).run Tryz.prog W=.ok (Ob.eqFi x y) W):=by
     intro W
     obtain ⟨k0,n0,v0,h0,p0,t0,b0,c0⟩:=x
     obtain ⟨k1,n1,v1,h1,p1,t1,b1,c1⟩:=y
     rw [aH6 k0 p0 c0 k1 p1 c1 n0 v0 h0 t0 n1 v1 h1 t1 b0 b1 W]
     unfold Ob.eqFi
     simp only [aBm]
    cases hq:Ob.eqFi x y
    ·have hqe:=hide (HG.out hq)
     clear HG HT
     have EQF:=HQ.out
     rw [hq] at EQF
     clear hq HQ hx1 hy1
     obtain ⟨k0,n0,v0,h0,p0,t0,b0,c0⟩:=x
     obtain ⟨k1,n1,v1,h1,p1,t1,b1,c1⟩:=y
     dsimp only at *
     go_wp2_with fail
     go_region
     go_wp2_with fail
     go_ret
     exact ⟨aA1 hqe.out.symm,hB.drew⟩
    ·have hqe:=hide (HT.out hq)
     clear HG HT
     have EQF:=HQ.out
     rw [hq] at EQF
     clear hq HQ hx1 hy1
     obtain ⟨k0,n0,v0,h0,p0,t0,b0,c0⟩:=x
     obtain ⟨k1,n1,v1,h1,p1,t1,b1,c1⟩:=y
     dsimp only at *
     go_wp2_with fail
     go_region
     go_wp2_with fail
     exact ⟨⟨k+1,by omega,by go_num,hqe.out,hB.drew⟩,by simp [intOf];omega⟩
   ·have hqe:Hid (Ob.eqL Ob.eqFi xs ys=true):=Ob.eqL_yes xs ys HN.out fun j h1 h2=>htk.out j h1 h2 (by omega)
    have hlt':¬ (k:Int)<(xs.length:Int):=by omega
    go_wp2_with fail
    go_ret
    exact ⟨aA1 hqe.out.symm,hB⟩
 ·have hx:((xs.length:Int) != (ys.length:Int))=true:=by rw [bne_iff_ne];omega
  have hd:=hide (Ob.eqL_len (eq:=Ob.eqFi) xs ys hne)
  clear hne
  go_enter Tryz.func74,Tryz.ntmps74
  go_wp2_with fail
  go_ret
  exact ⟨aA1 hd.out.symm,Below.refl _ _⟩
end Go.Proofs.YthfnjcbiiofkhaaGreatDoor
namespace Go.Proofs.YthfnjcbiiofkhaaGreatDoor
open Go Go.RowKit Go.Shelf
theorem aZ5 (eq:LiV→LiV→Bool) (g:Nat) (va vb:Value) (A B:List LiV) (w:World) (ha:Sl ELi w va A) (hb:Sl ELi w vb B) (ent:∀ (args:Array Value) (w:World),(callFunc g args).run Tryz.prog w=.ok (.enter g args) w)
  (go:∀ x∈A,∀ y∈B,∀ W,Below w.heap.size w W→ELi.A x W→ELi.A y W→Calls Tryz.prog g #[(liV x),(liV y)] W fun e w'=>e=.returned (.bool (eq x y))∧Below W.heap.size W w') :
  Calls Tryz.prog 32 #[va,vb,.func (.func g) #[] #[]] w fun e w'=>e=.returned (.bool (Ob.eqL eq A B))∧Below w.heap.size w w':=by
 have hlen:=ha.len
 obtain ⟨a,ca,rfl⟩:=ha.form
 obtain ⟨b,cb,rfl⟩:=hb.form
 have HA:=hide (fun W (hB:Below w.heap.size w W) k (hk:k<A.length)=>aD9 ha hB hk)
 have HB:=hide (fun W (hB:Below w.heap.size w W) k (hk:k<B.length)=>aD9 hb hB hk)
 have GO:=hide go
 clear ha hb go
 by_cases hne:A.length=B.length
 ·have hx:((A.length:Int) != (B.length:Int))=false:=by rw [bne_eq_false_iff_eq];omega
  have HN:=hide hne
  clear hne
  go_enter Tryz.func32,Tryz.ntmps32
  go_wp2_with fail
  go_loopw [17] (fun i wr=>∃ k:Nat,k≤A.length∧i=.int .i64 k∧Hid (∀ j (h1:j<A.length) (h2:j<B.length),j<k→eq A[j] B[j]=true)∧Below w.heap.size w wr) (fun i _=>A.length - (intOf i).toNat)
  case atStart=>exact ⟨0,Nat.zero_le _,rfl,fun j _ _ hj=>absurd hj (by omega),Below.refl _ _⟩
  case round =>
   obtain ⟨k,hk,rfl,htk,hB⟩:=hrel
   by_cases hlt:k<A.length
   ·have hlb:k<B.length:=by rw [←HN.out];exact hlt
    have hlt':(k:Int)<(A.length:Int):=by omega
    have hlb':(k:Int)<(B.length:Int):=by omega
    obtain ⟨hA,g1,off,rfl,hg,c_0,c_1,c_2,c_3,c_4,c_5,c_6,c_7,c_8⟩:=HA.out _ hB k hlt
    obtain ⟨hA2,g2,off2,rfl,hg2,d_0,d_1,d_2,d_3,d_4,d_5,d_6,d_7,d_8⟩:=HB.out _ (hB.alloc hB.size (.cells #[.string A[k].name,.int .i64 A[k].port,.bool A[k].tls,.string A[k].host,.int .i64 A[k].cert.kind,.string A[k].cert.space,.string A[k].cert.name,.int .i64 A[k].frm,A[k].v] 55)) k hlb
    have HT:Hid (eq A[k] B[k]=true→∀ j (h1:j<A.length) (h2:j<B.length),j<k+1→eq A[j] B[j]=true):=fun h j h1 h2 hj=>by
     rcases Nat.lt_or_ge j k with h3 | h3
     ·exact htk.out j h1 h2 h3
     ·obtain rfl:j=k:=by omega
      exact h
    have HG:Hid (eq A[k] B[k]=false→Ob.eqL eq A B=false):=fun h=>Ob.eqL_not A B k hlt hlb h
    have GO1:=GO.out A[k] (List.getElem_mem hlt) B[k] (List.getElem_mem hlb)
    generalize A[k]=x at *
    generalize B[k]=y at *
    have HM:=hide (fun W (h:Below wr.heap.size wr W) (h2:Below (wr.alloc (.cells #[.string x.name,.int .i64 x.port,.bool x.tls,.string x.host,.int .i64 x.cert.kind,.string x.cert.space,.string x.cert.name,.int .i64 x.frm,x.v] 55)).heap.size (wr.alloc (.cells #[.string x.name,.int .i64 x.port,.bool x.tls,.string x.host,.int .i64 x.cert.kind,.string x.cert.space,.string x.cert.name,.int .i64 x.frm,x.v] 55)) W)=>GO1 W (bb2 hB h) (ELi.below _ _ _ hA h) (ELi.below _ _ _ hA2 h2))
    clear hA hA2 GO1
    cases hq:eq x y
    ·have hq2:=hide (HG.out hq)
     rw [hq] at HM
     clear hq HG HT
     obtain ⟨n0,p0,t0,h0,⟨ck0,cs0,cn0⟩,f0,nd0,a0,c0⟩:=x
     obtain ⟨n1,p1,t1,h1,⟨ck1,cs1,cn1⟩,f1,nd1,a1,c1⟩:=y
     try dsimp only at *
     go_wp2_with fail
     refine (HM.out _ (((Below.refl _ _).alloc (Nat.le_refl _) _).alloc (by simp) _) ((Below.refl _ _).alloc (Nat.le_refl _) _)).mono ?_
     rintro e w1 ⟨rfl,hb1⟩
     go_wp2_with fail
     go_ret
     exact ⟨aA1 (by rw [hq2.out]),bb2 hB (aA5 (aA5 hb1))⟩
    ·have hq2:=hide (HT.out hq)
     rw [hq] at HM
     clear hq HG HT
     obtain ⟨n0,p0,t0,h0,⟨ck0,cs0,cn0⟩,f0,nd0,a0,c0⟩:=x
     obtain ⟨n1,p1,t1,h1,⟨ck1,cs1,cn1⟩,f1,nd1,a1,c1⟩:=y
     try dsimp only at *
     go_wp2_with fail
     refine (HM.out _ (((Below.refl _ _).alloc (Nat.le_refl _) _).alloc (by simp) _) ((Below.refl _ _).alloc (Nat.le_refl _) _)).mono ?_
     rintro e w1 ⟨rfl,hb1⟩
     go_wp2_with fail
     exact ⟨⟨k+1,by omega,by go_num,hq2.out,bb2 hB (aA5 (aA5 hb1))⟩,by simp [intOf];omega⟩
   ·have hlt':¬ (k:Int)<(A.length:Int):=by omega
    have hq:Hid (Ob.eqL eq A B=true):=Ob.eqL_yes A B HN.out fun j h1 h2=>htk.out j h1 h2 (by omega)
    go_wp2_with fail
    go_ret
    exact ⟨aA1 (by rw [hq.out]),hB⟩
 ·have hx:((A.length:Int) != (B.length:Int))=true:=by rw [bne_iff_ne];omega
  have hd:=hide (Ob.eqL_len (eq:=eq) A B hne)
  clear hne
  go_enter Tryz.func32,Tryz.ntmps32
  go_wp2_with fail
  go_ret
  exact ⟨aA1 hd.out.symm,Below.refl _ _⟩
theorem aZ6 (eq:RlV→RlV→Bool) (g:Nat) (va vb:Value) (A B:List RlV) (w:World) (ha:Sl ERl w va A) (hb:Sl ERl w vb B) (ent:∀ (args:Array Value) (w:World),(callFunc g args).run Tryz.prog w=.ok (.enter g args) w)
  (go:∀ x∈A,∀ y∈B,∀ W,Below w.heap.size w W→ERl.A x W→ERl.A y W→Calls Tryz.prog g #[(rlV x),(rlV y)] W fun e w'=>e=.returned (.bool (eq x y))∧Below W.heap.size W w') :
  Calls Tryz.prog 36 #[va,vb,.func (.func g) #[] #[]] w fun e w'=>e=.returned (.bool (Ob.eqL eq A B))∧Below w.heap.size w w':=by
 have hlen:=ha.len
 obtain ⟨a,ca,rfl⟩:=ha.form
 obtain ⟨b,cb,rfl⟩:=hb.form
 have HA:=hide (fun W (hB:Below w.heap.size w W) k (hk:k<A.length)=>aEd ha hB hk)
 have HB:=hide (fun W (hB:Below w.heap.size w W) k (hk:k<B.length)=>aEd hb hB hk)
 have GO:=hide go
 clear ha hb go
 by_cases hne:A.length=B.length
 ·have hx:((A.length:Int) != (B.length:Int))=false:=by rw [bne_eq_false_iff_eq];omega
  have HN:=hide hne
  clear hne
  go_enter Tryz.func36,Tryz.ntmps36
  go_wp2_with fail
  go_loopw [17] (fun i wr=>∃ k:Nat,k≤A.length∧i=.int .i64 k∧Hid (∀ j (h1:j<A.length) (h2:j<B.length),j<k→eq A[j] B[j]=true)∧Below w.heap.size w wr) (fun i _=>A.length - (intOf i).toNat)
  case atStart=>exact ⟨0,Nat.zero_le _,rfl,fun j _ _ hj=>absurd hj (by omega),Below.refl _ _⟩
  case round =>
   obtain ⟨k,hk,rfl,htk,hB⟩:=hrel
   by_cases hlt:k<A.length
   ·have hlb:k<B.length:=by rw [←HN.out];exact hlt
    have hlt':(k:Int)<(A.length:Int):=by omega
    have hlb':(k:Int)<(B.length:Int):=by omega
    obtain ⟨hA,g1,off,rfl,hg,c_0,c_1,c_2⟩:=HA.out _ hB k hlt
    obtain ⟨hA2,g2,off2,rfl,hg2,d_0,d_1,d_2⟩:=HB.out _ (hB.alloc hB.size (.cells #[A[k].vm,A[k].vf,A[k].vb] 46)) k hlb
    have HT:Hid (eq A[k] B[k]=true→∀ j (h1:j<A.length) (h2:j<B.length),j<k+1→eq A[j] B[j]=true):=fun h j h1 h2 hj=>by
     rcases Nat.lt_or_ge j k with h3 | h3
     ·exact htk.out j h1 h2 h3
     ·obtain rfl:j=k:=by omega
      exact h
    have HG:Hid (eq A[k] B[k]=false→Ob.eqL eq A B=false):=fun h=>Ob.eqL_not A B k hlt hlb h
    have GO1:=GO.out A[k] (List.getElem_mem hlt) B[k] (List.getElem_mem hlb)
    generalize A[k]=x at *
    generalize B[k]=y at *
    have HM:=hide (fun W (h:Below wr.heap.size wr W) (h2:Below (wr.alloc (.cells #[x.vm,x.vf,x.vb] 46)).heap.size (wr.alloc (.cells #[x.vm,x.vf,x.vb] 46)) W)=>GO1 W (bb2 hB h) (ERl.below _ _ _ hA h) (ERl.below _ _ _ hA2 h2))
    clear hA hA2 GO1
    cases hq:eq x y
    ·have hq2:=hide (HG.out hq)
     rw [hq] at HM
     clear hq HG HT
     obtain ⟨ms0,am0,cm0,fs0,af0,cf0,bs0,ab0,cb0⟩:=x
     obtain ⟨ms1,am1,cm1,fs1,af1,cf1,bs1,ab1,cb1⟩:=y
     try dsimp only at *
     go_wp2_with fail
     refine (HM.out _ (((Below.refl _ _).alloc (Nat.le_refl _) _).alloc (by simp) _) ((Below.refl _ _).alloc (Nat.le_refl _) _)).mono ?_
     rintro e w1 ⟨rfl,hb1⟩
     go_wp2_with fail
     go_ret
     exact ⟨aA1 (by rw [hq2.out]),bb2 hB (aA5 (aA5 hb1))⟩
    ·have hq2:=hide (HT.out hq)
     rw [hq] at HM
     clear hq HG HT
     obtain ⟨ms0,am0,cm0,fs0,af0,cf0,bs0,ab0,cb0⟩:=x
     obtain ⟨ms1,am1,cm1,fs1,af1,cf1,bs1,ab1,cb1⟩:=y
     try dsimp only at *
     go_wp2_with fail
     refine (HM.out _ (((Below.refl _ _).alloc (Nat.le_refl _) _).alloc (by simp) _) ((Below.refl _ _).alloc (Nat.le_refl _) _)).mono ?_
     rintro e w1 ⟨rfl,hb1⟩
     go_wp2_with fail
     exact ⟨⟨k+1,by omega,by go_num,hq2.out,bb2 hB (aA5 (aA5 hb1))⟩,by simp [intOf];omega⟩
   ·have hlt':¬ (k:Int)<(A.length:Int):=by omega
    have hq:Hid (Ob.eqL eq A B=true):=Ob.eqL_yes A B HN.out fun j h1 h2=>htk.out j h1 h2 (by omega)
    go_wp2_with fail
    go_ret
    exact ⟨aA1 (by rw [hq.out]),hB⟩
 ·have hx:((A.length:Int) != (B.length:Int))=true:=by rw [bne_iff_ne];omega
  have hd:=hide (Ob.eqL_len (eq:=eq) A B hne)
  clear hne
  go_enter Tryz.func36,Tryz.ntmps36
  go_wp2_with fail
  go_ret
  exact ⟨aA1 hd.out.symm,Below.refl _ _⟩
theorem eqfM (eq:MV→MV→Bool) (g:Nat) (va vb:Value) (A B:List MV) (w:World) (ha:Sl EM w va A) (hb:Sl EM w vb B) (ent:∀ (args:Array Value) (w:World),(callFunc g args).run Tryz.prog w=.ok (.enter g args) w)
  (go:∀ x∈A,∀ y∈B,∀ W,Below w.heap.size w W→EM.A x W→EM.A y W→Calls Tryz.prog g #[(mV x.m x.vh x.vq),(mV y.m y.vh y.vq)] W fun e w'=>e=.returned (.bool (eq x y))∧Below W.heap.size W w') :
  Calls Tryz.prog 72 #[va,vb,.func (.func g) #[] #[]] w fun e w'=>e=.returned (.bool (Ob.eqL eq A B))∧Below w.heap.size w w':=by
 have hlen:=ha.len
 obtain ⟨a,ca,rfl⟩:=ha.form
 obtain ⟨b,cb,rfl⟩:=hb.form
 have HA:=hide (fun W (hB:Below w.heap.size w W) k (hk:k<A.length)=>oneM ha hB hk)
 have HB:=hide (fun W (hB:Below w.heap.size w W) k (hk:k<B.length)=>oneM hb hB hk)
 have GO:=hide go
 clear ha hb go
 by_cases hne:A.length=B.length
 ·have hx:((A.length:Int) != (B.length:Int))=false:=by rw [bne_eq_false_iff_eq];omega
  have HN:=hide hne
  clear hne
  go_enter Tryz.func72,Tryz.ntmps72
  go_wp2_with fail
  go_loopw [17] (fun i wr=>∃ k:Nat,k≤A.length∧i=.int .i64 k∧Hid (∀ j (h1:j<A.length) (h2:j<B.length),j<k→eq A[j] B[j]=true)∧Below w.heap.size w wr) (fun i _=>A.length - (intOf i).toNat)
  case atStart=>exact ⟨0,Nat.zero_le _,rfl,fun j _ _ hj=>absurd hj (by omega),Below.refl _ _⟩
  case round =>
   obtain ⟨k,hk,rfl,htk,hB⟩:=hrel
   by_cases hlt:k<A.length
   ·have hlb:k<B.length:=by rw [←HN.out];exact hlt
    have hlt':(k:Int)<(A.length:Int):=by omega
    have hlb':(k:Int)<(B.length:Int):=by omega
    obtain ⟨hA,g1,off,rfl,hg,c_0,c_1,c_2,c_3,c_4⟩:=HA.out _ hB k hlt
    obtain ⟨hA2,g2,off2,rfl,hg2,d_0,d_1,d_2,d_3,d_4⟩:=HB.out _ (hB.alloc hB.size (.cells #[.int .i64 A[k].m.kind,.string A[k].m.val,.string A[k].m.meth,A[k].vh,A[k].vq] 61)) k hlb
    have HT:Hid (eq A[k] B[k]=true→∀ j (h1:j<A.length) (h2:j<B.length),j<k+1→eq A[j] B[j]=true):=fun h j h1 h2 hj=>by
     rcases Nat.lt_or_ge j k with h3 | h3
     ·exact htk.out j h1 h2 h3
     ·obtain rfl:j=k:=by omega
      exact h
    have HG:Hid (eq A[k] B[k]=false→Ob.eqL eq A B=false):=fun h=>Ob.eqL_not A B k hlt hlb h
    have GO1:=GO.out A[k] (List.getElem_mem hlt) B[k] (List.getElem_mem hlb)
    generalize A[k]=x at *
    generalize B[k]=y at *
    have HM:=hide (fun W (h:Below wr.heap.size wr W) (h2:Below (wr.alloc (.cells #[.int .i64 x.m.kind,.string x.m.val,.string x.m.meth,x.vh,x.vq] 61)).heap.size (wr.alloc (.cells #[.int .i64 x.m.kind,.string x.m.val,.string x.m.meth,x.vh,x.vq] 61)) W)=>GO1 W (bb2 hB h) (EM.below _ _ _ hA h) (EM.below _ _ _ hA2 h2))
    clear hA hA2 GO1
    cases hq:eq x y
    ·have hq2:=hide (HG.out hq)
     rw [hq] at HM
     clear hq HG HT
     obtain ⟨⟨k0,v0,m0,hd0,qu0⟩,ah0,ch0,aq0,cq0⟩:=x
     obtain ⟨⟨k1,v1,m1,hd1,qu1⟩,ah1,ch1,aq1,cq1⟩:=y
     try dsimp only at *
     go_wp2_with fail
     refine (HM.out _ (((Below.refl _ _).alloc (Nat.le_refl _) _).alloc (by simp) _) ((Below.refl _ _).alloc (Nat.le_refl _) _)).mono ?_
     rintro e w1 ⟨rfl,hb1⟩
     go_wp2_with fail
     go_ret
     exact ⟨aA1 (by rw [hq2.out]),bb2 hB (aA5 (aA5 hb1))⟩
    ·have hq2:=hide (HT.out hq)
     rw [hq] at HM
     clear hq HG HT
     obtain ⟨⟨k0,v0,m0,hd0,qu0⟩,ah0,ch0,aq0,cq0⟩:=x
     obtain ⟨⟨k1,v1,m1,hd1,qu1⟩,ah1,ch1,aq1,cq1⟩:=y
     try dsimp only at *
     go_wp2_with fail
     refine (HM.out _ (((Below.refl _ _).alloc (Nat.le_refl _) _).alloc (by simp) _) ((Below.refl _ _).alloc (Nat.le_refl _) _)).mono ?_
     rintro e w1 ⟨rfl,hb1⟩
     go_wp2_with fail
     exact ⟨⟨k+1,by omega,by go_num,hq2.out,bb2 hB (aA5 (aA5 hb1))⟩,by simp [intOf];omega⟩
   ·have hlt':¬ (k:Int)<(A.length:Int):=by omega
    have hq:Hid (Ob.eqL eq A B=true):=Ob.eqL_yes A B HN.out fun j h1 h2=>htk.out j h1 h2 (by omega)
    go_wp2_with fail
    go_ret
    exact ⟨aA1 (by rw [hq.out]),hB⟩
 ·have hx:((A.length:Int) != (B.length:Int))=true:=by rw [bne_iff_ne];omega
  have hd:=hide (Ob.eqL_len (eq:=eq) A B hne)
  clear hne
  go_enter Tryz.func72,Tryz.ntmps72
  go_wp2_with fail
  go_ret
  exact ⟨aA1 hd.out.symm,Below.refl _ _⟩
end Go.Proofs.YthfnjcbiiofkhaaGreatDoor
namespace Go.Proofs.YthfnjcbiiofkhaaGreatDoor
open Go Go.RowKit Go.Shelf
theorem aZ7 (P:Int→Bool) (b bx:Nat) (v:Value) (l:List Int) (w:World) (hv:Sl EI w v l) (go:∀ x∈l,∀ W,Below w.heap.size w W→EI.A x W→Calls Tryz.prog 137 #[(.int .i64 x),.pointer (some ⟨b,0,none⟩),.pointer (some ⟨bx,0,none⟩)] W fun e w'=>e=.returned (.bool (P x))∧Below W.heap.size W w') :
  Calls Tryz.prog 178 #[v,.func (.func 137) #[] #[.pointer (some ⟨b,0,none⟩),.pointer (some ⟨bx,0,none⟩)]] w fun e w'=>e=.returned (.int .i64 (idxG P l))∧Below w.heap.size w w':=by
 have hlen:=hv.len
 obtain ⟨a,cap,rfl⟩:=hv.form
 have HC:=hide (fun W (hB:Below w.heap.size w W) k (hk:k<l.length)=>oneI hv hB hk)
 have GO:=hide go
 clear hv go
 have ent:∀ (args:Array Value) (w:World),(callFunc 137 args).run Tryz.prog w=.ok (.enter 137 args) w:=fun args w=>aAd Tryz.func137 (by kernel_rfl) rfl args w
 go_enter Tryz.func178,Tryz.ntmps178
 go_wp2_with fail
 go_loopw [8] (fun i wr=>∃ k:Nat,k≤l.length∧i=.int .i64 k∧Hid (∀ j (h:j<l.length),j<k→P l[j]=false)∧Below w.heap.size w wr) (fun i _=>l.length - (intOf i).toNat)
 case atStart=>exact ⟨0,Nat.zero_le _,rfl,fun j h hj=>absurd hj (by omega),Below.refl _ _⟩
 case round =>
  obtain ⟨k,hk,rfl,hno,hB⟩:=hrel
  by_cases hlt:k<l.length
  ·have hlt':(k:Int)<(l.length:Int):=by omega
   obtain ⟨hA,gg,off,rfl,hgg,c0⟩:=HC.out _ hB k hlt
   have C1:=hide (GO.out l[k] (List.getElem_mem hlt) wr hB hA)
   clear hA
   cases hs:P l[k]
   ·have HN:Hid (∀ j (h:j<l.length),j<k+1→P l[j]=false):=fun j h hj=>by
     rcases Nat.lt_or_ge j k with h1 | h1
     ·exact hno.out j h h1
     ·obtain rfl:j=k:=by omega
      exact hs
    rw [hs] at C1
    clear hs
    generalize l[k]=fk at *
    try dsimp only at *
    go_wp2_with fail
    refine (C1.out).mono ?_
    rintro e w1 ⟨rfl,hb1⟩
    go_wp2_with fail
    exact ⟨⟨k+1,by omega,by go_num,HN.out,bb2 hB hb1⟩,by simp [intOf];omega⟩
   ·have HI:Hid ((k:Int)=idxG P l):=(aBx hlt hno.out hs).symm
    rw [hs] at C1
    clear hs
    generalize l[k]=fk at *
    try dsimp only at *
    go_wp2_with fail
    refine (C1.out).mono ?_
    rintro e w1 ⟨rfl,hb1⟩
    go_wp2_with fail
    go_ret
    exact ⟨aAf HI.out,bb2 hB hb1⟩
  ·have hlt':¬ (k:Int)<(l.length:Int):=by omega
   have HI:Hid (-1=idxG P l):=(aC6 (fun j h=>hno.out j h (by omega))).symm
   go_wp2_with fail
   go_ret
   exact ⟨aAf HI.out,hB⟩
theorem aZ8 (P:Int→Bool) (b bx:Nat) (v:Value) (l:List Int) (w:World) (hv:Sl EI w v l) (go:∀ x∈l,∀ W,Below w.heap.size w W→EI.A x W→Calls Tryz.prog 137 #[(.int .i64 x),.pointer (some ⟨b,0,none⟩),.pointer (some ⟨bx,0,none⟩)] W fun e w'=>e=.returned (.bool (P x))∧Below W.heap.size W w') :
  Calls Tryz.prog 134 #[v,.func (.func 137) #[] #[.pointer (some ⟨b,0,none⟩),.pointer (some ⟨bx,0,none⟩)]] w fun e w'=>e=.returned (.bool (l.any P))∧Below w.heap.size w w':=by
 have C1:=hide (aZ7 P b bx v l w hv go)
 have HE:=hide (aC7 P l)
 clear hv go
 go_enter Tryz.func134,Tryz.ntmps134
 go_wp2_with fail
 refine (C1.out).mono ?_
 rintro e w1 ⟨rfl,hb1⟩
 go_wp2_with fail
 go_ret
 exact ⟨aA1 HE.out,hb1⟩
theorem dclI (same:Int→Int→Bool) (g b bx:Nat) (x y:Int) (w:World) (ent:∀ (args:Array Value) (w:World),(callFunc g args).run Tryz.prog w=.ok (.enter g args) w) (_:b<w.heap.size) (hc:w.cell? ⟨b,0,none⟩=some (.func (.func g) #[] #[])) (_:bx<w.heap.size) (hx:EI.At w bx 0 x)
  (go:∀ W,Below w.heap.size w W→Calls Tryz.prog g #[(.int .i64 x),(.int .i64 y)] W fun e w'=>e=.returned (.bool (same x y))∧Below W.heap.size W w') :
  Calls Tryz.prog 137 #[(.int .i64 y),.pointer (some ⟨b,0,none⟩),.pointer (some ⟨bx,0,none⟩)] w fun e w'=>e=.returned (.bool (same x y))∧Below w.heap.size w w':=by
 have c0:=aUy hx
 have GO:=hide (go _ (Below.refl w.heap.size w))
 clear go hx
 generalize same x y=r at *
 go_enter Tryz.func137,Tryz.ntmps137
 go_wp2_with fail
 refine (GO.out).mono ?_
 rintro e w1 ⟨rfl,hb1⟩
 go_wp2_with fail
 go_ret
 exact ⟨rfl,hb1⟩
theorem difI (same:Int→Int→Bool) (g:Nat) (v:Value) (l:List Int) (w:World) (hv:Sl EI w v l) (ent:∀ (args:Array Value) (w:World),(callFunc g args).run Tryz.prog w=.ok (.enter g args) w)
  (go:∀ x∈l,∀ y∈l,∀ W,Below w.heap.size w W→Calls Tryz.prog g #[(.int .i64 x),(.int .i64 y)] W fun e w'=>e=.returned (.bool (same x y))∧Below W.heap.size W w') :
  Calls Tryz.prog 92 #[v,.func (.func g) #[] #[]] w fun e w'=>e=.returned (.bool (Ob.dif same l))∧Below w.heap.size w w':=by
 have hlen:=hv.len
 have hmf:∀ (fn:Fn) (first cap:Array Value) (w:World),(Instr.makeFunc fn first cap).run Tryz.prog w=.ok (.func fn first cap) w:=fun _ _ _ _=>rfl
 have B1:Below w.heap.size w (w.alloc (.cells #[.func (.func g) #[] #[]] 120)):=(Below.refl _ w).alloc (Nat.le_refl _) _
 have HF:Hid (∀ W,Below (w.alloc (.cells #[.func (.func g) #[] #[]] 120)).heap.size (w.alloc (.cells #[.func (.func g) #[] #[]] 120)) W→w.heap.size<W.heap.size∧W.cell? ⟨w.heap.size,0,none⟩=some (.func (.func g) #[] #[])):=fun W hW=>⟨by have:=hW.size;simp at this;omega,(hW.cell (p:=⟨w.heap.size,0,none⟩) (by simp)).trans (aA2 (aA7 w _) rfl)⟩
 have HV:=hide (hv.below B1)
 have GO:=hide go
 have HB1:=hide B1
 obtain ⟨a,cap,rfl,hcap,hmax,_⟩:=hv
 have HC:=hide (fun W (hB:Below (w.alloc (.cells #[.func (.func g) #[] #[]] 120)).heap.size (w.alloc (.cells #[.func (.func g) #[] #[]] 120)) W) k (hk:k<l.length)=>oneI HV.out hB hk)
 clear go B1
 have hcap':(l.length:Int)≤(cap:Int):=by omega
 go_enter Tryz.func92,Tryz.ntmps92
 go_wp2_with fail
 go_loopw [9] (fun i wr=>∃ k:Nat,k≤l.length∧i=.int .i64 k∧Hid (∀ j (hj:j<l.length),j<k→(l.take j).any (same l[j])=false)∧Below (w.alloc (.cells #[.func (.func g) #[] #[]] 120)).heap.size (w.alloc (.cells #[.func (.func g) #[] #[]] 120)) wr) (fun i _=>l.length - (intOf i).toNat)
 case atStart=>exact ⟨0,Nat.zero_le _,rfl,fun j h hj=>absurd hj (by omega),Below.refl _ _⟩
 case round =>
  obtain ⟨k,hk,rfl,hno,hB⟩:=hrel
  by_cases hlt:k<l.length
  ·have hlt':(k:Int)<(l.length:Int):=by omega
   have hkc:(k:Int)≤(cap:Int):=by omega
   obtain ⟨_,gg,off,rfl,hgg,c0⟩:=HC.out _ hB k hlt
   have B2:Below wr.heap.size wr (wr.alloc (.cells #[.int .i64 l[k]] 3)):=(Below.refl _ wr).alloc (Nat.le_refl _) _
   have C2:=hide (aZ8 (same l[k]) w.heap.size wr.heap.size (.slice (some ⟨gg,off,none⟩) k cap) (l.take k) (wr.alloc (.cells #[.int .i64 l[k]] 3)) ((HV.out.pre (k:=k) (by omega)).below (bb2 hB B2)) fun y hy W hW hAy =>
    dclI same g w.heap.size wr.heap.size l[k] y W ent (HF.out W (bb2 (bb2 hB B2) hW)).1 (HF.out W (bb2 (bb2 hB B2) hW)).2 (by have:=hW.size;simp at this;omega) (boxI hW) fun W2 h2=>GO.out l[k] (List.getElem_mem hlt) y (List.mem_of_mem_take hy) W2 (bb2 HB1.out (bb2 (bb2 (bb2 hB B2) hW) h2)))
   have HY:Hid ((l.take k).any (same l[k])=false→∀ j (hj:j<l.length),j<k+1→(l.take j).any (same l[j])=false):=fun h2 j h hj=>by
    rcases Nat.lt_or_ge j k with h3 | h3
    ·exact hno.out j h h3
    ·obtain rfl:j=k:=by omega
     exact h2
   have HN:=hide (fun h=>Ob.dif_not (same:=same) (l:=l) (k:=k) hlt h)
   have HB2:=hide B2
   clear B2
   generalize (l.take k).any (same l[k])=x2 at *
   generalize l[k]=fk at *
   try dsimp only at *
   cases x2
   ·have HZ:=hide (HY.out rfl)
    clear HN HY
    go_wp2_with fail
    refine (C2.out).mono ?_
    rintro e w1 ⟨rfl,hb1⟩
    go_wp2_with fail
    exact ⟨⟨k+1,by omega,by go_num,HZ.out,bb2 hB (bb2 HB2.out hb1)⟩,by simp [intOf];omega⟩
   ·have HR:Hid (false=Ob.dif same l):=(HN.out rfl).symm
    clear HN HY
    go_wp2_with fail
    refine (C2.out).mono ?_
    rintro e w1 ⟨rfl,hb1⟩
    go_wp2_with fail
    go_ret
    exact ⟨aA1 HR.out,bb2 HB1.out (bb2 hB (bb2 HB2.out hb1))⟩
  ·have hlt':¬ (k:Int)<(l.length:Int):=by omega
   have HR:Hid (true=Ob.dif same l):=(Ob.dif_yes (fun j h=>hno.out j h (by omega))).symm
   go_wp2_with fail
   go_ret
   exact ⟨aA1 HR.out,bb2 HB1.out hB⟩
theorem aZ9 (P:ByteArray→Bool) (b bx:Nat) (v:Value) (l:List ByteArray) (w:World) (hv:Sl ES w v l) (go:∀ x∈l,∀ W,Below w.heap.size w W→ES.A x W→Calls Tryz.prog 151 #[(.string x),.pointer (some ⟨b,0,none⟩),.pointer (some ⟨bx,0,none⟩)] W fun e w'=>e=.returned (.bool (P x))∧Below W.heap.size W w') :
  Calls Tryz.prog 183 #[v,.func (.func 151) #[] #[.pointer (some ⟨b,0,none⟩),.pointer (some ⟨bx,0,none⟩)]] w fun e w'=>e=.returned (.int .i64 (idxG P l))∧Below w.heap.size w w':=by
 have hlen:=hv.len
 obtain ⟨a,cap,rfl⟩:=hv.form
 have HC:=hide (fun W (hB:Below w.heap.size w W) k (hk:k<l.length)=>oneS hv hB hk)
 have GO:=hide go
 clear hv go
 have ent:∀ (args:Array Value) (w:World),(callFunc 151 args).run Tryz.prog w=.ok (.enter 151 args) w:=fun args w=>aAd Tryz.func151 (by kernel_rfl) rfl args w
 go_enter Tryz.func183,Tryz.ntmps183
 go_wp2_with fail
 go_loopw [8] (fun i wr=>∃ k:Nat,k≤l.length∧i=.int .i64 k∧Hid (∀ j (h:j<l.length),j<k→P l[j]=false)∧Below w.heap.size w wr) (fun i _=>l.length - (intOf i).toNat)
 case atStart=>exact ⟨0,Nat.zero_le _,rfl,fun j h hj=>absurd hj (by omega),Below.refl _ _⟩
 case round =>
  obtain ⟨k,hk,rfl,hno,hB⟩:=hrel
  by_cases hlt:k<l.length
  ·have hlt':(k:Int)<(l.length:Int):=by omega
   obtain ⟨hA,gg,off,rfl,hgg,c0⟩:=HC.out _ hB k hlt
   have C1:=hide (GO.out l[k] (List.getElem_mem hlt) wr hB hA)
   clear hA
   cases hs:P l[k]
   ·have HN:Hid (∀ j (h:j<l.length),j<k+1→P l[j]=false):=fun j h hj=>by
     rcases Nat.lt_or_ge j k with h1 | h1
     ·exact hno.out j h h1
     ·obtain rfl:j=k:=by omega
      exact hs
    rw [hs] at C1
    clear hs
    generalize l[k]=fk at *
    try dsimp only at *
    go_wp2_with fail
    refine (C1.out).mono ?_
    rintro e w1 ⟨rfl,hb1⟩
    go_wp2_with fail
    exact ⟨⟨k+1,by omega,by go_num,HN.out,bb2 hB hb1⟩,by simp [intOf];omega⟩
   ·have HI:Hid ((k:Int)=idxG P l):=(aBx hlt hno.out hs).symm
    rw [hs] at C1
    clear hs
    generalize l[k]=fk at *
    try dsimp only at *
    go_wp2_with fail
    refine (C1.out).mono ?_
    rintro e w1 ⟨rfl,hb1⟩
    go_wp2_with fail
    go_ret
    exact ⟨aAf HI.out,bb2 hB hb1⟩
  ·have hlt':¬ (k:Int)<(l.length:Int):=by omega
   have HI:Hid (-1=idxG P l):=(aC6 (fun j h=>hno.out j h (by omega))).symm
   go_wp2_with fail
   go_ret
   exact ⟨aAf HI.out,hB⟩
theorem aZa (P:ByteArray→Bool) (b bx:Nat) (v:Value) (l:List ByteArray) (w:World) (hv:Sl ES w v l) (go:∀ x∈l,∀ W,Below w.heap.size w W→ES.A x W→Calls Tryz.prog 151 #[(.string x),.pointer (some ⟨b,0,none⟩),.pointer (some ⟨bx,0,none⟩)] W fun e w'=>e=.returned (.bool (P x))∧Below W.heap.size W w') :
  Calls Tryz.prog 149 #[v,.func (.func 151) #[] #[.pointer (some ⟨b,0,none⟩),.pointer (some ⟨bx,0,none⟩)]] w fun e w'=>e=.returned (.bool (l.any P))∧Below w.heap.size w w':=by
 have C1:=hide (aZ9 P b bx v l w hv go)
 have HE:=hide (aC7 P l)
 clear hv go
 go_enter Tryz.func149,Tryz.ntmps149
 go_wp2_with fail
 refine (C1.out).mono ?_
 rintro e w1 ⟨rfl,hb1⟩
 go_wp2_with fail
 go_ret
 exact ⟨aA1 HE.out,hb1⟩
theorem dclS (same:ByteArray→ByteArray→Bool) (g b bx:Nat) (x y:ByteArray) (w:World) (ent:∀ (args:Array Value) (w:World),(callFunc g args).run Tryz.prog w=.ok (.enter g args) w) (_:b<w.heap.size) (hc:w.cell? ⟨b,0,none⟩=some (.func (.func g) #[] #[])) (_:bx<w.heap.size) (hx:ES.At w bx 0 x)
  (go:∀ W,Below w.heap.size w W→Calls Tryz.prog g #[(.string x),(.string y)] W fun e w'=>e=.returned (.bool (same x y))∧Below W.heap.size W w') :
  Calls Tryz.prog 151 #[(.string y),.pointer (some ⟨b,0,none⟩),.pointer (some ⟨bx,0,none⟩)] w fun e w'=>e=.returned (.bool (same x y))∧Below w.heap.size w w':=by
 have c0:=aEb hx
 have GO:=hide (go _ (Below.refl w.heap.size w))
 clear go hx
 generalize same x y=r at *
 go_enter Tryz.func151,Tryz.ntmps151
 go_wp2_with fail
 refine (GO.out).mono ?_
 rintro e w1 ⟨rfl,hb1⟩
 go_wp2_with fail
 go_ret
 exact ⟨rfl,hb1⟩
theorem difS (same:ByteArray→ByteArray→Bool) (g:Nat) (v:Value) (l:List ByteArray) (w:World) (hv:Sl ES w v l) (ent:∀ (args:Array Value) (w:World),(callFunc g args).run Tryz.prog w=.ok (.enter g args) w)
  (go:∀ x∈l,∀ y∈l,∀ W,Below w.heap.size w W→Calls Tryz.prog g #[(.string x),(.string y)] W fun e w'=>e=.returned (.bool (same x y))∧Below W.heap.size W w') :
  Calls Tryz.prog 104 #[v,.func (.func g) #[] #[]] w fun e w'=>e=.returned (.bool (Ob.dif same l))∧Below w.heap.size w w':=by
 have hlen:=hv.len
 have hmf:∀ (fn:Fn) (first cap:Array Value) (w:World),(Instr.makeFunc fn first cap).run Tryz.prog w=.ok (.func fn first cap) w:=fun _ _ _ _=>rfl
 have B1:Below w.heap.size w (w.alloc (.cells #[.func (.func g) #[] #[]] 130)):=(Below.refl _ w).alloc (Nat.le_refl _) _
 have HF:Hid (∀ W,Below (w.alloc (.cells #[.func (.func g) #[] #[]] 130)).heap.size (w.alloc (.cells #[.func (.func g) #[] #[]] 130)) W→w.heap.size<W.heap.size∧W.cell? ⟨w.heap.size,0,none⟩=some (.func (.func g) #[] #[])):=fun W hW=>⟨by have:=hW.size;simp at this;omega,(hW.cell (p:=⟨w.heap.size,0,none⟩) (by simp)).trans (aA2 (aA7 w _) rfl)⟩
 have HV:=hide (hv.below B1)
 have GO:=hide go
 have HB1:=hide B1
 obtain ⟨a,cap,rfl,hcap,hmax,_⟩:=hv
 have HC:=hide (fun W (hB:Below (w.alloc (.cells #[.func (.func g) #[] #[]] 130)).heap.size (w.alloc (.cells #[.func (.func g) #[] #[]] 130)) W) k (hk:k<l.length)=>oneS HV.out hB hk)
 clear go B1
 have hcap':(l.length:Int)≤(cap:Int):=by omega
 go_enter Tryz.func104,Tryz.ntmps104
 go_wp2_with fail
 go_loopw [9] (fun i wr=>∃ k:Nat,k≤l.length∧i=.int .i64 k∧Hid (∀ j (hj:j<l.length),j<k→(l.take j).any (same l[j])=false)∧Below (w.alloc (.cells #[.func (.func g) #[] #[]] 130)).heap.size (w.alloc (.cells #[.func (.func g) #[] #[]] 130)) wr) (fun i _=>l.length - (intOf i).toNat)
 case atStart=>exact ⟨0,Nat.zero_le _,rfl,fun j h hj=>absurd hj (by omega),Below.refl _ _⟩
 case round =>
  obtain ⟨k,hk,rfl,hno,hB⟩:=hrel
  by_cases hlt:k<l.length
  ·have hlt':(k:Int)<(l.length:Int):=by omega
   have hkc:(k:Int)≤(cap:Int):=by omega
   obtain ⟨_,gg,off,rfl,hgg,c0⟩:=HC.out _ hB k hlt
   have B2:Below wr.heap.size wr (wr.alloc (.cells #[.string l[k]] 9)):=(Below.refl _ wr).alloc (Nat.le_refl _) _
   have C2:=hide (aZa (same l[k]) w.heap.size wr.heap.size (.slice (some ⟨gg,off,none⟩) k cap) (l.take k) (wr.alloc (.cells #[.string l[k]] 9)) ((HV.out.pre (k:=k) (by omega)).below (bb2 hB B2)) fun y hy W hW hAy =>
    dclS same g w.heap.size wr.heap.size l[k] y W ent (HF.out W (bb2 (bb2 hB B2) hW)).1 (HF.out W (bb2 (bb2 hB B2) hW)).2 (by have:=hW.size;simp at this;omega) (boxS hW) fun W2 h2=>GO.out l[k] (List.getElem_mem hlt) y (List.mem_of_mem_take hy) W2 (bb2 HB1.out (bb2 (bb2 (bb2 hB B2) hW) h2)))
   have HY:Hid ((l.take k).any (same l[k])=false→∀ j (hj:j<l.length),j<k+1→(l.take j).any (same l[j])=false):=fun h2 j h hj=>by
    rcases Nat.lt_or_ge j k with h3 | h3
    ·exact hno.out j h h3
    ·obtain rfl:j=k:=by omega
     exact h2
   have HN:=hide (fun h=>Ob.dif_not (same:=same) (l:=l) (k:=k) hlt h)
   have HB2:=hide B2
   clear B2
   generalize (l.take k).any (same l[k])=x2 at *
   generalize l[k]=fk at *
   try dsimp only at *
   cases x2
   ·have HZ:=hide (HY.out rfl)
    clear HN HY
    go_wp2_with fail
    refine (C2.out).mono ?_
    rintro e w1 ⟨rfl,hb1⟩
    go_wp2_with fail
    exact ⟨⟨k+1,by omega,by go_num,HZ.out,bb2 hB (bb2 HB2.out hb1)⟩,by simp [intOf];omega⟩
   ·have HR:Hid (false=Ob.dif same l):=(HN.out rfl).symm
    clear HN HY
    go_wp2_with fail
    refine (C2.out).mono ?_
    rintro e w1 ⟨rfl,hb1⟩
    go_wp2_with fail
    go_ret
    exact ⟨aA1 HR.out,bb2 HB1.out (bb2 hB (bb2 HB2.out hb1))⟩
  ·have hlt':¬ (k:Int)<(l.length:Int):=by omega
   have HR:Hid (true=Ob.dif same l):=(Ob.dif_yes (fun j h=>hno.out j h (by omega))).symm
   go_wp2_with fail
   go_ret
   exact ⟨aA1 HR.out,bb2 HB1.out hB⟩
theorem aXl (P:PtB→Bool) (b bx:Nat) (v:Value) (l:List PtB) (w:World) (hv:Sl EPt w v l) (go:∀ x∈l,∀ W,Below w.heap.size w W→EPt.A x W→Calls Tryz.prog 148 #[(ptV x),.pointer (some ⟨b,0,none⟩),.pointer (some ⟨bx,0,none⟩)] W fun e w'=>e=.returned (.bool (P x))∧Below W.heap.size W w') :
  Calls Tryz.prog 182 #[v,.func (.func 148) #[] #[.pointer (some ⟨b,0,none⟩),.pointer (some ⟨bx,0,none⟩)]] w fun e w'=>e=.returned (.int .i64 (idxG P l))∧Below w.heap.size w w':=by
 have hlen:=hv.len
 obtain ⟨a,cap,rfl⟩:=hv.form
 have HC:=hide (fun W (hB:Below w.heap.size w W) k (hk:k<l.length)=>aD5 hv hB hk)
 have GO:=hide go
 clear hv go
 have ent:∀ (args:Array Value) (w:World),(callFunc 148 args).run Tryz.prog w=.ok (.enter 148 args) w:=fun args w=>aAd Tryz.func148 (by kernel_rfl) rfl args w
 go_enter Tryz.func182,Tryz.ntmps182
 go_wp2_with fail
 go_loopw [8] (fun i wr=>∃ k:Nat,k≤l.length∧i=.int .i64 k∧Hid (∀ j (h:j<l.length),j<k→P l[j]=false)∧Below w.heap.size w wr) (fun i _=>l.length - (intOf i).toNat)
 case atStart=>exact ⟨0,Nat.zero_le _,rfl,fun j h hj=>absurd hj (by omega),Below.refl _ _⟩
 case round =>
  obtain ⟨k,hk,rfl,hno,hB⟩:=hrel
  by_cases hlt:k<l.length
  ·have hlt':(k:Int)<(l.length:Int):=by omega
   obtain ⟨hA,gg,off,rfl,hgg,c0,c1,c2,c3⟩:=HC.out _ hB k hlt
   have C1:=hide (GO.out l[k] (List.getElem_mem hlt) wr hB hA)
   clear hA
   cases hs:P l[k]
   ·have HN:Hid (∀ j (h:j<l.length),j<k+1→P l[j]=false):=fun j h hj=>by
     rcases Nat.lt_or_ge j k with h1 | h1
     ·exact hno.out j h h1
     ·obtain rfl:j=k:=by omega
      exact hs
    rw [hs] at C1
    clear hs
    generalize l[k]=fk at *
    obtain ⟨s0,n0,t0,p0⟩:=fk
    try dsimp only at *
    go_wp2_with fail
    refine (C1.out).mono ?_
    rintro e w1 ⟨rfl,hb1⟩
    go_wp2_with fail
    exact ⟨⟨k+1,by omega,by go_num,HN.out,bb2 hB hb1⟩,by simp [intOf];omega⟩
   ·have HI:Hid ((k:Int)=idxG P l):=(aBx hlt hno.out hs).symm
    rw [hs] at C1
    clear hs
    generalize l[k]=fk at *
    obtain ⟨s0,n0,t0,p0⟩:=fk
    try dsimp only at *
    go_wp2_with fail
    refine (C1.out).mono ?_
    rintro e w1 ⟨rfl,hb1⟩
    go_wp2_with fail
    go_ret
    exact ⟨aAf HI.out,bb2 hB hb1⟩
  ·have hlt':¬ (k:Int)<(l.length:Int):=by omega
   have HI:Hid (-1=idxG P l):=(aC6 (fun j h=>hno.out j h (by omega))).symm
   go_wp2_with fail
   go_ret
   exact ⟨aAf HI.out,hB⟩
theorem aXm (P:PtB→Bool) (b bx:Nat) (v:Value) (l:List PtB) (w:World) (hv:Sl EPt w v l) (go:∀ x∈l,∀ W,Below w.heap.size w W→EPt.A x W→Calls Tryz.prog 148 #[(ptV x),.pointer (some ⟨b,0,none⟩),.pointer (some ⟨bx,0,none⟩)] W fun e w'=>e=.returned (.bool (P x))∧Below W.heap.size W w') :
  Calls Tryz.prog 144 #[v,.func (.func 148) #[] #[.pointer (some ⟨b,0,none⟩),.pointer (some ⟨bx,0,none⟩)]] w fun e w'=>e=.returned (.bool (l.any P))∧Below w.heap.size w w':=by
 have C1:=hide (aXl P b bx v l w hv go)
 have HE:=hide (aC7 P l)
 clear hv go
 go_enter Tryz.func144,Tryz.ntmps144
 go_wp2_with fail
 refine (C1.out).mono ?_
 rintro e w1 ⟨rfl,hb1⟩
 go_wp2_with fail
 go_ret
 exact ⟨aA1 HE.out,hb1⟩
theorem aZb (same:PtB→PtB→Bool) (g b bx:Nat) (x y:PtB) (w:World) (ent:∀ (args:Array Value) (w:World),(callFunc g args).run Tryz.prog w=.ok (.enter g args) w) (hb:b<w.heap.size) (hc:w.cell? ⟨b,0,none⟩=some (.func (.func g) #[] #[])) (hbx:bx<w.heap.size) (hx:EPt.At w bx 0 x)
  (go:∀ W,Below w.heap.size w W→Calls Tryz.prog g #[(ptV x),(ptV y)] W fun e w'=>e=.returned (.bool (same x y))∧Below W.heap.size W w') :
  Calls Tryz.prog 148 #[(ptV y),.pointer (some ⟨b,0,none⟩),.pointer (some ⟨bx,0,none⟩)] w fun e w'=>e=.returned (.bool (same x y))∧Below w.heap.size w w':=by
 have B1:=(Below.refl w.heap.size w).alloc (Nat.le_refl _) (.cells (EPt.cells y).toArray 41)
 have hc':=B1.cell (p:=⟨b,0,none⟩) hb
 rw [hc] at hc'
 obtain ⟨c0,c1,c2,c3⟩:=aFg (hx.below hbx B1)
 have GO:=hide (go _ B1)
 clear go hc hx B1
 generalize same x y=r at *
 obtain ⟨s1,n1,t1,p1⟩:=x
 obtain ⟨s0,n0,t0,p0⟩:=y
 simp only [EPt,aEl,Nat.zero_add] at hc' GO c0 c1 c2 c3
 try dsimp only at hc' GO c0 c1 c2 c3
 go_enter Tryz.func148,Tryz.ntmps148
 go_wp2_with fail
 refine (GO.out).mono ?_
 rintro e w1 ⟨rfl,hb1⟩
 go_wp2_with fail
 go_ret
 exact ⟨rfl,aA5 hb1⟩
theorem aZc (same:PtB→PtB→Bool) (g:Nat) (v:Value) (l:List PtB) (w:World) (hv:Sl EPt w v l) (ent:∀ (args:Array Value) (w:World),(callFunc g args).run Tryz.prog w=.ok (.enter g args) w)
  (go:∀ x∈l,∀ y∈l,∀ W,Below w.heap.size w W→Calls Tryz.prog g #[(ptV x),(ptV y)] W fun e w'=>e=.returned (.bool (same x y))∧Below W.heap.size W w') :
  Calls Tryz.prog 100 #[v,.func (.func g) #[] #[]] w fun e w'=>e=.returned (.bool (Ob.dif same l))∧Below w.heap.size w w':=by
 have hlen:=hv.len
 have hmf:∀ (fn:Fn) (first cap:Array Value) (w:World),(Instr.makeFunc fn first cap).run Tryz.prog w=.ok (.func fn first cap) w:=fun _ _ _ _=>rfl
 have B1:Below w.heap.size w (w.alloc (.cells #[.func (.func g) #[] #[]] 127)):=(Below.refl _ w).alloc (Nat.le_refl _) _
 have HF:Hid (∀ W,Below (w.alloc (.cells #[.func (.func g) #[] #[]] 127)).heap.size (w.alloc (.cells #[.func (.func g) #[] #[]] 127)) W→w.heap.size<W.heap.size∧W.cell? ⟨w.heap.size,0,none⟩=some (.func (.func g) #[] #[])):=fun W hW=>⟨by have:=hW.size;simp at this;omega,(hW.cell (p:=⟨w.heap.size,0,none⟩) (by simp)).trans (aA2 (aA7 w _) rfl)⟩
 have HV:=hide (hv.below B1)
 have GO:=hide go
 have HB1:=hide B1
 obtain ⟨a,cap,rfl,hcap,hmax,_⟩:=hv
 have HC:=hide (fun W (hB:Below (w.alloc (.cells #[.func (.func g) #[] #[]] 127)).heap.size (w.alloc (.cells #[.func (.func g) #[] #[]] 127)) W) k (hk:k<l.length)=>aD5 HV.out hB hk)
 clear go B1
 have hcap':(l.length:Int)≤(cap:Int):=by omega
 go_enter Tryz.func100,Tryz.ntmps100
 go_wp2_with fail
 go_loopw [9] (fun i wr=>∃ k:Nat,k≤l.length∧i=.int .i64 k∧Hid (∀ j (hj:j<l.length),j<k→(l.take j).any (same l[j])=false)∧Below (w.alloc (.cells #[.func (.func g) #[] #[]] 127)).heap.size (w.alloc (.cells #[.func (.func g) #[] #[]] 127)) wr) (fun i _=>l.length - (intOf i).toNat)
 case atStart=>exact ⟨0,Nat.zero_le _,rfl,fun j h hj=>absurd hj (by omega),Below.refl _ _⟩
 case round =>
  obtain ⟨k,hk,rfl,hno,hB⟩:=hrel
  by_cases hlt:k<l.length
  ·have hlt':(k:Int)<(l.length:Int):=by omega
   have hkc:(k:Int)≤(cap:Int):=by omega
   obtain ⟨_,gg,off,rfl,hgg,c0,c1,c2,c3⟩:=HC.out _ hB k hlt
   have B2:Below wr.heap.size wr (wr.alloc (.cells #[.string l[k].space,.string l[k].name,.string l[k].sect,.int .i64 l[k].port] 41)):=(Below.refl _ wr).alloc (Nat.le_refl _) _
   have C2:=hide (aXm (same l[k]) w.heap.size wr.heap.size (.slice (some ⟨gg,off,none⟩) k cap) (l.take k) (wr.alloc (.cells #[.string l[k].space,.string l[k].name,.string l[k].sect,.int .i64 l[k].port] 41)) ((HV.out.pre (k:=k) (by omega)).below (bb2 hB B2)) fun y hy W hW hAy =>
    aZb same g w.heap.size wr.heap.size l[k] y W ent (HF.out W (bb2 (bb2 hB B2) hW)).1 (HF.out W (bb2 (bb2 hB B2) hW)).2 (by have:=hW.size;simp at this;omega) (aJ4 hW) fun W2 h2=>GO.out l[k] (List.getElem_mem hlt) y (List.mem_of_mem_take hy) W2 (bb2 HB1.out (bb2 (bb2 (bb2 hB B2) hW) h2)))
   have HY:Hid ((l.take k).any (same l[k])=false→∀ j (hj:j<l.length),j<k+1→(l.take j).any (same l[j])=false):=fun h2 j h hj=>by
    rcases Nat.lt_or_ge j k with h3 | h3
    ·exact hno.out j h h3
    ·obtain rfl:j=k:=by omega
     exact h2
   have HN:=hide (fun h=>Ob.dif_not (same:=same) (l:=l) (k:=k) hlt h)
   have HB2:=hide B2
   clear B2
   generalize (l.take k).any (same l[k])=x2 at *
   generalize l[k]=fk at *
   obtain ⟨s0,n0,t0,p0⟩:=fk
   try dsimp only at *
   cases x2
   ·have HZ:=hide (HY.out rfl)
    clear HN HY
    go_wp2_with fail
    refine (C2.out).mono ?_
    rintro e w1 ⟨rfl,hb1⟩
    go_wp2_with fail
    exact ⟨⟨k+1,by omega,by go_num,HZ.out,bb2 hB (bb2 HB2.out hb1)⟩,by simp [intOf];omega⟩
   ·have HR:Hid (false=Ob.dif same l):=(HN.out rfl).symm
    clear HN HY
    go_wp2_with fail
    refine (C2.out).mono ?_
    rintro e w1 ⟨rfl,hb1⟩
    go_wp2_with fail
    go_ret
    exact ⟨aA1 HR.out,bb2 HB1.out (bb2 hB (bb2 HB2.out hb1))⟩
  ·have hlt':¬ (k:Int)<(l.length:Int):=by omega
   have HR:Hid (true=Ob.dif same l):=(Ob.dif_yes (fun j h=>hno.out j h (by omega))).symm
   go_wp2_with fail
   go_ret
   exact ⟨aA1 HR.out,bb2 HB1.out hB⟩
theorem aXn (P:LiV→Bool) (b bx:Nat) (v:Value) (l:List LiV) (w:World) (hv:Sl ELi w v l) (go:∀ x∈l,∀ W,Below w.heap.size w W→ELi.A x W→Calls Tryz.prog 143 #[(liV x),.pointer (some ⟨b,0,none⟩),.pointer (some ⟨bx,0,none⟩)] W fun e w'=>e=.returned (.bool (P x))∧Below W.heap.size W w') :
  Calls Tryz.prog 179 #[v,.func (.func 143) #[] #[.pointer (some ⟨b,0,none⟩),.pointer (some ⟨bx,0,none⟩)]] w fun e w'=>e=.returned (.int .i64 (idxG P l))∧Below w.heap.size w w':=by
 have hlen:=hv.len
 obtain ⟨a,cap,rfl⟩:=hv.form
 have HC:=hide (fun W (hB:Below w.heap.size w W) k (hk:k<l.length)=>aD9 hv hB hk)
 have GO:=hide go
 clear hv go
 have ent:∀ (args:Array Value) (w:World),(callFunc 143 args).run Tryz.prog w=.ok (.enter 143 args) w:=fun args w=>aAd Tryz.func143 (by kernel_rfl) rfl args w
 go_enter Tryz.func179,Tryz.ntmps179
 go_wp2_with fail
 go_loopw [8] (fun i wr=>∃ k:Nat,k≤l.length∧i=.int .i64 k∧Hid (∀ j (h:j<l.length),j<k→P l[j]=false)∧Below w.heap.size w wr) (fun i _=>l.length - (intOf i).toNat)
 case atStart=>exact ⟨0,Nat.zero_le _,rfl,fun j h hj=>absurd hj (by omega),Below.refl _ _⟩
 case round =>
  obtain ⟨k,hk,rfl,hno,hB⟩:=hrel
  by_cases hlt:k<l.length
  ·have hlt':(k:Int)<(l.length:Int):=by omega
   obtain ⟨hA,gg,off,rfl,hgg,c0,c1,c2,c3,c4,c5,c6,c7,c8⟩:=HC.out _ hB k hlt
   have C1:=hide (GO.out l[k] (List.getElem_mem hlt) wr hB hA)
   clear hA
   cases hs:P l[k]
   ·have HN:Hid (∀ j (h:j<l.length),j<k+1→P l[j]=false):=fun j h hj=>by
     rcases Nat.lt_or_ge j k with h1 | h1
     ·exact hno.out j h h1
     ·obtain rfl:j=k:=by omega
      exact hs
    rw [hs] at C1
    clear hs
    generalize l[k]=fk at *
    obtain ⟨n0,p0,t0,h0,⟨ck0,cs0,cn0⟩,f0,nd0,a0,c0⟩:=fk
    try dsimp only at *
    go_wp2_with fail
    refine (C1.out).mono ?_
    rintro e w1 ⟨rfl,hb1⟩
    go_wp2_with fail
    exact ⟨⟨k+1,by omega,by go_num,HN.out,bb2 hB hb1⟩,by simp [intOf];omega⟩
   ·have HI:Hid ((k:Int)=idxG P l):=(aBx hlt hno.out hs).symm
    rw [hs] at C1
    clear hs
    generalize l[k]=fk at *
    obtain ⟨n0,p0,t0,h0,⟨ck0,cs0,cn0⟩,f0,nd0,a0,c0⟩:=fk
    try dsimp only at *
    go_wp2_with fail
    refine (C1.out).mono ?_
    rintro e w1 ⟨rfl,hb1⟩
    go_wp2_with fail
    go_ret
    exact ⟨aAf HI.out,bb2 hB hb1⟩
  ·have hlt':¬ (k:Int)<(l.length:Int):=by omega
   have HI:Hid (-1=idxG P l):=(aC6 (fun j h=>hno.out j h (by omega))).symm
   go_wp2_with fail
   go_ret
   exact ⟨aAf HI.out,hB⟩
theorem aXo (P:LiV→Bool) (b bx:Nat) (v:Value) (l:List LiV) (w:World) (hv:Sl ELi w v l) (go:∀ x∈l,∀ W,Below w.heap.size w W→ELi.A x W→Calls Tryz.prog 143 #[(liV x),.pointer (some ⟨b,0,none⟩),.pointer (some ⟨bx,0,none⟩)] W fun e w'=>e=.returned (.bool (P x))∧Below W.heap.size W w') :
  Calls Tryz.prog 138 #[v,.func (.func 143) #[] #[.pointer (some ⟨b,0,none⟩),.pointer (some ⟨bx,0,none⟩)]] w fun e w'=>e=.returned (.bool (l.any P))∧Below w.heap.size w w':=by
 have C1:=hide (aXn P b bx v l w hv go)
 have HE:=hide (aC7 P l)
 clear hv go
 go_enter Tryz.func138,Tryz.ntmps138
 go_wp2_with fail
 refine (C1.out).mono ?_
 rintro e w1 ⟨rfl,hb1⟩
 go_wp2_with fail
 go_ret
 exact ⟨aA1 HE.out,hb1⟩
theorem aZd (same:LiV→LiV→Bool) (g b bx:Nat) (x y:LiV) (w:World) (ent:∀ (args:Array Value) (w:World),(callFunc g args).run Tryz.prog w=.ok (.enter g args) w) (hb:b<w.heap.size) (hc:w.cell? ⟨b,0,none⟩=some (.func (.func g) #[] #[])) (hbx:bx<w.heap.size) (hx:ELi.At w bx 0 x)
  (go:∀ W,Below w.heap.size w W→Calls Tryz.prog g #[(liV x),(liV y)] W fun e w'=>e=.returned (.bool (same x y))∧Below W.heap.size W w') :
  Calls Tryz.prog 143 #[(liV y),.pointer (some ⟨b,0,none⟩),.pointer (some ⟨bx,0,none⟩)] w fun e w'=>e=.returned (.bool (same x y))∧Below w.heap.size w w':=by
 have B1:=(Below.refl w.heap.size w).alloc (Nat.le_refl _) (.cells (ELi.cells y).toArray 55)
 have hc':=B1.cell (p:=⟨b,0,none⟩) hb
 rw [hc] at hc'
 obtain ⟨c0,c1,c2,c3,c4,c5,c6,c7,c8⟩:=aBj (hx.below hbx B1)
 have GO:=hide (go _ B1)
 clear go hc hx B1
 generalize same x y=r at *
 obtain ⟨n1,p1,t1,h1,⟨ck1,cs1,cn1⟩,f1,nd1,a1,c1⟩:=x
 obtain ⟨n0,p0,t0,h0,⟨ck0,cs0,cn0⟩,f0,nd0,a0,c0⟩:=y
 simp only [ELi,aDh,Nat.zero_add] at hc' GO c0 c1 c2 c3 c4 c5 c6 c7 c8
 try dsimp only at hc' GO c0 c1 c2 c3 c4 c5 c6 c7 c8
 go_enter Tryz.func143,Tryz.ntmps143
 go_wp2_with fail
 refine (GO.out).mono ?_
 rintro e w1 ⟨rfl,hb1⟩
 go_wp2_with fail
 go_ret
 exact ⟨rfl,aA5 hb1⟩
theorem aZe (same:LiV→LiV→Bool) (g:Nat) (v:Value) (l:List LiV) (w:World) (hv:Sl ELi w v l) (ent:∀ (args:Array Value) (w:World),(callFunc g args).run Tryz.prog w=.ok (.enter g args) w)
  (go:∀ x∈l,∀ y∈l,∀ W,Below w.heap.size w W→Calls Tryz.prog g #[(liV x),(liV y)] W fun e w'=>e=.returned (.bool (same x y))∧Below W.heap.size W w') :
  Calls Tryz.prog 96 #[v,.func (.func g) #[] #[]] w fun e w'=>e=.returned (.bool (Ob.dif same l))∧Below w.heap.size w w':=by
 have hlen:=hv.len
 have hmf:∀ (fn:Fn) (first cap:Array Value) (w:World),(Instr.makeFunc fn first cap).run Tryz.prog w=.ok (.func fn first cap) w:=fun _ _ _ _=>rfl
 have B1:Below w.heap.size w (w.alloc (.cells #[.func (.func g) #[] #[]] 75)):=(Below.refl _ w).alloc (Nat.le_refl _) _
 have HF:Hid (∀ W,Below (w.alloc (.cells #[.func (.func g) #[] #[]] 75)).heap.size (w.alloc (.cells #[.func (.func g) #[] #[]] 75)) W→w.heap.size<W.heap.size∧W.cell? ⟨w.heap.size,0,none⟩=some (.func (.func g) #[] #[])):=fun W hW=>⟨by have:=hW.size;simp at this;omega,(hW.cell (p:=⟨w.heap.size,0,none⟩) (by simp)).trans (aA2 (aA7 w _) rfl)⟩
 have HV:=hide (hv.below B1)
 have GO:=hide go
 have HB1:=hide B1
 obtain ⟨a,cap,rfl,hcap,hmax,_⟩:=hv
 have HC:=hide (fun W (hB:Below (w.alloc (.cells #[.func (.func g) #[] #[]] 75)).heap.size (w.alloc (.cells #[.func (.func g) #[] #[]] 75)) W) k (hk:k<l.length)=>aD9 HV.out hB hk)
 clear go B1
 have hcap':(l.length:Int)≤(cap:Int):=by omega
 go_enter Tryz.func96,Tryz.ntmps96
 go_wp2_with fail
 go_loopw [9] (fun i wr=>∃ k:Nat,k≤l.length∧i=.int .i64 k∧Hid (∀ j (hj:j<l.length),j<k→(l.take j).any (same l[j])=false)∧Below (w.alloc (.cells #[.func (.func g) #[] #[]] 75)).heap.size (w.alloc (.cells #[.func (.func g) #[] #[]] 75)) wr) (fun i _=>l.length - (intOf i).toNat)
 case atStart=>exact ⟨0,Nat.zero_le _,rfl,fun j h hj=>absurd hj (by omega),Below.refl _ _⟩
 case round =>
  obtain ⟨k,hk,rfl,hno,hB⟩:=hrel
  by_cases hlt:k<l.length
  ·have hlt':(k:Int)<(l.length:Int):=by omega
   have hkc:(k:Int)≤(cap:Int):=by omega
   obtain ⟨_,gg,off,rfl,hgg,c0,c1,c2,c3,c4,c5,c6,c7,c8⟩:=HC.out _ hB k hlt
   have B2:Below wr.heap.size wr (wr.alloc (.cells #[.string l[k].name,.int .i64 l[k].port,.bool l[k].tls,.string l[k].host,.int .i64 l[k].cert.kind,.string l[k].cert.space,.string l[k].cert.name,.int .i64 l[k].frm,l[k].v] 55)):=(Below.refl _ wr).alloc (Nat.le_refl _) _
   have C2:=hide (aXo (same l[k]) w.heap.size wr.heap.size (.slice (some ⟨gg,off,none⟩) k cap) (l.take k) (wr.alloc (.cells #[.string l[k].name,.int .i64 l[k].port,.bool l[k].tls,.string l[k].host,.int .i64 l[k].cert.kind,.string l[k].cert.space,.string l[k].cert.name,.int .i64 l[k].frm,l[k].v] 55)) ((HV.out.pre (k:=k) (by omega)).below (bb2 hB B2)) fun y hy W hW hAy =>
    aZd same g w.heap.size wr.heap.size l[k] y W ent (HF.out W (bb2 (bb2 hB B2) hW)).1 (HF.out W (bb2 (bb2 hB B2) hW)).2 (by have:=hW.size;simp at this;omega) (aBz hW) fun W2 h2=>GO.out l[k] (List.getElem_mem hlt) y (List.mem_of_mem_take hy) W2 (bb2 HB1.out (bb2 (bb2 (bb2 hB B2) hW) h2)))
   have HY:Hid ((l.take k).any (same l[k])=false→∀ j (hj:j<l.length),j<k+1→(l.take j).any (same l[j])=false):=fun h2 j h hj=>by
    rcases Nat.lt_or_ge j k with h3 | h3
    ·exact hno.out j h h3
    ·obtain rfl:j=k:=by omega
     exact h2
   have HN:=hide (fun h=>Ob.dif_not (same:=same) (l:=l) (k:=k) hlt h)
   have HB2:=hide B2
   clear B2
   generalize (l.take k).any (same l[k])=x2 at *
   generalize l[k]=fk at *
   obtain ⟨n0,p0,t0,h0,⟨ck0,cs0,cn0⟩,f0,nd0,a0,c0⟩:=fk
   try dsimp only at *
   cases x2
   ·have HZ:=hide (HY.out rfl)
    clear HN HY
    go_wp2_with fail
    refine (C2.out).mono ?_
    rintro e w1 ⟨rfl,hb1⟩
    go_wp2_with fail
    exact ⟨⟨k+1,by omega,by go_num,HZ.out,bb2 hB (bb2 HB2.out hb1)⟩,by simp [intOf];omega⟩
   ·have HR:Hid (false=Ob.dif same l):=(HN.out rfl).symm
    clear HN HY
    go_wp2_with fail
    refine (C2.out).mono ?_
    rintro e w1 ⟨rfl,hb1⟩
    go_wp2_with fail
    go_ret
    exact ⟨aA1 HR.out,bb2 HB1.out (bb2 hB (bb2 HB2.out hb1))⟩
  ·have hlt':¬ (k:Int)<(l.length:Int):=by omega
   have HR:Hid (true=Ob.dif same l):=(Ob.dif_yes (fun j h=>hno.out j h (by omega))).symm
   go_wp2_with fail
   go_ret
   exact ⟨aA1 HR.out,bb2 HB1.out hB⟩
end Go.Proofs.YthfnjcbiiofkhaaGreatDoor
namespace Go.Proofs.YthfnjcbiiofkhaaGreatDoor
open Go Go.RowKit Go.Shelf
theorem aGj (g:Nat):∀ (vs:List Value) (o:Nat) (w:World),w.setCells g o vs=setL w g o vs
 | [],_,_=>rfl
 | v::r,o,w=>aGj g r (o+1) (w.setCell ⟨g,o,none⟩ v)
theorem aRu (n:Nat):(Builtin.zeroCells (Value.agg #[.int .i64 0,.string ⟨#[]⟩,.string ⟨#[]⟩]).cells n).toList=ER.flat (List.replicate n Ob.zR):=by
 apply List.ext_getElem?
 intro i
 unfold Builtin.zeroCells
 have hz:(Value.agg #[.int .i64 0,.string ⟨#[]⟩,.string ⟨#[]⟩]).cells=#[.int .i64 0,.string ⟨#[]⟩,.string ⟨#[]⟩]:=rfl
 rw [hz]
 by_cases hi:i<n*3
 ·have h3:i / 3<(List.replicate n Ob.zR).length:=by simp;omega
  have hm:i % 3<3:=Nat.mod_lt _ (by decide)
  have:=Elem.flat_at (E:=ER) (List.replicate n Ob.zR) (i / 3) h3 (i % 3) hm
  have e:i / 3*ER.n+i % 3=i:=by show i / 3*3+i % 3=i;omega
  rw [e] at this
  rw [this]
  simp only [Array.getElem?_toList,Array.getElem?_map,List.getElem_replicate]
  rw [Array.getElem?_range,if_pos (by simpa using hi)]
  rcases (show i % 3=0∨i % 3=1∨i % 3=2 by omega) with h | h | h<;>simp [h,ER,aBi,Ob.nil]
 ·rw [List.getElem?_eq_none (by simp;omega),List.getElem?_eq_none (by rw [ER.flat_len];simp [ER];omega)]
theorem aMq (w:World) (ty:TypeId) (b o n c:Nat) (hn:0<n)
  (hc:∀ j,j<n*3→(w.cell? ⟨b,o+j,none⟩).isSome=true) (hf:∀ j,j<n*3→w.frozen? ⟨b,o+j,none⟩=false) :
  (Builtin.clear_ #[38] ty #[.slice (some ⟨b,o,none⟩) n c]).run Tryz.prog w=.ok (.tuple #[]) (setL w b o (ER.flat (List.replicate n Ob.zR))):=by
 have hv:∀ w,(zeroValue 23).run Tryz.prog w=.ok (.agg #[.int .i64 0,.string ⟨#[]⟩,.string ⟨#[]⟩]) w:=fun w=>Tryz.zeroValue23 w
 have hst:=run_storeCells_cells (P:=Tryz.prog) b o (ER.flat (List.replicate n Ob.zR)) 0 w (by rw [ER.flat_len];simpa [ER] using hc) (by rw [ER.flat_len];simpa [ER] using hf) (Elem.flat_ones (E:=ER) (w:=w) (fun _ _=>trivial))
 simp only [Nat.add_zero,aGj] at hst
 obtain ⟨m,rfl⟩:∃ m,n=m+1:=⟨n - 1,by omega⟩
 have hz:=aRu (m+1)
 simp [Builtin.clear_,run_underlying Tryz.underlying38,hv,hz,hst]
theorem aLe (a b:RfB) (W:World):(Op.equalIn 10000 23 (.agg #[.int .i64 a.kind,.string a.space,.string a.name]) (.agg #[.int .i64 b.kind,.string b.space,.string b.name])).run Tryz.prog W=.ok (Ob.eqR a b) W:=by
 rw [aG0]
 unfold Ob.eqR
 simp only [aBm]
theorem aCb {w:World} {g t m:Nat} {L:List RfB} (h:aAl ER w g t L m) {i:Nat} (hi:i<L.length):w.cell? ⟨g,i*3,none⟩=some (.int .i64 L[i].kind)∧w.cell? ⟨g,i*3+1,none⟩=some (.string L[i].space)∧w.cell? ⟨g,i*3+2,none⟩=some (.string L[i].name):=aCa (h.at_ hi)
theorem aAl.drew {α:Type} {E:Elem α} {w:World} {g t m:Nat} {L:List α} (h:aAl E w g t L m):aAl E w.drew g t L m:=⟨h.blk⟩
structure CmpI (L:List RfB) (n kk:Nat) (D:List RfB):Prop where
 len:D.length=L.length
 lt:kk<n
 done:D.take kk=Ob.cmpTo L n
 high:∀ j (h1:j<D.length) (h2:j<L.length),n - 1≤j→D[j]=L[j]
theorem CmpI.start {L:List RfB} {k:Nat} (hk:k+1<L.length) (hd:∀ j (_:j+1<k+1) (h:j+1<L.length),L[j+1]≠L[j]) (he:L[k+1]=L[k]):CmpI L (k+2) (k+1) L where
 len:=rfl
 lt:=by omega
 done:=by rw [Ob.cmpTo_same hk he,Ob.cmpTo_take (k+1) (by omega) hd]
 high:=fun _ _ _ _=>rfl
theorem CmpI.skip {L D:List RfB} {n kk:Nat} (h:CmpI L (n+1) kk D) (hn:n+1<L.length) (he:L[n+1]=L[n]):CmpI L (n+2) kk D where
 len:=h.len
 lt:=by have:=h.lt;omega
 done:=by rw [h.done,Ob.cmpTo_same hn he]
 high:=fun j h1 h2 h3=>h.high j h1 h2 (by omega)
theorem CmpI.keep {L D:List RfB} {n kk:Nat} (h:CmpI L (n+1) kk D) (hn:n+1<L.length) (he:L[n+1]≠L[n]):CmpI L (n+2) (kk+1) (D.set kk L[n+1]) where
 len:=by rw [List.length_set,h.len]
 lt:=by have:=h.lt;omega
 done:=by
  have hk:kk<D.length:=by rw [h.len];have:=h.lt;omega
  rw [Ob.cmpTo_new hn he,←h.done,List.take_succ_eq_append_getElem (by rw [List.length_set];exact hk)]
  rw [List.take_set_of_le (Nat.le_refl kk),List.getElem_set_self]
 high:=fun j h1 h2 h3=>by
  rw [List.getElem_set_ne (by have:=h.lt;omega)]
  exact h.high j (by rw [List.length_set] at h1;exact h1) h2 (by omega)
theorem aO1 {L:List RfB} (h:L.length<2):Ob.cmpTo L L.length=L:=by
 rw [Ob.cmpTo_take L.length (Nat.le_refl _) (fun k hk _=>absurd hk (by omega)),List.take_length]
theorem aHm (g t m cap:Nat) (L:List RfB) (w:World) (hr:aAl ER w g t L m) (hc:L.length≤cap) (hcm:cap≤maxLen) {B:Nat} (hB:B≤g) :
  Calls Tryz.prog 50 #[.slice (some ⟨g,0,none⟩) L.length cap] w fun e w'=>e=.returned (.slice (some ⟨g,0,none⟩) (Ob.cmpTo L L.length).length cap)∧(∃ D:List RfB,aAl ER w' g t D m∧D.length=L.length∧D.take (Ob.cmpTo L L.length).length=Ob.cmpTo L L.length)∧Below B w w':=by
 have hml:(L.length:Int)≤9223372036854775807:=by unfold maxLen at hcm;omega
 by_cases h2:L.length<2
 ·have HS:=hide (aO1 h2)
  have HR:=hide hr
  have h2':(L.length:Int)<2:=by omega
  clear hr
  go_enter Tryz.func50,Tryz.ntmps50
  go_wp2_with fail
  go_ret
  exact ⟨by rw [HS.out];rfl,⟨L,HR.out,rfl,by rw [HS.out,List.take_length]⟩,Below.refl _ _⟩
 ·have h2':¬ (L.length:Int)<2:=by omega
  have HR:=hide hr
  clear hr
  go_enter Tryz.func50,Tryz.ntmps50
  go_wp2_with fail
  go_loopw [3] (fun i wr=>∃ n:Nat,1≤n∧n≤L.length∧i=.int .i64 n∧Hid (∀ j (_:j+1<n) (h:j+1<L.length),L[j+1]≠L[j])∧aAl ER wr g t L m∧Below B w wr) (fun i _=>L.length+1 - (intOf i).toNat)
  case atStart=>exact ⟨1,Nat.le_refl _,by omega,rfl,fun j hj _=>absurd hj (by omega),HR.out,Below.refl _ _⟩
  case round =>
   obtain ⟨n,hn1,hn,rfl,hno,hrow,hBw⟩:=hrel
   have HROW:=hide hrow
   by_cases hlt:n<L.length
   ·obtain ⟨k,hnk⟩:∃ k:Nat,n=k+1:=⟨n - 1,by omega⟩
    have hk1:k<L.length:=by omega
    have i1:(n:Int)<(L.length:Int):=by omega
    have i2:(k:Int)<(L.length:Int):=by omega
    have hwr:IntKind.i64.wrap ((n:Int) - 1)=(k:Int):=by rw [IntKind.wrap_i64];omega
    obtain ⟨a0,a1,a2⟩:=aCb hrow hlt
    obtain ⟨b0,b1,b2⟩:=aCb hrow hk1
    have EQ:=fun W=>aLe L[n] L[k] W
    have HST:Hid (L[n]=L[k]→CmpI L (n+1) n L):=fun he=>by subst hnk;exact CmpI.start (L:=L) (k:=k) hlt hno.out he
    have HNX:Hid (L[n]≠L[k]→∀ j (_:j+1<n+1) (h:j+1<L.length),L[j+1]≠L[j]):=fun hne j hj h=>by
     subst hnk
     rcases Nat.lt_or_ge j k with h1 | h1
     ·exact hno.out j (by omega) h
     ·obtain rfl:j=k:=by omega
      exact hne
    clear hrow hno hnk
    cases hq:Ob.eqR L[n] L[k]
    ·have HZ:=hide (HNX.out (fun e=>by rw [Ob.eqR_iff.2 e] at hq;cases hq))
     rw [hq] at EQ
     clear hq HST HNX
     generalize L[n]=x at *
     generalize L[k]=y at *
     obtain ⟨x0,x1,x2⟩:=x
     obtain ⟨y0,y1,y2⟩:=y
     dsimp only at *
     go_wp2_with fail
     go_region
     go_wp2_with fail
     exact ⟨⟨n+1,by omega,by omega,by go_num,HZ.out,HROW.out.drew,hBw.drew⟩,by simp [intOf];omega⟩
    ·have HC:=hide (HST.out (Ob.eqR_iff.1 hq))
     rw [hq] at EQ
     clear hq HST HNX
     generalize L[n]=x at *
     generalize L[k]=y at *
     obtain ⟨x0,x1,x2⟩:=x
     obtain ⟨y0,y1,y2⟩:=y
     dsimp only at *
     have hck:¬ cap=n:=by omega
     have hkc:(n:Int)≤(cap:Int):=by omega
     go_wp2_with fail
     go_region
     go_wp2_with fail
     clear a0 a1 a2 b0 b1 b2 EQ
     have HR2:=hide HROW.out.drew
     have hB2:Below B w wr.drew:=hBw.drew
     generalize wr.drew=w1 at *
     go_loopw [3,5] (fun s3 s5 wr=>∃ (kk k2:Nat) (D:List RfB),s3=.int .i64 kk∧s5=.int .i64 k2∧1≤k2∧n+k2≤L.length∧CmpI L (n+k2) kk D∧aAl ER wr g t D m∧Below B w wr) (fun _ s5 _=>L.length+1 - (intOf s5).toNat)
     case atStart=>exact ⟨n,1,L,rfl,rfl,Nat.le_refl _,by omega,HC.out,HR2.out,hB2⟩
     case round =>
      obtain ⟨kk,k2,D,rfl,rfl,hk2,hle,hI,hrow,hB3⟩:=hrel
      have hDl:=hI.len
      have hkl:=hI.lt
      have HI:=hide hI
      have HROW2:=hide hrow
      clear hI
      have hkk:kk<L.length:=by omega
      have hck2:¬ cap=kk:=by omega
      have ik:(kk:Int)<(L.length:Int):=by omega
      have ikc:(kk:Int)≤(cap:Int):=by omega
      have ikl:(kk:Int)≤(L.length:Int):=by omega
      by_cases hlt2:n+k2<L.length
      ·obtain ⟨j,hj⟩:∃ j:Nat,k2=j+1:=⟨k2 - 1,by omega⟩
       have il:(k2:Int)<((L.length - n:Nat):Int):=by omega
       have il2:(j:Int)<((L.length - n:Nat):Int):=by omega
       have hwr2:IntKind.i64.wrap ((k2:Int) - 1)=(j:Int):=by rw [IntKind.wrap_i64];omega
       have hn2:n+k2<D.length:=by omega
       have hn3:n+j<D.length:=by omega
       have hn4:kk<D.length:=by omega
       obtain ⟨a0,a1,a2⟩:=aCb hrow hn2
       obtain ⟨b0,b1,b2⟩:=aCb hrow hn3
       obtain ⟨d0,d1,d2⟩:=aCb hrow hn4
       have lv:=fun i=>hrow.live i
       have EQ:=fun W=>aLe D[n+k2] D[n+j] W
       have e1:D[n+k2]=L[n+k2]:=HI.out.high _ _ _ (by omega)
       have e2:D[n+j]=L[n+j]:=HI.out.high _ _ _ (by omega)
       have HY:Hid (D[n+k2]=D[n+j]→CmpI L (n+k2+1) kk D):=fun he=>by
        subst hj
        exact HI.out.skip (n:=n+j) hlt2 (by rw [←e2,←he];exact e1.symm)
       have HNo:Hid (D[n+k2]≠D[n+j]→CmpI L (n+k2+1) (kk+1) (D.set kk D[n+k2])):=fun hne=>by
        subst hj
        have:=HI.out.keep (n:=n+j) hlt2 (fun he=>hne (by rw [e1,e2];exact he))
        rw [e1]
        exact this
       clear e1 e2 hrow hj
       rw [Nat.add_mul] at a0 a1 a2 b0 b1 b2
       have HST:=hide (HROW2.out.store (i:=kk) hn4 D[n+k2])
       cases hq:Ob.eqR D[n+k2] D[n+j]
       ·have HZ:=hide (HNo.out (fun e=>by rw [Ob.eqR_iff.2 e] at hq;cases hq))
        rw [hq] at EQ
        clear hq HY HNo
        generalize D[n+k2]=x at *
        generalize D[n+j]=y at *
        generalize D[kk]=v at *
        obtain ⟨x0,x1,x2⟩:=x
        obtain ⟨y0,y1,y2⟩:=y
        dsimp only at *
        go_wp2_with fail
        go_region
        go_wp2_with fail
        exact ⟨⟨kk+1,k2+1,_,by go_num,by go_num,by omega,by omega,HZ.out,HST.out.drew,((((hB3.setCell (p:=⟨g,kk*3,none⟩) hB _).setCell (p:=⟨g,kk*3+1,none⟩) hB _).setCell (p:=⟨g,kk*3+2,none⟩) hB _)).drew⟩,by simp [intOf];omega⟩
       ·have HZ:=hide (HY.out (Ob.eqR_iff.1 hq))
        rw [hq] at EQ
        clear hq HY HNo HST d0 d1 d2 lv
        generalize D[n+k2]=x at *
        generalize D[n+j]=y at *
        obtain ⟨x0,x1,x2⟩:=x
        obtain ⟨y0,y1,y2⟩:=y
        dsimp only at *
        go_wp2_with fail
        go_region
        go_wp2_with fail
        exact ⟨⟨kk,k2+1,D,rfl,by go_num,by omega,by omega,HZ.out,HROW2.out.drew,hB3.drew⟩,by simp [intOf];omega⟩
      ·have hend:n+k2=L.length:=by omega
       have il:¬ (k2:Int)<((L.length - n:Nat):Int):=by omega
       have hcl:=fun ty=>aMq wr ty g (kk*3) (L.length - kk) (cap - kk) (by omega) (fun i hi=>by
        obtain ⟨post,hb,_⟩:=hrow.blk
        have:i+kk*3<(ER.flat D).length:=by rw [ER.flat_len,hDl];show _<L.length*3;omega
        rw [aA2 hb (i:=kk*3+i) (u:=(ER.flat D)[kk*3+i]'(by omega)) (by rw [List.getElem?_toArray,List.getElem?_append_left (by omega),List.getElem?_eq_getElem])]
        rfl) (fun i _=>hrow.live _)
       have HSM:=hide (hrow.storeMany (i:=kk) (List.replicate (L.length - kk) Ob.zR) (by rw [List.length_replicate];omega))
       have hBS:=hide (aB7 (w:=w) (B:=B) (g:=g) hB (ER.flat (List.replicate (L.length - kk) Ob.zR)) wr (kk*3) hB3)
       have HL:Hid ((Ob.cmpTo L L.length).length=kk):=by
        unfold Hid
        rw [←hend,←HI.out.done,List.length_take]
        omega
       clear hrow
       have hdl:(D.take kk++List.replicate (L.length - kk) Ob.zR++D.drop (kk+(List.replicate (L.length - kk) Ob.zR).length)).length=L.length:=by simp;omega
       have hdt:(D.take kk++List.replicate (L.length - kk) Ob.zR++D.drop (kk+(List.replicate (L.length - kk) Ob.zR).length)).take kk=Ob.cmpTo L L.length:=by
        rw [List.append_assoc,List.take_append_of_le_length (by simp;omega),List.take_take,Nat.min_self,HI.out.done,hend]
       have HDL:=hide hdl
       have HDT:=hide hdt
       clear hdl hdt
       go_wp2_with fail
       go_ret
       exact ⟨by rw [HL.out];rfl,⟨_,HSM.out,HDL.out,by rw [HL.out];exact HDT.out⟩,hBS.out⟩
   ·have hlt':¬ (n:Int)<(L.length:Int):=by omega
    have HS:Hid (Ob.cmpTo L L.length=L):=by
     unfold Hid
     rw [Ob.cmpTo_take L.length (Nat.le_refl _) (fun j hj h=>hno.out j (by omega) h),List.take_length]
    clear hrow
    go_wp2_with fail
    go_ret
    exact ⟨by rw [HS.out];rfl,⟨L,HROW.out,rfl,by rw [HS.out,List.take_length]⟩,hBw⟩
end Go.Proofs.YthfnjcbiiofkhaaGreatDoor
