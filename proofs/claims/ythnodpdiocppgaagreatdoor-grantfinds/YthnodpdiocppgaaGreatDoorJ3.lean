/-
  Walks: pairs.Same, equal, a wanted name's is, place, first; Get.
-/
import Derived.Test.YthnodpdiocppgaaGreatDoorJ2
import Derived.Test.YthnodpdiocppgaaGreatDoorJ1
import Derived.Laws.EntriesVeiled
import Derived.Deep.RegionHeld3
set_option maxHeartbeats 1600000
set_option maxRecDepth 20000
namespace Go.Proofs.YthnodpdiocppgaaGreatDoor
open Go Go.RowKit Go.Shelf
abbrev aAt (a b:ByteArray):Bool:=Pb.sm aD6 a b
abbrev aB5 (a b:ByteArray):Bool:=decide (a=b)
theorem aIe (a b:ByteArray) (w:World) (ha:a.size≤maxLen) (hb:b.size≤maxLen) :
  Calls Tryz.prog 214 #[.string a,.string b] w fun e w'=>e=.returned (.bool (aAt a b))∧Below w.heap.size w w':=by
 by_cases hl:a.size=b.size
 ·have H:Hid (((aD6 a).toList == (aD6 b).toList)=aAt a b):=aFi _ _
  go_enter Tryz.func214,Tryz.ntmps214
  go_wp2_with fail
  refine (aJn _ _ ha).mono ?_
  rintro e w1 ⟨rfl,hb1⟩
  go_wp2_with fail
  refine (aJn _ _ hb).mono ?_
  rintro e w2 ⟨rfl,hb2⟩
  go_wp2_with fail
  go_ret
  exact ⟨aA1 H.out,bb2 hb1 hb2⟩
 ·have H:Hid (false=aAt a b):=by
   refine (decide_eq_false fun e=>hl ?_).symm
   rw [←aI4 a,e,aI4]
  have hl':((a.size:Int) == (b.size:Int))=false:=by rw [beq_eq_false_iff_ne];omega
  go_enter Tryz.func214,Tryz.ntmps214
  go_wp2_with fail
  go_ret
  exact ⟨aA1 H.out,Below.refl _ _⟩
structure Cmp (f:Nat) (same:ByteArray→ByteArray→Bool):Prop where
 go:∀ (a b:ByteArray) (w:World),a.size≤maxLen→b.size≤maxLen→Calls Tryz.prog f #[.string a,.string b] w fun e w'=>e=.returned (.bool (same a b))∧Below w.heap.size w w'
 enters:∀ (args:Array Value) (w:World),(callFunc f args).run Tryz.prog w=.ok (.enter f args) w
theorem aAd {P : Program} {f : FuncId} {fn : Func} {c : Code} (hf : P.funcs[f]? = some fn) (hname : (fn.name == "runtime.NumGoroutine") = false) (hb : fn.body = some c) (args : Array Value) (w : World) :
  (callFunc f args).run P w=.ok (.enter f args) w:=by
 have h1 : fn.name ≠ "runtime.NumGoroutine" := by simpa using hname
 simp [callFunc,hf,h1,hb]
theorem aSe:Cmp 214 aAt:=⟨fun a b w ha hb=>aIe a b w ha hb,fun args w=>aAd Tryz.func214 (by kernel_rfl) rfl args w⟩
end Go.Proofs.YthnodpdiocppgaaGreatDoor
namespace Go.Proofs.YthnodpdiocppgaaGreatDoor
open Go Go.RowKit Go.Shelf
theorem symF (a b:ByteArray):aAt a b=aAt b a:=Pb.sm_comm a b
theorem symE (a b:ByteArray):aB5 a b=aB5 b a:=decide_eq_decide.2 ⟨Eq.symm,Eq.symm⟩
end Go.Proofs.YthnodpdiocppgaaGreatDoor
namespace Go.Proofs.YthnodpdiocppgaaGreatDoor
open Go Go.RowKit Go.Shelf
def tokN (n:Nat):Bool:=decide (97≤n∧n≤122)||decide (65≤n∧n≤90)||decide (48≤n∧n≤57)||[33,35,36,37,38,39,42,43,45,46,94,95,96,124,126].contains n
def tokC (c:UInt8):Bool:=tokN c.toNat
def aIf:List UInt8:=[33,35,36,37,38,39,42,43,45,46,94,95,124,126,96]
theorem aU4:∀ n,n<256→tokN n=(decide (97≤n∧n≤122)||decide (65≤n∧n≤90)||decide (48≤n∧n≤57)||decide (0≤Lib.indexByte aIf (UInt8.ofNat n))):=by decide +kernel
theorem aSf {c:UInt8} (h1:¬ (97≤c.toNat∧c.toNat≤122)) (h2:¬ (65≤c.toNat∧c.toNat≤90)) (h3:¬ (48≤c.toNat∧c.toNat≤57)):decide (0≤Lib.indexByte aIf c)=tokC c:=by
 have h:=aU4 c.toNat c.toNat_lt
 rw [decide_eq_false h1,decide_eq_false h2,decide_eq_false h3,UInt8.ofNat_toNat] at h
 exact h.symm
theorem aJa {c:UInt8} (h:(97≤c.toNat∧c.toNat≤122)∨(65≤c.toNat∧c.toNat≤90)∨(48≤c.toNat∧c.toNat≤57)):true=tokC c:=by
 unfold tokC tokN
 rcases h with h | h | h
 ·rw [decide_eq_true h];simp
 ·rw [decide_eq_true h];simp
 ·rw [decide_eq_true h];simp
theorem aMm (c:UInt8) (w:World) :
  Calls Tryz.prog 236 #[.int .u8 (c.toNat:Int)] w fun e w'=>e=.returned (.bool (tokC c))∧w'=w:=by
 have hc8:=c.toNat_lt
 by_cases h1:97≤c.toNat∧c.toNat≤122
 ·have HP:=hide (aJa (.inl h1))
  have t0:(97:Int)≤(c.toNat:Int):=by omega
  have t1:(c.toNat:Int)≤122:=by omega
  clear h1
  go_enter Tryz.func236,Tryz.ntmps236
  go_wp2_with fail
  go_ret
  exact ⟨aA1 HP.out,rfl⟩
 ·by_cases h2:65≤c.toNat∧c.toNat≤90
  ·have HP:=hide (aJa (.inr (.inl h2)))
   have t0:¬ (97:Int)≤(c.toNat:Int):=by omega
   have t1:(65:Int)≤(c.toNat:Int):=by omega
   have t2:(c.toNat:Int)≤90:=by omega
   clear h1 h2
   go_enter Tryz.func236,Tryz.ntmps236
   go_wp2_with fail
   go_ret
   exact ⟨aA1 HP.out,rfl⟩
  ·by_cases h3:48≤c.toNat∧c.toNat≤57
   ·have HP:=hide (aJa (.inr (.inr h3)))
    have t0:¬ (97:Int)≤(c.toNat:Int):=by omega
    have t1:¬ (65:Int)≤(c.toNat:Int):=by omega
    have t3:(48:Int)≤(c.toNat:Int):=by omega
    have t4:(c.toNat:Int)≤57:=by omega
    clear h1 h2 h3
    go_enter Tryz.func236,Tryz.ntmps236
    go_wp2_with fail
    go_ret
    exact ⟨aA1 HP.out,rfl⟩
   ·have HP:=hide (aSf h1 h2 h3)
    have C1:=fun W=>hide (aJ6 ⟨#[33,35,36,37,38,39,42,43,45,46,94,95,124,126,96]⟩ (c.toNat:Int) W)
    have e1:Lib.indexByte (⟨#[33,35,36,37,38,39,42,43,45,46,94,95,124,126,96]⟩:ByteArray).data.toList ((c.toNat:Int)).toNat.toUInt8=Lib.indexByte aIf c:=by
     rw [show ((c.toNat:Int)).toNat.toUInt8=c by simp]
     rfl
    rw [e1] at C1
    clear e1
    generalize Lib.indexByte aIf c=i at *
    have hall:(97≤c.toNat∧122<c.toNat)∨(c.toNat<97∧65≤c.toNat∧90<c.toNat)∨(c.toNat<65∧48≤c.toNat∧57<c.toNat)∨c.toNat<48:=by omega
    clear h1 h2 h3
    rcases hall with h | h | h | h
    ·have t0:(97:Int)≤(c.toNat:Int):=by omega
     have t1:¬ (c.toNat:Int)≤122:=by omega
     have t2:(65:Int)≤(c.toNat:Int):=by omega
     have t3:¬ (c.toNat:Int)≤90:=by omega
     have t4:(48:Int)≤(c.toNat:Int):=by omega
     have t5:¬ (c.toNat:Int)≤57:=by omega
     clear h
     go_enter Tryz.func236,Tryz.ntmps236
     go_wp2_with fail
     refine ((C1 _).out).mono ?_
     rintro e x ⟨rfl,hx⟩
     subst x
     go_wp2_with fail
     go_ret
     exact ⟨aA1 HP.out,rfl⟩
    ·have t0:¬ (97:Int)≤(c.toNat:Int):=by omega
     have t2:(65:Int)≤(c.toNat:Int):=by omega
     have t3:¬ (c.toNat:Int)≤90:=by omega
     have t4:(48:Int)≤(c.toNat:Int):=by omega
     have t5:¬ (c.toNat:Int)≤57:=by omega
     clear h
     go_enter Tryz.func236,Tryz.ntmps236
     go_wp2_with fail
     refine ((C1 _).out).mono ?_
     rintro e x ⟨rfl,hx⟩
     subst x
     go_wp2_with fail
     go_ret
     exact ⟨aA1 HP.out,rfl⟩
    ·have t0:¬ (97:Int)≤(c.toNat:Int):=by omega
     have t2:¬ (65:Int)≤(c.toNat:Int):=by omega
     have t4:(48:Int)≤(c.toNat:Int):=by omega
     have t5:¬ (c.toNat:Int)≤57:=by omega
     clear h
     go_enter Tryz.func236,Tryz.ntmps236
     go_wp2_with fail
     refine ((C1 _).out).mono ?_
     rintro e x ⟨rfl,hx⟩
     subst x
     go_wp2_with fail
     go_ret
     exact ⟨aA1 HP.out,rfl⟩
    ·have t0:¬ (97:Int)≤(c.toNat:Int):=by omega
     have t2:¬ (65:Int)≤(c.toNat:Int):=by omega
     have t4:¬ (48:Int)≤(c.toNat:Int):=by omega
     clear h
     go_enter Tryz.func236,Tryz.ntmps236
     go_wp2_with fail
     refine ((C1 _).out).mono ?_
     rintro e x ⟨rfl,hx⟩
     subst x
     go_wp2_with fail
     go_ret
     exact ⟨aA1 HP.out,rfl⟩
def aCd (s:ByteArray):Prop:=1≤s.size∧s.size≤40∧∀ j (h:j<s.size),tokC s[j]=true
def aF5 (p:Prop) (e:Ending):Prop:=∃ b,e=.returned (.bool b)∧(b=true↔p)
theorem aF6 {p:Prop} (h:p):aF5 p (.returned (.bool true)):=⟨true,rfl,by simp [h]⟩
theorem aAy {p:Prop} (h:¬ p):aF5 p (.returned (.bool false)):=⟨false,rfl,by simp [h]⟩
theorem aPz (s:ByteArray) (w:World) (hs:s.size≤maxLen) :
  Calls Tryz.prog 211 #[.string s] w fun e w'=>aF5 (aCd s) e∧w'=w:=by
 unfold maxLen at hs
 by_cases h0:s.size=0
 ·have HN:Hid (¬ aCd s):=fun h=>by have:=h.1;omega
  have t0:((s.size:Int) == 0)=true:=by rw [beq_iff_eq];omega
  clear h0
  go_enter Tryz.func211,Tryz.ntmps211
  go_wp2_with fail
  go_ret
  exact ⟨aAy HN.out,rfl⟩
 ·have t0:((s.size:Int) == 0)=false:=by rw [beq_eq_false_iff_ne];omega
  by_cases h40:40<s.size
  ·have HN:Hid (¬ aCd s):=fun h=>by have:=h.2.1;omega
   have t1:(40:Int)<(s.size:Int):=by omega
   clear h0
   go_enter Tryz.func211,Tryz.ntmps211
   go_wp2_with fail
   go_ret
   exact ⟨aAy HN.out,rfl⟩
  ·have t1:¬ (40:Int)<(s.size:Int):=by omega
   go_enter Tryz.func211,Tryz.ntmps211
   go_wp2_with fail
   go_loopw [14] (fun i wr=>∃ k:Nat,k≤s.size∧i=.int .i64 k∧Hid (∀ j (h:j<s.size),j<k→tokC s[j]=true)∧wr=w) (fun i _=>s.size - (intOf i).toNat)
   case atStart=>exact ⟨0,Nat.zero_le _,rfl,fun _ _ h=>absurd h (by omega),rfl⟩
   case round =>
    obtain ⟨k,hk,rfl,hno,rfl⟩:=hrel
    by_cases hlt:k<s.size
    ·have hlt':(k:Int)<(s.size:Int):=by omega
     have C1:=fun W=>hide (aMm s[k] W)
     have HX:Hid (tokC s[k]=true→∀ j (h:j<s.size),j<k+1→tokC s[j]=true):=fun h j hj hjk=>by
      rcases Nat.lt_or_ge j k with h1 | h1
      ·exact hno.out j hj h1
      ·obtain rfl:j=k:=by omega
       exact h
     cases hc:tokC s[k]
     ·have HN:Hid (¬ aCd s):=fun h=>by rw [h.2.2 k hlt] at hc;cases hc
      rw [hc] at C1
      clear hc HX
      go_wp2_with fail
      refine ((C1 _).out).mono ?_
      rintro e x ⟨rfl,hx⟩
      subst x
      go_wp2_with fail
      go_ret
      exact ⟨aAy HN.out,rfl⟩
     ·have HY:=hide (HX.out hc)
      rw [hc] at C1
      clear hc HX
      go_wp2_with fail
      refine ((C1 _).out).mono ?_
      rintro e x ⟨rfl,hx⟩
      subst x
      go_wp2_with fail
      exact ⟨⟨k+1,by omega,by go_num,HY.out,trivial⟩,by simp [intOf];omega⟩
    ·have hlt':¬ (k:Int)<(s.size:Int):=by omega
     have HY:Hid (aCd s):=⟨by omega,by omega,fun j h=>hno.out j h (by omega)⟩
     go_wp2_with fail
     go_ret
     exact ⟨aF6 HY.out,rfl⟩
def aC8 (s:ByteArray) (j:Nat) (h:j<s.size):Prop:=32≤s[j].toNat∧s[j].toNat≤126∧(s[j].toNat=32→j≠0∧j+1≠s.size)
def aBr (s:ByteArray):Prop:=s.size≤40∧∀ j (h:j<s.size),aC8 s j h
theorem aQ0 {s:ByteArray}:Lib.hasPrefix s.data.toList [32]=true↔∃ h:0<s.size,s[0].toNat=32:=by
 have hl:s.data.toList.length=s.size:=Array.length_toList
 have ha:∀ h:0<s.size,s[0]=s.data.toList[0]'(by rw [hl];exact h):=fun h=>rfl
 unfold Lib.hasPrefix
 generalize hd:s.data.toList=l at *
 cases l with
 | nil =>
   simp at hl
   simp [List.isPrefixOf]
   omega
 | cons x r =>
   have h0:0<s.size:=by rw [←hl];simp
   rw [List.isPrefixOf]
   simp only [List.isPrefixOf,Bool.and_true,beq_iff_eq]
   refine ⟨fun e=>⟨h0,?_⟩,fun ⟨h,e⟩=>?_⟩
   ·rw [ha h0]
    show x.toNat=32
    rw [←e]
    rfl
   ·rw [ha h] at e
    exact (UInt8.toNat_inj.1 e).symm
theorem aQ1 {s:ByteArray}:Lib.hasSuffix s.data.toList [32]=true↔∃ h:0<s.size,(s[s.size - 1]'(by omega)).toNat=32:=by
 have hl:s.data.toList.length=s.size:=Array.length_toList
 rw [←Lib.hasSuffix_of_drop]
 simp only [Bool.and_eq_true,decide_eq_true_eq,beq_iff_eq,List.length_cons,List.length_nil,hl]
 refine ⟨fun ⟨h1,h2⟩=>⟨by omega,?_⟩,fun ⟨h,e⟩=>⟨by omega,?_⟩⟩
 ·have hlt:s.size - 1<s.data.toList.length:=by omega
  rw [List.drop_eq_getElem_cons hlt] at h2
  have:=(List.cons.inj h2).1
  show (s.data.toList[s.size - 1]'hlt).toNat=32
  rw [this]
  rfl
 ·have hlt:s.size - 1<s.data.toList.length:=by omega
  rw [List.drop_eq_getElem_cons hlt,List.drop_eq_nil_of_le (by omega)]
  have:s.data.toList[s.size - 1]'hlt=32:=UInt8.toNat_inj.1 e
  rw [this]
theorem aQ2 (s:ByteArray) (w:World) (hs:s.size≤maxLen) :
  Calls Tryz.prog 212 #[.string s] w fun e w'=>aF5 (aBr s) e∧w'=w:=by
 have C1:=fun W=>hide (aE9 s ⟨#[32]⟩ W hs (by decide))
 have C2:=fun W=>hide (aGl s ⟨#[32]⟩ W hs (by decide))
 have HP:Hid (Lib.hasPrefix s.data.toList [32]=true↔∃ h:0<s.size,s[0].toNat=32):=aQ0
 have HS:Hid (Lib.hasSuffix s.data.toList [32]=true↔∃ h:0<s.size,(s[s.size - 1]'(by omega)).toNat=32):=aQ1
 change ∀ W,Hid (Calls Tryz.prog 233 #[.string s,.string ⟨#[32]⟩] W fun e w'=>e=.returned (.bool (Lib.hasPrefix s.data.toList [32]))∧w'=W) at C1
 change ∀ W,Hid (Calls Tryz.prog 235 #[.string s,.string ⟨#[32]⟩] W fun e w'=>e=.returned (.bool (Lib.hasSuffix s.data.toList [32]))∧w'=W) at C2
 generalize Lib.hasPrefix s.data.toList [32]=bp at *
 generalize Lib.hasSuffix s.data.toList [32]=bs at *
 unfold maxLen at hs
 by_cases h40:40<s.size
 ·have HN:Hid (¬ aBr s):=fun h=>by have:=h.1;omega
  have t1:(40:Int)<(s.size:Int):=by omega
  clear h40
  go_enter Tryz.func212,Tryz.ntmps212
  go_wp2_with fail
  go_ret
  exact ⟨aAy HN.out,rfl⟩
 ·have t1:¬ (40:Int)<(s.size:Int):=by omega
  cases bp
  ·cases bs
   ·have HE:Hid (∀ j (h:j<s.size),s[j].toNat=32→j≠0∧j+1≠s.size):=fun j h e=>⟨fun e0=>by
     subst e0
     exact absurd (HP.out.2 ⟨h,e⟩) (by decide),fun e1=>by
     obtain rfl:j=s.size - 1:=by omega
     exact absurd (HS.out.2 ⟨by omega,e⟩) (by decide)⟩
    clear HP HS
    go_enter Tryz.func212,Tryz.ntmps212
    go_wp2_with fail
    refine ((C1 _).out).mono ?_
    rintro e x ⟨rfl,hx⟩
    subst x
    go_wp2_with fail
    refine ((C2 _).out).mono ?_
    rintro e x ⟨rfl,hx⟩
    subst x
    go_wp2_with fail
    go_loopw [17] (fun i wr=>∃ k:Nat,k≤s.size∧i=.int .i64 k∧Hid (∀ j (h:j<s.size),j<k→aC8 s j h)∧wr=w) (fun i _=>s.size - (intOf i).toNat)
    case atStart=>exact ⟨0,Nat.zero_le _,rfl,fun _ _ h=>absurd h (by omega),rfl⟩
    case round =>
     obtain ⟨k,hk,rfl,hno,rfl⟩:=hrel
     by_cases hlt:k<s.size
     ·have hlt':(k:Int)<(s.size:Int):=by omega
      by_cases h32:s[k].toNat<32
      ·have HN:Hid (¬ aBr s):=fun h=>by have:=(h.2 k hlt).1;omega
       have t2:(s[k].toNat:Int)<32:=by omega
       clear h32
       go_wp2_with fail
       go_ret
       exact ⟨aAy HN.out,rfl⟩
      ·have t2:¬ (s[k].toNat:Int)<32:=by omega
       by_cases h126:126<s[k].toNat
       ·have HN:Hid (¬ aBr s):=fun h=>by have:=(h.2 k hlt).2.1;omega
        have t3:(126:Int)<(s[k].toNat:Int):=by omega
        clear h126
        go_wp2_with fail
        go_ret
        exact ⟨aAy HN.out,rfl⟩
       ·have t3:¬ (126:Int)<(s[k].toNat:Int):=by omega
        have HY:Hid (∀ j (h:j<s.size),j<k+1→aC8 s j h):=fun j hj hjk=>by
         rcases Nat.lt_or_ge j k with h1 | h1
         ·exact hno.out j hj h1
         ·obtain rfl:j=k:=by omega
          exact ⟨by omega,by omega,HE.out j hj⟩
        clear h126 h32
        go_wp2_with fail
        exact ⟨⟨k+1,by omega,by go_num,HY.out,trivial⟩,by simp [intOf];omega⟩
     ·have hlt':¬ (k:Int)<(s.size:Int):=by omega
      have HY:Hid (aBr s):=⟨by omega,fun j h=>hno.out j h (by omega)⟩
      go_wp2_with fail
      go_ret
      exact ⟨aF6 HY.out,rfl⟩
   ·have HN:Hid (¬ aBr s):=fun h=>by
     obtain ⟨h0,e⟩:=HS.out.1 rfl
     exact ((h.2 (s.size - 1) (by omega)).2.2 e).2 (by omega)
    clear HP HS
    go_enter Tryz.func212,Tryz.ntmps212
    go_wp2_with fail
    refine ((C1 _).out).mono ?_
    rintro e x ⟨rfl,hx⟩
    subst x
    go_wp2_with fail
    refine ((C2 _).out).mono ?_
    rintro e x ⟨rfl,hx⟩
    subst x
    go_wp2_with fail
    go_ret
    exact ⟨aAy HN.out,rfl⟩
  ·have HN:Hid (¬ aBr s):=fun h=>by
    obtain ⟨h0,e⟩:=HP.out.1 rfl
    exact ((h.2 0 h0).2.2 e).1 rfl
   clear HP HS
   go_enter Tryz.func212,Tryz.ntmps212
   go_wp2_with fail
   refine ((C1 _).out).mono ?_
   rintro e x ⟨rfl,hx⟩
   subst x
   go_wp2_with fail
   go_ret
   exact ⟨aAy HN.out,rfl⟩
end Go.Proofs.YthnodpdiocppgaaGreatDoor
namespace Go.Proofs.YthnodpdiocppgaaGreatDoor
open Go Go.RowKit Go.Shelf
def RowP (w:World) (v:Value) (l:List aAa):Prop:=∃ b,w.ownsRow b 96 2 v l.length (flat l)
theorem RowP.mk {w:World} {b n:Nat} {v:Value} {l:List aAa} (hn:n=l.length) (h:w.ownsRow b 96 2 v n (flat l)):RowP w v l:=⟨b,by rw [←hn];exact h⟩
end Go.Proofs.YthnodpdiocppgaaGreatDoor
namespace Go.Proofs.YthnodpdiocppgaaGreatDoor
open Go Go.RowKit Go.Shelf Go.Deep
end Go.Proofs.YthnodpdiocppgaaGreatDoor
