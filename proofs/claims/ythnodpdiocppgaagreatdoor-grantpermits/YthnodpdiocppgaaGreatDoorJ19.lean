/-
  Walks: exactnessOf, Order.
-/
import Derived.Test.YthnodpdiocppgaaGreatDoorJ8
import Derived.Deep.RegionHeld3
set_option maxHeartbeats 400000
set_option maxRecDepth 20000
namespace Go.Proofs.YthnodpdiocppgaaGreatDoor
open Go Go.RowKit Go.Shelf
end Go.Proofs.YthnodpdiocppgaaGreatDoor
namespace Go.Proofs.YthnodpdiocppgaaGreatDoor
open Go Go.RowKit Go.Shelf
end Go.Proofs.YthnodpdiocppgaaGreatDoor
namespace Go.Proofs.YthnodpdiocppgaaGreatDoor
open Go Go.RowKit Go.Shelf
theorem aVa (l:List UInt8):isW l=true↔∃ t,l=42::46::t:=by
 constructor
 ·intro h;exact ⟨_,aL6 h⟩
 ·rintro ⟨t,rfl⟩;simp [isW,Lib.hasPrefix]
theorem aVb (l:List UInt8) (h:2≤l.length):isW l=(decide ((l[0].toNat:Int)=42)&&decide ((l[1].toNat:Int)=46)):=by
 rcases l with _ | ⟨x,_ | ⟨y,t⟩⟩
 ·simp at h
 ·simp at h
 ·rw [Bool.eq_iff_iff,aVa,Bool.and_eq_true,decide_eq_true_eq,decide_eq_true_eq]
  simp only [List.getElem_cons_zero,List.getElem_cons_succ]
  constructor
  ·rintro ⟨t',h'⟩
   simp at h'
   rw [h'.1,h'.2.1]
   exact ⟨rfl,rfl⟩
  ·rintro ⟨h1,h2⟩
   have a:x=42:=UInt8.toNat_inj.1 (by show x.toNat=42;omega)
   have b:y=46:=UInt8.toNat_inj.1 (by show y.toNat=46;omega)
   exact ⟨t,by rw [a,b]⟩
theorem aW6 (s:ByteArray) (h:2≤s.size):isW s.data.toList=(decide ((s[0].toNat:Int)=42)&&decide ((s[1].toNat:Int)=46)) :=
 aVb s.data.toList (by rw [Array.length_toList];exact h)
theorem aRp {s:ByteArray} (h:¬ 2≤s.size):isW s.data.toList=false:=by
 have hsl:s.data.toList.length=s.size:=Array.length_toList
 cases hw:isW s.data.toList
 ·rfl
 ·have:=aU6 hw;omega
theorem aHz (s:ByteArray) (w:World) (hs:s.size≤maxLen) :
  Calls Tryz.prog 93 #[.string s] w fun e w'=>e=.returned (.tuple #[.string (aD9 s ⟨#[42,46]⟩),.bool (isW s.data.toList)])∧w'=w:=by
 unfold maxLen at hs
 by_cases h2:2≤s.size
 ·have hat:=aW6 s h2
  cases hw:isW s.data.toList
  ·have HX:=hide (aG2 (p:=⟨#[42,46]⟩) hw)
   have HW:=hide hw
   rw [hw] at hat
   have h2':(2:Int)≤(s.size:Int):=by omega
   cases q0:((s[0].toNat:Int) == 42)
   ·clear hat hw
    go_enter Tryz.func93,Tryz.ntmps93
    go_wp2_with fail
    go_ret2
    exact ⟨by rw [←HX.out];rfl,rfl⟩
   ·have q1:((s[1].toNat:Int) == 46)=false:=by
     cases q1:((s[1].toNat:Int) == 46)
     ·rfl
     ·rw [decide_eq_true (beq_iff_eq.1 q0),decide_eq_true (beq_iff_eq.1 q1)] at hat;cases hat
    clear hat hw
    go_enter Tryz.func93,Tryz.ntmps93
    go_wp2_with fail
    go_ret2
    exact ⟨by rw [←HX.out];rfl,rfl⟩
  ·have HX:=hide (aJv (p:=⟨#[42,46]⟩) hw)
   have HW:=hide hw
   rw [hw] at hat
   have h2':(2:Int)≤(s.size:Int):=by omega
   have hat':=Bool.and_eq_true _ _ ▸ hat.symm
   have q0:((s[0].toNat:Int) == 42)=true:=beq_iff_eq.2 (of_decide_eq_true hat'.1)
   have q1:((s[1].toNat:Int) == 46)=true:=beq_iff_eq.2 (of_decide_eq_true hat'.2)
   clear hat hat' hw
   go_enter Tryz.func93,Tryz.ntmps93
   go_wp2_with fail
   go_ret2
   exact ⟨by rw [←HX.out];rfl,rfl⟩
 ·have hw:=aRp h2
  have HX:=hide (aG2 (p:=⟨#[42,46]⟩) hw)
  have HW:=hide hw
  have h2':¬ (2:Int)≤(s.size:Int):=by omega
  clear hw
  go_enter Tryz.func93,Tryz.ntmps93
  go_wp2_with fail
  go_ret2
  exact ⟨by rw [HW.out,←HX.out];rfl,rfl⟩
theorem aKa (s:ByteArray) (w:World) (hs:s.size≤100) :
  Calls Tryz.prog 70 #[.string s] w fun e w'=>e=.returned (.bool (may s.data.toList))∧Below w.heap.size w w':=by
 have HM:Hid (may s.data.toList=(s.data.toList.isEmpty||(decide (s.data.toList.length≤60)&&D.isName (aD9 s ⟨#[42,46]⟩).data.toList))):=by
  unfold Hid;rw [aL8];rfl
 have hsl:s.data.toList.length=s.size:=Array.length_toList
 have ls:s.size≤maxLen:=aBc (by omega)
 cases h:s.toList.isEmpty
 ·by_cases h60:s.size≤60
  ·have lt:=Nat.le_trans (aL7 s ⟨#[42,46]⟩) hs
   have HE:Hid (D.isName (aD9 s ⟨#[42,46]⟩).data.toList=may s.data.toList):=by
    unfold Hid;rw [HM.out,aDj,h,hsl,decide_eq_true h60];rfl
   have h60':(s.size:Int)≤60:=by omega
   clear hsl
   go_enter Tryz.func70,Tryz.ntmps70
   go_wp2_with fail
   refine (aHz _ _ ls).mono ?_
   rintro e x ⟨rfl,rfl⟩
   go_wp2_with fail
   refine (aD3 _ _ (by omega)).mono ?_
   rintro e x ⟨rfl,hb⟩
   go_wp2_with fail
   go_ret
   exact ⟨aA1 HE.out,hb⟩
  ·have HE:Hid (may s.data.toList=false):=by
    unfold Hid;rw [HM.out,aDj,h,hsl,decide_eq_false h60];rfl
   have h60':¬ (s.size:Int)≤60:=by omega
   clear hsl
   go_enter Tryz.func70,Tryz.ntmps70
   go_wp2_with fail
   refine (aHz _ _ ls).mono ?_
   rintro e x ⟨rfl,rfl⟩
   go_wp2_with fail
   go_ret
   exact ⟨aA1 HE.out.symm,Below.refl _ _⟩
 ·have HE:Hid (may s.data.toList=true):=by
   unfold Hid;rw [HM.out,aDj,h];rfl
  clear hsl
  go_enter Tryz.func70,Tryz.ntmps70
  go_wp2_with fail
  refine (aHz _ _ ls).mono ?_
  rintro e x ⟨rfl,rfl⟩
  go_wp2_with fail
  go_ret
  exact ⟨aA1 HE.out.symm,Below.refl _ _⟩
end Go.Proofs.YthnodpdiocppgaaGreatDoor
