/-
  Walks: slices.Clone, at each type of an object's lists.
-/
import Derived.Test.YthnodpdiocppgaaGreatDoorObFewC
import Derived.Test.YthnodpdiocppgaaGreatDoorJ2
import Derived.Test.YthnodpdiocppgaaGreatDoorJ11
import Derived.Test.YthnodpdiocppgaaGreatDoorJ16
set_option maxHeartbeats 3200000
set_option linter.unusedVariables false
set_option maxRecDepth 20000
namespace Go.Proofs.YthnodpdiocppgaaGreatDoor
open Go Go.RowKit Go.Shelf
theorem aT7 (v:Value) (l:List Int) (w:World) (hv:Sl EI w v l) (hl:l.length≤1000) :
  Calls Tryz.prog 53 #[v] w fun e w'=>∃ a c,e=.returned (.slice a l.length c)∧w'.ownsRow w.heap.size 3 EI.n (.slice a l.length c) l.length (EI.flat l)∧Below w.heap.size w w':=by
 have HV:=hide hv
 have qS:∀ (w:World) (a:Option Addr) (n c:Nat),(binOp .eql 29 (.slice a n c) (.slice none 0 0)).run Tryz.prog w=.ok (.bool a.isNone) w:=fun w a n c=>Lib.run_eql_slice_nil w _ _ a n c 0 0 Tryz.underlying29
 obtain ⟨a,cap,rfl,_,_,hc⟩:=hv
 cases a with
 | none =>
   have:l=[]:=by
    cases l with
    | nil=>rfl
    | cons p l =>
      obtain ⟨_,g,off,h1,_⟩:=hc 0 (by simp)
      exact absurd h1 (by simp)
   subst this
   clear hc
   go_enter Tryz.func53,Tryz.ntmps53
   go_wp2_with fail
   go_ret
   exact ⟨none,0,rfl,World.ownsRow_nil _ _ _ _,Below.refl _ _⟩
 | some ad =>
   clear hc
   go_enter Tryz.func53,Tryz.ntmps53
   go_wp2_with (at_builtin;refine aAg (E:=EI) 29 3 _ 8 Tryz.underlying29 Tryz.infoInt rfl (by decide) _ _ _ rfl (by rfl) w.heap.size _ 0 [] rfl (aAn _ _ _ _ rfl) _ _ rfl (HV.out.below ((Below.refl _ _).alloc (Nat.le_refl _) _)) (by omega) (by simp) ?_;intro v' w3 hown' hgrow)
   rw [Nat.zero_add,List.nil_append] at hown'
   obtain ⟨a3,c3,rfl⟩:=aAj hown'
   go_ret
   refine ⟨a3,c3,rfl,hown',((Below.refl _ _).alloc (Nat.le_refl _) _).grown hgrow (by simp) (fun j e=>?_)⟩
   have:=aAe (aAn 3 EI.n w w.heap.size rfl) e
   simpa using this
theorem aLx (v:Value) (l:List ByteArray) (w:World) (hv:Sl ES w v l) (hl:l.length≤1000) :
  Calls Tryz.prog 57 #[v] w fun e w'=>∃ a c,e=.returned (.slice a l.length c)∧w'.ownsRow w.heap.size 9 ES.n (.slice a l.length c) l.length (ES.flat l)∧Below w.heap.size w w':=by
 have HV:=hide hv
 have qS:∀ (w:World) (a:Option Addr) (n c:Nat),(binOp .eql 32 (.slice a n c) (.slice none 0 0)).run Tryz.prog w=.ok (.bool a.isNone) w:=fun w a n c=>Lib.run_eql_slice_nil w _ _ a n c 0 0 Tryz.underlying32
 obtain ⟨a,cap,rfl,_,_,hc⟩:=hv
 cases a with
 | none =>
   have:l=[]:=by
    cases l with
    | nil=>rfl
    | cons p l =>
      obtain ⟨_,g,off,h1,_⟩:=hc 0 (by simp)
      exact absurd h1 (by simp)
   subst this
   clear hc
   go_enter Tryz.func57,Tryz.ntmps57
   go_wp2_with fail
   go_ret
   exact ⟨none,0,rfl,World.ownsRow_nil _ _ _ _,Below.refl _ _⟩
 | some ad =>
   clear hc
   go_enter Tryz.func57,Tryz.ntmps57
   go_wp2_with (at_builtin;refine aAg (E:=ES) 32 9 _ 16 Tryz.underlying32 Tryz.infoStr rfl (by decide) _ _ _ rfl (by rfl) w.heap.size _ 0 [] rfl (aAn _ _ _ _ rfl) _ _ rfl (HV.out.below ((Below.refl _ _).alloc (Nat.le_refl _) _)) (by omega) (by simp) ?_;intro v' w3 hown' hgrow)
   rw [Nat.zero_add,List.nil_append] at hown'
   obtain ⟨a3,c3,rfl⟩:=aAj hown'
   go_ret
   refine ⟨a3,c3,rfl,hown',((Below.refl _ _).alloc (Nat.le_refl _) _).grown hgrow (by simp) (fun j e=>?_)⟩
   have:=aAe (aAn 9 ES.n w w.heap.size rfl) e
   simpa using this
theorem aRc (v:Value) (l:List LiV) (w:World) (hv:Sl ELi w v l) (hl:l.length≤1000) :
  Calls Tryz.prog 75 #[v] w fun e w'=>∃ a c,e=.returned (.slice a l.length c)∧w'.ownsRow w.heap.size 67 ELi.n (.slice a l.length c) l.length (ELi.flat l)∧Below w.heap.size w w':=by
 have HV:=hide hv
 have qS:∀ (w:World) (a:Option Addr) (n c:Nat),(binOp .eql 30 (.slice a n c) (.slice none 0 0)).run Tryz.prog w=.ok (.bool a.isNone) w:=fun w a n c=>Lib.run_eql_slice_nil w _ _ a n c 0 0 Tryz.underlying30
 obtain ⟨a,cap,rfl,_,_,hc⟩:=hv
 cases a with
 | none =>
   have:l=[]:=by
    cases l with
    | nil=>rfl
    | cons p l =>
      obtain ⟨_,g,off,h1,_⟩:=hc 0 (by simp)
      exact absurd h1 (by simp)
   subst this
   clear hc
   go_enter Tryz.func75,Tryz.ntmps75
   go_wp2_with fail
   go_ret
   exact ⟨none,0,rfl,World.ownsRow_nil _ _ _ _,Below.refl _ _⟩
 | some ad =>
   clear hc
   go_enter Tryz.func75,Tryz.ntmps75
   go_wp2_with (at_builtin;refine aAg (E:=ELi) 30 67 _ 120 Tryz.underlying30 Tryz.infoLi rfl (by decide) _ _ _ rfl (by rfl) w.heap.size _ 0 [] rfl (aAn _ _ _ _ rfl) _ _ rfl (HV.out.below ((Below.refl _ _).alloc (Nat.le_refl _) _)) (by omega) (by simp) ?_;intro v' w3 hown' hgrow)
   rw [Nat.zero_add,List.nil_append] at hown'
   obtain ⟨a3,c3,rfl⟩:=aAj hown'
   go_ret
   refine ⟨a3,c3,rfl,hown',((Below.refl _ _).alloc (Nat.le_refl _) _).grown hgrow (by simp) (fun j e=>?_)⟩
   have:=aAe (aAn 67 ELi.n w w.heap.size rfl) e
   simpa using this
theorem aRd (v:Value) (l:List PtB) (w:World) (hv:Sl EPt w v l) (hl:l.length≤1000) :
  Calls Tryz.prog 56 #[v] w fun e w'=>∃ a c,e=.returned (.slice a l.length c)∧w'.ownsRow w.heap.size 70 EPt.n (.slice a l.length c) l.length (EPt.flat l)∧Below w.heap.size w w':=by
 have HV:=hide hv
 have qS:∀ (w:World) (a:Option Addr) (n c:Nat),(binOp .eql 31 (.slice a n c) (.slice none 0 0)).run Tryz.prog w=.ok (.bool a.isNone) w:=fun w a n c=>Lib.run_eql_slice_nil w _ _ a n c 0 0 Tryz.underlying31
 obtain ⟨a,cap,rfl,_,_,hc⟩:=hv
 cases a with
 | none =>
   have:l=[]:=by
    cases l with
    | nil=>rfl
    | cons p l =>
      obtain ⟨_,g,off,h1,_⟩:=hc 0 (by simp)
      exact absurd h1 (by simp)
   subst this
   clear hc
   go_enter Tryz.func56,Tryz.ntmps56
   go_wp2_with fail
   go_ret
   exact ⟨none,0,rfl,World.ownsRow_nil _ _ _ _,Below.refl _ _⟩
 | some ad =>
   clear hc
   go_enter Tryz.func56,Tryz.ntmps56
   go_wp2_with (at_builtin;refine aAg (E:=EPt) 31 70 _ 56 Tryz.underlying31 Tryz.infoPt rfl (by decide) _ _ _ rfl (by rfl) w.heap.size _ 0 [] rfl (aAn _ _ _ _ rfl) _ _ rfl (HV.out.below ((Below.refl _ _).alloc (Nat.le_refl _) _)) (by omega) (by simp) ?_;intro v' w3 hown' hgrow)
   rw [Nat.zero_add,List.nil_append] at hown'
   obtain ⟨a3,c3,rfl⟩:=aAj hown'
   go_ret
   refine ⟨a3,c3,rfl,hown',((Below.refl _ _).alloc (Nat.le_refl _) _).grown hgrow (by simp) (fun j e=>?_)⟩
   have:=aAe (aAn 70 EPt.n w w.heap.size rfl) e
   simpa using this
theorem aRe (v:Value) (l:List RlV) (w:World) (hv:Sl ERl w v l) (hl:l.length≤1000) :
  Calls Tryz.prog 78 #[v] w fun e w'=>∃ a c,e=.returned (.slice a l.length c)∧w'.ownsRow w.heap.size 76 ERl.n (.slice a l.length c) l.length (ERl.flat l)∧Below w.heap.size w w':=by
 have HV:=hide hv
 have qS:∀ (w:World) (a:Option Addr) (n c:Nat),(binOp .eql 33 (.slice a n c) (.slice none 0 0)).run Tryz.prog w=.ok (.bool a.isNone) w:=fun w a n c=>Lib.run_eql_slice_nil w _ _ a n c 0 0 Tryz.underlying33
 obtain ⟨a,cap,rfl,_,_,hc⟩:=hv
 cases a with
 | none =>
   have:l=[]:=by
    cases l with
    | nil=>rfl
    | cons p l =>
      obtain ⟨_,g,off,h1,_⟩:=hc 0 (by simp)
      exact absurd h1 (by simp)
   subst this
   clear hc
   go_enter Tryz.func78,Tryz.ntmps78
   go_wp2_with fail
   go_ret
   exact ⟨none,0,rfl,World.ownsRow_nil _ _ _ _,Below.refl _ _⟩
 | some ad =>
   clear hc
   go_enter Tryz.func78,Tryz.ntmps78
   go_wp2_with (at_builtin;refine aAg (E:=ERl) 33 76 _ 72 Tryz.underlying33 Tryz.infoRl rfl (by decide) _ _ _ rfl (by rfl) w.heap.size _ 0 [] rfl (aAn _ _ _ _ rfl) _ _ rfl (HV.out.below ((Below.refl _ _).alloc (Nat.le_refl _) _)) (by omega) (by simp) ?_;intro v' w3 hown' hgrow)
   rw [Nat.zero_add,List.nil_append] at hown'
   obtain ⟨a3,c3,rfl⟩:=aAj hown'
   go_ret
   refine ⟨a3,c3,rfl,hown',((Below.refl _ _).alloc (Nat.le_refl _) _).grown hgrow (by simp) (fun j e=>?_)⟩
   have:=aAe (aAn 76 ERl.n w w.heap.size rfl) e
   simpa using this
theorem aK7 (v:Value) (l:List RfB) (w:World) (hv:Sl ER w v l) (hl:l.length≤1000) :
  Calls Tryz.prog 60 #[v] w fun e w'=>∃ a c,e=.returned (.slice a l.length c)∧w'.ownsRow w.heap.size 53 ER.n (.slice a l.length c) l.length (ER.flat l)∧Below w.heap.size w w':=by
 have HV:=hide hv
 have qS:∀ (w:World) (a:Option Addr) (n c:Nat),(binOp .eql 34 (.slice a n c) (.slice none 0 0)).run Tryz.prog w=.ok (.bool a.isNone) w:=fun w a n c=>Lib.run_eql_slice_nil w _ _ a n c 0 0 Tryz.underlying34
 obtain ⟨a,cap,rfl,_,_,hc⟩:=hv
 cases a with
 | none =>
   have:l=[]:=by
    cases l with
    | nil=>rfl
    | cons p l =>
      obtain ⟨_,g,off,h1,_⟩:=hc 0 (by simp)
      exact absurd h1 (by simp)
   subst this
   clear hc
   go_enter Tryz.func60,Tryz.ntmps60
   go_wp2_with fail
   go_ret
   exact ⟨none,0,rfl,World.ownsRow_nil _ _ _ _,Below.refl _ _⟩
 | some ad =>
   clear hc
   go_enter Tryz.func60,Tryz.ntmps60
   go_wp2_with (at_builtin;refine aAg (E:=ER) 34 53 _ 40 Tryz.underlying34 Tryz.infoSide rfl (by decide) _ _ _ rfl (by rfl) w.heap.size _ 0 [] rfl (aAn _ _ _ _ rfl) _ _ rfl (HV.out.below ((Below.refl _ _).alloc (Nat.le_refl _) _)) (by omega) (by simp) ?_;intro v' w3 hown' hgrow)
   rw [Nat.zero_add,List.nil_append] at hown'
   obtain ⟨a3,c3,rfl⟩:=aAj hown'
   go_ret
   refine ⟨a3,c3,rfl,hown',((Below.refl _ _).alloc (Nat.le_refl _) _).grown hgrow (by simp) (fun j e=>?_)⟩
   have:=aAe (aAn 53 ER.n w w.heap.size rfl) e
   simpa using this
theorem aRf (v:Value) (l:List NV) (w:World) (hv:Sl EN w v l) (hl:l.length≤1000) :
  Calls Tryz.prog 97 #[v] w fun e w'=>∃ a c,e=.returned (.slice a l.length c)∧w'.ownsRow w.heap.size 105 EN.n (.slice a l.length c) l.length (EN.flat l)∧Below w.heap.size w w':=by
 have HV:=hide hv
 have qS:∀ (w:World) (a:Option Addr) (n c:Nat),(binOp .eql 65 (.slice a n c) (.slice none 0 0)).run Tryz.prog w=.ok (.bool a.isNone) w:=fun w a n c=>Lib.run_eql_slice_nil w _ _ a n c 0 0 Tryz.underlying65
 obtain ⟨a,cap,rfl,_,_,hc⟩:=hv
 cases a with
 | none =>
   have:l=[]:=by
    cases l with
    | nil=>rfl
    | cons p l =>
      obtain ⟨_,g,off,h1,_⟩:=hc 0 (by simp)
      exact absurd h1 (by simp)
   subst this
   clear hc
   go_enter Tryz.func97,Tryz.ntmps97
   go_wp2_with fail
   go_ret
   exact ⟨none,0,rfl,World.ownsRow_nil _ _ _ _,Below.refl _ _⟩
 | some ad =>
   clear hc
   go_enter Tryz.func97,Tryz.ntmps97
   go_wp2_with (at_builtin;refine aAg (E:=EN) 65 105 _ 48 Tryz.underlying65 Tryz.infoNeed rfl (by decide) _ _ _ rfl (by rfl) w.heap.size _ 0 [] rfl (aAn _ _ _ _ rfl) _ _ rfl (HV.out.below ((Below.refl _ _).alloc (Nat.le_refl _) _)) (by omega) (by simp) ?_;intro v' w3 hown' hgrow)
   rw [Nat.zero_add,List.nil_append] at hown'
   obtain ⟨a3,c3,rfl⟩:=aAj hown'
   go_ret
   refine ⟨a3,c3,rfl,hown',((Below.refl _ _).alloc (Nat.le_refl _) _).grown hgrow (by simp) (fun j e=>?_)⟩
   have:=aAe (aAn 105 EN.n w w.heap.size rfl) e
   simpa using this
theorem aRg (v:Value) (l:List MV) (w:World) (hv:Sl EM w v l) (hl:l.length≤1000) :
  Calls Tryz.prog 98 #[v] w fun e w'=>∃ a c,e=.returned (.slice a l.length c)∧w'.ownsRow w.heap.size 88 EM.n (.slice a l.length c) l.length (EM.flat l)∧Below w.heap.size w w':=by
 have HV:=hide hv
 have qS:∀ (w:World) (a:Option Addr) (n c:Nat),(binOp .eql 72 (.slice a n c) (.slice none 0 0)).run Tryz.prog w=.ok (.bool a.isNone) w:=fun w a n c=>Lib.run_eql_slice_nil w _ _ a n c 0 0 Tryz.underlying72
 obtain ⟨a,cap,rfl,_,_,hc⟩:=hv
 cases a with
 | none =>
   have:l=[]:=by
    cases l with
    | nil=>rfl
    | cons p l =>
      obtain ⟨_,g,off,h1,_⟩:=hc 0 (by simp)
      exact absurd h1 (by simp)
   subst this
   clear hc
   go_enter Tryz.func98,Tryz.ntmps98
   go_wp2_with fail
   go_ret
   exact ⟨none,0,rfl,World.ownsRow_nil _ _ _ _,Below.refl _ _⟩
 | some ad =>
   clear hc
   go_enter Tryz.func98,Tryz.ntmps98
   go_wp2_with (at_builtin;refine aAg (E:=EM) 72 88 _ 88 Tryz.underlying72 Tryz.infoMt rfl (by decide) _ _ _ rfl (by rfl) w.heap.size _ 0 [] rfl (aAn _ _ _ _ rfl) _ _ rfl (HV.out.below ((Below.refl _ _).alloc (Nat.le_refl _) _)) (by omega) (by simp) ?_;intro v' w3 hown' hgrow)
   rw [Nat.zero_add,List.nil_append] at hown'
   obtain ⟨a3,c3,rfl⟩:=aAj hown'
   go_ret
   refine ⟨a3,c3,rfl,hown',((Below.refl _ _).alloc (Nat.le_refl _) _).grown hgrow (by simp) (fun j e=>?_)⟩
   have:=aAe (aAn 88 EM.n w w.heap.size rfl) e
   simpa using this
theorem aRh (v:Value) (l:List FB) (w:World) (hv:Sl EF w v l) (hl:l.length≤1000) :
  Calls Tryz.prog 81 #[v] w fun e w'=>∃ a c,e=.returned (.slice a l.length c)∧w'.ownsRow w.heap.size 108 EF.n (.slice a l.length c) l.length (EF.flat l)∧Below w.heap.size w w':=by
 have HV:=hide hv
 have qS:∀ (w:World) (a:Option Addr) (n c:Nat),(binOp .eql 73 (.slice a n c) (.slice none 0 0)).run Tryz.prog w=.ok (.bool a.isNone) w:=fun w a n c=>Lib.run_eql_slice_nil w _ _ a n c 0 0 Tryz.underlying73
 obtain ⟨a,cap,rfl,_,_,hc⟩:=hv
 cases a with
 | none =>
   have:l=[]:=by
    cases l with
    | nil=>rfl
    | cons p l =>
      obtain ⟨_,g,off,h1,_⟩:=hc 0 (by simp)
      exact absurd h1 (by simp)
   subst this
   clear hc
   go_enter Tryz.func81,Tryz.ntmps81
   go_wp2_with fail
   go_ret
   exact ⟨none,0,rfl,World.ownsRow_nil _ _ _ _,Below.refl _ _⟩
 | some ad =>
   clear hc
   go_enter Tryz.func81,Tryz.ntmps81
   go_wp2_with (at_builtin;refine aAg (E:=EF) 73 108 _ 96 Tryz.underlying73 Tryz.infoFil rfl (by decide) _ _ _ rfl (by rfl) w.heap.size _ 0 [] rfl (aAn _ _ _ _ rfl) _ _ rfl (HV.out.below ((Below.refl _ _).alloc (Nat.le_refl _) _)) (by omega) (by simp) ?_;intro v' w3 hown' hgrow)
   rw [Nat.zero_add,List.nil_append] at hown'
   obtain ⟨a3,c3,rfl⟩:=aAj hown'
   go_ret
   refine ⟨a3,c3,rfl,hown',((Below.refl _ _).alloc (Nat.le_refl _) _).grown hgrow (by simp) (fun j e=>?_)⟩
   have:=aAe (aAn 108 EF.n w w.heap.size rfl) e
   simpa using this
theorem aRi (v:Value) (l:List BkB) (w:World) (hv:Sl EK w v l) (hl:l.length≤1000) :
  Calls Tryz.prog 82 #[v] w fun e w'=>∃ a c,e=.returned (.slice a l.length c)∧w'.ownsRow w.heap.size 91 EK.n (.slice a l.length c) l.length (EK.flat l)∧Below w.heap.size w w':=by
 have HV:=hide hv
 have qS:∀ (w:World) (a:Option Addr) (n c:Nat),(binOp .eql 74 (.slice a n c) (.slice none 0 0)).run Tryz.prog w=.ok (.bool a.isNone) w:=fun w a n c=>Lib.run_eql_slice_nil w _ _ a n c 0 0 Tryz.underlying74
 obtain ⟨a,cap,rfl,_,_,hc⟩:=hv
 cases a with
 | none =>
   have:l=[]:=by
    cases l with
    | nil=>rfl
    | cons p l =>
      obtain ⟨_,g,off,h1,_⟩:=hc 0 (by simp)
      exact absurd h1 (by simp)
   subst this
   clear hc
   go_enter Tryz.func82,Tryz.ntmps82
   go_wp2_with fail
   go_ret
   exact ⟨none,0,rfl,World.ownsRow_nil _ _ _ _,Below.refl _ _⟩
 | some ad =>
   clear hc
   go_enter Tryz.func82,Tryz.ntmps82
   go_wp2_with (at_builtin;refine aAg (E:=EK) 74 91 _ 56 Tryz.underlying74 Tryz.infoBk rfl (by decide) _ _ _ rfl (by rfl) w.heap.size _ 0 [] rfl (aAn _ _ _ _ rfl) _ _ rfl (HV.out.below ((Below.refl _ _).alloc (Nat.le_refl _) _)) (by omega) (by simp) ?_;intro v' w3 hown' hgrow)
   rw [Nat.zero_add,List.nil_append] at hown'
   obtain ⟨a3,c3,rfl⟩:=aAj hown'
   go_ret
   refine ⟨a3,c3,rfl,hown',((Below.refl _ _).alloc (Nat.le_refl _) _).grown hgrow (by simp) (fun j e=>?_)⟩
   have:=aAe (aAn 91 EK.n w w.heap.size rfl) e
   simpa using this
end Go.Proofs.YthnodpdiocppgaaGreatDoor
namespace Go.Proofs.YthnodpdiocppgaaGreatDoor
open Go Go.RowKit Go.Shelf
theorem aRj (x:NV) (w:World) (hx:Sl ES w x.v x.n.vals) (hl:x.n.vals.length≤1000) :
  Calls Tryz.prog 77 #[nV x] w fun e w'=>∃ y:NV,e=.returned (nV y)∧y.n=x.n∧y.own w'∧Below w.heap.size w w':=by
 obtain ⟨X,hX⟩:∃ z,z=(w.alloc (.cells #[.int .i64 x.n.kind,.string x.n.name,.slice x.a x.n.vals.length x.c] 105)).alloc (.cells #[.int .i64 0,.string ⟨#[]⟩,.slice none 0 0] 105):=⟨_,rfl⟩
 have B1:Below w.heap.size w X:=by rw [hX];exact ((Below.refl _ _).alloc (Nat.le_refl _) _).alloc (by simp) _
 have K0:X.heap[w.heap.size]?=some (.cells #[.int .i64 x.n.kind,.string x.n.name,.slice x.a x.n.vals.length x.c] 105):=by rw [hX];exact aA2 (aA7 w _) ((Below.refl _ _).alloc (Nat.le_refl _) _)
 have K1:X.heap[w.heap.size+1]?=some (.cells #[.int .i64 0,.string ⟨#[]⟩,.slice none 0 0] 105):=by
  rw [hX]
  have:=aA7 (w.alloc (.cells #[.int .i64 x.n.kind,.string x.n.name,.slice x.a x.n.vals.length x.c] 105)) (.cells #[.int .i64 0,.string ⟨#[]⟩,.slice none 0 0] 105)
  simpa using this
 have C1:=fun W (h:Below w.heap.size w W)=>hide (aLx x.v x.n.vals W (hx.below h) hl)
 have HB:=hide B1
 have HK0:=hide K0
 have HK1:=hide K1
 clear B1 K0 K1 hx hl
 go_enter Tryz.func77,Tryz.ntmps77
 go_wp2_with fail
 rw [←hX]
 clear hX
 refine (C1 _ HB.out).out.mono ?_
 rintro e w0 ⟨a1,c1,rfl,r1,hb⟩
 have kb:=aA2 HK0.out hb
 have kr:=aA2 HK1.out hb
 have BB:=bb2 HB.out hb
 have K2:=hide (show (w0.setCell ⟨w.heap.size,2,none⟩ (.slice a1 x.n.vals.length c1)).heap[w.heap.size]?=some (.cells #[.int .i64 x.n.kind,.string x.n.name,.slice a1 x.n.vals.length c1] 105) from aBi (i:=2) (.slice a1 x.n.vals.length c1) kb)
 have KR2:=hide (show (w0.setCell ⟨w.heap.size,2,none⟩ (.slice a1 x.n.vals.length c1)).heap[w.heap.size+1]?=some (.cells #[.int .i64 0,.string ⟨#[]⟩,.slice none 0 0] 105) from (Below.heap_setCell _ _ _ _ (by show w.heap.size+1≠w.heap.size;omega)).trans kr)
 have BB2:=hide (show Below w.heap.size w (w0.setCell ⟨w.heap.size,2,none⟩ (.slice a1 x.n.vals.length c1)) from BB.setCell (p:=⟨w.heap.size,2,none⟩) (Nat.le_refl _) (.slice a1 x.n.vals.length c1))
 have hx:BX w.heap.size w0.heap.size w0 (w0.setCell ⟨w.heap.size,2,none⟩ (.slice a1 x.n.vals.length c1)):=(BX.refl w.heap.size w0.heap.size w0).setL 2 [.slice a1 x.n.vals.length c1]
 have yr1:=hide (hx.row kb r1 (by decide))
 have lz:=aAl kb
 have zi:=aA0 kb (i:=2) rfl
 have lr:=aAl KR2.out
 obtain ⟨f0,f1,f2⟩:_∧_∧_:=⟨aA0 K2.out (i:=0) rfl,aA0 K2.out (i:=1) rfl,aA0 K2.out (i:=2) rfl⟩
 obtain ⟨g0,g1,g2⟩:_∧_∧_:=⟨aA0 KR2.out (i:=0) rfl,aA0 KR2.out (i:=1) rfl,aA0 KR2.out (i:=2) rfl⟩
 clear kb kr BB HB HK0 HK1 hx hb r1
 go_wp2_with fail
 clear lz lr zi f0 g0 f1 g1 f2 g2
 have S1:=aAh (w:=w) (B:=w.heap.size) (g:=w.heap.size+1) (Nat.le_succ _) [.int .i64 x.n.kind,.string x.n.name,.slice a1 x.n.vals.length c1] _ 0 BB2.out
 have K4:=aB2 [.int .i64 x.n.kind,.string x.n.name,.slice a1 x.n.vals.length c1] KR2.out rfl
 have hx2:=(BX.refl (w.heap.size+1) (w0.setCell ⟨w.heap.size,2,none⟩ (.slice a1 x.n.vals.length c1)).heap.size (w0.setCell ⟨w.heap.size,2,none⟩ (.slice a1 x.n.vals.length c1))).setL 0 [.int .i64 x.n.kind,.string x.n.name,.slice a1 x.n.vals.length c1]
 have xr1:=hx2.row KR2.out yr1.out (by decide)
 clear BB2 K2 KR2 hx2 yr1
 change bodyPost _ _ _ _ _ (setL (w0.setCell ⟨w.heap.size,2,none⟩ (.slice a1 x.n.vals.length c1)) (w.heap.size+1) 0 [.int .i64 x.n.kind,.string x.n.name,.slice a1 x.n.vals.length c1])
 generalize setL (w0.setCell ⟨w.heap.size,2,none⟩ (.slice a1 x.n.vals.length c1)) (w.heap.size+1) 0 [.int .i64 x.n.kind,.string x.n.name,.slice a1 x.n.vals.length c1]=W9 at *
 obtain ⟨e0,e1,e2⟩:_∧_∧_:=⟨aA0 K4 (i:=0) rfl,aA0 K4 (i:=1) rfl,aA0 K4 (i:=2) rfl⟩
 exact bodyPost_ret (v:=.agg #[.int .i64 x.n.kind,.string x.n.name,.slice a1 x.n.vals.length c1]) (by simp [results,Tryz.f77,go_sem,e0,e1,e2]) rfl (⟨⟨x.n,a1,c1⟩,rfl,rfl,⟨_,xr1⟩,S1⟩)
theorem aP7 (v:Value) (L:List NV) (w:World) (hv:Sl EN w v L) (hl:L.length≤1000) (hP:∀ x∈L,x.n.vals.length≤1000) :
  Calls Tryz.prog 76 #[v,.func (.func 77) #[] #[]] w fun e w'=>∃ a c L',e=.returned (.slice a (List.length L') c)∧L'.map NV.n=L.map NV.n∧w'.ownsRow w.heap.size 105 EN.n (.slice a L'.length c) L'.length (EN.flat L')∧(∀ y∈L',y.own w')∧Below w.heap.size w w':=by
 have C1:=hide (aRf v L w hv hl)
 have C2:=hide (fun W (h:Below w.heap.size w W) x (hx:x∈L)=>aRj x W ((hv.all x hx).below h) (hP x hx))
 have HAT:=hide (fun x hx=>hv.all x hx)
 have ent:∀ (args:Array Value) (w:World),(callFunc 77 args).run Tryz.prog w=.ok (.enter 77 args) w:=fun args w=>aAd Tryz.func77 (by kernel_rfl) rfl args w
 obtain ⟨av,cv,rfl⟩:=hv.form
 clear hv hP
 go_enter Tryz.func76,Tryz.ntmps76
 go_wp2_with fail
 refine C1.out.mono ?_
 rintro e w1 ⟨a,c,rfl,hrow1,hb1⟩
 have HR1:=hide hrow1
 clear hrow1 C1
 go_wp2_with fail
 go_loopw [12] (fun i wr=>∃ k:Nat,k≤L.length∧i=.int .i64 k∧(∃ C:List NV,C.length=k∧C.map NV.n=(L.take k).map NV.n∧wr.ownsRow w.heap.size 105 EN.n (.slice a L.length c) L.length (EN.flat (C++L.drop k))∧∀ y∈C,y.own wr)∧Below w.heap.size w wr) (fun i _=>L.length - (intOf i).toNat)
 case atStart=>exact ⟨0,Nat.zero_le _,rfl,⟨[],rfl,rfl,HR1.out,fun _ h=>absurd h (by simp)⟩,hb1⟩
 case round =>
  obtain ⟨k,hk,rfl,⟨C,hC,hm,hrow,hown⟩,hB⟩:=hrel
  by_cases hlt:k<L.length
  ·have hlt':(k:Int)<(L.length:Int):=by omega
   have hCL:(C++L.drop k).length=L.length:=by rw [List.length_append,List.length_drop,hC];omega
   have hrow2:=hrow
   rw [←hCL] at hrow2
   obtain ⟨g,cap,m,hvv,hbg,hlc,hcm,hR,hsz⟩:=aBt.of_own2 (E:=EN) hrow2 (fun h0=>by rw [h0] at hCL;simp at hCL;omega)
   injection hvv with e1 e2 e3
   subst e1
   subst e3
   have hkk:k<(C++L.drop k).length:=by omega
   have hel:(C++L.drop k)[k]=L[k]:=by
    rw [List.getElem_append_right (by omega)]
    simp [hC]
   have hAt:=hR.at_ hkk
   rw [hel] at hAt
   obtain ⟨c0,c1,c2⟩:wr.cell? ⟨g,k*3,none⟩=some (.int .i64 L[k].n.kind)∧wr.cell? ⟨g,k*3+1,none⟩=some (.string L[k].n.name)∧wr.cell? ⟨g,k*3+2,none⟩=some (.slice L[k].a L[k].n.vals.length L[k].c):=⟨hAt 0 _ rfl,hAt 1 _ rfl,hAt 2 _ rfl⟩
   have hxm:=List.getElem_mem hlt
   have HNX:Hid ((L.take (k+1)).map NV.n=(L.take k).map NV.n++[NV.n L[k]]):=by
    unfold Hid
    rw [List.take_succ_eq_append_getElem hlt,List.map_append]
    rfl
   have HDR:Hid (∀ z,(C++L.drop k).set k z=(C++[z])++L.drop (k+1)):=by
    intro z
    rw [List.drop_eq_getElem_cons hlt,List.set_append_right _ _ (by omega),hC,Nat.sub_self,zzC,List.append_assoc]
    rfl
   have HR:=hide hR
   have HC:=hide hC
   have HM:=hide hm
   have HOWN:=hide hown
   have HCL:=hide hCL
   have HSZ:=hide hsz
   have hgl:=hR.lt
   clear hrow hrow2 hR hC hm hown hCL hsz hAt hel
   obtain ⟨X,hX⟩:∃ z,z=wr.alloc (.cells #[.int .i64 L[k].n.kind,.string L[k].n.name,.slice L[k].a L[k].n.vals.length L[k].c] 105):=⟨_,rfl⟩
   have BX1:Below wr.heap.size wr X:=by rw [hX];exact (Below.refl _ _).alloc (Nat.le_refl _) _
   have CX:=hide (C2.out X (bb2 hB BX1) L[k] hxm)
   generalize L[k]=x at *
   go_wp2_with fail
   rw [←hX]
   clear hX c0 c1 c2
   refine CX.out.mono ?_
   rintro e w2 ⟨y,rfl,hy,hyo,hb2⟩
   have HYY:=hide hy
   clear hy
   have bw2:=bb2 BX1 hb2
   have R2:=HR.out.below bw2
   have hkk2:k<(C++L.drop k).length:=hkk
   have hAt2:=R2.at_ hkk2
   have lv:=R2.live
   obtain ⟨zz,hzz⟩:∃ z,z=(C++L.drop k)[k]:=⟨_,rfl⟩
   rw [←hzz] at hAt2
   clear hzz
   obtain ⟨d0,d1,d2⟩:w2.cell? ⟨g,k*3,none⟩=some (.int .i64 zz.n.kind)∧w2.cell? ⟨g,k*3+1,none⟩=some (.string zz.n.name)∧w2.cell? ⟨g,k*3+2,none⟩=some (.slice zz.a zz.n.vals.length zz.c):=⟨hAt2 0 _ rfl,hAt2 1 _ rfl,hAt2 2 _ rfl⟩
   clear hAt2
   obtain ⟨post,hblk,hpost⟩:=R2.blk
   have HBLK:=hide hblk
   have HST:=hide (R2.store hkk2 y)
   have HKO:=hide (fun z hz=>(HOWN.out z hz).below bw2)
   clear hblk hpost R2
   go_wp2_with fail
   have hx3:BX g w2.heap.size w2 (setL w2 g (k*3) [.int .i64 y.n.kind,.string y.n.name,.slice y.a y.n.vals.length y.c]):=(BX.refl g w2.heap.size w2).setL (k*3) [.int .i64 y.n.kind,.string y.n.name,.slice y.a y.n.vals.length y.c]
   refine ⟨⟨k+1,by omega,by go_num,⟨C++[y],by rw [List.length_append,HC.out];rfl,by rw [List.map_append,HM.out,HNX.out,←HYY.out];rfl,?_,?_⟩,?_⟩,by simp [intOf];omega⟩
   ·have h2:=HST.out
    rw [HDR.out y] at h2
    have h3:=h2.to_own (base:=w.heap.size) (cap:=c) hbg (by rw [show ((C++[y])++L.drop (k+1)).length=L.length from by simp [HC.out];omega];rw [HCL.out] at hlc;exact hlc) hcm (by rw [show ((C++[y])++L.drop (k+1)).length=(C++L.drop k).length from by simp [HC.out];omega];exact HSZ.out)
    rw [show ((C++[y])++L.drop (k+1)).length=L.length from by simp [HC.out];omega] at h3
    exact h3
   ·intro z hz
    rcases List.mem_append.1 hz with hz | hz
    ·exact (HKO.out z hz).bx hx3 HBLK.out (by decide)
    ·rw [List.mem_singleton.1 hz]
     exact hyo.bx hx3 HBLK.out (by decide)
   ·exact aAh (w:=w) (B:=w.heap.size) (g:=g) hbg [.int .i64 y.n.kind,.string y.n.name,.slice y.a y.n.vals.length y.c] w2 (k*3) (bb2 hB bw2)
  ·have hlt':¬ (k:Int)<(L.length:Int):=by omega
   have hk2:k=L.length:=by omega
   have hCL:C.length=L.length:=by omega
   rw [hk2,List.take_length] at hm
   rw [hk2,List.drop_length,List.append_nil] at hrow
   have HR:=hide hrow
   have HM:=hide hm
   have HO:=hide hown
   have HCL:=hide hCL
   clear hrow hm hown hC hCL hk2
   go_wp2_with fail
   go_ret
   exact ⟨a,c,C,by rw [HCL.out];rfl,HM.out,by rw [HCL.out];exact HR.out,HO.out,hB⟩
theorem aRk (x:LiV) (w:World) (hx:Sl EN w x.v x.nd) (hl:x.nd.length≤1000) (hl2:∀ n∈x.nd,n.n.vals.length≤1000) :
  Calls Tryz.prog 55 #[liV x] w fun e w'=>∃ y:LiV,e=.returned (liV y)∧y.b=x.b∧y.own w'∧Below w.heap.size w w':=by
 obtain ⟨X,hX⟩:∃ z,z=(w.alloc (.cells #[.string x.name,.int .i64 x.port,.bool x.tls,.string x.host,.int .i64 x.cert.kind,.string x.cert.space,.string x.cert.name,.int .i64 x.frm,.slice x.a x.nd.length x.c] 67)).alloc (.cells #[.string ⟨#[]⟩,.int .i64 0,.bool false,.string ⟨#[]⟩,.int .i64 0,.string ⟨#[]⟩,.string ⟨#[]⟩,.int .i64 0,.slice none 0 0] 67):=⟨_,rfl⟩
 have B1:Below w.heap.size w X:=by rw [hX];exact ((Below.refl _ _).alloc (Nat.le_refl _) _).alloc (by simp) _
 have K0:X.heap[w.heap.size]?=some (.cells #[.string x.name,.int .i64 x.port,.bool x.tls,.string x.host,.int .i64 x.cert.kind,.string x.cert.space,.string x.cert.name,.int .i64 x.frm,.slice x.a x.nd.length x.c] 67):=by rw [hX];exact aA2 (aA7 w _) ((Below.refl _ _).alloc (Nat.le_refl _) _)
 have K1:X.heap[w.heap.size+1]?=some (.cells #[.string ⟨#[]⟩,.int .i64 0,.bool false,.string ⟨#[]⟩,.int .i64 0,.string ⟨#[]⟩,.string ⟨#[]⟩,.int .i64 0,.slice none 0 0] 67):=by
  rw [hX]
  have:=aA7 (w.alloc (.cells #[.string x.name,.int .i64 x.port,.bool x.tls,.string x.host,.int .i64 x.cert.kind,.string x.cert.space,.string x.cert.name,.int .i64 x.frm,.slice x.a x.nd.length x.c] 67)) (.cells #[.string ⟨#[]⟩,.int .i64 0,.bool false,.string ⟨#[]⟩,.int .i64 0,.string ⟨#[]⟩,.string ⟨#[]⟩,.int .i64 0,.slice none 0 0] 67)
  simpa using this
 have C1:=fun W (h:Below w.heap.size w W)=>hide (aP7 x.v x.nd W (hx.below h) hl hl2)
 have HB:=hide B1
 have HK0:=hide K0
 have HK1:=hide K1
 clear B1 K0 K1 hx hl hl2
 go_enter Tryz.func55,Tryz.ntmps55
 go_wp2_with fail
 rw [←hX]
 clear hX
 refine (C1 _ HB.out).out.mono ?_
 rintro e w0 ⟨a1,c1,L1,rfl,m1,r1,o1,hb⟩
 have kb:=aA2 HK0.out hb
 have kr:=aA2 HK1.out hb
 have BB:=bb2 HB.out hb
 have K2:=hide (show (w0.setCell ⟨w.heap.size,8,none⟩ (.slice a1 L1.length c1)).heap[w.heap.size]?=some (.cells #[.string x.name,.int .i64 x.port,.bool x.tls,.string x.host,.int .i64 x.cert.kind,.string x.cert.space,.string x.cert.name,.int .i64 x.frm,.slice a1 L1.length c1] 67) from aBi (i:=8) (.slice a1 L1.length c1) kb)
 have KR2:=hide (show (w0.setCell ⟨w.heap.size,8,none⟩ (.slice a1 L1.length c1)).heap[w.heap.size+1]?=some (.cells #[.string ⟨#[]⟩,.int .i64 0,.bool false,.string ⟨#[]⟩,.int .i64 0,.string ⟨#[]⟩,.string ⟨#[]⟩,.int .i64 0,.slice none 0 0] 67) from (Below.heap_setCell _ _ _ _ (by show w.heap.size+1≠w.heap.size;omega)).trans kr)
 have BB2:=hide (show Below w.heap.size w (w0.setCell ⟨w.heap.size,8,none⟩ (.slice a1 L1.length c1)) from BB.setCell (p:=⟨w.heap.size,8,none⟩) (Nat.le_refl _) (.slice a1 L1.length c1))
 have hx:BX w.heap.size w0.heap.size w0 (w0.setCell ⟨w.heap.size,8,none⟩ (.slice a1 L1.length c1)):=(BX.refl w.heap.size w0.heap.size w0).setL 8 [.slice a1 L1.length c1]
 have yr1:=hide (hx.row kb r1 (by decide))
 have yo1:=hide ((fun z hy=>(o1 z hy).bx hx kb (by decide)))
 have lz:=aAl kb
 have zi:=aA0 kb (i:=8) rfl
 have lr:=aAl KR2.out
 obtain ⟨f0,f1,f2,f3,f4,f5,f6,f7,f8⟩:_∧_∧_∧_∧_∧_∧_∧_∧_:=⟨aA0 K2.out (i:=0) rfl,aA0 K2.out (i:=1) rfl,aA0 K2.out (i:=2) rfl,aA0 K2.out (i:=3) rfl,aA0 K2.out (i:=4) rfl,aA0 K2.out (i:=5) rfl,aA0 K2.out (i:=6) rfl,aA0 K2.out (i:=7) rfl,aA0 K2.out (i:=8) rfl⟩
 obtain ⟨g0,g1,g2,g3,g4,g5,g6,g7,g8⟩:_∧_∧_∧_∧_∧_∧_∧_∧_:=⟨aA0 KR2.out (i:=0) rfl,aA0 KR2.out (i:=1) rfl,aA0 KR2.out (i:=2) rfl,aA0 KR2.out (i:=3) rfl,aA0 KR2.out (i:=4) rfl,aA0 KR2.out (i:=5) rfl,aA0 KR2.out (i:=6) rfl,aA0 KR2.out (i:=7) rfl,aA0 KR2.out (i:=8) rfl⟩
 clear kb kr BB HB HK0 HK1 hx hb r1 o1
 go_wp2_with fail
 clear lz lr zi f0 g0 f1 g1 f2 g2 f3 g3 f4 g4 f5 g5 f6 g6 f7 g7 f8 g8
 have S1:=aAh (w:=w) (B:=w.heap.size) (g:=w.heap.size+1) (Nat.le_succ _) [.string x.name,.int .i64 x.port,.bool x.tls,.string x.host,.int .i64 x.cert.kind,.string x.cert.space,.string x.cert.name,.int .i64 x.frm,.slice a1 L1.length c1] _ 0 BB2.out
 have K4:=aB2 [.string x.name,.int .i64 x.port,.bool x.tls,.string x.host,.int .i64 x.cert.kind,.string x.cert.space,.string x.cert.name,.int .i64 x.frm,.slice a1 L1.length c1] KR2.out rfl
 have hx2:=(BX.refl (w.heap.size+1) (w0.setCell ⟨w.heap.size,8,none⟩ (.slice a1 L1.length c1)).heap.size (w0.setCell ⟨w.heap.size,8,none⟩ (.slice a1 L1.length c1))).setL 0 [.string x.name,.int .i64 x.port,.bool x.tls,.string x.host,.int .i64 x.cert.kind,.string x.cert.space,.string x.cert.name,.int .i64 x.frm,.slice a1 L1.length c1]
 have xr1:=hx2.row KR2.out yr1.out (by decide)
 have xo1:=(fun z hy=>(yo1.out z hy).bx hx2 KR2.out (by decide))
 clear BB2 K2 KR2 hx2 yr1 yo1
 change bodyPost _ _ _ _ _ (setL (w0.setCell ⟨w.heap.size,8,none⟩ (.slice a1 L1.length c1)) (w.heap.size+1) 0 [.string x.name,.int .i64 x.port,.bool x.tls,.string x.host,.int .i64 x.cert.kind,.string x.cert.space,.string x.cert.name,.int .i64 x.frm,.slice a1 L1.length c1])
 generalize setL (w0.setCell ⟨w.heap.size,8,none⟩ (.slice a1 L1.length c1)) (w.heap.size+1) 0 [.string x.name,.int .i64 x.port,.bool x.tls,.string x.host,.int .i64 x.cert.kind,.string x.cert.space,.string x.cert.name,.int .i64 x.frm,.slice a1 L1.length c1]=W9 at *
 obtain ⟨e0,e1,e2,e3,e4,e5,e6,e7,e8⟩:_∧_∧_∧_∧_∧_∧_∧_∧_:=⟨aA0 K4 (i:=0) rfl,aA0 K4 (i:=1) rfl,aA0 K4 (i:=2) rfl,aA0 K4 (i:=3) rfl,aA0 K4 (i:=4) rfl,aA0 K4 (i:=5) rfl,aA0 K4 (i:=6) rfl,aA0 K4 (i:=7) rfl,aA0 K4 (i:=8) rfl⟩
 exact bodyPost_ret (v:=.agg #[.string x.name,.int .i64 x.port,.bool x.tls,.string x.host,.int .i64 x.cert.kind,.string x.cert.space,.string x.cert.name,.int .i64 x.frm,.slice a1 L1.length c1]) (by simp [results,Tryz.f55,go_sem,e0,e1,e2,e3,e4,e5,e6,e7,e8]) rfl (⟨⟨x.name,x.port,x.tls,x.host,x.cert,x.frm,L1,a1,c1⟩,rfl,(by unfold LiV.b;rw [show nbs L1=nbs x.nd from m1]),⟨⟨_,xr1⟩,xo1⟩,S1⟩)
theorem aP8 (v:Value) (L:List LiV) (w:World) (hv:Sl ELi w v L) (hl:L.length≤1000) (hP:∀ x∈L,x.nd.length≤1000∧∀ n∈x.nd,n.n.vals.length≤1000) :
  Calls Tryz.prog 54 #[v,.func (.func 55) #[] #[]] w fun e w'=>∃ a c L',e=.returned (.slice a (List.length L') c)∧L'.map LiV.b=L.map LiV.b∧w'.ownsRow w.heap.size 67 ELi.n (.slice a L'.length c) L'.length (ELi.flat L')∧(∀ y∈L',y.own w')∧Below w.heap.size w w':=by
 have C1:=hide (aRc v L w hv hl)
 have C2:=hide (fun W (h:Below w.heap.size w W) x (hx:x∈L)=>aRk x W (hv.all x hx |>.below h) (hP x hx).1 (hP x hx).2)
 have HAT:=hide (fun x hx=>hv.all x hx)
 have ent:∀ (args:Array Value) (w:World),(callFunc 55 args).run Tryz.prog w=.ok (.enter 55 args) w:=fun args w=>aAd Tryz.func55 (by kernel_rfl) rfl args w
 obtain ⟨av,cv,rfl⟩:=hv.form
 clear hv hP
 go_enter Tryz.func54,Tryz.ntmps54
 go_wp2_with fail
 refine C1.out.mono ?_
 rintro e w1 ⟨a,c,rfl,hrow1,hb1⟩
 have HR1:=hide hrow1
 clear hrow1 C1
 go_wp2_with fail
 go_loopw [12] (fun i wr=>∃ k:Nat,k≤L.length∧i=.int .i64 k∧(∃ C:List LiV,C.length=k∧C.map LiV.b=(L.take k).map LiV.b∧wr.ownsRow w.heap.size 67 ELi.n (.slice a L.length c) L.length (ELi.flat (C++L.drop k))∧∀ y∈C,y.own wr)∧Below w.heap.size w wr) (fun i _=>L.length - (intOf i).toNat)
 case atStart=>exact ⟨0,Nat.zero_le _,rfl,⟨[],rfl,rfl,HR1.out,fun _ h=>absurd h (by simp)⟩,hb1⟩
 case round =>
  obtain ⟨k,hk,rfl,⟨C,hC,hm,hrow,hown⟩,hB⟩:=hrel
  by_cases hlt:k<L.length
  ·have hlt':(k:Int)<(L.length:Int):=by omega
   have hCL:(C++L.drop k).length=L.length:=by rw [List.length_append,List.length_drop,hC];omega
   have hrow2:=hrow
   rw [←hCL] at hrow2
   obtain ⟨g,cap,m,hvv,hbg,hlc,hcm,hR,hsz⟩:=aBt.of_own2 (E:=ELi) hrow2 (fun h0=>by rw [h0] at hCL;simp at hCL;omega)
   injection hvv with e1 e2 e3
   subst e1
   subst e3
   have hkk:k<(C++L.drop k).length:=by omega
   have hel:(C++L.drop k)[k]=L[k]:=by
    rw [List.getElem_append_right (by omega)]
    simp [hC]
   have hAt:=hR.at_ hkk
   rw [hel] at hAt
   obtain ⟨c0,c1,c2,c3,c4,c5,c6,c7,c8⟩:wr.cell? ⟨g,k*9,none⟩=some (.string L[k].name)∧wr.cell? ⟨g,k*9+1,none⟩=some (.int .i64 L[k].port)∧wr.cell? ⟨g,k*9+2,none⟩=some (.bool L[k].tls)∧wr.cell? ⟨g,k*9+3,none⟩=some (.string L[k].host)∧wr.cell? ⟨g,k*9+4,none⟩=some (.int .i64 L[k].cert.kind)∧wr.cell? ⟨g,k*9+5,none⟩=some (.string L[k].cert.space)∧wr.cell? ⟨g,k*9+6,none⟩=some (.string L[k].cert.name)∧wr.cell? ⟨g,k*9+7,none⟩=some (.int .i64 L[k].frm)∧wr.cell? ⟨g,k*9+8,none⟩=some (.slice L[k].a L[k].nd.length L[k].c):=⟨hAt 0 _ rfl,hAt 1 _ rfl,hAt 2 _ rfl,hAt 3 _ rfl,hAt 4 _ rfl,hAt 5 _ rfl,hAt 6 _ rfl,hAt 7 _ rfl,hAt 8 _ rfl⟩
   have hxm:=List.getElem_mem hlt
   have HNX:Hid ((L.take (k+1)).map LiV.b=(L.take k).map LiV.b++[LiV.b L[k]]):=by
    unfold Hid
    rw [List.take_succ_eq_append_getElem hlt,List.map_append]
    rfl
   have HDR:Hid (∀ z,(C++L.drop k).set k z=(C++[z])++L.drop (k+1)):=by
    intro z
    rw [List.drop_eq_getElem_cons hlt,List.set_append_right _ _ (by omega),hC,Nat.sub_self,zzC,List.append_assoc]
    rfl
   have HR:=hide hR
   have HC:=hide hC
   have HM:=hide hm
   have HOWN:=hide hown
   have HCL:=hide hCL
   have HSZ:=hide hsz
   have hgl:=hR.lt
   clear hrow hrow2 hR hC hm hown hCL hsz hAt hel
   obtain ⟨X,hX⟩:∃ z,z=wr.alloc (.cells #[.string L[k].name,.int .i64 L[k].port,.bool L[k].tls,.string L[k].host,.int .i64 L[k].cert.kind,.string L[k].cert.space,.string L[k].cert.name,.int .i64 L[k].frm,.slice L[k].a L[k].nd.length L[k].c] 67):=⟨_,rfl⟩
   have BX1:Below wr.heap.size wr X:=by rw [hX];exact (Below.refl _ _).alloc (Nat.le_refl _) _
   have CX:=hide (C2.out X (bb2 hB BX1) L[k] hxm)
   generalize L[k]=x at *
   go_wp2_with fail
   rw [←hX]
   clear hX c0 c1 c2 c3 c4 c5 c6 c7 c8
   refine CX.out.mono ?_
   rintro e w2 ⟨y,rfl,hy,hyo,hb2⟩
   have HYY:=hide hy
   clear hy
   have bw2:=bb2 BX1 hb2
   have R2:=HR.out.below bw2
   have hkk2:k<(C++L.drop k).length:=hkk
   have hAt2:=R2.at_ hkk2
   have lv:=R2.live
   obtain ⟨zz,hzz⟩:∃ z,z=(C++L.drop k)[k]:=⟨_,rfl⟩
   rw [←hzz] at hAt2
   clear hzz
   obtain ⟨d0,d1,d2,d3,d4,d5,d6,d7,d8⟩:w2.cell? ⟨g,k*9,none⟩=some (.string zz.name)∧w2.cell? ⟨g,k*9+1,none⟩=some (.int .i64 zz.port)∧w2.cell? ⟨g,k*9+2,none⟩=some (.bool zz.tls)∧w2.cell? ⟨g,k*9+3,none⟩=some (.string zz.host)∧w2.cell? ⟨g,k*9+4,none⟩=some (.int .i64 zz.cert.kind)∧w2.cell? ⟨g,k*9+5,none⟩=some (.string zz.cert.space)∧w2.cell? ⟨g,k*9+6,none⟩=some (.string zz.cert.name)∧w2.cell? ⟨g,k*9+7,none⟩=some (.int .i64 zz.frm)∧w2.cell? ⟨g,k*9+8,none⟩=some (.slice zz.a zz.nd.length zz.c):=⟨hAt2 0 _ rfl,hAt2 1 _ rfl,hAt2 2 _ rfl,hAt2 3 _ rfl,hAt2 4 _ rfl,hAt2 5 _ rfl,hAt2 6 _ rfl,hAt2 7 _ rfl,hAt2 8 _ rfl⟩
   clear hAt2
   obtain ⟨post,hblk,hpost⟩:=R2.blk
   have HBLK:=hide hblk
   have HST:=hide (R2.store hkk2 y)
   have HKO:=hide (fun z hz=>(HOWN.out z hz).below bw2)
   clear hblk hpost R2
   go_wp2_with fail
   have hx3:BX g w2.heap.size w2 (setL w2 g (k*9) [.string y.name,.int .i64 y.port,.bool y.tls,.string y.host,.int .i64 y.cert.kind,.string y.cert.space,.string y.cert.name,.int .i64 y.frm,.slice y.a y.nd.length y.c]):=(BX.refl g w2.heap.size w2).setL (k*9) [.string y.name,.int .i64 y.port,.bool y.tls,.string y.host,.int .i64 y.cert.kind,.string y.cert.space,.string y.cert.name,.int .i64 y.frm,.slice y.a y.nd.length y.c]
   refine ⟨⟨k+1,by omega,by go_num,⟨C++[y],by rw [List.length_append,HC.out];rfl,by rw [List.map_append,HM.out,HNX.out,←HYY.out];rfl,?_,?_⟩,?_⟩,by simp [intOf];omega⟩
   ·have h2:=HST.out
    rw [HDR.out y] at h2
    have h3:=h2.to_own (base:=w.heap.size) (cap:=c) hbg (by rw [show ((C++[y])++L.drop (k+1)).length=L.length from by simp [HC.out];omega];rw [HCL.out] at hlc;exact hlc) hcm (by rw [show ((C++[y])++L.drop (k+1)).length=(C++L.drop k).length from by simp [HC.out];omega];exact HSZ.out)
    rw [show ((C++[y])++L.drop (k+1)).length=L.length from by simp [HC.out];omega] at h3
    exact h3
   ·intro z hz
    rcases List.mem_append.1 hz with hz | hz
    ·exact (HKO.out z hz).bx hx3 HBLK.out (by decide) (by decide)
    ·rw [List.mem_singleton.1 hz]
     exact hyo.bx hx3 HBLK.out (by decide) (by decide)
   ·exact aAh (w:=w) (B:=w.heap.size) (g:=g) hbg [.string y.name,.int .i64 y.port,.bool y.tls,.string y.host,.int .i64 y.cert.kind,.string y.cert.space,.string y.cert.name,.int .i64 y.frm,.slice y.a y.nd.length y.c] w2 (k*9) (bb2 hB bw2)
  ·have hlt':¬ (k:Int)<(L.length:Int):=by omega
   have hk2:k=L.length:=by omega
   have hCL:C.length=L.length:=by omega
   rw [hk2,List.take_length] at hm
   rw [hk2,List.drop_length,List.append_nil] at hrow
   have HR:=hide hrow
   have HM:=hide hm
   have HO:=hide hown
   have HCL:=hide hCL
   clear hrow hm hown hC hCL hk2
   go_wp2_with fail
   go_ret
   exact ⟨a,c,C,by rw [HCL.out];rfl,HM.out,by rw [HCL.out];exact HR.out,HO.out,hB⟩
end Go.Proofs.YthnodpdiocppgaaGreatDoor
namespace Go.Proofs.YthnodpdiocppgaaGreatDoor
open Go Go.RowKit Go.Shelf
theorem RlV.own.bx4 {x:RlV} {B t:Nat} {w w':World} {old:Array Value} (h:x.own w) (hx:BX B w.heap.size w w') (hz:w.heap[B]?=some (.cells old t)) (hm:88≠t) (hp:96≠t) (hf:108≠t) (hb:91≠t):x.own w':=by
 obtain ⟨⟨b,h1⟩,h2,⟨c,h3⟩,⟨d,h4⟩⟩:=h
 exact ⟨⟨b,hx.row hz h1 hm⟩,fun m hm=>(h2 m hm).bx hx hz hp,⟨c,hx.row hz h3 hf⟩,⟨d,hx.row hz h4 hb⟩⟩
abbrev mVV (x:MV):Value:=.agg #[.int .i64 x.m.kind,.string x.m.val,.string x.m.meth,x.vh,x.vq]
theorem aGv (v:Value) (l:List aAa) (w:World) (hv:Prs w v l) (hl:l.length≤1000) :
  Calls Tryz.prog 52 #[v] w fun e w'=>∃ a c,e=.returned (.slice a l.length c)∧(∃ b,w'.ownsRow b 96 2 (.slice a l.length c) l.length (flat l))∧Below w.heap.size w w' :=
 (aQp v l w hv hl).mono fun e w' ⟨v',he,⟨b,hr⟩,hb⟩=>by
  obtain ⟨a,c,rfl⟩:=aAj hr
  exact ⟨a,c,he,⟨b,hr⟩,hb⟩
theorem aP9 (x:MV) (w:World) (hx:x.at_ w) (hl:x.m.head.length≤1000∧x.m.query.length≤1000) :
  Calls Tryz.prog 80 #[mVV x] w fun e w'=>∃ y:MV,e=.returned (mVV y)∧y.m=x.m∧y.own w'∧Below w.heap.size w w':=by
 obtain ⟨X,hX⟩:∃ z,z=(w.alloc (.cells #[.int .i64 x.m.kind,.string x.m.val,.string x.m.meth,.slice x.ah x.m.head.length x.ch,.slice x.aq x.m.query.length x.cq] 88)).alloc (.cells #[.int .i64 0,.string ⟨#[]⟩,.string ⟨#[]⟩,.slice none 0 0,.slice none 0 0] 88):=⟨_,rfl⟩
 have B1:Below w.heap.size w X:=by rw [hX];exact ((Below.refl _ _).alloc (Nat.le_refl _) _).alloc (by simp) _
 have K0:X.heap[w.heap.size]?=some (.cells #[.int .i64 x.m.kind,.string x.m.val,.string x.m.meth,.slice x.ah x.m.head.length x.ch,.slice x.aq x.m.query.length x.cq] 88):=by rw [hX];exact aA2 (aA7 w _) ((Below.refl _ _).alloc (Nat.le_refl _) _)
 have K1:X.heap[w.heap.size+1]?=some (.cells #[.int .i64 0,.string ⟨#[]⟩,.string ⟨#[]⟩,.slice none 0 0,.slice none 0 0] 88):=by
  rw [hX]
  have:=aA7 (w.alloc (.cells #[.int .i64 x.m.kind,.string x.m.val,.string x.m.meth,.slice x.ah x.m.head.length x.ch,.slice x.aq x.m.query.length x.cq] 88)) (.cells #[.int .i64 0,.string ⟨#[]⟩,.string ⟨#[]⟩,.slice none 0 0,.slice none 0 0] 88)
  simpa using this
 have C1:=fun W (h:Below w.heap.size w W)=>hide (aGv x.vh x.m.head W (hx.1.below h) hl.1)
 have C2:=fun W (h:Below w.heap.size w W)=>hide (aGv x.vq x.m.query W (hx.2.below h) hl.2)
 have HB:=hide B1
 have HK0:=hide K0
 have HK1:=hide K1
 clear B1 K0 K1 hx hl
 go_enter Tryz.func80,Tryz.ntmps80
 go_wp2_with fail
 rw [←hX]
 clear hX
 refine (C1 _ HB.out).out.mono ?_
 rintro e w0 ⟨a1,c1,rfl,⟨b1,r1⟩,hb⟩
 have kb:=aA2 HK0.out hb
 have kr:=aA2 HK1.out hb
 have BB:=bb2 HB.out hb
 have K2:=hide (show (w0.setCell ⟨w.heap.size,3,none⟩ (.slice a1 x.m.head.length c1)).heap[w.heap.size]?=some (.cells #[.int .i64 x.m.kind,.string x.m.val,.string x.m.meth,.slice a1 x.m.head.length c1,.slice x.aq x.m.query.length x.cq] 88) from aBi (i:=3) (.slice a1 x.m.head.length c1) kb)
 have KR2:=hide (show (w0.setCell ⟨w.heap.size,3,none⟩ (.slice a1 x.m.head.length c1)).heap[w.heap.size+1]?=some (.cells #[.int .i64 0,.string ⟨#[]⟩,.string ⟨#[]⟩,.slice none 0 0,.slice none 0 0] 88) from (Below.heap_setCell _ _ _ _ (by show w.heap.size+1≠w.heap.size;omega)).trans kr)
 have BB2:=hide (show Below w.heap.size w (w0.setCell ⟨w.heap.size,3,none⟩ (.slice a1 x.m.head.length c1)) from BB.setCell (p:=⟨w.heap.size,3,none⟩) (Nat.le_refl _) (.slice a1 x.m.head.length c1))
 have hx:BX w.heap.size w0.heap.size w0 (w0.setCell ⟨w.heap.size,3,none⟩ (.slice a1 x.m.head.length c1)):=(BX.refl w.heap.size w0.heap.size w0).setL 3 [.slice a1 x.m.head.length c1]
 have yr1:=hide (hx.row kb r1 (by decide))
 have lz:=aAl kb
 have zi:=aA0 kb (i:=3) rfl
 have zn:=aA0 K2.out (i:=4) rfl
 clear kb kr BB HB HK0 HK1 hx hb r1
 go_wp2_with fail
 clear lz zi zn
 generalize (w0.setCell ⟨w.heap.size,3,none⟩ (.slice a1 x.m.head.length c1))=V at *
 have HB:=BB2
 have HK0:=K2
 have HK1:=KR2
 clear BB2 K2 KR2
 have r1:=yr1.out
 clear yr1
 refine (C2 _ HB.out).out.mono ?_
 rintro e w1 ⟨a2,c2,rfl,⟨b2,r2⟩,hb⟩
 replace r1:=aA4 r1 hb
 have kb:=aA2 HK0.out hb
 have kr:=aA2 HK1.out hb
 have BB:=bb2 HB.out hb
 have K2:=hide (show (w1.setCell ⟨w.heap.size,4,none⟩ (.slice a2 x.m.query.length c2)).heap[w.heap.size]?=some (.cells #[.int .i64 x.m.kind,.string x.m.val,.string x.m.meth,.slice a1 x.m.head.length c1,.slice a2 x.m.query.length c2] 88) from aBi (i:=4) (.slice a2 x.m.query.length c2) kb)
 have KR2:=hide (show (w1.setCell ⟨w.heap.size,4,none⟩ (.slice a2 x.m.query.length c2)).heap[w.heap.size+1]?=some (.cells #[.int .i64 0,.string ⟨#[]⟩,.string ⟨#[]⟩,.slice none 0 0,.slice none 0 0] 88) from (Below.heap_setCell _ _ _ _ (by show w.heap.size+1≠w.heap.size;omega)).trans kr)
 have BB2:=hide (show Below w.heap.size w (w1.setCell ⟨w.heap.size,4,none⟩ (.slice a2 x.m.query.length c2)) from BB.setCell (p:=⟨w.heap.size,4,none⟩) (Nat.le_refl _) (.slice a2 x.m.query.length c2))
 have hx:BX w.heap.size w1.heap.size w1 (w1.setCell ⟨w.heap.size,4,none⟩ (.slice a2 x.m.query.length c2)):=(BX.refl w.heap.size w1.heap.size w1).setL 4 [.slice a2 x.m.query.length c2]
 have yr1:=hide (hx.row kb r1 (by decide))
 have yr2:=hide (hx.row kb r2 (by decide))
 have lz:=aAl kb
 have zi:=aA0 kb (i:=4) rfl
 have lr:=aAl KR2.out
 obtain ⟨f0,f1,f2,f3,f4⟩:_∧_∧_∧_∧_:=⟨aA0 K2.out (i:=0) rfl,aA0 K2.out (i:=1) rfl,aA0 K2.out (i:=2) rfl,aA0 K2.out (i:=3) rfl,aA0 K2.out (i:=4) rfl⟩
 obtain ⟨g0,g1,g2,g3,g4⟩:_∧_∧_∧_∧_:=⟨aA0 KR2.out (i:=0) rfl,aA0 KR2.out (i:=1) rfl,aA0 KR2.out (i:=2) rfl,aA0 KR2.out (i:=3) rfl,aA0 KR2.out (i:=4) rfl⟩
 clear kb kr BB HB HK0 HK1 hx hb r1 r2
 go_wp2_with fail
 clear lz lr zi f0 g0 f1 g1 f2 g2 f3 g3 f4 g4
 have S1:=aAh (w:=w) (B:=w.heap.size) (g:=w.heap.size+1) (Nat.le_succ _) [.int .i64 x.m.kind,.string x.m.val,.string x.m.meth,.slice a1 x.m.head.length c1,.slice a2 x.m.query.length c2] _ 0 BB2.out
 have K4:=aB2 [.int .i64 x.m.kind,.string x.m.val,.string x.m.meth,.slice a1 x.m.head.length c1,.slice a2 x.m.query.length c2] KR2.out rfl
 have hx2:=(BX.refl (w.heap.size+1) (w1.setCell ⟨w.heap.size,4,none⟩ (.slice a2 x.m.query.length c2)).heap.size (w1.setCell ⟨w.heap.size,4,none⟩ (.slice a2 x.m.query.length c2))).setL 0 [.int .i64 x.m.kind,.string x.m.val,.string x.m.meth,.slice a1 x.m.head.length c1,.slice a2 x.m.query.length c2]
 have xr1:=hx2.row KR2.out yr1.out (by decide)
 have xr2:=hx2.row KR2.out yr2.out (by decide)
 clear BB2 K2 KR2 hx2 yr1 yr2
 change bodyPost _ _ _ _ _ (setL (w1.setCell ⟨w.heap.size,4,none⟩ (.slice a2 x.m.query.length c2)) (w.heap.size+1) 0 [.int .i64 x.m.kind,.string x.m.val,.string x.m.meth,.slice a1 x.m.head.length c1,.slice a2 x.m.query.length c2])
 generalize setL (w1.setCell ⟨w.heap.size,4,none⟩ (.slice a2 x.m.query.length c2)) (w.heap.size+1) 0 [.int .i64 x.m.kind,.string x.m.val,.string x.m.meth,.slice a1 x.m.head.length c1,.slice a2 x.m.query.length c2]=W9 at *
 obtain ⟨e0,e1,e2,e3,e4⟩:_∧_∧_∧_∧_:=⟨aA0 K4 (i:=0) rfl,aA0 K4 (i:=1) rfl,aA0 K4 (i:=2) rfl,aA0 K4 (i:=3) rfl,aA0 K4 (i:=4) rfl⟩
 exact bodyPost_ret (v:=.agg #[.int .i64 x.m.kind,.string x.m.val,.string x.m.meth,.slice a1 x.m.head.length c1,.slice a2 x.m.query.length c2]) (by simp [results,Tryz.f80,go_sem,e0,e1,e2,e3,e4]) rfl (⟨⟨x.m,a1,c1,a2,c2⟩,rfl,rfl,⟨⟨_,xr1⟩,_,xr2⟩,S1⟩)
theorem aPa (v:Value) (L:List MV) (w:World) (hv:Sl EM w v L) (hl:L.length≤1000) (hP:∀ x∈L,x.m.head.length≤1000∧x.m.query.length≤1000) :
  Calls Tryz.prog 79 #[v,.func (.func 80) #[] #[]] w fun e w'=>∃ a c L',e=.returned (.slice a (List.length L') c)∧L'.map MV.m=L.map MV.m∧w'.ownsRow w.heap.size 88 EM.n (.slice a L'.length c) L'.length (EM.flat L')∧(∀ y∈L',y.own w')∧Below w.heap.size w w':=by
 have C1:=hide (aRg v L w hv hl)
 have C2:=hide (fun W (h:Below w.heap.size w W) x (hx:x∈L)=>aP9 x W ((hv.all x hx).below h) (hP x hx))
 have HAT:=hide (fun x hx=>hv.all x hx)
 have ent:∀ (args:Array Value) (w:World),(callFunc 80 args).run Tryz.prog w=.ok (.enter 80 args) w:=fun args w=>aAd Tryz.func80 (by kernel_rfl) rfl args w
 obtain ⟨av,cv,rfl⟩:=hv.form
 clear hv hP
 go_enter Tryz.func79,Tryz.ntmps79
 go_wp2_with fail
 refine C1.out.mono ?_
 rintro e w1 ⟨a,c,rfl,hrow1,hb1⟩
 have HR1:=hide hrow1
 clear hrow1 C1
 go_wp2_with fail
 go_loopw [12] (fun i wr=>∃ k:Nat,k≤L.length∧i=.int .i64 k∧(∃ C:List MV,C.length=k∧C.map MV.m=(L.take k).map MV.m∧wr.ownsRow w.heap.size 88 EM.n (.slice a L.length c) L.length (EM.flat (C++L.drop k))∧∀ y∈C,y.own wr)∧Below w.heap.size w wr) (fun i _=>L.length - (intOf i).toNat)
 case atStart=>exact ⟨0,Nat.zero_le _,rfl,⟨[],rfl,rfl,HR1.out,fun _ h=>absurd h (by simp)⟩,hb1⟩
 case round =>
  obtain ⟨k,hk,rfl,⟨C,hC,hm,hrow,hown⟩,hB⟩:=hrel
  by_cases hlt:k<L.length
  ·have hlt':(k:Int)<(L.length:Int):=by omega
   have hCL:(C++L.drop k).length=L.length:=by rw [List.length_append,List.length_drop,hC];omega
   have hrow2:=hrow
   rw [←hCL] at hrow2
   obtain ⟨g,cap,m,hvv,hbg,hlc,hcm,hR,hsz⟩:=aBt.of_own2 (E:=EM) hrow2 (fun h0=>by rw [h0] at hCL;simp at hCL;omega)
   injection hvv with e1 e2 e3
   subst e1
   subst e3
   have hkk:k<(C++L.drop k).length:=by omega
   have hel:(C++L.drop k)[k]=L[k]:=by
    rw [List.getElem_append_right (by omega)]
    simp [hC]
   have hAt:=hR.at_ hkk
   rw [hel] at hAt
   obtain ⟨c0,c1,c2,c3,c4⟩:wr.cell? ⟨g,k*5,none⟩=some (.int .i64 L[k].m.kind)∧wr.cell? ⟨g,k*5+1,none⟩=some (.string L[k].m.val)∧wr.cell? ⟨g,k*5+2,none⟩=some (.string L[k].m.meth)∧wr.cell? ⟨g,k*5+3,none⟩=some (.slice L[k].ah L[k].m.head.length L[k].ch)∧wr.cell? ⟨g,k*5+4,none⟩=some (.slice L[k].aq L[k].m.query.length L[k].cq):=⟨hAt 0 _ rfl,hAt 1 _ rfl,hAt 2 _ rfl,hAt 3 _ rfl,hAt 4 _ rfl⟩
   have hxm:=List.getElem_mem hlt
   have HNX:Hid ((L.take (k+1)).map MV.m=(L.take k).map MV.m++[MV.m L[k]]):=by
    unfold Hid
    rw [List.take_succ_eq_append_getElem hlt,List.map_append]
    rfl
   have HDR:Hid (∀ z,(C++L.drop k).set k z=(C++[z])++L.drop (k+1)):=by
    intro z
    rw [List.drop_eq_getElem_cons hlt,List.set_append_right _ _ (by omega),hC,Nat.sub_self,zzC,List.append_assoc]
    rfl
   have HR:=hide hR
   have HC:=hide hC
   have HM:=hide hm
   have HOWN:=hide hown
   have HCL:=hide hCL
   have HSZ:=hide hsz
   have hgl:=hR.lt
   clear hrow hrow2 hR hC hm hown hCL hsz hAt hel
   obtain ⟨X,hX⟩:∃ z,z=wr.alloc (.cells #[.int .i64 L[k].m.kind,.string L[k].m.val,.string L[k].m.meth,.slice L[k].ah L[k].m.head.length L[k].ch,.slice L[k].aq L[k].m.query.length L[k].cq] 88):=⟨_,rfl⟩
   have BX1:Below wr.heap.size wr X:=by rw [hX];exact (Below.refl _ _).alloc (Nat.le_refl _) _
   have CX:=hide (C2.out X (bb2 hB BX1) L[k] hxm)
   generalize L[k]=x at *
   go_wp2_with fail
   rw [←hX]
   clear hX c0 c1 c2 c3 c4
   refine CX.out.mono ?_
   rintro e w2 ⟨y,rfl,hy,hyo,hb2⟩
   have HYY:=hide hy
   clear hy
   have bw2:=bb2 BX1 hb2
   have R2:=HR.out.below bw2
   have hkk2:k<(C++L.drop k).length:=hkk
   have hAt2:=R2.at_ hkk2
   have lv:=R2.live
   obtain ⟨zz,hzz⟩:∃ z,z=(C++L.drop k)[k]:=⟨_,rfl⟩
   rw [←hzz] at hAt2
   clear hzz
   obtain ⟨d0,d1,d2,d3,d4⟩:w2.cell? ⟨g,k*5,none⟩=some (.int .i64 zz.m.kind)∧w2.cell? ⟨g,k*5+1,none⟩=some (.string zz.m.val)∧w2.cell? ⟨g,k*5+2,none⟩=some (.string zz.m.meth)∧w2.cell? ⟨g,k*5+3,none⟩=some (.slice zz.ah zz.m.head.length zz.ch)∧w2.cell? ⟨g,k*5+4,none⟩=some (.slice zz.aq zz.m.query.length zz.cq):=⟨hAt2 0 _ rfl,hAt2 1 _ rfl,hAt2 2 _ rfl,hAt2 3 _ rfl,hAt2 4 _ rfl⟩
   clear hAt2
   obtain ⟨post,hblk,hpost⟩:=R2.blk
   have HBLK:=hide hblk
   have HST:=hide (R2.store hkk2 y)
   have HKO:=hide (fun z hz=>(HOWN.out z hz).below bw2)
   clear hblk hpost R2
   go_wp2_with fail
   have hx3:BX g w2.heap.size w2 (setL w2 g (k*5) [.int .i64 y.m.kind,.string y.m.val,.string y.m.meth,.slice y.ah y.m.head.length y.ch,.slice y.aq y.m.query.length y.cq]):=(BX.refl g w2.heap.size w2).setL (k*5) [.int .i64 y.m.kind,.string y.m.val,.string y.m.meth,.slice y.ah y.m.head.length y.ch,.slice y.aq y.m.query.length y.cq]
   refine ⟨⟨k+1,by omega,by go_num,⟨C++[y],by rw [List.length_append,HC.out];rfl,by rw [List.map_append,HM.out,HNX.out,←HYY.out];rfl,?_,?_⟩,?_⟩,by simp [intOf];omega⟩
   ·have h2:=HST.out
    rw [HDR.out y] at h2
    have h3:=h2.to_own (base:=w.heap.size) (cap:=c) hbg (by rw [show ((C++[y])++L.drop (k+1)).length=L.length from by simp [HC.out];omega];rw [HCL.out] at hlc;exact hlc) hcm (by rw [show ((C++[y])++L.drop (k+1)).length=(C++L.drop k).length from by simp [HC.out];omega];exact HSZ.out)
    rw [show ((C++[y])++L.drop (k+1)).length=L.length from by simp [HC.out];omega] at h3
    exact h3
   ·intro z hz
    rcases List.mem_append.1 hz with hz | hz
    ·exact (HKO.out z hz).bx hx3 HBLK.out (by decide)
    ·rw [List.mem_singleton.1 hz]
     exact hyo.bx hx3 HBLK.out (by decide)
   ·exact aAh (w:=w) (B:=w.heap.size) (g:=g) hbg [.int .i64 y.m.kind,.string y.m.val,.string y.m.meth,.slice y.ah y.m.head.length y.ch,.slice y.aq y.m.query.length y.cq] w2 (k*5) (bb2 hB bw2)
  ·have hlt':¬ (k:Int)<(L.length:Int):=by omega
   have hk2:k=L.length:=by omega
   have hCL:C.length=L.length:=by omega
   rw [hk2,List.take_length] at hm
   rw [hk2,List.drop_length,List.append_nil] at hrow
   have HR:=hide hrow
   have HM:=hide hm
   have HO:=hide hown
   have HCL:=hide hCL
   clear hrow hm hown hC hCL hk2
   go_wp2_with fail
   go_ret
   exact ⟨a,c,C,by rw [HCL.out];rfl,HM.out,by rw [HCL.out];exact HR.out,HO.out,hB⟩
theorem aRl (x:RlV) (w:World) (hx:x.at_ w) (h1:x.ms.length≤1000) (h2:∀ m∈x.ms,m.m.head.length≤1000∧m.m.query.length≤1000) (h3:x.fs.length≤1000) (h4:x.bs.length≤1000) :
  Calls Tryz.prog 59 #[rlV x] w fun e w'=>∃ y:RlV,e=.returned (rlV y)∧y.b=x.b∧y.own w'∧Below w.heap.size w w':=by
 obtain ⟨X,hX⟩:∃ z,z=(w.alloc (.cells #[.slice x.am x.ms.length x.cm,.slice x.af x.fs.length x.cf,.slice x.ab x.bs.length x.cb] 76)).alloc (.cells #[.slice none 0 0,.slice none 0 0,.slice none 0 0] 76):=⟨_,rfl⟩
 have B1:Below w.heap.size w X:=by rw [hX];exact ((Below.refl _ _).alloc (Nat.le_refl _) _).alloc (by simp) _
 have K0:X.heap[w.heap.size]?=some (.cells #[.slice x.am x.ms.length x.cm,.slice x.af x.fs.length x.cf,.slice x.ab x.bs.length x.cb] 76):=by rw [hX];exact aA2 (aA7 w _) ((Below.refl _ _).alloc (Nat.le_refl _) _)
 have K1:X.heap[w.heap.size+1]?=some (.cells #[.slice none 0 0,.slice none 0 0,.slice none 0 0] 76):=by
  rw [hX]
  have:=aA7 (w.alloc (.cells #[.slice x.am x.ms.length x.cm,.slice x.af x.fs.length x.cf,.slice x.ab x.bs.length x.cb] 76)) (.cells #[.slice none 0 0,.slice none 0 0,.slice none 0 0] 76)
  simpa using this
 have C1:=fun W (h:Below w.heap.size w W)=>hide (aPa x.vm x.ms W (hx.ms.below h) h1 h2)
 have C2:=fun W (h:Below w.heap.size w W)=>hide (aRh x.vf x.fs W (hx.fs.below h) h3)
 have C3:=fun W (h:Below w.heap.size w W)=>hide (aRi x.vb x.bs W (hx.bs.below h) h4)
 have HB:=hide B1
 have HK0:=hide K0
 have HK1:=hide K1
 clear B1 K0 K1 hx h1 h2 h3 h4
 go_enter Tryz.func59,Tryz.ntmps59
 go_wp2_with fail
 rw [←hX]
 clear hX
 refine (C1 _ HB.out).out.mono ?_
 rintro e w0 ⟨a1,c1,L1,rfl,m1,r1,o1,hb⟩
 have kb:=aA2 HK0.out hb
 have kr:=aA2 HK1.out hb
 have BB:=bb2 HB.out hb
 have K2:=hide (show (w0.setCell ⟨w.heap.size,0,none⟩ (.slice a1 L1.length c1)).heap[w.heap.size]?=some (.cells #[.slice a1 L1.length c1,.slice x.af x.fs.length x.cf,.slice x.ab x.bs.length x.cb] 76) from aBi (i:=0) (.slice a1 L1.length c1) kb)
 have KR2:=hide (show (w0.setCell ⟨w.heap.size,0,none⟩ (.slice a1 L1.length c1)).heap[w.heap.size+1]?=some (.cells #[.slice none 0 0,.slice none 0 0,.slice none 0 0] 76) from (Below.heap_setCell _ _ _ _ (by show w.heap.size+1≠w.heap.size;omega)).trans kr)
 have BB2:=hide (show Below w.heap.size w (w0.setCell ⟨w.heap.size,0,none⟩ (.slice a1 L1.length c1)) from BB.setCell (p:=⟨w.heap.size,0,none⟩) (Nat.le_refl _) (.slice a1 L1.length c1))
 have hx:BX w.heap.size w0.heap.size w0 (w0.setCell ⟨w.heap.size,0,none⟩ (.slice a1 L1.length c1)):=(BX.refl w.heap.size w0.heap.size w0).setL 0 [.slice a1 L1.length c1]
 have yr1:=hide (hx.row kb r1 (by decide))
 have yo1:=hide ((fun z hy=>(o1 z hy).bx hx kb (by decide)))
 have lz:=aAl kb
 have zi:=aA0 kb (i:=0) rfl
 have zn:=aA0 K2.out (i:=1) rfl
 clear kb kr BB HB HK0 HK1 hx hb r1 o1
 go_wp2_with fail
 clear lz zi zn
 generalize (w0.setCell ⟨w.heap.size,0,none⟩ (.slice a1 L1.length c1))=V at *
 have HB:=BB2
 have HK0:=K2
 have HK1:=KR2
 clear BB2 K2 KR2
 have r1:=yr1.out
 have o1:=yo1.out
 clear yr1 yo1
 refine (C2 _ HB.out).out.mono ?_
 rintro e w1 ⟨a2,c2,rfl,r2,hb⟩
 replace r1:=aA4 r1 hb
 replace o1:=(fun z hz=>(o1 z hz).below hb)
 have kb:=aA2 HK0.out hb
 have kr:=aA2 HK1.out hb
 have BB:=bb2 HB.out hb
 have K2:=hide (show (w1.setCell ⟨w.heap.size,1,none⟩ (.slice a2 x.fs.length c2)).heap[w.heap.size]?=some (.cells #[.slice a1 L1.length c1,.slice a2 x.fs.length c2,.slice x.ab x.bs.length x.cb] 76) from aBi (i:=1) (.slice a2 x.fs.length c2) kb)
 have KR2:=hide (show (w1.setCell ⟨w.heap.size,1,none⟩ (.slice a2 x.fs.length c2)).heap[w.heap.size+1]?=some (.cells #[.slice none 0 0,.slice none 0 0,.slice none 0 0] 76) from (Below.heap_setCell _ _ _ _ (by show w.heap.size+1≠w.heap.size;omega)).trans kr)
 have BB2:=hide (show Below w.heap.size w (w1.setCell ⟨w.heap.size,1,none⟩ (.slice a2 x.fs.length c2)) from BB.setCell (p:=⟨w.heap.size,1,none⟩) (Nat.le_refl _) (.slice a2 x.fs.length c2))
 have hx:BX w.heap.size w1.heap.size w1 (w1.setCell ⟨w.heap.size,1,none⟩ (.slice a2 x.fs.length c2)):=(BX.refl w.heap.size w1.heap.size w1).setL 1 [.slice a2 x.fs.length c2]
 have yr1:=hide (hx.row kb r1 (by decide))
 have yo1:=hide ((fun z hy=>(o1 z hy).bx hx kb (by decide)))
 have yr2:=hide (hx.row kb r2 (by decide))
 have lz:=aAl kb
 have zi:=aA0 kb (i:=1) rfl
 have zn:=aA0 K2.out (i:=2) rfl
 clear kb kr BB HB HK0 HK1 hx hb r1 o1 r2
 go_wp2_with fail
 clear lz zi zn
 generalize (w1.setCell ⟨w.heap.size,1,none⟩ (.slice a2 x.fs.length c2))=V at *
 have HB:=BB2
 have HK0:=K2
 have HK1:=KR2
 clear BB2 K2 KR2
 have r1:=yr1.out
 have o1:=yo1.out
 have r2:=yr2.out
 clear yr1 yo1 yr2
 refine (C3 _ HB.out).out.mono ?_
 rintro e w2 ⟨a3,c3,rfl,r3,hb⟩
 replace r1:=aA4 r1 hb
 replace o1:=(fun z hz=>(o1 z hz).below hb)
 replace r2:=aA4 r2 hb
 have kb:=aA2 HK0.out hb
 have kr:=aA2 HK1.out hb
 have BB:=bb2 HB.out hb
 have K2:=hide (show (w2.setCell ⟨w.heap.size,2,none⟩ (.slice a3 x.bs.length c3)).heap[w.heap.size]?=some (.cells #[.slice a1 L1.length c1,.slice a2 x.fs.length c2,.slice a3 x.bs.length c3] 76) from aBi (i:=2) (.slice a3 x.bs.length c3) kb)
 have KR2:=hide (show (w2.setCell ⟨w.heap.size,2,none⟩ (.slice a3 x.bs.length c3)).heap[w.heap.size+1]?=some (.cells #[.slice none 0 0,.slice none 0 0,.slice none 0 0] 76) from (Below.heap_setCell _ _ _ _ (by show w.heap.size+1≠w.heap.size;omega)).trans kr)
 have BB2:=hide (show Below w.heap.size w (w2.setCell ⟨w.heap.size,2,none⟩ (.slice a3 x.bs.length c3)) from BB.setCell (p:=⟨w.heap.size,2,none⟩) (Nat.le_refl _) (.slice a3 x.bs.length c3))
 have hx:BX w.heap.size w2.heap.size w2 (w2.setCell ⟨w.heap.size,2,none⟩ (.slice a3 x.bs.length c3)):=(BX.refl w.heap.size w2.heap.size w2).setL 2 [.slice a3 x.bs.length c3]
 have yr1:=hide (hx.row kb r1 (by decide))
 have yo1:=hide ((fun z hy=>(o1 z hy).bx hx kb (by decide)))
 have yr2:=hide (hx.row kb r2 (by decide))
 have yr3:=hide (hx.row kb r3 (by decide))
 have lz:=aAl kb
 have zi:=aA0 kb (i:=2) rfl
 have lr:=aAl KR2.out
 obtain ⟨f0,f1,f2⟩:_∧_∧_:=⟨aA0 K2.out (i:=0) rfl,aA0 K2.out (i:=1) rfl,aA0 K2.out (i:=2) rfl⟩
 obtain ⟨g0,g1,g2⟩:_∧_∧_:=⟨aA0 KR2.out (i:=0) rfl,aA0 KR2.out (i:=1) rfl,aA0 KR2.out (i:=2) rfl⟩
 clear kb kr BB HB HK0 HK1 hx hb r1 o1 r2 r3
 go_wp2_with fail
 clear lz lr zi f0 g0 f1 g1 f2 g2
 have S1:=aAh (w:=w) (B:=w.heap.size) (g:=w.heap.size+1) (Nat.le_succ _) [.slice a1 L1.length c1,.slice a2 x.fs.length c2,.slice a3 x.bs.length c3] _ 0 BB2.out
 have K4:=aB2 [.slice a1 L1.length c1,.slice a2 x.fs.length c2,.slice a3 x.bs.length c3] KR2.out rfl
 have hx2:=(BX.refl (w.heap.size+1) (w2.setCell ⟨w.heap.size,2,none⟩ (.slice a3 x.bs.length c3)).heap.size (w2.setCell ⟨w.heap.size,2,none⟩ (.slice a3 x.bs.length c3))).setL 0 [.slice a1 L1.length c1,.slice a2 x.fs.length c2,.slice a3 x.bs.length c3]
 have xr1:=hx2.row KR2.out yr1.out (by decide)
 have xo1:=(fun z hy=>(yo1.out z hy).bx hx2 KR2.out (by decide))
 have xr2:=hx2.row KR2.out yr2.out (by decide)
 have xr3:=hx2.row KR2.out yr3.out (by decide)
 clear BB2 K2 KR2 hx2 yr1 yo1 yr2 yr3
 change bodyPost _ _ _ _ _ (setL (w2.setCell ⟨w.heap.size,2,none⟩ (.slice a3 x.bs.length c3)) (w.heap.size+1) 0 [.slice a1 L1.length c1,.slice a2 x.fs.length c2,.slice a3 x.bs.length c3])
 generalize setL (w2.setCell ⟨w.heap.size,2,none⟩ (.slice a3 x.bs.length c3)) (w.heap.size+1) 0 [.slice a1 L1.length c1,.slice a2 x.fs.length c2,.slice a3 x.bs.length c3]=W9 at *
 obtain ⟨e0,e1,e2⟩:_∧_∧_:=⟨aA0 K4 (i:=0) rfl,aA0 K4 (i:=1) rfl,aA0 K4 (i:=2) rfl⟩
 exact bodyPost_ret (v:=.agg #[.slice a1 L1.length c1,.slice a2 x.fs.length c2,.slice a3 x.bs.length c3]) (by simp [results,Tryz.f59,go_sem,e0,e1,e2]) rfl (⟨⟨L1,a1,c1,x.fs,a2,c2,x.bs,a3,c3⟩,rfl,(by unfold RlV.b;rw [show L1.map (fun m=>m.m)=x.ms.map (fun m=>m.m) from m1]),⟨⟨_,xr1⟩,xo1,⟨_,xr2⟩,⟨_,xr3⟩⟩,S1⟩)
theorem aPb (v:Value) (L:List RlV) (w:World) (hv:Sl ERl w v L) (hl:L.length≤1000) (hP:∀ x∈L,x.ms.length≤1000∧(∀ m∈x.ms,m.m.head.length≤1000∧m.m.query.length≤1000)∧x.fs.length≤1000∧x.bs.length≤1000) :
  Calls Tryz.prog 58 #[v,.func (.func 59) #[] #[]] w fun e w'=>∃ a c L',e=.returned (.slice a (List.length L') c)∧L'.map RlV.b=L.map RlV.b∧w'.ownsRow w.heap.size 76 ERl.n (.slice a L'.length c) L'.length (ERl.flat L')∧(∀ y∈L',y.own w')∧Below w.heap.size w w':=by
 have C1:=hide (aRe v L w hv hl)
 have C2:=hide (fun W (h:Below w.heap.size w W) x (hx:x∈L)=>aRl x W ((hv.all x hx).below h) (hP x hx).1 (hP x hx).2.1 (hP x hx).2.2.1 (hP x hx).2.2.2)
 have HAT:=hide (fun x hx=>hv.all x hx)
 have ent:∀ (args:Array Value) (w:World),(callFunc 59 args).run Tryz.prog w=.ok (.enter 59 args) w:=fun args w=>aAd Tryz.func59 (by kernel_rfl) rfl args w
 obtain ⟨av,cv,rfl⟩:=hv.form
 clear hv hP
 go_enter Tryz.func58,Tryz.ntmps58
 go_wp2_with fail
 refine C1.out.mono ?_
 rintro e w1 ⟨a,c,rfl,hrow1,hb1⟩
 have HR1:=hide hrow1
 clear hrow1 C1
 go_wp2_with fail
 go_loopw [12] (fun i wr=>∃ k:Nat,k≤L.length∧i=.int .i64 k∧(∃ C:List RlV,C.length=k∧C.map RlV.b=(L.take k).map RlV.b∧wr.ownsRow w.heap.size 76 ERl.n (.slice a L.length c) L.length (ERl.flat (C++L.drop k))∧∀ y∈C,y.own wr)∧Below w.heap.size w wr) (fun i _=>L.length - (intOf i).toNat)
 case atStart=>exact ⟨0,Nat.zero_le _,rfl,⟨[],rfl,rfl,HR1.out,fun _ h=>absurd h (by simp)⟩,hb1⟩
 case round =>
  obtain ⟨k,hk,rfl,⟨C,hC,hm,hrow,hown⟩,hB⟩:=hrel
  by_cases hlt:k<L.length
  ·have hlt':(k:Int)<(L.length:Int):=by omega
   have hCL:(C++L.drop k).length=L.length:=by rw [List.length_append,List.length_drop,hC];omega
   have hrow2:=hrow
   rw [←hCL] at hrow2
   obtain ⟨g,cap,m,hvv,hbg,hlc,hcm,hR,hsz⟩:=aBt.of_own2 (E:=ERl) hrow2 (fun h0=>by rw [h0] at hCL;simp at hCL;omega)
   injection hvv with e1 e2 e3
   subst e1
   subst e3
   have hkk:k<(C++L.drop k).length:=by omega
   have hel:(C++L.drop k)[k]=L[k]:=by
    rw [List.getElem_append_right (by omega)]
    simp [hC]
   have hAt:=hR.at_ hkk
   rw [hel] at hAt
   obtain ⟨c0,c1,c2⟩:wr.cell? ⟨g,k*3,none⟩=some (.slice L[k].am L[k].ms.length L[k].cm)∧wr.cell? ⟨g,k*3+1,none⟩=some (.slice L[k].af L[k].fs.length L[k].cf)∧wr.cell? ⟨g,k*3+2,none⟩=some (.slice L[k].ab L[k].bs.length L[k].cb):=⟨hAt 0 _ rfl,hAt 1 _ rfl,hAt 2 _ rfl⟩
   have hxm:=List.getElem_mem hlt
   have HNX:Hid ((L.take (k+1)).map RlV.b=(L.take k).map RlV.b++[RlV.b L[k]]):=by
    unfold Hid
    rw [List.take_succ_eq_append_getElem hlt,List.map_append]
    rfl
   have HDR:Hid (∀ z,(C++L.drop k).set k z=(C++[z])++L.drop (k+1)):=by
    intro z
    rw [List.drop_eq_getElem_cons hlt,List.set_append_right _ _ (by omega),hC,Nat.sub_self,zzC,List.append_assoc]
    rfl
   have HR:=hide hR
   have HC:=hide hC
   have HM:=hide hm
   have HOWN:=hide hown
   have HCL:=hide hCL
   have HSZ:=hide hsz
   have hgl:=hR.lt
   clear hrow hrow2 hR hC hm hown hCL hsz hAt hel
   obtain ⟨X,hX⟩:∃ z,z=wr.alloc (.cells #[.slice L[k].am L[k].ms.length L[k].cm,.slice L[k].af L[k].fs.length L[k].cf,.slice L[k].ab L[k].bs.length L[k].cb] 76):=⟨_,rfl⟩
   have BX1:Below wr.heap.size wr X:=by rw [hX];exact (Below.refl _ _).alloc (Nat.le_refl _) _
   have CX:=hide (C2.out X (bb2 hB BX1) L[k] hxm)
   generalize L[k]=x at *
   go_wp2_with fail
   rw [←hX]
   clear hX c0 c1 c2
   refine CX.out.mono ?_
   rintro e w2 ⟨y,rfl,hy,hyo,hb2⟩
   have HYY:=hide hy
   clear hy
   have bw2:=bb2 BX1 hb2
   have R2:=HR.out.below bw2
   have hkk2:k<(C++L.drop k).length:=hkk
   have hAt2:=R2.at_ hkk2
   have lv:=R2.live
   obtain ⟨zz,hzz⟩:∃ z,z=(C++L.drop k)[k]:=⟨_,rfl⟩
   rw [←hzz] at hAt2
   clear hzz
   obtain ⟨d0,d1,d2⟩:w2.cell? ⟨g,k*3,none⟩=some (.slice zz.am zz.ms.length zz.cm)∧w2.cell? ⟨g,k*3+1,none⟩=some (.slice zz.af zz.fs.length zz.cf)∧w2.cell? ⟨g,k*3+2,none⟩=some (.slice zz.ab zz.bs.length zz.cb):=⟨hAt2 0 _ rfl,hAt2 1 _ rfl,hAt2 2 _ rfl⟩
   clear hAt2
   obtain ⟨post,hblk,hpost⟩:=R2.blk
   have HBLK:=hide hblk
   have HST:=hide (R2.store hkk2 y)
   have HKO:=hide (fun z hz=>(HOWN.out z hz).below bw2)
   clear hblk hpost R2
   go_wp2_with fail
   have hx3:BX g w2.heap.size w2 (setL w2 g (k*3) [.slice y.am y.ms.length y.cm,.slice y.af y.fs.length y.cf,.slice y.ab y.bs.length y.cb]):=(BX.refl g w2.heap.size w2).setL (k*3) [.slice y.am y.ms.length y.cm,.slice y.af y.fs.length y.cf,.slice y.ab y.bs.length y.cb]
   refine ⟨⟨k+1,by omega,by go_num,⟨C++[y],by rw [List.length_append,HC.out];rfl,by rw [List.map_append,HM.out,HNX.out,←HYY.out];rfl,?_,?_⟩,?_⟩,by simp [intOf];omega⟩
   ·have h2:=HST.out
    rw [HDR.out y] at h2
    have h3:=h2.to_own (base:=w.heap.size) (cap:=c) hbg (by rw [show ((C++[y])++L.drop (k+1)).length=L.length from by simp [HC.out];omega];rw [HCL.out] at hlc;exact hlc) hcm (by rw [show ((C++[y])++L.drop (k+1)).length=(C++L.drop k).length from by simp [HC.out];omega];exact HSZ.out)
    rw [show ((C++[y])++L.drop (k+1)).length=L.length from by simp [HC.out];omega] at h3
    exact h3
   ·intro z hz
    rcases List.mem_append.1 hz with hz | hz
    ·exact (HKO.out z hz).bx4 hx3 HBLK.out (by decide) (by decide) (by decide) (by decide)
    ·rw [List.mem_singleton.1 hz]
     exact hyo.bx4 hx3 HBLK.out (by decide) (by decide) (by decide) (by decide)
   ·exact aAh (w:=w) (B:=w.heap.size) (g:=g) hbg [.slice y.am y.ms.length y.cm,.slice y.af y.fs.length y.cf,.slice y.ab y.bs.length y.cb] w2 (k*3) (bb2 hB bw2)
  ·have hlt':¬ (k:Int)<(L.length:Int):=by omega
   have hk2:k=L.length:=by omega
   have hCL:C.length=L.length:=by omega
   rw [hk2,List.take_length] at hm
   rw [hk2,List.drop_length,List.append_nil] at hrow
   have HR:=hide hrow
   have HM:=hide hm
   have HO:=hide hown
   have HCL:=hide hCL
   clear hrow hm hown hC hCL hk2
   go_wp2_with fail
   go_ret
   exact ⟨a,c,C,by rw [HCL.out];rfl,HM.out,by rw [HCL.out];exact HR.out,HO.out,hB⟩
end Go.Proofs.YthnodpdiocppgaaGreatDoor
namespace Go.Proofs.YthnodpdiocppgaaGreatDoor
open Go Go.RowKit Go.Shelf
structure LenO (x:OV):Prop where
 labels:x.labels.length≤1000
 ports:x.ports.length≤1000
 lis:x.lis.length≤1000
 lisn:∀ l∈x.lis,l.nd.length≤1000∧∀ n∈l.nd,n.n.vals.length≤1000
 pars:x.pars.length≤1000
 hosts:x.hosts.length≤1000
 rules:x.rules.length≤1000
 rulesn:∀ r∈x.rules,r.ms.length≤1000∧(∀ m∈r.ms,m.m.head.length≤1000∧m.m.query.length≤1000)∧r.fs.length≤1000∧r.bs.length≤1000
 frm:x.frm.length≤1000
 tos:x.tos.length≤1000
theorem aLy {y:OV} {b:OB} (h:y.b=fewO b):LenO y:=by
 have e2:y.labels=aAc b.labels:=congrArg OB.labels h
 have ep:y.ports=b.ports.take 9:=congrArg OB.ports h
 have e4:y.lis.map LiV.b=(b.lis.take 9).map aDc:=congrArg OB.lis h
 have e5:y.pars=(b.pars.take 5).map aBb:=congrArg OB.pars h
 have e6:y.hosts=(b.hosts.take 5).map fewB:=congrArg OB.hosts h
 have e7:y.rules.map RlV.b=(b.rules.take 7).map aDd:=congrArg OB.rules h
 have e8:y.frm=aA9 b.frm:=congrArg OB.frm h
 have e9:y.tos=aA9 b.tos:=congrArg OB.tos h
 have l4:=congrArg List.length e4
 have l7:=congrArg List.length e7
 simp only [List.length_map,List.length_take] at l4 l7
 refine ⟨by rw [e2];have:=aF0 b.labels;omega,by rw [ep,List.length_take];omega,by omega,fun l hl=>?_,by rw [e5,List.length_map,List.length_take];omega,by rw [e6,List.length_map,List.length_take];omega,by omega,fun r hr=>?_,by rw [e8];unfold aA9;rw [List.length_map,List.length_take];omega,by rw [e9];unfold aA9;rw [List.length_map,List.length_take];omega⟩
 ·have hm:l.b∈(b.lis.take 9).map aDc:=by rw [←e4];exact List.mem_map.2 ⟨l,hl,rfl⟩
  obtain ⟨l0,_,hl0⟩:=List.mem_map.1 hm
  have f4:aE2 l0.needs=nbs l.nd:=congrArg LiB.needs hl0
  have g4:=congrArg List.length f4
  have g5:=aQb l0.needs
  have g6:(nbs l.nd).length=l.nd.length:=List.length_map ..
  refine ⟨by omega,fun n hn=>?_⟩
  have:n.n∈aE2 l0.needs:=by rw [f4];exact List.mem_map.2 ⟨n,hn,rfl⟩
  obtain ⟨n0,_,he⟩:=List.mem_map.1 this
  rw [←he]
  show ((n0.vals.take 9).map fewB).length≤1000
  rw [List.length_map,List.length_take]
  omega
 ·have hm:r.b∈(b.rules.take 7).map aDd:=by rw [←e7];exact List.mem_map.2 ⟨r,hr,rfl⟩
  obtain ⟨r0,_,hr0⟩:=List.mem_map.1 hm
  have f1:(r0.ms.take 5).map fewM=r.ms.map fun m=>m.m:=congrArg RlB.ms hr0
  have f2:aB6 r0.fs=r.fs:=congrArg RlB.fs hr0
  have f3:(r0.bs.take 5).map aBx=r.bs:=congrArg RlB.bs hr0
  have g1:=congrArg List.length f1
  have g3:=congrArg List.length f3
  simp only [List.length_map,List.length_take] at g1 g3
  refine ⟨by omega,fun m hm=>?_,by rw [←f2];have:=aK2 r0.fs;omega,by omega⟩
  have:m.m∈(r0.ms.take 5).map fewM:=by rw [f1];exact List.mem_map.2 ⟨m,hm,rfl⟩
  obtain ⟨m0,_,he⟩:=List.mem_map.1 this
  rw [←he]
  exact ⟨by have:=aF0 m0.head;show (aAc m0.head).length≤1000;omega,by have:=aF0 m0.query;show (aAc m0.query).length≤1000;omega⟩
theorem aRm (x:OV) (w:World) (hx:x.at_ w) (ln:LenO x) :
  Calls Tryz.prog 30 #[oV x] w fun e w'=>∃ y:OV,e=.returned (oV y)∧y.b=x.b∧y.own w'∧Below w.heap.size w w':=by
 obtain ⟨X,hX⟩:∃ z,z=(w.alloc (.cells #[.int .i64 x.ref.kind,.string x.ref.space,.string x.ref.name,.bool x.good,.slice x.al x.labels.length x.cl,.slice x.ap x.ports.length x.cp,.string x.cls,.slice x.ai x.lis.length x.ci,.slice x.aq x.pars.length x.cq,.slice x.ah x.hosts.length x.ch,.slice x.ar x.rules.length x.cr,.slice x.af x.frm.length x.cf,.slice x.ao x.tos.length x.co] 36)).alloc (.cells #[.int .i64 0,.string ⟨#[]⟩,.string ⟨#[]⟩,.bool false,.slice none 0 0,.slice none 0 0,.string ⟨#[]⟩,.slice none 0 0,.slice none 0 0,.slice none 0 0,.slice none 0 0,.slice none 0 0,.slice none 0 0] 36):=⟨_,rfl⟩
 have B1:Below w.heap.size w X:=by rw [hX];exact ((Below.refl _ _).alloc (Nat.le_refl _) _).alloc (by simp) _
 have K0:X.heap[w.heap.size]?=some (.cells #[.int .i64 x.ref.kind,.string x.ref.space,.string x.ref.name,.bool x.good,.slice x.al x.labels.length x.cl,.slice x.ap x.ports.length x.cp,.string x.cls,.slice x.ai x.lis.length x.ci,.slice x.aq x.pars.length x.cq,.slice x.ah x.hosts.length x.ch,.slice x.ar x.rules.length x.cr,.slice x.af x.frm.length x.cf,.slice x.ao x.tos.length x.co] 36):=by rw [hX];exact aA2 (aA7 w _) ((Below.refl _ _).alloc (Nat.le_refl _) _)
 have K1:X.heap[w.heap.size+1]?=some (.cells #[.int .i64 0,.string ⟨#[]⟩,.string ⟨#[]⟩,.bool false,.slice none 0 0,.slice none 0 0,.string ⟨#[]⟩,.slice none 0 0,.slice none 0 0,.slice none 0 0,.slice none 0 0,.slice none 0 0,.slice none 0 0] 36):=by
  rw [hX]
  have:=aA7 (w.alloc (.cells #[.int .i64 x.ref.kind,.string x.ref.space,.string x.ref.name,.bool x.good,.slice x.al x.labels.length x.cl,.slice x.ap x.ports.length x.cp,.string x.cls,.slice x.ai x.lis.length x.ci,.slice x.aq x.pars.length x.cq,.slice x.ah x.hosts.length x.ch,.slice x.ar x.rules.length x.cr,.slice x.af x.frm.length x.cf,.slice x.ao x.tos.length x.co] 36)) (.cells #[.int .i64 0,.string ⟨#[]⟩,.string ⟨#[]⟩,.bool false,.slice none 0 0,.slice none 0 0,.string ⟨#[]⟩,.slice none 0 0,.slice none 0 0,.slice none 0 0,.slice none 0 0,.slice none 0 0,.slice none 0 0] 36)
  simpa using this
 have C1:=fun W (h:Below w.heap.size w W)=>hide (aGv x.vl x.labels W (hx.labels.below h) ln.labels)
 have C2:=fun W (h:Below w.heap.size w W)=>hide (aT7 x.vp x.ports W (hx.ports.below h) ln.ports)
 have C3:=fun W (h:Below w.heap.size w W)=>hide (aP8 x.vi x.lis W (hx.lis.below h) ln.lis ln.lisn)
 have C4:=fun W (h:Below w.heap.size w W)=>hide (aRd x.vq x.pars W (hx.pars.below h) ln.pars)
 have C5:=fun W (h:Below w.heap.size w W)=>hide (aLx x.vh x.hosts W (hx.hosts.below h) ln.hosts)
 have C6:=fun W (h:Below w.heap.size w W)=>hide (aPb x.vr x.rules W (hx.rules.below h) ln.rules ln.rulesn)
 have C7:=fun W (h:Below w.heap.size w W)=>hide (aK7 x.vf x.frm W (hx.frm.below h) ln.frm)
 have C8:=fun W (h:Below w.heap.size w W)=>hide (aK7 x.vo x.tos W (hx.tos.below h) ln.tos)
 have HB:=hide B1
 have HK0:=hide K0
 have HK1:=hide K1
 clear B1 K0 K1 hx ln
 go_enter Tryz.func30,Tryz.ntmps30
 go_wp2_with fail
 rw [←hX]
 clear hX
 refine (C1 _ HB.out).out.mono ?_
 rintro e w0 ⟨a1,c1,rfl,⟨b1,r1⟩,hb⟩
 have kb:=aA2 HK0.out hb
 have kr:=aA2 HK1.out hb
 have BB:=bb2 HB.out hb
 have K2:=hide (show (w0.setCell ⟨w.heap.size,4,none⟩ (.slice a1 x.labels.length c1)).heap[w.heap.size]?=some (.cells #[.int .i64 x.ref.kind,.string x.ref.space,.string x.ref.name,.bool x.good,.slice a1 x.labels.length c1,.slice x.ap x.ports.length x.cp,.string x.cls,.slice x.ai x.lis.length x.ci,.slice x.aq x.pars.length x.cq,.slice x.ah x.hosts.length x.ch,.slice x.ar x.rules.length x.cr,.slice x.af x.frm.length x.cf,.slice x.ao x.tos.length x.co] 36) from aBi (i:=4) (.slice a1 x.labels.length c1) kb)
 have KR2:=hide (show (w0.setCell ⟨w.heap.size,4,none⟩ (.slice a1 x.labels.length c1)).heap[w.heap.size+1]?=some (.cells #[.int .i64 0,.string ⟨#[]⟩,.string ⟨#[]⟩,.bool false,.slice none 0 0,.slice none 0 0,.string ⟨#[]⟩,.slice none 0 0,.slice none 0 0,.slice none 0 0,.slice none 0 0,.slice none 0 0,.slice none 0 0] 36) from (Below.heap_setCell _ _ _ _ (by show w.heap.size+1≠w.heap.size;omega)).trans kr)
 have BB2:=hide (show Below w.heap.size w (w0.setCell ⟨w.heap.size,4,none⟩ (.slice a1 x.labels.length c1)) from BB.setCell (p:=⟨w.heap.size,4,none⟩) (Nat.le_refl _) (.slice a1 x.labels.length c1))
 have hx:BX w.heap.size w0.heap.size w0 (w0.setCell ⟨w.heap.size,4,none⟩ (.slice a1 x.labels.length c1)):=(BX.refl w.heap.size w0.heap.size w0).setL 4 [.slice a1 x.labels.length c1]
 have yr1:=hide (hx.row kb r1 (by decide))
 have lz:=aAl kb
 have zi:=aA0 kb (i:=4) rfl
 have zn:=aA0 K2.out (i:=5) rfl
 clear kb kr BB HB HK0 HK1 hx hb r1
 go_wp2_with fail
 clear lz zi zn
 generalize (w0.setCell ⟨w.heap.size,4,none⟩ (.slice a1 x.labels.length c1))=V at *
 have HB:=BB2
 have HK0:=K2
 have HK1:=KR2
 clear BB2 K2 KR2
 have r1:=yr1.out
 clear yr1
 refine (C2 _ HB.out).out.mono ?_
 rintro e w1 ⟨a2,c2,rfl,r2,hb⟩
 replace r1:=aA4 r1 hb
 have kb:=aA2 HK0.out hb
 have kr:=aA2 HK1.out hb
 have BB:=bb2 HB.out hb
 have K2:=hide (show (w1.setCell ⟨w.heap.size,5,none⟩ (.slice a2 x.ports.length c2)).heap[w.heap.size]?=some (.cells #[.int .i64 x.ref.kind,.string x.ref.space,.string x.ref.name,.bool x.good,.slice a1 x.labels.length c1,.slice a2 x.ports.length c2,.string x.cls,.slice x.ai x.lis.length x.ci,.slice x.aq x.pars.length x.cq,.slice x.ah x.hosts.length x.ch,.slice x.ar x.rules.length x.cr,.slice x.af x.frm.length x.cf,.slice x.ao x.tos.length x.co] 36) from aBi (i:=5) (.slice a2 x.ports.length c2) kb)
 have KR2:=hide (show (w1.setCell ⟨w.heap.size,5,none⟩ (.slice a2 x.ports.length c2)).heap[w.heap.size+1]?=some (.cells #[.int .i64 0,.string ⟨#[]⟩,.string ⟨#[]⟩,.bool false,.slice none 0 0,.slice none 0 0,.string ⟨#[]⟩,.slice none 0 0,.slice none 0 0,.slice none 0 0,.slice none 0 0,.slice none 0 0,.slice none 0 0] 36) from (Below.heap_setCell _ _ _ _ (by show w.heap.size+1≠w.heap.size;omega)).trans kr)
 have BB2:=hide (show Below w.heap.size w (w1.setCell ⟨w.heap.size,5,none⟩ (.slice a2 x.ports.length c2)) from BB.setCell (p:=⟨w.heap.size,5,none⟩) (Nat.le_refl _) (.slice a2 x.ports.length c2))
 have hx:BX w.heap.size w1.heap.size w1 (w1.setCell ⟨w.heap.size,5,none⟩ (.slice a2 x.ports.length c2)):=(BX.refl w.heap.size w1.heap.size w1).setL 5 [.slice a2 x.ports.length c2]
 have yr1:=hide (hx.row kb r1 (by decide))
 have yr2:=hide (hx.row kb r2 (by decide))
 have lz:=aAl kb
 have zi:=aA0 kb (i:=5) rfl
 have zn:=aA0 K2.out (i:=7) rfl
 clear kb kr BB HB HK0 HK1 hx hb r1 r2
 go_wp2_with fail
 clear lz zi zn
 generalize (w1.setCell ⟨w.heap.size,5,none⟩ (.slice a2 x.ports.length c2))=V at *
 have HB:=BB2
 have HK0:=K2
 have HK1:=KR2
 clear BB2 K2 KR2
 have r1:=yr1.out
 have r2:=yr2.out
 clear yr1 yr2
 refine (C3 _ HB.out).out.mono ?_
 rintro e w2 ⟨a3,c3,L3,rfl,m3,r3,o3,hb⟩
 replace r1:=aA4 r1 hb
 replace r2:=aA4 r2 hb
 have kb:=aA2 HK0.out hb
 have kr:=aA2 HK1.out hb
 have BB:=bb2 HB.out hb
 have K2:=hide (show (w2.setCell ⟨w.heap.size,7,none⟩ (.slice a3 L3.length c3)).heap[w.heap.size]?=some (.cells #[.int .i64 x.ref.kind,.string x.ref.space,.string x.ref.name,.bool x.good,.slice a1 x.labels.length c1,.slice a2 x.ports.length c2,.string x.cls,.slice a3 L3.length c3,.slice x.aq x.pars.length x.cq,.slice x.ah x.hosts.length x.ch,.slice x.ar x.rules.length x.cr,.slice x.af x.frm.length x.cf,.slice x.ao x.tos.length x.co] 36) from aBi (i:=7) (.slice a3 L3.length c3) kb)
 have KR2:=hide (show (w2.setCell ⟨w.heap.size,7,none⟩ (.slice a3 L3.length c3)).heap[w.heap.size+1]?=some (.cells #[.int .i64 0,.string ⟨#[]⟩,.string ⟨#[]⟩,.bool false,.slice none 0 0,.slice none 0 0,.string ⟨#[]⟩,.slice none 0 0,.slice none 0 0,.slice none 0 0,.slice none 0 0,.slice none 0 0,.slice none 0 0] 36) from (Below.heap_setCell _ _ _ _ (by show w.heap.size+1≠w.heap.size;omega)).trans kr)
 have BB2:=hide (show Below w.heap.size w (w2.setCell ⟨w.heap.size,7,none⟩ (.slice a3 L3.length c3)) from BB.setCell (p:=⟨w.heap.size,7,none⟩) (Nat.le_refl _) (.slice a3 L3.length c3))
 have hx:BX w.heap.size w2.heap.size w2 (w2.setCell ⟨w.heap.size,7,none⟩ (.slice a3 L3.length c3)):=(BX.refl w.heap.size w2.heap.size w2).setL 7 [.slice a3 L3.length c3]
 have yr1:=hide (hx.row kb r1 (by decide))
 have yr2:=hide (hx.row kb r2 (by decide))
 have yr3:=hide (hx.row kb r3 (by decide))
 have yo3:=hide ((fun z hy=>(o3 z hy).bx hx kb (by decide) (by decide)))
 have lz:=aAl kb
 have zi:=aA0 kb (i:=7) rfl
 have zn:=aA0 K2.out (i:=8) rfl
 clear kb kr BB HB HK0 HK1 hx hb r1 r2 r3 o3
 go_wp2_with fail
 clear lz zi zn
 generalize (w2.setCell ⟨w.heap.size,7,none⟩ (.slice a3 L3.length c3))=V at *
 have HB:=BB2
 have HK0:=K2
 have HK1:=KR2
 clear BB2 K2 KR2
 have r1:=yr1.out
 have r2:=yr2.out
 have r3:=yr3.out
 have o3:=yo3.out
 clear yr1 yr2 yr3 yo3
 refine (C4 _ HB.out).out.mono ?_
 rintro e w3 ⟨a4,c4,rfl,r4,hb⟩
 replace r1:=aA4 r1 hb
 replace r2:=aA4 r2 hb
 replace r3:=aA4 r3 hb
 replace o3:=(fun z hz=>(o3 z hz).below hb)
 have kb:=aA2 HK0.out hb
 have kr:=aA2 HK1.out hb
 have BB:=bb2 HB.out hb
 have K2:=hide (show (w3.setCell ⟨w.heap.size,8,none⟩ (.slice a4 x.pars.length c4)).heap[w.heap.size]?=some (.cells #[.int .i64 x.ref.kind,.string x.ref.space,.string x.ref.name,.bool x.good,.slice a1 x.labels.length c1,.slice a2 x.ports.length c2,.string x.cls,.slice a3 L3.length c3,.slice a4 x.pars.length c4,.slice x.ah x.hosts.length x.ch,.slice x.ar x.rules.length x.cr,.slice x.af x.frm.length x.cf,.slice x.ao x.tos.length x.co] 36) from aBi (i:=8) (.slice a4 x.pars.length c4) kb)
 have KR2:=hide (show (w3.setCell ⟨w.heap.size,8,none⟩ (.slice a4 x.pars.length c4)).heap[w.heap.size+1]?=some (.cells #[.int .i64 0,.string ⟨#[]⟩,.string ⟨#[]⟩,.bool false,.slice none 0 0,.slice none 0 0,.string ⟨#[]⟩,.slice none 0 0,.slice none 0 0,.slice none 0 0,.slice none 0 0,.slice none 0 0,.slice none 0 0] 36) from (Below.heap_setCell _ _ _ _ (by show w.heap.size+1≠w.heap.size;omega)).trans kr)
 have BB2:=hide (show Below w.heap.size w (w3.setCell ⟨w.heap.size,8,none⟩ (.slice a4 x.pars.length c4)) from BB.setCell (p:=⟨w.heap.size,8,none⟩) (Nat.le_refl _) (.slice a4 x.pars.length c4))
 have hx:BX w.heap.size w3.heap.size w3 (w3.setCell ⟨w.heap.size,8,none⟩ (.slice a4 x.pars.length c4)):=(BX.refl w.heap.size w3.heap.size w3).setL 8 [.slice a4 x.pars.length c4]
 have yr1:=hide (hx.row kb r1 (by decide))
 have yr2:=hide (hx.row kb r2 (by decide))
 have yr3:=hide (hx.row kb r3 (by decide))
 have yo3:=hide ((fun z hy=>(o3 z hy).bx hx kb (by decide) (by decide)))
 have yr4:=hide (hx.row kb r4 (by decide))
 have lz:=aAl kb
 have zi:=aA0 kb (i:=8) rfl
 have zn:=aA0 K2.out (i:=9) rfl
 clear kb kr BB HB HK0 HK1 hx hb r1 r2 r3 o3 r4
 go_wp2_with fail
 clear lz zi zn
 generalize (w3.setCell ⟨w.heap.size,8,none⟩ (.slice a4 x.pars.length c4))=V at *
 have HB:=BB2
 have HK0:=K2
 have HK1:=KR2
 clear BB2 K2 KR2
 have r1:=yr1.out
 have r2:=yr2.out
 have r3:=yr3.out
 have o3:=yo3.out
 have r4:=yr4.out
 clear yr1 yr2 yr3 yo3 yr4
 refine (C5 _ HB.out).out.mono ?_
 rintro e w4 ⟨a5,c5,rfl,r5,hb⟩
 replace r1:=aA4 r1 hb
 replace r2:=aA4 r2 hb
 replace r3:=aA4 r3 hb
 replace o3:=(fun z hz=>(o3 z hz).below hb)
 replace r4:=aA4 r4 hb
 have kb:=aA2 HK0.out hb
 have kr:=aA2 HK1.out hb
 have BB:=bb2 HB.out hb
 have K2:=hide (show (w4.setCell ⟨w.heap.size,9,none⟩ (.slice a5 x.hosts.length c5)).heap[w.heap.size]?=some (.cells #[.int .i64 x.ref.kind,.string x.ref.space,.string x.ref.name,.bool x.good,.slice a1 x.labels.length c1,.slice a2 x.ports.length c2,.string x.cls,.slice a3 L3.length c3,.slice a4 x.pars.length c4,.slice a5 x.hosts.length c5,.slice x.ar x.rules.length x.cr,.slice x.af x.frm.length x.cf,.slice x.ao x.tos.length x.co] 36) from aBi (i:=9) (.slice a5 x.hosts.length c5) kb)
 have KR2:=hide (show (w4.setCell ⟨w.heap.size,9,none⟩ (.slice a5 x.hosts.length c5)).heap[w.heap.size+1]?=some (.cells #[.int .i64 0,.string ⟨#[]⟩,.string ⟨#[]⟩,.bool false,.slice none 0 0,.slice none 0 0,.string ⟨#[]⟩,.slice none 0 0,.slice none 0 0,.slice none 0 0,.slice none 0 0,.slice none 0 0,.slice none 0 0] 36) from (Below.heap_setCell _ _ _ _ (by show w.heap.size+1≠w.heap.size;omega)).trans kr)
 have BB2:=hide (show Below w.heap.size w (w4.setCell ⟨w.heap.size,9,none⟩ (.slice a5 x.hosts.length c5)) from BB.setCell (p:=⟨w.heap.size,9,none⟩) (Nat.le_refl _) (.slice a5 x.hosts.length c5))
 have hx:BX w.heap.size w4.heap.size w4 (w4.setCell ⟨w.heap.size,9,none⟩ (.slice a5 x.hosts.length c5)):=(BX.refl w.heap.size w4.heap.size w4).setL 9 [.slice a5 x.hosts.length c5]
 have yr1:=hide (hx.row kb r1 (by decide))
 have yr2:=hide (hx.row kb r2 (by decide))
 have yr3:=hide (hx.row kb r3 (by decide))
 have yo3:=hide ((fun z hy=>(o3 z hy).bx hx kb (by decide) (by decide)))
 have yr4:=hide (hx.row kb r4 (by decide))
 have yr5:=hide (hx.row kb r5 (by decide))
 have lz:=aAl kb
 have zi:=aA0 kb (i:=9) rfl
 have zn:=aA0 K2.out (i:=10) rfl
 clear kb kr BB HB HK0 HK1 hx hb r1 r2 r3 o3 r4 r5
 go_wp2_with fail
 clear lz zi zn
 generalize (w4.setCell ⟨w.heap.size,9,none⟩ (.slice a5 x.hosts.length c5))=V at *
 have HB:=BB2
 have HK0:=K2
 have HK1:=KR2
 clear BB2 K2 KR2
 have r1:=yr1.out
 have r2:=yr2.out
 have r3:=yr3.out
 have o3:=yo3.out
 have r4:=yr4.out
 have r5:=yr5.out
 clear yr1 yr2 yr3 yo3 yr4 yr5
 refine (C6 _ HB.out).out.mono ?_
 rintro e w5 ⟨a6,c6,L6,rfl,m6,r6,o6,hb⟩
 replace r1:=aA4 r1 hb
 replace r2:=aA4 r2 hb
 replace r3:=aA4 r3 hb
 replace o3:=(fun z hz=>(o3 z hz).below hb)
 replace r4:=aA4 r4 hb
 replace r5:=aA4 r5 hb
 have kb:=aA2 HK0.out hb
 have kr:=aA2 HK1.out hb
 have BB:=bb2 HB.out hb
 have K2:=hide (show (w5.setCell ⟨w.heap.size,10,none⟩ (.slice a6 L6.length c6)).heap[w.heap.size]?=some (.cells #[.int .i64 x.ref.kind,.string x.ref.space,.string x.ref.name,.bool x.good,.slice a1 x.labels.length c1,.slice a2 x.ports.length c2,.string x.cls,.slice a3 L3.length c3,.slice a4 x.pars.length c4,.slice a5 x.hosts.length c5,.slice a6 L6.length c6,.slice x.af x.frm.length x.cf,.slice x.ao x.tos.length x.co] 36) from aBi (i:=10) (.slice a6 L6.length c6) kb)
 have KR2:=hide (show (w5.setCell ⟨w.heap.size,10,none⟩ (.slice a6 L6.length c6)).heap[w.heap.size+1]?=some (.cells #[.int .i64 0,.string ⟨#[]⟩,.string ⟨#[]⟩,.bool false,.slice none 0 0,.slice none 0 0,.string ⟨#[]⟩,.slice none 0 0,.slice none 0 0,.slice none 0 0,.slice none 0 0,.slice none 0 0,.slice none 0 0] 36) from (Below.heap_setCell _ _ _ _ (by show w.heap.size+1≠w.heap.size;omega)).trans kr)
 have BB2:=hide (show Below w.heap.size w (w5.setCell ⟨w.heap.size,10,none⟩ (.slice a6 L6.length c6)) from BB.setCell (p:=⟨w.heap.size,10,none⟩) (Nat.le_refl _) (.slice a6 L6.length c6))
 have hx:BX w.heap.size w5.heap.size w5 (w5.setCell ⟨w.heap.size,10,none⟩ (.slice a6 L6.length c6)):=(BX.refl w.heap.size w5.heap.size w5).setL 10 [.slice a6 L6.length c6]
 have yr1:=hide (hx.row kb r1 (by decide))
 have yr2:=hide (hx.row kb r2 (by decide))
 have yr3:=hide (hx.row kb r3 (by decide))
 have yo3:=hide ((fun z hy=>(o3 z hy).bx hx kb (by decide) (by decide)))
 have yr4:=hide (hx.row kb r4 (by decide))
 have yr5:=hide (hx.row kb r5 (by decide))
 have yr6:=hide (hx.row kb r6 (by decide))
 have yo6:=hide ((fun z hy=>(o6 z hy).bx4 hx kb (by decide) (by decide) (by decide) (by decide)))
 have lz:=aAl kb
 have zi:=aA0 kb (i:=10) rfl
 have zn:=aA0 K2.out (i:=11) rfl
 clear kb kr BB HB HK0 HK1 hx hb r1 r2 r3 o3 r4 r5 r6 o6
 go_wp2_with fail
 clear lz zi zn
 generalize (w5.setCell ⟨w.heap.size,10,none⟩ (.slice a6 L6.length c6))=V at *
 have HB:=BB2
 have HK0:=K2
 have HK1:=KR2
 clear BB2 K2 KR2
 have r1:=yr1.out
 have r2:=yr2.out
 have r3:=yr3.out
 have o3:=yo3.out
 have r4:=yr4.out
 have r5:=yr5.out
 have r6:=yr6.out
 have o6:=yo6.out
 clear yr1 yr2 yr3 yo3 yr4 yr5 yr6 yo6
 refine (C7 _ HB.out).out.mono ?_
 rintro e w6 ⟨a7,c7,rfl,r7,hb⟩
 replace r1:=aA4 r1 hb
 replace r2:=aA4 r2 hb
 replace r3:=aA4 r3 hb
 replace o3:=(fun z hz=>(o3 z hz).below hb)
 replace r4:=aA4 r4 hb
 replace r5:=aA4 r5 hb
 replace r6:=aA4 r6 hb
 replace o6:=(fun z hz=>(o6 z hz).below hb)
 have kb:=aA2 HK0.out hb
 have kr:=aA2 HK1.out hb
 have BB:=bb2 HB.out hb
 have K2:=hide (show (w6.setCell ⟨w.heap.size,11,none⟩ (.slice a7 x.frm.length c7)).heap[w.heap.size]?=some (.cells #[.int .i64 x.ref.kind,.string x.ref.space,.string x.ref.name,.bool x.good,.slice a1 x.labels.length c1,.slice a2 x.ports.length c2,.string x.cls,.slice a3 L3.length c3,.slice a4 x.pars.length c4,.slice a5 x.hosts.length c5,.slice a6 L6.length c6,.slice a7 x.frm.length c7,.slice x.ao x.tos.length x.co] 36) from aBi (i:=11) (.slice a7 x.frm.length c7) kb)
 have KR2:=hide (show (w6.setCell ⟨w.heap.size,11,none⟩ (.slice a7 x.frm.length c7)).heap[w.heap.size+1]?=some (.cells #[.int .i64 0,.string ⟨#[]⟩,.string ⟨#[]⟩,.bool false,.slice none 0 0,.slice none 0 0,.string ⟨#[]⟩,.slice none 0 0,.slice none 0 0,.slice none 0 0,.slice none 0 0,.slice none 0 0,.slice none 0 0] 36) from (Below.heap_setCell _ _ _ _ (by show w.heap.size+1≠w.heap.size;omega)).trans kr)
 have BB2:=hide (show Below w.heap.size w (w6.setCell ⟨w.heap.size,11,none⟩ (.slice a7 x.frm.length c7)) from BB.setCell (p:=⟨w.heap.size,11,none⟩) (Nat.le_refl _) (.slice a7 x.frm.length c7))
 have hx:BX w.heap.size w6.heap.size w6 (w6.setCell ⟨w.heap.size,11,none⟩ (.slice a7 x.frm.length c7)):=(BX.refl w.heap.size w6.heap.size w6).setL 11 [.slice a7 x.frm.length c7]
 have yr1:=hide (hx.row kb r1 (by decide))
 have yr2:=hide (hx.row kb r2 (by decide))
 have yr3:=hide (hx.row kb r3 (by decide))
 have yo3:=hide ((fun z hy=>(o3 z hy).bx hx kb (by decide) (by decide)))
 have yr4:=hide (hx.row kb r4 (by decide))
 have yr5:=hide (hx.row kb r5 (by decide))
 have yr6:=hide (hx.row kb r6 (by decide))
 have yo6:=hide ((fun z hy=>(o6 z hy).bx4 hx kb (by decide) (by decide) (by decide) (by decide)))
 have yr7:=hide (hx.row kb r7 (by decide))
 have lz:=aAl kb
 have zi:=aA0 kb (i:=11) rfl
 have zn:=aA0 K2.out (i:=12) rfl
 clear kb kr BB HB HK0 HK1 hx hb r1 r2 r3 o3 r4 r5 r6 o6 r7
 go_wp2_with fail
 clear lz zi zn
 generalize (w6.setCell ⟨w.heap.size,11,none⟩ (.slice a7 x.frm.length c7))=V at *
 have HB:=BB2
 have HK0:=K2
 have HK1:=KR2
 clear BB2 K2 KR2
 have r1:=yr1.out
 have r2:=yr2.out
 have r3:=yr3.out
 have o3:=yo3.out
 have r4:=yr4.out
 have r5:=yr5.out
 have r6:=yr6.out
 have o6:=yo6.out
 have r7:=yr7.out
 clear yr1 yr2 yr3 yo3 yr4 yr5 yr6 yo6 yr7
 refine (C8 _ HB.out).out.mono ?_
 rintro e w7 ⟨a8,c8,rfl,r8,hb⟩
 replace r1:=aA4 r1 hb
 replace r2:=aA4 r2 hb
 replace r3:=aA4 r3 hb
 replace o3:=(fun z hz=>(o3 z hz).below hb)
 replace r4:=aA4 r4 hb
 replace r5:=aA4 r5 hb
 replace r6:=aA4 r6 hb
 replace o6:=(fun z hz=>(o6 z hz).below hb)
 replace r7:=aA4 r7 hb
 have kb:=aA2 HK0.out hb
 have kr:=aA2 HK1.out hb
 have BB:=bb2 HB.out hb
 have K2:=hide (show (w7.setCell ⟨w.heap.size,12,none⟩ (.slice a8 x.tos.length c8)).heap[w.heap.size]?=some (.cells #[.int .i64 x.ref.kind,.string x.ref.space,.string x.ref.name,.bool x.good,.slice a1 x.labels.length c1,.slice a2 x.ports.length c2,.string x.cls,.slice a3 L3.length c3,.slice a4 x.pars.length c4,.slice a5 x.hosts.length c5,.slice a6 L6.length c6,.slice a7 x.frm.length c7,.slice a8 x.tos.length c8] 36) from aBi (i:=12) (.slice a8 x.tos.length c8) kb)
 have KR2:=hide (show (w7.setCell ⟨w.heap.size,12,none⟩ (.slice a8 x.tos.length c8)).heap[w.heap.size+1]?=some (.cells #[.int .i64 0,.string ⟨#[]⟩,.string ⟨#[]⟩,.bool false,.slice none 0 0,.slice none 0 0,.string ⟨#[]⟩,.slice none 0 0,.slice none 0 0,.slice none 0 0,.slice none 0 0,.slice none 0 0,.slice none 0 0] 36) from (Below.heap_setCell _ _ _ _ (by show w.heap.size+1≠w.heap.size;omega)).trans kr)
 have BB2:=hide (show Below w.heap.size w (w7.setCell ⟨w.heap.size,12,none⟩ (.slice a8 x.tos.length c8)) from BB.setCell (p:=⟨w.heap.size,12,none⟩) (Nat.le_refl _) (.slice a8 x.tos.length c8))
 have hx:BX w.heap.size w7.heap.size w7 (w7.setCell ⟨w.heap.size,12,none⟩ (.slice a8 x.tos.length c8)):=(BX.refl w.heap.size w7.heap.size w7).setL 12 [.slice a8 x.tos.length c8]
 have yr1:=hide (hx.row kb r1 (by decide))
 have yr2:=hide (hx.row kb r2 (by decide))
 have yr3:=hide (hx.row kb r3 (by decide))
 have yo3:=hide ((fun z hy=>(o3 z hy).bx hx kb (by decide) (by decide)))
 have yr4:=hide (hx.row kb r4 (by decide))
 have yr5:=hide (hx.row kb r5 (by decide))
 have yr6:=hide (hx.row kb r6 (by decide))
 have yo6:=hide ((fun z hy=>(o6 z hy).bx4 hx kb (by decide) (by decide) (by decide) (by decide)))
 have yr7:=hide (hx.row kb r7 (by decide))
 have yr8:=hide (hx.row kb r8 (by decide))
 have lz:=aAl kb
 have zi:=aA0 kb (i:=12) rfl
 have lr:=aAl KR2.out
 obtain ⟨f0,f1,f2,f3,f4,f5,f6,f7,f8,f9,f10,f11,f12⟩:_∧_∧_∧_∧_∧_∧_∧_∧_∧_∧_∧_∧_:=⟨aA0 K2.out (i:=0) rfl,aA0 K2.out (i:=1) rfl,aA0 K2.out (i:=2) rfl,aA0 K2.out (i:=3) rfl,aA0 K2.out (i:=4) rfl,aA0 K2.out (i:=5) rfl,aA0 K2.out (i:=6) rfl,aA0 K2.out (i:=7) rfl,aA0 K2.out (i:=8) rfl,aA0 K2.out (i:=9) rfl,aA0 K2.out (i:=10) rfl,aA0 K2.out (i:=11) rfl,aA0 K2.out (i:=12) rfl⟩
 obtain ⟨g0,g1,g2,g3,g4,g5,g6,g7,g8,g9,g10,g11,g12⟩:_∧_∧_∧_∧_∧_∧_∧_∧_∧_∧_∧_∧_:=⟨aA0 KR2.out (i:=0) rfl,aA0 KR2.out (i:=1) rfl,aA0 KR2.out (i:=2) rfl,aA0 KR2.out (i:=3) rfl,aA0 KR2.out (i:=4) rfl,aA0 KR2.out (i:=5) rfl,aA0 KR2.out (i:=6) rfl,aA0 KR2.out (i:=7) rfl,aA0 KR2.out (i:=8) rfl,aA0 KR2.out (i:=9) rfl,aA0 KR2.out (i:=10) rfl,aA0 KR2.out (i:=11) rfl,aA0 KR2.out (i:=12) rfl⟩
 clear kb kr BB HB HK0 HK1 hx hb r1 r2 r3 o3 r4 r5 r6 o6 r7 r8
 go_wp2_with fail
 clear lz lr zi f0 g0 f1 g1 f2 g2 f3 g3 f4 g4 f5 g5 f6 g6 f7 g7 f8 g8 f9 g9 f10 g10 f11 g11 f12 g12
 have S1:=aAh (w:=w) (B:=w.heap.size) (g:=w.heap.size+1) (Nat.le_succ _) [.int .i64 x.ref.kind,.string x.ref.space,.string x.ref.name,.bool x.good,.slice a1 x.labels.length c1,.slice a2 x.ports.length c2,.string x.cls,.slice a3 L3.length c3,.slice a4 x.pars.length c4,.slice a5 x.hosts.length c5,.slice a6 L6.length c6,.slice a7 x.frm.length c7,.slice a8 x.tos.length c8] _ 0 BB2.out
 have K4:=aB2 [.int .i64 x.ref.kind,.string x.ref.space,.string x.ref.name,.bool x.good,.slice a1 x.labels.length c1,.slice a2 x.ports.length c2,.string x.cls,.slice a3 L3.length c3,.slice a4 x.pars.length c4,.slice a5 x.hosts.length c5,.slice a6 L6.length c6,.slice a7 x.frm.length c7,.slice a8 x.tos.length c8] KR2.out rfl
 have hx2:=(BX.refl (w.heap.size+1) (w7.setCell ⟨w.heap.size,12,none⟩ (.slice a8 x.tos.length c8)).heap.size (w7.setCell ⟨w.heap.size,12,none⟩ (.slice a8 x.tos.length c8))).setL 0 [.int .i64 x.ref.kind,.string x.ref.space,.string x.ref.name,.bool x.good,.slice a1 x.labels.length c1,.slice a2 x.ports.length c2,.string x.cls,.slice a3 L3.length c3,.slice a4 x.pars.length c4,.slice a5 x.hosts.length c5,.slice a6 L6.length c6,.slice a7 x.frm.length c7,.slice a8 x.tos.length c8]
 have xr1:=hx2.row KR2.out yr1.out (by decide)
 have xr2:=hx2.row KR2.out yr2.out (by decide)
 have xr3:=hx2.row KR2.out yr3.out (by decide)
 have xo3:=(fun z hy=>(yo3.out z hy).bx hx2 KR2.out (by decide) (by decide))
 have xr4:=hx2.row KR2.out yr4.out (by decide)
 have xr5:=hx2.row KR2.out yr5.out (by decide)
 have xr6:=hx2.row KR2.out yr6.out (by decide)
 have xo6:=(fun z hy=>(yo6.out z hy).bx4 hx2 KR2.out (by decide) (by decide) (by decide) (by decide))
 have xr7:=hx2.row KR2.out yr7.out (by decide)
 have xr8:=hx2.row KR2.out yr8.out (by decide)
 clear BB2 K2 KR2 hx2 yr1 yr2 yr3 yo3 yr4 yr5 yr6 yo6 yr7 yr8
 change bodyPost _ _ _ _ _ (setL (w7.setCell ⟨w.heap.size,12,none⟩ (.slice a8 x.tos.length c8)) (w.heap.size+1) 0 [.int .i64 x.ref.kind,.string x.ref.space,.string x.ref.name,.bool x.good,.slice a1 x.labels.length c1,.slice a2 x.ports.length c2,.string x.cls,.slice a3 L3.length c3,.slice a4 x.pars.length c4,.slice a5 x.hosts.length c5,.slice a6 L6.length c6,.slice a7 x.frm.length c7,.slice a8 x.tos.length c8])
 generalize setL (w7.setCell ⟨w.heap.size,12,none⟩ (.slice a8 x.tos.length c8)) (w.heap.size+1) 0 [.int .i64 x.ref.kind,.string x.ref.space,.string x.ref.name,.bool x.good,.slice a1 x.labels.length c1,.slice a2 x.ports.length c2,.string x.cls,.slice a3 L3.length c3,.slice a4 x.pars.length c4,.slice a5 x.hosts.length c5,.slice a6 L6.length c6,.slice a7 x.frm.length c7,.slice a8 x.tos.length c8]=W9 at *
 obtain ⟨e0,e1,e2,e3,e4,e5,e6,e7,e8,e9,e10,e11,e12⟩:_∧_∧_∧_∧_∧_∧_∧_∧_∧_∧_∧_∧_:=⟨aA0 K4 (i:=0) rfl,aA0 K4 (i:=1) rfl,aA0 K4 (i:=2) rfl,aA0 K4 (i:=3) rfl,aA0 K4 (i:=4) rfl,aA0 K4 (i:=5) rfl,aA0 K4 (i:=6) rfl,aA0 K4 (i:=7) rfl,aA0 K4 (i:=8) rfl,aA0 K4 (i:=9) rfl,aA0 K4 (i:=10) rfl,aA0 K4 (i:=11) rfl,aA0 K4 (i:=12) rfl⟩
 exact bodyPost_ret (v:=.agg #[.int .i64 x.ref.kind,.string x.ref.space,.string x.ref.name,.bool x.good,.slice a1 x.labels.length c1,.slice a2 x.ports.length c2,.string x.cls,.slice a3 L3.length c3,.slice a4 x.pars.length c4,.slice a5 x.hosts.length c5,.slice a6 L6.length c6,.slice a7 x.frm.length c7,.slice a8 x.tos.length c8]) (by simp [results,Tryz.f30,go_sem,e0,e1,e2,e3,e4,e5,e6,e7,e8,e9,e10,e11,e12]) rfl (⟨⟨x.ref,x.good,x.labels,a1,c1,x.ports,a2,c2,x.cls,L3,a3,c3,x.pars,a4,c4,x.hosts,a5,c5,L6,a6,c6,x.frm,a7,c7,x.tos,a8,c8⟩,rfl,(by unfold OV.b;rw [m3,m6]),⟨⟨_,xr1⟩,⟨_,xr2⟩,⟨_,xr3⟩,xo3,⟨_,xr4⟩,⟨_,xr5⟩,⟨_,xr6⟩,xo6,⟨_,xr7⟩,⟨_,xr8⟩⟩,S1⟩)
end Go.Proofs.YthnodpdiocppgaaGreatDoor
