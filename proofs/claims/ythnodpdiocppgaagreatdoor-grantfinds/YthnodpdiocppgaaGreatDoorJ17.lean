/-
  Arguments: a ref.
-/
import Derived.Test.YthnodpdiocppgaaGreatDoorJ15
import Derived.Lib.SmallJoins
import Derived.Deep.Slices
import Derived.Test.YthnodpdiocppgaaGreatDoorJ10
import Derived.Test.YthnodpdiocppgaaGreatDoorJ12
import Derived.Test.YthnodpdiocppgaaGreatDoorJ16
set_option linter.unusedSimpArgs false
set_option maxRecDepth 20000
namespace Go.Proofs.YthnodpdiocppgaaGreatDoor
open Go Go.RowKit Go.Shelf Go.ChangeShapes Go.WideShapes Go.Deep
theorem Tryz.cellsR3:Tryz.prog.cellsOf 3=1:=by kernel_rfl
theorem Tryz.cellsR9:Tryz.prog.cellsOf 9=1:=by kernel_rfl
theorem aW4 {α:Type} {cs:Array α} (h:cs.size=3):∃ c0 c1 c2,cs=#[c0,c1,c2]:=by
 obtain ⟨l⟩:=cs
 match l,h with
 | [c0,c1,c2],_=>exact ⟨c0,c1,c2,rfl⟩
theorem aF4 {H:Type} {enc:TypeId × Value→H} {W:World} {fuel:Nat} {c0 c1 c2:Value} {y:DataW H × List MemPlace} (h:DataW.trod enc Tryz.prog W 0 (fun _=>true) true fuel 24 [c0,c1,c2]=some y) :
  ∃ r:RfB,c0=.int .i64 r.kind∧c1=.string r.space∧c2=.string r.name∧aCw r:=by
 obtain ⟨xs,n,hn,_,_,hxl,hp⟩:=DataW.trod_struct Tryz.underlying24 h
 match xs,hxl with
 | [y0,y1,y2],_ =>
   have h0:=hp 0 _ rfl
   have h1:=hp 1 _ rfl
   have h2:=hp 2 _ rfl
   simp [Tryz.cellsR3,Tryz.cellsR9] at h0 h1 h2
   obtain ⟨k,e0,_,_⟩:=DataW.trod_int Tryz.underlying3 h0
   obtain ⟨s1,e1,_,z1⟩:=DataW.trod_string Tryz.underlying9 h1
   obtain ⟨s2,e2,_,z2⟩:=DataW.trod_string Tryz.underlying9 h2
   simp only [List.cons.injEq,and_true] at e0 e1 e2
   subst e0 e1 e2
   exact ⟨⟨k,s1,s2⟩,rfl,rfl,rfl,⟨z1,z2⟩⟩
def aTu (_:World) (v:Value):Prop:=∃ r:RfB,v=rfV r∧aCw r
theorem aP0 {H:Type} {enc:TypeId × Value→H} {W:World} {base:Nat} {v:Value} {d:DataW H} {ps:List MemPlace} (hval:Value.okWide Tryz.prog W .any base 24 v)
  (h:DataW.Trod enc Tryz.prog W 0 (fun _=>true) true 24 v d ps):aTu W v:=by
 obtain ⟨cs,rfl,hsz⟩:=okWide_struct Tryz.underlying24 hval
 obtain ⟨c0,c1,c2,rfl⟩:=aW4 (hsz.trans (by kernel_rfl))
 obtain ⟨fuel,hf⟩:=h
 obtain ⟨r,rfl,rfl,rfl,hr⟩:=aF4 hf
 exact ⟨r,rfl,hr⟩
end Go.Proofs.YthnodpdiocppgaaGreatDoor
namespace Go.Proofs.YthnodpdiocppgaaGreatDoor
open Go Go.RowKit Go.Shelf Go.ChangeShapes Go.WideShapes Go.Deep
theorem Tryz.cells3n:Tryz.prog.cellsOf 3=1:=by kernel_rfl
theorem Tryz.cellsVs:Tryz.prog.cellsOf 32=1:=by kernel_rfl
theorem Tryz.cellsNd:Tryz.prog.cellsOf 105=3:=by kernel_rfl
theorem aIy {H:Type} {enc:TypeId × Value→H} {W:World} {fuel:Nat} {v:Value} {y:DataW H × List MemPlace} (h:DataW.trod enc Tryz.prog W 0 (fun _=>true) true fuel 32 [v]=some y) :
  ∃ l:List ByteArray,Sl ES W v l∧∀ s∈l,s.size≤maxLen:=by
 refine aCk Tryz.underlying32 Tryz.cells9 (fun fuel cs y hl hy=>?_) ⟨⟨#[]⟩⟩ h
 match cs,hl with
 | [c0],_ =>
   obtain ⟨s,e,_,hs⟩:=DataW.trod_string Tryz.underlying9 hy
   exact ⟨s,e,trivial,hs⟩
theorem aR8 {H:Type} {enc:TypeId × Value→H} {W:World} {fuel:Nat} {c0 c1 c2:Value} {y:DataW H × List MemPlace} (h:DataW.trod enc Tryz.prog W 0 (fun _=>true) true fuel 105 [c0,c1,c2]=some y) :
  ∃ x:NV,[c0,c1,c2]=aLa x∧Sl ES W x.v x.n.vals∧RawN x.n:=by
 obtain ⟨xs,n,hn,_,_,hxl,hp⟩:=DataW.trod_struct Tryz.underlying105 h
 match xs,hxl with
 | [y0,y1,y2],_ =>
   have h0:=hp 0 _ rfl
   have h1:=hp 1 _ rfl
   have h2:=hp 2 _ rfl
   simp [Tryz.cells3n,Tryz.cells9,Tryz.cellsVs] at h0 h1 h2
   obtain ⟨k,e0,_,_⟩:=DataW.trod_int Tryz.underlying3 h0
   obtain ⟨s1,e1,_,z1⟩:=DataW.trod_string Tryz.underlying9 h1
   simp only [List.cons.injEq,and_true] at e0 e1
   subst e0 e1
   obtain ⟨vs,hs,hz⟩:=aIy h2
   have hs':=hs
   obtain ⟨a,c,rfl⟩:=hs.form
   exact ⟨⟨⟨k,s1,vs⟩,a,c⟩,rfl,hs',⟨z1,hz⟩⟩
end Go.Proofs.YthnodpdiocppgaaGreatDoor
namespace Go.Proofs.YthnodpdiocppgaaGreatDoor
open Go Go.RowKit Go.Shelf Go.ChangeShapes Go.WideShapes Go.Deep
theorem aP1 {H:Type} {enc:TypeId × Value→H} {W:World} {fuel:Nat} {c0 c1:Value} {y:DataW H × List MemPlace} (h:DataW.trod enc Tryz.prog W 0 (fun _=>true) true fuel 86 [c0,c1]=some y) :
  ∃ (k:Int) (s:ByteArray),c0=.int .i64 k∧c1=.string s∧s.size≤maxLen:=by
 obtain ⟨y0,y1,n,_,_,h0,h1⟩:=trod_struct2 Tryz.underlying86 h
 obtain ⟨k0,e0,_,_⟩:=DataW.trod_int Tryz.underlying3 h0
 obtain ⟨s1,e1,_,z1⟩:=DataW.trod_string Tryz.underlying9 h1
 have hc3:Tryz.prog.cellsOf 3=1:=by kernel_rfl
 simp [hc3,Tryz.cells9] at e0 e1
 exact ⟨k0,s1,e0,e1,z1⟩
theorem aP2 {H:Type} {enc:TypeId × Value→H} {W:World} {fuel:Nat} {c0 c1 c2 c3 c4:Value} {y:DataW H × List MemPlace} (h:DataW.trod enc Tryz.prog W 0 (fun _=>true) true fuel 88 [c0,c1,c2,c3,c4]=some y) :
  ∃ x:MV,c0=.int .i64 x.m.kind∧c1=.string x.m.val∧c2=.string x.m.meth∧c3=x.vh∧c4=x.vq∧x.at_ W∧RawM x.m:=by
 obtain ⟨y0,y1,y2,y3,n,_,_,h0,h1,h2,h3⟩:=Joins.trod_struct4 Tryz.underlying88 h
 have hcP:Tryz.prog.cellsOf 86=2:=by kernel_rfl
 have hcS:Tryz.prog.cellsOf 28=1:=by kernel_rfl
 simp [hcP,hcS,Tryz.cells9] at h0 h1 h2 h3
 obtain ⟨k,s,rfl,rfl,hs⟩:=aP1 h0
 obtain ⟨t,e2,_,ht⟩:=DataW.trod_string Tryz.underlying9 h1
 simp only [List.cons.injEq,and_true] at e2
 subst e2
 obtain ⟨hd,ph,okh⟩:=aFe h2
 obtain ⟨qu,pq,okq⟩:=aFe h3
 have ph':=ph
 have pq':=pq
 obtain ⟨a1,cap1,rfl,_⟩:=ph
 obtain ⟨a2,cap2,rfl,_⟩:=pq
 exact ⟨⟨⟨k,s,t,hd,qu⟩,a1,cap1,a2,cap2⟩,rfl,rfl,rfl,rfl,rfl,⟨ph',pq'⟩,⟨hs,ht,okh,okq⟩⟩
end Go.Proofs.YthnodpdiocppgaaGreatDoor
namespace Go.Proofs.YthnodpdiocppgaaGreatDoor
open Go Go.RowKit Go.Shelf Go.ChangeShapes Go.WideShapes Go.Deep
theorem Tryz.cells3':Tryz.prog.cellsOf 3=1:=by kernel_rfl
theorem Tryz.cells4':Tryz.prog.cellsOf 4=1:=by kernel_rfl
theorem Tryz.cellsE':Tryz.prog.cellsOf 108=8:=by kernel_rfl
theorem aN7 {H:Type} {enc:TypeId × Value→H} {W:World} {fuel:Nat} {c0 c1 c2 c3 c4 c5 c6 c7:Value} {y:DataW H × List MemPlace} (h:DataW.trod enc Tryz.prog W 0 (fun _=>true) true fuel 108 [c0,c1,c2,c3,c4,c5,c6,c7]=some y) :
  ∃ f:FB,[c0,c1,c2,c3,c4,c5,c6,c7]=aBz f∧RawF f:=by
 obtain ⟨xs,n,hn,_,_,hxl,hp⟩:=DataW.trod_struct Tryz.underlying108 h
 match xs,hxl with
 | [y0,y1,y2,y3,y4,y5,y6,y7],_ =>
   have h0:=hp 0 _ rfl
   have h1:=hp 1 _ rfl
   have h2:=hp 2 _ rfl
   have h3:=hp 3 _ rfl
   have h4:=hp 4 _ rfl
   have h5:=hp 5 _ rfl
   have h6:=hp 6 _ rfl
   have h7:=hp 7 _ rfl
   simp [Tryz.cells3',Tryz.cells4',Tryz.cells9] at h0 h1 h2 h3 h4 h5 h6 h7
   obtain ⟨k,e0,_,_⟩:=DataW.trod_int Tryz.underlying3 h0
   obtain ⟨s1,e1,_,z1⟩:=DataW.trod_string Tryz.underlying9 h1
   obtain ⟨s2,e2,_,z2⟩:=DataW.trod_string Tryz.underlying9 h2
   obtain ⟨s3,e3,_,z3⟩:=DataW.trod_string Tryz.underlying9 h3
   obtain ⟨p,e4,_,_⟩:=DataW.trod_int Tryz.underlying3 h4
   obtain ⟨s5,e5,_,z5⟩:=DataW.trod_string Tryz.underlying9 h5
   obtain ⟨b,e6,_⟩:=DataW.trod_bool Tryz.underlying4 h6
   obtain ⟨c,e7,_,_⟩:=DataW.trod_int Tryz.underlying3 h7
   simp only [List.cons.injEq,and_true] at e0 e1 e2 e3 e4 e5 e6 e7
   subst e0 e1 e2 e3 e4 e5 e6 e7
   exact ⟨⟨k,s1,s2,s3,p,s5,b,c⟩,rfl,⟨z1,z2,z3,z5⟩⟩
theorem aLt {H:Type} {enc:TypeId × Value→H} {W:World} {fuel:Nat} {v:Value} {y:DataW H × List MemPlace} (h:DataW.trod enc Tryz.prog W 0 (fun _=>true) true fuel 73 [v]=some y) :
  ∃ l:List FB,Sl EF W v l∧∀ f∈l,RawF f:=by
 refine aCk Tryz.underlying73 Tryz.cellsE' (fun fuel cs y hl hy=>?_) ⟨⟨0,⟨#[]⟩,⟨#[]⟩,⟨#[]⟩,0,⟨#[]⟩,false,0⟩⟩ h
 match cs,hl with
 | [c0,c1,c2,c3,c4,c5,c6,c7],_ =>
   obtain ⟨f,hf,hr⟩:=aN7 hy
   exact ⟨f,hf,trivial,hr⟩
end Go.Proofs.YthnodpdiocppgaaGreatDoor
namespace Go.Proofs.YthnodpdiocppgaaGreatDoor
open Go Go.RowKit Go.Shelf Go.ChangeShapes Go.WideShapes Go.Deep
theorem Tryz.zcRf:Tryz.prog.cellsOf 24=3:=by kernel_rfl
theorem Tryz.zcSd:Tryz.prog.cellsOf 53=3:=by kernel_rfl
theorem Tryz.zcPt:Tryz.prog.cellsOf 70=4:=by kernel_rfl
theorem Tryz.zcBk:Tryz.prog.cellsOf 91=5:=by kernel_rfl
theorem Tryz.zcLi:Tryz.prog.cellsOf 67=9:=by kernel_rfl
theorem Tryz.zcRl:Tryz.prog.cellsOf 76=3:=by kernel_rfl
theorem Tryz.zcOb:Tryz.prog.cellsOf 36=13:=by kernel_rfl
theorem Tryz.zcMt:Tryz.prog.cellsOf 88=5:=by kernel_rfl
theorem Tryz.zcI:Tryz.prog.cellsOf 3=1:=by kernel_rfl
theorem Tryz.zsNd:Tryz.prog.cellsOf 65=1:=by kernel_rfl
theorem Tryz.zsMt:Tryz.prog.cellsOf 72=1:=by kernel_rfl
theorem Tryz.zsFi:Tryz.prog.cellsOf 73=1:=by kernel_rfl
theorem Tryz.zsBk:Tryz.prog.cellsOf 74=1:=by kernel_rfl
theorem Tryz.zsPr:Tryz.prog.cellsOf 28=1:=by kernel_rfl
theorem Tryz.zsIn:Tryz.prog.cellsOf 29=1:=by kernel_rfl
theorem Tryz.zsLi:Tryz.prog.cellsOf 30=1:=by kernel_rfl
theorem Tryz.zsPt:Tryz.prog.cellsOf 31=1:=by kernel_rfl
theorem Tryz.zsSt:Tryz.prog.cellsOf 32=1:=by kernel_rfl
theorem Tryz.zsRl:Tryz.prog.cellsOf 33=1:=by kernel_rfl
theorem Tryz.zsSd:Tryz.prog.cellsOf 34=1:=by kernel_rfl
theorem Tryz.z4:Tryz.prog.cellsOf 4=1:=by kernel_rfl
theorem aR9 {H:Type} {enc:TypeId × Value→H} {W:World} {fuel:Nat} {c0 c1 c2:Value} {y:DataW H × List MemPlace} (h:DataW.trod enc Tryz.prog W 0 (fun _=>true) true fuel 53 [c0,c1,c2]=some y) :
  ∃ r:RfB,[c0,c1,c2]=aFn r∧aCw r:=by
 obtain ⟨xs,n,hn,_,_,hxl,hp⟩:=DataW.trod_struct Tryz.underlying53 h
 match xs,hxl with
 | [y0,y1,y2],_ =>
   have h0:=hp 0 _ rfl
   have h1:=hp 1 _ rfl
   have h2:=hp 2 _ rfl
   simp [Tryz.cellsR3,Tryz.cellsR9,Tryz.z4] at h0 h1 h2
   obtain ⟨k,e0,_,_⟩:=DataW.trod_int Tryz.underlying3 h0
   obtain ⟨s,e1,_,z1⟩:=DataW.trod_string Tryz.underlying9 h1
   obtain ⟨t,e2,_,z2⟩:=DataW.trod_string Tryz.underlying9 h2
   simp only [List.cons.injEq,and_true] at e0 e1 e2
   subst e0 e1 e2
   exact ⟨⟨k,s,t⟩,rfl,⟨z1,z2⟩⟩
theorem aN8 {H:Type} {enc:TypeId × Value→H} {W:World} {fuel:Nat} {c0 c1 c2 c3:Value} {y:DataW H × List MemPlace} (h:DataW.trod enc Tryz.prog W 0 (fun _=>true) true fuel 70 [c0,c1,c2,c3]=some y) :
  ∃ p:PtB,[c0,c1,c2,c3]=aEp p∧aOw p:=by
 obtain ⟨xs,n,hn,_,_,hxl,hp⟩:=DataW.trod_struct Tryz.underlying70 h
 match xs,hxl with
 | [y0,y1,y2,y3],_ =>
   have h0:=hp 0 _ rfl
   have h1:=hp 1 _ rfl
   have h2:=hp 2 _ rfl
   have h3:=hp 3 _ rfl
   simp [Tryz.cellsR3,Tryz.cellsR9,Tryz.z4] at h0 h1 h2 h3
   obtain ⟨r,e0,_,z0⟩:=DataW.trod_string Tryz.underlying9 h0
   obtain ⟨s,e1,_,z1⟩:=DataW.trod_string Tryz.underlying9 h1
   obtain ⟨t,e2,_,z2⟩:=DataW.trod_string Tryz.underlying9 h2
   obtain ⟨k,e3,_,_⟩:=DataW.trod_int Tryz.underlying3 h3
   simp only [List.cons.injEq,and_true] at e0 e1 e2 e3
   subst e0 e1 e2 e3
   exact ⟨⟨r,s,t,k⟩,rfl,⟨z0,z1,z2⟩⟩
theorem aLu {H:Type} {enc:TypeId × Value→H} {W:World} {fuel:Nat} {c0 c1 c2 c3 c4:Value} {y:DataW H × List MemPlace} (h:DataW.trod enc Tryz.prog W 0 (fun _=>true) true fuel 91 [c0,c1,c2,c3,c4]=some y) :
  ∃ b:BkB,[c0,c1,c2,c3,c4]=aFo b∧aCw b.ref:=by
 obtain ⟨xs,n,hn,_,_,hxl,hp⟩:=DataW.trod_struct Tryz.underlying91 h
 match xs,hxl with
 | [y0,y1,y2],_ =>
   have h0:=hp 0 _ rfl
   have h1:=hp 1 _ rfl
   have h2:=hp 2 _ rfl
   simp [Tryz.cellsR3,Tryz.cellsR9,Tryz.z4,Tryz.zcRf] at h0 h1 h2
   obtain ⟨r,rfl,rfl,rfl,hr⟩:=aF4 h0
   obtain ⟨k,e1,_,_⟩:=DataW.trod_int Tryz.underlying3 h1
   obtain ⟨m,e2,_,_⟩:=DataW.trod_int Tryz.underlying3 h2
   simp only [List.cons.injEq,and_true] at e1 e2
   subst e1 e2
   exact ⟨⟨r,k,m⟩,rfl,hr⟩
theorem aIz {H:Type} {enc:TypeId × Value→H} {W:World} {fuel:Nat} {v:Value} {y:DataW H × List MemPlace} (h:DataW.trod enc Tryz.prog W 0 (fun _=>true) true fuel 34 [v]=some y) :
  ∃ l,Sl ER W v l∧∀ x∈l,aCw x:=by
 refine aCk Tryz.underlying34 Tryz.zcSd (fun fuel cs y hl hy=>?_) ⟨⟨0,⟨#[]⟩,⟨#[]⟩⟩⟩ h
 match cs,hl with
 | [c0,c1,c2],_ =>
   obtain ⟨r,hr,h1⟩:=aR9 hy
   exact ⟨r,hr,trivial,h1⟩
theorem aLv {H:Type} {enc:TypeId × Value→H} {W:World} {fuel:Nat} {v:Value} {y:DataW H × List MemPlace} (h:DataW.trod enc Tryz.prog W 0 (fun _=>true) true fuel 31 [v]=some y) :
  ∃ l,Sl EPt W v l∧∀ x∈l,aOw x:=by
 refine aCk Tryz.underlying31 Tryz.zcPt (fun fuel cs y hl hy=>?_) ⟨⟨⟨#[]⟩,⟨#[]⟩,⟨#[]⟩,0⟩⟩ h
 match cs,hl with
 | [c0,c1,c2,c3],_ =>
   obtain ⟨r,hr,h1⟩:=aN8 hy
   exact ⟨r,hr,trivial,h1⟩
theorem aKk {H:Type} {enc:TypeId × Value→H} {W:World} {fuel:Nat} {v:Value} {y:DataW H × List MemPlace} (h:DataW.trod enc Tryz.prog W 0 (fun _=>true) true fuel 74 [v]=some y) :
  ∃ l,Sl EK W v l∧∀ x∈l,aCw x.ref:=by
 refine aCk Tryz.underlying74 Tryz.zcBk (fun fuel cs y hl hy=>?_) ⟨⟨⟨0,⟨#[]⟩,⟨#[]⟩⟩,0,0⟩⟩ h
 match cs,hl with
 | [c0,c1,c2,c3,c4],_ =>
   obtain ⟨r,hr,h1⟩:=aLu hy
   exact ⟨r,hr,trivial,h1⟩
theorem aLw {H:Type} {enc:TypeId × Value→H} {W:World} {fuel:Nat} {v:Value} {y:DataW H × List MemPlace} (h:DataW.trod enc Tryz.prog W 0 (fun _=>true) true fuel 72 [v]=some y) :
  ∃ l,Sl EM W v l∧∀ x∈l,RawM x.m:=by
 refine aCk Tryz.underlying72 Tryz.zcMt (fun fuel cs y hl hy=>?_) ⟨⟨⟨0,⟨#[]⟩,⟨#[]⟩,[],[]⟩,none,0,none,0⟩⟩ h
 match cs,hl with
 | [c0,c1,c2,c3,c4],_ =>
   obtain ⟨x,h0,h1,h2,h3,h4,h5,h6⟩:=aP2 hy
   exact ⟨x,by rw [h0,h1,h2,h3,h4];rfl,h5,h6⟩
theorem aP3 {H:Type} {enc:TypeId × Value→H} {W:World} {fuel:Nat} {v:Value} {y:DataW H × List MemPlace} (h:DataW.trod enc Tryz.prog W 0 (fun _=>true) true fuel 65 [v]=some y) :
  ∃ l,Sl EN W v l∧∀ x∈l,RawN x.n:=by
 refine aCk Tryz.underlying65 Tryz.cellsNd (fun fuel cs y hl hy=>?_) ⟨⟨⟨0,⟨#[]⟩,[]⟩,none,0⟩⟩ h
 match cs,hl with
 | [c0,c1,c2],_ =>
   obtain ⟨x,hx,h1,h2⟩:=aR8 hy
   exact ⟨x,hx,h1,h2⟩
theorem aRa {H:Type} {enc:TypeId × Value→H} {W:World} {fuel:Nat} {v:Value} {y:DataW H × List MemPlace} (h:DataW.trod enc Tryz.prog W 0 (fun _=>true) true fuel 29 [v]=some y) :
  ∃ l,Sl EI W v l∧∀ x∈l,True:=by
 refine aCk Tryz.underlying29 Tryz.zcI (fun fuel cs y hl hy=>?_) ⟨0⟩ h
 match cs,hl with
 | [c0],_ =>
   obtain ⟨k,e,_,_⟩:=DataW.trod_int Tryz.underlying3 hy
   exact ⟨k,e,trivial,trivial⟩
theorem aKl {H:Type} {enc:TypeId × Value→H} {W:World} {fuel:Nat} {c0 c1 c2 c3 c4 c5 c6 c7 c8:Value} {y:DataW H × List MemPlace} (h:DataW.trod enc Tryz.prog W 0 (fun _=>true) true fuel 67 [c0,c1,c2,c3,c4,c5,c6,c7,c8]=some y) :
  ∃ x:LiV,[c0,c1,c2,c3,c4,c5,c6,c7,c8]=aDk x∧Sl EN W x.v x.nd∧aOx x:=by
 obtain ⟨xs,n,hn,_,_,hxl,hp⟩:=DataW.trod_struct Tryz.underlying67 h
 match xs,hxl with
 | [y0,y1,y2,y3,y4,y5,y6],_ =>
   have h0:=hp 0 _ rfl
   have h1:=hp 1 _ rfl
   have h2:=hp 2 _ rfl
   have h3:=hp 3 _ rfl
   have h4:=hp 4 _ rfl
   have h5:=hp 5 _ rfl
   have h6:=hp 6 _ rfl
   simp [Tryz.cellsR3,Tryz.cellsR9,Tryz.z4,Tryz.zcRf,Tryz.zsNd] at h0 h1 h2 h3 h4 h5 h6
   obtain ⟨s,e0,_,z0⟩:=DataW.trod_string Tryz.underlying9 h0
   obtain ⟨p,e1,_,_⟩:=DataW.trod_int Tryz.underlying3 h1
   obtain ⟨b,e2,_⟩:=DataW.trod_bool Tryz.underlying4 h2
   obtain ⟨t,e3,_,z3⟩:=DataW.trod_string Tryz.underlying9 h3
   obtain ⟨r,rfl,rfl,rfl,hr⟩:=aF4 h4
   obtain ⟨f,e5,_,_⟩:=DataW.trod_int Tryz.underlying3 h5
   simp only [List.cons.injEq,and_true] at e0 e1 e2 e3 e5
   subst e0 e1 e2 e3 e5
   obtain ⟨L,hL,hR⟩:=aP3 h6
   have hL':=hL
   obtain ⟨a,c,rfl⟩:=hL.form
   exact ⟨⟨s,p,b,t,r,f,L,a,c⟩,rfl,hL',⟨z0,z3,hr,hR⟩⟩
theorem aRb {H:Type} {enc:TypeId × Value→H} {W:World} {fuel:Nat} {c0 c1 c2:Value} {y:DataW H × List MemPlace} (h:DataW.trod enc Tryz.prog W 0 (fun _=>true) true fuel 76 [c0,c1,c2]=some y) :
  ∃ x:RlV,[c0,c1,c2]=aH8 x∧x.at_ W∧aOy x:=by
 obtain ⟨xs,n,hn,_,_,hxl,hp⟩:=DataW.trod_struct Tryz.underlying76 h
 match xs,hxl with
 | [y0,y1,y2],_ =>
   have h0:=hp 0 _ rfl
   have h1:=hp 1 _ rfl
   have h2:=hp 2 _ rfl
   simp [Tryz.cellsR3,Tryz.cellsR9,Tryz.z4,Tryz.zsMt,Tryz.zsFi,Tryz.zsBk] at h0 h1 h2
   obtain ⟨M,hM,rM⟩:=aLw h0
   obtain ⟨F,hF,rF⟩:=aLt h1
   obtain ⟨K,hK,rK⟩:=aKk h2
   have hM':=hM
   have hF':=hF
   have hK':=hK
   obtain ⟨a,c,rfl⟩:=hM.form
   obtain ⟨a2,c2,rfl⟩:=hF.form
   obtain ⟨a3,c3,rfl⟩:=hK.form
   exact ⟨⟨M,a,c,F,a2,c2,K,a3,c3⟩,rfl,⟨hM',hF',hK'⟩,⟨rM,rF,rK⟩⟩
theorem aJj {H:Type} {enc:TypeId × Value→H} {W:World} {fuel:Nat} {v:Value} {y:DataW H × List MemPlace} (h:DataW.trod enc Tryz.prog W 0 (fun _=>true) true fuel 30 [v]=some y) :
  ∃ l,Sl ELi W v l∧∀ x∈l,aOx x:=by
 refine aCk Tryz.underlying30 Tryz.zcLi (fun fuel cs y hl hy=>?_) ⟨⟨⟨#[]⟩,0,false,⟨#[]⟩,⟨0,⟨#[]⟩,⟨#[]⟩⟩,0,[],none,0⟩⟩ h
 match cs,hl with
 | [c0,c1,c2,c3,c4,c5,c6,c7,c8],_ =>
   obtain ⟨x,hx,h1,h2⟩:=aKl hy
   exact ⟨x,hx,h1,h2⟩
theorem aP4 {H:Type} {enc:TypeId × Value→H} {W:World} {fuel:Nat} {v:Value} {y:DataW H × List MemPlace} (h:DataW.trod enc Tryz.prog W 0 (fun _=>true) true fuel 33 [v]=some y) :
  ∃ l,Sl ERl W v l∧∀ x∈l,aOy x:=by
 refine aCk Tryz.underlying33 Tryz.zcRl (fun fuel cs y hl hy=>?_) ⟨⟨[],none,0,[],none,0,[],none,0⟩⟩ h
 match cs,hl with
 | [c0,c1,c2],_ =>
   obtain ⟨x,hx,h1,h2⟩:=aRb hy
   exact ⟨x,hx,h1,h2⟩
theorem aN9 {H:Type} {enc:TypeId × Value→H} {W:World} {fuel:Nat} {c0 c1 c2 c3 c4 c5 c6 c7 c8 c9 c10 c11 c12:Value} {y:DataW H × List MemPlace} (h:DataW.trod enc Tryz.prog W 0 (fun _=>true) true fuel 36 [c0,c1,c2,c3,c4,c5,c6,c7,c8,c9,c10,c11,c12]=some y) :
  ∃ x:OV,[c0,c1,c2,c3,c4,c5,c6,c7,c8,c9,c10,c11,c12]=aLo x∧x.at_ W∧RawO x:=by
 obtain ⟨xs,n,hn,_,_,hxl,hp⟩:=DataW.trod_struct Tryz.underlying36 h
 match xs,hxl with
 | [y0,y1,y2,y3,y4,y5,y6,y7,y8,y9,y10],_ =>
   have h0:=hp 0 _ rfl
   have h1:=hp 1 _ rfl
   have h2:=hp 2 _ rfl
   have h3:=hp 3 _ rfl
   have h4:=hp 4 _ rfl
   have h5:=hp 5 _ rfl
   have h6:=hp 6 _ rfl
   have h7:=hp 7 _ rfl
   have h8:=hp 8 _ rfl
   have h9:=hp 9 _ rfl
   have h10:=hp 10 _ rfl
   simp [Tryz.cellsR3,Tryz.cellsR9,Tryz.z4,Tryz.zcRf,Tryz.zsNd,Tryz.zsMt,Tryz.zsFi,Tryz.zsBk,Tryz.zsPr,Tryz.zsIn,Tryz.zsLi,Tryz.zsPt,Tryz.zsSt,Tryz.zsRl,Tryz.zsSd] at h0 h1 h2 h3 h4 h5 h6 h7 h8 h9 h10
   obtain ⟨r,rfl,rfl,rfl,hr⟩:=aF4 h0
   obtain ⟨g,e1,_⟩:=DataW.trod_bool Tryz.underlying4 h1
   simp only [List.cons.injEq,and_true] at e1
   subst e1
   obtain ⟨LB,pL,okL⟩:=aFe h2
   obtain ⟨PO,pP,_⟩:=aRa h3
   obtain ⟨cl,e4,_,z4⟩:=DataW.trod_string Tryz.underlying9 h4
   simp only [List.cons.injEq,and_true] at e4
   subst e4
   obtain ⟨LI,pI,rI⟩:=aJj h5
   obtain ⟨PA,pA,rA⟩:=aLv h6
   obtain ⟨HO,pH,rH⟩:=aIy h7
   obtain ⟨RU,pR,rR⟩:=aP4 h8
   obtain ⟨FR,pF,rF⟩:=aIz h9
   obtain ⟨TO,pT,rT⟩:=aIz h10
   have qL:=pL
   have qP:=pP
   have qI:=pI
   have qA:=pA
   have qH:=pH
   have qR:=pR
   have qF:=pF
   have qT:=pT
   obtain ⟨aL,cL,rfl,_⟩:=pL
   obtain ⟨aP,cP,rfl⟩:=pP.form
   obtain ⟨aI,cI,rfl⟩:=pI.form
   obtain ⟨aA,cA,rfl⟩:=pA.form
   obtain ⟨aH,cH,rfl⟩:=pH.form
   obtain ⟨aR,cR,rfl⟩:=pR.form
   obtain ⟨aF,cF,rfl⟩:=pF.form
   obtain ⟨aT,cT,rfl⟩:=pT.form
   exact ⟨⟨r,g,LB,aL,cL,PO,aP,cP,cl,LI,aI,cI,PA,aA,cA,HO,aH,cH,RU,aR,cR,FR,aF,cF,TO,aT,cT⟩,rfl,⟨qL,qP,qI,qA,qH,qR,qF,qT⟩,⟨hr,okL,z4,rI,rA,rH,rR,rF,rT⟩⟩
end Go.Proofs.YthnodpdiocppgaaGreatDoor
