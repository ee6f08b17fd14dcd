/-
  A list of objects that lies in rows of its own; one of a list of objects.
-/
import Derived.Test.YthnodpdiocppgaaGreatDoorObFewC
import Derived.Test.YthnodpdiocppgaaGreatDoorJ17
set_option linter.unusedSimpArgs false
set_option maxRecDepth 20000
namespace Go.Proofs.YthnodpdiocppgaaGreatDoor
open Go Go.RowKit Go.Shelf
theorem aXq {w:World} {g o:Nat} {x:OV} (h:EO.At w g o x):w.cell? ⟨g,o,none⟩=some (.int .i64 x.ref.kind)∧w.cell? ⟨g,o+1,none⟩=some (.string x.ref.space)∧w.cell? ⟨g,o+2,none⟩=some (.string x.ref.name)∧w.cell? ⟨g,o+3,none⟩=some (.bool x.good)∧w.cell? ⟨g,o+4,none⟩=some (x.vl)∧w.cell? ⟨g,o+5,none⟩=some (x.vp)∧w.cell? ⟨g,o+6,none⟩=some (.string x.cls)∧w.cell? ⟨g,o+7,none⟩=some (x.vi)∧w.cell? ⟨g,o+8,none⟩=some (x.vq)∧w.cell? ⟨g,o+9,none⟩=some (x.vh)∧w.cell? ⟨g,o+10,none⟩=some (x.vr)∧w.cell? ⟨g,o+11,none⟩=some (x.vf)∧w.cell? ⟨g,o+12,none⟩=some (x.vo) :=
 ⟨h 0 _ rfl,h 1 _ rfl,h 2 _ rfl,h 3 _ rfl,h 4 _ rfl,h 5 _ rfl,h 6 _ rfl,h 7 _ rfl,h 8 _ rfl,h 9 _ rfl,h 10 _ rfl,h 11 _ rfl,h 12 _ rfl⟩
theorem oneO {w W:World} {a:Option Addr} {n cap:Nat} {L:List OV} (h:Sl EO w (.slice a n cap) L) (hB:Below w.heap.size w W) {k:Nat} (hk:k<L.length) :
  L[k].at_ W∧∃ g off,a=some ⟨g,off,none⟩∧g<w.heap.size∧W.cell? ⟨g,off+k*13,none⟩=some (.int .i64 L[k].ref.kind)∧W.cell? ⟨g,off+k*13+1,none⟩=some (.string L[k].ref.space)∧W.cell? ⟨g,off+k*13+2,none⟩=some (.string L[k].ref.name)∧W.cell? ⟨g,off+k*13+3,none⟩=some (.bool L[k].good)∧W.cell? ⟨g,off+k*13+4,none⟩=some (L[k].vl)∧W.cell? ⟨g,off+k*13+5,none⟩=some (L[k].vp)∧W.cell? ⟨g,off+k*13+6,none⟩=some (.string L[k].cls)∧W.cell? ⟨g,off+k*13+7,none⟩=some (L[k].vi)∧W.cell? ⟨g,off+k*13+8,none⟩=some (L[k].vq)∧W.cell? ⟨g,off+k*13+9,none⟩=some (L[k].vh)∧W.cell? ⟨g,off+k*13+10,none⟩=some (L[k].vr)∧W.cell? ⟨g,off+k*13+11,none⟩=some (L[k].vf)∧W.cell? ⟨g,off+k*13+12,none⟩=some (L[k].vo):=by
 obtain ⟨a',cap',hv,_,_,hc⟩:=h
 injection hv with e1 e2 e3
 subst e1
 obtain ⟨hA,g,off,ha,hg,c⟩:=hc k hk
 exact ⟨EO.below _ _ _ hA hB,g,off,ha,hg,aXq (c.below hg hB)⟩
theorem RlV.own.grownO {x:RlV} {w w':World} (h:x.own w) {b' s' n':Nat} {v':Value} {ys:List Value} (h':w.ownsRow b' 36 s' v' n' ys) (hg:w.grownBy w' v'.ownBlock):x.own w':=by
 obtain ⟨⟨b,h1⟩,h2,⟨c,h3⟩,⟨d,h4⟩⟩:=h
 exact ⟨⟨b,aAv h1 h' (by decide) hg⟩,fun m hm=>(h2 m hm).grownB h' (by decide) hg,⟨c,aAv h3 h' (by decide) hg⟩,⟨d,aAv h4 h' (by decide) hg⟩⟩
theorem OV.own.grownO {x:OV} {w w':World} (h:x.own w) {b' s' n':Nat} {v':Value} {ys:List Value} (h':w.ownsRow b' 36 s' v' n' ys) (hg:w.grownBy w' v'.ownBlock):x.own w':=by
 obtain ⟨⟨b1,h1⟩,⟨b2,h2⟩,⟨b3,h3⟩,h4,⟨b5,h5⟩,⟨b6,h6⟩,⟨b7,h7⟩,h8,⟨b9,h9⟩,⟨b10,h10⟩⟩:=h
 exact ⟨⟨b1,aAv h1 h' (by decide) hg⟩,⟨b2,aAv h2 h' (by decide) hg⟩,⟨b3,aAv h3 h' (by decide) hg⟩,fun l hl=>(h4 l hl).grown h' (by decide) (by decide) hg,⟨b5,aAv h5 h' (by decide) hg⟩,⟨b6,aAv h6 h' (by decide) hg⟩,⟨b7,aAv h7 h' (by decide) hg⟩,fun r hr=>(h8 r hr).grownO h' hg,⟨b9,aAv h9 h' (by decide) hg⟩,⟨b10,aAv h10 h' (by decide) hg⟩⟩
structure OwL (base:Nat) (v:Value) (L:List OV) (w:World):Prop where
 row:w.ownsRow base 36 EO.n v L.length (EO.flat L)
 own:∀ o∈L,o.own w
theorem OwL.nil (base:Nat) (w:World):OwL base (.slice none 0 0) [] w:=⟨⟨rfl,.inl ⟨rfl,rfl⟩⟩,fun _ h=>absurd h (by simp)⟩
theorem OwL.below {base:Nat} {v:Value} {L:List OV} {w w':World} (h:OwL base v L w) (hb:Below w.heap.size w w'):OwL base v L w':=⟨aA4 h.row hb,fun o ho=>(h.own o ho).below hb⟩
theorem OwL.sl {base:Nat} {v:Value} {L:List OV} {w:World} (h:OwL base v L w):Sl EO w v L:=Sl.of_row rfl h.row (fun o ho=>(h.own o ho).at_)
theorem OwL.snoc {base:Nat} {v v':Value} {L:List OV} {o:OV} {w w':World} (h:OwL base v L w) (ho:o.own w) (hr:w'.ownsRow base 36 EO.n v' (L.length+1) (EO.flat (L++[o]))) (hg:w.grownBy w' v.ownBlock):OwL base v' (L++[o]) w':=by
 refine ⟨by rw [List.length_append];exact hr,fun p hp=>?_⟩
 rcases List.mem_append.1 hp with hp | hp
 ·exact (h.own p hp).grownO h.row hg
 ·rw [List.mem_singleton.1 hp]
  exact ho.grownO h.row hg
end Go.Proofs.YthnodpdiocppgaaGreatDoor
namespace Go.Proofs.YthnodpdiocppgaaGreatDoor
open Go Go.RowKit Go.Shelf Go.ChangeShapes Go.WideShapes Go.Deep
theorem aV6 {α:Type} {cs:Array α} (h:cs.size=6):∃ c0 c1 c2 c3 c4 c5,cs=#[c0,c1,c2,c3,c4,c5]:=by
 obtain ⟨l⟩:=cs
 match l,h with
 | [c0,c1,c2,c3,c4,c5],_=>exact ⟨c0,c1,c2,c3,c4,c5,rfl⟩
theorem Tryz.zsOb:Tryz.prog.cellsOf 22=1:=by kernel_rfl
theorem aGu {H:Type} {enc:TypeId × Value→H} {W:World} {fuel:Nat} {v:Value} {y:DataW H × List MemPlace} (h:DataW.trod enc Tryz.prog W 0 (fun _=>true) true fuel 22 [v]=some y) :
  ∃ l,Sl EO W v l∧∀ x∈l,RawO x:=by
 refine aCk Tryz.underlying22 Tryz.zcOb (fun fuel cs y hl hy=>?_) ⟨⟨⟨0,⟨#[]⟩,⟨#[]⟩⟩,false,[],none,0,[],none,0,⟨#[]⟩,[],none,0,[],none,0,[],none,0,[],none,0,[],none,0,[],none,0⟩⟩ h
 match cs,hl with
 | [c0,c1,c2,c3,c4,c5,c6,c7,c8,c9,c10,c11,c12],_ =>
   obtain ⟨x,hx,h1,h2⟩:=aN9 hy
   exact ⟨x,hx,h1,h2⟩
def aTv (W:World) (v:Value):Prop:=∃ (a:Option Addr) (c:Nat) (L:List OV),v=.slice a L.length c∧Sl EO W v L∧∀ x∈L,RawO x
abbrev akG (a:Option Addr) (c:Nat) (L:List OV) (k:Int) (s:ByteArray) (r:RfB):Value:=.agg #[.slice a L.length c,.int .i64 k,.string s,.int .i64 r.kind,.string r.space,.string r.name]
def aTw (W:World) (v:Value):Prop:=∃ (a:Option Addr) (c:Nat) (L:List OV) (k:Int) (s:ByteArray) (r:RfB),v=akG a c L k s r∧Sl EO W (.slice a L.length c) L∧(∀ x∈L,RawO x)∧s.size≤maxLen∧aCw r
theorem aP5 {H:Type} {enc:TypeId × Value→H} {W:World} {base:Nat} {v:Value} {d:DataW H} {ps:List MemPlace} (hval:Value.okWide Tryz.prog W .any base 22 v)
  (h:DataW.Trod enc Tryz.prog W 0 (fun _=>true) true 22 v d ps):aTv W v:=by
 obtain ⟨a0,len0,cap0,rfl⟩:=okWide_slice Tryz.underlying22 hval
 obtain ⟨fuel,hf⟩:=h
 obtain ⟨L,hL,hr⟩:=aGu hf
 obtain ⟨a,c,hv⟩:=hL.form
 exact ⟨a,c,L,hv,hL,hr⟩
theorem aP6 {H:Type} {enc:TypeId × Value→H} {W:World} {base:Nat} {v:Value} {d:DataW H} {ps:List MemPlace} (hval:Value.okWide Tryz.prog W .any base 26 v)
  (h:DataW.Trod enc Tryz.prog W 0 (fun _=>true) true 26 v d ps):aTw W v:=by
 obtain ⟨cs,rfl,hsz⟩:=okWide_struct Tryz.underlying26 hval
 obtain ⟨c0,c1,c2,c3,c4,c5,rfl⟩:=aV6 (hsz.trans (by kernel_rfl))
 obtain ⟨fuel,hf⟩:=h
 obtain ⟨xs,n,hn,_,_,hxl,hp⟩:=DataW.trod_struct Tryz.underlying26 hf
 match xs,hxl with
 | [y0,y1,y2,y3],_ =>
   have h0:=hp 0 _ rfl
   have h1:=hp 1 _ rfl
   have h2:=hp 2 _ rfl
   have h3:=hp 3 _ rfl
   simp [Value.cells,Tryz.zcRf,Tryz.zsOb,Tryz.cellsR3,Tryz.cellsR9] at h0 h1 h2 h3
   obtain ⟨L,hL,hr⟩:=aGu h0
   obtain ⟨k,e1,_,_⟩:=DataW.trod_int Tryz.underlying3 h1
   obtain ⟨s,e2,_,z2⟩:=DataW.trod_string Tryz.underlying9 h2
   obtain ⟨r,rfl,rfl,rfl,hrf⟩:=aF4 h3
   simp only [List.cons.injEq,and_true] at e1 e2
   subst e1 e2
   have hL':=hL
   obtain ⟨a,c,rfl⟩:=hL.form
   exact ⟨a,c,L,k,s,r,rfl,hL',hr,z2,hrf⟩
end Go.Proofs.YthnodpdiocppgaaGreatDoor
