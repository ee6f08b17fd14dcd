/-
  ObjectNear: a store into a row of an object: what the object owns thereafter.
-/
import Derived.Test.YthfnjcbiiofkhaaGreatDoorObFewC
import Derived.Test.YthfnjcbiiofkhaaGreatDoorJ17
import Derived.Test.YthfnjcbiiofkhaaGreatDoorJ13
import Derived.Test.YthfnjcbiiofkhaaGreatDoorJ16
namespace Go.Proofs.YthfnjcbiiofkhaaGreatDoor
set_option maxRecDepth 20000
open Go Go.RowKit Go.Shelf

/-- a row of one's own after a store of some of its cells -/
theorem ownsRow_setL {w : World} {base g n cap e size : Nat} {xs pre old post cs : List Value} (h : w.ownsRow base e size (.slice (some ⟨g, 0, none⟩) n cap) n xs) (hx : xs = pre ++ old ++ post) (hl : old.length = cs.length) :
    (setL w g pre.length cs).ownsRow base e size (.slice (some ⟨g, 0, none⟩) n cap) n (pre ++ cs ++ post) := by
  obtain ⟨h1, h2⟩ := h
  subst hx
  refine ⟨by simpa [hl] using h1, ?_⟩
  rcases h2 with ⟨h2, _⟩ | ⟨g', cap', cur, hv, hg, hh, hn, hc, hs, hx⟩
  · cases h2
  · obtain ⟨rfl, rfl⟩ : g' = g ∧ cap' = cap := by
      injection hv with a1 a2 a3
      injection a1 with a1
      injection a1 with a1
      exact ⟨a1.symm, a3.symm⟩
    have hcur : cur = ((pre ++ old) ++ (post ++ cur.toList.drop (n * size))).toArray := by
      apply Array.ext'
      rw [← List.append_assoc, ← hx]
      simp
    have hm := setL_mid (g := g') (t := e) (post := post ++ cur.toList.drop (n * size)) cs pre old w (by rw [hh]; exact congrArg (fun z => some (Obj.cells z e (0, 0))) hcur) hl
    have hle : n * size ≤ cur.size := by rw [hs]; exact Nat.mul_le_mul_right _ hn
    refine Or.inr ⟨g', cap', _, rfl, hg, hm, hn, hc, ?_, ?_⟩
    · rw [← hs]
      have := congrArg Array.size hcur
      simp at this ⊢
      omega
    · rw [show (pre ++ cs ++ (post ++ List.drop (n * size) cur.toList)).toArray.toList = (pre ++ cs ++ post) ++ List.drop (n * size) cur.toList by simp]
      exact List.take_left' (by simp [← hl] at h1 ⊢; omega)
section
variable {α : Type} {E : Elem α}
/-- one cell of one element is written anew -/
theorem row_cell {w : World} {base g n cap t : Nat} {A C : List α} {p p' : α} {a b : List Value} {o c : Value} (h : w.ownsRow base t E.n (.slice (some ⟨g, 0, none⟩) n cap) n (E.flat (A ++ p :: C))) (ho : E.cells p = a ++ o :: b) (hc : E.cells p' = a ++ c :: b) :
    (setL w g (A.length * E.n + a.length) [c]).ownsRow base t E.n (.slice (some ⟨g, 0, none⟩) n cap) n (E.flat (A ++ p' :: C)) := by
  have := ownsRow_setL (pre := E.flat A ++ a) (old := [o]) (cs := [c]) (post := b ++ E.flat C) h (by rw [Elem.flat_append, Elem.flat_cons, ho]; simp) rfl
  rw [List.length_append, Elem.flat_len] at this
  rw [Elem.flat_append, Elem.flat_cons, hc]
  simpa using this
end
/-- a row of one's own that is not empty lies in a block -/
theorem row_block {w : World} {base e size n : Nat} {v : Value} {xs : List Value} (h : w.ownsRow base e size v n xs) (hn : 0 < n) : ∃ g cap cur, v = .slice (some ⟨g, 0, none⟩) n cap ∧ w.heap[g]? = some (.cells cur e) ∧ base ≤ g := by
  rcases h.2 with ⟨_, h0⟩ | ⟨g, cap, cur, hv, hg, hh, _⟩
  · omega
  · exact ⟨g, cap, cur, hv, hh, hg⟩
/-- a row in another block stays -/
theorem BX.rowb {B : Nat} {w w' : World} (h : BX B w.heap.size w w') {b0 e0 s n : Nat} {u : Value} {xs : List Value} (hr : w.ownsRow b0 e0 s u n xs) (hne : u.ownBlock ≠ some B) : w'.ownsRow b0 e0 s u n xs := by
  obtain ⟨h1, h2⟩ := hr
  refine ⟨h1, ?_⟩
  rcases h2 with h2 | ⟨g, cap, cur, hv, hb, hh, r⟩
  · exact .inl h2
  · refine .inr ⟨g, cap, cur, hv, hb, ?_, r⟩
    rw [h.block g (lt_blk hh) (fun e => hne (by rw [hv, ← e]; rfl))]
    exact hh
theorem RlV.own.bxp {x : RlV} {B : Nat} {w w' : World} {old : Array Value} (h : x.own w) (hx : BX B w.heap.size w w') (hz : w.heap[B]? = some (.cells old 41)) : x.own w' := by
  obtain ⟨⟨b, h1⟩, h2, ⟨c, h3⟩, ⟨d, h4⟩⟩ := h
  exact ⟨⟨b, hx.row hz h1 (by decide)⟩, fun m hm => (h2 m hm).bx hx hz (by decide), ⟨c, hx.row hz h3 (by decide)⟩, ⟨d, hx.row hz h4 (by decide)⟩⟩
/-- a parent's space is stored -/
theorem OV.own.par {x : OV} {w : World} {g : Nat} {A C : List PtB} {p : PtB} (h : x.own w) (hp : x.pars = A ++ p :: C) (ha : x.aq = some ⟨g, 0, none⟩) (sp : ByteArray) :
    OV.own { x with pars := A ++ { p with space := sp } :: C } (setL w g (A.length * 4) [.string sp]) := by
  obtain ⟨⟨b1, h1⟩, ⟨b2, h2⟩, ⟨b3, h3⟩, h4, ⟨b5, h5⟩, ⟨b6, h6⟩, ⟨b7, h7⟩, h8, ⟨b9, h9⟩, ⟨b10, h10⟩⟩ := h
  have hpos : 0 < x.pars.length := by rw [hp, List.length_append, List.length_cons]; omega
  obtain ⟨g', cap', cur, hv, hz, _⟩ := row_block h5 hpos
  have eg : g' = g := by
    unfold OV.vq at hv
    rw [ha] at hv
    injection hv with a1 _ _
    injection a1 with a1
    injection a1 with a1
    exact a1.symm
  subst eg
  have hx : BX g' w.heap.size w (setL w g' (A.length * 4) [.string sp]) := (BX.refl _ _ _).setL _ _
  refine ⟨⟨b1, hx.row hz h1 (by decide)⟩, ⟨b2, hx.row hz h2 (by decide)⟩, ⟨b3, hx.row hz h3 (by decide)⟩, fun l hl => (h4 l hl).bx hx hz (by decide) (by decide), ⟨b5, ?_⟩, ⟨b6, hx.row hz h6 (by decide)⟩, ⟨b7, hx.row hz h7 (by decide)⟩, fun r hr => (h8 r hr).bxp hx hz, ⟨b9, hx.row hz h9 (by decide)⟩, ⟨b10, hx.row hz h10 (by decide)⟩⟩
  unfold OV.vq at h5 ⊢
  dsimp only at h5 ⊢
  rw [ha, hp] at h5
  rw [ha]
  have := row_cell (E := EPt) (p' := { p with space := sp }) (a := []) (c := .string sp) h5 rfl rfl
  simpa [show EPt.n = 4 from rfl] using this

theorem ownb_eq {r s : RlV} (h : r.ab = s.ab) : r.vb.ownBlock = s.vb.ownBlock := by
  unfold RlV.vb
  rw [h]
  cases s.ab <;> rfl
theorem aparts_set {N : Nat} {A C : List RlV} {r r' : RlV} (h : Aparts N (A ++ r :: C)) (he : r'.ab = r.ab) : Aparts N (A ++ r' :: C) := by
  have e := ownb_eq he
  refine ⟨fun x hx g hg => ?_, ?_⟩
  · rcases List.mem_append.1 hx with hx | hx
    · exact h.up x (List.mem_append_left _ hx) g hg
    · rcases List.mem_cons.1 hx with rfl | hx
      · exact h.up r (List.mem_append_right _ (List.mem_cons_self ..)) g (by rw [← e]; exact hg)
      · exact h.up x (List.mem_append_right _ (List.mem_cons_of_mem _ hx)) g hg
  have hp := h.pw
  rw [List.pairwise_append, List.pairwise_cons] at *
  obtain ⟨h1, ⟨h2, h3⟩, h4⟩ := hp
  refine ⟨h1, ⟨fun c hc => by rw [e]; exact h2 c hc, h3⟩, fun a ha b hb => ?_⟩
  rcases List.mem_cons.1 hb with rfl | hb
  · rw [e]
    exact h4 a ha r (by simp)
  · exact h4 a ha b (List.mem_cons_of_mem _ hb)
/-- a rule in whose backends' block nothing is stored -/
theorem RlV.own.bxk {x : RlV} {B : Nat} {w w' : World} {old : Array Value} (h : x.own w) (hx : BX B w.heap.size w w') (hz : w.heap[B]? = some (.cells old 48)) (hne : x.vb.ownBlock ≠ some B) : x.own w' := by
  obtain ⟨⟨b, h1⟩, h2, ⟨c, h3⟩, ⟨d, h4⟩⟩ := h
  exact ⟨⟨b, hx.row hz h1 (by decide)⟩, fun m hm => (h2 m hm).bx hx hz (by decide), ⟨c, hx.row hz h3 (by decide)⟩, ⟨d, hx.rowb h4 hne⟩⟩
/-- a backend's space is stored -/
theorem OV.own.bak {x : OV} {w : World} {g : Nat} {A C : List RlV} {r : RlV} {K M : List BkB} {b : BkB} (h : x.own w) (hr : x.rules = A ++ r :: C) (hb : r.bs = K ++ b :: M) (ha : r.ab = some ⟨g, 0, none⟩) {N : Nat} (hap : Aparts N x.rules) (sp : ByteArray) :
    OV.own { x with rules := A ++ { r with bs := K ++ { b with ref := { b.ref with space := sp } } :: M } :: C } (setL w g (K.length * 5 + 1) [.string sp]) := by
  obtain ⟨⟨b1, h1⟩, ⟨b2, h2⟩, ⟨b3, h3⟩, h4, ⟨b5, h5⟩, ⟨b6, h6⟩, ⟨b7, h7⟩, h8, ⟨b9, h9⟩, ⟨b10, h10⟩⟩ := h
  have hro := h8 r (by rw [hr]; simp)
  obtain ⟨⟨c1, r1⟩, r2, ⟨c3, r3⟩, ⟨c4, r4⟩⟩ := hro
  have hpos : 0 < r.bs.length := by rw [hb, List.length_append, List.length_cons]; omega
  obtain ⟨g', cap', cur, hv, hz, _⟩ := row_block r4 hpos
  have eg : g' = g := by
    unfold RlV.vb at hv
    rw [ha] at hv
    injection hv with a1 _ _
    injection a1 with a1
    injection a1 with a1
    exact a1.symm
  subst eg
  have hob : r.vb.ownBlock = some g' := by unfold RlV.vb; rw [ha]; rfl
  have hx : BX g' w.heap.size w (setL w g' (K.length * 5 + 1) [.string sp]) := (BX.refl _ _ _).setL _ _
  have hlen : (K ++ ({ b with ref := { b.ref with space := sp } } : BkB) :: M).length = r.bs.length := by rw [hb]; simp
  have hfl : ERl.flat (A ++ ({ r with bs := K ++ { b with ref := { b.ref with space := sp } } :: M } : RlV) :: C) = ERl.flat x.rules := by
    have hce : ERl.cells ({ r with bs := K ++ { b with ref := { b.ref with space := sp } } :: M } : RlV) = ERl.cells r := by
      show rlcells _ = rlcells _
      unfold rlcells RlV.vm RlV.vf RlV.vb
      dsimp only
      rw [hlen]
    rw [hr, Elem.flat_append, Elem.flat_cons, Elem.flat_append, Elem.flat_cons, hce]
  have hln : (A ++ ({ r with bs := K ++ { b with ref := { b.ref with space := sp } } :: M } : RlV) :: C).length = x.rules.length := by rw [hr]; simp
  rw [hr] at hap
  have hap := hap.pw
  rw [List.pairwise_append, List.pairwise_cons] at hap
  obtain ⟨_, ⟨p2, _⟩, p4⟩ := hap
  refine ⟨⟨b1, hx.row hz h1 (by decide)⟩, ⟨b2, hx.row hz h2 (by decide)⟩, ⟨b3, hx.row hz h3 (by decide)⟩, fun l hl => (h4 l hl).bx hx hz (by decide) (by decide), ⟨b5, hx.row hz h5 (by decide)⟩, ⟨b6, hx.row hz h6 (by decide)⟩, ⟨b7, ?_⟩, fun s hs => ?_, ⟨b9, hx.row hz h9 (by decide)⟩, ⟨b10, hx.row hz h10 (by decide)⟩⟩
  · unfold OV.vr
    dsimp only
    rw [hln, hfl]
    exact hx.row hz h7 (by decide)
  · dsimp only at hs
    rcases List.mem_append.1 hs with hs | hs
    · exact (h8 s (by rw [hr]; exact List.mem_append_left _ hs)).bxk hx hz fun e => p4 s hs r (by simp) g' e hob
    · rcases List.mem_cons.1 hs with rfl | hs
      · refine ⟨⟨c1, hx.row hz r1 (by decide)⟩, fun m hm => (r2 m hm).bx hx hz (by decide), ⟨c3, hx.row hz r3 (by decide)⟩, ⟨c4, ?_⟩⟩
        unfold RlV.vb at r4 ⊢
        dsimp only at r4 ⊢
        rw [ha, hb] at r4
        rw [ha]
        have := row_cell (E := EK) (p' := { b with ref := { b.ref with space := sp } }) (a := [.int .i64 b.ref.kind]) (c := .string sp) r4 rfl rfl
        simpa [show EK.n = 5 from rfl] using this
      · exact (h8 s (by rw [hr]; exact List.mem_append_right _ (List.mem_cons_of_mem _ hs))).bxk hx hz (p2 s hs g' hob)

end Go.Proofs.YthfnjcbiiofkhaaGreatDoor
namespace Go.Proofs.YthfnjcbiiofkhaaGreatDoor
set_option maxRecDepth 20000
open Go Go.RowKit Go.Shelf

/-- the law's object y lies in box B; what it was: L in v3; n: what the caller has; S: all was made below it when Refs was asked -/
structure NS (w : World) (B S : Nat) (v3 : Value) (L : List RfB) (y : OV) (W : World) : Prop where
  own : y.own W
  box : W.heap[B]? = some (.cells (ocells y).toArray 32)
  ap : Aparts w.heap.size y.rules
  qn : ∀ g, y.vq.ownBlock = some g → w.heap.size ≤ g
  qs : ∀ g, y.vq.ownBlock = some g → g < S
  bs : ∀ r ∈ y.rules, ∀ g, r.vb.ownBlock = some g → g < S
  was : Sl ER W v3 L
  wasS : ∀ a n c, v3 = .slice (some a) n c → S ≤ a.block
  bel : Below w.heap.size w W

theorem slice_blk {a : Option Addr} {n c : Nat} {g : Nat} (h : a = some ⟨g, 0, none⟩) : (Value.slice a n c).ownBlock = some g := by rw [h]; rfl
/-- a slice in other blocks stays -/
theorem Sl.bx {α : Type} {E : Elem α} {B : Nat} {w w' : World} {v : Value} {l : List α} (h : Sl E w v l) (hx : BX B w.heap.size w w') (hne : ∀ a n c, v = .slice (some a) n c → a.block ≠ B) (hA : ∀ x ∈ l, E.A x w → E.A x w') : Sl E w' v l := by
  obtain ⟨a, cap, rfl, h1, h2, hc⟩ := h
  refine ⟨a, cap, rfl, h1, h2, fun i hi => ?_⟩
  obtain ⟨hat, g, off, rfl, hlt, c⟩ := hc i hi
  refine ⟨hA _ (List.getElem_mem hi) hat, g, off, rfl, Nat.lt_of_lt_of_le hlt hx.size, fun j u hu => ?_⟩
  have e : w'.heap[g]? = w.heap[g]? := hx.block g hlt (hne _ _ _ rfl)
  have := c j u hu
  simp only [World.cell?] at this ⊢
  rw [e]
  exact this
theorem NS.par {w W : World} {B S g : Nat} {v3 : Value} {L : List RfB} {y : OV} {A C : List PtB} {p : PtB} (h : NS w B S v3 L y W) (hp : y.pars = A ++ p :: C) (ha : y.aq = some ⟨g, 0, none⟩) (sp : ByteArray) :
    NS w B S v3 L { y with pars := A ++ { p with space := sp } :: C } (setL W g (A.length * 4) [.string sp]) := by
  have hl : (A ++ ({ p with space := sp } : PtB) :: C).length = y.pars.length := by rw [hp]; simp
  have eg := slice_blk (n := y.pars.length) (c := y.cq) ha
  have hx : BX g W.heap.size W (setL W g (A.length * 4) [.string sp]) := (BX.refl _ _ _).setL _ _
  obtain ⟨b5, h5⟩ := h.own.pars
  obtain ⟨g', cap', cur, hv, hz, _⟩ := row_block h5 (by rw [hp, List.length_append, List.length_cons]; omega)
  have e2 : g' = g := by
    have := congrArg Value.ownBlock hv
    rw [eg] at this
    exact (Option.some.inj this).symm
  subst e2
  have hBg : B ≠ g' := fun e => by
    have := h.box
    rw [e, hz] at this
    injection this with this
    injection this with _ this _
    exact absurd this (by decide)
  refine ⟨h.own.par hp ha sp, ?_, h.ap, ?_, ?_, h.bs, h.was.bx hx (fun a n c e => ?_) (fun _ _ _ => trivial), h.wasS, ?_⟩
  · rw [hx.block B (lt_blk h.box) hBg, h.box]
    unfold ocells OV.vq
    dsimp only
    rw [hl]
  · intro g0 e
    exact h.qn g0 (by have := slice_blk (n := y.pars.length) (c := y.cq) ha; have e3 := slice_blk (n := (A ++ ({ p with space := sp } : PtB) :: C).length) (c := y.cq) ha; unfold OV.vq at e ⊢; dsimp only at e ⊢; rw [e3] at e; rw [this]; exact e)
  · intro g0 e
    exact h.qs g0 (by have := slice_blk (n := y.pars.length) (c := y.cq) ha; have e3 := slice_blk (n := (A ++ ({ p with space := sp } : PtB) :: C).length) (c := y.cq) ha; unfold OV.vq at e ⊢; dsimp only at e ⊢; rw [e3] at e; rw [this]; exact e)
  · have h1 := h.wasS a n c e
    have h2 := h.qs g' eg
    omega
  · exact setL_below (h.qn g' eg) _ _ _ h.bel
theorem NS.bak {w W : World} {B S g : Nat} {v3 : Value} {L : List RfB} {y : OV} {A C : List RlV} {r : RlV} {K M : List BkB} {b : BkB} (h : NS w B S v3 L y W) (hr : y.rules = A ++ r :: C) (hb : r.bs = K ++ b :: M) (ha : r.ab = some ⟨g, 0, none⟩) (sp : ByteArray) :
    NS w B S v3 L { y with rules := A ++ { r with bs := K ++ { b with ref := { b.ref with space := sp } } :: M } :: C } (setL W g (K.length * 5 + 1) [.string sp]) := by
  have hl : (A ++ ({ r with bs := K ++ { b with ref := { b.ref with space := sp } } :: M } : RlV) :: C).length = y.rules.length := by rw [hr]; simp
  have eg := slice_blk (n := r.bs.length) (c := r.cb) ha
  have hx : BX g W.heap.size W (setL W g (K.length * 5 + 1) [.string sp]) := (BX.refl _ _ _).setL _ _
  have hrm : r ∈ y.rules := by rw [hr]; simp
  obtain ⟨b4, h4⟩ := (h.own.rulesA r hrm).bs
  obtain ⟨g', cap', cur, hv, hz, _⟩ := row_block h4 (by rw [hb, List.length_append, List.length_cons]; omega)
  have e2 : g' = g := by
    have := congrArg Value.ownBlock hv
    rw [eg] at this
    exact (Option.some.inj this).symm
  subst e2
  have hBg : B ≠ g' := fun e => by
    have := h.box
    rw [e, hz] at this
    injection this with this
    injection this with _ this _
    exact absurd this (by decide)
  refine ⟨h.own.bak hr hb ha h.ap sp, ?_, ?_, h.qn, h.qs, fun s hs g0 e => ?_, h.was.bx hx (fun a n c e => ?_) (fun _ _ _ => trivial), h.wasS, ?_⟩
  · rw [hx.block B (lt_blk h.box) hBg, h.box]
    unfold ocells OV.vr
    dsimp only
    rw [hl]
  · have := h.ap
    rw [hr] at this
    exact aparts_set this rfl
  · dsimp only at hs
    rcases List.mem_append.1 hs with hs | hs
    · exact h.bs s (by rw [hr]; exact List.mem_append_left _ hs) g0 e
    · rcases List.mem_cons.1 hs with rfl | hs
      · have e5 := (slice_blk (n := (K ++ ({ b with ref := { b.ref with space := sp } } : BkB) :: M).length) (c := r.cb) ha).symm.trans e
        obtain rfl := Option.some.inj e5
        exact h.bs r hrm _ eg
      · exact h.bs s (by rw [hr]; exact List.mem_append_right _ (List.mem_cons_of_mem _ hs)) g0 e
  · have h1 := h.wasS a n c e
    have h2 := h.bs r hrm g' eg
    omega
  · exact setL_below (h.ap.up r hrm g' eg) _ _ _ h.bel

/-! ### the parents -/
def ptTo (y : OV) (k : Nat) : List PtB := (y.pars.take k).map (Ob.fillP y.ref.space) ++ y.pars.drop k
theorem ptTo_len (y : OV) (k : Nat) : (ptTo y k).length = y.pars.length := by unfold ptTo; simp; omega
theorem ptTo_zero (y : OV) : ptTo y 0 = y.pars := by unfold ptTo; simp
theorem ptTo_end (y : OV) : ptTo y y.pars.length = y.pars.map (Ob.fillP y.ref.space) := by unfold ptTo; simp
theorem ptTo_split {y : OV} {k : Nat} (h : k < y.pars.length) : ptTo y k = (y.pars.take k).map (Ob.fillP y.ref.space) ++ y.pars[k] :: y.pars.drop (k + 1) := by
  unfold ptTo
  rw [List.drop_eq_getElem_cons h]
theorem ptTo_next {y : OV} {k : Nat} (h : k < y.pars.length) : ptTo y (k + 1) = (y.pars.take k).map (Ob.fillP y.ref.space) ++ Ob.fillP y.ref.space y.pars[k] :: y.pars.drop (k + 1) := by
  unfold ptTo
  rw [List.take_succ_eq_append_getElem h, List.map_append, List.append_assoc]
  rfl
theorem ptTo_at {y : OV} {k : Nat} (h : k < y.pars.length) : (ptTo y k)[k]'(by rw [ptTo_len]; exact h) = y.pars[k] := by
  simp only [ptTo_split h]
  rw [List.getElem_append_right (by simp; omega)]
  simp [Nat.min_eq_left (Nat.le_of_lt h)]
/-- where the law's parents lie, the k-th -/
theorem NS.pt {w W : World} {B S : Nat} {v3 : Value} {L : List RfB} {y : OV} (h : NS w B S v3 L y W) {k : Nat} (hk : k < y.pars.length) :
    ∃ g, y.aq = some ⟨g, 0, none⟩ ∧ (∀ i, W.frozen? ⟨g, i, none⟩ = false) ∧ W.cell? ⟨g, k * 4, none⟩ = some (.string y.pars[k].space) ∧ W.cell? ⟨g, k * 4 + 1, none⟩ = some (.string y.pars[k].name) ∧ W.cell? ⟨g, k * 4 + 2, none⟩ = some (.string y.pars[k].sect) ∧ W.cell? ⟨g, k * 4 + 3, none⟩ = some (.int .i64 y.pars[k].port) := by
  obtain ⟨b, h5⟩ := h.own.pars
  obtain ⟨g, cap, cur, hv, hz, _⟩ := row_block h5 (by omega)
  have ha : y.aq = some ⟨g, 0, none⟩ := by injection hv
  obtain ⟨_, g', off, ha', _, c0, c1, c2, c3⟩ := onePt h.own.at_.pars (Below.refl _ _) hk
  rw [ha] at ha'
  injection ha' with ha'
  injection ha' with e1 e2
  subst e1
  subst e2
  rw [Nat.zero_add] at c0 c1 c2 c3
  exact ⟨g, ha, liveN hz, c0, c1, c2, c3⟩

/-! ### the rules' backends -/
def fillV (sp : ByteArray) (r : RlV) : RlV := { r with bs := r.bs.map (Ob.fillB sp) }
def bkTo (sp : ByteArray) (r : RlV) (k : Nat) : List BkB := (r.bs.take k).map (Ob.fillB sp) ++ r.bs.drop k
def rlAt (y : OV) (i : Nat) : List RlV := (y.rules.take i).map (fillV y.ref.space) ++ y.rules.drop i
def rlTo (y : OV) (i k : Nat) (r : RlV) : List RlV := (y.rules.take i).map (fillV y.ref.space) ++ { r with bs := bkTo y.ref.space r k } :: y.rules.drop (i + 1)
theorem bkTo_len (sp : ByteArray) (r : RlV) (k : Nat) : (bkTo sp r k).length = r.bs.length := by unfold bkTo; simp; omega
theorem bkTo_zero (sp : ByteArray) (r : RlV) : bkTo sp r 0 = r.bs := by unfold bkTo; simp
theorem bkTo_end (sp : ByteArray) (r : RlV) : bkTo sp r r.bs.length = r.bs.map (Ob.fillB sp) := by unfold bkTo; simp
theorem bkTo_split {sp : ByteArray} {r : RlV} {k : Nat} (h : k < r.bs.length) : bkTo sp r k = (r.bs.take k).map (Ob.fillB sp) ++ r.bs[k] :: r.bs.drop (k + 1) := by
  unfold bkTo
  rw [List.drop_eq_getElem_cons h]
theorem bkTo_next {sp : ByteArray} {r : RlV} {k : Nat} (h : k < r.bs.length) : bkTo sp r (k + 1) = (r.bs.take k).map (Ob.fillB sp) ++ Ob.fillB sp r.bs[k] :: r.bs.drop (k + 1) := by
  unfold bkTo
  rw [List.take_succ_eq_append_getElem h, List.map_append, List.append_assoc]
  rfl
theorem bkTo_at {sp : ByteArray} {r : RlV} {k : Nat} (h : k < r.bs.length) : (bkTo sp r k)[k]'(by rw [bkTo_len]; exact h) = r.bs[k] := by
  simp only [bkTo_split h]
  rw [List.getElem_append_right (by simp; omega)]
  simp [Nat.min_eq_left (Nat.le_of_lt h)]
theorem rlAt_len (y : OV) (i : Nat) : (rlAt y i).length = y.rules.length := by unfold rlAt; simp; omega
theorem rlTo_len (y : OV) {i : Nat} (k : Nat) (r : RlV) (h : i < y.rules.length) : (rlTo y i k r).length = y.rules.length := by unfold rlTo; simp; omega
theorem rlAt_zero (y : OV) : rlAt y 0 = y.rules := by unfold rlAt; simp
theorem rlAt_end (y : OV) : rlAt y y.rules.length = y.rules.map (fillV y.ref.space) := by unfold rlAt; simp
theorem rlTo_zero {y : OV} {i : Nat} (h : i < y.rules.length) : rlTo y i 0 y.rules[i] = rlAt y i := by
  unfold rlTo rlAt
  rw [bkTo_zero, List.drop_eq_getElem_cons h]
theorem rlTo_end {y : OV} {i : Nat} (h : i < y.rules.length) : rlTo y i y.rules[i].bs.length y.rules[i] = rlAt y (i + 1) := by
  unfold rlTo rlAt
  rw [bkTo_end, List.take_succ_eq_append_getElem h, List.map_append, List.append_assoc]
  rfl
theorem rlTo_at {y : OV} {i k : Nat} {r : RlV} (h : i < y.rules.length) : (rlTo y i k r)[i]'(by rw [rlTo_len y k r h]; exact h) = { r with bs := bkTo y.ref.space r k } := by
  unfold rlTo
  rw [List.getElem_append_right (by simp; omega)]
  simp [Nat.min_eq_left (Nat.le_of_lt h)]
/-- where the law's rules lie, the i-th, and its backends -/
theorem NS.rl {w W : World} {B S : Nat} {v3 : Value} {L : List RfB} {y : OV} (h : NS w B S v3 L y W) {i : Nat} (hi : i < y.rules.length) :
    ∃ g, y.ar = some ⟨g, 0, none⟩ ∧ (∀ j, W.frozen? ⟨g, j, none⟩ = false) ∧ W.cell? ⟨g, i * 3 + 2, none⟩ = some (y.rules[i].vb) := by
  obtain ⟨b, h5⟩ := h.own.rules
  obtain ⟨g, cap, cur, hv, hz, _⟩ := row_block h5 (by omega)
  have ha : y.ar = some ⟨g, 0, none⟩ := by injection hv
  obtain ⟨_, g', off, ha', _, c0, c1, c2⟩ := oneRl h.own.at_.rules (Below.refl _ _) hi
  rw [ha] at ha'
  injection ha' with ha'
  injection ha' with e1 e2
  subst e1
  subst e2
  rw [Nat.zero_add] at c2
  exact ⟨g, ha, liveN hz, c2⟩
theorem NS.bk {w W : World} {B S : Nat} {v3 : Value} {L : List RfB} {y : OV} (h : NS w B S v3 L y W) {r : RlV} (hr : r ∈ y.rules) {k : Nat} (hk : k < r.bs.length) :
    ∃ g, r.ab = some ⟨g, 0, none⟩ ∧ (∀ j, W.frozen? ⟨g, j, none⟩ = false) ∧ W.cell? ⟨g, k * 5, none⟩ = some (.int .i64 r.bs[k].ref.kind) ∧ W.cell? ⟨g, k * 5 + 1, none⟩ = some (.string r.bs[k].ref.space) ∧ W.cell? ⟨g, k * 5 + 2, none⟩ = some (.string r.bs[k].ref.name) := by
  have ho := h.own.rulesA r hr
  obtain ⟨b, h5⟩ := ho.bs
  obtain ⟨g, cap, cur, hv, hz, _⟩ := row_block h5 (by omega)
  have ha : r.ab = some ⟨g, 0, none⟩ := by injection hv
  obtain ⟨_, g', off, ha', _, c0, c1, c2, _⟩ := oneK ho.at_.bs (Below.refl _ _) hk
  rw [ha] at ha'
  injection ha' with ha'
  injection ha' with e1 e2
  subst e1
  subst e2
  rw [Nat.zero_add] at c0 c1 c2
  exact ⟨g, ha, liveN hz, c0, c1, c2⟩

/-- what grows keeps it -/
theorem NS.below {w W W' : World} {B S : Nat} {v3 : Value} {L : List RfB} {y : OV} (h : NS w B S v3 L y W) (hb : Below W.heap.size W W') : NS w B S v3 L y W' :=
  ⟨h.own.below hb, blk_below h.box hb, h.ap, h.qn, h.qs, h.bs, h.was.below hb, h.wasS, bb2 h.bel hb⟩
/-- a backend's space, in the loops' words -/
theorem NS.step {w W : World} {B S g : Nat} {v3 : Value} {L : List RfB} {y : OV} {i k : Nat} {r : RlV} (h : NS w B S v3 L { y with rules := rlTo y i k r } W) (hk : k < r.bs.length) (ha : r.ab = some ⟨g, 0, none⟩) (he : Ob.e0 r.bs[k].ref.space = true) (h2 : 2 < r.bs[k].ref.kind) :
    NS w B S v3 L { y with rules := rlTo y i (k + 1) r } (setL W g (k * 5 + 1) [.string y.ref.space]) := by
  have hl : ((r.bs.take k).map (Ob.fillB y.ref.space)).length = k := by simp; omega
  have := NS.bak (r := { r with bs := bkTo y.ref.space r k }) h (A := (y.rules.take i).map (fillV y.ref.space)) (C := y.rules.drop (i + 1)) rfl (bkTo_split hk) ha y.ref.space
  rw [hl] at this
  have e : rlTo y i (k + 1) r = (y.rules.take i).map (fillV y.ref.space) ++ { r with bs := (r.bs.take k).map (Ob.fillB y.ref.space) ++ { r.bs[k] with ref := { r.bs[k].ref with space := y.ref.space } } :: r.bs.drop (k + 1) } :: y.rules.drop (i + 1) := by
    unfold rlTo
    rw [bkTo_next hk]
    have : Ob.fillB y.ref.space r.bs[k] = { r.bs[k] with ref := { r.bs[k].ref with space := y.ref.space } } := by
      unfold Ob.fillB
      rw [he, decide_eq_true h2]
      rfl
    rw [this]
  rw [e]
  exact this
theorem rlTo_keep {y : OV} {i k : Nat} {r : RlV} (hk : k < r.bs.length) (h : (Ob.e0 r.bs[k].ref.space && decide (2 < r.bs[k].ref.kind)) = false) : rlTo y i (k + 1) r = rlTo y i k r := by
  unfold rlTo
  rw [bkTo_next hk, bkTo_split hk]
  unfold Ob.fillB
  rw [h]
  rfl

end Go.Proofs.YthfnjcbiiofkhaaGreatDoor
