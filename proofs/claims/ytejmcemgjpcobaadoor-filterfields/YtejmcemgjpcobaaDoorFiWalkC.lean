/-
  Walks: what a filter does, each kind.
-/
import Derived.Test.YtejmcemgjpcobaaDoorFiWalkB
import Derived.Test.YtejmcemgjpcobaaDoorFiDeeds
import Derived.Test.YtejmcemgjpcobaaDoorPaWalkC
import Derived.Test.YtejmcemgjpcobaaDoorRuLawA
namespace Go.Proofs.YtejmcemgjpcobaaDoor
set_option maxRecDepth 20000
open Go Go.RowKit Go.Shelf Fi

set_option maxHeartbeats 800000 in
theorem clone_any (v : Value) (l : List PairB) (w : World) (hv : Prs w v l) (hl : l.length ≤ 1000) :
    Calls Tryd.prog 14 #[v] w fun e w' => ∃ v', e = .returned v' ∧ RowP w' v' l ∧ Below w.heap.size w w' := by
  have HV := hide hv
  have qS : ∀ (w : World) (a : Option Addr) (n c : Nat), (binOp .eql 25 (.slice a n c) (.slice none 0 0)).run Tryd.prog w = .ok (.bool a.isNone) w := fun w a n c => Lib.run_eql_slice_nil w _ _ a n c 0 0 Tryd.underlying25
  obtain ⟨a, cap, rfl, _, _, hc⟩ := hv
  cases a with
  | none =>
    have : l = [] := by
      cases l with
      | nil => rfl
      | cons p l =>
        obtain ⟨g, off, h1, _⟩ := hc 0 (by simp)
        exact absurd h1 (by simp)
    subst this
    clear hc
    go_enter Tryd.func14, Tryd.ntmps14
    go_wp2_with fail
    go_ret
    exact ⟨_, rfl, ⟨w.heap.size, World.ownsRow_nil _ _ _ _⟩, Below.refl _ _⟩
  | some ad =>
    clear hc
    go_enter Tryd.func14, Tryd.ntmps14
    go_wp2_with (at_builtin; refine wpList_append_prs _ _ _ rfl (by rfl) w.heap.size _ _ [] rfl (owns_emptyT _ _ _ _ rfl) _ _ rfl (HV.out.below ((Below.refl _ _).alloc (Nat.le_refl _) _)) (by omega) (by simp) ?_; intro v' w3 hown' hgrow)
    go_ret
    refine ⟨_, rfl, RowP.mk (by simp) hown', ((Below.refl _ _).alloc (Nat.le_refl _) _).grown hgrow (by simp) (fun j e => ?_)⟩
    have := ownBlock_ge (owns_emptyT 48 2 w w.heap.size rfl) e
    simpa using this

/-- a filter's own host, or the one that was asked for -/
def hostOf (f : FB) (a : ByteArray) : ByteArray := if e0 f.host then a else f.host
set_option maxHeartbeats 800000 in
theorem host_any (f : FB) (a : ByteArray) (w : World) :
    Calls Tryd.prog 32 #[fV f, .string a] w fun e w' => e = .returned (.string (hostOf f a)) ∧ Below w.heap.size w w' := by
  have HE := @tl_emp f.host
  have HR : Hid (hostOf f a = if f.host.toList.isEmpty then a else f.host) := by rw [HE]; rfl
  clear HE
  generalize hostOf f a = r at *
  obtain ⟨k, n, v, h, p, t, b, c⟩ := f
  dsimp only at *
  cases he : h.toList.isEmpty
  · rw [he] at HR
    go_enter Tryd.func32, Tryd.ntmps32
    go_wp2_with fail
    go_ret
    exact ⟨ret_str HR.out.symm, (Below.refl _ _).alloc (Nat.le_refl _) _⟩
  · rw [he] at HR
    go_enter Tryd.func32, Tryd.ntmps32
    go_wp2_with fail
    go_ret
    exact ⟨ret_str HR.out.symm, (Below.refl _ _).alloc (Nat.le_refl _) _⟩

set_option maxHeartbeats 1600000 in
theorem becomes_any (f : FB) (pk : Int) (pv s : ByteArray) (w : World) (ok : OkFi f) (hv : pv.size ≤ maxLen) (hs : s.size ≤ maxLen) :
    Calls Tryd.prog 30 #[fV f, .agg #[.int .i64 pk, .string pv], .string s] w fun e w' => e = .returned (.tuple #[.string (becT f pk pv s), .int .i64 (becE f pk pv s)]) ∧ Below w.heap.size w w' := by
  have HE := @tl_emp f.path
  have HT : Hid (becT f pk pv s = if f.path.toList.isEmpty then s else if f.whole || pk == 1 then f.path else mkB (swapT pk (dl pv) (dl f.path) (dl s))) := by rw [HE]; rfl
  have HN : Hid (becE f pk pv s = if f.path.toList.isEmpty then 0 else if f.whole || pk == 1 then 0 else swapE pk (dl pv) (dl f.path) (dl s)) := by rw [HE]; rfl
  have C1 := fun W => hide (pswap_any pk pv f.path s W hv (small_len (by have := ok.path; omega)) hs)
  clear HE ok
  generalize becT f pk pv s = x at *
  generalize becE f pk pv s = y at *
  obtain ⟨k, n, v, h, p, t, b, c⟩ := f
  dsimp only at *
  generalize swapT pk (dl pv) (dl t) (dl s) = x1 at *
  generalize swapE pk (dl pv) (dl t) (dl s) = y1 at *
  cases he : t.toList.isEmpty
  · rw [he] at HT HN
    cases b
    · cases hk : (pk == 1)
      · rw [hk] at HT HN
        go_enter Tryd.func30, Tryd.ntmps30
        go_wp2_with fail
        refine ((C1 _).out).mono ?_
        rintro e w1 ⟨rfl, hb1⟩
        go_wp2_with fail
        go_ret2
        exact ⟨ret_two HT.out.symm HN.out.symm, below_b2 hb1⟩
      · rw [hk] at HT HN
        go_enter Tryd.func30, Tryd.ntmps30
        go_wp2_with fail
        go_ret2
        exact ⟨ret_two HT.out.symm HN.out.symm, ((Below.refl _ _).alloc (Nat.le_refl _) _).alloc (by simp) _⟩
    · go_enter Tryd.func30, Tryd.ntmps30
      go_wp2_with fail
      go_ret2
      exact ⟨ret_two HT.out.symm HN.out.symm, ((Below.refl _ _).alloc (Nat.le_refl _) _).alloc (by simp) _⟩
  · rw [he] at HT HN
    go_enter Tryd.func30, Tryd.ntmps30
    go_wp2_with fail
    go_ret2
    exact ⟨ret_two HT.out.symm HN.out.symm, ((Below.refl _ _).alloc (Nat.le_refl _) _).alloc (by simp) _⟩

/-- a request that a filter made, and its error -/
abbrev rqE (y : RV) (n : Int) : Ending := .returned (.tuple #[rV y.r y.vq y.vh, .int .i64 n])
theorem below4 {w : World} (o1 o2 o3 o4 : Obj) : Below w.heap.size w ((((w.alloc o1).alloc o2).alloc o3).alloc o4) :=
  ((((Below.refl _ _).alloc (Nat.le_refl _) _).alloc (by simp) _).alloc (by simp; omega) _).alloc (by simp; omega) _
/-- the third and the fourth of four boxes -/
theorem box34 {w W : World} {o1 o2 o3 o4 : Obj} (h : Below ((((w.alloc o1).alloc o2).alloc o3).alloc o4).heap.size ((((w.alloc o1).alloc o2).alloc o3).alloc o4) W) : W.heap[w.heap.size + 1 + 1]? = some o3 ∧ W.heap[w.heap.size + 1 + 1 + 1]? = some o4 := by
  have h3 := alloc_new ((w.alloc o1).alloc o2) o3
  have h4 := alloc_new (((w.alloc o1).alloc o2).alloc o3) o4
  simp only [World.size_alloc] at h3 h4
  refine ⟨(h.block _ (by simp)).trans ?_, (h.block _ (by simp)).trans h4⟩
  rw [Below.heap_alloc _ _ _ (by simp)]
  exact h3
/-- one cell of a block -/
theorem set_blk {W : World} {g t i : Nat} {cs : Array Value} (c : Value) (h : W.heap[g]? = some (.cells cs t)) : (W.setCell ⟨g, i, none⟩ c).heap[g]? = some (.cells (cs.setIfInBounds i c) t) := by
  obtain ⟨hlt, hk⟩ := Array.getElem?_eq_some_iff.1 h
  show (W.heap.modify g _)[g]? = _
  rw [Array.getElem?_eq_getElem (by rw [Array.size_modify]; exact hlt), Array.getElem_modify_self, hk]
  rfl
theorem bel13 {w W : World} {o1 o2 o3 o4 : Obj} (h : Below ((((w.alloc o1).alloc o2).alloc o3).alloc o4).heap.size ((((w.alloc o1).alloc o2).alloc o3).alloc o4) W) : Below (w.alloc o1).heap.size (w.alloc o1) W :=
  ((((Below.refl _ _).alloc (Nat.le_refl _) _).alloc (by simp) _).alloc (by simp) _).trans (h.mono (by simp))
/-- no request -/
def zeroRV : RV := ⟨zeroR, none, 0, none, 0⟩
theorem zeroRV_own (w : World) : zeroRV.own w := ⟨⟨w.heap.size, World.ownsRow_nil _ _ _ _⟩, w.heap.size, World.ownsRow_nil _ _ _ _⟩
theorem add_own (n x : ByteArray) (v : Value) (l : List PairB) (w : World) (hv : Prs w v l) (hl : l.length ≤ 1000) :
    Calls Tryd.prog 41 #[v, .string n, .string x] w fun e w' => ∃ v', e = .returned v' ∧ RowP w' v' (l ++ [(n, x)]) ∧ Below w.heap.size w w' :=
  (add_any n x v l w hv hl).mono fun _ _ ⟨v', he, hr, hb⟩ => ⟨v', he, RowP.mk (by simp) hr, hb⟩

set_option maxHeartbeats 1600000 in
theorem set_deed (f : FB) (pk : Int) (pv : ByteArray) (x : RV) (w : World) (ok : OkFi f) (hx : x.own w) (okh : ∀ p ∈ x.r.head, okP p) (hlh : x.r.head.length ≤ 1000) :
    Calls Tryd.prog 23 #[fV f, .agg #[.int .i64 pk, .string pv], rV x.r x.vq x.vh] w fun e w' => ∃ y : RV, e = rqE y 0 ∧ y.r = { x.r with head := setQ x.r.head f.name f.val } ∧ y.own w' ∧ Below w.heap.size w w' := by
  obtain ⟨⟨rm, rho, rp, qu, hd⟩, aq, cq, ah, ch⟩ := x
  obtain ⟨⟨bq, hq⟩, bh, hh⟩ := hx
  obtain ⟨k, n, v, h, p, t, b, c⟩ := f
  have C1 := hide (set_own n v (.slice ah hd.length ch) hd ((((w.alloc (.cells #[.int .i64 k, .string n, .string v, .string h, .int .i64 p, .string t, .bool b, .int .i64 c] 52)).alloc (.cells #[.int .i64 pk, .string pv] 24)).alloc (.cells #[.string rm, .string rho, .string rp, .slice aq qu.length cq, .slice ah hd.length ch] 27)).alloc (.cells #[.string ⟨#[]⟩, .string ⟨#[]⟩, .string ⟨#[]⟩, .slice none 0 0, .slice none 0 0] 27)) (small_len (by have := ok.name; dsimp only at this; omega)) ((Prs.of_row rfl hh).below (below4 _ _ _ _)) okh hlh)
  have HQ := hide hq
  have B0 := below4 (w := w) (.cells #[.int .i64 k, .string n, .string v, .string h, .int .i64 p, .string t, .bool b, .int .i64 c] 52) (.cells #[.int .i64 pk, .string pv] 24) (.cells #[.string rm, .string rho, .string rp, .slice aq qu.length cq, .slice ah hd.length ch] 27) (.cells #[.string ⟨#[]⟩, .string ⟨#[]⟩, .string ⟨#[]⟩, .slice none 0 0, .slice none 0 0] 27)
  clear hq hh ok okh
  dsimp only at *
  generalize setQ hd n v = nl at *
  go_enter Tryd.func23, Tryd.ntmps23
  go_wp2_with fail
  refine C1.out.mono ?_
  rintro e w1 ⟨v1, rfl, ⟨b1, hr1⟩, hb1⟩
  obtain ⟨a1, c1, hv1⟩ := row_form hr1
  subst hv1
  obtain ⟨k2, k3⟩ := box34 hb1
  have l24 := liveN k2 4
  have x24 := cellN k2 (i := 4) rfl
  have K2 := hide (set_blk (i := 4) (.slice a1 nl.length c1) k2)
  have K3 := hide ((setL_far (g := w.heap.size + 1 + 1) (m := w.heap.size + 1 + 1 + 1) (by omega) [.slice a1 nl.length c1] w1 4).trans k3)
  have R1 := hide (row_setL (cs := [.slice a1 nl.length c1]) (k := 4) hr1 k2 (by decide))
  obtain ⟨d0, d1, d2, d3, d4⟩ : _ ∧ _ ∧ _ ∧ _ ∧ _ := ⟨cellN K2.out (i := 0) rfl, cellN K2.out (i := 1) rfl, cellN K2.out (i := 2) rfl, cellN K2.out (i := 3) rfl, cellN K2.out (i := 4) rfl⟩
  have l3 : ∀ i, (w1.setCell ⟨w.heap.size + 1 + 1, 4, none⟩ (.slice a1 nl.length c1)).frozen? ⟨w.heap.size + 1 + 1 + 1, i, none⟩ = false := liveN K3.out
  obtain ⟨z0, z1, z2, z3, z4⟩ : (w1.setCell ⟨w.heap.size + 1 + 1, 4, none⟩ (.slice a1 nl.length c1)).cell? ⟨w.heap.size + 1 + 1 + 1, 0, none⟩ = _ ∧ (w1.setCell ⟨w.heap.size + 1 + 1, 4, none⟩ (.slice a1 nl.length c1)).cell? ⟨w.heap.size + 1 + 1 + 1, 1, none⟩ = _ ∧ (w1.setCell ⟨w.heap.size + 1 + 1, 4, none⟩ (.slice a1 nl.length c1)).cell? ⟨w.heap.size + 1 + 1 + 1, 2, none⟩ = _ ∧ (w1.setCell ⟨w.heap.size + 1 + 1, 4, none⟩ (.slice a1 nl.length c1)).cell? ⟨w.heap.size + 1 + 1 + 1, 3, none⟩ = _ ∧ (w1.setCell ⟨w.heap.size + 1 + 1, 4, none⟩ (.slice a1 nl.length c1)).cell? ⟨w.heap.size + 1 + 1 + 1, 4, none⟩ = _ := ⟨cellN K3.out (i := 0) rfl, cellN K3.out (i := 1) rfl, cellN K3.out (i := 2) rfl, cellN K3.out (i := 3) rfl, cellN K3.out (i := 4) rfl⟩
  have BB := hide ((bb2 B0 hb1).setCell (p := ⟨w.heap.size + 1 + 1, 4, none⟩) (by simp; omega) (.slice a1 nl.length c1))
  clear k2 k3 hr1 hb1 B0 C1
  go_wp2_with fail
  have K4 := setL_all [.string rm, .string rho, .string rp, .slice aq qu.length cq, .slice a1 nl.length c1] K3.out rfl
  have R2 := row_setL (cs := [.string rm, .string rho, .string rp, .slice aq qu.length cq, .slice a1 nl.length c1]) (k := 0) R1.out K3.out (by decide)
  have S1 := setL_below (w := w) (B := w.heap.size) (g := w.heap.size + 1 + 1 + 1) (by omega) [.string rm, .string rho, .string rp, .slice aq qu.length cq, .slice a1 nl.length c1] _ 0 BB.out
  change bodyPost _ _ _ _ _ (setL (w1.setCell ⟨w.heap.size + 1 + 1, 4, none⟩ (.slice a1 nl.length c1)) (w.heap.size + 1 + 1 + 1) 0 [.string rm, .string rho, .string rp, .slice aq qu.length cq, .slice a1 nl.length c1])
  change (setL (w1.setCell ⟨w.heap.size + 1 + 1, 4, none⟩ (.slice a1 nl.length c1)) (w.heap.size + 1 + 1 + 1) 0 [.string rm, .string rho, .string rp, .slice aq qu.length cq, .slice a1 nl.length c1]).ownsRow _ _ _ _ _ _ at R2
  change Below _ _ (setL (w1.setCell ⟨w.heap.size + 1 + 1, 4, none⟩ (.slice a1 nl.length c1)) (w.heap.size + 1 + 1 + 1) 0 [.string rm, .string rho, .string rp, .slice aq qu.length cq, .slice a1 nl.length c1]) at S1
  change (setL (w1.setCell ⟨w.heap.size + 1 + 1, 4, none⟩ (.slice a1 nl.length c1)) (w.heap.size + 1 + 1 + 1) 0 [.string rm, .string rho, .string rp, .slice aq qu.length cq, .slice a1 nl.length c1]).heap[_]? = _ at K4
  generalize setL (w1.setCell ⟨w.heap.size + 1 + 1, 4, none⟩ (.slice a1 nl.length c1)) (w.heap.size + 1 + 1 + 1) 0 [.string rm, .string rho, .string rp, .slice aq qu.length cq, .slice a1 nl.length c1] = W3 at *
  obtain ⟨e0, e1, e2, e3, e4⟩ : _ ∧ _ ∧ _ ∧ _ ∧ _ := ⟨cellN K4 (i := 0) rfl, cellN K4 (i := 1) rfl, cellN K4 (i := 2) rfl, cellN K4 (i := 3) rfl, cellN K4 (i := 4) rfl⟩
  exact bodyPost_ret (v := .tuple #[.agg #[.string rm, .string rho, .string rp, .slice aq qu.length cq, .slice a1 nl.length c1], .int .i64 0]) (by simp [results, Tryd.f23, go_sem, e0, e1, e2, e3, e4]) rfl ⟨⟨⟨rm, rho, rp, qu, nl⟩, aq, cq, a1, c1⟩, rfl, rfl, ⟨⟨bq, ownsRow_below HQ.out S1⟩, _, R2⟩, S1⟩

set_option maxHeartbeats 1600000 in
theorem add_deed (f : FB) (pk : Int) (pv : ByteArray) (x : RV) (w : World) (ok : OkFi f) (hx : x.own w) (okh : ∀ p ∈ x.r.head, okP p) (hlh : x.r.head.length ≤ 1000) :
    Calls Tryd.prog 24 #[fV f, .agg #[.int .i64 pk, .string pv], rV x.r x.vq x.vh] w fun e w' => ∃ y : RV, e = rqE y 0 ∧ y.r = { x.r with head := x.r.head ++ [(f.name, f.val)] } ∧ y.own w' ∧ Below w.heap.size w w' := by
  obtain ⟨⟨rm, rho, rp, qu, hd⟩, aq, cq, ah, ch⟩ := x
  obtain ⟨⟨bq, hq⟩, bh, hh⟩ := hx
  obtain ⟨k, n, v, h, p, t, b, c⟩ := f
  have C1 := hide (add_own n v (.slice ah hd.length ch) hd ((((w.alloc (.cells #[.int .i64 k, .string n, .string v, .string h, .int .i64 p, .string t, .bool b, .int .i64 c] 52)).alloc (.cells #[.int .i64 pk, .string pv] 24)).alloc (.cells #[.string rm, .string rho, .string rp, .slice aq qu.length cq, .slice ah hd.length ch] 27)).alloc (.cells #[.string ⟨#[]⟩, .string ⟨#[]⟩, .string ⟨#[]⟩, .slice none 0 0, .slice none 0 0] 27)) ((Prs.of_row rfl hh).below (below4 _ _ _ _)) hlh)
  have HQ := hide hq
  have B0 := below4 (w := w) (.cells #[.int .i64 k, .string n, .string v, .string h, .int .i64 p, .string t, .bool b, .int .i64 c] 52) (.cells #[.int .i64 pk, .string pv] 24) (.cells #[.string rm, .string rho, .string rp, .slice aq qu.length cq, .slice ah hd.length ch] 27) (.cells #[.string ⟨#[]⟩, .string ⟨#[]⟩, .string ⟨#[]⟩, .slice none 0 0, .slice none 0 0] 27)
  clear hq hh ok okh
  dsimp only at *
  generalize hd ++ [(n, v)] = nl at *
  go_enter Tryd.func24, Tryd.ntmps24
  go_wp2_with fail
  refine C1.out.mono ?_
  rintro e w1 ⟨v1, rfl, ⟨b1, hr1⟩, hb1⟩
  obtain ⟨a1, c1, hv1⟩ := row_form hr1
  subst hv1
  obtain ⟨k2, k3⟩ := box34 hb1
  have l24 := liveN k2 4
  have x24 := cellN k2 (i := 4) rfl
  have K2 := hide (set_blk (i := 4) (.slice a1 nl.length c1) k2)
  have K3 := hide ((setL_far (g := w.heap.size + 1 + 1) (m := w.heap.size + 1 + 1 + 1) (by omega) [.slice a1 nl.length c1] w1 4).trans k3)
  have R1 := hide (row_setL (cs := [.slice a1 nl.length c1]) (k := 4) hr1 k2 (by decide))
  obtain ⟨d0, d1, d2, d3, d4⟩ : _ ∧ _ ∧ _ ∧ _ ∧ _ := ⟨cellN K2.out (i := 0) rfl, cellN K2.out (i := 1) rfl, cellN K2.out (i := 2) rfl, cellN K2.out (i := 3) rfl, cellN K2.out (i := 4) rfl⟩
  have l3 : ∀ i, (w1.setCell ⟨w.heap.size + 1 + 1, 4, none⟩ (.slice a1 nl.length c1)).frozen? ⟨w.heap.size + 1 + 1 + 1, i, none⟩ = false := liveN K3.out
  obtain ⟨z0, z1, z2, z3, z4⟩ : (w1.setCell ⟨w.heap.size + 1 + 1, 4, none⟩ (.slice a1 nl.length c1)).cell? ⟨w.heap.size + 1 + 1 + 1, 0, none⟩ = _ ∧ (w1.setCell ⟨w.heap.size + 1 + 1, 4, none⟩ (.slice a1 nl.length c1)).cell? ⟨w.heap.size + 1 + 1 + 1, 1, none⟩ = _ ∧ (w1.setCell ⟨w.heap.size + 1 + 1, 4, none⟩ (.slice a1 nl.length c1)).cell? ⟨w.heap.size + 1 + 1 + 1, 2, none⟩ = _ ∧ (w1.setCell ⟨w.heap.size + 1 + 1, 4, none⟩ (.slice a1 nl.length c1)).cell? ⟨w.heap.size + 1 + 1 + 1, 3, none⟩ = _ ∧ (w1.setCell ⟨w.heap.size + 1 + 1, 4, none⟩ (.slice a1 nl.length c1)).cell? ⟨w.heap.size + 1 + 1 + 1, 4, none⟩ = _ := ⟨cellN K3.out (i := 0) rfl, cellN K3.out (i := 1) rfl, cellN K3.out (i := 2) rfl, cellN K3.out (i := 3) rfl, cellN K3.out (i := 4) rfl⟩
  have BB := hide ((bb2 B0 hb1).setCell (p := ⟨w.heap.size + 1 + 1, 4, none⟩) (by simp; omega) (.slice a1 nl.length c1))
  clear k2 k3 hr1 hb1 B0 C1
  go_wp2_with fail
  have K4 := setL_all [.string rm, .string rho, .string rp, .slice aq qu.length cq, .slice a1 nl.length c1] K3.out rfl
  have R2 := row_setL (cs := [.string rm, .string rho, .string rp, .slice aq qu.length cq, .slice a1 nl.length c1]) (k := 0) R1.out K3.out (by decide)
  have S1 := setL_below (w := w) (B := w.heap.size) (g := w.heap.size + 1 + 1 + 1) (by omega) [.string rm, .string rho, .string rp, .slice aq qu.length cq, .slice a1 nl.length c1] _ 0 BB.out
  change bodyPost _ _ _ _ _ (setL (w1.setCell ⟨w.heap.size + 1 + 1, 4, none⟩ (.slice a1 nl.length c1)) (w.heap.size + 1 + 1 + 1) 0 [.string rm, .string rho, .string rp, .slice aq qu.length cq, .slice a1 nl.length c1])
  change (setL (w1.setCell ⟨w.heap.size + 1 + 1, 4, none⟩ (.slice a1 nl.length c1)) (w.heap.size + 1 + 1 + 1) 0 [.string rm, .string rho, .string rp, .slice aq qu.length cq, .slice a1 nl.length c1]).ownsRow _ _ _ _ _ _ at R2
  change Below _ _ (setL (w1.setCell ⟨w.heap.size + 1 + 1, 4, none⟩ (.slice a1 nl.length c1)) (w.heap.size + 1 + 1 + 1) 0 [.string rm, .string rho, .string rp, .slice aq qu.length cq, .slice a1 nl.length c1]) at S1
  change (setL (w1.setCell ⟨w.heap.size + 1 + 1, 4, none⟩ (.slice a1 nl.length c1)) (w.heap.size + 1 + 1 + 1) 0 [.string rm, .string rho, .string rp, .slice aq qu.length cq, .slice a1 nl.length c1]).heap[_]? = _ at K4
  generalize setL (w1.setCell ⟨w.heap.size + 1 + 1, 4, none⟩ (.slice a1 nl.length c1)) (w.heap.size + 1 + 1 + 1) 0 [.string rm, .string rho, .string rp, .slice aq qu.length cq, .slice a1 nl.length c1] = W3 at *
  obtain ⟨e0, e1, e2, e3, e4⟩ : _ ∧ _ ∧ _ ∧ _ ∧ _ := ⟨cellN K4 (i := 0) rfl, cellN K4 (i := 1) rfl, cellN K4 (i := 2) rfl, cellN K4 (i := 3) rfl, cellN K4 (i := 4) rfl⟩
  exact bodyPost_ret (v := .tuple #[.agg #[.string rm, .string rho, .string rp, .slice aq qu.length cq, .slice a1 nl.length c1], .int .i64 0]) (by simp [results, Tryd.f24, go_sem, e0, e1, e2, e3, e4]) rfl ⟨⟨⟨rm, rho, rp, qu, nl⟩, aq, cq, a1, c1⟩, rfl, rfl, ⟨⟨bq, ownsRow_below HQ.out S1⟩, _, R2⟩, S1⟩

set_option maxHeartbeats 1600000 in
theorem drop_deed (f : FB) (pk : Int) (pv : ByteArray) (x : RV) (w : World) (ok : OkFi f) (hx : x.own w) (okh : ∀ p ∈ x.r.head, okP p) (hlh : x.r.head.length ≤ 1000) :
    Calls Tryd.prog 25 #[fV f, .agg #[.int .i64 pk, .string pv], rV x.r x.vq x.vh] w fun e w' => ∃ y : RV, e = rqE y 0 ∧ y.r = { x.r with head := dropQ x.r.head f.name } ∧ y.own w' ∧ Below w.heap.size w w' := by
  obtain ⟨⟨rm, rho, rp, qu, hd⟩, aq, cq, ah, ch⟩ := x
  obtain ⟨⟨bq, hq⟩, bh, hh⟩ := hx
  obtain ⟨k, n, v, h, p, t, b, c⟩ := f
  have C1 := hide (drop_own n (.slice ah hd.length ch) hd ((((w.alloc (.cells #[.int .i64 k, .string n, .string v, .string h, .int .i64 p, .string t, .bool b, .int .i64 c] 52)).alloc (.cells #[.int .i64 pk, .string pv] 24)).alloc (.cells #[.string rm, .string rho, .string rp, .slice aq qu.length cq, .slice ah hd.length ch] 27)).alloc (.cells #[.string ⟨#[]⟩, .string ⟨#[]⟩, .string ⟨#[]⟩, .slice none 0 0, .slice none 0 0] 27)) (small_len (by have := ok.name; dsimp only at this; omega)) ((Prs.of_row rfl hh).below (below4 _ _ _ _)) okh hlh)
  have HQ := hide hq
  have B0 := below4 (w := w) (.cells #[.int .i64 k, .string n, .string v, .string h, .int .i64 p, .string t, .bool b, .int .i64 c] 52) (.cells #[.int .i64 pk, .string pv] 24) (.cells #[.string rm, .string rho, .string rp, .slice aq qu.length cq, .slice ah hd.length ch] 27) (.cells #[.string ⟨#[]⟩, .string ⟨#[]⟩, .string ⟨#[]⟩, .slice none 0 0, .slice none 0 0] 27)
  clear hq hh ok okh
  dsimp only at *
  generalize dropQ hd n = nl at *
  go_enter Tryd.func25, Tryd.ntmps25
  go_wp2_with fail
  refine C1.out.mono ?_
  rintro e w1 ⟨v1, rfl, ⟨b1, hr1⟩, hb1⟩
  obtain ⟨a1, c1, hv1⟩ := row_form hr1
  subst hv1
  obtain ⟨k2, k3⟩ := box34 hb1
  have l24 := liveN k2 4
  have x24 := cellN k2 (i := 4) rfl
  have K2 := hide (set_blk (i := 4) (.slice a1 nl.length c1) k2)
  have K3 := hide ((setL_far (g := w.heap.size + 1 + 1) (m := w.heap.size + 1 + 1 + 1) (by omega) [.slice a1 nl.length c1] w1 4).trans k3)
  have R1 := hide (row_setL (cs := [.slice a1 nl.length c1]) (k := 4) hr1 k2 (by decide))
  obtain ⟨d0, d1, d2, d3, d4⟩ : _ ∧ _ ∧ _ ∧ _ ∧ _ := ⟨cellN K2.out (i := 0) rfl, cellN K2.out (i := 1) rfl, cellN K2.out (i := 2) rfl, cellN K2.out (i := 3) rfl, cellN K2.out (i := 4) rfl⟩
  have l3 : ∀ i, (w1.setCell ⟨w.heap.size + 1 + 1, 4, none⟩ (.slice a1 nl.length c1)).frozen? ⟨w.heap.size + 1 + 1 + 1, i, none⟩ = false := liveN K3.out
  obtain ⟨z0, z1, z2, z3, z4⟩ : (w1.setCell ⟨w.heap.size + 1 + 1, 4, none⟩ (.slice a1 nl.length c1)).cell? ⟨w.heap.size + 1 + 1 + 1, 0, none⟩ = _ ∧ (w1.setCell ⟨w.heap.size + 1 + 1, 4, none⟩ (.slice a1 nl.length c1)).cell? ⟨w.heap.size + 1 + 1 + 1, 1, none⟩ = _ ∧ (w1.setCell ⟨w.heap.size + 1 + 1, 4, none⟩ (.slice a1 nl.length c1)).cell? ⟨w.heap.size + 1 + 1 + 1, 2, none⟩ = _ ∧ (w1.setCell ⟨w.heap.size + 1 + 1, 4, none⟩ (.slice a1 nl.length c1)).cell? ⟨w.heap.size + 1 + 1 + 1, 3, none⟩ = _ ∧ (w1.setCell ⟨w.heap.size + 1 + 1, 4, none⟩ (.slice a1 nl.length c1)).cell? ⟨w.heap.size + 1 + 1 + 1, 4, none⟩ = _ := ⟨cellN K3.out (i := 0) rfl, cellN K3.out (i := 1) rfl, cellN K3.out (i := 2) rfl, cellN K3.out (i := 3) rfl, cellN K3.out (i := 4) rfl⟩
  have BB := hide ((bb2 B0 hb1).setCell (p := ⟨w.heap.size + 1 + 1, 4, none⟩) (by simp; omega) (.slice a1 nl.length c1))
  clear k2 k3 hr1 hb1 B0 C1
  go_wp2_with fail
  have K4 := setL_all [.string rm, .string rho, .string rp, .slice aq qu.length cq, .slice a1 nl.length c1] K3.out rfl
  have R2 := row_setL (cs := [.string rm, .string rho, .string rp, .slice aq qu.length cq, .slice a1 nl.length c1]) (k := 0) R1.out K3.out (by decide)
  have S1 := setL_below (w := w) (B := w.heap.size) (g := w.heap.size + 1 + 1 + 1) (by omega) [.string rm, .string rho, .string rp, .slice aq qu.length cq, .slice a1 nl.length c1] _ 0 BB.out
  change bodyPost _ _ _ _ _ (setL (w1.setCell ⟨w.heap.size + 1 + 1, 4, none⟩ (.slice a1 nl.length c1)) (w.heap.size + 1 + 1 + 1) 0 [.string rm, .string rho, .string rp, .slice aq qu.length cq, .slice a1 nl.length c1])
  change (setL (w1.setCell ⟨w.heap.size + 1 + 1, 4, none⟩ (.slice a1 nl.length c1)) (w.heap.size + 1 + 1 + 1) 0 [.string rm, .string rho, .string rp, .slice aq qu.length cq, .slice a1 nl.length c1]).ownsRow _ _ _ _ _ _ at R2
  change Below _ _ (setL (w1.setCell ⟨w.heap.size + 1 + 1, 4, none⟩ (.slice a1 nl.length c1)) (w.heap.size + 1 + 1 + 1) 0 [.string rm, .string rho, .string rp, .slice aq qu.length cq, .slice a1 nl.length c1]) at S1
  change (setL (w1.setCell ⟨w.heap.size + 1 + 1, 4, none⟩ (.slice a1 nl.length c1)) (w.heap.size + 1 + 1 + 1) 0 [.string rm, .string rho, .string rp, .slice aq qu.length cq, .slice a1 nl.length c1]).heap[_]? = _ at K4
  generalize setL (w1.setCell ⟨w.heap.size + 1 + 1, 4, none⟩ (.slice a1 nl.length c1)) (w.heap.size + 1 + 1 + 1) 0 [.string rm, .string rho, .string rp, .slice aq qu.length cq, .slice a1 nl.length c1] = W3 at *
  obtain ⟨e0, e1, e2, e3, e4⟩ : _ ∧ _ ∧ _ ∧ _ ∧ _ := ⟨cellN K4 (i := 0) rfl, cellN K4 (i := 1) rfl, cellN K4 (i := 2) rfl, cellN K4 (i := 3) rfl, cellN K4 (i := 4) rfl⟩
  exact bodyPost_ret (v := .tuple #[.agg #[.string rm, .string rho, .string rp, .slice aq qu.length cq, .slice a1 nl.length c1], .int .i64 0]) (by simp [results, Tryd.f25, go_sem, e0, e1, e2, e3, e4]) rfl ⟨⟨⟨rm, rho, rp, qu, nl⟩, aq, cq, a1, c1⟩, rfl, rfl, ⟨⟨bq, ownsRow_below HQ.out S1⟩, _, R2⟩, S1⟩

set_option maxHeartbeats 1600000 in
theorem keep_deed (f : FB) (pk : Int) (pv : ByteArray) (x : RV) (w : World) (hx : x.own w) :
    Calls Tryd.prog 26 #[fV f, .agg #[.int .i64 pk, .string pv], rV x.r x.vq x.vh] w fun e w' => ∃ y : RV, e = rqE y 0 ∧ y.r = x.r ∧ y.own w' ∧ Below w.heap.size w w' := by
  obtain ⟨⟨rm, rho, rp, qu, hd⟩, aq, cq, ah, ch⟩ := x
  obtain ⟨⟨bq, hq⟩, bh, hh⟩ := hx
  obtain ⟨k, n, v, h, p, t, b, c⟩ := f
  have HQ := hide hq
  have HH := hide hh
  clear hq hh
  dsimp only at *
  go_enter Tryd.func26, Tryd.ntmps26
  go_wp2_with fail
  exact bodyPost_ret (v := .tuple #[.agg #[.string rm, .string rho, .string rp, .slice aq qu.length cq, .slice ah hd.length ch], .int .i64 0]) (by simp [results, Tryd.f26, go_sem]) rfl ⟨⟨⟨rm, rho, rp, qu, hd⟩, aq, cq, ah, ch⟩, rfl, rfl, ⟨⟨bq, ownsRow_below HQ.out (below4 _ _ _ _)⟩, bh, ownsRow_below HH.out (below4 _ _ _ _)⟩, below4 _ _ _ _⟩

set_option maxHeartbeats 1600000 in
theorem swap_deed (f : FB) (pk : Int) (pv : ByteArray) (x : RV) (w : World) (ok : OkFi f) (hv : pv.size ≤ maxLen) (hp : x.r.path.size ≤ maxLen) (hx : x.own w) :
    Calls Tryd.prog 27 #[fV f, .agg #[.int .i64 pk, .string pv], rV x.r x.vq x.vh] w fun e w' => ∃ y : RV, e = rqE y (becE f pk pv x.r.path) ∧ y.r = (if becE f pk pv x.r.path = 0 then { x.r with host := hostOf f x.r.host, path := becT f pk pv x.r.path } else zeroR) ∧ y.own w' ∧ Below w.heap.size w w' := by
  have C1 := fun W => hide (becomes_any f pk pv x.r.path W ok hv hp)
  have C2 := fun W => hide (host_any f x.r.host W)
  generalize becE f pk pv x.r.path = be at *
  generalize becT f pk pv x.r.path = bt at *
  generalize hostOf f x.r.host = hs at *
  obtain ⟨⟨rm, rho, rp, qu, hd⟩, aq, cq, ah, ch⟩ := x
  obtain ⟨⟨bq, hq⟩, bh, hh⟩ := hx
  obtain ⟨k, n, v, h, p, t, b, c⟩ := f
  have HQ := hide hq
  have HH := hide hh
  have B0 := below4 (w := w) (.cells #[.int .i64 k, .string n, .string v, .string h, .int .i64 p, .string t, .bool b, .int .i64 c] 52) (.cells #[.int .i64 pk, .string pv] 24) (.cells #[.string rm, .string rho, .string rp, .slice aq qu.length cq, .slice ah hd.length ch] 27) (.cells #[.string ⟨#[]⟩, .string ⟨#[]⟩, .string ⟨#[]⟩, .slice none 0 0, .slice none 0 0] 27)
  clear hq hh ok hv hp
  dsimp only at *
  by_cases he : be = 0
  · rw [if_pos he]
    subst he
    go_enter Tryd.func27, Tryd.ntmps27
    go_wp2_with fail
    refine (C1 _).out.mono ?_
    rintro e w1 ⟨rfl, hb1⟩
    obtain ⟨m0, m1, m2, m3, m4, m5, m6, m7⟩ := EF_at (boxF (f := ⟨k, n, v, h, p, t, b, c⟩) (w := w) (bel13 hb1))
    have rho1 := cellN (box34 hb1).1 (i := 1) rfl
    simp only [Nat.zero_add] at m0 m1 m2 m3 m4 m5 m6 m7
    go_wp2_with fail
    refine (C2 _).out.mono ?_
    rintro e w2 ⟨rfl, hb2⟩
    clear m0 m1 m2 m3 m4 m5 m6 m7 rho1
    have hb12 := bb2 hb1 hb2
    obtain ⟨k2, k3⟩ := box34 hb12
    have l2 := liveN k2
    have x21 := cellN k2 (i := 1) rfl
    have x22 := cellN k2 (i := 2) rfl
    have k2' := set_blk (i := 1) (.string hs) k2
    have l2' := liveN k2' 2
    have x22' := cellN k2' (i := 2) rfl
    have K2 := hide (set_blk (i := 2) (.string bt) k2')
    have K3 := hide ((setL_far (g := w.heap.size + 1 + 1) (m := w.heap.size + 1 + 1 + 1) (by omega) [.string hs, .string bt] w2 1).trans k3)
    obtain ⟨d0, d1, d2, d3, d4⟩ : _ ∧ _ ∧ _ ∧ _ ∧ _ := ⟨cellN K2.out (i := 0) rfl, cellN K2.out (i := 1) rfl, cellN K2.out (i := 2) rfl, cellN K2.out (i := 3) rfl, cellN K2.out (i := 4) rfl⟩
    have l3 : ∀ i, ((w2.setCell ⟨w.heap.size + 1 + 1, 1, none⟩ (.string hs)).setCell ⟨w.heap.size + 1 + 1, 2, none⟩ (.string bt)).frozen? ⟨w.heap.size + 1 + 1 + 1, i, none⟩ = false := liveN K3.out
    obtain ⟨z0, z1, z2, z3, z4⟩ : ((w2.setCell ⟨w.heap.size + 1 + 1, 1, none⟩ (.string hs)).setCell ⟨w.heap.size + 1 + 1, 2, none⟩ (.string bt)).cell? ⟨w.heap.size + 1 + 1 + 1, 0, none⟩ = _ ∧ ((w2.setCell ⟨w.heap.size + 1 + 1, 1, none⟩ (.string hs)).setCell ⟨w.heap.size + 1 + 1, 2, none⟩ (.string bt)).cell? ⟨w.heap.size + 1 + 1 + 1, 1, none⟩ = _ ∧ ((w2.setCell ⟨w.heap.size + 1 + 1, 1, none⟩ (.string hs)).setCell ⟨w.heap.size + 1 + 1, 2, none⟩ (.string bt)).cell? ⟨w.heap.size + 1 + 1 + 1, 2, none⟩ = _ ∧ ((w2.setCell ⟨w.heap.size + 1 + 1, 1, none⟩ (.string hs)).setCell ⟨w.heap.size + 1 + 1, 2, none⟩ (.string bt)).cell? ⟨w.heap.size + 1 + 1 + 1, 3, none⟩ = _ ∧ ((w2.setCell ⟨w.heap.size + 1 + 1, 1, none⟩ (.string hs)).setCell ⟨w.heap.size + 1 + 1, 2, none⟩ (.string bt)).cell? ⟨w.heap.size + 1 + 1 + 1, 4, none⟩ = _ := ⟨cellN K3.out (i := 0) rfl, cellN K3.out (i := 1) rfl, cellN K3.out (i := 2) rfl, cellN K3.out (i := 3) rfl, cellN K3.out (i := 4) rfl⟩
    have BB := hide (((bb2 B0 hb12).setCell (p := ⟨w.heap.size + 1 + 1, 1, none⟩) (by simp; omega) (.string hs)).setCell (p := ⟨w.heap.size + 1 + 1, 2, none⟩) (by simp; omega) (.string bt))
    clear k2 k2' k3 hb1 hb2 hb12 B0 C1 C2
    go_wp2_with fail
    have K4 := setL_all [.string rm, .string hs, .string bt, .slice aq qu.length cq, .slice ah hd.length ch] K3.out rfl
    have S1 := setL_below (w := w) (B := w.heap.size) (g := w.heap.size + 1 + 1 + 1) (by omega) [.string rm, .string hs, .string bt, .slice aq qu.length cq, .slice ah hd.length ch] _ 0 BB.out
    change bodyPost _ _ _ _ _ (setL ((w2.setCell ⟨w.heap.size + 1 + 1, 1, none⟩ (.string hs)).setCell ⟨w.heap.size + 1 + 1, 2, none⟩ (.string bt)) (w.heap.size + 1 + 1 + 1) 0 [.string rm, .string hs, .string bt, .slice aq qu.length cq, .slice ah hd.length ch])
    change Below _ _ (setL ((w2.setCell ⟨w.heap.size + 1 + 1, 1, none⟩ (.string hs)).setCell ⟨w.heap.size + 1 + 1, 2, none⟩ (.string bt)) (w.heap.size + 1 + 1 + 1) 0 [.string rm, .string hs, .string bt, .slice aq qu.length cq, .slice ah hd.length ch]) at S1
    change (setL ((w2.setCell ⟨w.heap.size + 1 + 1, 1, none⟩ (.string hs)).setCell ⟨w.heap.size + 1 + 1, 2, none⟩ (.string bt)) (w.heap.size + 1 + 1 + 1) 0 [.string rm, .string hs, .string bt, .slice aq qu.length cq, .slice ah hd.length ch]).heap[_]? = _ at K4
    generalize setL ((w2.setCell ⟨w.heap.size + 1 + 1, 1, none⟩ (.string hs)).setCell ⟨w.heap.size + 1 + 1, 2, none⟩ (.string bt)) (w.heap.size + 1 + 1 + 1) 0 [.string rm, .string hs, .string bt, .slice aq qu.length cq, .slice ah hd.length ch] = W3 at *
    obtain ⟨e0, e1, e2, e3, e4⟩ : _ ∧ _ ∧ _ ∧ _ ∧ _ := ⟨cellN K4 (i := 0) rfl, cellN K4 (i := 1) rfl, cellN K4 (i := 2) rfl, cellN K4 (i := 3) rfl, cellN K4 (i := 4) rfl⟩
    exact bodyPost_ret (v := .tuple #[.agg #[.string rm, .string hs, .string bt, .slice aq qu.length cq, .slice ah hd.length ch], .int .i64 0]) (by simp [results, Tryd.f27, go_sem, e0, e1, e2, e3, e4]) rfl ⟨⟨⟨rm, hs, bt, qu, hd⟩, aq, cq, ah, ch⟩, rfl, rfl, ⟨⟨bq, ownsRow_below HQ.out S1⟩, bh, ownsRow_below HH.out S1⟩, S1⟩
  · rw [if_neg he]
    have he' : (be != 0) = true := by simpa using he
    go_enter Tryd.func27, Tryd.ntmps27
    go_wp2_with fail
    refine (C1 _).out.mono ?_
    rintro e w1 ⟨rfl, hb1⟩
    obtain ⟨k2, k3⟩ := box34 hb1
    have K3 := hide k3
    have l3 := liveN k3
    obtain ⟨z0, z1, z2, z3, z4⟩ : _ ∧ _ ∧ _ ∧ _ ∧ _ := ⟨cellN k3 (i := 0) rfl, cellN k3 (i := 1) rfl, cellN k3 (i := 2) rfl, cellN k3 (i := 3) rfl, cellN k3 (i := 4) rfl⟩
    have BB := hide (bb2 B0 hb1)
    clear k2 k3 hb1 B0 C1 C2
    go_wp2_with fail
    have K4 := setL_all [.string ⟨#[]⟩, .string ⟨#[]⟩, .string ⟨#[]⟩, .slice none 0 0, .slice none 0 0] K3.out rfl
    have S1 := setL_below (w := w) (B := w.heap.size) (g := w.heap.size + 1 + 1 + 1) (by omega) [.string ⟨#[]⟩, .string ⟨#[]⟩, .string ⟨#[]⟩, .slice none 0 0, .slice none 0 0] _ 0 BB.out
    change bodyPost _ _ _ _ _ (setL w1 (w.heap.size + 1 + 1 + 1) 0 [.string ⟨#[]⟩, .string ⟨#[]⟩, .string ⟨#[]⟩, .slice none 0 0, .slice none 0 0])
    change Below _ _ (setL w1 (w.heap.size + 1 + 1 + 1) 0 [.string ⟨#[]⟩, .string ⟨#[]⟩, .string ⟨#[]⟩, .slice none 0 0, .slice none 0 0]) at S1
    change (setL w1 (w.heap.size + 1 + 1 + 1) 0 [.string ⟨#[]⟩, .string ⟨#[]⟩, .string ⟨#[]⟩, .slice none 0 0, .slice none 0 0]).heap[_]? = _ at K4
    generalize setL w1 (w.heap.size + 1 + 1 + 1) 0 [.string ⟨#[]⟩, .string ⟨#[]⟩, .string ⟨#[]⟩, .slice none 0 0, .slice none 0 0] = W3 at *
    obtain ⟨e0, e1, e2, e3, e4⟩ : _ ∧ _ ∧ _ ∧ _ ∧ _ := ⟨cellN K4 (i := 0) rfl, cellN K4 (i := 1) rfl, cellN K4 (i := 2) rfl, cellN K4 (i := 3) rfl, cellN K4 (i := 4) rfl⟩
    exact bodyPost_ret (v := .tuple #[.agg #[.string ⟨#[]⟩, .string ⟨#[]⟩, .string ⟨#[]⟩, .slice none 0 0, .slice none 0 0], .int .i64 be]) (by simp [results, Tryd.f27, go_sem, e0, e1, e2, e3, e4]) rfl ⟨zeroRV, rfl, rfl, zeroRV_own _, S1⟩

end Go.Proofs.YtejmcemgjpcobaaDoor
