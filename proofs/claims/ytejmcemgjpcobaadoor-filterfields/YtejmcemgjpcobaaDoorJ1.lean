/-
  The laws' cut of what is asked.
-/
import Derived.Test.YtejmcemgjpcobaaDoorFiLawA
import Derived.Test.YtejmcemgjpcobaaDoorPaWalkD
import Derived.Test.YtejmcemgjpcobaaDoorFiWalkD
import Derived.Test.YtejmcemgjpcobaaDoorFiWalkE
import Derived.Test.YtejmcemgjpcobaaDoorFiArg
import Derived.Test.YtejmcemgjpcobaaDoorPbRefA
namespace Go.Proofs.YtejmcemgjpcobaaDoor
set_option maxRecDepth 20000
open Go Go.RowKit Go.Shelf Fi

/-- what is asked, as a value -/
abbrev akV (vl : Value) (k : Int) (s : ByteArray) (x : RV) (b : Bool) : Value := .agg #[vl, .int .i64 k, .string s, .string x.r.meth, .string x.r.host, .string x.r.path, x.vq, x.vh, .bool b]

set_option maxHeartbeats 3200000 in
theorem cut_any (vl : Value) (l : List FB) (pk : Int) (pv : ByteArray) (x : RV) (tls : Bool) (w : World) (hv : Sl EF w vl l) (raw : ∀ f ∈ l, RawF f) (hpv : pv.size ≤ maxLen) (hx : x.at_ w) (rawx : RawR x.r) :
    Calls Tryd.prog 4 #[akV vl pk pv x tls] w fun e w' => ∃ (fa : Option Addr) (fc fb : Nat) (y : RV), e = .returned (akV (.slice fa (someF l).length fc) pk (fewB pv) y tls) ∧ w'.ownsRow fb 36 8 (.slice fa (someF l).length fc) (someF l).length (EF.flat (someF l)) ∧ y.r = fewR x.r ∧ y.own w' ∧ Below w.heap.size w w' := by
  have C2 := fun W (h : Below w.heap.size w W) => hide (ffew_any vl l W (hv.below h) raw)
  have C5 := fun W => hide (pfew_any pk pv W hpv)
  have C8 := fun W (h : Below w.heap.size w W) => hide (asked_any x.r x.vq x.vh W rawx (hx.below h).1 (hx.below h).2)
  clear hv raw hpv hx rawx
  obtain ⟨⟨rm, rho, rp, qu, hd⟩, aq, cq, ah, ch⟩ := x
  dsimp only at *
  obtain ⟨base, hbase⟩ : ∃ z, z = (w.alloc (.cells #[vl, .int .i64 pk, .string pv, .string rm, .string rho, .string rp, .slice aq qu.length cq, .slice ah hd.length ch, .bool tls] 29)).alloc (.cells #[.slice none 0 0, .int .i64 0, .string ⟨#[]⟩, .string ⟨#[]⟩, .string ⟨#[]⟩, .string ⟨#[]⟩, .slice none 0 0, .slice none 0 0, .bool false] 29) := ⟨_, rfl⟩
  have HB := fun W (h : Below base.heap.size base W) => (bx2 (w := w) (o1 := (.cells #[vl, .int .i64 pk, .string pv, .string rm, .string rho, .string rp, .slice aq qu.length cq, .slice ah hd.length ch, .bool tls] 29)) (o2 := (.cells #[.slice none 0 0, .int .i64 0, .string ⟨#[]⟩, .string ⟨#[]⟩, .string ⟨#[]⟩, .string ⟨#[]⟩, .slice none 0 0, .slice none 0 0, .bool false] 29)) (by rw [← hbase]; exact h) : _ ∧ _)
  have B0 : Below w.heap.size w base := by rw [hbase]; exact ((Below.refl _ _).alloc (Nat.le_refl _) _).alloc (by simp) _
  have m0 := fun W h => cellN (HB W h).1 (i := 0) rfl
  have m1 := fun W h => cellN (HB W h).1 (i := 1) rfl
  have m2 := fun W h => cellN (HB W h).1 (i := 2) rfl
  have m3 := fun W h => cellN (HB W h).1 (i := 3) rfl
  have m4 := fun W h => cellN (HB W h).1 (i := 4) rfl
  have m5 := fun W h => cellN (HB W h).1 (i := 5) rfl
  have m6 := fun W h => cellN (HB W h).1 (i := 6) rfl
  have m7 := fun W h => cellN (HB W h).1 (i := 7) rfl
  have m8 := fun W h => cellN (HB W h).1 (i := 8) rfl
  have HBH := hide HB
  clear HB
  go_enter Tryd.func4, Tryd.ntmps4
  go_wp2_with fail
  rw [← hbase]
  clear hbase
  refine wp_region_G 12 (fun w' => Below base.heap.size base w') (by kernel_rfl) ((Below.refl _ _).drew) ?_
  refine wpG_take (i := 0) 5 (v := .pointer (some ⟨w.heap.size, 0, none⟩)) rfl (by kernel_rfl) (by kernel_rfl) (by kernel_rfl) (by decide) (by kernel_rfl) (by kernel_rfl) (fun _ _ _ h => h) (Or.inl ⟨by rfl, fun w1 hS => ?_⟩) ?_
  · (try dsimp only at hS)
    go_simp
  simp only [Act.put, List.setIfInBounds_toArray, List.set_cons_zero, List.set_cons_succ]
  refine wpG_take (i := 1) 5 (v := vl) rfl (by kernel_rfl) (by kernel_rfl) (by kernel_rfl) (by decide) (by kernel_rfl) (by kernel_rfl) (fun _ _ _ h => h) (Or.inl ⟨by rfl, fun w1 hS => ?_⟩) ?_
  · (try dsimp only at hS)
    go_simp
  simp only [Act.put, List.setIfInBounds_toArray, List.set_cons_zero, List.set_cons_succ]
  refine wpG_take (i := 3) 5 (v := .pointer (some ⟨w.heap.size, 1, none⟩)) rfl (by kernel_rfl) (by kernel_rfl) (by kernel_rfl) (by decide) (by kernel_rfl) (by kernel_rfl) (fun _ _ _ h => h) (Or.inl ⟨by rfl, fun w1 hS => ?_⟩) ?_
  · (try dsimp only at hS)
    go_simp
  simp only [Act.put, List.setIfInBounds_toArray, List.set_cons_zero, List.set_cons_succ]
  refine wpG_take (i := 4) 5 (v := .agg #[.int .i64 pk, .string pv]) rfl (by kernel_rfl) (by kernel_rfl) (by kernel_rfl) (by decide) (by kernel_rfl) (by kernel_rfl) (fun _ _ _ h => h) (Or.inl ⟨by rfl, fun w1 hS => ?_⟩) ?_
  · (try dsimp only at hS)
    go_simp
  simp only [Act.put, List.setIfInBounds_toArray, List.set_cons_zero, List.set_cons_succ]
  refine wpG_take (i := 6) 5 (v := .pointer (some ⟨w.heap.size, 3, none⟩)) rfl (by kernel_rfl) (by kernel_rfl) (by kernel_rfl) (by decide) (by kernel_rfl) (by kernel_rfl) (fun _ _ _ h => h) (Or.inl ⟨by rfl, fun w1 hS => ?_⟩) ?_
  · (try dsimp only at hS)
    go_simp
  simp only [Act.put, List.setIfInBounds_toArray, List.set_cons_zero, List.set_cons_succ]
  refine wpG_take (i := 7) 5 (v := .agg #[.string rm, .string rho, .string rp, .slice aq qu.length cq, .slice ah hd.length ch]) rfl (by kernel_rfl) (by kernel_rfl) (by kernel_rfl) (by decide) (by kernel_rfl) (by kernel_rfl) (fun _ _ _ h => h) (Or.inl ⟨by rfl, fun w1 hS => ?_⟩) ?_
  · (try dsimp only at hS)
    go_simp
  simp only [Act.put, List.setIfInBounds_toArray, List.set_cons_zero, List.set_cons_succ]
  refine wpG_take (i := 9) 5 (v := .pointer (some ⟨w.heap.size, 8, none⟩)) rfl (by kernel_rfl) (by kernel_rfl) (by kernel_rfl) (by decide) (by kernel_rfl) (by kernel_rfl) (fun _ _ _ h => h) (Or.inl ⟨by rfl, fun w1 hS => ?_⟩) ?_
  · (try dsimp only at hS)
    go_simp
  simp only [Act.put, List.setIfInBounds_toArray, List.set_cons_zero, List.set_cons_succ]
  refine wpG_take (i := 10) 5 (v := .bool tls) rfl (by kernel_rfl) (by kernel_rfl) (by kernel_rfl) (by decide) (by kernel_rfl) (by kernel_rfl) (fun _ _ _ h => h) (Or.inl ⟨by rfl, fun w1 hS => ?_⟩) ?_
  · (try dsimp only at hS)
    go_simp
  simp only [Act.put, List.setIfInBounds_toArray, List.set_cons_zero, List.set_cons_succ]
  clear m0 m1 m2 m3 m4 m5 m6 m7 m8
  refine wpG_ready (rs := [2]) (by kernel_rfl) (by simp) (fun W2 hG2 hS2 i hi => ?_)
  obtain rfl : i = 2 := by simpa using hi
  clear hi
  refine wpOp_step rfl (by rfl) (fun K' hK' => ?_)
  replace hK' := hide hK'
  go_simp
  refine (C2 _ (bb2 B0 hS2)).out.mono ?_
  rintro e z2 ⟨u2, rfl, r2, hb2⟩
  have B2 := hS2.trans (hb2.mono hS2.size)
  obtain ⟨fa, fc, hu2⟩ := row_form r2
  subst hu2
  go_wp2_with fail
  refine hK'.out _ _ (wpG_kept (by decide) B2 ?_)
  clear hK' K' hG2 hS2 hb2 B2
  refine wpG_take (i := 5) 5 (v := .agg #[.int .i64 pk, .string (fewB pv)]) rfl (by kernel_rfl) (by kernel_rfl) (by kernel_rfl) (by decide) (by kernel_rfl) (by kernel_rfl) (fun _ _ _ h => h) (Or.inl ⟨by rfl, fun w1 hS => ?_⟩) ?_
  · (try dsimp only at hS)
    go_simp
    exact calls_grow hS (Nat.le_refl _) (C5 _).out
  simp only [Act.put, List.setIfInBounds_toArray, List.set_cons_zero, List.set_cons_succ]
  refine wpG_ready (rs := [8]) (by kernel_rfl) (by simp) (fun W8 hG8 hS8 i hi => ?_)
  obtain rfl : i = 8 := by simpa using hi
  clear hi
  refine wpOp_step rfl (by rfl) (fun K' hK' => ?_)
  replace hK' := hide hK'
  go_simp
  refine (C8 _ (bb2 B0 hS8)).out.mono ?_
  rintro e z8 ⟨x8, rfl, hx8, own8, hb8⟩
  have HX8 := hide hx8
  clear hx8
  have B8 := hS8.trans (hb8.mono hS8.size)
  go_wp2_with fail
  refine hK'.out _ _ (wpG_kept (by decide) B8 ?_)
  replace r2 := ownsRow_below (ownsRow_below r2 hG8) hb8
  clear hK' K' hG8 hS8 hb8 B8
  refine wpG_take (i := 11) 5 (v := .agg #[.slice fa (someF l).length fc, .int .i64 pk, .string (fewB pv), .string x8.r.meth, .string x8.r.host, .string x8.r.path, .slice x8.aq x8.r.query.length x8.cq, .slice x8.ah x8.r.head.length x8.ch, .bool tls]) rfl (by kernel_rfl) (by kernel_rfl) (by kernel_rfl) (by decide) (by kernel_rfl) (by kernel_rfl) (fun _ _ _ h => h) (Or.inl ⟨by rfl, fun w1 hS => ?_⟩) ?_
  · (try dsimp only at hS)
    go_simp
  simp only [Act.put, List.setIfInBounds_toArray, List.set_cons_zero, List.set_cons_succ]
  refine wpG_ready (rs := [12]) (by kernel_rfl) (by simp) (fun W hG hS i hi => ?_)
  obtain rfl : i = 12 := by simpa using hi
  clear hi
  have hz := (HBH.out W hS).2
  replace r2 := ownsRow_below r2 hG
  replace own8 := own8.below hG
  have BB := bb2 B0 hS
  obtain ⟨z0, z1, z2', z3, z4, z5, z6, z7, z8'⟩ : _ ∧ _ ∧ _ ∧ _ ∧ _ ∧ _ ∧ _ ∧ _ ∧ _ := ⟨cellN hz (i := 0) rfl, cellN hz (i := 1) rfl, cellN hz (i := 2) rfl, cellN hz (i := 3) rfl, cellN hz (i := 4) rfl, cellN hz (i := 5) rfl, cellN hz (i := 6) rfl, cellN hz (i := 7) rfl, cellN hz (i := 8) rfl⟩
  have lz := liveN hz
  refine wpOp_step rfl (by rfl) (fun K' hK' => ?_)
  go_simp
  refine hK' _ _ (wpG_past (by decide) ?_)
  clear hK' K' z0 z1 z2' z3 z4 z5 z6 z7 z8' lz hG hS C2 C5 C8 HBH
  have s1 := setL_all [.slice fa (someF l).length fc, .int .i64 pk, .string (fewB pv), .string x8.r.meth, .string x8.r.host, .string x8.r.path, .slice x8.aq x8.r.query.length x8.cq, .slice x8.ah x8.r.head.length x8.ch, .bool tls] hz rfl
  have S1 := setL_below (w := w) (B := w.heap.size) (g := w.heap.size + 1) (by omega) [.slice fa (someF l).length fc, .int .i64 pk, .string (fewB pv), .string x8.r.meth, .string x8.r.host, .string x8.r.path, .slice x8.aq x8.r.query.length x8.cq, .slice x8.ah x8.r.head.length x8.ch, .bool tls] _ 0 BB
  have R1 := row_setL (k := 0) (cs := [.slice fa (someF l).length fc, .int .i64 pk, .string (fewB pv), .string x8.r.meth, .string x8.r.host, .string x8.r.path, .slice x8.aq x8.r.query.length x8.cq, .slice x8.ah x8.r.head.length x8.ch, .bool tls]) r2 hz (by decide)
  have O1 := own8.setL (k := 0) (cs := [.slice fa (someF l).length fc, .int .i64 pk, .string (fewB pv), .string x8.r.meth, .string x8.r.host, .string x8.r.path, .slice x8.aq x8.r.query.length x8.cq, .slice x8.ah x8.r.head.length x8.ch, .bool tls]) hz (by decide)
  refine wpAny_end (by kernel_rfl) ?_
  change Exit.then _ _ _ _ (setL W (w.heap.size + 1) 0 [.slice fa (someF l).length fc, .int .i64 pk, .string (fewB pv), .string x8.r.meth, .string x8.r.host, .string x8.r.path, .slice x8.aq x8.r.query.length x8.cq, .slice x8.ah x8.r.head.length x8.ch, .bool tls])
  generalize setL W (w.heap.size + 1) 0 [.slice fa (someF l).length fc, .int .i64 pk, .string (fewB pv), .string x8.r.meth, .string x8.r.host, .string x8.r.path, .slice x8.aq x8.r.query.length x8.cq, .slice x8.ah x8.r.head.length x8.ch, .bool tls] = W9 at *
  obtain ⟨e0, e1, e2, e3, e4, e5, e6, e7, e8⟩ : _ ∧ _ ∧ _ ∧ _ ∧ _ ∧ _ ∧ _ ∧ _ ∧ _ := ⟨cellN s1 (i := 0) rfl, cellN s1 (i := 1) rfl, cellN s1 (i := 2) rfl, cellN s1 (i := 3) rfl, cellN s1 (i := 4) rfl, cellN s1 (i := 5) rfl, cellN s1 (i := 6) rfl, cellN s1 (i := 7) rfl, cellN s1 (i := 8) rfl⟩
  clear r2 own8 hz s1 BB
  go_wp2_with fail
  exact bodyPost_ret (v := .agg #[.slice fa (someF l).length fc, .int .i64 pk, .string (fewB pv), .string x8.r.meth, .string x8.r.host, .string x8.r.path, .slice x8.aq x8.r.query.length x8.cq, .slice x8.ah x8.r.head.length x8.ch, .bool tls]) (by simp [results, Tryd.results4, go_sem, e0, e1, e2, e3, e4, e5, e6, e7, e8]) rfl ⟨fa, fc, _, x8, rfl, R1, HX8.out, O1, S1⟩

end Go.Proofs.YtejmcemgjpcobaaDoor
namespace Go.Proofs.YtejmcemgjpcobaaDoor
set_option maxRecDepth 20000
open Go Go.RowKit Go.Shelf Fi

/-- the same requests? -/
def sameR (a b : RB) : Bool := decide (a.meth = b.meth ∧ a.host = b.host ∧ a.path = b.path ∧ a.query = b.query ∧ a.head = b.head)
theorem sameR_iff {a b : RB} : sameR a b = true ↔ a = b := by
  unfold sameR
  rw [decide_eq_true_eq]
  constructor
  · rintro ⟨h1, h2, h3, h4, h5⟩
    obtain ⟨a1, a2, a3, a4, a5⟩ := a
    obtain ⟨b1, b2, b3, b4, b5⟩ := b
    dsimp only at *
    subst h1 h2 h3 h4 h5
    rfl
  · rintro rfl
    exact ⟨rfl, rfl, rfl, rfl, rfl⟩
theorem sameR_self (a : RB) : sameR a a = true := sameR_iff.2 rfl
theorem getElem_same {xs ys : List PairB} (e : xs = ys) {k : Nat} {h1 : k < xs.length} {h2 : k < ys.length} : xs[k] = ys[k] := by subst e; rfl

end Go.Proofs.YtejmcemgjpcobaaDoor
namespace Go.Proofs.YtejmcemgjpcobaaDoor
set_option maxRecDepth 20000
open Go Go.RowKit Go.Shelf Fi

theorem ex1 : doF [⟨1, ⟨#[120]⟩, ⟨#[49]⟩, ⟨#[]⟩, 0, ⟨#[]⟩, false, 0⟩] 2 ⟨#[47, 97]⟩ ⟨⟨#[]⟩, ⟨#[]⟩, ⟨#[47, 97]⟩, [], []⟩ = (⟨⟨#[]⟩, ⟨#[]⟩, ⟨#[47, 97]⟩, [], [(⟨#[120]⟩, ⟨#[49]⟩)]⟩, 0) := by kernel_rfl
theorem ex2 : doF [⟨5, ⟨#[]⟩, ⟨#[]⟩, ⟨#[]⟩, 0, ⟨#[47, 120]⟩, false, 0⟩] 2 ⟨#[47, 97]⟩ ⟨⟨#[]⟩, ⟨#[]⟩, ⟨#[47, 97, 47, 98]⟩, [], []⟩ = (⟨⟨#[]⟩, ⟨#[]⟩, ⟨#[47, 120, 47, 98]⟩, [], []⟩, 0) := by kernel_rfl
theorem ex3 : awayF [⟨4, ⟨#[]⟩, ⟨#[]⟩, ⟨#[98, 46, 116, 101, 115, 116]⟩, 0, ⟨#[]⟩, false, 301⟩] 2 ⟨#[47, 97]⟩ ⟨#[]⟩ ⟨#[47, 97]⟩ true = ((301, ⟨#[104, 116, 116, 112, 115, 58, 47, 47, 98, 46, 116, 101, 115, 116, 47, 97]⟩), 0) := by kernel_rfl
theorem ok1 {f : FB} (h1 : f.name.size ≤ 100) (h2 : f.val.size ≤ 100) (h3 : f.host.size ≤ 100) (h4 : f.path.size ≤ 100) : ∀ g ∈ [f], OkFi g := fun g hg => by
  obtain rfl : g = f := by simpa using hg
  exact ⟨h1, h2, h3, h4⟩
theorem Sl.one {w : World} {g : Nat} {f : FB} (h : w.heap[g]? = some (.cells (fcells f).toArray 36)) : Sl EF w (.slice (some ⟨g, 0, none⟩) 1 1) [f] := Sl.at_block h trivial
theorem at0 (w : World) (t : ByteArray) : RV.at_ ⟨⟨⟨#[]⟩, ⟨#[]⟩, t, [], []⟩, none, 0, none, 0⟩ w := ⟨Prs.nil w, Prs.nil w⟩
theorem okR0 {t : ByteArray} (h : t.size ≤ 100) : OkR ⟨⟨#[]⟩, ⟨#[]⟩, t, [], []⟩ := ⟨(show 0 ≤ 100 by decide), (show 0 ≤ 100 by decide), h, (show 0 ≤ 31 by decide), (show 0 ≤ 31 by decide), fun p hp => (by cases hp), fun p hp => (by cases hp)⟩

set_option maxHeartbeats 3200000 in
theorem fawake_any (w : World) :
    Calls Tryd.prog 6 #[] w fun e w' => e = .returned (.bool true) ∧ Below w.heap.size w w' := by
  have C1 := fun W (h : W.heap[w.heap.size + 1]? = some (.cells #[.int .i64 1, .string ⟨#[120]⟩, .string ⟨#[49]⟩, .string ⟨#[]⟩, .int .i64 0, .string ⟨#[]⟩, .bool false, .int .i64 0] 36)) => hide (do_any (.slice (some ⟨w.heap.size + 1, 0, none⟩) 1 1) [⟨1, ⟨#[120]⟩, ⟨#[49]⟩, ⟨#[]⟩, 0, ⟨#[]⟩, false, 0⟩] 2 ⟨#[47, 97]⟩ ⟨⟨⟨#[]⟩, ⟨#[]⟩, ⟨#[47, 97]⟩, [], []⟩, none, 0, none, 0⟩ W (Sl.one h) (ok1 (by decide) (by decide) (by decide) (by decide)) (by decide) (at0 _ _) (okR0 (by decide)))
  have C2 := fun W (g : Nat) (h : W.heap[g]? = some (.cells #[.int .i64 5, .string ⟨#[]⟩, .string ⟨#[]⟩, .string ⟨#[]⟩, .int .i64 0, .string ⟨#[47, 120]⟩, .bool false, .int .i64 0] 36)) => hide (do_any (.slice (some ⟨g, 0, none⟩) 1 1) [⟨5, ⟨#[]⟩, ⟨#[]⟩, ⟨#[]⟩, 0, ⟨#[47, 120]⟩, false, 0⟩] 2 ⟨#[47, 97]⟩ ⟨⟨⟨#[]⟩, ⟨#[]⟩, ⟨#[47, 97, 47, 98]⟩, [], []⟩, none, 0, none, 0⟩ W (Sl.one h) (ok1 (by decide) (by decide) (by decide) (by decide)) (by decide) (at0 _ _) (okR0 (by decide)))
  have C3 := fun W (g : Nat) (h : W.heap[g]? = some (.cells #[.int .i64 4, .string ⟨#[]⟩, .string ⟨#[]⟩, .string ⟨#[98, 46, 116, 101, 115, 116]⟩, .int .i64 0, .string ⟨#[]⟩, .bool false, .int .i64 301] 36)) => hide (away_any (.slice (some ⟨g, 0, none⟩) 1 1) [⟨4, ⟨#[]⟩, ⟨#[]⟩, ⟨#[98, 46, 116, 101, 115, 116]⟩, 0, ⟨#[]⟩, false, 301⟩] 2 ⟨#[47, 97]⟩ ⟨⟨⟨#[]⟩, ⟨#[]⟩, ⟨#[47, 97]⟩, [], []⟩, none, 0, none, 0⟩ true W (Sl.one h) (ok1 (by decide) (by decide) (by decide) (by decide)) (by decide) (by decide) (by decide) (fun f hf _ _ hn => by
    obtain rfl : f = ⟨4, ⟨#[]⟩, ⟨#[]⟩, ⟨#[98, 46, 116, 101, 115, 116]⟩, 0, ⟨#[]⟩, false, 301⟩ := by simpa using hf
    exact absurd rfl hn.1))
  dsimp only at C1 C2 C3
  rw [ex1] at C1
  rw [ex2] at C2
  rw [ex3] at C3
  dsimp only at C1 C2 C3
  have B2 : Below w.heap.size w ((w.alloc (.cells #[.int .i64 2, .string ⟨#[47, 97]⟩] 24)).alloc (.cells #[.int .i64 1, .string ⟨#[120]⟩, .string ⟨#[49]⟩, .string ⟨#[]⟩, .int .i64 0, .string ⟨#[]⟩, .bool false, .int .i64 0] 36)) := ((Below.refl _ _).alloc (Nat.le_refl _) _).alloc (by simp) _
  go_enter Tryd.func6, Tryd.ntmps6
  go_wp2_with fail
  refine (C1 _ (by have := alloc_new (w.alloc (.cells #[.int .i64 2, .string ⟨#[47, 97]⟩] 24)) (.cells #[.int .i64 1, .string ⟨#[120]⟩, .string ⟨#[49]⟩, .string ⟨#[]⟩, .int .i64 0, .string ⟨#[]⟩, .bool false, .int .i64 0] 36); simpa only [World.size_alloc] using this)).out.mono ?_
  rintro e w1 ⟨⟨r1, aq1, cq1, ah1, ch1⟩, rfl, hy1, own1, hb1⟩
  dsimp only at hy1
  subst hy1
  have kp := (bx2 hb1).1
  have B3 := ((Below.refl _ w1).alloc (Nat.le_refl _) (.cells #[.string ⟨#[]⟩, .string ⟨#[]⟩, .string ⟨#[47, 97]⟩, .slice aq1 0 cq1, .slice ah1 1 ch1] 27)).alloc (by simp) (.cells #[.int .i64 5, .string ⟨#[]⟩, .string ⟨#[]⟩, .string ⟨#[]⟩, .int .i64 0, .string ⟨#[47, 120]⟩, .bool false, .int .i64 0] 36)
  have p0 := cellN (blk_below kp B3) (i := 0) rfl
  have p1 := cellN (blk_below kp B3) (i := 1) rfl
  clear C1
  go_wp2_with fail
  refine (C2 _ _ (by have := alloc_new (w1.alloc (.cells #[.string ⟨#[]⟩, .string ⟨#[]⟩, .string ⟨#[47, 97]⟩, .slice aq1 0 cq1, .slice ah1 1 ch1] 27)) (.cells #[.int .i64 5, .string ⟨#[]⟩, .string ⟨#[]⟩, .string ⟨#[]⟩, .int .i64 0, .string ⟨#[47, 120]⟩, .bool false, .int .i64 0] 36); simpa only [World.size_alloc] using this)).out.mono ?_
  rintro e w2 ⟨⟨r2, aq2, cq2, ah2, ch2⟩, rfl, hy2, own2, hb2⟩
  dsimp only at hy2
  subst hy2
  have kp2 := blk_below kp (bb2 B3 hb2)
  have ky1 := (bx2 hb2).1
  have B4 := ((Below.refl _ w2).alloc (Nat.le_refl _) (.cells #[.string ⟨#[]⟩, .string ⟨#[]⟩, .string ⟨#[47, 120, 47, 98]⟩, .slice aq2 0 cq2, .slice ah2 0 ch2] 27)).alloc (by simp) (.cells #[.int .i64 4, .string ⟨#[]⟩, .string ⟨#[]⟩, .string ⟨#[98, 46, 116, 101, 115, 116]⟩, .int .i64 0, .string ⟨#[]⟩, .bool false, .int .i64 301] 36)
  have P0 := cellN (blk_below kp2 B4) (i := 0) rfl
  have P1 := cellN (blk_below kp2 B4) (i := 1) rfl
  clear C2 p0 p1
  go_wp2_with fail
  refine (C3 _ _ (by have := alloc_new (w2.alloc (.cells #[.string ⟨#[]⟩, .string ⟨#[]⟩, .string ⟨#[47, 120, 47, 98]⟩, .slice aq2 0 cq2, .slice ah2 0 ch2] 27)) (.cells #[.int .i64 4, .string ⟨#[]⟩, .string ⟨#[]⟩, .string ⟨#[98, 46, 116, 101, 115, 116]⟩, .int .i64 0, .string ⟨#[]⟩, .bool false, .int .i64 301] 36); simpa only [World.size_alloc] using this)).out.mono ?_
  rintro e w3 ⟨rfl, hb3⟩
  clear C3 P0 P1
  have ky2 := (bx2 hb3).1
  have ky3 := blk_below ky1 (bb2 B4 hb3)
  have own1' := (own1.below (bb2 B3 hb2)).below (bb2 B4 hb3)
  have hh : Prs w3 (.slice ah1 1 ch1) [(⟨#[120]⟩, ⟨#[49]⟩)] := own1'.at_.2
  have BB := hide (bb2 B2 (bb2 hb1 (bb2 B3 (bb2 hb2 (bb2 B4 hb3)))))
  clear own1 own1' own2
  have V1 := (Below.refl _ w3).alloc (Nat.le_refl _) (.cells #[.int .i64 301, .string ⟨#[104, 116, 116, 112, 115, 58, 47, 47, 98, 46, 116, 101, 115, 116, 47, 97]⟩] 54)
  have V2 := V1.alloc (by simp) (.cells #[.string ⟨#[120]⟩, .string ⟨#[49]⟩] 48)
  have a4 := cellN (blk_below ky3 V1) (i := 4) rfl
  have HX : Prs ((w3.alloc (.cells #[.int .i64 301, .string ⟨#[104, 116, 116, 112, 115, 58, 47, 47, 98, 46, 116, 101, 115, 116, 47, 97]⟩] 54)).alloc (.cells #[.string ⟨#[120]⟩, .string ⟨#[49]⟩] 48)) (.slice (some ⟨w3.heap.size + 1, 0, none⟩) 1 1) [(⟨#[120]⟩, ⟨#[49]⟩)] := by
    have := Prs.at1 (w3.alloc (.cells #[.int .i64 301, .string ⟨#[104, 116, 116, 112, 115, 58, 47, 47, 98, 46, 116, 101, 115, 116, 47, 97]⟩] 54)) (w3.heap.size + 1) (by simp) ⟨#[120]⟩ ⟨#[49]⟩
    exact this
  have CP := hide (psame_any ((w3.alloc (.cells #[.int .i64 301, .string ⟨#[104, 116, 116, 112, 115, 58, 47, 47, 98, 46, 116, 101, 115, 116, 47, 97]⟩] 54)).alloc (.cells #[.string ⟨#[120]⟩, .string ⟨#[49]⟩] 48)) (.slice ah1 1 ch1) _ _ _ (hh.below V2) HX)
  rw [decide_eq_true rfl] at CP
  go_wp2_with fail
  refine CP.out.mono ?_
  rintro e w4 ⟨rfl, hb4⟩
  have kc := (bx2 hb4).1
  have kb2 := blk_below ky2 (bb2 V2 hb4)
  have e2 := cellN kb2 (i := 2) rfl
  have g0 := cellN kc (i := 0) rfl
  have g1 := cellN kc (i := 1) rfl
  have B9 := bb2 BB.out (bb2 V2 hb4)
  go_wp2_with fail
  go_ret
  exact ⟨rfl, B9⟩

end Go.Proofs.YtejmcemgjpcobaaDoor
namespace Go.Proofs.YtejmcemgjpcobaaDoor
set_option maxRecDepth 20000
open Go Go.RowKit Go.Shelf Fi

theorem psame_yes (w : World) (va vb : Value) (xs ys : List PairB) (ha : Prs w va xs) (hb : Prs w vb ys) (e : xs = ys) :
    Calls Tryd.prog 17 #[va, vb] w fun e w' => e = .returned (.bool true) ∧ Below w.heap.size w w' := by
  have := psame_any w va vb xs ys ha hb
  rwa [decide_eq_true e] at this
theorem same_yes (w : World) (va vb : Value) (xs ys : List ByteArray) (ha : Strs w va xs) (hb : Strs w vb ys) (hl : xs.length ≤ maxLen) (e : xs = ys) :
    Calls Tryd.prog 9 #[va, vb] w fun e w' => e = .returned (.bool true) ∧ Below w.heap.size w w' := by
  have := same_any w va vb xs ys ha hb hl
  rwa [decide_eq_true e] at this
theorem run_okF {k : Int} {v : ByteArray} {l : List FB} {r a : RB} (hf : ∀ f ∈ l, OkFi f) (hr : ∀ p ∈ r.head, okF p) (h : runF k v l r = .ok a) : ∀ p ∈ a.head, okF p :=
  run_keeps (P := fun y => ∀ p ∈ y.head, okF p) l r a hr (fun f hfl x y hx hs => by
    have ok := hf f hfl
    unfold stepF at hs
    split at hs
    · cases hs
      intro p hp
      rcases setQ_mem p hp with rfl | hp
      · exact ⟨ok.name, ok.val⟩
      · exact hx p hp
    · split at hs
      · cases hs
        intro p hp
        rcases List.mem_append.1 hp with hp | hp
        · exact hx p hp
        · obtain rfl : p = (f.name, f.val) := by simpa using hp
          exact ⟨ok.name, ok.val⟩
      · split at hs
        · cases hs
          exact fun p hp => hx p (List.mem_filter.1 hp).1
        · split at hs
          · split at hs
            · cases hs
              exact hx
            · cases hs
          · cases hs
            exact hx) h
theorem len_all (l : List PairB) (n : ByteArray) (h : l.length ≤ 1000) : (allQ l n).length ≤ maxLen := by
  have : (allQ l n).length ≤ l.length := by
    show ((l.filter _).map _).length ≤ _
    rw [List.length_map]
    exact List.length_filter_le _ _
  unfold maxLen
  omega
theorem own_zero {a : RV} (h : a.r = zeroR) : sameR a.r zeroRV.r = true := by rw [h]; exact sameR_self _

end Go.Proofs.YtejmcemgjpcobaaDoor
namespace Go.Proofs.YtejmcemgjpcobaaDoor
set_option maxRecDepth 20000
open Go Go.RowKit Go.Shelf Fi

attribute [local go_sem] gb_const

/-- is the filter at i alone with its name, as far as the first k tell? -/
def aloneTo (L : List FB) (i : Nat) (n : ByteArray) : Nat → Bool
  | 0 => true
  | k + 1 => aloneTo L i n k && (k == i || (match L[k]? with
    | some f => decide (3 < f.kind) || !sameF f.name n
    | none => true))

theorem alone_all {L : List FB} {i : Nat} {n : ByteArray} : ∀ (m : Nat), aloneTo L i n m = true → ∀ j (hj : j < L.length), j < m → j ≠ i → L[j].kind < 4 → sameF L[j].name n = false
  | 0, _, j, _, h, _, _ => absurd h (by omega)
  | m + 1, h, j, hj, hjm, hne, hk => by
    unfold aloneTo at h
    rw [Bool.and_eq_true] at h
    rcases Nat.lt_or_ge j m with h1 | h1
    · exact alone_all m h.1 j hj h1 hne hk
    · obtain rfl : j = m := by omega
      have h2 := h.2
      rw [List.getElem?_eq_getElem hj, Bool.or_eq_true] at h2
      rcases h2 with h2 | h2
      · exact absurd (beq_iff_eq.1 h2) hne
      · dsimp only at h2
        rw [Bool.or_eq_true, decide_eq_true_eq] at h2
        rcases h2 with h2 | h2
        · omega
        · simpa using h2
theorem alone_succ {L : List FB} {i : Nat} {n : ByteArray} {m : Nat} (hm : m < L.length) : aloneTo L i n (m + 1) = (aloneTo L i n m && (m == i || (decide (3 < L[m].kind) || !sameF L[m].name n))) := by
  show (aloneTo L i n m && (m == i || _)) = _
  rw [List.getElem?_eq_getElem hm]
theorem strs_blk {w : World} {p : Nat} {s : ByteArray} (h : w.heap[p]? = some (.cells #[.string s] 9)) : Strs w (.slice (some ⟨p, 0, none⟩) 1 1) [s] := by
  refine ⟨_, 1, rfl, fun i hi => ⟨p, rfl, lt_blk h, ?_⟩⟩
  obtain rfl : i = 0 := by simpa using hi
  exact cellN h rfl
theorem step_append_strs_g {o : Oper} {a : Act} {Q : Exit → Act → World → Prop} {ops : Array Oper} {K : Act → World → Prop} {E : Prop} (w : World) (s x : Operand)
    (ho : o.op = .call { callee := .builtin .append, args := #[s, x], argTypes := #[38, 38] }) (hw : Region.wanted o (yielded ops a.tmps) = true)
    (base : Nat) (v : Value) (n : Nat) (xs : List ByteArray) (hs : a.eval s = v) (hown : w.ownsRow base 9 1 v n (xs.map Value.string))
    (y : Value) (l : List ByteArray) (hy : a.eval x = y) (hl : Strs w y l) (hn : n + l.length ≤ 100000) (hbase : base ≤ w.heap.size)
    (h : ∀ v' w', w'.ownsRow base 9 1 v' (n + l.length) ((xs ++ l).map Value.string) → w.grownBy w' v.ownBlock → K (a.put o.dst v') w') :
    if Region.wanted o (yielded ops a.tmps) = true then Oper.wp Tryd.prog o a w K Q else E := by
  rw [if_pos hw]
  obtain ⟨i0, hi, hz0, hz1, hz2⟩ := info_parts Tryd.info9
  exact wp_append_any w s x _ ho base _ i0 _ 1 16 Tryd.underlying38 hi hz0 hz1 hz2 rfl (by decide) v n _ hs hown y l.length (l.map Value.string) hy hl.lies (by simp) (strs_one l) (by unfold maxLen; omega) (by omega) hbase (fun v' w' h2 h3 => h v' w' (by rw [List.map_append]; exact h2) h3)

set_option maxHeartbeats 12800000 in
theorem fields_law (v0 : Value) (w : World) (h0 : ArgAk w v0) :
    Calls Tryd.prog 3 #[v0] w fun e w' => e = .returned (.bool true) ∧ Below w.heap.size w w' := by
  obtain ⟨vl0, l0, pk, pv0, x0, tls, rfl, hv0, raw0, hpv0, hx0, rawx0⟩ := h0
  have C1 := fun W (h : Below w.heap.size w W) => hide (cut_any vl0 l0 pk pv0 x0 tls W (hv0.below h) raw0 hpv0 (hx0.below h) rawx0)
  have pv100 := fewB_le pv0
  have okL := someF_ok l0
  have lenL := someF_len l0
  have okx := fewR_ok x0.r
  clear hv0 raw0 hpv0 hx0 rawx0
  have B1 : Below w.heap.size w (w.alloc (.cells #[vl0, .int .i64 pk, .string pv0, .string x0.r.meth, .string x0.r.host, .string x0.r.path, .slice x0.aq x0.r.query.length x0.cq, .slice x0.ah x0.r.head.length x0.ch, .bool tls] 29)) := (Below.refl _ _).alloc (Nat.le_refl _) _
  go_enter Tryd.func3, Tryd.ntmps3
  go_wp2_with fail
  refine (C1 _ B1).out.mono ?_
  rintro e w1 ⟨fa, fc, fb, x, rfl, row, hx, own, hb1⟩
  have HX := hide hx
  rw [← hx] at okx
  clear hx C1
  generalize hL : someF l0 = L at *
  generalize hpv : fewB pv0 = pv at *
  clear hL hpv
  have hz : w1.heap[w.heap.size]? = some (.cells #[vl0, .int .i64 pk, .string pv0, .string x0.r.meth, .string x0.r.host, .string x0.r.path, .slice x0.aq x0.r.query.length x0.cq, .slice x0.ah x0.r.head.length x0.ch, .bool tls] 29) := box_block hb1
  have BB := bb2 B1 hb1
  have lz := liveN hz
  obtain ⟨z0, z1, z2, z3, z4, z5, z6, z7, z8⟩ : _ ∧ _ ∧ _ ∧ _ ∧ _ ∧ _ ∧ _ ∧ _ ∧ _ := ⟨cellN hz (i := 0) rfl, cellN hz (i := 1) rfl, cellN hz (i := 2) rfl, cellN hz (i := 3) rfl, cellN hz (i := 4) rfl, cellN hz (i := 5) rfl, cellN hz (i := 6) rfl, cellN hz (i := 7) rfl, cellN hz (i := 8) rfl⟩
  have K2 := hide (show ((((((((((w1.setCell ⟨w.heap.size, 0, none⟩ (.slice fa L.length fc)).setCell ⟨w.heap.size, 1, none⟩ (.int .i64 pk)).setCell ⟨w.heap.size, 2, none⟩ (.string pv)).setCell ⟨w.heap.size, 3, none⟩ (.string x.r.meth)).setCell ⟨w.heap.size, 4, none⟩ (.string x.r.host)).setCell ⟨w.heap.size, 5, none⟩ (.string x.r.path)).setCell ⟨w.heap.size, 6, none⟩ (.slice x.aq x.r.query.length x.cq)).setCell ⟨w.heap.size, 7, none⟩ (.slice x.ah x.r.head.length x.ch)).setCell ⟨w.heap.size, 8, none⟩ (.bool tls))).heap[w.heap.size]? = some (.cells #[.slice fa L.length fc, .int .i64 pk, .string pv, .string x.r.meth, .string x.r.host, .string x.r.path, .slice x.aq x.r.query.length x.cq, .slice x.ah x.r.head.length x.ch, .bool tls] 29) from setL_all [.slice fa L.length fc, .int .i64 pk, .string pv, .string x.r.meth, .string x.r.host, .string x.r.path, .slice x.aq x.r.query.length x.cq, .slice x.ah x.r.head.length x.ch, .bool tls] hz rfl)
  have row2 := hide (row_setL (k := 0) (cs := [.slice fa L.length fc, .int .i64 pk, .string pv, .string x.r.meth, .string x.r.host, .string x.r.path, .slice x.aq x.r.query.length x.cq, .slice x.ah x.r.head.length x.ch, .bool tls]) row hz (by decide))
  have own2 := hide (own.setL (k := 0) (cs := [.slice fa L.length fc, .int .i64 pk, .string pv, .string x.r.meth, .string x.r.host, .string x.r.path, .slice x.aq x.r.query.length x.cq, .slice x.ah x.r.head.length x.ch, .bool tls]) hz (by decide))
  have BB2 := hide (setL_below (w := w) (B := w.heap.size) (g := w.heap.size) (Nat.le_refl _) [.slice fa L.length fc, .int .i64 pk, .string pv, .string x.r.meth, .string x.r.host, .string x.r.path, .slice x.aq x.r.query.length x.cq, .slice x.ah x.r.head.length x.ch, .bool tls] _ 0 BB)
  obtain ⟨d0, d1, d2, d3, d4, d5, d6, d7, d8⟩ : _ ∧ _ ∧ _ ∧ _ ∧ _ ∧ _ ∧ _ ∧ _ ∧ _ := ⟨cellN K2.out (i := 0) rfl, cellN K2.out (i := 1) rfl, cellN K2.out (i := 2) rfl, cellN K2.out (i := 3) rfl, cellN K2.out (i := 4) rfl, cellN K2.out (i := 5) rfl, cellN K2.out (i := 6) rfl, cellN K2.out (i := 7) rfl, cellN K2.out (i := 8) rfl⟩
  clear hz row own BB
  clear B1 hb1
  go_wp2_with fail
  have kq : ((((((((((w1.setCell ⟨w.heap.size, 0, none⟩ (.slice fa L.length fc)).setCell ⟨w.heap.size, 1, none⟩ (.int .i64 pk)).setCell ⟨w.heap.size, 2, none⟩ (.string pv)).setCell ⟨w.heap.size, 3, none⟩ (.string x.r.meth)).setCell ⟨w.heap.size, 4, none⟩ (.string x.r.host)).setCell ⟨w.heap.size, 5, none⟩ (.string x.r.path)).setCell ⟨w.heap.size, 6, none⟩ (.slice x.aq x.r.query.length x.cq)).setCell ⟨w.heap.size, 7, none⟩ (.slice x.ah x.r.head.length x.ch)).setCell ⟨w.heap.size, 8, none⟩ (.bool tls))).heap[w.heap.size]? = some (.cells #[.slice fa L.length fc, .int .i64 pk, .string pv, .string x.r.meth, .string x.r.host, .string x.r.path, .slice x.aq x.r.query.length x.cq, .slice x.ah x.r.head.length x.ch, .bool tls] 29) := K2.out
  have rowq : ((((((((((w1.setCell ⟨w.heap.size, 0, none⟩ (.slice fa L.length fc)).setCell ⟨w.heap.size, 1, none⟩ (.int .i64 pk)).setCell ⟨w.heap.size, 2, none⟩ (.string pv)).setCell ⟨w.heap.size, 3, none⟩ (.string x.r.meth)).setCell ⟨w.heap.size, 4, none⟩ (.string x.r.host)).setCell ⟨w.heap.size, 5, none⟩ (.string x.r.path)).setCell ⟨w.heap.size, 6, none⟩ (.slice x.aq x.r.query.length x.cq)).setCell ⟨w.heap.size, 7, none⟩ (.slice x.ah x.r.head.length x.ch)).setCell ⟨w.heap.size, 8, none⟩ (.bool tls))).ownsRow fb 36 8 (.slice fa L.length fc) L.length (EF.flat L) := row2.out
  have ownq : RV.own x ((((((((((w1.setCell ⟨w.heap.size, 0, none⟩ (.slice fa L.length fc)).setCell ⟨w.heap.size, 1, none⟩ (.int .i64 pk)).setCell ⟨w.heap.size, 2, none⟩ (.string pv)).setCell ⟨w.heap.size, 3, none⟩ (.string x.r.meth)).setCell ⟨w.heap.size, 4, none⟩ (.string x.r.host)).setCell ⟨w.heap.size, 5, none⟩ (.string x.r.path)).setCell ⟨w.heap.size, 6, none⟩ (.slice x.aq x.r.query.length x.cq)).setCell ⟨w.heap.size, 7, none⟩ (.slice x.ah x.r.head.length x.ch)).setCell ⟨w.heap.size, 8, none⟩ (.bool tls))) := own2.out
  have BQ : Below w.heap.size w ((((((((((w1.setCell ⟨w.heap.size, 0, none⟩ (.slice fa L.length fc)).setCell ⟨w.heap.size, 1, none⟩ (.int .i64 pk)).setCell ⟨w.heap.size, 2, none⟩ (.string pv)).setCell ⟨w.heap.size, 3, none⟩ (.string x.r.meth)).setCell ⟨w.heap.size, 4, none⟩ (.string x.r.host)).setCell ⟨w.heap.size, 5, none⟩ (.string x.r.path)).setCell ⟨w.heap.size, 6, none⟩ (.slice x.aq x.r.query.length x.cq)).setCell ⟨w.heap.size, 7, none⟩ (.slice x.ah x.r.head.length x.ch)).setCell ⟨w.heap.size, 8, none⟩ (.bool tls))) := BB2.out
  clear K2 row2 own2 BB2 lz z0 z1 z2 z3 z4 z5 z6 z7 z8 d0 d1 d2 d3 d4 d5 d6 d7 d8
  generalize (((((((((w1.setCell ⟨w.heap.size, 0, none⟩ (.slice fa L.length fc)).setCell ⟨w.heap.size, 1, none⟩ (.int .i64 pk)).setCell ⟨w.heap.size, 2, none⟩ (.string pv)).setCell ⟨w.heap.size, 3, none⟩ (.string x.r.meth)).setCell ⟨w.heap.size, 4, none⟩ (.string x.r.host)).setCell ⟨w.heap.size, 5, none⟩ (.string x.r.path)).setCell ⟨w.heap.size, 6, none⟩ (.slice x.aq x.r.query.length x.cq)).setCell ⟨w.heap.size, 7, none⟩ (.slice x.ah x.r.head.length x.ch)).setCell ⟨w.heap.size, 8, none⟩ (.bool tls)) = V at *
  have slq : Sl EF V (.slice fa L.length fc) L := Sl.of_row (E := EF) rfl rowq (fun _ _ => trivial)
  have atq := ownq.at_
  clear rowq ownq
  have CD := hide (do_any (.slice fa L.length fc) L pk pv x V slq okL pv100 atq okx)
  have QC := fun W (h : Below V.heap.size V W) => (show W.cell? ⟨w.heap.size, 0, none⟩ = some (.slice fa L.length fc) ∧ W.cell? ⟨w.heap.size, 1, none⟩ = some (.int .i64 pk) ∧ W.cell? ⟨w.heap.size, 2, none⟩ = some (.string pv) ∧ W.cell? ⟨w.heap.size, 3, none⟩ = some (.string x.r.meth) ∧ W.cell? ⟨w.heap.size, 4, none⟩ = some (.string x.r.host) ∧ W.cell? ⟨w.heap.size, 5, none⟩ = some (.string x.r.path) ∧ W.cell? ⟨w.heap.size, 6, none⟩ = some (.slice x.aq x.r.query.length x.cq) ∧ W.cell? ⟨w.heap.size, 7, none⟩ = some (.slice x.ah x.r.head.length x.ch) ∧ W.cell? ⟨w.heap.size, 8, none⟩ = some (.bool tls) from (blk_below kq h |> fun k => ⟨cellN k (i := 0) rfl, cellN k (i := 1) rfl, cellN k (i := 2) rfl, cellN k (i := 3) rfl, cellN k (i := 4) rfl, cellN k (i := 5) rfl, cellN k (i := 6) rfl, cellN k (i := 7) rfl, cellN k (i := 8) rfl⟩))
  rcases do_cases L pk pv x.r with ⟨er, hdo, her⟩ | ⟨ar, hdo, hall, hhold, hrun, h30⟩
  · rw [hdo] at CD
    dsimp only at CD
    have her' : (er != 0) = true := by rw [bne_iff_ne]; omega
    refine CD.out.mono ?_
    rintro e w2 ⟨a, rfl, ha, owna, hb2⟩
    have BX := hide (bb2 BQ hb2)
    clear QC ha CD owna
    go_wp2_with fail
    refine (fawake_any _).mono ?_
    rintro e w4 ⟨rfl, hb4⟩
    go_wp2_with fail
    go_ret
    exact ⟨rfl, bb2 BX.out (below_box hb4)⟩
  rw [hdo] at CD
  dsimp only at CD
  refine CD.out.mono ?_
  rintro e w2 ⟨a, rfl, ha, owna, hb2⟩
  have HA := hide ha
  have HOKA : Hid (∀ p ∈ a.r.head, okF p) := by
    show ∀ p ∈ a.r.head, okF p
    rw [ha]
    exact run_okF okL okx.head hrun
  clear ha CD
  obtain ⟨W3, hW3⟩ : ∃ z, z = w2.alloc (.cells #[.string a.r.meth, .string a.r.host, .string a.r.path, .slice a.aq a.r.query.length a.cq, .slice a.ah a.r.head.length a.ch] 27) := ⟨_, rfl⟩
  have ka : W3.heap[w2.heap.size]? = some (.cells #[.string a.r.meth, .string a.r.host, .string a.r.path, .slice a.aq a.r.query.length a.cq, .slice a.ah a.r.head.length a.ch] 27) := by rw [hW3]; exact alloc_new _ _
  have ata : a.at_ W3 := by rw [hW3]; exact owna.at_.below ((Below.refl _ _).alloc (Nat.le_refl _) _)
  have B3 : Below V.heap.size V W3 := by rw [hW3]; exact bb2 hb2 ((Below.refl _ _).alloc (Nat.le_refl _) _)
  have AC := fun W (h : Below W3.heap.size W3 W) => (show W.cell? ⟨w2.heap.size, 0, none⟩ = some (.string a.r.meth) ∧ W.cell? ⟨w2.heap.size, 1, none⟩ = some (.string a.r.host) ∧ W.cell? ⟨w2.heap.size, 2, none⟩ = some (.string a.r.path) ∧ W.cell? ⟨w2.heap.size, 3, none⟩ = some (.slice a.aq a.r.query.length a.cq) ∧ W.cell? ⟨w2.heap.size, 4, none⟩ = some (.slice a.ah a.r.head.length a.ch) from (blk_below ka h |> fun k => ⟨cellN k (i := 0) rfl, cellN k (i := 1) rfl, cellN k (i := 2) rfl, cellN k (i := 3) rfl, cellN k (i := 4) rfl⟩))
  have HQC := hide QC
  have HAC := hide AC
  clear QC AC owna hb2 ka
  subst hW3
  go_wp2_with fail
  generalize w2.alloc (.cells #[.string a.r.meth, .string a.r.host, .string a.r.path, .slice a.aq a.r.query.length a.cq, .slice a.ah a.r.head.length a.ch] 27) = W3 at *
  have hlen := slq.len
  obtain ⟨fa', fc', hfe, hcap, hmax, hc⟩ := slq
  injection hfe with hfe1 _ hfe2
  subst hfe1 hfe2
  have HC := hide hc
  have HRUN := hide hrun
  clear hc hrun
  go_loopw [5] (fun i wr => ∃ k : Nat, k ≤ L.length ∧ i = .int .i64 k ∧ Below W3.heap.size W3 wr) (fun i _ => L.length - (intOf i).toNat)
  case atStart => exact ⟨0, Nat.zero_le _, rfl, Below.refl _ _⟩
  case round =>
    obtain ⟨k, hk, rfl, hB⟩ := hrel
    obtain ⟨q0, q1, q2, q3, q4, q5, q6, q7, q8⟩ := HQC.out wr (bb2 B3 hB)
    by_cases hlt : k < L.length
    · have hlt' : (k : Int) < (L.length : Int) := by omega
      obtain ⟨wo, hwo⟩ : ∃ W, W = wr := ⟨_, rfl⟩
      subst hwo
      obtain ⟨_, g, off, rfl, hg, hat⟩ := HC.out k hlt
      have HCM := hide (fun m (hm : m < L.length) W (h : Below V.heap.size V W) => (show EF.At W g (off + m * 8) L[m] from by
        obtain ⟨_, g2, off2, he2, hg2, hat2⟩ := HC.out m hm
        injection he2 with he2
        injection he2 with e1 e2
        subst e1 e2
        exact hat2.below hg2 h))
      obtain ⟨c0, c1, c2, c3, c4, c5, c6, c7⟩ := EF_at (HCM.out k hlt wo (bb2 B3 hB))
      have hmay := may_kind (may_one hall (List.getElem_mem hlt))
      have okk := okL _ (List.getElem_mem hlt)
      have HOWN : Hid (aloneTo L k L[k].name L.length = true → allQ ar.head L[k].name = madeF L[k] (allQ x.r.head L[k].name)) := fun h => run_own hlt (fun j hj hne hk4 => alone_all L.length h j hj hj hne hk4) HRUN.out
      have HAS := hide (fun m (hm : m < L.length) => alone_succ (i := k) (n := L[k].name) hm)
      clear hat
      generalize L[k] = f at *
      obtain ⟨k0, n0, v0, h0, p0, t0, b0, z0⟩ := f
      dsimp only at *
      have hn0 := okk.name
      by_cases hk3 : 3 < k0
      · have hk3' : (3 : Int) < k0 := hk3
        clear HOWN HAS hmay hk3 okk
        go_wp2_with fail
        exact ⟨⟨k + 1, by omega, by go_num, hB.alloc hB.size _⟩, by simp [intOf]; omega⟩
      have hk3' : ¬ (3 : Int) < k0 := hk3
      have hkd : k0 = 1 ∨ k0 = 2 ∨ k0 = 3 := by omega
      have HKD := hide hkd
      clear hmay hkd hk3
      have BWF := hide (hB.alloc hB.size (.cells #[.int .i64 k0, .string n0, .string v0, .string h0, .int .i64 p0, .string t0, .bool b0, .int .i64 z0] 36))
      have KF := hide (alloc_new wo (.cells #[.int .i64 k0, .string n0, .string v0, .string h0, .int .i64 p0, .string t0, .bool b0, .int .i64 z0] 36))
      clear okk
      go_wp2_with fail
      generalize wo.alloc (.cells #[.int .i64 k0, .string n0, .string v0, .string h0, .int .i64 p0, .string t0, .bool b0, .int .i64 z0] 36) = wf at *
      clear q0 q1 q2 q3 q4 q5 q6 q7 q8 c0 c1 c2 c3 c4 c5 c6 c7
      have HQX := hide (fun W (h : Below wf.heap.size wf W) => HQC.out W (bb2 B3 (bb2 BWF.out h)))
      have HFX := hide (fun W (h : Below wf.heap.size wf W) => blk_below KF.out h)
      have HLX := hide (fun m (hm : m < L.length) W (h : Below wf.heap.size wf W) => EF_at (HCM.out m hm W (bb2 B3 (bb2 BWF.out h))))
      have HAX := hide (fun W (h : Below wf.heap.size wf W) => HAC.out W (bb2 BWF.out h))
      generalize wo.heap.size = gf at *
      go_loopw [7, 8] (fun al i2 wr => ∃ m : Nat, m ≤ L.length ∧ i2 = .int .i64 m ∧ al = .bool (aloneTo L k n0 m) ∧ Below wf.heap.size wf wr) (fun _ i2 _ => L.length - (intOf i2).toNat)
      case atStart => exact ⟨0, Nat.zero_le _, rfl, rfl, Below.refl _ _⟩
      case round =>
        obtain ⟨m, hm, rfl, rfl, hI⟩ := hrel
        obtain ⟨q0, q1, q2, q3, q4, q5, q6, q7, q8⟩ := HQX.out wr hI
        by_cases hml : m < L.length
        · have hml' : (m : Int) < (L.length : Int) := by omega
          have HS := hide (HAS.out m hml)
          have D0 := hide (fun W (h : Below wr.heap.size wr W) => HLX.out m hml W (bb2 hI h))
          have E0 := hide (fun W (h : Below wr.heap.size wr W) => HQX.out W (bb2 hI h))
          have F0 := hide (fun W (h : Below wr.heap.size wr W) => HFX.out W (bb2 hI h))
          have CS := fun W => hide (rprSame_any L[m].name n0 W (okL _ (List.getElem_mem hml)).name hn0)
          clear HLX HAX
          generalize L[m].kind = mk at *
          generalize L[m].name = mn at *
          generalize aloneTo L k n0 m = al at *
          cases al
          · rw [Bool.false_and] at HS
            go_wp2_with fail
            refine wp_region_noPanic ?_
            refine wp_region_held_drew (S := fun W => Below (wr).heap.size (wr) W) (by kernel_rfl) ((Below.refl _ _).drew) (fun hHeld => ?_)
            refine wpAnyH_take (i := 0) (v := ?_) (op_at (rest := _) rfl) (by kernel_rfl) (by kernel_rfl) (by kernel_rfl) (fun _ _ _ h => h) (Or.inl ⟨by rfl, ?_⟩) (by assumption) ?_
            rotate_left 1
            · (intro W hSw; (try dsimp only at hSw); go_simp; (try with_reducible rfl))
            try simp only [Act.put, List.setIfInBounds_toArray, List.set_cons_zero, List.set_cons_succ]
            refine wpAnyH_take (i := 1) (v := ?_) (op_at (rest := _) rfl) (by kernel_rfl) (by kernel_rfl) (by kernel_rfl) (fun _ _ _ h => h) (Or.inl ⟨by rfl, ?_⟩) (by assumption) ?_
            rotate_left 1
            · (intro W hSw; (try dsimp only at hSw); go_simp; (try with_reducible rfl))
            try simp only [Act.put, List.setIfInBounds_toArray, List.set_cons_zero, List.set_cons_succ]
            refine wpAnyH_take (i := 2) (v := undef) (op_at (rest := _) rfl) (by kernel_rfl) (by kernel_rfl) (by kernel_rfl) (fun _ _ _ h => h) (Or.inr ⟨by rfl, rfl⟩) (by assumption) ?_
            try simp only [Act.put, List.setIfInBounds_toArray, List.set_cons_zero, List.set_cons_succ]
            refine wpAnyH_take (i := 3) (v := undef) (op_at (rest := _) rfl) (by kernel_rfl) (by kernel_rfl) (by kernel_rfl) (fun _ _ _ h => h) (Or.inr ⟨by rfl, rfl⟩) (by assumption) ?_
            try simp only [Act.put, List.setIfInBounds_toArray, List.set_cons_zero, List.set_cons_succ]
            refine wpAnyH_take (i := 4) (v := undef) (op_at (rest := _) rfl) (by kernel_rfl) (by kernel_rfl) (by kernel_rfl) (fun _ _ _ h => h) (Or.inr ⟨by rfl, rfl⟩) (by assumption) ?_
            try simp only [Act.put, List.setIfInBounds_toArray, List.set_cons_zero, List.set_cons_succ]
            refine wpAnyH_take (i := 5) (v := undef) (op_at (rest := _) rfl) (by kernel_rfl) (by kernel_rfl) (by kernel_rfl) (fun _ _ _ h => h) (Or.inr ⟨by rfl, rfl⟩) (by assumption) ?_
            try simp only [Act.put, List.setIfInBounds_toArray, List.set_cons_zero, List.set_cons_succ]
            refine wpAnyH_take (i := 6) (v := undef) (op_at (rest := _) rfl) (by kernel_rfl) (by kernel_rfl) (by kernel_rfl) (fun _ _ _ h => h) (Or.inr ⟨by rfl, rfl⟩) (by assumption) ?_
            try simp only [Act.put, List.setIfInBounds_toArray, List.set_cons_zero, List.set_cons_succ]
            refine wpAnyH_take (i := 7) (v := undef) (op_at (rest := _) rfl) (by kernel_rfl) (by kernel_rfl) (by kernel_rfl) (fun _ _ _ h => h) (Or.inr ⟨by rfl, rfl⟩) (by assumption) ?_
            try simp only [Act.put, List.setIfInBounds_toArray, List.set_cons_zero, List.set_cons_succ]
            refine wpAnyH_take (i := 8) (v := undef) (op_at (rest := _) rfl) (by kernel_rfl) (by kernel_rfl) (by kernel_rfl) (fun _ _ _ h => h) (Or.inr ⟨by rfl, rfl⟩) (by assumption) ?_
            try simp only [Act.put, List.setIfInBounds_toArray, List.set_cons_zero, List.set_cons_succ]
            refine wpAnyH_take (i := 9) (v := undef) (op_at (rest := _) rfl) (by kernel_rfl) (by kernel_rfl) (by kernel_rfl) (fun _ _ _ h => h) (Or.inr ⟨by rfl, rfl⟩) (by assumption) ?_
            try simp only [Act.put, List.setIfInBounds_toArray, List.set_cons_zero, List.set_cons_succ]
            refine wpAnyH_take (i := 10) (v := undef) (op_at (rest := _) rfl) (by kernel_rfl) (by kernel_rfl) (by kernel_rfl) (fun _ _ _ h => h) (Or.inr ⟨by rfl, rfl⟩) (by assumption) ?_
            try simp only [Act.put, List.setIfInBounds_toArray, List.set_cons_zero, List.set_cons_succ]
            refine wpAnyH_take (i := 11) (v := undef) (op_at (rest := _) rfl) (by kernel_rfl) (by kernel_rfl) (by kernel_rfl) (fun _ _ _ h => h) (Or.inr ⟨by rfl, rfl⟩) (by assumption) ?_
            try simp only [Act.put, List.setIfInBounds_toArray, List.set_cons_zero, List.set_cons_succ]
            refine wpAnyH_take (i := 12) (v := undef) (op_at (rest := _) rfl) (by kernel_rfl) (by kernel_rfl) (by kernel_rfl) (fun _ _ _ h => h) (Or.inr ⟨by rfl, rfl⟩) (by assumption) ?_
            try simp only [Act.put, List.setIfInBounds_toArray, List.set_cons_zero, List.set_cons_succ]
            refine wpAnyH_take (i := 13) (v := undef) (op_at (rest := _) rfl) (by kernel_rfl) (by kernel_rfl) (by kernel_rfl) (fun _ _ _ h => h) (Or.inr ⟨by rfl, rfl⟩) (by assumption) ?_
            try simp only [Act.put, List.setIfInBounds_toArray, List.set_cons_zero, List.set_cons_succ]
            refine wpAnyH_take (i := 14) (v := undef) (op_at (rest := _) rfl) (by kernel_rfl) (by kernel_rfl) (by kernel_rfl) (fun _ _ _ h => h) (Or.inr ⟨by rfl, rfl⟩) (by assumption) ?_
            try simp only [Act.put, List.setIfInBounds_toArray, List.set_cons_zero, List.set_cons_succ]
            refine wpAnyH_take (i := 15) (v := undef) (op_at (rest := _) rfl) (by kernel_rfl) (by kernel_rfl) (by kernel_rfl) (fun _ _ _ h => h) (Or.inr ⟨by rfl, rfl⟩) (by assumption) ?_
            try simp only [Act.put, List.setIfInBounds_toArray, List.set_cons_zero, List.set_cons_succ]
            refine wpAnyH_take (i := 16) (v := undef) (op_at (rest := _) rfl) (by kernel_rfl) (by kernel_rfl) (by kernel_rfl) (fun _ _ _ h => h) (Or.inr ⟨by rfl, rfl⟩) (by assumption) ?_
            try simp only [Act.put, List.setIfInBounds_toArray, List.set_cons_zero, List.set_cons_succ]
            refine wpAnyH_take (i := 17) (v := undef) (op_at (rest := _) rfl) (by kernel_rfl) (by kernel_rfl) (by kernel_rfl) (fun _ _ _ h => h) (Or.inr ⟨by rfl, rfl⟩) (by assumption) ?_
            try simp only [Act.put, List.setIfInBounds_toArray, List.set_cons_zero, List.set_cons_succ]
            refine wpAnyH_take (i := 18) (v := undef) (op_at (rest := _) rfl) (by kernel_rfl) (by kernel_rfl) (by kernel_rfl) (fun _ _ _ h => h) (Or.inr ⟨by rfl, rfl⟩) (by assumption) ?_
            try simp only [Act.put, List.setIfInBounds_toArray, List.set_cons_zero, List.set_cons_succ]
            refine wpAnyH_take (i := 19) (v := undef) (op_at (rest := _) rfl) (by kernel_rfl) (by kernel_rfl) (by kernel_rfl) (fun _ _ _ h => h) (Or.inr ⟨by rfl, rfl⟩) (by assumption) ?_
            try simp only [Act.put, List.setIfInBounds_toArray, List.set_cons_zero, List.set_cons_succ]
            refine wpAnyH_take (i := 20) (v := undef) (op_at (rest := _) rfl) (by kernel_rfl) (by kernel_rfl) (by kernel_rfl) (fun _ _ _ h => h) (Or.inr ⟨by rfl, rfl⟩) (by assumption) ?_
            try simp only [Act.put, List.setIfInBounds_toArray, List.set_cons_zero, List.set_cons_succ]
            refine wpAnyH_take (i := 21) (v := undef) (op_at (rest := _) rfl) (by kernel_rfl) (by kernel_rfl) (by kernel_rfl) (fun _ _ _ h => h) (Or.inr ⟨by rfl, rfl⟩) (by assumption) ?_
            try simp only [Act.put, List.setIfInBounds_toArray, List.set_cons_zero, List.set_cons_succ]
            refine wpAnyH_take (i := 22) (v := undef) (op_at (rest := _) rfl) (by kernel_rfl) (by kernel_rfl) (by kernel_rfl) (fun _ _ _ h => h) (Or.inr ⟨by rfl, rfl⟩) (by assumption) ?_
            try simp only [Act.put, List.setIfInBounds_toArray, List.set_cons_zero, List.set_cons_succ]
            refine wpAnyH_take (i := 23) (v := undef) (op_at (rest := _) rfl) (by kernel_rfl) (by kernel_rfl) (by kernel_rfl) (fun _ _ _ h => h) (Or.inr ⟨by rfl, rfl⟩) (by assumption) ?_
            try simp only [Act.put, List.setIfInBounds_toArray, List.set_cons_zero, List.set_cons_succ]
            refine wpAnyH_take (i := 24) (v := undef) (op_at (rest := _) rfl) (by kernel_rfl) (by kernel_rfl) (by kernel_rfl) (fun _ _ _ h => h) (Or.inr ⟨by rfl, rfl⟩) (by assumption) ?_
            try simp only [Act.put, List.setIfInBounds_toArray, List.set_cons_zero, List.set_cons_succ]
            refine wpAnyH_take (i := 25) (v := undef) (op_at (rest := _) rfl) (by kernel_rfl) (by kernel_rfl) (by kernel_rfl) (fun _ _ _ h => h) (Or.inr ⟨by rfl, rfl⟩) (by assumption) ?_
            try simp only [Act.put, List.setIfInBounds_toArray, List.set_cons_zero, List.set_cons_succ]
            refine wpAnyH_take (i := 26) (v := ?_) (op_at (rest := _) rfl) (by kernel_rfl) (by kernel_rfl) (by kernel_rfl) (fun _ _ _ h => h) (Or.inl ⟨by rfl, ?_⟩) (by assumption) ?_
            rotate_left 1
            · (intro W hSw; (try dsimp only at hSw); go_simp; (try with_reducible rfl))
            try simp only [Act.put, List.setIfInBounds_toArray, List.set_cons_zero, List.set_cons_succ]
            refine wpAnyH_take (i := 27) (v := ?_) (op_at (rest := _) rfl) (by kernel_rfl) (by kernel_rfl) (by kernel_rfl) (fun _ _ _ h => h) (Or.inl ⟨by rfl, ?_⟩) (by assumption) ?_
            rotate_left 1
            · (intro W hSw; (try dsimp only at hSw); go_simp; (try with_reducible rfl))
            try simp only [Act.put, List.setIfInBounds_toArray, List.set_cons_zero, List.set_cons_succ]
            refine wpAnyH_done (by kernel_rfl) ?_ _
            refine NoPanic.normal ?_
            go_wp2_with fail
            exact ⟨⟨m + 1, by omega, by go_num, by rw [HS.out], bb2 hI hHeld⟩, by simp [intOf]; omega⟩
          rw [Bool.true_and] at HS
          by_cases hmk : m = k
          · have e1 : (m == k) = true := by simpa using hmk
            have e2 : ((m : Int) == (k : Int)) = true := by rw [beq_iff_eq]; omega
            rw [e1, Bool.true_or] at HS
            clear hmk
            go_wp2_with fail
            refine wp_region_noPanic ?_
            refine wp_region_held_drew (S := fun W => Below (wr).heap.size (wr) W) (by kernel_rfl) ((Below.refl _ _).drew) (fun hHeld => ?_)
            refine wpAnyH_take (i := 0) (v := ?_) (op_at (rest := _) rfl) (by kernel_rfl) (by kernel_rfl) (by kernel_rfl) (fun _ _ _ h => h) (Or.inl ⟨by rfl, ?_⟩) (by assumption) ?_
            rotate_left 1
            · (intro W hSw; (try dsimp only at hSw); go_simp; (try with_reducible rfl))
            try simp only [Act.put, List.setIfInBounds_toArray, List.set_cons_zero, List.set_cons_succ]
            refine wpAnyH_take (i := 1) (v := ?_) (op_at (rest := _) rfl) (by kernel_rfl) (by kernel_rfl) (by kernel_rfl) (fun _ _ _ h => h) (Or.inl ⟨by rfl, ?_⟩) (by assumption) ?_
            rotate_left 1
            · (intro W hSw; (try dsimp only at hSw); go_simp; (try with_reducible rfl))
            try simp only [Act.put, List.setIfInBounds_toArray, List.set_cons_zero, List.set_cons_succ]
            refine wpAnyH_take (i := 2) (v := ?_) (op_at (rest := _) rfl) (by kernel_rfl) (by kernel_rfl) (by kernel_rfl) (fun _ _ _ h => h) (Or.inl ⟨by rfl, ?_⟩) (by assumption) ?_
            rotate_left 1
            · (intro W hSw; (try dsimp only at hSw); go_simp; (try with_reducible rfl))
            try simp only [Act.put, List.setIfInBounds_toArray, List.set_cons_zero, List.set_cons_succ]
            refine wpAnyH_take (i := 3) (v := ?_) (op_at (rest := _) rfl) (by kernel_rfl) (by kernel_rfl) (by kernel_rfl) (fun _ _ _ h => h) (Or.inl ⟨by rfl, ?_⟩) (by assumption) ?_
            rotate_left 1
            · (intro W hSw; (try dsimp only at hSw); go_simp; (try with_reducible rfl))
            try simp only [Act.put, List.setIfInBounds_toArray, List.set_cons_zero, List.set_cons_succ]
            refine wpAnyH_take (i := 4) (v := ?_) (op_at (rest := _) rfl) (by kernel_rfl) (by kernel_rfl) (by kernel_rfl) (fun _ _ _ h => h) (Or.inl ⟨by rfl, ?_⟩) (by assumption) ?_
            rotate_left 1
            · (intro W hSw; (try dsimp only at hSw); go_simp; (try with_reducible rfl))
            try simp only [Act.put, List.setIfInBounds_toArray, List.set_cons_zero, List.set_cons_succ]
            refine wpAnyH_take (i := 5) (v := ?_) (op_at (rest := _) rfl) (by kernel_rfl) (by kernel_rfl) (by kernel_rfl) (fun _ _ _ h => h) (Or.inl ⟨by rfl, ?_⟩) (by assumption) ?_
            rotate_left 1
            · (intro W hSw; (try dsimp only at hSw); go_simp; (try with_reducible rfl))
            try simp only [Act.put, List.setIfInBounds_toArray, List.set_cons_zero, List.set_cons_succ]
            refine wpAnyH_take (i := 6) (v := undef) (op_at (rest := _) rfl) (by kernel_rfl) (by kernel_rfl) (by kernel_rfl) (fun _ _ _ h => h) (Or.inr ⟨by rfl, rfl⟩) (by assumption) ?_
            try simp only [Act.put, List.setIfInBounds_toArray, List.set_cons_zero, List.set_cons_succ]
            refine wpAnyH_take (i := 7) (v := undef) (op_at (rest := _) rfl) (by kernel_rfl) (by kernel_rfl) (by kernel_rfl) (fun _ _ _ h => h) (Or.inr ⟨by rfl, rfl⟩) (by assumption) ?_
            try simp only [Act.put, List.setIfInBounds_toArray, List.set_cons_zero, List.set_cons_succ]
            refine wpAnyH_take (i := 8) (v := undef) (op_at (rest := _) rfl) (by kernel_rfl) (by kernel_rfl) (by kernel_rfl) (fun _ _ _ h => h) (Or.inr ⟨by rfl, rfl⟩) (by assumption) ?_
            try simp only [Act.put, List.setIfInBounds_toArray, List.set_cons_zero, List.set_cons_succ]
            refine wpAnyH_take (i := 9) (v := undef) (op_at (rest := _) rfl) (by kernel_rfl) (by kernel_rfl) (by kernel_rfl) (fun _ _ _ h => h) (Or.inr ⟨by rfl, rfl⟩) (by assumption) ?_
            try simp only [Act.put, List.setIfInBounds_toArray, List.set_cons_zero, List.set_cons_succ]
            refine wpAnyH_take (i := 10) (v := undef) (op_at (rest := _) rfl) (by kernel_rfl) (by kernel_rfl) (by kernel_rfl) (fun _ _ _ h => h) (Or.inr ⟨by rfl, rfl⟩) (by assumption) ?_
            try simp only [Act.put, List.setIfInBounds_toArray, List.set_cons_zero, List.set_cons_succ]
            refine wpAnyH_take (i := 11) (v := undef) (op_at (rest := _) rfl) (by kernel_rfl) (by kernel_rfl) (by kernel_rfl) (fun _ _ _ h => h) (Or.inr ⟨by rfl, rfl⟩) (by assumption) ?_
            try simp only [Act.put, List.setIfInBounds_toArray, List.set_cons_zero, List.set_cons_succ]
            refine wpAnyH_take (i := 12) (v := undef) (op_at (rest := _) rfl) (by kernel_rfl) (by kernel_rfl) (by kernel_rfl) (fun _ _ _ h => h) (Or.inr ⟨by rfl, rfl⟩) (by assumption) ?_
            try simp only [Act.put, List.setIfInBounds_toArray, List.set_cons_zero, List.set_cons_succ]
            refine wpAnyH_take (i := 13) (v := ?_) (op_at (rest := _) rfl) (by kernel_rfl) (by kernel_rfl) (by kernel_rfl) (fun _ _ _ h => h) (Or.inl ⟨by rfl, ?_⟩) (by assumption) ?_
            rotate_left 1
            · (intro W hSw; (try dsimp only at hSw); go_simp; (try with_reducible rfl))
            try simp only [Act.put, List.setIfInBounds_toArray, List.set_cons_zero, List.set_cons_succ]
            refine wpAnyH_take (i := 14) (v := ?_) (op_at (rest := _) rfl) (by kernel_rfl) (by kernel_rfl) (by kernel_rfl) (fun _ _ _ h => h) (Or.inl ⟨by rfl, ?_⟩) (by assumption) ?_
            rotate_left 1
            · (intro W hSw; (try dsimp only at hSw); go_simp; (try with_reducible rfl))
            try simp only [Act.put, List.setIfInBounds_toArray, List.set_cons_zero, List.set_cons_succ]
            refine wpAnyH_take (i := 15) (v := undef) (op_at (rest := _) rfl) (by kernel_rfl) (by kernel_rfl) (by kernel_rfl) (fun _ _ _ h => h) (Or.inr ⟨by rfl, rfl⟩) (by assumption) ?_
            try simp only [Act.put, List.setIfInBounds_toArray, List.set_cons_zero, List.set_cons_succ]
            refine wpAnyH_take (i := 16) (v := undef) (op_at (rest := _) rfl) (by kernel_rfl) (by kernel_rfl) (by kernel_rfl) (fun _ _ _ h => h) (Or.inr ⟨by rfl, rfl⟩) (by assumption) ?_
            try simp only [Act.put, List.setIfInBounds_toArray, List.set_cons_zero, List.set_cons_succ]
            refine wpAnyH_take (i := 17) (v := undef) (op_at (rest := _) rfl) (by kernel_rfl) (by kernel_rfl) (by kernel_rfl) (fun _ _ _ h => h) (Or.inr ⟨by rfl, rfl⟩) (by assumption) ?_
            try simp only [Act.put, List.setIfInBounds_toArray, List.set_cons_zero, List.set_cons_succ]
            refine wpAnyH_take (i := 18) (v := undef) (op_at (rest := _) rfl) (by kernel_rfl) (by kernel_rfl) (by kernel_rfl) (fun _ _ _ h => h) (Or.inr ⟨by rfl, rfl⟩) (by assumption) ?_
            try simp only [Act.put, List.setIfInBounds_toArray, List.set_cons_zero, List.set_cons_succ]
            refine wpAnyH_take (i := 19) (v := undef) (op_at (rest := _) rfl) (by kernel_rfl) (by kernel_rfl) (by kernel_rfl) (fun _ _ _ h => h) (Or.inr ⟨by rfl, rfl⟩) (by assumption) ?_
            try simp only [Act.put, List.setIfInBounds_toArray, List.set_cons_zero, List.set_cons_succ]
            refine wpAnyH_take (i := 20) (v := undef) (op_at (rest := _) rfl) (by kernel_rfl) (by kernel_rfl) (by kernel_rfl) (fun _ _ _ h => h) (Or.inr ⟨by rfl, rfl⟩) (by assumption) ?_
            try simp only [Act.put, List.setIfInBounds_toArray, List.set_cons_zero, List.set_cons_succ]
            refine wpAnyH_take (i := 21) (v := undef) (op_at (rest := _) rfl) (by kernel_rfl) (by kernel_rfl) (by kernel_rfl) (fun _ _ _ h => h) (Or.inr ⟨by rfl, rfl⟩) (by assumption) ?_
            try simp only [Act.put, List.setIfInBounds_toArray, List.set_cons_zero, List.set_cons_succ]
            refine wpAnyH_take (i := 22) (v := undef) (op_at (rest := _) rfl) (by kernel_rfl) (by kernel_rfl) (by kernel_rfl) (fun _ _ _ h => h) (Or.inr ⟨by rfl, rfl⟩) (by assumption) ?_
            try simp only [Act.put, List.setIfInBounds_toArray, List.set_cons_zero, List.set_cons_succ]
            refine wpAnyH_take (i := 23) (v := undef) (op_at (rest := _) rfl) (by kernel_rfl) (by kernel_rfl) (by kernel_rfl) (fun _ _ _ h => h) (Or.inr ⟨by rfl, rfl⟩) (by assumption) ?_
            try simp only [Act.put, List.setIfInBounds_toArray, List.set_cons_zero, List.set_cons_succ]
            refine wpAnyH_take (i := 24) (v := undef) (op_at (rest := _) rfl) (by kernel_rfl) (by kernel_rfl) (by kernel_rfl) (fun _ _ _ h => h) (Or.inr ⟨by rfl, rfl⟩) (by assumption) ?_
            try simp only [Act.put, List.setIfInBounds_toArray, List.set_cons_zero, List.set_cons_succ]
            refine wpAnyH_take (i := 25) (v := ?_) (op_at (rest := _) rfl) (by kernel_rfl) (by kernel_rfl) (by kernel_rfl) (fun _ _ _ h => h) (Or.inl ⟨by rfl, ?_⟩) (by assumption) ?_
            rotate_left 1
            · (intro W hSw; (try dsimp only at hSw); go_simp; (try with_reducible rfl))
            try simp only [Act.put, List.setIfInBounds_toArray, List.set_cons_zero, List.set_cons_succ]
            refine wpAnyH_take (i := 26) (v := ?_) (op_at (rest := _) rfl) (by kernel_rfl) (by kernel_rfl) (by kernel_rfl) (fun _ _ _ h => h) (Or.inl ⟨by rfl, ?_⟩) (by assumption) ?_
            rotate_left 1
            · (intro W hSw; (try dsimp only at hSw); go_simp; (try with_reducible rfl))
            try simp only [Act.put, List.setIfInBounds_toArray, List.set_cons_zero, List.set_cons_succ]
            refine wpAnyH_take (i := 27) (v := ?_) (op_at (rest := _) rfl) (by kernel_rfl) (by kernel_rfl) (by kernel_rfl) (fun _ _ _ h => h) (Or.inl ⟨by rfl, ?_⟩) (by assumption) ?_
            rotate_left 1
            · (intro W hSw; (try dsimp only at hSw); go_simp; (try with_reducible rfl))
            try simp only [Act.put, List.setIfInBounds_toArray, List.set_cons_zero, List.set_cons_succ]
            refine wpAnyH_done (by kernel_rfl) ?_ _
            refine NoPanic.normal ?_
            go_wp2_with fail
            exact ⟨⟨m + 1, by omega, by go_num, by rw [HS.out], bb2 hI hHeld⟩, by simp [intOf]; omega⟩
          have e1 : (m == k) = false := by simpa using hmk
          have e2 : ((m : Int) == (k : Int)) = false := by rw [beq_eq_false_iff_ne]; omega
          rw [e1, Bool.false_or] at HS
          clear hmk
          by_cases hk4 : 3 < mk
          · have e3 : decide (3 < mk) = true := decide_eq_true hk4
            rw [e3, Bool.true_or] at HS
            clear hk4
            go_wp2_with fail
            refine wp_region_noPanic ?_
            refine wp_region_held_drew (S := fun W => Below (wr).heap.size (wr) W) (by kernel_rfl) ((Below.refl _ _).drew) (fun hHeld => ?_)
            refine wpAnyH_take (i := 0) (v := ?_) (op_at (rest := _) rfl) (by kernel_rfl) (by kernel_rfl) (by kernel_rfl) (fun _ _ _ h => h) (Or.inl ⟨by rfl, ?_⟩) (by assumption) ?_
            rotate_left 1
            · (intro W hSw; (try dsimp only at hSw); go_simp; (try with_reducible rfl))
            try simp only [Act.put, List.setIfInBounds_toArray, List.set_cons_zero, List.set_cons_succ]
            refine wpAnyH_take (i := 1) (v := ?_) (op_at (rest := _) rfl) (by kernel_rfl) (by kernel_rfl) (by kernel_rfl) (fun _ _ _ h => h) (Or.inl ⟨by rfl, ?_⟩) (by assumption) ?_
            rotate_left 1
            · (intro W hSw; (try dsimp only at hSw); go_simp; (try with_reducible rfl))
            try simp only [Act.put, List.setIfInBounds_toArray, List.set_cons_zero, List.set_cons_succ]
            refine wpAnyH_take (i := 2) (v := ?_) (op_at (rest := _) rfl) (by kernel_rfl) (by kernel_rfl) (by kernel_rfl) (fun _ _ _ h => h) (Or.inl ⟨by rfl, ?_⟩) (by assumption) ?_
            rotate_left 1
            · (intro W hSw; (try dsimp only at hSw); go_simp; (try with_reducible rfl))
            try simp only [Act.put, List.setIfInBounds_toArray, List.set_cons_zero, List.set_cons_succ]
            refine wpAnyH_take (i := 3) (v := ?_) (op_at (rest := _) rfl) (by kernel_rfl) (by kernel_rfl) (by kernel_rfl) (fun _ _ _ h => h) (Or.inl ⟨by rfl, ?_⟩) (by assumption) ?_
            rotate_left 1
            · (intro W hSw; (try dsimp only at hSw); go_simp; (try with_reducible rfl))
            try simp only [Act.put, List.setIfInBounds_toArray, List.set_cons_zero, List.set_cons_succ]
            refine wpAnyH_take (i := 4) (v := ?_) (op_at (rest := _) rfl) (by kernel_rfl) (by kernel_rfl) (by kernel_rfl) (fun _ _ _ h => h) (Or.inl ⟨by rfl, ?_⟩) (by assumption) ?_
            rotate_left 1
            · (intro W hSw; (try dsimp only at hSw); go_simp; (try with_reducible rfl))
            try simp only [Act.put, List.setIfInBounds_toArray, List.set_cons_zero, List.set_cons_succ]
            refine wpAnyH_take (i := 5) (v := ?_) (op_at (rest := _) rfl) (by kernel_rfl) (by kernel_rfl) (by kernel_rfl) (fun _ _ _ h => h) (Or.inl ⟨by rfl, ?_⟩) (by assumption) ?_
            rotate_left 1
            · (intro W hSw; (try dsimp only at hSw); go_simp; (try with_reducible rfl))
            try simp only [Act.put, List.setIfInBounds_toArray, List.set_cons_zero, List.set_cons_succ]
            refine wpAnyH_take (i := 6) (v := ?_) (op_at (rest := _) rfl) (by kernel_rfl) (by kernel_rfl) (by kernel_rfl) (fun _ _ _ h => h) (Or.inl ⟨by rfl, ?_⟩) (by assumption) ?_
            rotate_left 1
            · (intro W hSw; (try dsimp only at hSw); go_simp; (try with_reducible rfl))
            try simp only [Act.put, List.setIfInBounds_toArray, List.set_cons_zero, List.set_cons_succ]
            refine wpAnyH_take (i := 7) (v := ?_) (op_at (rest := _) rfl) (by kernel_rfl) (by kernel_rfl) (by kernel_rfl) (fun _ _ _ h => h) (Or.inl ⟨by rfl, ?_⟩) (by assumption) ?_
            rotate_left 1
            · (intro W hSw; (try dsimp only at hSw); obtain ⟨q0, q1, q2, q3, q4, q5, q6, q7, q8⟩ := E0.out W hSw; go_simp; (try with_reducible rfl))
            try simp only [Act.put, List.setIfInBounds_toArray, List.set_cons_zero, List.set_cons_succ]
            refine wpAnyH_take (i := 8) (v := ?_) (op_at (rest := _) rfl) (by kernel_rfl) (by kernel_rfl) (by kernel_rfl) (fun _ _ _ h => h) (Or.inl ⟨by rfl, ?_⟩) (by assumption) ?_
            rotate_left 1
            · (intro W hSw; (try dsimp only at hSw); go_simp; (try with_reducible rfl))
            try simp only [Act.put, List.setIfInBounds_toArray, List.set_cons_zero, List.set_cons_succ]
            refine wpAnyH_take (i := 9) (v := ?_) (op_at (rest := _) rfl) (by kernel_rfl) (by kernel_rfl) (by kernel_rfl) (fun _ _ _ h => h) (Or.inl ⟨by rfl, ?_⟩) (by assumption) ?_
            rotate_left 1
            · (intro W hSw; (try dsimp only at hSw); go_simp; (try with_reducible rfl))
            try simp only [Act.put, List.setIfInBounds_toArray, List.set_cons_zero, List.set_cons_succ]
            refine wpAnyH_take (i := 10) (v := ?_) (op_at (rest := _) rfl) (by kernel_rfl) (by kernel_rfl) (by kernel_rfl) (fun _ _ _ h => h) (Or.inl ⟨by rfl, ?_⟩) (by assumption) ?_
            rotate_left 1
            · (intro W hSw; (try dsimp only at hSw); go_simp; (try with_reducible rfl))
            try simp only [Act.put, List.setIfInBounds_toArray, List.set_cons_zero, List.set_cons_succ]
            refine wpAnyH_take (i := 11) (v := ?_) (op_at (rest := _) rfl) (by kernel_rfl) (by kernel_rfl) (by kernel_rfl) (fun _ _ _ h => h) (Or.inl ⟨by rfl, ?_⟩) (by assumption) ?_
            rotate_left 1
            · (intro W hSw; (try dsimp only at hSw); obtain ⟨d0, d1, d2, d3, d4, d5, d6, d7⟩ := D0.out W hSw; go_simp; (try with_reducible rfl))
            try simp only [Act.put, List.setIfInBounds_toArray, List.set_cons_zero, List.set_cons_succ]
            refine wpAnyH_take (i := 12) (v := ?_) (op_at (rest := _) rfl) (by kernel_rfl) (by kernel_rfl) (by kernel_rfl) (fun _ _ _ h => h) (Or.inl ⟨by rfl, ?_⟩) (by assumption) ?_
            rotate_left 1
            · (intro W hSw; (try dsimp only at hSw); go_simp; (try with_reducible rfl))
            try simp only [Act.put, List.setIfInBounds_toArray, List.set_cons_zero, List.set_cons_succ]
            refine wpAnyH_take (i := 13) (v := ?_) (op_at (rest := _) rfl) (by kernel_rfl) (by kernel_rfl) (by kernel_rfl) (fun _ _ _ h => h) (Or.inl ⟨by rfl, ?_⟩) (by assumption) ?_
            rotate_left 1
            · (intro W hSw; (try dsimp only at hSw); go_simp; (try with_reducible rfl))
            try simp only [Act.put, List.setIfInBounds_toArray, List.set_cons_zero, List.set_cons_succ]
            refine wpAnyH_take (i := 14) (v := ?_) (op_at (rest := _) rfl) (by kernel_rfl) (by kernel_rfl) (by kernel_rfl) (fun _ _ _ h => h) (Or.inl ⟨by rfl, ?_⟩) (by assumption) ?_
            rotate_left 1
            · (intro W hSw; (try dsimp only at hSw); go_simp; (try with_reducible rfl))
            try simp only [Act.put, List.setIfInBounds_toArray, List.set_cons_zero, List.set_cons_succ]
            refine wpAnyH_take (i := 15) (v := undef) (op_at (rest := _) rfl) (by kernel_rfl) (by kernel_rfl) (by kernel_rfl) (fun _ _ _ h => h) (Or.inr ⟨by rfl, rfl⟩) (by assumption) ?_
            try simp only [Act.put, List.setIfInBounds_toArray, List.set_cons_zero, List.set_cons_succ]
            refine wpAnyH_take (i := 16) (v := undef) (op_at (rest := _) rfl) (by kernel_rfl) (by kernel_rfl) (by kernel_rfl) (fun _ _ _ h => h) (Or.inr ⟨by rfl, rfl⟩) (by assumption) ?_
            try simp only [Act.put, List.setIfInBounds_toArray, List.set_cons_zero, List.set_cons_succ]
            refine wpAnyH_take (i := 17) (v := undef) (op_at (rest := _) rfl) (by kernel_rfl) (by kernel_rfl) (by kernel_rfl) (fun _ _ _ h => h) (Or.inr ⟨by rfl, rfl⟩) (by assumption) ?_
            try simp only [Act.put, List.setIfInBounds_toArray, List.set_cons_zero, List.set_cons_succ]
            refine wpAnyH_take (i := 18) (v := undef) (op_at (rest := _) rfl) (by kernel_rfl) (by kernel_rfl) (by kernel_rfl) (fun _ _ _ h => h) (Or.inr ⟨by rfl, rfl⟩) (by assumption) ?_
            try simp only [Act.put, List.setIfInBounds_toArray, List.set_cons_zero, List.set_cons_succ]
            refine wpAnyH_take (i := 19) (v := undef) (op_at (rest := _) rfl) (by kernel_rfl) (by kernel_rfl) (by kernel_rfl) (fun _ _ _ h => h) (Or.inr ⟨by rfl, rfl⟩) (by assumption) ?_
            try simp only [Act.put, List.setIfInBounds_toArray, List.set_cons_zero, List.set_cons_succ]
            refine wpAnyH_take (i := 20) (v := undef) (op_at (rest := _) rfl) (by kernel_rfl) (by kernel_rfl) (by kernel_rfl) (fun _ _ _ h => h) (Or.inr ⟨by rfl, rfl⟩) (by assumption) ?_
            try simp only [Act.put, List.setIfInBounds_toArray, List.set_cons_zero, List.set_cons_succ]
            refine wpAnyH_take (i := 21) (v := undef) (op_at (rest := _) rfl) (by kernel_rfl) (by kernel_rfl) (by kernel_rfl) (fun _ _ _ h => h) (Or.inr ⟨by rfl, rfl⟩) (by assumption) ?_
            try simp only [Act.put, List.setIfInBounds_toArray, List.set_cons_zero, List.set_cons_succ]
            refine wpAnyH_take (i := 22) (v := undef) (op_at (rest := _) rfl) (by kernel_rfl) (by kernel_rfl) (by kernel_rfl) (fun _ _ _ h => h) (Or.inr ⟨by rfl, rfl⟩) (by assumption) ?_
            try simp only [Act.put, List.setIfInBounds_toArray, List.set_cons_zero, List.set_cons_succ]
            refine wpAnyH_take (i := 23) (v := undef) (op_at (rest := _) rfl) (by kernel_rfl) (by kernel_rfl) (by kernel_rfl) (fun _ _ _ h => h) (Or.inr ⟨by rfl, rfl⟩) (by assumption) ?_
            try simp only [Act.put, List.setIfInBounds_toArray, List.set_cons_zero, List.set_cons_succ]
            refine wpAnyH_take (i := 24) (v := undef) (op_at (rest := _) rfl) (by kernel_rfl) (by kernel_rfl) (by kernel_rfl) (fun _ _ _ h => h) (Or.inr ⟨by rfl, rfl⟩) (by assumption) ?_
            try simp only [Act.put, List.setIfInBounds_toArray, List.set_cons_zero, List.set_cons_succ]
            refine wpAnyH_take (i := 25) (v := ?_) (op_at (rest := _) rfl) (by kernel_rfl) (by kernel_rfl) (by kernel_rfl) (fun _ _ _ h => h) (Or.inl ⟨by rfl, ?_⟩) (by assumption) ?_
            rotate_left 1
            · (intro W hSw; (try dsimp only at hSw); go_simp; (try with_reducible rfl))
            try simp only [Act.put, List.setIfInBounds_toArray, List.set_cons_zero, List.set_cons_succ]
            refine wpAnyH_take (i := 26) (v := ?_) (op_at (rest := _) rfl) (by kernel_rfl) (by kernel_rfl) (by kernel_rfl) (fun _ _ _ h => h) (Or.inl ⟨by rfl, ?_⟩) (by assumption) ?_
            rotate_left 1
            · (intro W hSw; (try dsimp only at hSw); go_simp; (try with_reducible rfl))
            try simp only [Act.put, List.setIfInBounds_toArray, List.set_cons_zero, List.set_cons_succ]
            refine wpAnyH_take (i := 27) (v := ?_) (op_at (rest := _) rfl) (by kernel_rfl) (by kernel_rfl) (by kernel_rfl) (fun _ _ _ h => h) (Or.inl ⟨by rfl, ?_⟩) (by assumption) ?_
            rotate_left 1
            · (intro W hSw; (try dsimp only at hSw); go_simp; (try with_reducible rfl))
            try simp only [Act.put, List.setIfInBounds_toArray, List.set_cons_zero, List.set_cons_succ]
            refine wpAnyH_done (by kernel_rfl) ?_ _
            refine NoPanic.normal ?_
            go_wp2_with fail
            exact ⟨⟨m + 1, by omega, by go_num, by rw [HS.out], bb2 hI hHeld⟩, by simp [intOf]; omega⟩
          have e3 : decide (3 < mk) = false := decide_eq_false hk4
          rw [e3, Bool.false_or] at HS
          clear hk4
          cases hs : sameF mn n0
          · rw [hs] at HS CS
            clear hs
            go_wp2_with fail
            refine wp_region_noPanic ?_
            refine wp_region_held_drew (S := fun W => Below (wr).heap.size (wr) W) (by kernel_rfl) ((Below.refl _ _).drew) (fun hHeld => ?_)
            refine wpAnyH_take (i := 0) (v := ?_) (op_at (rest := _) rfl) (by kernel_rfl) (by kernel_rfl) (by kernel_rfl) (fun _ _ _ h => h) (Or.inl ⟨by rfl, ?_⟩) (by assumption) ?_
            rotate_left 1
            · (intro W hSw; (try dsimp only at hSw); go_simp; (try with_reducible rfl))
            try simp only [Act.put, List.setIfInBounds_toArray, List.set_cons_zero, List.set_cons_succ]
            refine wpAnyH_take (i := 1) (v := ?_) (op_at (rest := _) rfl) (by kernel_rfl) (by kernel_rfl) (by kernel_rfl) (fun _ _ _ h => h) (Or.inl ⟨by rfl, ?_⟩) (by assumption) ?_
            rotate_left 1
            · (intro W hSw; (try dsimp only at hSw); go_simp; (try with_reducible rfl))
            try simp only [Act.put, List.setIfInBounds_toArray, List.set_cons_zero, List.set_cons_succ]
            refine wpAnyH_take (i := 2) (v := ?_) (op_at (rest := _) rfl) (by kernel_rfl) (by kernel_rfl) (by kernel_rfl) (fun _ _ _ h => h) (Or.inl ⟨by rfl, ?_⟩) (by assumption) ?_
            rotate_left 1
            · (intro W hSw; (try dsimp only at hSw); go_simp; (try with_reducible rfl))
            try simp only [Act.put, List.setIfInBounds_toArray, List.set_cons_zero, List.set_cons_succ]
            refine wpAnyH_take (i := 3) (v := ?_) (op_at (rest := _) rfl) (by kernel_rfl) (by kernel_rfl) (by kernel_rfl) (fun _ _ _ h => h) (Or.inl ⟨by rfl, ?_⟩) (by assumption) ?_
            rotate_left 1
            · (intro W hSw; (try dsimp only at hSw); go_simp; (try with_reducible rfl))
            try simp only [Act.put, List.setIfInBounds_toArray, List.set_cons_zero, List.set_cons_succ]
            refine wpAnyH_take (i := 4) (v := ?_) (op_at (rest := _) rfl) (by kernel_rfl) (by kernel_rfl) (by kernel_rfl) (fun _ _ _ h => h) (Or.inl ⟨by rfl, ?_⟩) (by assumption) ?_
            rotate_left 1
            · (intro W hSw; (try dsimp only at hSw); go_simp; (try with_reducible rfl))
            try simp only [Act.put, List.setIfInBounds_toArray, List.set_cons_zero, List.set_cons_succ]
            refine wpAnyH_take (i := 5) (v := ?_) (op_at (rest := _) rfl) (by kernel_rfl) (by kernel_rfl) (by kernel_rfl) (fun _ _ _ h => h) (Or.inl ⟨by rfl, ?_⟩) (by assumption) ?_
            rotate_left 1
            · (intro W hSw; (try dsimp only at hSw); go_simp; (try with_reducible rfl))
            try simp only [Act.put, List.setIfInBounds_toArray, List.set_cons_zero, List.set_cons_succ]
            refine wpAnyH_take (i := 6) (v := ?_) (op_at (rest := _) rfl) (by kernel_rfl) (by kernel_rfl) (by kernel_rfl) (fun _ _ _ h => h) (Or.inl ⟨by rfl, ?_⟩) (by assumption) ?_
            rotate_left 1
            · (intro W hSw; (try dsimp only at hSw); go_simp; (try with_reducible rfl))
            try simp only [Act.put, List.setIfInBounds_toArray, List.set_cons_zero, List.set_cons_succ]
            refine wpAnyH_take (i := 7) (v := ?_) (op_at (rest := _) rfl) (by kernel_rfl) (by kernel_rfl) (by kernel_rfl) (fun _ _ _ h => h) (Or.inl ⟨by rfl, ?_⟩) (by assumption) ?_
            rotate_left 1
            · (intro W hSw; (try dsimp only at hSw); obtain ⟨q0, q1, q2, q3, q4, q5, q6, q7, q8⟩ := E0.out W hSw; go_simp; (try with_reducible rfl))
            try simp only [Act.put, List.setIfInBounds_toArray, List.set_cons_zero, List.set_cons_succ]
            refine wpAnyH_take (i := 8) (v := ?_) (op_at (rest := _) rfl) (by kernel_rfl) (by kernel_rfl) (by kernel_rfl) (fun _ _ _ h => h) (Or.inl ⟨by rfl, ?_⟩) (by assumption) ?_
            rotate_left 1
            · (intro W hSw; (try dsimp only at hSw); go_simp; (try with_reducible rfl))
            try simp only [Act.put, List.setIfInBounds_toArray, List.set_cons_zero, List.set_cons_succ]
            refine wpAnyH_take (i := 9) (v := ?_) (op_at (rest := _) rfl) (by kernel_rfl) (by kernel_rfl) (by kernel_rfl) (fun _ _ _ h => h) (Or.inl ⟨by rfl, ?_⟩) (by assumption) ?_
            rotate_left 1
            · (intro W hSw; (try dsimp only at hSw); go_simp; (try with_reducible rfl))
            try simp only [Act.put, List.setIfInBounds_toArray, List.set_cons_zero, List.set_cons_succ]
            refine wpAnyH_take (i := 10) (v := ?_) (op_at (rest := _) rfl) (by kernel_rfl) (by kernel_rfl) (by kernel_rfl) (fun _ _ _ h => h) (Or.inl ⟨by rfl, ?_⟩) (by assumption) ?_
            rotate_left 1
            · (intro W hSw; (try dsimp only at hSw); go_simp; (try with_reducible rfl))
            try simp only [Act.put, List.setIfInBounds_toArray, List.set_cons_zero, List.set_cons_succ]
            refine wpAnyH_take (i := 11) (v := ?_) (op_at (rest := _) rfl) (by kernel_rfl) (by kernel_rfl) (by kernel_rfl) (fun _ _ _ h => h) (Or.inl ⟨by rfl, ?_⟩) (by assumption) ?_
            rotate_left 1
            · (intro W hSw; (try dsimp only at hSw); obtain ⟨d0, d1, d2, d3, d4, d5, d6, d7⟩ := D0.out W hSw; go_simp; (try with_reducible rfl))
            try simp only [Act.put, List.setIfInBounds_toArray, List.set_cons_zero, List.set_cons_succ]
            refine wpAnyH_take (i := 12) (v := ?_) (op_at (rest := _) rfl) (by kernel_rfl) (by kernel_rfl) (by kernel_rfl) (fun _ _ _ h => h) (Or.inl ⟨by rfl, ?_⟩) (by assumption) ?_
            rotate_left 1
            · (intro W hSw; (try dsimp only at hSw); go_simp; (try with_reducible rfl))
            try simp only [Act.put, List.setIfInBounds_toArray, List.set_cons_zero, List.set_cons_succ]
            refine wpAnyH_take (i := 13) (v := ?_) (op_at (rest := _) rfl) (by kernel_rfl) (by kernel_rfl) (by kernel_rfl) (fun _ _ _ h => h) (Or.inl ⟨by rfl, ?_⟩) (by assumption) ?_
            rotate_left 1
            · (intro W hSw; (try dsimp only at hSw); go_simp; (try with_reducible rfl))
            try simp only [Act.put, List.setIfInBounds_toArray, List.set_cons_zero, List.set_cons_succ]
            refine wpAnyH_take (i := 14) (v := ?_) (op_at (rest := _) rfl) (by kernel_rfl) (by kernel_rfl) (by kernel_rfl) (fun _ _ _ h => h) (Or.inl ⟨by rfl, ?_⟩) (by assumption) ?_
            rotate_left 1
            · (intro W hSw; (try dsimp only at hSw); go_simp; (try with_reducible rfl))
            try simp only [Act.put, List.setIfInBounds_toArray, List.set_cons_zero, List.set_cons_succ]
            refine wpAnyH_take (i := 15) (v := ?_) (op_at (rest := _) rfl) (by kernel_rfl) (by kernel_rfl) (by kernel_rfl) (fun _ _ _ h => h) (Or.inl ⟨by rfl, ?_⟩) (by assumption) ?_
            rotate_left 1
            · (intro W hSw; (try dsimp only at hSw); go_simp; (try with_reducible rfl))
            try simp only [Act.put, List.setIfInBounds_toArray, List.set_cons_zero, List.set_cons_succ]
            refine wpAnyH_take (i := 16) (v := ?_) (op_at (rest := _) rfl) (by kernel_rfl) (by kernel_rfl) (by kernel_rfl) (fun _ _ _ h => h) (Or.inl ⟨by rfl, ?_⟩) (by assumption) ?_
            rotate_left 1
            · (intro W hSw; (try dsimp only at hSw); obtain ⟨q0, q1, q2, q3, q4, q5, q6, q7, q8⟩ := E0.out W hSw; go_simp; (try with_reducible rfl))
            try simp only [Act.put, List.setIfInBounds_toArray, List.set_cons_zero, List.set_cons_succ]
            refine wpAnyH_take (i := 17) (v := ?_) (op_at (rest := _) rfl) (by kernel_rfl) (by kernel_rfl) (by kernel_rfl) (fun _ _ _ h => h) (Or.inl ⟨by rfl, ?_⟩) (by assumption) ?_
            rotate_left 1
            · (intro W hSw; (try dsimp only at hSw); go_simp; (try with_reducible rfl))
            try simp only [Act.put, List.setIfInBounds_toArray, List.set_cons_zero, List.set_cons_succ]
            refine wpAnyH_take (i := 18) (v := ?_) (op_at (rest := _) rfl) (by kernel_rfl) (by kernel_rfl) (by kernel_rfl) (fun _ _ _ h => h) (Or.inl ⟨by rfl, ?_⟩) (by assumption) ?_
            rotate_left 1
            · (intro W hSw; (try dsimp only at hSw); go_simp; (try with_reducible rfl))
            try simp only [Act.put, List.setIfInBounds_toArray, List.set_cons_zero, List.set_cons_succ]
            refine wpAnyH_take (i := 19) (v := ?_) (op_at (rest := _) rfl) (by kernel_rfl) (by kernel_rfl) (by kernel_rfl) (fun _ _ _ h => h) (Or.inl ⟨by rfl, ?_⟩) (by assumption) ?_
            rotate_left 1
            · (intro W hSw; (try dsimp only at hSw); go_simp; (try with_reducible rfl))
            try simp only [Act.put, List.setIfInBounds_toArray, List.set_cons_zero, List.set_cons_succ]
            refine wpAnyH_take (i := 20) (v := ?_) (op_at (rest := _) rfl) (by kernel_rfl) (by kernel_rfl) (by kernel_rfl) (fun _ _ _ h => h) (Or.inl ⟨by rfl, ?_⟩) (by assumption) ?_
            rotate_left 1
            · (intro W hSw; (try dsimp only at hSw); obtain ⟨d0, d1, d2, d3, d4, d5, d6, d7⟩ := D0.out W hSw; go_simp; (try with_reducible rfl))
            try simp only [Act.put, List.setIfInBounds_toArray, List.set_cons_zero, List.set_cons_succ]
            refine wpAnyH_take (i := 21) (v := ?_) (op_at (rest := _) rfl) (by kernel_rfl) (by kernel_rfl) (by kernel_rfl) (fun _ _ _ h => h) (Or.inl ⟨by rfl, ?_⟩) (by assumption) ?_
            rotate_left 1
            · (intro W hSw; (try dsimp only at hSw); go_simp; (try with_reducible rfl))
            try simp only [Act.put, List.setIfInBounds_toArray, List.set_cons_zero, List.set_cons_succ]
            refine wpAnyH_take (i := 22) (v := ?_) (op_at (rest := _) rfl) (by kernel_rfl) (by kernel_rfl) (by kernel_rfl) (fun _ _ _ h => h) (Or.inl ⟨by rfl, ?_⟩) (by assumption) ?_
            rotate_left 1
            · (intro W hSw; (try dsimp only at hSw); have ff := cellN (F0.out W hSw) (i := 1) rfl; go_simp; (try with_reducible rfl))
            try simp only [Act.put, List.setIfInBounds_toArray, List.set_cons_zero, List.set_cons_succ]
            refine wpAnyH_ready (rs := [23]) (by kernel_rfl) (by simp) ?_
            refine AllReadyH.cons (op_at (rest := _) rfl) (fun K hK => ?_) AllReadyH.nil
            go_simp
            refine ((CS _).out).mono ?_
            rintro e w19 ⟨rfl, hb19⟩
            go_wp2_with fail
            replace hHeld := hHeld.trans (hb19.mono hHeld.size)
            refine hK.out _ _ hHeld (fun _ => ?_)
            clear hK K
            try simp only [Act.put, List.setIfInBounds_toArray, List.set_cons_zero, List.set_cons_succ]
            refine wpAnyH_take (i := 24) (v := ?_) (op_at (rest := _) rfl) (by kernel_rfl) (by kernel_rfl) (by kernel_rfl) (fun _ _ _ h => h) (Or.inl ⟨by rfl, ?_⟩) (by assumption) ?_
            rotate_left 1
            · (intro W hSw; (try dsimp only at hSw); go_simp; (try with_reducible rfl))
            try simp only [Act.put, List.setIfInBounds_toArray, List.set_cons_zero, List.set_cons_succ]
            refine wpAnyH_take (i := 25) (v := ?_) (op_at (rest := _) rfl) (by kernel_rfl) (by kernel_rfl) (by kernel_rfl) (fun _ _ _ h => h) (Or.inl ⟨by rfl, ?_⟩) (by assumption) ?_
            rotate_left 1
            · (intro W hSw; (try dsimp only at hSw); go_simp; (try with_reducible rfl))
            try simp only [Act.put, List.setIfInBounds_toArray, List.set_cons_zero, List.set_cons_succ]
            refine wpAnyH_take (i := 26) (v := ?_) (op_at (rest := _) rfl) (by kernel_rfl) (by kernel_rfl) (by kernel_rfl) (fun _ _ _ h => h) (Or.inl ⟨by rfl, ?_⟩) (by assumption) ?_
            rotate_left 1
            · (intro W hSw; (try dsimp only at hSw); go_simp; (try with_reducible rfl))
            try simp only [Act.put, List.setIfInBounds_toArray, List.set_cons_zero, List.set_cons_succ]
            refine wpAnyH_take (i := 27) (v := ?_) (op_at (rest := _) rfl) (by kernel_rfl) (by kernel_rfl) (by kernel_rfl) (fun _ _ _ h => h) (Or.inl ⟨by rfl, ?_⟩) (by assumption) ?_
            rotate_left 1
            · (intro W hSw; (try dsimp only at hSw); go_simp; (try with_reducible rfl))
            try simp only [Act.put, List.setIfInBounds_toArray, List.set_cons_zero, List.set_cons_succ]
            refine wpAnyH_done (by kernel_rfl) ?_ _
            refine NoPanic.normal ?_
            go_wp2_with fail
            exact ⟨⟨m + 1, by omega, by go_num, by rw [HS.out]; rfl, bb2 hI hHeld⟩, by simp [intOf]; omega⟩
          · rw [hs] at HS CS
            clear hs
            go_wp2_with fail
            refine wp_region_noPanic ?_
            refine wp_region_held_drew (S := fun W => Below (wr).heap.size (wr) W) (by kernel_rfl) ((Below.refl _ _).drew) (fun hHeld => ?_)
            refine wpAnyH_take (i := 0) (v := ?_) (op_at (rest := _) rfl) (by kernel_rfl) (by kernel_rfl) (by kernel_rfl) (fun _ _ _ h => h) (Or.inl ⟨by rfl, ?_⟩) (by assumption) ?_
            rotate_left 1
            · (intro W hSw; (try dsimp only at hSw); go_simp; (try with_reducible rfl))
            try simp only [Act.put, List.setIfInBounds_toArray, List.set_cons_zero, List.set_cons_succ]
            refine wpAnyH_take (i := 1) (v := ?_) (op_at (rest := _) rfl) (by kernel_rfl) (by kernel_rfl) (by kernel_rfl) (fun _ _ _ h => h) (Or.inl ⟨by rfl, ?_⟩) (by assumption) ?_
            rotate_left 1
            · (intro W hSw; (try dsimp only at hSw); go_simp; (try with_reducible rfl))
            try simp only [Act.put, List.setIfInBounds_toArray, List.set_cons_zero, List.set_cons_succ]
            refine wpAnyH_take (i := 2) (v := ?_) (op_at (rest := _) rfl) (by kernel_rfl) (by kernel_rfl) (by kernel_rfl) (fun _ _ _ h => h) (Or.inl ⟨by rfl, ?_⟩) (by assumption) ?_
            rotate_left 1
            · (intro W hSw; (try dsimp only at hSw); go_simp; (try with_reducible rfl))
            try simp only [Act.put, List.setIfInBounds_toArray, List.set_cons_zero, List.set_cons_succ]
            refine wpAnyH_take (i := 3) (v := ?_) (op_at (rest := _) rfl) (by kernel_rfl) (by kernel_rfl) (by kernel_rfl) (fun _ _ _ h => h) (Or.inl ⟨by rfl, ?_⟩) (by assumption) ?_
            rotate_left 1
            · (intro W hSw; (try dsimp only at hSw); go_simp; (try with_reducible rfl))
            try simp only [Act.put, List.setIfInBounds_toArray, List.set_cons_zero, List.set_cons_succ]
            refine wpAnyH_take (i := 4) (v := ?_) (op_at (rest := _) rfl) (by kernel_rfl) (by kernel_rfl) (by kernel_rfl) (fun _ _ _ h => h) (Or.inl ⟨by rfl, ?_⟩) (by assumption) ?_
            rotate_left 1
            · (intro W hSw; (try dsimp only at hSw); go_simp; (try with_reducible rfl))
            try simp only [Act.put, List.setIfInBounds_toArray, List.set_cons_zero, List.set_cons_succ]
            refine wpAnyH_take (i := 5) (v := ?_) (op_at (rest := _) rfl) (by kernel_rfl) (by kernel_rfl) (by kernel_rfl) (fun _ _ _ h => h) (Or.inl ⟨by rfl, ?_⟩) (by assumption) ?_
            rotate_left 1
            · (intro W hSw; (try dsimp only at hSw); go_simp; (try with_reducible rfl))
            try simp only [Act.put, List.setIfInBounds_toArray, List.set_cons_zero, List.set_cons_succ]
            refine wpAnyH_take (i := 6) (v := ?_) (op_at (rest := _) rfl) (by kernel_rfl) (by kernel_rfl) (by kernel_rfl) (fun _ _ _ h => h) (Or.inl ⟨by rfl, ?_⟩) (by assumption) ?_
            rotate_left 1
            · (intro W hSw; (try dsimp only at hSw); go_simp; (try with_reducible rfl))
            try simp only [Act.put, List.setIfInBounds_toArray, List.set_cons_zero, List.set_cons_succ]
            refine wpAnyH_take (i := 7) (v := ?_) (op_at (rest := _) rfl) (by kernel_rfl) (by kernel_rfl) (by kernel_rfl) (fun _ _ _ h => h) (Or.inl ⟨by rfl, ?_⟩) (by assumption) ?_
            rotate_left 1
            · (intro W hSw; (try dsimp only at hSw); obtain ⟨q0, q1, q2, q3, q4, q5, q6, q7, q8⟩ := E0.out W hSw; go_simp; (try with_reducible rfl))
            try simp only [Act.put, List.setIfInBounds_toArray, List.set_cons_zero, List.set_cons_succ]
            refine wpAnyH_take (i := 8) (v := ?_) (op_at (rest := _) rfl) (by kernel_rfl) (by kernel_rfl) (by kernel_rfl) (fun _ _ _ h => h) (Or.inl ⟨by rfl, ?_⟩) (by assumption) ?_
            rotate_left 1
            · (intro W hSw; (try dsimp only at hSw); go_simp; (try with_reducible rfl))
            try simp only [Act.put, List.setIfInBounds_toArray, List.set_cons_zero, List.set_cons_succ]
            refine wpAnyH_take (i := 9) (v := ?_) (op_at (rest := _) rfl) (by kernel_rfl) (by kernel_rfl) (by kernel_rfl) (fun _ _ _ h => h) (Or.inl ⟨by rfl, ?_⟩) (by assumption) ?_
            rotate_left 1
            · (intro W hSw; (try dsimp only at hSw); go_simp; (try with_reducible rfl))
            try simp only [Act.put, List.setIfInBounds_toArray, List.set_cons_zero, List.set_cons_succ]
            refine wpAnyH_take (i := 10) (v := ?_) (op_at (rest := _) rfl) (by kernel_rfl) (by kernel_rfl) (by kernel_rfl) (fun _ _ _ h => h) (Or.inl ⟨by rfl, ?_⟩) (by assumption) ?_
            rotate_left 1
            · (intro W hSw; (try dsimp only at hSw); go_simp; (try with_reducible rfl))
            try simp only [Act.put, List.setIfInBounds_toArray, List.set_cons_zero, List.set_cons_succ]
            refine wpAnyH_take (i := 11) (v := ?_) (op_at (rest := _) rfl) (by kernel_rfl) (by kernel_rfl) (by kernel_rfl) (fun _ _ _ h => h) (Or.inl ⟨by rfl, ?_⟩) (by assumption) ?_
            rotate_left 1
            · (intro W hSw; (try dsimp only at hSw); obtain ⟨d0, d1, d2, d3, d4, d5, d6, d7⟩ := D0.out W hSw; go_simp; (try with_reducible rfl))
            try simp only [Act.put, List.setIfInBounds_toArray, List.set_cons_zero, List.set_cons_succ]
            refine wpAnyH_take (i := 12) (v := ?_) (op_at (rest := _) rfl) (by kernel_rfl) (by kernel_rfl) (by kernel_rfl) (fun _ _ _ h => h) (Or.inl ⟨by rfl, ?_⟩) (by assumption) ?_
            rotate_left 1
            · (intro W hSw; (try dsimp only at hSw); go_simp; (try with_reducible rfl))
            try simp only [Act.put, List.setIfInBounds_toArray, List.set_cons_zero, List.set_cons_succ]
            refine wpAnyH_take (i := 13) (v := ?_) (op_at (rest := _) rfl) (by kernel_rfl) (by kernel_rfl) (by kernel_rfl) (fun _ _ _ h => h) (Or.inl ⟨by rfl, ?_⟩) (by assumption) ?_
            rotate_left 1
            · (intro W hSw; (try dsimp only at hSw); go_simp; (try with_reducible rfl))
            try simp only [Act.put, List.setIfInBounds_toArray, List.set_cons_zero, List.set_cons_succ]
            refine wpAnyH_take (i := 14) (v := ?_) (op_at (rest := _) rfl) (by kernel_rfl) (by kernel_rfl) (by kernel_rfl) (fun _ _ _ h => h) (Or.inl ⟨by rfl, ?_⟩) (by assumption) ?_
            rotate_left 1
            · (intro W hSw; (try dsimp only at hSw); go_simp; (try with_reducible rfl))
            try simp only [Act.put, List.setIfInBounds_toArray, List.set_cons_zero, List.set_cons_succ]
            refine wpAnyH_take (i := 15) (v := ?_) (op_at (rest := _) rfl) (by kernel_rfl) (by kernel_rfl) (by kernel_rfl) (fun _ _ _ h => h) (Or.inl ⟨by rfl, ?_⟩) (by assumption) ?_
            rotate_left 1
            · (intro W hSw; (try dsimp only at hSw); go_simp; (try with_reducible rfl))
            try simp only [Act.put, List.setIfInBounds_toArray, List.set_cons_zero, List.set_cons_succ]
            refine wpAnyH_take (i := 16) (v := ?_) (op_at (rest := _) rfl) (by kernel_rfl) (by kernel_rfl) (by kernel_rfl) (fun _ _ _ h => h) (Or.inl ⟨by rfl, ?_⟩) (by assumption) ?_
            rotate_left 1
            · (intro W hSw; (try dsimp only at hSw); obtain ⟨q0, q1, q2, q3, q4, q5, q6, q7, q8⟩ := E0.out W hSw; go_simp; (try with_reducible rfl))
            try simp only [Act.put, List.setIfInBounds_toArray, List.set_cons_zero, List.set_cons_succ]
            refine wpAnyH_take (i := 17) (v := ?_) (op_at (rest := _) rfl) (by kernel_rfl) (by kernel_rfl) (by kernel_rfl) (fun _ _ _ h => h) (Or.inl ⟨by rfl, ?_⟩) (by assumption) ?_
            rotate_left 1
            · (intro W hSw; (try dsimp only at hSw); go_simp; (try with_reducible rfl))
            try simp only [Act.put, List.setIfInBounds_toArray, List.set_cons_zero, List.set_cons_succ]
            refine wpAnyH_take (i := 18) (v := ?_) (op_at (rest := _) rfl) (by kernel_rfl) (by kernel_rfl) (by kernel_rfl) (fun _ _ _ h => h) (Or.inl ⟨by rfl, ?_⟩) (by assumption) ?_
            rotate_left 1
            · (intro W hSw; (try dsimp only at hSw); go_simp; (try with_reducible rfl))
            try simp only [Act.put, List.setIfInBounds_toArray, List.set_cons_zero, List.set_cons_succ]
            refine wpAnyH_take (i := 19) (v := ?_) (op_at (rest := _) rfl) (by kernel_rfl) (by kernel_rfl) (by kernel_rfl) (fun _ _ _ h => h) (Or.inl ⟨by rfl, ?_⟩) (by assumption) ?_
            rotate_left 1
            · (intro W hSw; (try dsimp only at hSw); go_simp; (try with_reducible rfl))
            try simp only [Act.put, List.setIfInBounds_toArray, List.set_cons_zero, List.set_cons_succ]
            refine wpAnyH_take (i := 20) (v := ?_) (op_at (rest := _) rfl) (by kernel_rfl) (by kernel_rfl) (by kernel_rfl) (fun _ _ _ h => h) (Or.inl ⟨by rfl, ?_⟩) (by assumption) ?_
            rotate_left 1
            · (intro W hSw; (try dsimp only at hSw); obtain ⟨d0, d1, d2, d3, d4, d5, d6, d7⟩ := D0.out W hSw; go_simp; (try with_reducible rfl))
            try simp only [Act.put, List.setIfInBounds_toArray, List.set_cons_zero, List.set_cons_succ]
            refine wpAnyH_take (i := 21) (v := ?_) (op_at (rest := _) rfl) (by kernel_rfl) (by kernel_rfl) (by kernel_rfl) (fun _ _ _ h => h) (Or.inl ⟨by rfl, ?_⟩) (by assumption) ?_
            rotate_left 1
            · (intro W hSw; (try dsimp only at hSw); go_simp; (try with_reducible rfl))
            try simp only [Act.put, List.setIfInBounds_toArray, List.set_cons_zero, List.set_cons_succ]
            refine wpAnyH_take (i := 22) (v := ?_) (op_at (rest := _) rfl) (by kernel_rfl) (by kernel_rfl) (by kernel_rfl) (fun _ _ _ h => h) (Or.inl ⟨by rfl, ?_⟩) (by assumption) ?_
            rotate_left 1
            · (intro W hSw; (try dsimp only at hSw); have ff := cellN (F0.out W hSw) (i := 1) rfl; go_simp; (try with_reducible rfl))
            try simp only [Act.put, List.setIfInBounds_toArray, List.set_cons_zero, List.set_cons_succ]
            refine wpAnyH_ready (rs := [23]) (by kernel_rfl) (by simp) ?_
            refine AllReadyH.cons (op_at (rest := _) rfl) (fun K hK => ?_) AllReadyH.nil
            go_simp
            refine ((CS _).out).mono ?_
            rintro e w19 ⟨rfl, hb19⟩
            go_wp2_with fail
            replace hHeld := hHeld.trans (hb19.mono hHeld.size)
            refine hK.out _ _ hHeld (fun _ => ?_)
            clear hK K
            try simp only [Act.put, List.setIfInBounds_toArray, List.set_cons_zero, List.set_cons_succ]
            refine wpAnyH_take (i := 24) (v := ?_) (op_at (rest := _) rfl) (by kernel_rfl) (by kernel_rfl) (by kernel_rfl) (fun _ _ _ h => h) (Or.inl ⟨by rfl, ?_⟩) (by assumption) ?_
            rotate_left 1
            · (intro W hSw; (try dsimp only at hSw); go_simp; (try with_reducible rfl))
            try simp only [Act.put, List.setIfInBounds_toArray, List.set_cons_zero, List.set_cons_succ]
            refine wpAnyH_take (i := 25) (v := ?_) (op_at (rest := _) rfl) (by kernel_rfl) (by kernel_rfl) (by kernel_rfl) (fun _ _ _ h => h) (Or.inl ⟨by rfl, ?_⟩) (by assumption) ?_
            rotate_left 1
            · (intro W hSw; (try dsimp only at hSw); go_simp; (try with_reducible rfl))
            try simp only [Act.put, List.setIfInBounds_toArray, List.set_cons_zero, List.set_cons_succ]
            refine wpAnyH_take (i := 26) (v := ?_) (op_at (rest := _) rfl) (by kernel_rfl) (by kernel_rfl) (by kernel_rfl) (fun _ _ _ h => h) (Or.inl ⟨by rfl, ?_⟩) (by assumption) ?_
            rotate_left 1
            · (intro W hSw; (try dsimp only at hSw); go_simp; (try with_reducible rfl))
            try simp only [Act.put, List.setIfInBounds_toArray, List.set_cons_zero, List.set_cons_succ]
            refine wpAnyH_take (i := 27) (v := ?_) (op_at (rest := _) rfl) (by kernel_rfl) (by kernel_rfl) (by kernel_rfl) (fun _ _ _ h => h) (Or.inl ⟨by rfl, ?_⟩) (by assumption) ?_
            rotate_left 1
            · (intro W hSw; (try dsimp only at hSw); go_simp; (try with_reducible rfl))
            try simp only [Act.put, List.setIfInBounds_toArray, List.set_cons_zero, List.set_cons_succ]
            refine wpAnyH_done (by kernel_rfl) ?_ _
            refine NoPanic.normal ?_
            go_wp2_with fail
            exact ⟨⟨m + 1, by omega, by go_num, by rw [HS.out]; rfl, bb2 hI hHeld⟩, by simp [intOf]; omega⟩
        · have hml' : ¬ (m : Int) < (L.length : Int) := by omega
          obtain rfl : m = L.length := by omega
          have hal : a.r.head.length ≤ 1000 := by rw [HA.out]; omega
          have hxl : x.r.head.length ≤ 1000 := by have := okx.hlen; omega
          have ATW := hide (ata.below (bb2 BWF.out hI))
          have ATX := hide (atq.below (bb2 B3 (bb2 BWF.out hI)))
          have E0 := hide (fun W (h : Below wr.heap.size wr W) => HQX.out W (bb2 hI h))
          have F0 := hide (fun W (h : Below wr.heap.size wr W) => HFX.out W (bb2 hI h))
          have A0 := hide (fun W (h : Below wr.heap.size wr W) => HAX.out W (bb2 hI h))
          have LEN1 := hide (len_all a.r.head n0 hal)
          have LEN2 : Hid ((allQ x.r.head n0).length ≤ 1000) := by
            unfold Hid
            have : (allQ x.r.head n0).length ≤ x.r.head.length := by
              show ((x.r.head.filter _).map _).length ≤ _
              rw [List.length_map]
              exact List.length_filter_le _ _
            omega
          have HMD : Hid (aloneTo L k n0 L.length = true → allQ a.r.head n0 = madeF ⟨k0, n0, v0, h0, p0, t0, b0, z0⟩ (allQ x.r.head n0)) := fun h => by rw [HA.out]; exact HOWN.out h
          clear HLX HAS HOWN
          go_wp2_with fail
          refine wp_region_noPanic ?_
          refine wp_region_held_drew (S := fun W => Below (wr).heap.size (wr) W) (by kernel_rfl) ((Below.refl _ _).drew) (fun hHeld => ?_)
          refine wpAnyH_take (i := 0) (v := ?_) (op_at (rest := _) rfl) (by kernel_rfl) (by kernel_rfl) (by kernel_rfl) (fun _ _ _ h => h) (Or.inl ⟨by rfl, ?_⟩) (by assumption) ?_
          rotate_left 1
          · (intro W hSw; (try dsimp only at hSw); obtain ⟨q0, q1, q2, q3, q4, q5, q6, q7, q8⟩ := E0.out W hSw ; obtain ⟨a0, a1, a2, a3, a4⟩ := A0.out W hSw ; have f1 := cellN (F0.out W hSw) (i := 1) rfl; go_simp; (try with_reducible rfl))
          try simp only [Act.put, List.setIfInBounds_toArray, List.set_cons_zero, List.set_cons_succ]
          refine wpAnyH_take (i := 1) (v := ?_) (op_at (rest := _) rfl) (by kernel_rfl) (by kernel_rfl) (by kernel_rfl) (fun _ _ _ h => h) (Or.inl ⟨by rfl, ?_⟩) (by assumption) ?_
          rotate_left 1
          · (intro W hSw; (try dsimp only at hSw); obtain ⟨q0, q1, q2, q3, q4, q5, q6, q7, q8⟩ := E0.out W hSw ; obtain ⟨a0, a1, a2, a3, a4⟩ := A0.out W hSw ; have f1 := cellN (F0.out W hSw) (i := 1) rfl; go_simp; (try with_reducible rfl))
          try simp only [Act.put, List.setIfInBounds_toArray, List.set_cons_zero, List.set_cons_succ]
          refine wpAnyH_take (i := 2) (v := ?_) (op_at (rest := _) rfl) (by kernel_rfl) (by kernel_rfl) (by kernel_rfl) (fun _ _ _ h => h) (Or.inl ⟨by rfl, ?_⟩) (by assumption) ?_
          rotate_left 1
          · (intro W hSw; (try dsimp only at hSw); obtain ⟨q0, q1, q2, q3, q4, q5, q6, q7, q8⟩ := E0.out W hSw ; obtain ⟨a0, a1, a2, a3, a4⟩ := A0.out W hSw ; have f1 := cellN (F0.out W hSw) (i := 1) rfl; go_simp; (try with_reducible rfl))
          try simp only [Act.put, List.setIfInBounds_toArray, List.set_cons_zero, List.set_cons_succ]
          refine wpAnyH_take (i := 3) (v := ?_) (op_at (rest := _) rfl) (by kernel_rfl) (by kernel_rfl) (by kernel_rfl) (fun _ _ _ h => h) (Or.inl ⟨by rfl, ?_⟩) (by assumption) ?_
          rotate_left 1
          · (intro W hSw; (try dsimp only at hSw); obtain ⟨q0, q1, q2, q3, q4, q5, q6, q7, q8⟩ := E0.out W hSw ; obtain ⟨a0, a1, a2, a3, a4⟩ := A0.out W hSw ; have f1 := cellN (F0.out W hSw) (i := 1) rfl; go_simp; (try with_reducible rfl))
          try simp only [Act.put, List.setIfInBounds_toArray, List.set_cons_zero, List.set_cons_succ]
          refine wpAnyH_take (i := 5) (v := ?_) (op_at (rest := _) rfl) (by kernel_rfl) (by kernel_rfl) (by kernel_rfl) (fun _ _ _ h => h) (Or.inl ⟨by rfl, ?_⟩) (by assumption) ?_
          rotate_left 1
          · (intro W hSw; (try dsimp only at hSw); obtain ⟨q0, q1, q2, q3, q4, q5, q6, q7, q8⟩ := E0.out W hSw ; obtain ⟨a0, a1, a2, a3, a4⟩ := A0.out W hSw ; have f1 := cellN (F0.out W hSw) (i := 1) rfl; go_simp; (try with_reducible rfl))
          try simp only [Act.put, List.setIfInBounds_toArray, List.set_cons_zero, List.set_cons_succ]
          refine wpAnyH_take (i := 6) (v := ?_) (op_at (rest := _) rfl) (by kernel_rfl) (by kernel_rfl) (by kernel_rfl) (fun _ _ _ h => h) (Or.inl ⟨by rfl, ?_⟩) (by assumption) ?_
          rotate_left 1
          · (intro W hSw; (try dsimp only at hSw); obtain ⟨q0, q1, q2, q3, q4, q5, q6, q7, q8⟩ := E0.out W hSw ; obtain ⟨a0, a1, a2, a3, a4⟩ := A0.out W hSw ; have f1 := cellN (F0.out W hSw) (i := 1) rfl; go_simp; (try with_reducible rfl))
          try simp only [Act.put, List.setIfInBounds_toArray, List.set_cons_zero, List.set_cons_succ]
          refine wpAnyH_take (i := 7) (v := ?_) (op_at (rest := _) rfl) (by kernel_rfl) (by kernel_rfl) (by kernel_rfl) (fun _ _ _ h => h) (Or.inl ⟨by rfl, ?_⟩) (by assumption) ?_
          rotate_left 1
          · (intro W hSw; (try dsimp only at hSw); obtain ⟨q0, q1, q2, q3, q4, q5, q6, q7, q8⟩ := E0.out W hSw ; obtain ⟨a0, a1, a2, a3, a4⟩ := A0.out W hSw ; have f1 := cellN (F0.out W hSw) (i := 1) rfl; go_simp; (try with_reducible rfl))
          try simp only [Act.put, List.setIfInBounds_toArray, List.set_cons_zero, List.set_cons_succ]
          refine wpAnyH_take (i := 8) (v := ?_) (op_at (rest := _) rfl) (by kernel_rfl) (by kernel_rfl) (by kernel_rfl) (fun _ _ _ h => h) (Or.inl ⟨by rfl, ?_⟩) (by assumption) ?_
          rotate_left 1
          · (intro W hSw; (try dsimp only at hSw); obtain ⟨q0, q1, q2, q3, q4, q5, q6, q7, q8⟩ := E0.out W hSw ; obtain ⟨a0, a1, a2, a3, a4⟩ := A0.out W hSw ; have f1 := cellN (F0.out W hSw) (i := 1) rfl; go_simp; (try with_reducible rfl))
          try simp only [Act.put, List.setIfInBounds_toArray, List.set_cons_zero, List.set_cons_succ]
          refine wpAnyH_take (i := 9) (v := ?_) (op_at (rest := _) rfl) (by kernel_rfl) (by kernel_rfl) (by kernel_rfl) (fun _ _ _ h => h) (Or.inl ⟨by rfl, ?_⟩) (by assumption) ?_
          rotate_left 1
          · (intro W hSw; (try dsimp only at hSw); obtain ⟨q0, q1, q2, q3, q4, q5, q6, q7, q8⟩ := E0.out W hSw ; obtain ⟨a0, a1, a2, a3, a4⟩ := A0.out W hSw ; have f1 := cellN (F0.out W hSw) (i := 1) rfl; go_simp; (try with_reducible rfl))
          try simp only [Act.put, List.setIfInBounds_toArray, List.set_cons_zero, List.set_cons_succ]
          refine wpAnyH_ready (rs := [4]) (by kernel_rfl) (by simp) ?_
          refine AllReadyH.cons (op_at (rest := _) rfl) (fun K hK => ?_) AllReadyH.nil
          go_simp
          refine (rall_any n0 _ a.r.head _ hn0 (ATW.out.2.below hHeld) HOKA.out hal).mono ?_
          rintro e w21 ⟨v8, rfl, st8, hb21⟩
          go_wp2_with fail
          replace hHeld := hHeld.trans (hb21.mono hHeld.size)
          refine hK.out _ _ hHeld (fun _ => ?_)
          clear hK K
          try simp only [Act.put, List.setIfInBounds_toArray, List.set_cons_zero, List.set_cons_succ]
          refine wpAnyH_ready (rs := [10]) (by kernel_rfl) (by simp) ?_
          refine AllReadyH.cons (op_at (rest := _) rfl) (fun K hK => ?_) AllReadyH.nil
          go_simp
          refine (rall_any n0 _ x.r.head _ hn0 (ATX.out.2.below hHeld) okx.head hxl).mono ?_
          rintro e w22 ⟨v9, rfl, st9, hb22⟩
          go_wp2_with fail
          replace hHeld := hHeld.trans (hb22.mono hHeld.size)
          refine hK.out _ _ hHeld (fun _ => ?_)
          clear hK K
          try simp only [Act.put, List.setIfInBounds_toArray, List.set_cons_zero, List.set_cons_succ]
          refine wpAnyH_take (i := 11) (v := ?_) (op_at (rest := _) rfl) (by kernel_rfl) (by kernel_rfl) (by kernel_rfl) (fun _ _ _ h => h) (Or.inl ⟨by rfl, ?_⟩) (by assumption) ?_
          rotate_left 1
          · (intro W hSw; (try dsimp only at hSw); go_simp; (try with_reducible rfl))
          try simp only [Act.put, List.setIfInBounds_toArray, List.set_cons_zero, List.set_cons_succ]
          refine wpAnyH_take (i := 12) (v := ?_) (op_at (rest := _) rfl) (by kernel_rfl) (by kernel_rfl) (by kernel_rfl) (fun _ _ _ h => h) (Or.inl ⟨by rfl, ?_⟩) (by assumption) ?_
          rotate_left 1
          · (intro W hSw; (try dsimp only at hSw); go_simp; (try with_reducible rfl))
          try simp only [Act.put, List.setIfInBounds_toArray, List.set_cons_zero, List.set_cons_succ]
          refine wpAnyH_done (by kernel_rfl) ?_ _
          refine NoPanic.normal ?_
          replace st8 := st8.below hb22
          have ST8 := hide st8
          have ST9 := hide st9
          obtain ⟨a8, c8, rfl, _⟩ := st8
          obtain ⟨a9, c9, rfl, _⟩ := st9
          have F1 := hide (fun W (h : Below w22.heap.size w22 W) => F0.out W (bb2 hHeld h))
          have BN := hide (bb2 BWF.out (bb2 hI hHeld))
          clear E0 F0 A0 ATW ATX hHeld hb21 hb22 hal hxl
          generalize allQ a.r.head n0 = AL at *
          generalize allQ x.r.head n0 = WS at *
          generalize aloneTo L k n0 L.length = al at *
          cases al
          · clear HMD
            go_wp2_with fail
            exact ⟨⟨k + 1, by omega, by go_num, BN.out⟩, by simp [intOf]; omega⟩
          have HM2 := hide (HMD.out rfl)
          clear HMD
          have f8 := F1.out w22 (Below.refl _ _)
          obtain ⟨f0, f1, f2⟩ : _ ∧ _ ∧ _ := ⟨cellN f8 (i := 0) rfl, cellN f8 (i := 1) rfl, cellN f8 (i := 2) rfl⟩
          rcases HKD.out with rfl | rfl | rfl
          · have HEQ : Hid (AL = [v0]) := HM2.out
            have f9 := F1.out _ ((Below.refl w22.heap.size w22).alloc (Nat.le_refl _) (.cells #[.string v0] 9))
            clear HM2
            go_wp2_with fail
            refine (same_yes _ _ _ AL [v0] (ST8.out.below ((Below.refl _ _).alloc (Nat.le_refl _) _)) (Strs.at1 w22 _ rfl v0) LEN1.out HEQ.out).mono ?_
            rintro e w23 ⟨rfl, hb23⟩
            have b23 := below_box hb23
            have g8 := F1.out w23 b23
            obtain ⟨g0, g1, g2⟩ : _ ∧ _ ∧ _ := ⟨cellN g8 (i := 0) rfl, cellN g8 (i := 1) rfl, cellN g8 (i := 2) rfl⟩
            clear f0 f1 f2 f8 f9
            go_wp2_with fail
            refine wp_region_noPanic ?_
            refine wp_region_held_drew (S := fun W => Below (w23).heap.size (w23) W) (by kernel_rfl) ((Below.refl _ _).drew) (fun hHeld => ?_)
            refine wpAnyH_take (i := 0) (v := ?_) (op_at (rest := _) rfl) (by kernel_rfl) (by kernel_rfl) (by kernel_rfl) (fun _ _ _ h => h) (Or.inl ⟨by rfl, ?_⟩) (by assumption) ?_
            rotate_left 1
            · (intro W hSw; (try dsimp only at hSw); have gg := cellN (F1.out W (bb2 b23 hSw)) (i := 0) rfl; go_simp; (try with_reducible rfl))
            try simp only [Act.put, List.setIfInBounds_toArray, List.set_cons_zero, List.set_cons_succ]
            refine wpAnyH_take (i := 1) (v := ?_) (op_at (rest := _) rfl) (by kernel_rfl) (by kernel_rfl) (by kernel_rfl) (fun _ _ _ h => h) (Or.inl ⟨by rfl, ?_⟩) (by assumption) ?_
            rotate_left 1
            · (intro W hSw; (try dsimp only at hSw); have gg := cellN (F1.out W (bb2 b23 hSw)) (i := 0) rfl; go_simp; (try with_reducible rfl))
            try simp only [Act.put, List.setIfInBounds_toArray, List.set_cons_zero, List.set_cons_succ]
            refine wpAnyH_take (i := 2) (v := ?_) (op_at (rest := _) rfl) (by kernel_rfl) (by kernel_rfl) (by kernel_rfl) (fun _ _ _ h => h) (Or.inl ⟨by rfl, ?_⟩) (by assumption) ?_
            rotate_left 1
            · (intro W hSw; (try dsimp only at hSw); have gg := cellN (F1.out W (bb2 b23 hSw)) (i := 0) rfl; go_simp; (try with_reducible rfl))
            try simp only [Act.put, List.setIfInBounds_toArray, List.set_cons_zero, List.set_cons_succ]
            refine wpAnyH_take (i := 3) (v := ?_) (op_at (rest := _) rfl) (by kernel_rfl) (by kernel_rfl) (by kernel_rfl) (fun _ _ _ h => h) (Or.inl ⟨by rfl, ?_⟩) (by assumption) ?_
            rotate_left 1
            · (intro W hSw; (try dsimp only at hSw); have gg := cellN (F1.out W (bb2 b23 hSw)) (i := 0) rfl; go_simp; (try with_reducible rfl))
            try simp only [Act.put, List.setIfInBounds_toArray, List.set_cons_zero, List.set_cons_succ]
            refine wpAnyH_take (i := 4) (v := undef) (op_at (rest := _) rfl) (by kernel_rfl) (by kernel_rfl) (by kernel_rfl) (fun _ _ _ h => h) (Or.inr ⟨by rfl, rfl⟩) (by assumption) ?_
            try simp only [Act.put, List.setIfInBounds_toArray, List.set_cons_zero, List.set_cons_succ]
            refine wpAnyH_take (i := 5) (v := undef) (op_at (rest := _) rfl) (by kernel_rfl) (by kernel_rfl) (by kernel_rfl) (fun _ _ _ h => h) (Or.inr ⟨by rfl, rfl⟩) (by assumption) ?_
            try simp only [Act.put, List.setIfInBounds_toArray, List.set_cons_zero, List.set_cons_succ]
            refine wpAnyH_take (i := 6) (v := undef) (op_at (rest := _) rfl) (by kernel_rfl) (by kernel_rfl) (by kernel_rfl) (fun _ _ _ h => h) (Or.inr ⟨by rfl, rfl⟩) (by assumption) ?_
            try simp only [Act.put, List.setIfInBounds_toArray, List.set_cons_zero, List.set_cons_succ]
            refine wpAnyH_take (i := 7) (v := undef) (op_at (rest := _) rfl) (by kernel_rfl) (by kernel_rfl) (by kernel_rfl) (fun _ _ _ h => h) (Or.inr ⟨by rfl, rfl⟩) (by assumption) ?_
            try simp only [Act.put, List.setIfInBounds_toArray, List.set_cons_zero, List.set_cons_succ]
            refine wpAnyH_take (i := 8) (v := undef) (op_at (rest := _) rfl) (by kernel_rfl) (by kernel_rfl) (by kernel_rfl) (fun _ _ _ h => h) (Or.inr ⟨by rfl, rfl⟩) (by assumption) ?_
            try simp only [Act.put, List.setIfInBounds_toArray, List.set_cons_zero, List.set_cons_succ]
            refine wpAnyH_take (i := 9) (v := undef) (op_at (rest := _) rfl) (by kernel_rfl) (by kernel_rfl) (by kernel_rfl) (fun _ _ _ h => h) (Or.inr ⟨by rfl, rfl⟩) (by assumption) ?_
            try simp only [Act.put, List.setIfInBounds_toArray, List.set_cons_zero, List.set_cons_succ]
            refine wpAnyH_take (i := 10) (v := undef) (op_at (rest := _) rfl) (by kernel_rfl) (by kernel_rfl) (by kernel_rfl) (fun _ _ _ h => h) (Or.inr ⟨by rfl, rfl⟩) (by assumption) ?_
            try simp only [Act.put, List.setIfInBounds_toArray, List.set_cons_zero, List.set_cons_succ]
            refine wpAnyH_take (i := 11) (v := undef) (op_at (rest := _) rfl) (by kernel_rfl) (by kernel_rfl) (by kernel_rfl) (fun _ _ _ h => h) (Or.inr ⟨by rfl, rfl⟩) (by assumption) ?_
            try simp only [Act.put, List.setIfInBounds_toArray, List.set_cons_zero, List.set_cons_succ]
            refine wpAnyH_take (i := 12) (v := undef) (op_at (rest := _) rfl) (by kernel_rfl) (by kernel_rfl) (by kernel_rfl) (fun _ _ _ h => h) (Or.inr ⟨by rfl, rfl⟩) (by assumption) ?_
            try simp only [Act.put, List.setIfInBounds_toArray, List.set_cons_zero, List.set_cons_succ]
            refine wpAnyH_take (i := 13) (v := undef) (op_at (rest := _) rfl) (by kernel_rfl) (by kernel_rfl) (by kernel_rfl) (fun _ _ _ h => h) (Or.inr ⟨by rfl, rfl⟩) (by assumption) ?_
            try simp only [Act.put, List.setIfInBounds_toArray, List.set_cons_zero, List.set_cons_succ]
            refine wpAnyH_take (i := 14) (v := ?_) (op_at (rest := _) rfl) (by kernel_rfl) (by kernel_rfl) (by kernel_rfl) (fun _ _ _ h => h) (Or.inl ⟨by rfl, ?_⟩) (by assumption) ?_
            rotate_left 1
            · (intro W hSw; (try dsimp only at hSw); go_simp; (try with_reducible rfl))
            try simp only [Act.put, List.setIfInBounds_toArray, List.set_cons_zero, List.set_cons_succ]
            refine wpAnyH_take (i := 15) (v := ?_) (op_at (rest := _) rfl) (by kernel_rfl) (by kernel_rfl) (by kernel_rfl) (fun _ _ _ h => h) (Or.inl ⟨by rfl, ?_⟩) (by assumption) ?_
            rotate_left 1
            · (intro W hSw; (try dsimp only at hSw); go_simp; (try with_reducible rfl))
            try simp only [Act.put, List.setIfInBounds_toArray, List.set_cons_zero, List.set_cons_succ]
            refine wpAnyH_done (by kernel_rfl) ?_ _
            refine NoPanic.normal ?_
            go_wp2_with fail
            exact ⟨⟨k + 1, by omega, by go_num, bb2 BN.out (bb2 b23 hHeld)⟩, by simp [intOf]; omega⟩
          · have HEQ : Hid (AL = WS ++ [v0]) := HM2.out
            clear HM2
            go_wp2_with fail
            refine wp_region_noPanic ?_
            refine wp_region_held_drew (S := fun W => Below (w22).heap.size (w22) W) (by kernel_rfl) ((Below.refl _ _).drew) (fun hHeld => ?_)
            refine wpAnyH_take (i := 0) (v := ?_) (op_at (rest := _) rfl) (by kernel_rfl) (by kernel_rfl) (by kernel_rfl) (fun _ _ _ h => h) (Or.inl ⟨by rfl, ?_⟩) (by assumption) ?_
            rotate_left 1
            · (intro W hSw; (try dsimp only at hSw); have gg := cellN (F1.out W hSw) (i := 0) rfl; go_simp; (try with_reducible rfl))
            try simp only [Act.put, List.setIfInBounds_toArray, List.set_cons_zero, List.set_cons_succ]
            refine wpAnyH_take (i := 1) (v := ?_) (op_at (rest := _) rfl) (by kernel_rfl) (by kernel_rfl) (by kernel_rfl) (fun _ _ _ h => h) (Or.inl ⟨by rfl, ?_⟩) (by assumption) ?_
            rotate_left 1
            · (intro W hSw; (try dsimp only at hSw); have gg := cellN (F1.out W hSw) (i := 0) rfl; go_simp; (try with_reducible rfl))
            try simp only [Act.put, List.setIfInBounds_toArray, List.set_cons_zero, List.set_cons_succ]
            refine wpAnyH_take (i := 2) (v := ?_) (op_at (rest := _) rfl) (by kernel_rfl) (by kernel_rfl) (by kernel_rfl) (fun _ _ _ h => h) (Or.inl ⟨by rfl, ?_⟩) (by assumption) ?_
            rotate_left 1
            · (intro W hSw; (try dsimp only at hSw); have gg := cellN (F1.out W hSw) (i := 0) rfl; go_simp; (try with_reducible rfl))
            try simp only [Act.put, List.setIfInBounds_toArray, List.set_cons_zero, List.set_cons_succ]
            refine wpAnyH_take (i := 3) (v := ?_) (op_at (rest := _) rfl) (by kernel_rfl) (by kernel_rfl) (by kernel_rfl) (fun _ _ _ h => h) (Or.inl ⟨by rfl, ?_⟩) (by assumption) ?_
            rotate_left 1
            · (intro W hSw; (try dsimp only at hSw); have gg := cellN (F1.out W hSw) (i := 0) rfl; go_simp; (try with_reducible rfl))
            try simp only [Act.put, List.setIfInBounds_toArray, List.set_cons_zero, List.set_cons_succ]
            refine wpAnyH_take (i := 4) (v := ?_) (op_at (rest := _) rfl) (by kernel_rfl) (by kernel_rfl) (by kernel_rfl) (fun _ _ _ h => h) (Or.inl ⟨by rfl, ?_⟩) (by assumption) ?_
            rotate_left 1
            · (intro W hSw; (try dsimp only at hSw); go_simp; (try with_reducible rfl))
            try simp only [Act.put, List.setIfInBounds_toArray, List.set_cons_zero, List.set_cons_succ]
            refine wpAnyH_take (i := 6) (v := ?_) (op_at (rest := _) rfl) (by kernel_rfl) (by kernel_rfl) (by kernel_rfl) (fun _ _ _ h => h) (Or.inl ⟨by rfl, ?_⟩) (by assumption) ?_
            rotate_left 1
            · (intro W hSw; (try dsimp only at hSw); go_simp; (try with_reducible rfl))
            try simp only [Act.put, List.setIfInBounds_toArray, List.set_cons_zero, List.set_cons_succ]
            refine wpAnyH_take (i := 8) (v := ?_) (op_at (rest := _) rfl) (by kernel_rfl) (by kernel_rfl) (by kernel_rfl) (fun _ _ _ h => h) (Or.inl ⟨by rfl, ?_⟩) (by assumption) ?_
            rotate_left 1
            · (intro W hSw; (try dsimp only at hSw); go_simp; (try with_reducible rfl))
            try simp only [Act.put, List.setIfInBounds_toArray, List.set_cons_zero, List.set_cons_succ]
            refine wpAnyH_take (i := 9) (v := ?_) (op_at (rest := _) rfl) (by kernel_rfl) (by kernel_rfl) (by kernel_rfl) (fun _ _ _ h => h) (Or.inl ⟨by rfl, ?_⟩) (by assumption) ?_
            rotate_left 1
            · (intro W hSw; (try dsimp only at hSw); have gg := cellN (F1.out W hSw) (i := 2) rfl; go_simp; (try with_reducible rfl))
            try simp only [Act.put, List.setIfInBounds_toArray, List.set_cons_zero, List.set_cons_succ]
            refine wpAnyH_ready (rs := [5, 10]) (by kernel_rfl) (by simp) ?_
            refine AllReadyH.cons (op_at (rest := _) rfl) (fun K hK => ?_) (AllReadyH.cons (op_at (rest := _) rfl) (fun K hK => ?_) AllReadyH.nil)
            · go_simp
              have R5 : (w22.drew.alloc (.cells #[] 9)).ownsRow (w22.heap.size) 9 1 (.slice (some ⟨w22.heap.size, 0, none⟩) 0 0) 0 (([] : List ByteArray).map Value.string) := owns_emptyT 9 1 w22.drew _ (by first | rfl | simp)
              have hA5 := hHeld.alloc hHeld.size (.cells #[] 9)
              refine hK.out _ _ hA5 (fun _ => ?_)
              clear hK K
              try simp only [Act.put, List.setIfInBounds_toArray, List.set_cons_zero, List.set_cons_succ]
              refine wpAnyH_ready (rs := [7, 10]) (by kernel_rfl) (by simp) ?_
              refine AllReadyH.cons (op_at (rest := _) rfl) (fun K hK => ?_) (AllReadyH.cons (op_at (rest := _) rfl) (fun K hK => ?_) AllReadyH.nil)
              · refine step_append_strs_g _ _ _ rfl (by rfl) (w22.heap.size) _ 0 [] rfl (R5) _ _ rfl (ST9.out.below hA5) (by have := LEN2.out; omega) (hA5.size) ?_
                intro v7 w7 r7 g7
                have hA7 := hA5.grown g7 hA5.size (fun j e => ownBlock_ge (R5) e)
                refine hK.out _ _ hA7 (fun _ => ?_)
                clear hK K
                try simp only [Act.put, List.setIfInBounds_toArray, List.set_cons_zero, List.set_cons_succ]
                refine wpAnyH_ready (rs := [10]) (by kernel_rfl) (by simp) ?_
                refine AllReadyH.cons (op_at (rest := _) rfl) (fun K hK => ?_) AllReadyH.nil
                go_simp
                have KB10 : (w7.alloc (.cells #[.string v0] 9)).heap[w7.heap.size]? = some (.cells #[.string v0] 9) := by
                  have := alloc_new w7 (.cells #[.string v0] 9)
                  first | exact this | simpa using this
                have D10 := (Below.refl w7.heap.size w7).alloc (Nat.le_refl _) (.cells #[.string v0] 9)
                have hA10 := hA7.alloc hA7.size (.cells #[.string v0] 9)
                refine hK.out _ _ hA10 (fun _ => ?_)
                clear hK K
                try simp only [Act.put, List.setIfInBounds_toArray, List.set_cons_zero, List.set_cons_succ]
                refine wpAnyH_ready (rs := [11]) (by kernel_rfl) (by simp) ?_
                refine AllReadyH.cons (op_at (rest := _) rfl) (fun K hK => ?_) AllReadyH.nil
                refine step_append_strs_g _ _ _ rfl (by rfl) (w22.heap.size) _ _ _ rfl (ownsRow_below r7 D10) _ _ rfl (strs_blk KB10) (by have := LEN2.out; simp; omega) (hA10.size) ?_
                intro v11 w11 r11 g11
                have hA11 := hA10.grown g11 hA10.size (fun j e => ownBlock_ge (ownsRow_below r7 D10) e)
                have SX : Strs w11 v11 (WS ++ [v0]) := (fun r12 => Strs.of_row (ss := WS ++ [v0]) rfl r12) (by simpa using r11)
                refine hK.out _ _ hA11 (fun _ => ?_)
                clear hK K
                try simp only [Act.put, List.setIfInBounds_toArray, List.set_cons_zero, List.set_cons_succ]
                have hHeld := hA11
                refine wpAnyH_ready (rs := [12]) (by kernel_rfl) (by simp) ?_
                refine AllReadyH.cons (op_at (rest := _) rfl) (fun K hK => ?_) AllReadyH.nil
                go_simp
                refine (same_yes _ _ v11 AL (WS ++ [v0]) (ST8.out.below hHeld) SX LEN1.out HEQ.out).mono ?_
                rintro e w23 ⟨rfl, hb23⟩
                go_wp2_with fail
                replace hHeld := hHeld.trans (hb23.mono hHeld.size)
                refine hK.out _ _ hHeld (fun _ => ?_)
                clear hK K
                try simp only [Act.put, List.setIfInBounds_toArray, List.set_cons_zero, List.set_cons_succ]
                refine wpAnyH_take (i := 13) (v := ?_) (op_at (rest := _) rfl) (by kernel_rfl) (by kernel_rfl) (by kernel_rfl) (fun _ _ _ h => h) (Or.inl ⟨by rfl, ?_⟩) (by assumption) ?_
                rotate_left 1
                · (intro W hSw; (try dsimp only at hSw); go_simp; (try with_reducible rfl))
                try simp only [Act.put, List.setIfInBounds_toArray, List.set_cons_zero, List.set_cons_succ]
                refine wpAnyH_take (i := 14) (v := ?_) (op_at (rest := _) rfl) (by kernel_rfl) (by kernel_rfl) (by kernel_rfl) (fun _ _ _ h => h) (Or.inl ⟨by rfl, ?_⟩) (by assumption) ?_
                rotate_left 1
                · (intro W hSw; (try dsimp only at hSw); go_simp; (try with_reducible rfl))
                try simp only [Act.put, List.setIfInBounds_toArray, List.set_cons_zero, List.set_cons_succ]
                refine wpAnyH_take (i := 15) (v := ?_) (op_at (rest := _) rfl) (by kernel_rfl) (by kernel_rfl) (by kernel_rfl) (fun _ _ _ h => h) (Or.inl ⟨by rfl, ?_⟩) (by assumption) ?_
                rotate_left 1
                · (intro W hSw; (try dsimp only at hSw); go_simp; (try with_reducible rfl))
                try simp only [Act.put, List.setIfInBounds_toArray, List.set_cons_zero, List.set_cons_succ]
                refine wpAnyH_done (by kernel_rfl) ?_ _
                refine NoPanic.normal ?_
                go_wp2_with fail
                exact ⟨⟨k + 1, by omega, by go_num, bb2 BN.out hHeld⟩, by simp [intOf]; omega⟩
              · go_simp
                have KB10 : ((w22.drew.alloc (.cells #[] 9)).alloc (.cells #[.string v0] 9)).heap[w22.heap.size + 1]? = some (.cells #[.string v0] 9) := by
                  have := alloc_new (w22.drew.alloc (.cells #[] 9)) (.cells #[.string v0] 9)
                  first | exact this | simpa using this
                have D10 := (Below.refl (w22.drew.alloc (.cells #[] 9)).heap.size (w22.drew.alloc (.cells #[] 9))).alloc (Nat.le_refl _) (.cells #[.string v0] 9)
                have hA10 := hA5.alloc hA5.size (.cells #[.string v0] 9)
                refine hK.out _ _ hA10 (fun _ => ?_)
                clear hK K
                try simp only [Act.put, List.setIfInBounds_toArray, List.set_cons_zero, List.set_cons_succ]
                refine wpAnyH_ready (rs := [7]) (by kernel_rfl) (by simp) ?_
                refine AllReadyH.cons (op_at (rest := _) rfl) (fun K hK => ?_) AllReadyH.nil
                refine step_append_strs_g _ _ _ rfl (by rfl) (w22.heap.size) _ 0 [] rfl (ownsRow_below R5 D10) _ _ rfl (ST9.out.below hA10) (by have := LEN2.out; omega) (hA10.size) ?_
                intro v7 w7 r7 g7
                have hA7 := hA10.grown g7 hA10.size (fun j e => ownBlock_ge (ownsRow_below R5 D10) e)
                have S11 := strs_blk ((g7.block (w22.heap.size + 1) (lt_blk KB10) (fun e => by have e2 : (some (w22.heap.size + 1) : Option Nat) = some w22.heap.size := e; have e3 := Option.some.inj e2; omega)).trans KB10)
                refine hK.out _ _ hA7 (fun _ => ?_)
                clear hK K
                try simp only [Act.put, List.setIfInBounds_toArray, List.set_cons_zero, List.set_cons_succ]
                refine wpAnyH_ready (rs := [11]) (by kernel_rfl) (by simp) ?_
                refine AllReadyH.cons (op_at (rest := _) rfl) (fun K hK => ?_) AllReadyH.nil
                refine step_append_strs_g _ _ _ rfl (by rfl) (w22.heap.size) _ _ _ rfl (r7) _ _ rfl (S11) (by have := LEN2.out; simp; omega) (hA7.size) ?_
                intro v11 w11 r11 g11
                have hA11 := hA7.grown g11 hA7.size (fun j e => ownBlock_ge (r7) e)
                have SX : Strs w11 v11 (WS ++ [v0]) := (fun r12 => Strs.of_row (ss := WS ++ [v0]) rfl r12) (by simpa using r11)
                refine hK.out _ _ hA11 (fun _ => ?_)
                clear hK K
                try simp only [Act.put, List.setIfInBounds_toArray, List.set_cons_zero, List.set_cons_succ]
                have hHeld := hA11
                refine wpAnyH_ready (rs := [12]) (by kernel_rfl) (by simp) ?_
                refine AllReadyH.cons (op_at (rest := _) rfl) (fun K hK => ?_) AllReadyH.nil
                go_simp
                refine (same_yes _ _ v11 AL (WS ++ [v0]) (ST8.out.below hHeld) SX LEN1.out HEQ.out).mono ?_
                rintro e w23 ⟨rfl, hb23⟩
                go_wp2_with fail
                replace hHeld := hHeld.trans (hb23.mono hHeld.size)
                refine hK.out _ _ hHeld (fun _ => ?_)
                clear hK K
                try simp only [Act.put, List.setIfInBounds_toArray, List.set_cons_zero, List.set_cons_succ]
                refine wpAnyH_take (i := 13) (v := ?_) (op_at (rest := _) rfl) (by kernel_rfl) (by kernel_rfl) (by kernel_rfl) (fun _ _ _ h => h) (Or.inl ⟨by rfl, ?_⟩) (by assumption) ?_
                rotate_left 1
                · (intro W hSw; (try dsimp only at hSw); go_simp; (try with_reducible rfl))
                try simp only [Act.put, List.setIfInBounds_toArray, List.set_cons_zero, List.set_cons_succ]
                refine wpAnyH_take (i := 14) (v := ?_) (op_at (rest := _) rfl) (by kernel_rfl) (by kernel_rfl) (by kernel_rfl) (fun _ _ _ h => h) (Or.inl ⟨by rfl, ?_⟩) (by assumption) ?_
                rotate_left 1
                · (intro W hSw; (try dsimp only at hSw); go_simp; (try with_reducible rfl))
                try simp only [Act.put, List.setIfInBounds_toArray, List.set_cons_zero, List.set_cons_succ]
                refine wpAnyH_take (i := 15) (v := ?_) (op_at (rest := _) rfl) (by kernel_rfl) (by kernel_rfl) (by kernel_rfl) (fun _ _ _ h => h) (Or.inl ⟨by rfl, ?_⟩) (by assumption) ?_
                rotate_left 1
                · (intro W hSw; (try dsimp only at hSw); go_simp; (try with_reducible rfl))
                try simp only [Act.put, List.setIfInBounds_toArray, List.set_cons_zero, List.set_cons_succ]
                refine wpAnyH_done (by kernel_rfl) ?_ _
                refine NoPanic.normal ?_
                go_wp2_with fail
                exact ⟨⟨k + 1, by omega, by go_num, bb2 BN.out hHeld⟩, by simp [intOf]; omega⟩
            · go_simp
              have KB10 : (w22.drew.alloc (.cells #[.string v0] 9)).heap[w22.heap.size]? = some (.cells #[.string v0] 9) := by
                have := alloc_new w22.drew (.cells #[.string v0] 9)
                first | exact this | simpa using this
              have D10 := (Below.refl w22.drew.heap.size w22.drew).alloc (Nat.le_refl _) (.cells #[.string v0] 9)
              have hA10 := hHeld.alloc hHeld.size (.cells #[.string v0] 9)
              refine hK.out _ _ hA10 (fun _ => ?_)
              clear hK K
              try simp only [Act.put, List.setIfInBounds_toArray, List.set_cons_zero, List.set_cons_succ]
              refine wpAnyH_ready (rs := [5]) (by kernel_rfl) (by simp) ?_
              refine AllReadyH.cons (op_at (rest := _) rfl) (fun K hK => ?_) AllReadyH.nil
              go_simp
              have R5 : ((w22.drew.alloc (.cells #[.string v0] 9)).alloc (.cells #[] 9)).ownsRow (w22.heap.size + 1) 9 1 (.slice (some ⟨w22.heap.size + 1, 0, none⟩) 0 0) 0 (([] : List ByteArray).map Value.string) := owns_emptyT 9 1 (w22.drew.alloc (.cells #[.string v0] 9)) _ (by first | rfl | simp)
              have hA5 := hA10.alloc hA10.size (.cells #[] 9)
              refine hK.out _ _ hA5 (fun _ => ?_)
              clear hK K
              try simp only [Act.put, List.setIfInBounds_toArray, List.set_cons_zero, List.set_cons_succ]
              refine wpAnyH_ready (rs := [7]) (by kernel_rfl) (by simp) ?_
              refine AllReadyH.cons (op_at (rest := _) rfl) (fun K hK => ?_) AllReadyH.nil
              refine step_append_strs_g _ _ _ rfl (by rfl) (w22.heap.size + 1) _ 0 [] rfl (R5) _ _ rfl (ST9.out.below hA5) (by have := LEN2.out; omega) (by first | rfl | simp) ?_
              intro v7 w7 r7 g7
              have hA7 := hA5.grown g7 hA5.size (fun j e => Nat.le_of_succ_le (ownBlock_ge (R5) e))
              have KB5 := blk_below KB10 ((Below.refl _ _).alloc (Nat.le_refl _) (.cells #[] 9))
              have hs7 := g7.size
              have S11 := strs_blk ((g7.block (w22.heap.size) (lt_blk KB5) (fun e => by have e2 : (some w22.heap.size : Option Nat) = some (w22.heap.size + 1) := e; have e3 := Option.some.inj e2; omega)).trans KB5)
              refine hK.out _ _ hA7 (fun _ => ?_)
              clear hK K
              try simp only [Act.put, List.setIfInBounds_toArray, List.set_cons_zero, List.set_cons_succ]
              refine wpAnyH_ready (rs := [11]) (by kernel_rfl) (by simp) ?_
              refine AllReadyH.cons (op_at (rest := _) rfl) (fun K hK => ?_) AllReadyH.nil
              refine step_append_strs_g _ _ _ rfl (by rfl) (w22.heap.size + 1) _ _ _ rfl (r7) _ _ rfl (S11) (by have := LEN2.out; simp; omega) (by simp at hs7; omega) ?_
              intro v11 w11 r11 g11
              have hA11 := hA7.grown g11 hA7.size (fun j e => Nat.le_of_succ_le (ownBlock_ge (r7) e))
              have SX : Strs w11 v11 (WS ++ [v0]) := (fun r12 => Strs.of_row (ss := WS ++ [v0]) rfl r12) (by simpa using r11)
              refine hK.out _ _ hA11 (fun _ => ?_)
              clear hK K
              try simp only [Act.put, List.setIfInBounds_toArray, List.set_cons_zero, List.set_cons_succ]
              have hHeld := hA11
              refine wpAnyH_ready (rs := [12]) (by kernel_rfl) (by simp) ?_
              refine AllReadyH.cons (op_at (rest := _) rfl) (fun K hK => ?_) AllReadyH.nil
              go_simp
              refine (same_yes _ _ v11 AL (WS ++ [v0]) (ST8.out.below hHeld) SX LEN1.out HEQ.out).mono ?_
              rintro e w23 ⟨rfl, hb23⟩
              go_wp2_with fail
              replace hHeld := hHeld.trans (hb23.mono hHeld.size)
              refine hK.out _ _ hHeld (fun _ => ?_)
              clear hK K
              try simp only [Act.put, List.setIfInBounds_toArray, List.set_cons_zero, List.set_cons_succ]
              refine wpAnyH_take (i := 13) (v := ?_) (op_at (rest := _) rfl) (by kernel_rfl) (by kernel_rfl) (by kernel_rfl) (fun _ _ _ h => h) (Or.inl ⟨by rfl, ?_⟩) (by assumption) ?_
              rotate_left 1
              · (intro W hSw; (try dsimp only at hSw); go_simp; (try with_reducible rfl))
              try simp only [Act.put, List.setIfInBounds_toArray, List.set_cons_zero, List.set_cons_succ]
              refine wpAnyH_take (i := 14) (v := ?_) (op_at (rest := _) rfl) (by kernel_rfl) (by kernel_rfl) (by kernel_rfl) (fun _ _ _ h => h) (Or.inl ⟨by rfl, ?_⟩) (by assumption) ?_
              rotate_left 1
              · (intro W hSw; (try dsimp only at hSw); go_simp; (try with_reducible rfl))
              try simp only [Act.put, List.setIfInBounds_toArray, List.set_cons_zero, List.set_cons_succ]
              refine wpAnyH_take (i := 15) (v := ?_) (op_at (rest := _) rfl) (by kernel_rfl) (by kernel_rfl) (by kernel_rfl) (fun _ _ _ h => h) (Or.inl ⟨by rfl, ?_⟩) (by assumption) ?_
              rotate_left 1
              · (intro W hSw; (try dsimp only at hSw); go_simp; (try with_reducible rfl))
              try simp only [Act.put, List.setIfInBounds_toArray, List.set_cons_zero, List.set_cons_succ]
              refine wpAnyH_done (by kernel_rfl) ?_ _
              refine NoPanic.normal ?_
              go_wp2_with fail
              exact ⟨⟨k + 1, by omega, by go_num, bb2 BN.out hHeld⟩, by simp [intOf]; omega⟩
          · have HEQ : Hid (AL = []) := HM2.out
            have hl0 : Hid (AL.length = 0) := by
              unfold Hid
              rw [HEQ.out]
              rfl
            have hl1 : AL.length = 0 := hl0.out
            clear HM2
            go_wp2_with fail
            refine wp_region_noPanic ?_
            refine wp_region_held_drew (S := fun W => Below (w22).heap.size (w22) W) (by kernel_rfl) ((Below.refl _ _).drew) (fun hHeld => ?_)
            refine wpAnyH_take (i := 0) (v := ?_) (op_at (rest := _) rfl) (by kernel_rfl) (by kernel_rfl) (by kernel_rfl) (fun _ _ _ h => h) (Or.inl ⟨by rfl, ?_⟩) (by assumption) ?_
            rotate_left 1
            · (intro W hSw; (try dsimp only at hSw); have gg := cellN (F1.out W hSw) (i := 0) rfl; go_simp; (try with_reducible rfl))
            try simp only [Act.put, List.setIfInBounds_toArray, List.set_cons_zero, List.set_cons_succ]
            refine wpAnyH_take (i := 1) (v := ?_) (op_at (rest := _) rfl) (by kernel_rfl) (by kernel_rfl) (by kernel_rfl) (fun _ _ _ h => h) (Or.inl ⟨by rfl, ?_⟩) (by assumption) ?_
            rotate_left 1
            · (intro W hSw; (try dsimp only at hSw); have gg := cellN (F1.out W hSw) (i := 0) rfl; go_simp; (try with_reducible rfl))
            try simp only [Act.put, List.setIfInBounds_toArray, List.set_cons_zero, List.set_cons_succ]
            refine wpAnyH_take (i := 2) (v := ?_) (op_at (rest := _) rfl) (by kernel_rfl) (by kernel_rfl) (by kernel_rfl) (fun _ _ _ h => h) (Or.inl ⟨by rfl, ?_⟩) (by assumption) ?_
            rotate_left 1
            · (intro W hSw; (try dsimp only at hSw); have gg := cellN (F1.out W hSw) (i := 0) rfl; go_simp; (try with_reducible rfl))
            try simp only [Act.put, List.setIfInBounds_toArray, List.set_cons_zero, List.set_cons_succ]
            refine wpAnyH_take (i := 3) (v := ?_) (op_at (rest := _) rfl) (by kernel_rfl) (by kernel_rfl) (by kernel_rfl) (fun _ _ _ h => h) (Or.inl ⟨by rfl, ?_⟩) (by assumption) ?_
            rotate_left 1
            · (intro W hSw; (try dsimp only at hSw); have gg := cellN (F1.out W hSw) (i := 0) rfl; go_simp; (try with_reducible rfl))
            try simp only [Act.put, List.setIfInBounds_toArray, List.set_cons_zero, List.set_cons_succ]
            refine wpAnyH_take (i := 4) (v := undef) (op_at (rest := _) rfl) (by kernel_rfl) (by kernel_rfl) (by kernel_rfl) (fun _ _ _ h => h) (Or.inr ⟨by rfl, rfl⟩) (by assumption) ?_
            try simp only [Act.put, List.setIfInBounds_toArray, List.set_cons_zero, List.set_cons_succ]
            refine wpAnyH_take (i := 5) (v := undef) (op_at (rest := _) rfl) (by kernel_rfl) (by kernel_rfl) (by kernel_rfl) (fun _ _ _ h => h) (Or.inr ⟨by rfl, rfl⟩) (by assumption) ?_
            try simp only [Act.put, List.setIfInBounds_toArray, List.set_cons_zero, List.set_cons_succ]
            refine wpAnyH_take (i := 6) (v := undef) (op_at (rest := _) rfl) (by kernel_rfl) (by kernel_rfl) (by kernel_rfl) (fun _ _ _ h => h) (Or.inr ⟨by rfl, rfl⟩) (by assumption) ?_
            try simp only [Act.put, List.setIfInBounds_toArray, List.set_cons_zero, List.set_cons_succ]
            refine wpAnyH_take (i := 7) (v := undef) (op_at (rest := _) rfl) (by kernel_rfl) (by kernel_rfl) (by kernel_rfl) (fun _ _ _ h => h) (Or.inr ⟨by rfl, rfl⟩) (by assumption) ?_
            try simp only [Act.put, List.setIfInBounds_toArray, List.set_cons_zero, List.set_cons_succ]
            refine wpAnyH_take (i := 8) (v := undef) (op_at (rest := _) rfl) (by kernel_rfl) (by kernel_rfl) (by kernel_rfl) (fun _ _ _ h => h) (Or.inr ⟨by rfl, rfl⟩) (by assumption) ?_
            try simp only [Act.put, List.setIfInBounds_toArray, List.set_cons_zero, List.set_cons_succ]
            refine wpAnyH_take (i := 9) (v := undef) (op_at (rest := _) rfl) (by kernel_rfl) (by kernel_rfl) (by kernel_rfl) (fun _ _ _ h => h) (Or.inr ⟨by rfl, rfl⟩) (by assumption) ?_
            try simp only [Act.put, List.setIfInBounds_toArray, List.set_cons_zero, List.set_cons_succ]
            refine wpAnyH_take (i := 10) (v := undef) (op_at (rest := _) rfl) (by kernel_rfl) (by kernel_rfl) (by kernel_rfl) (fun _ _ _ h => h) (Or.inr ⟨by rfl, rfl⟩) (by assumption) ?_
            try simp only [Act.put, List.setIfInBounds_toArray, List.set_cons_zero, List.set_cons_succ]
            refine wpAnyH_take (i := 11) (v := undef) (op_at (rest := _) rfl) (by kernel_rfl) (by kernel_rfl) (by kernel_rfl) (fun _ _ _ h => h) (Or.inr ⟨by rfl, rfl⟩) (by assumption) ?_
            try simp only [Act.put, List.setIfInBounds_toArray, List.set_cons_zero, List.set_cons_succ]
            refine wpAnyH_take (i := 12) (v := undef) (op_at (rest := _) rfl) (by kernel_rfl) (by kernel_rfl) (by kernel_rfl) (fun _ _ _ h => h) (Or.inr ⟨by rfl, rfl⟩) (by assumption) ?_
            try simp only [Act.put, List.setIfInBounds_toArray, List.set_cons_zero, List.set_cons_succ]
            refine wpAnyH_take (i := 13) (v := undef) (op_at (rest := _) rfl) (by kernel_rfl) (by kernel_rfl) (by kernel_rfl) (fun _ _ _ h => h) (Or.inr ⟨by rfl, rfl⟩) (by assumption) ?_
            try simp only [Act.put, List.setIfInBounds_toArray, List.set_cons_zero, List.set_cons_succ]
            refine wpAnyH_take (i := 14) (v := ?_) (op_at (rest := _) rfl) (by kernel_rfl) (by kernel_rfl) (by kernel_rfl) (fun _ _ _ h => h) (Or.inl ⟨by rfl, ?_⟩) (by assumption) ?_
            rotate_left 1
            · (intro W hSw; (try dsimp only at hSw); go_simp; (try with_reducible rfl))
            try simp only [Act.put, List.setIfInBounds_toArray, List.set_cons_zero, List.set_cons_succ]
            refine wpAnyH_take (i := 15) (v := ?_) (op_at (rest := _) rfl) (by kernel_rfl) (by kernel_rfl) (by kernel_rfl) (fun _ _ _ h => h) (Or.inl ⟨by rfl, ?_⟩) (by assumption) ?_
            rotate_left 1
            · (intro W hSw; (try dsimp only at hSw); go_simp; (try with_reducible rfl))
            try simp only [Act.put, List.setIfInBounds_toArray, List.set_cons_zero, List.set_cons_succ]
            refine wpAnyH_done (by kernel_rfl) ?_ _
            refine NoPanic.normal ?_
            go_wp2_with fail
            exact ⟨⟨k + 1, by omega, by go_num, bb2 BN.out hHeld⟩, by simp [intOf]; omega⟩
    · have hlt' : ¬ (k : Int) < (L.length : Int) := by omega
      go_wp2_with fail
      refine (fawake_any _).mono ?_
      rintro e w6 ⟨rfl, hb6⟩
      go_wp2_with fail
      go_ret
      exact ⟨rfl, bb2 BQ (bb2 B3 (bb2 hB hb6))⟩

end Go.Proofs.YtejmcemgjpcobaaDoor
