/-
  A law for 'for x := range seq' where the iterator keeps its state in a cell of its own (a captured variable), of one string parameter; what it hands out is a known list. No program is named here.
-/
import Derived.RangeFuncNested
import Derived.RangeFuncBound
import Derived.RangeFuncCalls
import Derived.RangeFuncLeaves
import Derived.RangeFuncBox
namespace Go.Proofs.YtblmdcpcekoogaaGreatDoor
set_option maxRecDepth 20000
open Go Go.RowKit

/-- The invariant abides a store into the iterator's own cell. -/
def OwnCell (B : Nat) (I : Nat → World → Prop) : Prop := ∀ k W v, I k W → I k (W.setCell ⟨B, 0, none⟩ v)

/-- The blocks from lo up to hi lie as they lay. -/
def Stays (lo hi : Nat) (W W' : World) : Prop := ∀ b, lo ≤ b → b < hi → W'.heap[b]? = W.heap[b]?

theorem Stays.refl (lo hi : Nat) (W : World) : Stays lo hi W W := fun _ _ _ => rfl
theorem Stays.trans {lo hi : Nat} {A B C : World} (h : Stays lo hi A B) (k : Stays lo hi B C) : Stays lo hi A C := fun b h1 h2 => (k b h1 h2).trans (h b h1 h2)
theorem Stays.putObj {lo hi l : Nat} (W : World) (o : Obj) (h : hi ≤ l) : Stays lo hi W (W.putObj l o) := fun b _ h2 => World.putObj_heap_other (by omega)
theorem Stays.alloc {lo hi : Nat} (W : World) (o : Obj) (h : hi ≤ W.heap.size) : Stays lo hi W (W.alloc o) := fun b _ h2 => Below.heap_alloc W o b (by omega)
theorem Stays.setCell {lo hi : Nat} (W : World) (a : Addr) (v : Value) (h : a.block < lo ∨ hi ≤ a.block) : Stays lo hi W (W.setCell a v) := fun b h1 h2 => Below.heap_setCell W a v b (by omega)
theorem Stays.of_below {lo hi n : Nat} {W W' : World} (h : Below n W W') (hn : hi ≤ n) : Stays lo hi W W' := fun b _ h2 => h.block b (by omega)
theorem Stays.cell {lo hi : Nat} {W W' : World} (h : Stays lo hi W W') {b o : Nat} (h1 : lo ≤ b) (h2 : b < hi) : W'.cell? ⟨b, o, none⟩ = W.cell? ⟨b, o, none⟩ := World.cell?_of_block (w := W) (h b h1 h2)
theorem Stays.frozen {lo hi : Nat} {W W' : World} (h : Stays lo hi W W') {b o : Nat} (h1 : lo ≤ b) (h2 : b < hi) : W'.frozen? ⟨b, o, none⟩ = W.frozen? ⟨b, o, none⟩ := World.frozen?_of_block (w := W) (h b h1 h2)

/-- THE ITERATOR's CONTRACT: it hands out xs, one by one; it writes its own cell B alone; a round that goes on keeps the blocks lo to hi. -/
def SeqSteps (F : Fence) (n : Nat) (P : Program) (g : Nat) (lb : Array Value) (xs : List ByteArray) (B lo hi : Nat) (w : World) : Prop :=
  ∀ (l : Nat) (J Jx : Nat → World → Prop) (W : World), Below w.heap.size w W → OwnCell B J → OwnCell B Jx →
    (∀ k W1 (h : k < xs.length), J k W1 → YieldAt F (n - 1) P l #[.string xs[k]] W1 fun e W' =>
      (e = .returned (.bool true) ∧ J (k + 1) W' ∧ Stays lo hi W1 W') ∨ (e = .returned (.bool false) ∧ Jx (k + 1) W')) →
    J 0 W →
    CallsIn F n P g (#[.func (.yield l) #[] #[]] ++ lb) W fun e W' => (∃ v, e = .returned v) ∧ (J xs.length W' ∨ ∃ k, k < xs.length ∧ Jx (k + 1) W')

/-- HOW THE BODY OF A ROUND MAY BE LEFT. -/
def stepPost (lo hi : Nat) (I : Nat → World → Prop) (Ix : Code → Nat → World → Prop) (k : Nat) (W : World) : Exit → Act → World → Prop
  | .normal, _, W' => KeepsOthers W W' ∧ Stays lo hi W W' ∧ I k W'
  | .ret, _, W' => KeepsOthers W W' ∧ Ix .ret k W'
  | .exit id, _, W' => KeepsOthers W W' ∧ Ix (.exit id) k W'
  | .goto t, _, W' => KeepsOthers W W' ∧ Ix (.goto t) k W'
  | .panic _, _, _ => False
  | .outgrown, _, _ => False

variable {F : Fence} {n : Nat} {P : Program}

/-- THE BOOK OF A LOOP: its record lies in block d + 1, in a state and with a pending jump; the block for deferred calls, empty, in block d. -/
structure Book (r : Loop) (d : Nat) (st : LoopState) (pe : Option Code) (W : World) : Prop where
  rcd : W.heap[d + 1]? = some (.loop { r with state := st, pending := pe })
  defs : W.heap[d]? = some (.deferred (some []))

theorem Book.others {r : Loop} {d : Nat} {st : LoopState} {pe : Option Code} {W W' : World} (h : Book r d st pe W) (k : KeepsOthers W W') : Book r d st pe W' :=
  ⟨k.same _ _ h.rcd rfl, k.same _ _ h.defs rfl⟩
theorem Book.put {r : Loop} {d : Nat} {st : LoopState} {pe : Option Code} {W : World} (h : Book r d st pe W) (st' : LoopState) (pe' : Option Code) :
    Book r d st' pe' (W.putObj (d + 1) (.loop { r with state := st', pending := pe' })) :=
  ⟨World.putObj_heap_same (Array.getElem?_eq_some_iff.1 h.rcd).1, (World.putObj_heap_other (Nat.ne_of_lt (Nat.lt_succ_self d))).trans h.defs⟩
theorem Book.new (r : Loop) (w : World) (h : r.state = .ready ∧ r.pending = none) : Book r w.heap.size .ready none ((w.alloc (.deferred (some []))).alloc (.loop r)) := by
  have hr : r = { r with state := .ready, pending := none } := by cases r; obtain ⟨h1, h2⟩ := h; simp at h1 h2; subst h1; subst h2; rfl
  constructor
  · have := World.alloc_heap_new (w.alloc (.deferred (some []))) (.loop r)
    rw [World.size_alloc] at this
    rw [← hr]
    exact this
  · exact (Below.heap_alloc _ _ _ (by simp)).trans (World.alloc_heap_new w _)

/-- what lies from B on and is turned by a change of the record alone -/
theorem own_rcd {I : Nat → World → Prop} {d : Nat} (h : OwnFrom d I) {r : Loop} {st : LoopState} {pe : Option Code} {W : World} {k : Nat} (hi : I k W) (hb : Book r d st pe W) (o : Obj) : I k (W.putObj (d + 1) o) :=
  h.putObj o hi (Nat.le_succ d) hb.rcd rfl

/-- THE END OF A ROUND: the jump goes into the record; what was known stays known. -/
theorem end_round {r : Loop} {d lo hi : Nat} {W W3 : World} (hhi : hi ≤ d) (hb : Book r d .busy none W) (k3 : KeepsOthers W W3) (jump : Option Code) :
    ∃ W4, (Instr.endRound (d + 1) jump).run P W3 = .ok (.bool jump.isNone) W4 ∧ Book r d (if jump.isNone then .ready else .done) jump W4 ∧ Stays lo hi W3 W4 ∧
      ∀ (I : Nat → World → Prop) (k : Nat), OwnFrom d I → I k W3 → I k W4 := by
  have b3 := hb.others k3
  exact ⟨_, run_endRound jump b3.rcd, b3.put _ _, Stays.putObj _ _ (Nat.le_succ_of_le hhi), fun I k hI h => own_rcd hI h b3 _⟩

/-- ONE CALL OF yield, out of the walk of the loop's body. -/
theorem yield_round {r : Loop} {d lo hi : Nat} {x : ByteArray} {W : World} {k : Nat} {I : Nat → World → Prop} {Ix : Code → Nat → World → Prop} {a₁ : ByteArray → Act} (hF : F.fn r.fn) (hhi : hi ≤ d) (hI : OwnFrom d I) (hIx : ∀ c, OwnFrom d (Ix c))
    (hps : r.params.size = 1) (hb : Book r d .ready none W) (hi' : I k W)
    (hassign : ∀ K : Act → World → Prop, K (a₁ x) W → r.assign.wpIn (F.inRound (d + 1)) n P (Exit.then K (fun _ _ _ => False)) { tmps := (r.params.zip #[.string x]).foldl (fun t (p, v) => t.setIfInBounds p v) r.tmps, defers := [] } W)
    (hbody : ∀ W' : World, I k W' → r.body.wpIn (F.inRound (d + 1)) n P (stepPost lo hi I Ix (k + 1) W') (a₁ x) W') :
    YieldAt F n P (d + 1) #[.string x] W fun e W' =>
      (e = .returned (.bool true) ∧ (I (k + 1) W' ∧ Book r d .ready none W') ∧ Stays lo hi W W') ∨ (e = .returned (.bool false) ∧ ∃ c, Ix c (k + 1) W' ∧ Book r d .done (some c) W') := by
  refine ⟨_, _, _, _, run_yield (P := P) (args := #[.string x]) hb.rcd hps.symm, roundIn_of_wpIn hF (hassign _ ⟨_, run_beginRound hb.rcd rfl, ?_⟩)⟩
  have bb : Book r d .busy none (W.putObj (d + 1) (.loop { r with state := .busy, pending := none })) := hb.put .busy none
  have s0 : Stays lo hi W (W.putObj (d + 1) (.loop { r with state := .busy, pending := none })) := Stays.putObj _ _ (Nat.le_succ_of_le hhi)
  refine wpIn_mono (hbody _ (own_rcd hI hi' hb _)) ?_
  have leave : ∀ (c : Code) (W3 : World), KeepsOthers (W.putObj (d + 1) (.loop { r with state := .busy, pending := none })) W3 → Ix c (k + 1) W3 →
      ∃ v W4, (Instr.endRound (d + 1) (some c)).run P W3 = .ok v W4 ∧ ((Ending.returned v = .returned (.bool true) ∧ (I (k + 1) W4 ∧ Book r d .ready none W4) ∧ Stays lo hi W W4) ∨
        (Ending.returned v = .returned (.bool false) ∧ ∃ c, Ix c (k + 1) W4 ∧ Book r d .done (some c) W4)) := fun c W3 k3 hx => by
    obtain ⟨W4, hr, b4, _, own⟩ := end_round (P := P) (lo := lo) hhi bb k3 (some c)
    exact ⟨_, W4, hr, .inr ⟨rfl, c, own _ _ (hIx c) hx, b4⟩⟩
  intro e a3 W3 hp
  match e, hp with
  | .normal, ⟨k3, s3, i3⟩ =>
    obtain ⟨W4, hr, b4, s4, own⟩ := end_round (P := P) (lo := lo) hhi bb k3 none
    exact ⟨_, W4, hr, .inl ⟨rfl, ⟨own _ _ hI i3, b4⟩, (s0.trans s3).trans s4⟩⟩
  | .ret, ⟨k3, i3⟩ => exact leave .ret W3 k3 i3
  | .exit id, ⟨k3, i3⟩ => exact leave (.exit id) W3 k3 i3
  | .goto l, ⟨k3, i3⟩ => exact leave (.goto l) W3 k3 i3

theorem wpIn_rangeFunc_steps {g : Operand} {ps : Array Tmp} {assign body : Code} {Q : Exit → Act → World → Prop} {a : Act} {w : World}
    (hro : F.round = none) (h1 : 1 ≤ n) {gf : Nat} {lb : Array Value} (hg : a.eval g = .func (.func gf) #[] lb) (hFg : F.fn gf) (eg : ∀ args w, (callFunc gf args).run P w = .ok (.enter gf args) w)
    {xs : List ByteArray} {B lo hi : Nat} {w0 : World} (hseq : SeqSteps F (n - 1) P gf lb xs B lo hi w0)
    (hb0 : Below w0.heap.size w0 w) (hhi : hi ≤ w.heap.size) (hps : ps.size = 1)
    (I : Nat → World → Prop) (Ix : Code → Nat → World → Prop) (hI : OwnFrom w.heap.size I) (hIx : ∀ c, OwnFrom w.heap.size (Ix c)) (cI : OwnCell B I) (cIx : ∀ c, OwnCell B (Ix c)) (h0 : I 0 w) (a₁ : ByteArray → Act)
    (hassign : ∀ (l : Nat) (x : ByteArray) (W : World) (K : Act → World → Prop), K (a₁ x) W →
      assign.wpIn (F.inRound l) (n - 1 - 1) P (Exit.then K (fun _ _ _ => False)) { tmps := (ps.zip #[.string x]).foldl (fun t (p, v) => t.setIfInBounds p v) a.tmps, defers := [] } W)
    (hbody : ∀ (l : Nat) (k : Nat) (W : World) (h : k < xs.length), I k W → body.wpIn (F.inRound l) (n - 1 - 1) P (stepPost lo hi I Ix (k + 1) W) (a₁ xs[k]) W)
    (hdone : ∀ (D : Nat) (W : World), w.heap.size ≤ D → I xs.length W → W.heap[D]? = some (.deferred (some [])) → Q .normal { a with defers := { target := .collected D, args := #[] } :: a.defers } W)
    (hstop : ∀ (D : Nat) (c : Code) (k : Nat) (W : World), w.heap.size ≤ D → k < xs.length → Ix c (k + 1) W → W.heap[D]? = some (.deferred (some [])) → c.wpIn F n P Q { a with defers := { target := .collected D, args := #[] } :: a.defers } W) :
    (Code.rangeFunc g ps assign body).wpIn F n P Q a w := by
  refine wpIn_rangeFunc fun fn hfn => ?_
  rw [hro]
  let r : Loop := { state := .ready, pending := none, fn := fn, tmps := a.tmps, params := ps, assign := assign, body := body, defers := w.heap.size }
  have hbelow : Below w0.heap.size w0 ((w.alloc (.deferred (some []))).alloc (.loop r)) :=
    hb0.trans ((((Below.refl _ w).alloc (Nat.le_refl _) _).alloc (by simp) _).mono hb0.size)
  have hstart : I 0 ((w.alloc (.deferred (some []))).alloc (.loop r)) := hI.alloc _ (hI.alloc _ h0)
  have hbook := Book.new r w ⟨rfl, rfl⟩
  have hcell : ∀ (st : LoopState) (pe : Option Code) (W : World) (v : Value), Book r w.heap.size st pe W → Book r w.heap.size st pe (W.setCell ⟨B, 0, none⟩ v) := fun st pe W v h => h.others (KeepsOthers.setCell _ _ _)
  have hits := hseq (w.heap.size + 1) (fun k W => I k W ∧ Book r w.heap.size .ready none W) (fun k W => ∃ c, Ix c k W ∧ Book r w.heap.size .done (some c) W) _ hbelow
    (fun k W v h => ⟨cI k W v h.1, hcell _ _ _ _ h.2⟩) (fun k W v h => let ⟨c, h1, h2⟩ := h; ⟨c, cIx c k W v h1, hcell _ _ _ _ h2⟩)
    (fun k W hk h => yield_round (r := r) (a₁ := a₁) hfn hhi hI hIx hps h.2 h.1 (fun K hK => hassign _ _ _ _ hK) (fun W' hW' => hbody _ k W' hk hW'))
    ⟨hstart, hbook⟩
  have hent : (Instr.enterLoop fn a.tmps ps assign body none).run P w = .ok (w.heap.size + 1, [{ target := .collected w.heap.size, args := #[] }]) ((w.alloc (.deferred (some []))).alloc (.loop r)) := run_enterLoop_outer _ _ _ _ _
  generalize (w.alloc (.deferred (some []))).alloc (.loop r) = W1 at hent hits
  refine ⟨_, _, W1, { target := .fn (.func gf) lb, args := #[.func (.yield (w.heap.size + 1)) #[] #[]] }, W1, gf, _, W1, hent, ?_, ?_, ?_, fun _ => h1, hits.mono ?_⟩
  · simp only [resolve, hg]
    simp [go_sem]
  · intro f' hf'
    simp [Target.leads] at hf'
    exact hf' ▸ hFg
  · simp [invoke, go_sem, eg]
  · rintro e W2 ⟨⟨v, rfl⟩, ⟨hi', hb⟩ | ⟨k, hk, c, hi', hb⟩⟩
    · exact ⟨none, _, run_endLoop hb.rcd (by simp), hdone _ _ (Nat.le_refl _) (own_rcd hI hi' hb _) ((World.putObj_heap_other (Nat.ne_of_lt (Nat.lt_succ_self _))).trans hb.defs)⟩
    · exact ⟨some c, _, run_endLoop hb.rcd (by simp), hstop _ c k _ (Nat.le_refl _) hk (own_rcd (hIx c) hi' hb _) ((World.putObj_heap_other (Nat.ne_of_lt (Nat.lt_succ_self _))).trans hb.defs)⟩

end Go.Proofs.YtblmdcpcekoogaaGreatDoor
