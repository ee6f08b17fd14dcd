/-
  Matches and requests in memory: their values, a slice of matches.
-/
import Derived.Test.YtblmdcpcekoogaaGreatDoorRuWalkB
import Derived.Test.YtblmdcpcekoogaaGreatDoorRuWalkC
import Derived.Test.YtblmdcpcekoogaaGreatDoorApp
import Derived.Test.YtblmdcpcekoogaaGreatDoorJ4
import Derived.Test.YtblmdcpcekoogaaGreatDoorPbLawA
namespace Go.Proofs.YtblmdcpcekoogaaGreatDoor
set_option maxRecDepth 20000
open Go Go.RowKit Go.Shelf Go.ChangeShapes Go.WideShapes Go.Deep

/-- a request, as a value -/
abbrev rV (r : RB) (vq vh : Value) : Value := .agg #[.string r.meth, .string r.host, .string r.path, vq, vh]
/-- a match that is not too large -/
structure OkM (m : MB) : Prop where
  val : m.val.size ≤ 100
  meth : m.meth.size ≤ 100
  hlen : m.head.length ≤ 31
  qlen : m.query.length ≤ 31
  head : ∀ p ∈ m.head, okF p
  query : ∀ p ∈ m.query, okF p
structure OkR (r : RB) : Prop where
  meth : r.meth.size ≤ 100
  host : r.host.size ≤ 100
  path : r.path.size ≤ 100
  qlen : r.query.length ≤ 31
  hlen : r.head.length ≤ 31
  query : ∀ p ∈ r.query, okF p
  head : ∀ p ∈ r.head, okF p
theorem okF_okP {l : List PairB} (h : ∀ p ∈ l, okF p) : ∀ p ∈ l, okP p := ok_small h
theorem OkM.order {m : MB} (h : OkM m) : m.val.size ≤ 100 ∧ m.head.length ≤ 100 ∧ m.query.length ≤ 100 := ⟨h.val, by have := h.hlen; omega, by have := h.qlen; omega⟩

/-- a match, with where its lists lie -/
structure MV where
  m : MB
  ah : Option Addr
  ch : Nat
  aq : Option Addr
  cq : Nat
abbrev MV.vh (x : MV) : Value := .slice x.ah x.m.head.length x.ch
abbrev MV.vq (x : MV) : Value := .slice x.aq x.m.query.length x.cq
def mcells (x : MV) : List Value := [.int .i64 x.m.kind, .string x.m.val, .string x.m.meth, x.vh, x.vq]
def flatM (l : List MV) : List Value := l.flatMap mcells
/-- its lists lie there -/
def MV.at_ (x : MV) (w : World) : Prop := Prs w x.vh x.m.head ∧ Prs w x.vq x.m.query
theorem MV.at_.below {x : MV} {w w' : World} (h : x.at_ w) (hb : Below w.heap.size w w') : x.at_ w' := ⟨h.1.below hb, h.2.below hb⟩
/-- the five cells of a match -/
def Five5 (w : World) (g o : Nat) (x : MV) : Prop :=
  w.cell? ⟨g, o, none⟩ = some (.int .i64 x.m.kind) ∧ w.cell? ⟨g, o + 1, none⟩ = some (.string x.m.val) ∧ w.cell? ⟨g, o + 2, none⟩ = some (.string x.m.meth) ∧ w.cell? ⟨g, o + 3, none⟩ = some x.vh ∧ w.cell? ⟨g, o + 4, none⟩ = some x.vq
theorem Five5.below {w w' : World} {g o : Nat} {x : MV} (h : Five5 w g o x) (hg : g < w.heap.size) (hb : Below w.heap.size w w') : Five5 w' g o x :=
  ⟨(hb.cell (p := ⟨g, o, none⟩) hg).trans h.1, (hb.cell (p := ⟨g, o + 1, none⟩) hg).trans h.2.1, (hb.cell (p := ⟨g, o + 2, none⟩) hg).trans h.2.2.1, (hb.cell (p := ⟨g, o + 3, none⟩) hg).trans h.2.2.2.1, (hb.cell (p := ⟨g, o + 4, none⟩) hg).trans h.2.2.2.2⟩
/-- a slice of matches -/
def Mts (w : World) (v : Value) (l : List MV) : Prop :=
  ∃ a cap, v = .slice a l.length cap ∧ l.length ≤ cap ∧ cap ≤ maxLen ∧
    ∀ i (h : i < l.length), l[i].at_ w ∧ ∃ g off, a = some ⟨g, off, none⟩ ∧ g < w.heap.size ∧ Five5 w g (off + i * 5) l[i]

theorem Mts.below {w w' : World} {v : Value} {l : List MV} (h : Mts w v l) (hb : Below w.heap.size w w') : Mts w' v l := by
  obtain ⟨a, cap, hv, h1, h2, hc⟩ := h
  refine ⟨a, cap, hv, h1, h2, fun i hi => ?_⟩
  obtain ⟨hat, g, off, hg, hlt, c⟩ := hc i hi
  exact ⟨hat.below hb, g, off, hg, Nat.lt_of_lt_of_le hlt hb.size, c.below hlt hb⟩
theorem Mts.nil (w : World) : Mts w (.slice none 0 0) [] := ⟨none, 0, rfl, Nat.le_refl _, Nat.zero_le _, fun i hi => absurd hi (by simp)⟩
theorem Mts.len {w : World} {v : Value} {l : List MV} (h : Mts w v l) : l.length ≤ 9223372036854775807 := by
  obtain ⟨_, _, _, h1, h2, _⟩ := h
  unfold maxLen at h2
  omega
theorem Mts.form {w : World} {v : Value} {l : List MV} (h : Mts w v l) : ∃ a cap, v = .slice a l.length cap := by
  obtain ⟨a, cap, hv, _⟩ := h
  exact ⟨a, cap, hv⟩
theorem Mts.all {w : World} {v : Value} {l : List MV} (h : Mts w v l) : ∀ x ∈ l, x.at_ w := by
  obtain ⟨_, _, _, _, _, hc⟩ := h
  intro x hx
  obtain ⟨i, hi, rfl⟩ := List.getElem_of_mem hx
  exact (hc i hi).1

theorem flatM_append (a b : List MV) : flatM (a ++ b) = flatM a ++ flatM b := by simp [flatM]
theorem flatM_len (l : List MV) : (flatM l).length = l.length * 5 := by
  induction l with
  | nil => rfl
  | cons p l ih =>
    show (mcells p ++ flatM l).length = _
    rw [List.length_append, ih]
    simp [mcells]
    omega
theorem flatM_at : ∀ (l : List MV) (i : Nat) (h : i < l.length), (flatM l)[i * 5]? = some (.int .i64 l[i].m.kind) ∧ (flatM l)[i * 5 + 1]? = some (.string l[i].m.val) ∧ (flatM l)[i * 5 + 2]? = some (.string l[i].m.meth) ∧ (flatM l)[i * 5 + 3]? = some l[i].vh ∧ (flatM l)[i * 5 + 4]? = some l[i].vq
  | p :: l, 0, _ => ⟨rfl, rfl, rfl, rfl, rfl⟩
  | p :: l, i + 1, h => by
    have := flatM_at l i (by simpa using h)
    have e : flatM (p :: l) = .int .i64 p.m.kind :: .string p.m.val :: .string p.m.meth :: p.vh :: p.vq :: flatM l := rfl
    rw [e, Nat.add_mul]
    exact this
theorem Prs.one {w : World} {v : Value} {l : List PairB} (h : Prs w v l) : v.oneCell' = true := by
  obtain ⟨a, cap, rfl, _⟩ := h
  rfl
theorem flatM_one {w : World} {l : List MV} (hl : ∀ x ∈ l, x.at_ w) : ∀ u ∈ flatM l, u.oneCell' = true := by
  intro u hu
  obtain ⟨p, hp, hu⟩ := List.mem_flatMap.1 hu
  have := hl p hp
  simp [mcells] at hu
  rcases hu with rfl | rfl | rfl | rfl | rfl
  · rfl
  · rfl
  · rfl
  · exact this.1.one
  · exact this.2.one

theorem Mts.of_row {w : World} {base : Nat} {v : Value} {l : List MV} {n : Nat} (hn : n = l.length) (h : w.ownsRow base 109 5 v n (flatM l)) (hl : ∀ x ∈ l, x.at_ w) : Mts w v l := by
  subst hn
  obtain ⟨_, h2⟩ := h
  rcases h2 with ⟨rfl, h0⟩ | ⟨g, cap, cur, rfl, hg, hgb, hle, hcm, hsz, hcur⟩
  · have : l = [] := List.eq_nil_of_length_eq_zero h0
    subst this
    exact Mts.nil w
  · refine ⟨some ⟨g, 0, none⟩, cap, rfl, hle, hcm, fun i hi => ⟨hl _ (List.getElem_mem hi), g, 0, rfl, (Array.getElem?_eq_some_iff.1 hgb).1, ?_⟩⟩
    have rd : ∀ j u, j < l.length * 5 → (flatM l)[j]? = some u → w.cell? ⟨g, 0 + j, none⟩ = some u := fun j u hj hu => by
      rw [← hcur, List.getElem?_take_of_lt (by omega)] at hu
      simp [World.cell?, hgb]
      simpa using hu
    obtain ⟨a0, a1, a2, a3, a4⟩ := flatM_at l i hi
    exact ⟨rd _ _ (by omega) a0, rd _ _ (by omega) a1, rd _ _ (by omega) a2, rd _ _ (by omega) a3, rd _ _ (by omega) a4⟩

theorem Tryz.infoMatch : (Tryz.prog.info? 109).map (fun i => (i.zero, i.size, i.bytes)) = some (some (.agg #[.int .i64 0, .string ⟨#[]⟩, .string ⟨#[]⟩, .slice none 0 0, .slice none 0 0]), 5, 88) := by kernel_rfl

theorem flatM_inv (l : List MV) (j : Nat) (u : Value) (h : (flatM l)[j]? = some u) : ∃ i, ∃ hi : i < l.length, (j = i * 5 ∧ u = .int .i64 l[i].m.kind) ∨ (j = i * 5 + 1 ∧ u = .string l[i].m.val) ∨ (j = i * 5 + 2 ∧ u = .string l[i].m.meth) ∨ (j = i * 5 + 3 ∧ u = l[i].vh) ∨ (j = i * 5 + 4 ∧ u = l[i].vq) := by
  have hj : j < l.length * 5 := by rw [← flatM_len]; exact (List.getElem?_eq_some_iff.1 h).1
  have hi : j / 5 < l.length := by omega
  obtain ⟨h0, h1, h2, h3, h4⟩ := flatM_at l (j / 5) hi
  refine ⟨j / 5, hi, ?_⟩
  rcases (by omega : j = j / 5 * 5 ∨ j = j / 5 * 5 + 1 ∨ j = j / 5 * 5 + 2 ∨ j = j / 5 * 5 + 3 ∨ j = j / 5 * 5 + 4) with e | e | e | e | e
  · rw [← e, h] at h0
    exact .inl ⟨e, Option.some.inj h0⟩
  · rw [← e, h] at h1
    exact .inr (.inl ⟨e, Option.some.inj h1⟩)
  · rw [← e, h] at h2
    exact .inr (.inr (.inl ⟨e, Option.some.inj h2⟩))
  · rw [← e, h] at h3
    exact .inr (.inr (.inr (.inl ⟨e, Option.some.inj h3⟩)))
  · rw [← e, h] at h4
    exact .inr (.inr (.inr (.inr ⟨e, Option.some.inj h4⟩)))
theorem Mts.news {w : World} {ad : Addr} {n c : Nat} {l : List MV} (h : Mts w (.slice (some ad) n c) l) : ∀ j u, (flatM l)[j]? = some u → w.cell? (ad.add j) = some u := by
  intro j u hu
  obtain ⟨i, hi, hc⟩ := flatM_inv l j u hu
  obtain ⟨a, cap, hv, _, _, hcell⟩ := h
  obtain ⟨_, g, off, ha, _, c0, c1, c2, c3, c4⟩ := hcell i hi
  subst ha
  injection hv with e1
  injection e1 with e1
  subst e1
  rw [add_plain]
  rcases hc with ⟨rfl, rfl⟩ | ⟨rfl, rfl⟩ | ⟨rfl, rfl⟩ | ⟨rfl, rfl⟩ | ⟨rfl, rfl⟩
  · exact c0
  · exact c1
  · exact c2
  · exact c3
  · exact c4
theorem Mts.lies {w : World} {x : Value} {l : List MV} (h : Mts w x l) : Lies w x l.length (flatM l) := by
  have h0 := h
  obtain ⟨a, cap, rfl, _, _, hc⟩ := h
  cases a with
  | some ad => exact .inl ⟨ad, cap, rfl, h0.news⟩
  | none =>
    have : l = [] := by
      cases l with
      | nil => rfl
      | cons p r => obtain ⟨_, g, off, hg, _⟩ := hc 0 (by simp); cases hg
    subst this
    exact .inr ⟨cap, rfl, rfl⟩
/-- the first ones of a list -/
theorem Mts.pre {w : World} {a : Option Addr} {n cap : Nat} {l : List MV} (h : Mts w (.slice a n cap) l) {k : Nat} (hk : k ≤ l.length) : Mts w (.slice a k cap) (l.take k) := by
  obtain ⟨a', cap', hv, h1, h2, hc⟩ := h
  injection hv with e1 e2 e3
  subst e1 e2 e3
  have hl : (l.take k).length = k := by simp; omega
  refine ⟨a, cap, by rw [hl], by rw [hl]; omega, h2, fun i hi => ?_⟩
  rw [hl] at hi
  obtain ⟨hat, g, off, ha, hg, c⟩ := hc i (by omega)
  refine ⟨by simpa using hat, g, off, ha, hg, by simpa using c⟩
/-- the last ones of a list -/
theorem Mts.suf {w : World} {g off n cap : Nat} {l : List MV} (h : Mts w (.slice (some ⟨g, off, none⟩) n cap) l) {k m cap' : Nat} (hk : k ≤ l.length) (hm : m = l.length - k) (hc1 : m ≤ cap') (hc2 : cap' ≤ maxLen) : Mts w (.slice (some ⟨g, off + k * 5, none⟩) m cap') (l.drop k) := by
  obtain ⟨a', cap0, hv, h1, h2, hc⟩ := h
  injection hv with e1 e2 e3
  subst e1 e2 e3
  have hl : (l.drop k).length = m := by simp; omega
  refine ⟨_, cap', by rw [hl], by rw [hl]; exact hc1, hc2, fun i hi => ?_⟩
  rw [hl] at hi
  obtain ⟨hat, g', off', ha, hg, c⟩ := hc (k + i) (by omega)
  injection ha with ha
  injection ha with ha1 ha2
  subst ha1 ha2
  refine ⟨by simpa using hat, g, off + k * 5, rfl, hg, ?_⟩
  have e : off + (k + i) * 5 = off + k * 5 + i * 5 := by omega
  rw [e] at c
  simpa using c

/-- '[]api.Match{x}' -/
theorem Mts.at1 (w : World) (n : Nat) (h : w.heap.size = n) (x : MV) (hx : x.at_ (w.alloc (.cells #[.int .i64 x.m.kind, .string x.m.val, .string x.m.meth, x.vh, x.vq] 109))) : Mts (w.alloc (.cells #[.int .i64 x.m.kind, .string x.m.val, .string x.m.meth, x.vh, x.vq] 109)) (.slice (some ⟨n, 0, none⟩) 1 1) [x] := by
  subst h
  refine ⟨_, 1, rfl, Nat.le_refl _, by decide, fun i hi => ?_⟩
  have : i = 0 := by simpa using hi
  subst this
  refine ⟨hx, w.heap.size, 0, rfl, by simp, ?_⟩
  obtain ⟨c0, c1, c2, c3, c4⟩ := cell5 (alloc_new w (.cells #[.int .i64 x.m.kind, .string x.m.val, .string x.m.meth, x.vh, x.vq] 109))
  exact ⟨c0, c1, c2, c3, c4⟩
theorem owns_emptyM (w : World) : (w.alloc (.cells #[] 109)).ownsRow w.heap.size 109 5 (.slice (some ⟨w.heap.size, 0, none⟩) 0 0) 0 [] :=
  ⟨rfl, .inr ⟨w.heap.size, 0, #[], rfl, Nat.le_refl _, alloc_new w _, Nat.le_refl _, Nat.zero_le _, rfl, rfl⟩⟩

/-! ### append of matches -/
theorem wpList_append_mts {o : Oper} {a : Act} {Q : Exit → Act → World → Prop} {ops : Array Oper} {rest : List Oper} (w : World) (s x : Operand)
    (ho : o.op = .call { callee := .builtin .append, args := #[s, x], argTypes := #[71, 71] }) (hw : Region.wanted o (yielded ops a.tmps) = true)
    (base : Nat) (v : Value) (n : Nat) (xs : List MV) (hs : a.eval s = v) (hown : w.ownsRow base 109 5 v n (flatM xs))
    (y : Value) (l : List MV) (hy : a.eval x = y) (hl : Mts w y l) (hn : n + l.length ≤ 100000) (hbase : base ≤ w.heap.size)
    (h : ∀ v' w', w'.ownsRow base 109 5 v' (n + l.length) (flatM (xs ++ l)) → w.grownBy w' v.ownBlock → wpList Tryz.prog ops Q rest (a.put o.dst v') w') : wpList Tryz.prog ops Q (o :: rest) a w := by
  obtain ⟨i0, hi, hz0, hz1, hz2⟩ := info_parts Tryz.infoMatch
  exact wpList_append_any w s x _ ho base _ i0 _ 5 88 Tryz.underlying71 hi hz0 hz1 hz2 rfl (by decide) v n (flatM xs) hs hown y l.length (flatM l) hy hl.lies (flatM_len l) (flatM_one hl.all) (by unfold maxLen; omega) (by omega) hbase hw (fun v' w' h2 h3 => h v' w' (by rw [flatM_append]; exact h2) h3)
theorem step_append_mts {o : Oper} {a : Act} {Q : Exit → Act → World → Prop} {ops : Array Oper} {K : Act → World → Prop} {E : Prop} (w : World) (s x : Operand)
    (ho : o.op = .call { callee := .builtin .append, args := #[s, x], argTypes := #[71, 71] }) (hgd : o.guard = none)
    (base : Nat) (v : Value) (n : Nat) (xs : List MV) (hs : a.eval s = v) (hown : w.ownsRow base 109 5 v n (flatM xs))
    (y : Value) (l : List MV) (hy : a.eval x = y) (hl : Mts w y l) (hn : n + l.length ≤ 100000) (hbase : base ≤ w.heap.size)
    (h : ∀ v' w', w'.ownsRow base 109 5 v' (n + l.length) (flatM (xs ++ l)) → w.grownBy w' v.ownBlock → K (a.put o.dst v') w') :
    if Region.wanted o (yielded ops a.tmps) = true then Oper.wp Tryz.prog o a w K Q else E := by
  obtain ⟨i0, hi, hz0, hz1, hz2⟩ := info_parts Tryz.infoMatch
  exact step_append_any w s x _ ho base _ i0 _ 5 88 Tryz.underlying71 hi hz0 hz1 hz2 rfl (by decide) v n (flatM xs) hs hown y l.length (flatM l) hy hl.lies (flatM_len l) (flatM_one hl.all) (by unfold maxLen; omega) (by omega) hbase hgd (fun v' w' h2 h3 => h v' w' (by rw [flatM_append]; exact h2) h3)

end Go.Proofs.YtblmdcpcekoogaaGreatDoor
