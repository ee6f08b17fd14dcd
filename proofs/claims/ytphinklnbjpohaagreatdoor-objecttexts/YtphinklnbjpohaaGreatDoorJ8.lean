/-
  Matches and requests in memory: their values, a slice of matches.
-/
import Derived.Test.YtphinklnbjpohaaGreatDoorRuWalkB
import Derived.Test.YtphinklnbjpohaaGreatDoorRuWalkC
import Derived.Test.YtphinklnbjpohaaGreatDoorApp
import Derived.Test.YtphinklnbjpohaaGreatDoorPbRefA
import Derived.Test.YtphinklnbjpohaaGreatDoorPbLawA
import Derived.Test.YtphinklnbjpohaaGreatDoorJ6
namespace Go.Proofs.YtphinklnbjpohaaGreatDoor
set_option maxRecDepth 20000
open Go Go.RowKit Go.Shelf Go.ChangeShapes Go.WideShapes Go.Deep

/-- a request, as a value -/
abbrev rV (r : RB) (vq vh : Value) : Value := .agg #[.string r.meth, .string r.host, .string r.path, vq, vh]
/-- a match that is not too large -/
structure OkM (m : MB) : Prop where
  val : m.val.size ≤ 100
  meth : m.meth.size ≤ 100
  hlen : m.head.length ≤ 31
  qlen : m.query.length ≤ 31
  head : ∀ p ∈ m.head, okF p
  query : ∀ p ∈ m.query, okF p
structure OkR (r : RB) : Prop where
  meth : r.meth.size ≤ 100
  host : r.host.size ≤ 100
  path : r.path.size ≤ 100
  qlen : r.query.length ≤ 31
  hlen : r.head.length ≤ 31
  query : ∀ p ∈ r.query, okF p
  head : ∀ p ∈ r.head, okF p
theorem okF_okP {l : List PairB} (h : ∀ p ∈ l, okF p) : ∀ p ∈ l, okP p := ok_small h
theorem OkM.order {m : MB} (h : OkM m) : m.val.size ≤ 100 ∧ m.head.length ≤ 100 ∧ m.query.length ≤ 100 := ⟨h.val, by have := h.hlen; omega, by have := h.qlen; omega⟩

/-- a match, with where its lists lie -/
structure MV where
  m : MB
  ah : Option Addr
  ch : Nat
  aq : Option Addr
  cq : Nat
abbrev MV.vh (x : MV) : Value := .slice x.ah x.m.head.length x.ch
abbrev MV.vq (x : MV) : Value := .slice x.aq x.m.query.length x.cq
def mcells (x : MV) : List Value := [.int .i64 x.m.kind, .string x.m.val, .string x.m.meth, x.vh, x.vq]
def flatM (l : List MV) : List Value := l.flatMap mcells
/-- its lists lie there -/
def MV.at_ (x : MV) (w : World) : Prop := Prs w x.vh x.m.head ∧ Prs w x.vq x.m.query
theorem MV.at_.below {x : MV} {w w' : World} (h : x.at_ w) (hb : Below w.heap.size w w') : x.at_ w' := ⟨h.1.below hb, h.2.below hb⟩
/-- the five cells of a match -/
def Five5 (w : World) (g o : Nat) (x : MV) : Prop :=
  w.cell? ⟨g, o, none⟩ = some (.int .i64 x.m.kind) ∧ w.cell? ⟨g, o + 1, none⟩ = some (.string x.m.val) ∧ w.cell? ⟨g, o + 2, none⟩ = some (.string x.m.meth) ∧ w.cell? ⟨g, o + 3, none⟩ = some x.vh ∧ w.cell? ⟨g, o + 4, none⟩ = some x.vq
theorem Five5.below {w w' : World} {g o : Nat} {x : MV} (h : Five5 w g o x) (hg : g < w.heap.size) (hb : Below w.heap.size w w') : Five5 w' g o x :=
  ⟨(hb.cell (p := ⟨g, o, none⟩) hg).trans h.1, (hb.cell (p := ⟨g, o + 1, none⟩) hg).trans h.2.1, (hb.cell (p := ⟨g, o + 2, none⟩) hg).trans h.2.2.1, (hb.cell (p := ⟨g, o + 3, none⟩) hg).trans h.2.2.2.1, (hb.cell (p := ⟨g, o + 4, none⟩) hg).trans h.2.2.2.2⟩
/-- a slice of matches -/
def Mts (w : World) (v : Value) (l : List MV) : Prop :=
  ∃ a cap, v = .slice a l.length cap ∧ l.length ≤ cap ∧ cap ≤ maxLen ∧
    ∀ i (h : i < l.length), l[i].at_ w ∧ ∃ g off, a = some ⟨g, off, none⟩ ∧ g < w.heap.size ∧ Five5 w g (off + i * 5) l[i]

theorem Mts.below {w w' : World} {v : Value} {l : List MV} (h : Mts w v l) (hb : Below w.heap.size w w') : Mts w' v l := by
  obtain ⟨a, cap, hv, h1, h2, hc⟩ := h
  refine ⟨a, cap, hv, h1, h2, fun i hi => ?_⟩
  obtain ⟨hat, g, off, hg, hlt, c⟩ := hc i hi
  exact ⟨hat.below hb, g, off, hg, Nat.lt_of_lt_of_le hlt hb.size, c.below hlt hb⟩
theorem Mts.nil (w : World) : Mts w (.slice none 0 0) [] := ⟨none, 0, rfl, Nat.le_refl _, Nat.zero_le _, fun i hi => absurd hi (by simp)⟩
theorem Mts.len {w : World} {v : Value} {l : List MV} (h : Mts w v l) : l.length ≤ 9223372036854775807 := by
  obtain ⟨_, _, _, h1, h2, _⟩ := h
  unfold maxLen at h2
  omega
theorem Mts.form {w : World} {v : Value} {l : List MV} (h : Mts w v l) : ∃ a cap, v = .slice a l.length cap := by
  obtain ⟨a, cap, hv, _⟩ := h
  exact ⟨a, cap, hv⟩
theorem Mts.all {w : World} {v : Value} {l : List MV} (h : Mts w v l) : ∀ x ∈ l, x.at_ w := by
  obtain ⟨_, _, _, _, _, hc⟩ := h
  intro x hx
  obtain ⟨i, hi, rfl⟩ := List.getElem_of_mem hx
  exact (hc i hi).1

theorem flatM_append (a b : List MV) : flatM (a ++ b) = flatM a ++ flatM b := by simp [flatM]
theorem flatM_len (l : List MV) : (flatM l).length = l.length * 5 := by
  induction l with
  | nil => rfl
  | cons p l ih =>
    show (mcells p ++ flatM l).length = _
    rw [List.length_append, ih]
    simp [mcells]
    omega
theorem flatM_at : ∀ (l : List MV) (i : Nat) (h : i < l.length), (flatM l)[i * 5]? = some (.int .i64 l[i].m.kind) ∧ (flatM l)[i * 5 + 1]? = some (.string l[i].m.val) ∧ (flatM l)[i * 5 + 2]? = some (.string l[i].m.meth) ∧ (flatM l)[i * 5 + 3]? = some l[i].vh ∧ (flatM l)[i * 5 + 4]? = some l[i].vq
  | p :: l, 0, _ => ⟨rfl, rfl, rfl, rfl, rfl⟩
  | p :: l, i + 1, h => by
    have := flatM_at l i (by simpa using h)
    have e : flatM (p :: l) = .int .i64 p.m.kind :: .string p.m.val :: .string p.m.meth :: p.vh :: p.vq :: flatM l := rfl
    rw [e, Nat.add_mul]
    exact this
theorem Prs.one {w : World} {v : Value} {l : List PairB} (h : Prs w v l) : v.oneCell' = true := by
  obtain ⟨a, cap, rfl, _⟩ := h
  rfl
theorem flatM_one {w : World} {l : List MV} (hl : ∀ x ∈ l, x.at_ w) : ∀ u ∈ flatM l, u.oneCell' = true := by
  intro u hu
  obtain ⟨p, hp, hu⟩ := List.mem_flatMap.1 hu
  have := hl p hp
  simp [mcells] at hu
  rcases hu with rfl | rfl | rfl | rfl | rfl
  · rfl
  · rfl
  · rfl
  · exact this.1.one
  · exact this.2.one

theorem Mts.of_row {w : World} {base : Nat} {v : Value} {l : List MV} {n : Nat} (hn : n = l.length) (h : w.ownsRow base 114 5 v n (flatM l)) (hl : ∀ x ∈ l, x.at_ w) : Mts w v l := by
  subst hn
  obtain ⟨_, h2⟩ := h
  rcases h2 with ⟨rfl, h0⟩ | ⟨g, cap, cur, rfl, hg, hgb, hle, hcm, hsz, hcur⟩
  · have : l = [] := List.eq_nil_of_length_eq_zero h0
    subst this
    exact Mts.nil w
  · refine ⟨some ⟨g, 0, none⟩, cap, rfl, hle, hcm, fun i hi => ⟨hl _ (List.getElem_mem hi), g, 0, rfl, (Array.getElem?_eq_some_iff.1 hgb).1, ?_⟩⟩
    have rd : ∀ j u, j < l.length * 5 → (flatM l)[j]? = some u → w.cell? ⟨g, 0 + j, none⟩ = some u := fun j u hj hu => by
      rw [← hcur, List.getElem?_take_of_lt (by omega)] at hu
      simp [World.cell?, hgb]
      simpa using hu
    obtain ⟨a0, a1, a2, a3, a4⟩ := flatM_at l i hi
    exact ⟨rd _ _ (by omega) a0, rd _ _ (by omega) a1, rd _ _ (by omega) a2, rd _ _ (by omega) a3, rd _ _ (by omega) a4⟩

theorem Tryz.infoMatch : (Tryz.prog.info? 114).map (fun i => (i.zero, i.size, i.bytes)) = some (some (.agg #[.int .i64 0, .string ⟨#[]⟩, .string ⟨#[]⟩, .slice none 0 0, .slice none 0 0]), 5, 88) := by kernel_rfl

theorem flatM_inv (l : List MV) (j : Nat) (u : Value) (h : (flatM l)[j]? = some u) : ∃ i, ∃ hi : i < l.length, (j = i * 5 ∧ u = .int .i64 l[i].m.kind) ∨ (j = i * 5 + 1 ∧ u = .string l[i].m.val) ∨ (j = i * 5 + 2 ∧ u = .string l[i].m.meth) ∨ (j = i * 5 + 3 ∧ u = l[i].vh) ∨ (j = i * 5 + 4 ∧ u = l[i].vq) := by
  have hj : j < l.length * 5 := by rw [← flatM_len]; exact (List.getElem?_eq_some_iff.1 h).1
  have hi : j / 5 < l.length := by omega
  obtain ⟨h0, h1, h2, h3, h4⟩ := flatM_at l (j / 5) hi
  refine ⟨j / 5, hi, ?_⟩
  rcases (by omega : j = j / 5 * 5 ∨ j = j / 5 * 5 + 1 ∨ j = j / 5 * 5 + 2 ∨ j = j / 5 * 5 + 3 ∨ j = j / 5 * 5 + 4) with e | e | e | e | e
  · rw [← e, h] at h0
    exact .inl ⟨e, Option.some.inj h0⟩
  · rw [← e, h] at h1
    exact .inr (.inl ⟨e, Option.some.inj h1⟩)
  · rw [← e, h] at h2
    exact .inr (.inr (.inl ⟨e, Option.some.inj h2⟩))
  · rw [← e, h] at h3
    exact .inr (.inr (.inr (.inl ⟨e, Option.some.inj h3⟩)))
  · rw [← e, h] at h4
    exact .inr (.inr (.inr (.inr ⟨e, Option.some.inj h4⟩)))
theorem Mts.news {w : World} {ad : Addr} {n c : Nat} {l : List MV} (h : Mts w (.slice (some ad) n c) l) : ∀ j u, (flatM l)[j]? = some u → w.cell? (ad.add j) = some u := by
  intro j u hu
  obtain ⟨i, hi, hc⟩ := flatM_inv l j u hu
  obtain ⟨a, cap, hv, _, _, hcell⟩ := h
  obtain ⟨_, g, off, ha, _, c0, c1, c2, c3, c4⟩ := hcell i hi
  subst ha
  injection hv with e1
  injection e1 with e1
  subst e1
  rw [add_plain]
  rcases hc with ⟨rfl, rfl⟩ | ⟨rfl, rfl⟩ | ⟨rfl, rfl⟩ | ⟨rfl, rfl⟩ | ⟨rfl, rfl⟩
  · exact c0
  · exact c1
  · exact c2
  · exact c3
  · exact c4
theorem Mts.lies {w : World} {x : Value} {l : List MV} (h : Mts w x l) : Lies w x l.length (flatM l) := by
  have h0 := h
  obtain ⟨a, cap, rfl, _, _, hc⟩ := h
  cases a with
  | some ad => exact .inl ⟨ad, cap, rfl, h0.news⟩
  | none =>
    have : l = [] := by
      cases l with
      | nil => rfl
      | cons p r => obtain ⟨_, g, off, hg, _⟩ := hc 0 (by simp); cases hg
    subst this
    exact .inr ⟨cap, rfl, rfl⟩
/-- the first ones of a list -/
theorem Mts.pre {w : World} {a : Option Addr} {n cap : Nat} {l : List MV} (h : Mts w (.slice a n cap) l) {k : Nat} (hk : k ≤ l.length) : Mts w (.slice a k cap) (l.take k) := by
  obtain ⟨a', cap', hv, h1, h2, hc⟩ := h
  injection hv with e1 e2 e3
  subst e1 e2 e3
  have hl : (l.take k).length = k := by simp; omega
  refine ⟨a, cap, by rw [hl], by rw [hl]; omega, h2, fun i hi => ?_⟩
  rw [hl] at hi
  obtain ⟨hat, g, off, ha, hg, c⟩ := hc i (by omega)
  refine ⟨by simpa using hat, g, off, ha, hg, by simpa using c⟩
/-- the last ones of a list -/
theorem Mts.suf {w : World} {g off n cap : Nat} {l : List MV} (h : Mts w (.slice (some ⟨g, off, none⟩) n cap) l) {k m cap' : Nat} (hk : k ≤ l.length) (hm : m = l.length - k) (hc1 : m ≤ cap') (hc2 : cap' ≤ maxLen) : Mts w (.slice (some ⟨g, off + k * 5, none⟩) m cap') (l.drop k) := by
  obtain ⟨a', cap0, hv, h1, h2, hc⟩ := h
  injection hv with e1 e2 e3
  subst e1 e2 e3
  have hl : (l.drop k).length = m := by simp; omega
  refine ⟨_, cap', by rw [hl], by rw [hl]; exact hc1, hc2, fun i hi => ?_⟩
  rw [hl] at hi
  obtain ⟨hat, g', off', ha, hg, c⟩ := hc (k + i) (by omega)
  injection ha with ha
  injection ha with ha1 ha2
  subst ha1 ha2
  refine ⟨by simpa using hat, g, off + k * 5, rfl, hg, ?_⟩
  have e : off + (k + i) * 5 = off + k * 5 + i * 5 := by omega
  rw [e] at c
  simpa using c

/-- '[]api.Match{x}' -/
theorem Mts.at1 (w : World) (n : Nat) (h : w.heap.size = n) (x : MV) (hx : x.at_ (w.alloc (.cells #[.int .i64 x.m.kind, .string x.m.val, .string x.m.meth, x.vh, x.vq] 114))) : Mts (w.alloc (.cells #[.int .i64 x.m.kind, .string x.m.val, .string x.m.meth, x.vh, x.vq] 114)) (.slice (some ⟨n, 0, none⟩) 1 1) [x] := by
  subst h
  refine ⟨_, 1, rfl, Nat.le_refl _, by decide, fun i hi => ?_⟩
  have : i = 0 := by simpa using hi
  subst this
  refine ⟨hx, w.heap.size, 0, rfl, by simp, ?_⟩
  obtain ⟨c0, c1, c2, c3, c4⟩ := cell5 (alloc_new w (.cells #[.int .i64 x.m.kind, .string x.m.val, .string x.m.meth, x.vh, x.vq] 114))
  exact ⟨c0, c1, c2, c3, c4⟩
theorem owns_emptyM (w : World) : (w.alloc (.cells #[] 114)).ownsRow w.heap.size 114 5 (.slice (some ⟨w.heap.size, 0, none⟩) 0 0) 0 [] :=
  ⟨rfl, .inr ⟨w.heap.size, 0, #[], rfl, Nat.le_refl _, alloc_new w _, Nat.le_refl _, Nat.zero_le _, rfl, rfl⟩⟩

/-! ### append of matches -/
theorem wpList_append_mts {o : Oper} {a : Act} {Q : Exit → Act → World → Prop} {ops : Array Oper} {rest : List Oper} (w : World) (s x : Operand)
    (ho : o.op = .call { callee := .builtin .append, args := #[s, x], argTypes := #[109, 109] }) (hw : Region.wanted o (yielded ops a.tmps) = true)
    (base : Nat) (v : Value) (n : Nat) (xs : List MV) (hs : a.eval s = v) (hown : w.ownsRow base 114 5 v n (flatM xs))
    (y : Value) (l : List MV) (hy : a.eval x = y) (hl : Mts w y l) (hn : n + l.length ≤ 100000) (hbase : base ≤ w.heap.size)
    (h : ∀ v' w', w'.ownsRow base 114 5 v' (n + l.length) (flatM (xs ++ l)) → w.grownBy w' v.ownBlock → wpList Tryz.prog ops Q rest (a.put o.dst v') w') : wpList Tryz.prog ops Q (o :: rest) a w := by
  obtain ⟨i0, hi, hz0, hz1, hz2⟩ := info_parts Tryz.infoMatch
  exact wpList_append_any w s x _ ho base _ i0 _ 5 88 Tryz.underlying109 hi hz0 hz1 hz2 rfl (by decide) v n (flatM xs) hs hown y l.length (flatM l) hy hl.lies (flatM_len l) (flatM_one hl.all) (by unfold maxLen; omega) (by omega) hbase hw (fun v' w' h2 h3 => h v' w' (by rw [flatM_append]; exact h2) h3)
theorem step_append_mts {o : Oper} {a : Act} {Q : Exit → Act → World → Prop} {ops : Array Oper} {K : Act → World → Prop} {E : Prop} (w : World) (s x : Operand)
    (ho : o.op = .call { callee := .builtin .append, args := #[s, x], argTypes := #[109, 109] }) (hgd : o.guard = none)
    (base : Nat) (v : Value) (n : Nat) (xs : List MV) (hs : a.eval s = v) (hown : w.ownsRow base 114 5 v n (flatM xs))
    (y : Value) (l : List MV) (hy : a.eval x = y) (hl : Mts w y l) (hn : n + l.length ≤ 100000) (hbase : base ≤ w.heap.size)
    (h : ∀ v' w', w'.ownsRow base 114 5 v' (n + l.length) (flatM (xs ++ l)) → w.grownBy w' v.ownBlock → K (a.put o.dst v') w') :
    if Region.wanted o (yielded ops a.tmps) = true then Oper.wp Tryz.prog o a w K Q else E := by
  obtain ⟨i0, hi, hz0, hz1, hz2⟩ := info_parts Tryz.infoMatch
  exact step_append_any w s x _ ho base _ i0 _ 5 88 Tryz.underlying109 hi hz0 hz1 hz2 rfl (by decide) v n (flatM xs) hs hown y l.length (flatM l) hy hl.lies (flatM_len l) (flatM_one hl.all) (by unfold maxLen; omega) (by omega) hbase hgd (fun v' w' h2 h3 => h v' w' (by rw [flatM_append]; exact h2) h3)

end Go.Proofs.YtphinklnbjpohaaGreatDoor
namespace Go.Proofs.YtphinklnbjpohaaGreatDoor
set_option maxRecDepth 20000
open Go Go.RowKit Go.Shelf

theorem method_b (s : ByteArray) (w : World) (hs : s.size ≤ maxLen) :
    Calls Tryz.prog 271 #[.string s] w fun e w' => e = .returned (.bool (methB s)) ∧ Below w.heap.size w w' :=
  (method_any s w hs).mono fun _ _ ⟨h, hw⟩ => ⟨h, by rw [hw]; exact Below.refl _ _⟩
theorem rmethod_b (s : ByteArray) (w : World) (hs : s.size ≤ maxLen) :
    Calls Tryz.prog 237 #[.string s] w fun e w' => e = .returned (.bool (methB s)) ∧ Below w.heap.size w w' :=
  (rmethod_any s w hs).mono fun _ _ ⟨h, hw⟩ => ⟨h, by rw [hw]; exact Below.refl _ _⟩
theorem mayM_walk (m : MB) : mayM m = (mayP m.kind m.val.data.toList && ((m.meth.toList.isEmpty || methB m.meth) && (headB m.head && queryB m.query))) := by
  rw [mayM_parts, empty_size]

set_option maxHeartbeats 1600000 in
theorem may_m (m : MB) (vh vq : Value) (w : World) (hh : Prs w vh m.head) (hq : Prs w vq m.query) (ok : OkM m) :
    Calls Tryz.prog 232 #[mV m vh vq] w fun e w' => e = .returned (.bool (mayM m)) ∧ Below w.heap.size w w' := by
  have HP := hide (mayM_walk m)
  have C1 := fun W => hide (may_any m.kind m.val W (small_len (by have := ok.val; omega)))
  have C2 := fun W => hide (method_b m.meth W (small_len (by have := ok.meth; omega)))
  have C3 := fun W (h : Below w.heap.size w W) => hide (mayHead_any vh m.head W (hh.below h) (okF_okP ok.head))
  have C4 := fun W (h : Below w.heap.size w W) => hide (mayQuery_any vq m.query W (hq.below h) (okF_okP ok.query))
  clear hh hq ok
  generalize mayM m = r at *
  obtain ⟨k, v, t, hd, qu⟩ := m
  dsimp only at *
  generalize headB hd = x3 at *
  generalize queryB qu = x4 at *
  generalize methB t = x2 at *
  generalize mayP k v.data.toList = x1 at *
  have m0 := fun q : GB (w.alloc (.cells #[.int .i64 k, .string v, .string t, vh, vq] 114)) => (box5 q.h).1
  have m1 := fun q : GB (w.alloc (.cells #[.int .i64 k, .string v, .string t, vh, vq] 114)) => (box5 q.h).2.1
  have m2 := fun q : GB (w.alloc (.cells #[.int .i64 k, .string v, .string t, vh, vq] 114)) => (box5 q.h).2.2.1
  have m3 := fun q : GB (w.alloc (.cells #[.int .i64 k, .string v, .string t, vh, vq] 114)) => (box5 q.h).2.2.2.1
  have m4 := fun q : GB (w.alloc (.cells #[.int .i64 k, .string v, .string t, vh, vq] 114)) => (box5 q.h).2.2.2.2
  cases x1
  · go_enter Tryz.func232, Tryz.ntmps232
    go_wp2_with fail
    refine (calls_gb0 ((C1 _).out)).mono ?_
    rintro e x ⟨rfl, q, rfl⟩
    go_wp2_with fail
    go_ret
    exact ⟨ret_bool HP.out.symm, below_box q.h⟩
  cases he : t.toList.isEmpty
  · rw [he] at HP
    cases x2
    · go_enter Tryz.func232, Tryz.ntmps232
      go_wp2_with fail
      refine (calls_gb0 ((C1 _).out)).mono ?_
      rintro e x ⟨rfl, q, rfl⟩
      go_wp2_with fail
      refine (calls_gb ((C2 _).out)).mono ?_
      rintro e x ⟨rfl, q, rfl⟩
      go_wp2_with fail
      go_ret
      exact ⟨ret_bool HP.out.symm, below_box q.h⟩
    cases x3
    · go_enter Tryz.func232, Tryz.ntmps232
      go_wp2_with fail
      refine (calls_gb0 ((C1 _).out)).mono ?_
      rintro e x ⟨rfl, q, rfl⟩
      go_wp2_with fail
      refine (calls_gb ((C2 _).out)).mono ?_
      rintro e x ⟨rfl, q, rfl⟩
      go_wp2_with fail
      refine (calls_gb ((C3 _ (below_box q.h)).out)).mono ?_
      rintro e x ⟨rfl, q, rfl⟩
      go_wp2_with fail
      go_ret
      exact ⟨ret_bool HP.out.symm, below_box q.h⟩
    · go_enter Tryz.func232, Tryz.ntmps232
      go_wp2_with fail
      refine (calls_gb0 ((C1 _).out)).mono ?_
      rintro e x ⟨rfl, q, rfl⟩
      go_wp2_with fail
      refine (calls_gb ((C2 _).out)).mono ?_
      rintro e x ⟨rfl, q, rfl⟩
      go_wp2_with fail
      refine (calls_gb ((C3 _ (below_box q.h)).out)).mono ?_
      rintro e x ⟨rfl, q, rfl⟩
      go_wp2_with fail
      refine (calls_gb ((C4 _ (below_box q.h)).out)).mono ?_
      rintro e x ⟨rfl, q, rfl⟩
      go_wp2_with fail
      go_ret
      exact ⟨ret_bool HP.out.symm, below_box q.h⟩
  · rw [he] at HP
    cases x3
    · go_enter Tryz.func232, Tryz.ntmps232
      go_wp2_with fail
      refine (calls_gb0 ((C1 _).out)).mono ?_
      rintro e x ⟨rfl, q, rfl⟩
      go_wp2_with fail
      refine (calls_gb ((C3 _ (below_box q.h)).out)).mono ?_
      rintro e x ⟨rfl, q, rfl⟩
      go_wp2_with fail
      go_ret
      exact ⟨ret_bool HP.out.symm, below_box q.h⟩
    · go_enter Tryz.func232, Tryz.ntmps232
      go_wp2_with fail
      refine (calls_gb0 ((C1 _).out)).mono ?_
      rintro e x ⟨rfl, q, rfl⟩
      go_wp2_with fail
      refine (calls_gb ((C3 _ (below_box q.h)).out)).mono ?_
      rintro e x ⟨rfl, q, rfl⟩
      go_wp2_with fail
      refine (calls_gb ((C4 _ (below_box q.h)).out)).mono ?_
      rintro e x ⟨rfl, q, rfl⟩
      go_wp2_with fail
      go_ret
      exact ⟨ret_bool HP.out.symm, below_box q.h⟩

theorem holdM_walk (m : MB) (r : RB) : holdM m r = (mayM m && (holdP m.kind m.val.data.toList r.path.data.toList && ((m.meth.toList.isEmpty || (m.meth.toList == r.meth.toList)) && (holdsQ true m.head r.head && holdsQ false m.query r.query)))) := by
  unfold holdM
  rw [empty_size, beq_dec]

end Go.Proofs.YtphinklnbjpohaaGreatDoor
namespace Go.Proofs.YtphinklnbjpohaaGreatDoor
set_option maxRecDepth 20000
open Go Go.RowKit Go.Shelf

attribute [local go_sem] gb_const

set_option maxHeartbeats 400000 in
theorem equal_len (w : World) (va vb : Value) (xs ys : List PairB) (ha : Prs w va xs) (hb : Prs w vb ys) (hne : xs.length ≠ ys.length) :
    Calls Tryz.prog 63 #[va, vb] w fun e w' => e = .returned (.bool (decide (xs = ys))) ∧ Below w.heap.size w w' := by
  obtain ⟨a, ca, rfl, _, _, hca⟩ := ha
  obtain ⟨b, cb, rfl, _, _, hcb⟩ := hb
  have hd : Hid (decide (xs = ys) = false) := decide_eq_false (fun e => hne (by rw [e]))
  have hx : ((xs.length : Int) != (ys.length : Int)) = true := by rw [bne_iff_ne]; omega
  clear hca hcb
  go_enter Tryz.func63, Tryz.ntmps63
  go_wp2_with fail
  go_ret
  exact ⟨ret_bool hd.out.symm, Below.refl _ _⟩

set_option maxHeartbeats 800000 in
theorem equal_any (w : World) (va vb : Value) (xs ys : List PairB) (ha : Prs w va xs) (hb : Prs w vb ys) :
    Calls Tryz.prog 63 #[va, vb] w fun e w' => e = .returned (.bool (decide (xs = ys))) ∧ Below w.heap.size w w' := by
  by_cases hnn : ¬ xs.length = ys.length
  · exact equal_len w va vb xs ys ha hb hnn
  have hne : xs.length = ys.length := Classical.not_not.1 hnn
  clear hnn
  have hl := ha.len
  obtain ⟨a, ca, rfl, _, _, hca⟩ := ha
  obtain ⟨b, cb, rfl, _, _, hcb⟩ := hb
  have HCA := hide hca
  have HCB := hide hcb
  clear hca hcb
  have HN := hide hne
  have hx : ((xs.length : Int) != (ys.length : Int)) = false := by rw [bne_eq_false_iff_eq]; omega
  clear hne
  go_enter Tryz.func63, Tryz.ntmps63
  go_wp2_with fail
  go_loopw [13] (fun i wr => ∃ k : Nat, k ≤ xs.length ∧ i = .int .i64 k ∧ Hid (xs.take k = ys.take k) ∧ Below w.heap.size w wr) (fun i _ => xs.length - (intOf i).toNat)
  case atStart => exact ⟨0, Nat.zero_le _, rfl, rfl, Below.refl _ _⟩
  case round =>
    obtain ⟨k, hk, rfl, htk, hB⟩ := hrel
    by_cases hlt : k < xs.length
    · have hlb : k < ys.length := by rw [← HN.out]; exact hlt
      obtain ⟨ga, oa, rfl, hga, a1, a2⟩ := HCA.out k hlt
      obtain ⟨gb, ob, rfl, hgb, b1, b2⟩ := HCB.out k hlb
      replace a1 := (hB.cell (p := ⟨ga, oa + k * 2, none⟩) hga).trans a1
      replace a2 := (hB.cell (p := ⟨ga, oa + k * 2 + 1, none⟩) hga).trans a2
      replace b1 := (hB.cell (p := ⟨gb, ob + k * 2, none⟩) hgb).trans b1
      replace b2 := (hB.cell (p := ⟨gb, ob + k * 2 + 1, none⟩) hgb).trans b2
      have hlt' : (k : Int) < (xs.length : Int) := by omega
      have hlb' : (k : Int) < (ys.length : Int) := by omega
      have HX : Hid (xs[k] = (xs[k].1, xs[k].2)) := rfl
      have HY : Hid (ys[k] = (ys[k].1, ys[k].2)) := rfl
      have HEQ : Hid (∀ j (h1 : j < xs.length) (h2 : j < ys.length), xs = ys → xs[j] = ys[j]) := by
        intro j h1 h2 e; subst e; rfl
      generalize hx1 : xs[k].1 = x1 at *
      generalize hx2 : xs[k].2 = x2 at *
      generalize hy1 : ys[k].1 = y1 at *
      generalize hy2 : ys[k].2 = y2 at *
      cases hq1 : (x1.toList == y1.toList)
      · have hqe : Hid (decide (xs = ys) = false) := by
          apply decide_eq_false
          intro e
          have := HEQ.out k hlt hlb e
          rw [HX.out, HY.out] at this
          rw [(Prod.mk.inj this).1] at hq1
          simp at hq1
        go_wp2_with fail
        go_region
        go_wp2_with fail
        go_ret
        exact ⟨ret_bool hqe.out.symm, hB.drew⟩
      · cases hq2 : (x2.toList == y2.toList)
        · have hqe : Hid (decide (xs = ys) = false) := by
            apply decide_eq_false
            intro e
            have := HEQ.out k hlt hlb e
            rw [HX.out, HY.out] at this
            rw [(Prod.mk.inj this).2] at hq2
            simp at hq2
          go_wp2_with fail
          go_region
          go_wp2_with fail
          go_ret
          exact ⟨ret_bool hqe.out.symm, hB.drew⟩
        · have hqe : Hid (xs[k] = ys[k]) := by
            unfold Hid
            rw [HX.out, HY.out, bytes_eq hq1, bytes_eq hq2]
          go_wp2_with fail
          go_region
          go_wp2_with fail
          refine ⟨⟨k + 1, by omega, by go_num, ?_, hB.drew⟩, by simp [intOf]; omega⟩
          unfold Hid
          rw [List.take_succ_eq_append_getElem hlt, List.take_succ_eq_append_getElem hlb, htk.out, hqe.out]
    · have hqe : Hid (decide (xs = ys) = true) := by
        apply decide_eq_true
        have := htk.out
        rwa [List.take_of_length_le (by omega), List.take_of_length_le (by rw [← HN.out]; omega)] at this
      have hlt' : ¬ (k : Int) < (xs.length : Int) := by omega
      go_wp2_with fail
      go_ret
      exact ⟨ret_bool hqe.out.symm, hB⟩

/-- the same, part by part -/
def sameM (a b : MB) : Bool := (a.kind == b.kind && a.val.toList == b.val.toList) && ((a.meth.toList == b.meth.toList) && (decide (a.head = b.head) && decide (a.query = b.query)))
theorem sameM_refl (a : MB) : sameM a a = true := by simp [sameM]

set_option maxHeartbeats 1600000 in
theorem same_m (a b : MB) (va vb vc vd : Value) (w : World) (ha1 : Prs w va a.head) (ha2 : Prs w vb a.query) (hb1 : Prs w vc b.head) (hb2 : Prs w vd b.query) :
    Calls Tryz.prog 123 #[mV a va vb, mV b vc vd] w fun e w' => e = .returned (.bool (sameM a b)) ∧ Below w.heap.size w w' := by
  have HP : Hid (sameM a b = ((a.kind == b.kind && a.val.toList == b.val.toList) && ((a.meth.toList == b.meth.toList) && (decide (a.head = b.head) && decide (a.query = b.query))))) := rfl
  have C1 := fun W (h : Below w.heap.size w W) => hide (equal_any W va vc a.head b.head (ha1.below h) (hb1.below h))
  have C2 := fun W (h : Below w.heap.size w W) => hide (equal_any W vb vd a.query b.query (ha2.below h) (hb2.below h))
  clear ha1 ha2 hb1 hb2
  generalize sameM a b = z at *
  generalize decide (a.head = b.head) = x3 at *
  generalize decide (a.query = b.query) = x4 at *
  obtain ⟨k, v, t, hd, qu⟩ := a
  obtain ⟨k', v', t', hd', qu'⟩ := b
  dsimp only at *
  have m0 := fun q : GB ((w.alloc (.cells #[.int .i64 k, .string v, .string t, va, vb] 114)).alloc (.cells #[.int .i64 k', .string v', .string t', vc, vd] 114)) => (box55 q.h).1.2.2.2.1
  have m1 := fun q : GB ((w.alloc (.cells #[.int .i64 k, .string v, .string t, va, vb] 114)).alloc (.cells #[.int .i64 k', .string v', .string t', vc, vd] 114)) => (box55 q.h).1.2.2.2.2
  have n0 := fun q : GB ((w.alloc (.cells #[.int .i64 k, .string v, .string t, va, vb] 114)).alloc (.cells #[.int .i64 k', .string v', .string t', vc, vd] 114)) => (box55 q.h).2.2.2.2.1
  have n1 := fun q : GB ((w.alloc (.cells #[.int .i64 k, .string v, .string t, va, vb] 114)).alloc (.cells #[.int .i64 k', .string v', .string t', vc, vd] 114)) => (box55 q.h).2.2.2.2.2
  have B2 : Below w.heap.size w ((w.alloc (.cells #[.int .i64 k, .string v, .string t, va, vb] 114)).alloc (.cells #[.int .i64 k', .string v', .string t', vc, vd] 114)) := ((Below.refl _ _).alloc (Nat.le_refl _) _).alloc (by simp) _
  cases e0 : (k == k')
  · rw [e0] at HP
    go_enter Tryz.func123, Tryz.ntmps123
    go_wp2_with fail
    go_ret
    exact ⟨ret_bool HP.out.symm, B2⟩
  cases e1 : (v.toList == v'.toList)
  · rw [e0, e1] at HP
    go_enter Tryz.func123, Tryz.ntmps123
    go_wp2_with fail
    go_ret
    exact ⟨ret_bool HP.out.symm, B2⟩
  cases e2 : (t.toList == t'.toList)
  · rw [e0, e1, e2] at HP
    go_enter Tryz.func123, Tryz.ntmps123
    go_wp2_with fail
    go_ret
    exact ⟨ret_bool HP.out.symm, B2⟩
  rw [e0, e1, e2] at HP
  cases x3
  · go_enter Tryz.func123, Tryz.ntmps123
    go_wp2_with fail
    refine (calls_gb0 ((C1 _ B2).out)).mono ?_
    rintro e x ⟨rfl, q, rfl⟩
    go_wp2_with fail
    go_ret
    exact ⟨ret_bool HP.out.symm, below_2 q.h⟩
  · go_enter Tryz.func123, Tryz.ntmps123
    go_wp2_with fail
    refine (calls_gb0 ((C1 _ B2).out)).mono ?_
    rintro e x ⟨rfl, q, rfl⟩
    go_wp2_with fail
    refine (calls_gb ((C2 _ (below_2 q.h)).out)).mono ?_
    rintro e x ⟨rfl, q, rfl⟩
    go_wp2_with fail
    go_ret
    exact ⟨ret_bool HP.out.symm, below_2 q.h⟩

/-! ### First -/
def atI (o : Option (Nat × MB)) : Nat := match o with
  | none => 0
  | some p => p.1
theorem ret_first {i j : Nat} {a b : Bool} (h : i = j) (k : a = b) : Ending.returned (.tuple #[.int .i64 (i : Int), .bool a]) = .returned (.tuple #[.int .i64 (j : Int), .bool b]) := by rw [h, k]
abbrev bestToM (r : RB) (l : List MB) (k : Nat) : Option (Nat × MB) := Ru.bestTo (fun m => holdM m r) ahM l k

end Go.Proofs.YtphinklnbjpohaaGreatDoor
