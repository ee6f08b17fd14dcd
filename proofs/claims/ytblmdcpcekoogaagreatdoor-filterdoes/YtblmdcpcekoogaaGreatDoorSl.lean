/-
  A slice of structs of whatever type: n cells each; where it lies, a row of one's own, parts of it, append, an argument that is one. No type and no function of a program is named here.
-/
import Derived.Test.YtblmdcpcekoogaaGreatDoorApp
import Derived.Deep.Slices
namespace Go.Proofs.YtblmdcpcekoogaaGreatDoor
set_option maxRecDepth 20000
open Go Go.RowKit Go.Shelf Go.ChangeShapes Go.WideShapes Go.Deep

/-- an element: its cells, and what else is to be said of it in a world (lists that lie elsewhere) -/
structure Elem (α : Type) where
  cells : α → List Value
  n : Nat
  A : α → World → Prop
  len : ∀ x, (cells x).length = n
  pos : 0 < n
  one : ∀ x w, A x w → ∀ u ∈ cells x, u.oneCell' = true
  below : ∀ x w w', A x w → Below w.heap.size w w' → A x w'

section
variable {α : Type} (E : Elem α)
/-- all their cells, one behind the other -/
def Elem.flat (l : List α) : List Value := l.flatMap E.cells
/-- an element's cells lie there -/
def Elem.At (w : World) (g o : Nat) (x : α) : Prop := ∀ j u, (E.cells x)[j]? = some u → w.cell? ⟨g, o + j, none⟩ = some u
/-- a slice of these -/
def Sl (w : World) (v : Value) (l : List α) : Prop :=
  ∃ a cap, v = .slice a l.length cap ∧ l.length ≤ cap ∧ cap ≤ maxLen ∧
    ∀ i (h : i < l.length), E.A l[i] w ∧ ∃ g off, a = some ⟨g, off, none⟩ ∧ g < w.heap.size ∧ E.At w g (off + i * E.n) l[i]
variable {E}
theorem Elem.At.below {w w' : World} {g o : Nat} {x : α} (h : E.At w g o x) (hg : g < w.heap.size) (hb : Below w.heap.size w w') : E.At w' g o x :=
  fun j u hu => (hb.cell (p := ⟨g, o + j, none⟩) hg).trans (h j u hu)
theorem Sl.below {w w' : World} {v : Value} {l : List α} (h : Sl E w v l) (hb : Below w.heap.size w w') : Sl E w' v l := by
  obtain ⟨a, cap, hv, h1, h2, hc⟩ := h
  refine ⟨a, cap, hv, h1, h2, fun i hi => ?_⟩
  obtain ⟨hat, g, off, hg, hlt, c⟩ := hc i hi
  exact ⟨E.below _ _ _ hat hb, g, off, hg, Nat.lt_of_lt_of_le hlt hb.size, c.below hlt hb⟩
theorem Sl.nil (w : World) : Sl E w (.slice none 0 0) [] := ⟨none, 0, rfl, Nat.le_refl _, Nat.zero_le _, fun i hi => absurd hi (by simp)⟩
theorem Sl.len {w : World} {v : Value} {l : List α} (h : Sl E w v l) : l.length ≤ 9223372036854775807 := by
  obtain ⟨_, _, _, h1, h2, _⟩ := h
  unfold maxLen at h2
  omega
theorem Sl.form {w : World} {v : Value} {l : List α} (h : Sl E w v l) : ∃ a cap, v = .slice a l.length cap := by
  obtain ⟨a, cap, hv, _⟩ := h
  exact ⟨a, cap, hv⟩
theorem Sl.all {w : World} {v : Value} {l : List α} (h : Sl E w v l) : ∀ x ∈ l, E.A x w := by
  obtain ⟨_, _, _, _, _, hc⟩ := h
  intro x hx
  obtain ⟨i, hi, rfl⟩ := List.getElem_of_mem hx
  exact (hc i hi).1

theorem Elem.flat_append (a b : List α) : E.flat (a ++ b) = E.flat a ++ E.flat b := by simp [Elem.flat]
theorem Elem.flat_cons (x : α) (l : List α) : E.flat (x :: l) = E.cells x ++ E.flat l := rfl
theorem Elem.flat_one (x : α) : E.flat [x] = E.cells x := by simp [Elem.flat]
theorem Elem.flat_len (l : List α) : (E.flat l).length = l.length * E.n := by
  induction l with
  | nil => simp [Elem.flat]
  | cons x l ih =>
    rw [Elem.flat_cons, List.length_append, ih, E.len, List.length_cons, Nat.add_mul, Nat.one_mul, Nat.add_comm]
theorem Elem.flat_at : ∀ (l : List α) (i : Nat) (h : i < l.length) (j : Nat), j < E.n → (E.flat l)[i * E.n + j]? = (E.cells l[i])[j]?
  | x :: l, 0, _, j, hj => by
    rw [Elem.flat_cons, Nat.zero_mul, Nat.zero_add, List.getElem?_append_left (by rw [E.len]; exact hj)]
    rfl
  | x :: l, i + 1, h, j, hj => by
    have ih := Elem.flat_at l i (by simpa using h) j hj
    rw [Elem.flat_cons, List.getElem?_append_right (by rw [E.len, Nat.add_mul, Nat.one_mul]; omega), E.len]
    rw [show (i + 1) * E.n + j - E.n = i * E.n + j by rw [Nat.add_mul, Nat.one_mul]; omega]
    exact ih
theorem Elem.flat_ones {w : World} {l : List α} (hl : ∀ x ∈ l, E.A x w) : ∀ u ∈ E.flat l, u.oneCell' = true := by
  intro u hu
  obtain ⟨x, hx, hu⟩ := List.mem_flatMap.1 hu
  exact E.one x w (hl x hx) u hu
theorem Elem.flat_inv (l : List α) (j : Nat) (u : Value) (h : (E.flat l)[j]? = some u) : ∃ i, ∃ hi : i < l.length, ∃ m, m < E.n ∧ j = i * E.n + m ∧ (E.cells l[i])[m]? = some u := by
  have hj : j < l.length * E.n := by rw [← E.flat_len]; exact (List.getElem?_eq_some_iff.1 h).1
  have hn := E.pos
  have hi : j / E.n < l.length := (Nat.div_lt_iff_lt_mul hn).2 hj
  have hm : j % E.n < E.n := Nat.mod_lt _ hn
  have e : j = j / E.n * E.n + j % E.n := by rw [Nat.mul_comm]; exact (Nat.div_add_mod j E.n).symm
  refine ⟨j / E.n, hi, j % E.n, hm, e, ?_⟩
  rw [← Elem.flat_at l (j / E.n) hi (j % E.n) hm, ← e]
  exact h

/-- a row of one's own is a slice of these -/
theorem Sl.of_row {w : World} {base t : Nat} {v : Value} {l : List α} {n : Nat} (hn : n = l.length) (h : w.ownsRow base t E.n v n (E.flat l)) (hl : ∀ x ∈ l, E.A x w) : Sl E w v l := by
  subst hn
  obtain ⟨_, h2⟩ := h
  rcases h2 with ⟨rfl, h0⟩ | ⟨g, cap, cur, rfl, hg, hgb, hle, hcm, hsz, hcur⟩
  · have : l = [] := List.eq_nil_of_length_eq_zero h0
    subst this
    exact Sl.nil w
  · refine ⟨some ⟨g, 0, none⟩, cap, rfl, hle, hcm, fun i hi => ⟨hl _ (List.getElem_mem hi), g, 0, rfl, (Array.getElem?_eq_some_iff.1 hgb).1, fun j u hu => ?_⟩⟩
    have hj : j < E.n := by rw [← E.len l[i]]; exact (List.getElem?_eq_some_iff.1 hu).1
    have hlt : i * E.n + j < l.length * E.n := by
      have : (i + 1) * E.n ≤ l.length * E.n := Nat.mul_le_mul_right _ hi
      rw [Nat.add_mul, Nat.one_mul] at this
      omega
    rw [← Elem.flat_at l i hi j hj, ← hcur, List.getElem?_take_of_lt hlt] at hu
    rw [Nat.zero_add]
    simp [World.cell?, hgb]
    simpa using hu
theorem Sl.news {w : World} {ad : Addr} {n c : Nat} {l : List α} (h : Sl E w (.slice (some ad) n c) l) : ∀ j u, (E.flat l)[j]? = some u → w.cell? (ad.add j) = some u := by
  intro j u hu
  obtain ⟨i, hi, m, _, rfl, hm⟩ := Elem.flat_inv l j u hu
  obtain ⟨a, cap, hv, _, _, hcell⟩ := h
  obtain ⟨_, g, off, ha, _, c⟩ := hcell i hi
  subst ha
  injection hv with e1
  injection e1 with e1
  subst e1
  rw [add_plain, ← Nat.add_assoc]
  exact c m u hm
theorem Sl.lies {w : World} {x : Value} {l : List α} (h : Sl E w x l) : Lies w x l.length (E.flat l) := by
  have h0 := h
  obtain ⟨a, cap, rfl, _, _, hc⟩ := h
  cases a with
  | some ad => exact .inl ⟨ad, cap, rfl, h0.news⟩
  | none =>
    have : l = [] := by
      cases l with
      | nil => rfl
      | cons p r => obtain ⟨_, g, off, hg, _⟩ := hc 0 (by simp); cases hg
    subst this
    exact .inr ⟨cap, rfl, rfl⟩
/-- the first ones -/
theorem Sl.pre {w : World} {a : Option Addr} {n cap : Nat} {l : List α} (h : Sl E w (.slice a n cap) l) {k : Nat} (hk : k ≤ l.length) : Sl E w (.slice a k cap) (l.take k) := by
  obtain ⟨a', cap', hv, h1, h2, hc⟩ := h
  injection hv with e1 e2 e3
  subst e1 e2 e3
  have hl : (l.take k).length = k := by simp; omega
  refine ⟨a, cap, by rw [hl], by rw [hl]; omega, h2, fun i hi => ?_⟩
  rw [hl] at hi
  obtain ⟨hat, g, off, ha, hg, c⟩ := hc i (by omega)
  exact ⟨by simpa using hat, g, off, ha, hg, by simpa using c⟩
/-- the last ones, as a slice of them is laid -/
theorem Sl.suf {w : World} {g off n cap : Nat} {l : List α} (h : Sl E w (.slice (some ⟨g, off, none⟩) n cap) l) {k : Nat} (hk : k ≤ l.length) : Sl E w (.slice (if cap = k then some ⟨g, off, none⟩ else some ⟨g, off + k * E.n, none⟩) (l.length - k) (cap - k)) (l.drop k) := by
  obtain ⟨a', cap0, hv, h1, h2, hc⟩ := h
  injection hv with e1 e2 e3
  subst e1 e2 e3
  have hl : (l.drop k).length = l.length - k := by simp
  by_cases hck : cap = k
  · rw [if_pos hck]
    refine ⟨_, cap - k, by rw [hl], by rw [hl]; omega, by omega, fun i hi => ?_⟩
    rw [hl] at hi
    omega
  · rw [if_neg hck]
    refine ⟨_, cap - k, by rw [hl], by rw [hl]; omega, by omega, fun i hi => ?_⟩
    rw [hl] at hi
    obtain ⟨hat, g', off', ha, hg, c⟩ := hc (k + i) (by omega)
    injection ha with ha
    injection ha with ha1 ha2
    subst ha1 ha2
    refine ⟨by simpa using hat, g, off + k * E.n, rfl, hg, ?_⟩
    have e : off + (k + i) * E.n = off + k * E.n + i * E.n := by rw [Nat.add_mul]; omega
    rw [e] at c
    simpa using c
/-- one alone, in a block of its own -/
theorem Sl.at_block {w : World} {p t : Nat} {x : α} (hb : w.heap[p]? = some (.cells (E.cells x).toArray t)) (hx : E.A x w) : Sl E w (.slice (some ⟨p, 0, none⟩) 1 1) [x] := by
  refine ⟨_, 1, rfl, Nat.le_refl _, by decide, fun i hi => ?_⟩
  have : i = 0 := by simpa using hi
  subst this
  refine ⟨hx, p, 0, rfl, (Array.getElem?_eq_some_iff.1 hb).1, fun j u hu => ?_⟩
  simp only [World.cell?]
  rw [hb]
  simpa using hu
/-- laid down at once -/
theorem Sl.lit (w : World) (t : Nat) (l : List α) (cs : Array Value) (hcs : cs = (E.flat l).toArray) (n p : Nat) (hn : n = l.length) (hp : w.heap.size = p) (h100 : n ≤ 1000) (hl : ∀ x ∈ l, E.A x (w.alloc (.cells cs t))) :
    Sl E (w.alloc (.cells cs t)) (.slice (some ⟨p, 0, none⟩) n n) l := by
  subst hn hcs hp
  refine Sl.of_row (base := w.heap.size) (t := t) rfl ⟨E.flat_len l, .inr ⟨w.heap.size, l.length, (E.flat l).toArray, rfl, Nat.le_refl _, alloc_new w _, Nat.le_refl _, by unfold maxLen; omega, ?_, ?_⟩⟩ hl
  · simp [E.flat_len]
  · rw [List.take_of_length_le]
    simp [E.flat_len]
theorem owns_emptyT (t n : Nat) (w : World) (p : Nat) (h : w.heap.size = p) : (w.alloc (.cells #[] t)).ownsRow p t n (.slice (some ⟨p, 0, none⟩) 0 0) 0 [] := by
  subst h
  exact ⟨by simp, .inr ⟨w.heap.size, 0, #[], rfl, Nat.le_refl _, alloc_new w _, Nat.le_refl _, Nat.zero_le _, by simp, by simp⟩⟩

/-! ### append -/
theorem wpList_append_sl {P : Program} {o : Oper} {a : Act} {Q : Exit → Act → World → Prop} {ops : Array Oper} {rest : List Oper} (t e : TypeId) (z : Value) (bytes : Nat) (ht : P.underlying t = some (.slice e)) (hinfo : (P.info? e).map (fun i => (i.zero, i.size, i.bytes)) = some (some z, E.n, bytes)) (hz : z.cells.size = E.n) (hby : bytes ≤ 1000000) (w : World) (s x : Operand)
    (ho : o.op = .call { callee := .builtin .append, args := #[s, x], argTypes := #[t, t] }) (hw : Region.wanted o (yielded ops a.tmps) = true)
    (base : Nat) (v : Value) (n : Nat) (xs : List α) (hs : a.eval s = v) (hown : w.ownsRow base e E.n v n (E.flat xs))
    (y : Value) (l : List α) (hy : a.eval x = y) (hl : Sl E w y l) (hn : n + l.length ≤ 100000) (hbase : base ≤ w.heap.size)
    (h : ∀ v' w', w'.ownsRow base e E.n v' (n + l.length) (E.flat (xs ++ l)) → w.grownBy w' v.ownBlock → wpList P ops Q rest (a.put o.dst v') w') : wpList P ops Q (o :: rest) a w := by
  obtain ⟨i0, hi, hz0, hz1, hz2⟩ := info_parts hinfo
  exact wpList_append_any w s x _ ho base _ i0 _ E.n bytes ht hi hz0 hz1 hz2 hz E.pos v n (E.flat xs) hs hown y l.length (E.flat l) hy hl.lies (E.flat_len l) (Elem.flat_ones hl.all) (by unfold maxLen; omega) (Nat.le_trans (Nat.mul_le_mul hn hby) (by decide)) hbase hw (fun v' w' h2 h3 => h v' w' (by rw [Elem.flat_append]; exact h2) h3)
theorem step_append_sl {P : Program} {o : Oper} {a : Act} {Q : Exit → Act → World → Prop} {ops : Array Oper} {K : Act → World → Prop} {F : Prop} (t e : TypeId) (z : Value) (bytes : Nat) (ht : P.underlying t = some (.slice e)) (hinfo : (P.info? e).map (fun i => (i.zero, i.size, i.bytes)) = some (some z, E.n, bytes)) (hz : z.cells.size = E.n) (hby : bytes ≤ 1000000) (w : World) (s x : Operand)
    (ho : o.op = .call { callee := .builtin .append, args := #[s, x], argTypes := #[t, t] }) (hgd : o.guard = none)
    (base : Nat) (v : Value) (n : Nat) (xs : List α) (hs : a.eval s = v) (hown : w.ownsRow base e E.n v n (E.flat xs))
    (y : Value) (l : List α) (hy : a.eval x = y) (hl : Sl E w y l) (hn : n + l.length ≤ 100000) (hbase : base ≤ w.heap.size)
    (h : ∀ v' w', w'.ownsRow base e E.n v' (n + l.length) (E.flat (xs ++ l)) → w.grownBy w' v.ownBlock → K (a.put o.dst v') w') :
    if Region.wanted o (yielded ops a.tmps) = true then Oper.wp P o a w K Q else F := by
  obtain ⟨i0, hi, hz0, hz1, hz2⟩ := info_parts hinfo
  exact step_append_any w s x _ ho base _ i0 _ E.n bytes ht hi hz0 hz1 hz2 hz E.pos v n (E.flat xs) hs hown y l.length (E.flat l) hy hl.lies (E.flat_len l) (Elem.flat_ones hl.all) (by unfold maxLen; omega) (Nat.le_trans (Nat.mul_le_mul hn hby) (by decide)) hbase hgd (fun v' w' h2 h3 => h v' w' (by rw [Elem.flat_append]; exact h2) h3)

/-! ### an argument -/
theorem sl_trod {H : Type} {enc : TypeId × Value → H} {P : Program} {W : World} {t e : TypeId} {R : α → Prop} (ht : P.underlying t = some (.slice e)) (hce : P.cellsOf e = E.n)
    (hel : ∀ (fuel : Nat) (cs : List Value) (y : DataW H × List MemPlace), cs.length = E.n → DataW.trod enc P W 0 (fun _ => true) true fuel e cs = some y → ∃ x, cs = E.cells x ∧ E.A x W ∧ R x) (hne : Nonempty α)
    {fuel : Nat} {v : Value} {y : DataW H × List MemPlace} (hf : DataW.trod enc P W 0 (fun _ => true) true fuel t [v] = some y) : ∃ l : List α, Sl E W v l ∧ ∀ x ∈ l, R x := by
  rcases open_slice ht hf with ⟨hcs, _⟩ | ⟨a, len, cap, m, n, D, Pl, hcs, _, hl, hm, hmm, _, hx⟩
  · simp only [List.cons.injEq, and_true] at hcs
    subst hcs
    exact ⟨[], Sl.nil W, fun p hp => absurd hp (by simp)⟩
  · simp only [List.cons.injEq, and_true] at hcs
    subst hcs
    simp only [if_true] at hmm
    subst hmm
    have each : ∀ i, i < len → ∃ x : α, (∀ j u, (E.cells x)[j]? = some u → W.cell? (a.add (i * E.n + j)) = some u) ∧ E.A x W ∧ R x := by
      intro i hi
      obtain ⟨cs', h1, h2⟩ := hx i (by omega)
      rw [hce] at h1
      obtain ⟨_, hlen, hcell⟩ := World.cells?_some h1
      obtain ⟨x, rfl, h3, h4⟩ := hel _ _ _ hlen h2
      refine ⟨x, fun j u hu => ?_, h3, h4⟩
      have hj : j < E.n := by rw [← E.len x]; exact (List.getElem?_eq_some_iff.1 hu).1
      have := hcell j hj
      rw [add_add] at this
      rw [this]
      exact hu
    have hch : ∃ f : Nat → α, ∀ i, i < len → (∀ j u, (E.cells (f i))[j]? = some u → W.cell? (a.add (i * E.n + j)) = some u) ∧ E.A (f i) W ∧ R (f i) :=
      ⟨fun i => if h : i < len then (each i h).choose else Classical.choice hne, fun i hi => by
        have := (each i hi).choose_spec
        simp only [dif_pos hi]
        exact this⟩
    obtain ⟨f, hf2⟩ := hch
    refine ⟨(List.range len).map f, ⟨some a, m, by simp, by simp; omega, hm, fun i hi => ?_⟩, fun p hp => ?_⟩
    · have hi' : i < len := by simpa using hi
      obtain ⟨b, off, spot⟩ := a
      obtain ⟨hc, hat, _⟩ := hf2 i hi'
      have c0 : ∃ u, (E.cells (f i))[0]? = some u := by
        have h0 : 0 < (E.cells (f i)).length := by rw [E.len]; exact E.pos
        exact ⟨_, List.getElem?_eq_getElem h0⟩
      obtain ⟨u0, hu0⟩ := c0
      have hspot : spot = none := by
        obtain ⟨hz, _, _⟩ := hf2 0 (by omega)
        have h0 : 0 < (E.cells (f 0)).length := by rw [E.len]; exact E.pos
        have := World.cell?_spot (hz 0 _ (List.getElem?_eq_getElem h0))
        simpa [Addr.add] using this
      subst hspot
      have hc0 := hc 0 u0 hu0
      rw [add_plain] at hc0
      refine ⟨by simpa using hat, b, off, rfl, World.block_lt_of_cell? _ _ hc0, ?_⟩
      have key : E.At W b (off + i * E.n) (f i) := fun j u hu => by
        have := hc j u hu
        rw [add_plain, ← Nat.add_assoc] at this
        exact this
      simpa using key
    · obtain ⟨i, hi, rfl⟩ := List.mem_map.1 hp
      exact (hf2 i (List.mem_range.1 hi)).2.2
end

end Go.Proofs.YtblmdcpcekoogaaGreatDoor
