/-
  A slice of pairs (two texts each): where it lies, an argument that is one, the document's Same, append of pairs; a row of octets, and its text.
-/
import Derived.Test.YtblmdcpcekoogaaGreatDoorCore
import Derived.Lib.AppendStr
import Derived.Deep.AppendLies
import Derived.Laws.IdiomStrings
import Derived.Laws.BytesArg
import Derived.Deep.SlicePairs
import Derived.Deep.Strs
namespace Go.Proofs.YtblmdcpcekoogaaGreatDoor
set_option maxRecDepth 20000
open Go Go.RowKit Go.Shelf Go.ChangeShapes Go.WideShapes Go.Deep

/-- a name and a value, as texts -/
abbrev PairB := ByteArray × ByteArray
def okP (p : PairB) : Prop := p.1.size ≤ maxLen ∧ p.2.size ≤ maxLen
/-- a slice of pairs: each pair has two cells -/
def Prs (w : World) (v : Value) (l : List PairB) : Prop :=
  ∃ a cap, v = .slice a l.length cap ∧ l.length ≤ cap ∧ cap ≤ maxLen ∧
    ∀ i (h : i < l.length), ∃ g off, a = some ⟨g, off, none⟩ ∧ g < w.heap.size ∧ w.cell? ⟨g, off + i * 2, none⟩ = some (.string l[i].1) ∧ w.cell? ⟨g, off + i * 2 + 1, none⟩ = some (.string l[i].2)

theorem Prs.below {w w' : World} {v : Value} {l : List PairB} (h : Prs w v l) (hb : Below w.heap.size w w') : Prs w' v l := by
  obtain ⟨a, cap, hv, h1, h2, hc⟩ := h
  refine ⟨a, cap, hv, h1, h2, fun i hi => ?_⟩
  obtain ⟨g, off, hg, hlt, c1, c2⟩ := hc i hi
  exact ⟨g, off, hg, Nat.lt_of_lt_of_le hlt hb.size, (hb.cell (p := ⟨g, off + i * 2, none⟩) hlt).trans c1, (hb.cell (p := ⟨g, off + i * 2 + 1, none⟩) hlt).trans c2⟩
theorem Prs.nil (w : World) : Prs w (.slice none 0 0) [] := ⟨none, 0, rfl, Nat.le_refl _, Nat.zero_le _, fun i hi => absurd hi (by simp)⟩
theorem Prs.len {w : World} {v : Value} {l : List PairB} (h : Prs w v l) : l.length ≤ 9223372036854775807 := by
  obtain ⟨_, _, _, h1, h2, _⟩ := h
  unfold maxLen at h2
  omega

theorem cells_fst {w : World} {b : Nat} {p1 p2 : Value} {t : Nat} {fz : Nat × Nat} (h : w.heap[b]? = some (.cells #[p1, p2] t fz)) : w.cell? ⟨b, 0, none⟩ = some p1 := by simp [World.cell?, h]
theorem cells_snd {w : World} {b : Nat} {p1 p2 : Value} {t : Nat} {fz : Nat × Nat} (h : w.heap[b]? = some (.cells #[p1, p2] t fz)) : w.cell? ⟨b, 1, none⟩ = some p2 := by simp [World.cell?, h]

/-- pairs, as cells -/
def flat (l : List PairB) : List Value := l.flatMap fun p => [.string p.1, .string p.2]
theorem flat_append (a b : List PairB) : flat (a ++ b) = flat a ++ flat b := by simp [flat]
theorem flat_len (l : List PairB) : (flat l).length = l.length * 2 := by
  induction l with
  | nil => rfl
  | cons p l ih =>
    show ([Value.string p.1, Value.string p.2] ++ flat l).length = _
    rw [List.length_append, ih]
    simp
    omega
theorem flat_at : ∀ (l : List PairB) (i : Nat) (h : i < l.length), (flat l)[i * 2]? = some (.string l[i].1) ∧ (flat l)[i * 2 + 1]? = some (.string l[i].2)
  | p :: l, 0, _ => ⟨rfl, rfl⟩
  | p :: l, i + 1, h => by
    have := flat_at l i (by simpa using h)
    have e : flat (p :: l) = .string p.1 :: .string p.2 :: flat l := rfl
    rw [e, Nat.add_mul]
    exact this
theorem flat_one (l : List PairB) : ∀ u ∈ flat l, u.oneCell' = true := by
  intro u hu
  obtain ⟨p, _, hp⟩ := List.mem_flatMap.1 hu
  simp at hp
  rcases hp with rfl | rfl <;> rfl
theorem flat_snoc (l : List PairB) (k : Nat) (h : k < l.length) : flat (l.take (k + 1)) = flat (l.take k) ++ [.string l[k].1, .string l[k].2] := by
  rw [List.take_succ_eq_append_getElem h, flat_append]; rfl

theorem Prs.of_row {w : World} {base : Nat} {v : Value} {l : List PairB} {n : Nat} (hn : n = l.length) (h : w.ownsRow base 83 2 v n (flat l)) : Prs w v l := by
  subst hn
  obtain ⟨_, h2⟩ := h
  rcases h2 with ⟨rfl, h0⟩ | ⟨g, cap, cur, rfl, hg, hgb, hle, hcm, hsz, hcur⟩
  · have : l = [] := List.eq_nil_of_length_eq_zero h0
    subst this
    exact Prs.nil w
  · refine ⟨some ⟨g, 0, none⟩, cap, rfl, hle, hcm, fun i hi => ⟨g, 0, rfl, (Array.getElem?_eq_some_iff.1 hgb).1, ?_, ?_⟩⟩
    · have h1 := (flat_at l i hi).1
      rw [← hcur, List.getElem?_take_of_lt (by omega)] at h1
      simp [World.cell?, hgb]
      simpa using h1
    · have h1 := (flat_at l i hi).2
      rw [← hcur, List.getElem?_take_of_lt (by omega)] at h1
      simp [World.cell?, hgb]
      simpa using h1

theorem Tryz.infoPair : (Tryz.prog.info? 83).map (fun i => (i.zero, i.size, i.bytes)) = some (some (.agg #[.string ⟨#[]⟩, .string ⟨#[]⟩]), 2, 32) := by kernel_rfl

theorem news_at {w : World} {n : Nat} (h : w.heap.size = n) {cs : Array Value} {t : TypeId} : ∀ j u, cs.toList[j]? = some u → (w.alloc (.cells cs t)).cell? ((⟨n, 0, none⟩ : Addr).add j) = some u := by
  subst h
  exact World.news_of_block (heap_alloc_new _ _)

theorem Prs.lit1 (w : World) (a b : ByteArray) : Prs (w.alloc (.cells #[.string a, .string b] 83)) (.slice (some ⟨w.heap.size, 0, none⟩) 1 1) [(a, b)] := by
  refine ⟨_, 1, rfl, Nat.le_refl _, by decide, fun i hi => ⟨w.heap.size, 0, rfl, by simp, ?_, ?_⟩⟩
  all_goals
    have : i = 0 := by simpa using hi
    subst this
    (simp only [World.cell?]; rw [alloc_new]; rfl)
theorem Prs.lit2 (w : World) (a b c d : ByteArray) : Prs (w.alloc (.cells #[.string a, .string b, .string c, .string d] 83)) (.slice (some ⟨w.heap.size, 0, none⟩) 2 2) [(a, b), (c, d)] := by
  refine ⟨_, 2, rfl, Nat.le_refl _, by decide, fun i hi => ⟨w.heap.size, 0, rfl, by simp, ?_, ?_⟩⟩
  all_goals
    have : i = 0 ∨ i = 1 := by simp at hi; omega
    rcases this with rfl | rfl
    · (simp only [World.cell?]; rw [alloc_new]; rfl)
    · (simp only [World.cell?]; rw [alloc_new]; rfl)

theorem Prs.at1 (w : World) (n : Nat) (h : w.heap.size = n) (a b : ByteArray) : Prs (w.alloc (.cells #[.string a, .string b] 83)) (.slice (some ⟨n, 0, none⟩) 1 1) [(a, b)] := by
  subst h
  exact Prs.lit1 w a b

/-- append, where the operation is guarded and wanted -/
theorem wpList_append_g {P : Program} (w : World) {ops : Array Oper} {rest : List Oper} {o : Oper} {a : Act} {Q : Exit → Act → World → Prop} (hw : Region.wanted o (yielded ops a.tmps) = true) (s x : Operand) (t : TypeId)
    (ho : o.op = .call { callee := .builtin .append, args := #[s, x], argTypes := #[t, t] })
    (base : Nat) (e : TypeId) (i : TypeInfo) (z : Value) (size bytes : Nat) (ht : P.underlying t = some (.slice e)) (hi : P.info? e = some i) (hz : i.zero = some z)
    (hsize : i.size = size) (hby : i.bytes = bytes) (hzs : z.cells.size = size) (hsz : 0 < size)
    (v : Value) (n : Nat) (xs : List Value) (hs : a.eval s = v) (hown : w.ownsRow base e size v n xs)
    (ad : Addr) (m c : Nat) (news : List Value) (hx : a.eval x = .slice (some ad) m c) (hl : news.length = m * size) (hnews : ∀ j u, news[j]? = some u → w.cell? (ad.add j) = some u) (h1 : ∀ u ∈ news, u.oneCell' = true)
    (h63 : n + m ≤ maxLen) (hbytes : (n + m) * bytes ≤ 140737488355328) (hbase : base ≤ w.heap.size)
    (h : ∀ v' w', w'.ownsRow base e size v' (n + m) (xs ++ news) → w.grownBy w' v.ownBlock → wpList P ops Q rest (a.put o.dst v') w') : wpList P ops Q (o :: rest) a w :=
  wpList_step fun K hK => by
    rw [if_pos hw]
    exact wp_append_own w s x t ho base e i z size bytes ht hi hz hsize hby hzs hsz v n xs hs hown ad m c news hx hl hnews h1 h63 hbytes hbase fun v' w' h2 h3 _ => hK _ _ (h v' w' h2 h3)

theorem owns_emptyP (w : World) : (w.alloc (.cells #[] 83)).ownsRow w.heap.size 83 2 (.slice (some ⟨w.heap.size, 0, none⟩) 0 0) 0 [] :=
  ⟨rfl, .inr ⟨w.heap.size, 0, #[], rfl, Nat.le_refl _, alloc_new w _, Nat.le_refl _, Nat.zero_le _, rfl, rfl⟩⟩
theorem flat_inv (l : List PairB) (j : Nat) (u : Value) (h : (flat l)[j]? = some u) : ∃ i, ∃ hi : i < l.length, (j = i * 2 ∧ u = .string l[i].1) ∨ (j = i * 2 + 1 ∧ u = .string l[i].2) := by
  have hj : j < l.length * 2 := by rw [← flat_len]; exact (List.getElem?_eq_some_iff.1 h).1
  have hi : j / 2 < l.length := by omega
  obtain ⟨h1, h2⟩ := flat_at l (j / 2) hi
  rcases (by omega : j = j / 2 * 2 ∨ j = j / 2 * 2 + 1) with e | e
  · rw [← e, h] at h1
    exact ⟨j / 2, hi, .inl ⟨e, Option.some.inj h1⟩⟩
  · rw [← e, h] at h2
    exact ⟨j / 2, hi, .inr ⟨e, Option.some.inj h2⟩⟩
theorem Prs.news {w : World} {ad : Addr} {n c : Nat} {l : List PairB} (h : Prs w (.slice (some ad) n c) l) : ∀ j u, (flat l)[j]? = some u → w.cell? (ad.add j) = some u := by
  intro j u hu
  obtain ⟨i, hi, hc⟩ := flat_inv l j u hu
  obtain ⟨a, cap, hv, _, _, hcell⟩ := h
  obtain ⟨g, off, ha, _, c1, c2⟩ := hcell i hi
  subst ha
  injection hv with e1
  injection e1 with e1
  subst e1
  rw [add_plain]
  rcases hc with ⟨rfl, rfl⟩ | ⟨rfl, rfl⟩
  · exact c1
  · exact c2

theorem u8_lit {n0 : Int} (h0 : (Lit.int .u8 n0).wf = true) : ∃ c : UInt8, n0 = (c.toNat : Int) := by
  simp [Lit.wf, IntKind.min, IntKind.max, IntKind.bits, IntKind.signed] at h0
  refine ⟨UInt8.ofNat n0.toNat, ?_⟩
  simp
  omega

/-- append, at a step of a region that draws its order -/
theorem step_append_own {P : Program} (w : World) {ops : Array Oper} {o : Oper} {a : Act} {K : Act → World → Prop} {Q : Exit → Act → World → Prop} {E : Prop} (hgd : o.guard = none) (s x : Operand) (t : TypeId)
    (ho : o.op = .call { callee := .builtin .append, args := #[s, x], argTypes := #[t, t] })
    (base : Nat) (e : TypeId) (i : TypeInfo) (z : Value) (size bytes : Nat) (ht : P.underlying t = some (.slice e)) (hi : P.info? e = some i) (hz : i.zero = some z)
    (hsize : i.size = size) (hby : i.bytes = bytes) (hzs : z.cells.size = size) (hsz : 0 < size)
    (v : Value) (n : Nat) (xs : List Value) (hs : a.eval s = v) (hown : w.ownsRow base e size v n xs)
    (ad : Addr) (m c : Nat) (news : List Value) (hx : a.eval x = .slice (some ad) m c) (hl : news.length = m * size) (hnews : ∀ j u, news[j]? = some u → w.cell? (ad.add j) = some u) (h1 : ∀ u ∈ news, u.oneCell' = true)
    (h63 : n + m ≤ maxLen) (hbytes : (n + m) * bytes ≤ 140737488355328) (hbase : base ≤ w.heap.size)
    (h : ∀ v' w', w'.ownsRow base e size v' (n + m) (xs ++ news) → w.grownBy w' v.ownBlock → K (a.put o.dst v') w') :
    if Region.wanted o (yielded ops a.tmps) = true then Oper.wp P o a w K Q else E := by
  have hw : Region.wanted o (yielded ops a.tmps) = true := by simp [Region.wanted, hgd]
  rw [if_pos hw]
  exact wp_append_own w s x t ho base e i z size bytes ht hi hz hsize hby hzs hsz v n xs hs hown ad m c news hx hl hnews h1 h63 hbytes hbase fun v' w' h2 h3 _ => h v' w' h2 h3

/-- a part of a slice of pairs -/
theorem Prs.sub {w : World} {g off n c : Nat} {l : List PairB} (h : Prs w (.slice (some ⟨g, off, none⟩) n c) l) (k m c' : Nat) (hm : k + m ≤ l.length) (hc : m ≤ c') (hc' : c' ≤ maxLen) : Prs w (.slice (some ⟨g, off + k * 2, none⟩) m c') ((l.drop k).take m) := by
  obtain ⟨a, cap, hv, _, _, hcell⟩ := h
  injection hv with e1
  subst e1
  have hl : ((l.drop k).take m).length = m := by simp; omega
  refine ⟨_, c', by rw [hl], by rw [hl]; exact hc, hc', fun i hi => ?_⟩
  rw [hl] at hi
  obtain ⟨g', off', ha, hg, c1, c2⟩ := hcell (k + i) (by omega)
  injection ha with ha
  injection ha with ha1 ha2
  subst ha1 ha2
  refine ⟨g, off + k * 2, rfl, hg, ?_, ?_⟩
  · have e : off + (k + i) * 2 = off + k * 2 + i * 2 := by omega
    rw [e] at c1
    simpa using c1
  · have e : off + (k + i) * 2 + 1 = off + k * 2 + i * 2 + 1 := by omega
    rw [e] at c2
    simpa using c2

/-- octets, as cells -/
def oc (l : List UInt8) : List Value := l.map fun b => Value.int .u8 (b.toNat : Int)
theorem oc_len (l : List UInt8) : (oc l).length = l.length := by simp [oc]
theorem oc_append (a b : List UInt8) : oc (a ++ b) = oc a ++ oc b := by simp [oc]
theorem oc_one (l : List UInt8) : ∀ u ∈ oc l, u.oneCell' = true := by
  intro u hu
  obtain ⟨b, _, rfl⟩ := List.mem_map.1 hu
  rfl

theorem Tryz.info5 : (Tryz.prog.info? 5).map (fun i => (i.zero, i.size, i.bytes)) = some (some (.int .u8 0), 1, 1) := by kernel_rfl

/-- 'string(b)' where b is a row of one's own -/
theorem row_text {w : World} {base : Nat} {v : Value} {n : Nat} {l : List UInt8} (h : w.ownsRow base 5 1 v n (oc l)) :
    (convert 144 9 v).run Tryz.prog w = .ok (.string ⟨l.toArray⟩) w := by
  have hn : n = l.length := by have := h.1; rw [oc_len] at this; omega
  subst hn
  rcases h.2 with ⟨rfl, h0⟩ | ⟨g, cap, cur, rfl, _⟩
  · have : l = [] := List.eq_nil_of_length_eq_zero h0
    subst this
    exact run_convert_bytes_nil (P := Tryz.prog) w 144 5 Tryz.underlying144 Tryz.underlying5 0 0 9 Tryz.underlying9
  · refine run_convert_bytes_back (P := Tryz.prog) w 144 9 5 ⟨g, 0, none⟩ cap l Tryz.underlying144 Tryz.underlying5 Tryz.underlying9 (fun j hj => ?_)
    exact h.cells (g := g) rfl j _ (by simp [oc, hj])

theorem row_to {w : World} {base : Nat} {v : Value} {n : Nat} {l l' : List UInt8} (h : w.ownsRow base 5 1 v n (oc l)) (e : l' = l) : w.ownsRow base 5 1 v l'.length (oc l') := by
  subst e
  have hn : n = l'.length := by have := h.1; rw [oc_len] at this; omega
  rw [← hn]
  exact h

/-- 'string([]byte{..})' -/
theorem some_bytes (W : World) (l : List UInt8) (cap : Nat) : (convert 144 9 (.slice (some ⟨W.heap.size, 0, none⟩) l.length cap)).run Tryz.prog (W.alloc (.cells (oc l).toArray 5)) = .ok (.string (mkB l)) (W.alloc (.cells (oc l).toArray 5)) := by
  refine run_convert_bytes_back (P := Tryz.prog) (W.alloc (.cells (oc l).toArray 5)) 144 9 5 ⟨W.heap.size, 0, none⟩ cap l Tryz.underlying144 Tryz.underlying5 Tryz.underlying9 (fun j hj => ?_)
  rw [addr_add]
  simp only [World.cell?]
  rw [alloc_new]
  simp [oc, hj]

/-- 'string([]byte{..})', the block's number told apart -/
theorem bytes_at (W : World) (n : Nat) (h : W.heap.size = n) (l : List UInt8) (k cap : Nat) (hk : k = l.length) (cs : Array Value) (hcs : cs = (oc l).toArray) :
    (convert 144 9 (.slice (some ⟨n, 0, none⟩) k cap)).run Tryz.prog (W.alloc (.cells cs 5)) = .ok (.string (mkB l)) (W.alloc (.cells cs 5)) := by
  subst h hk hcs
  exact some_bytes W l cap

set_option maxHeartbeats 400000 in
theorem psame_len (w : World) (va vb : Value) (xs ys : List PairB) (ha : Prs w va xs) (hb : Prs w vb ys) (hne : xs.length ≠ ys.length) :
    Calls Tryz.prog 47 #[va, vb] w fun e w' => e = .returned (.bool (decide (xs = ys))) ∧ Below w.heap.size w w' := by
  obtain ⟨a, ca, rfl, _, _, hca⟩ := ha
  obtain ⟨b, cb, rfl, _, _, hcb⟩ := hb
  have hd : Hid (decide (xs = ys) = false) := decide_eq_false (fun e => hne (by rw [e]))
  have hx : ((xs.length : Int) != (ys.length : Int)) = true := by rw [bne_iff_ne]; omega
  clear hca hcb
  go_enter Tryz.func47, Tryz.ntmps47
  go_wp2_with fail
  go_ret
  exact ⟨ret_bool hd.out.symm, Below.refl _ _⟩

set_option maxHeartbeats 800000 in
theorem psame_any (w : World) (va vb : Value) (xs ys : List PairB) (ha : Prs w va xs) (hb : Prs w vb ys) :
    Calls Tryz.prog 47 #[va, vb] w fun e w' => e = .returned (.bool (decide (xs = ys))) ∧ Below w.heap.size w w' := by
  by_cases hnn : ¬ xs.length = ys.length
  · exact psame_len w va vb xs ys ha hb hnn
  have hne : xs.length = ys.length := Classical.not_not.1 hnn
  clear hnn
  have hl := ha.len
  obtain ⟨a, ca, rfl, _, _, hca⟩ := ha
  obtain ⟨b, cb, rfl, _, _, hcb⟩ := hb
  have hx : ((xs.length : Int) != (ys.length : Int)) = false := by rw [bne_eq_false_iff_eq]; omega
  have HN := hide hne
  have HA := hide hca
  have HB := hide hcb
  clear hne hca hcb
  go_enter Tryz.func47, Tryz.ntmps47
  go_wp2_with fail
  go_loopw [5] (fun i wr => ∃ k : Nat, k ≤ xs.length ∧ i = .int .i64 k ∧ Hid (xs.take k = ys.take k) ∧ Below w.heap.size w wr) (fun i _ => xs.length - (intOf i).toNat)
  case atStart => exact ⟨0, Nat.zero_le _, rfl, rfl, Below.refl _ _⟩
  case round =>
    obtain ⟨k, hk, rfl, htk, hB⟩ := hrel
    by_cases hlt : k < xs.length
    · have hlb : k < ys.length := by rw [← HN.out]; exact hlt
      obtain ⟨ga, oa, rfl, hga, a1, a2⟩ := HA.out k hlt
      obtain ⟨gb, ob, rfl, hgb, b1, b2⟩ := HB.out k hlb
      replace a1 := (hB.cell (p := ⟨ga, oa + k * 2, none⟩) hga).trans a1
      replace a2 := (hB.cell (p := ⟨ga, oa + k * 2 + 1, none⟩) hga).trans a2
      replace b1 := (hB.cell (p := ⟨gb, ob + k * 2, none⟩) hgb).trans b1
      replace b2 := (hB.cell (p := ⟨gb, ob + k * 2 + 1, none⟩) hgb).trans b2
      have hlt' : (k : Int) < (xs.length : Int) := by omega
      have hlb' : (k : Int) < (ys.length : Int) := by omega
      have HX : Hid (xs[k] = (xs[k].1, xs[k].2)) := rfl
      have HY : Hid (ys[k] = (ys[k].1, ys[k].2)) := rfl
      have HEQ : Hid (∀ j (h1 : j < xs.length) (h2 : j < ys.length), xs = ys → xs[j] = ys[j]) := by
        intro j h1 h2 e; subst e; rfl
      generalize hx1 : xs[k].1 = x1 at *
      generalize hx2 : xs[k].2 = x2 at *
      generalize hy1 : ys[k].1 = y1 at *
      generalize hy2 : ys[k].2 = y2 at *
      cases hq1 : (x1.toList == y1.toList)
      · have hqe : Hid (decide (xs = ys) = false) := by
          apply decide_eq_false
          intro e
          have := HEQ.out k hlt hlb e
          rw [HX.out, HY.out] at this
          rw [(Prod.mk.inj this).1] at hq1
          simp at hq1
        go_wp2_with fail
        go_region
        go_wp2_with fail
        go_ret
        exact ⟨ret_bool hqe.out.symm, hB.drew⟩
      · cases hq2 : (x2.toList == y2.toList)
        · have hqe : Hid (decide (xs = ys) = false) := by
            apply decide_eq_false
            intro e
            have := HEQ.out k hlt hlb e
            rw [HX.out, HY.out] at this
            rw [(Prod.mk.inj this).2] at hq2
            simp at hq2
          go_wp2_with fail
          go_region
          go_wp2_with fail
          go_ret
          exact ⟨ret_bool hqe.out.symm, hB.drew⟩
        · have hqe : Hid (xs[k] = ys[k]) := by
            unfold Hid
            rw [HX.out, HY.out, bytes_eq hq1, bytes_eq hq2]
          go_wp2_with fail
          go_region
          go_wp2_with fail
          refine ⟨⟨k + 1, by omega, by go_num, ?_, hB.drew⟩, by simp [intOf]; omega⟩
          unfold Hid
          rw [List.take_succ_eq_append_getElem hlt, List.take_succ_eq_append_getElem hlb, htk.out, hqe.out]
    · have hqe : Hid (decide (xs = ys) = true) := by
        apply decide_eq_true
        have := htk.out
        rwa [List.take_of_length_le (by omega), List.take_of_length_le (by rw [← HN.out]; omega)] at this
      have hlt' : ¬ (k : Int) < (xs.length : Int) := by omega
      go_wp2_with fail
      go_ret
      exact ⟨ret_bool hqe.out.symm, hB⟩

theorem Tryz.cellsPair : Tryz.prog.cellsOf 83 = 2 := by kernel_rfl
/-- a list of pairs that came in -/
def ArgPrs (W : World) (v : Value) : Prop := ∃ l : List PairB, Prs W v l ∧ ∀ p ∈ l, okP p

theorem argPrs_trod {H : Type} {enc : TypeId × Value → H} {W : World} {v : Value} {fuel : Nat} {y : DataW H × List MemPlace} (hf : DataW.trod enc Tryz.prog W 0 (fun _ => true) true fuel 25 [v] = some y) : ArgPrs W v := by
  rcases open_slice_pairs Tryz.underlying25 Tryz.underlying83 Tryz.cellsPair rfl rfl Tryz.cells9 Tryz.cells9 hf with ⟨hcs, _⟩ | ⟨a, len, cap, m, n, V0, V1, D0, D1, P0, P1, hcs, _, hl, hm, hmm, _, hcell⟩
  · simp only [List.cons.injEq, and_true] at hcs
    subst hcs
    exact ⟨[], Prs.nil W, fun p hp => absurd hp (by simp)⟩
  · simp only [List.cons.injEq, and_true] at hcs
    subst hcs
    simp only [if_true] at hmm
    subst hmm
    have each : ∀ i, i < len → ∃ p : PairB, W.cell? (a.add (i * 2)) = some (.string p.1) ∧ W.cell? (a.add (i * 2 + 1)) = some (.string p.2) ∧ okP p := by
      intro i hi
      obtain ⟨c0, c1, t0, t1⟩ := hcell i (by omega)
      obtain ⟨s0, e0, _, z0⟩ := DataW.trod_string Tryz.underlying9 t0
      obtain ⟨s1, e1, _, z1⟩ := DataW.trod_string Tryz.underlying9 t1
      simp only [List.cons.injEq, and_true] at e0 e1
      rw [e0] at c0
      rw [e1] at c1
      exact ⟨(s0, s1), c0, c1, z0, z1⟩
    let f : Nat → PairB := fun i => if h : i < len then (each i h).choose else (⟨#[]⟩, ⟨#[]⟩)
    have hf : ∀ i, i < len → W.cell? (a.add (i * 2)) = some (.string (f i).1) ∧ W.cell? (a.add (i * 2 + 1)) = some (.string (f i).2) ∧ okP (f i) := by
      intro i hi
      have := (each i hi).choose_spec
      simp only [f, dif_pos hi]
      exact this
    refine ⟨(List.range len).map f, ⟨some a, m, by simp, by simp; omega, hm, fun i hi => ?_⟩, fun p hp => ?_⟩
    · have hi' : i < len := by simpa using hi
      obtain ⟨b, off, spot⟩ := a
      obtain ⟨c0, c1, _⟩ := hf i hi'
      have hspot : spot = none := by simpa [Addr.add] using World.cell?_spot (hf 0 (by omega)).1
      subst hspot
      rw [add_plain] at c0 c1
      refine ⟨b, off, rfl, World.block_lt_of_cell? _ _ c0, ?_, ?_⟩
      · simpa using c0
      · simpa [Nat.add_assoc] using c1
    · obtain ⟨i, hi, rfl⟩ := List.mem_map.1 hp
      exact (hf i (List.mem_range.1 hi)).2.2

theorem argPrs_open {H : Type} {enc : TypeId × Value → H} {W : World} {base : Nat} {v : Value} {d : DataW H} {ps : List MemPlace} (hval : Value.okWide Tryz.prog W .any base 25 v)
    (h : DataW.Trod enc Tryz.prog W 0 (fun _ => true) true 25 v d ps) : ArgPrs W v := by
  obtain ⟨a0, len, cap, rfl⟩ := okWide_slice Tryz.underlying25 hval
  obtain ⟨fuel, hf⟩ := h
  exact argPrs_trod hf

end Go.Proofs.YtblmdcpcekoogaaGreatDoor
