/-
  Parse's parts and pairs on lists; a row of pairs.
-/
import Derived.Test.YtmjjjlanafiilaaDoorQuWalkE
namespace Go.Proofs.YtmjjjlanafiilaaDoor
open Go Go.RowKit Go.Shelf

/-- pairs, as cells -/
def flat (l : List PairB) : List Value := l.flatMap fun p => [.string p.1, .string p.2]
theorem flat_append (a b : List PairB) : flat (a ++ b) = flat a ++ flat b := by simp [flat]
theorem flat_len (l : List PairB) : (flat l).length = l.length * 2 := by
  induction l with
  | nil => rfl
  | cons p l ih =>
    show ([Value.string p.1, Value.string p.2] ++ flat l).length = _
    rw [List.length_append, ih]
    simp
    omega
theorem flat_at : ∀ (l : List PairB) (i : Nat) (h : i < l.length), (flat l)[i * 2]? = some (.string l[i].1) ∧ (flat l)[i * 2 + 1]? = some (.string l[i].2)
  | p :: l, 0, _ => ⟨rfl, rfl⟩
  | p :: l, i + 1, h => by
    have := flat_at l i (by simpa using h)
    have e : flat (p :: l) = .string p.1 :: .string p.2 :: flat l := rfl
    rw [e, Nat.add_mul]
    exact this
theorem flat_one (l : List PairB) : ∀ u ∈ flat l, u.oneCell' = true := by
  intro u hu
  obtain ⟨p, _, hp⟩ := List.mem_flatMap.1 hu
  simp at hp
  rcases hp with rfl | rfl <;> rfl
theorem flat_snoc (l : List PairB) (k : Nat) (h : k < l.length) : flat (l.take (k + 1)) = flat (l.take k) ++ [.string l[k].1, .string l[k].2] := by
  rw [List.take_succ_eq_append_getElem h, flat_append]; rfl

theorem Prs.of_row {w : World} {base : Nat} {v : Value} {l : List PairB} {n : Nat} (hn : n = l.length) (h : w.ownsRow base 42 2 v n (flat l)) : Prs w v l := by
  subst hn
  obtain ⟨_, h2⟩ := h
  rcases h2 with ⟨rfl, h0⟩ | ⟨g, cap, cur, rfl, hg, hgb, hle, hcm, hsz, hcur⟩
  · have : l = [] := List.eq_nil_of_length_eq_zero h0
    subst this
    exact Prs.nil w
  · refine ⟨some ⟨g, 0, none⟩, cap, rfl, hle, hcm, fun i hi => ⟨g, 0, rfl, (Array.getElem?_eq_some_iff.1 hgb).1, ?_, ?_⟩⟩
    · have h1 := (flat_at l i hi).1
      rw [← hcur, List.getElem?_take_of_lt (by omega)] at h1
      simp [World.cell?, hgb]
      simpa using h1
    · have h1 := (flat_at l i hi).2
      rw [← hcur, List.getElem?_take_of_lt (by omega)] at h1
      simp [World.cell?, hgb]
      simpa using h1

theorem Tryd.infoPair : (Tryd.prog.info? 42).map (fun i => (i.zero, i.size, i.bytes)) = some (some (.agg #[.string ⟨#[]⟩, .string ⟨#[]⟩]), 2, 32) := by kernel_rfl

/-! ### the pairs of a text -/
def prs (s : ByteArray) : List PairB := (parts 38 s).map pairB
theorem prs_len (s : ByteArray) : (prs s).length = (parts 38 s).length := by simp [prs]
theorem prs_at (s : ByteArray) (k : Nat) (h : k < (parts 38 s).length) : (prs s)[k]'(by rw [prs_len]; exact h) = pairB (parts 38 s)[k] := by simp [prs]

def bp (p : Qu.PairL) : PairB := (⟨p.1.toArray⟩, ⟨p.2.toArray⟩)
theorem bp_pl (p : PairB) : bp (pl p) = p := by simp [bp, pl]
theorem pl_bp (p : Qu.PairL) : pl (bp p) = p := by simp [bp, pl]
theorem map_bp_pl (l : List PairB) : (l.map pl).map bp = l := by
  rw [List.map_map]
  have : bp ∘ pl = id := funext bp_pl
  rw [this, List.map_id]
theorem map_pl_bp (l : List Qu.PairL) : (l.map bp).map pl = l := by
  rw [List.map_map]
  have : pl ∘ bp = id := funext pl_bp
  rw [this, List.map_id]
theorem map_pl_inj {a b : List PairB} (h : a.map pl = b.map pl) : a = b := by
  rw [← map_bp_pl a, h, map_bp_pl]

theorem parts_iff : ∀ (ps : List (List UInt8)) (l : List Qu.PairL), Qu.parts ps = some l ↔ ps.map Qu.part = l.map some
  | [], l => by
    cases l <;> simp [Qu.parts]
  | p :: ps, l => by
    rw [Qu.parts_cons]
    cases hp : Qu.part p with
    | none => cases l <;> simp [hp]
    | some x =>
      cases hps : Qu.parts ps with
      | none =>
        cases l with
        | nil => simp
        | cons y l =>
          have : ¬ (ps.map Qu.part = l.map some) := fun e => by rw [(parts_iff ps l).2 e] at hps; cases hps
          simp [hp, this]
      | some ys =>
        have h1 := (parts_iff ps ys).1 hps
        cases l with
        | nil => simp
        | cons y l =>
          simp only [Option.some.injEq, List.cons.injEq, List.map_cons, hp, h1]
          constructor
          · rintro ⟨rfl, rfl⟩; exact ⟨rfl, rfl⟩
          · rintro ⟨rfl, h2⟩
            exact ⟨rfl, List.map_inj_right (f := some) (fun _ _ => Option.some.inj) |>.1 h2⟩

theorem parts_data (s : ByteArray) (k : Nat) (h : k < (parts 38 s).length) : (parts 38 s)[k].data.toList = (D.spl 38 s.data.toList)[k]'(by rw [← parts_len]; exact h) := by simp [parts]

theorem parse_good (s : ByteArray) (hne : s.data.toList ≠ []) (hall : ∀ j (hj : j < (parts 38 s).length), (Qu.part (parts 38 s)[j].data.toList).isSome = true ∧ Qu.mayP (pl (pairB (parts 38 s)[j])) = true) (h20 : (parts 38 s).length ≤ 20) :
    Qu.parse s.data.toList = some ((prs s).map pl) := by
  rw [Qu.parse_some hne]
  constructor
  · rw [parts_iff]
    apply List.ext_getElem
    · simp [prs_len, parts_len]
    · intro j h1 h2
      have hj : j < (parts 38 s).length := by rw [parts_len]; simpa using h1
      have h := (hall j hj).1
      rw [List.getElem_map, List.getElem_map, List.getElem_map, prs_at s j hj, ← parts_data s j hj]
      obtain ⟨p, hp⟩ := Option.isSome_iff_exists.1 h
      rw [hp, ← part_eq hp]
      rfl
  · rw [may_yes, prs_len, decide_eq_true h20]
    intro k hk
    have hk' : k < (parts 38 s).length := by rw [← prs_len]; exact hk
    rw [prs_at s k hk']
    exact (hall k hk').2

theorem parse_bad (s : ByteArray) (hne : s.data.toList ≠ []) (k : Nat) (hk : k < (parts 38 s).length)
    (h : (Qu.part (parts 38 s)[k].data.toList).isSome = false ∨ Qu.mayP (pl (pairB (parts 38 s)[k])) = false ∨ 20 < (parts 38 s).length) : Qu.parse s.data.toList = none := by
  unfold Qu.parse
  rw [if_neg hne]
  cases hp : Qu.parts (D.spl 38 s.data.toList) with
  | none => rfl
  | some l =>
    have h1 := (parts_iff _ _).1 hp
    have hl : l.length = (parts 38 s).length := by
      have := congrArg List.length h1
      rw [List.length_map, List.length_map] at this
      rw [parts_len, this]
    have hkl : k < l.length := by omega
    have hks : k < (D.spl 38 s.data.toList).length := by rw [← parts_len]; exact hk
    have hpk : Qu.part (parts 38 s)[k].data.toList = some l[k] := by
      have := congrArg (fun x => x[k]?) h1
      simp only [List.getElem?_map, List.getElem?_eq_getElem hks, List.getElem?_eq_getElem hkl, Option.map_some] at this
      rw [parts_data s k hk]
      exact Option.some.inj this
    have hm : Qu.may l = false := by
      rcases h with h | h | h
      · rw [hpk] at h; cases h
      · have hq : pl (pairB (parts 38 s)[k]) = l[k] := part_eq hpk
        rw [hq] at h
        unfold Qu.may
        rw [Bool.and_eq_false_iff]
        left
        rw [List.all_eq_false]
        exact ⟨l[k], List.getElem_mem hkl, by rw [h]; decide⟩
      · unfold Qu.may
        rw [decide_eq_false (by omega), Bool.and_false]
    simp [hm]

theorem ok_of_may {l : List PairB} (h : Qu.may (l.map pl) = true) : (∀ p ∈ l, p.1.size ≤ 40 ∧ p.2.size ≤ 40) ∧ l.length ≤ 20 := by
  simp only [Qu.may, Bool.and_eq_true, decide_eq_true_eq, List.all_eq_true, List.length_map] at h
  exact ⟨fun p hp => mayP_len (h.1 _ (List.mem_map.2 ⟨p, hp, rfl⟩)), h.2⟩

end Go.Proofs.YtmjjjlanafiilaaDoor
