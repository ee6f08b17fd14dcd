/-
  Walks: readPair (of package query).
-/
import Derived.Test.YtmjjjlanafiilaaDoorQuWalkD
namespace Go.Proofs.YtmjjjlanafiilaaDoor
open Go Go.RowKit Go.Shelf

theorem name_none {l : List UInt8} (h : ∀ x ∈ l, x ≠ 61) : Qu.nameOf l = l ∧ Qu.valOf l = [] := by
  unfold Qu.nameOf Qu.valOf
  induction l with
  | nil => exact ⟨rfl, rfl⟩
  | cons c l ih =>
    have hc : (c != 61) = true := by simpa using h c (by simp)
    have := ih (fun x hx => h x (by simp [hx]))
    simp [hc, this]

theorem set_block0 {w : World} {n : Nat} {a b : Value} {t : Nat} (x : Value) (h : w.heap[n]? = some (.cells #[a, b] t)) : (w.setCell ⟨n, 0, none⟩ x).heap[n]? = some (.cells #[x, b] t) := by
  simp [World.setCell, Array.getElem?_modify, h]
theorem set_block1 {w : World} {n : Nat} {a b : Value} {t : Nat} (x : Value) (h : w.heap[n]? = some (.cells #[a, b] t)) : (w.setCell ⟨n, 1, none⟩ x).heap[n]? = some (.cells #[a, x] t) := by
  simp [World.setCell, Array.getElem?_modify, h]

/-- the text that read answers -/
def rdB (o : Option (List UInt8)) : ByteArray := ⟨(o.getD []).toArray⟩
theorem rdRes_eq (o : Option (List UInt8)) : rdRes o = .tuple #[.string (rdB o), .bool o.isSome] := by
  cases o <;> rfl
theorem rdB_len {l : List UInt8} : (rdB (Qu.rd l)).size ≤ l.length := by
  unfold rdB
  cases h : Qu.rd l with
  | none => exact Nat.zero_le _
  | some q =>
    have := Qu.rd_len l q h
    show q.toArray.size ≤ _
    rw [List.size_toArray]
    exact this
theorem part_some (l : List UInt8) : (Qu.part l).isSome = ((Qu.rd (Qu.nameOf l)).isSome && (Qu.rd (Qu.valOf l)).isSome) := by
  unfold Qu.part
  cases Qu.rd (Qu.nameOf l) <;> cases Qu.rd (Qu.valOf l) <;> rfl
theorem part_eq {l : List UInt8} {p : Qu.PairL} (h : Qu.part l = some p) : pl (rdB (Qu.rd (Qu.nameOf l)), rdB (Qu.rd (Qu.valOf l))) = p := by
  unfold Qu.part at h
  cases h1 : Qu.rd (Qu.nameOf l) with
  | none => rw [h1] at h; cases h
  | some a =>
    cases h2 : Qu.rd (Qu.valOf l) with
    | none => rw [h1, h2] at h; cases h
    | some b =>
      rw [h1, h2] at h
      cases h
      simp [pl, rdB]
theorem nameOf_len (l : List UInt8) : (Qu.nameOf l).length ≤ l.length := by
  unfold Qu.nameOf
  exact (List.takeWhile_sublist _).length_le
theorem valOf_len (l : List UInt8) : (Qu.valOf l).length ≤ l.length := by
  unfold Qu.valOf
  have := (List.dropWhile_sublist (l := l) (· != 61)).length_le
  rw [List.length_drop]
  omega

/-- the pair that readPair answers, whether it is one or not -/
def pairB (s : ByteArray) : PairB := (rdB (Qu.rd (Qu.nameOf s.data.toList)), rdB (Qu.rd (Qu.valOf s.data.toList)))
theorem pairB_len (s : ByteArray) : (pairB s).1.size ≤ s.size ∧ (pairB s).2.size ≤ s.size := by
  have e : s.data.toList.length = s.size := Array.length_toList
  have h1 := nameOf_len s.data.toList
  have h2 := valOf_len s.data.toList
  have h3 := rdB_len (l := Qu.nameOf s.data.toList)
  have h4 := rdB_len (l := Qu.valOf s.data.toList)
  exact ⟨Nat.le_trans h3 (Nat.le_trans h1 (Nat.le_of_eq e)), Nat.le_trans h4 (Nat.le_trans h2 (Nat.le_of_eq e))⟩

theorem strings_cut (s : ByteArray) (w : World) (hs : s.size ≤ maxLen) : ∃ (x y : ByteArray) (f : Bool), x.data.toList = Qu.nameOf s.data.toList ∧ y.data.toList = Qu.valOf s.data.toList ∧
    Calls Tryd.prog 32 #[.string s, .string ⟨#[61]⟩] w fun e w' => e = .returned (.tuple #[.string x, .string y, .bool f]) ∧ Below w.heap.size w w' := by
  rcases idx_cases 61 s.data.toList with ⟨hi, hno⟩ | ⟨i, hil, hi, hcut, hno⟩
  · obtain ⟨h1, h2⟩ := name_none hno
    exact ⟨s, ⟨#[]⟩, false, h1.symm, h2.symm, cut_none s 61 w hi⟩
  · have hil' : i < s.size := by simpa using hil
    have ht := Qu.take_eq (b := s.data.toList.drop (i + 1)) hno
    rw [← hcut] at ht
    refine ⟨s.extract 0 i, s.extract (i + 1) s.size, true, ?_, ?_, cut_some s 61 i w hs hil' hi⟩
    · rw [ht.1, Lib.extract_eq]; simp
    · rw [ht.2]; exact Lib.extract_to_end s (i + 1)

set_option maxHeartbeats 800000 in
theorem readPair_any (s : ByteArray) (w : World) (hs : s.size ≤ 100000) :
    Calls Tryd.prog 26 #[.string s] w fun e w' => e = .returned (.tuple #[.agg #[.string (pairB s).1, .string (pairB s).2], .bool (Qu.part s.data.toList).isSome]) ∧ Below w.heap.size w w' := by
  obtain ⟨x, y, f, hx, hy, hcut⟩ := strings_cut s (w.alloc (.cells #[.string ⟨#[]⟩, .string ⟨#[]⟩] 42)) (by unfold maxLen; omega)
  have hsl : s.data.toList.length = s.size := Array.length_toList
  have hxs : x.size ≤ 100000 := by
    have h1 := nameOf_len s.data.toList
    rw [← hx, Array.length_toList] at h1
    exact Nat.le_trans (show x.data.size ≤ _ by omega) hs
  have hys : y.size ≤ 100000 := by
    have h1 := valOf_len s.data.toList
    rw [← hy, Array.length_toList] at h1
    exact Nat.le_trans (show y.data.size ≤ _ by omega) hs
  have HP : Hid (pairB s = (rdB (Qu.rd x.data.toList), rdB (Qu.rd y.data.toList))) := by unfold Hid pairB; rw [hx, hy]
  have HS : Hid ((Qu.part s.data.toList).isSome = ((Qu.rd x.data.toList).isSome && (Qu.rd y.data.toList).isSome)) := by unfold Hid; rw [part_some, hx, hy]
  rw [HP.out, HS.out]
  clear hx hy hsl HP HS
  have C1 := fun W => hide (qread_any x W hxs)
  have C2 := fun W => hide (qread_any y W hys)
  rw [rdRes_eq] at C1 C2
  generalize rdB (Qu.rd x.data.toList) = xb at *
  generalize rdB (Qu.rd y.data.toList) = yb at *
  generalize (Qu.rd x.data.toList).isSome = f1 at *
  generalize (Qu.rd y.data.toList).isSome = f2 at *
  have hcl := hide (show (w.alloc (.cells #[.string ⟨#[]⟩, .string ⟨#[]⟩] 42)).heap[w.heap.size]? = some (.cells #[.string ⟨#[]⟩, .string ⟨#[]⟩] 42) from alloc_new _ _)
  cases f1
  all_goals
    go_enter Tryd.func26, Tryd.ntmps26
    go_wp2_with fail
    refine hcut.mono ?_
    rintro e w1 ⟨rfl, hb1⟩
    go_wp2_with fail
    refine (C1 w1).out.mono ?_
    rintro e w2 ⟨rfl, hb2⟩
    go_wp2_with fail
    refine (C2 w2).out.mono ?_
    rintro e w3 ⟨rfl, hb3⟩
    have bb : Below (w.alloc (.cells #[.string ⟨#[]⟩, .string ⟨#[]⟩] 42)).heap.size (w.alloc (.cells #[.string ⟨#[]⟩, .string ⟨#[]⟩] 42)) w3 := (hb1.trans (hb2.mono hb1.size)).trans (hb3.mono (Nat.le_trans hb1.size hb2.size))
    have bk := (bb.block w.heap.size (by simp)).trans hcl.out
    have k1 := box_fst bk
    have k2 := box_snd bk
    have k3 : ∀ i, w3.frozen? ⟨w.heap.size, i, none⟩ = false := fun i => by simp [World.frozen?, bk]
    have k4 := k3 0
    have k5 := k3 1
    have HB := hide (below_box bb)
    clear bb hb1 hb2 hb3 C1 C2 hcut
    go_wp2_with fail
    have bl := set_block1 (b := .string ⟨#[]⟩) (.string yb) (set_block0 (a := .string ⟨#[]⟩) (.string xb) bk)
    have z1 := box_fst bl
    have z2 := box_snd bl
    have HB2 := (HB.out.setCell (p := ⟨w.heap.size, 0, none⟩) (Nat.le_refl _) (.string xb)).setCell (p := ⟨w.heap.size, 1, none⟩) (Nat.le_refl _) (.string yb)
    generalize (w3.setCell ⟨w.heap.size, 0, none⟩ (.string xb)).setCell ⟨w.heap.size, 1, none⟩ (.string yb) = w5 at *
    refine bodyPost_ret (by simp [results, Tryd.f26, go_sem, z1, z2]) rfl ⟨rfl, HB2⟩

end Go.Proofs.YtmjjjlanafiilaaDoor
