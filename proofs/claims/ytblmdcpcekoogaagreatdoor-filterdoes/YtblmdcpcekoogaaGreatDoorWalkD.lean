/-
  Walks: strings.SplitSeq, dns.Name.
-/
import Derived.Test.YtblmdcpcekoogaaGreatDoorWalkC
import Derived.Test.YtblmdcpcekoogaaGreatDoorWalkA
namespace Go.Proofs.YtblmdcpcekoogaaGreatDoor
set_option maxRecDepth 20000
open Go Go.RowKit Go.Shelf

attribute [local go_sem] Oper.semAt_some

/-- the world behind SplitSeq -/
def boxed3 (w : World) (s sep : ByteArray) : World := ((w.alloc (.cells #[.string s] 9)).alloc (.cells #[.string sep] 9)).alloc (.cells #[.int .i64 0] 3)
abbrev itv (B : Nat) : Value := .func (.func 248) #[] #[.pointer (some ⟨B + 1, 0, none⟩), .pointer (some ⟨B, 0, none⟩), .pointer (some ⟨B + 2, 0, none⟩)]

set_option maxHeartbeats 400000 in
theorem splitSeq_any (s sep : ByteArray) (w : World) :
    Calls Tryz.prog 202 #[.string s, .string sep, .int .i64 0] w fun e w' => e = .returned (itv w.heap.size) ∧ w' = boxed3 w s sep := by
  go_enter Tryz.func202, Tryz.ntmps202
  go_wp2
  go_ret
  exact ⟨rfl, rfl⟩

set_option maxHeartbeats 400000 in
theorem SplitSeq_any (s sep : ByteArray) (w : World) :
    Calls Tryz.prog 145 #[.string s, .string sep] w fun e w' => e = .returned (itv w.heap.size) ∧ w' = boxed3 w s sep := by
  go_enter Tryz.func145, Tryz.ntmps145
  go_wp2_with (go_at_call 202; refine (splitSeq_any _ _ _).mono ?_; rintro e w' ⟨rfl, rfl⟩)
  go_ret
  exact ⟨rfl, rfl⟩

theorem boxed3_size (w : World) (s sep : ByteArray) : (boxed3 w s sep).heap.size = w.heap.size + 3 := by simp [boxed3]
theorem boxed3_below (w : World) (s sep : ByteArray) (n : Nat) (h : n ≤ w.heap.size) : Below n w (boxed3 w s sep) :=
  (((Below.refl n w).alloc h _).alloc (by simp; omega) _).alloc (by simp; omega) _
theorem boxed3_c0 (w : World) (s sep : ByteArray) : Boxed (boxed3 w s sep) w.heap.size 9 (.string s) :=
  ((Boxed.new w 9 (.string s)).alloc _).alloc _
theorem boxed3_c1 (w : World) (s sep : ByteArray) : Boxed (boxed3 w s sep) (w.heap.size + 1) 9 (.string sep) := by
  have h := Boxed.new (w.alloc (.cells #[.string s] 9)) 9 (.string sep)
  rw [World.size_alloc] at h
  exact h.alloc _
theorem boxed3_c2 (w : World) (s sep : ByteArray) : Boxed (boxed3 w s sep) (w.heap.size + 2) 3 (.int .i64 0) := by
  have h := Boxed.new ((w.alloc (.cells #[.string s] 9)).alloc (.cells #[.string sep] 9)) 3 (.int .i64 0)
  simp only [World.size_alloc] at h
  exact h

theorem boxed_far {W : World} {B B' : Nat} {t : TypeId} {v : Value} (h : Boxed W B t v) (hne : B ≠ B') (u : Value) : Boxed (W.setCell ⟨B', 0, none⟩ u) B t v :=
  (Below.heap_setCell W ⟨B', 0, none⟩ u B hne).trans h

/-- the iterator that SplitSeq hands back, in the world behind it and later -/
theorem split_steps (n : Nat) (c : UInt8) (s : ByteArray) (w W : World) (hs : s.size ≤ maxLen) (hW : W = boxed3 w s ⟨#[c]⟩) :
    SeqSteps Fence.wide n Tryz.prog 248 #[.pointer (some ⟨w.heap.size + 1, 0, none⟩), .pointer (some ⟨w.heap.size, 0, none⟩), .pointer (some ⟨w.heap.size + 2, 0, none⟩)] (parts c s) w.heap.size w.heap.size (w.heap.size + 3) W := by
  subst hW
  exact seq_steps n w.heap.size c s _ hs (by rw [boxed3_size]; omega) (boxed3_c0 ..).cell (boxed3_c0 ..).frozen (boxed3_c1 ..).cell (boxed3_c2 ..).cell

theorem name_of_parts (s : ByteArray) (h : s.size ≤ 60) (hall : ∀ j (hj : j < (parts 46 s).length), D.isLabel (parts 46 s)[j].data.toList = true) : D.isName s.data.toList = true := by
  unfold D.isName
  rw [Bool.and_eq_true]
  refine ⟨decide_eq_true (by simpa using h), List.all_eq_true.2 fun p hp => ?_⟩
  obtain ⟨j, hj, rfl⟩ := List.getElem_of_mem hp
  have := hall j (by rw [parts_len]; exact hj)
  simpa [parts] using this
theorem not_name_of_part (s : ByteArray) {j : Nat} (hj : j < (parts 46 s).length) (h : D.isLabel (parts 46 s)[j].data.toList = false) : D.isName s.data.toList = false := by
  unfold D.isName
  rw [Bool.and_eq_false_iff]
  right
  rw [List.all_eq_false]
  refine ⟨(D.spl 46 s.data.toList)[j]'(by rw [← parts_len]; exact hj), List.getElem_mem _, ?_⟩
  have : D.isLabel ((D.spl 46 s.data.toList)[j]'(by rw [← parts_len]; exact hj)) = false := by simpa [parts] using h
  simp [this]
theorem part_size (c : UInt8) (s : ByteArray) {j : Nat} (hj : j < (parts c s).length) : (parts c s)[j].size ≤ s.size := by
  have hm : (D.spl c s.data.toList)[j]'(by rw [← parts_len]; exact hj) ∈ D.spl c s.data.toList := List.getElem_mem _
  have := D.spl_len _ hm
  have e : (parts c s)[j] = ⟨((D.spl c s.data.toList)[j]'(by rw [← parts_len]; exact hj)).toArray⟩ := by simp only [parts, List.getElem_map]
  rw [e]
  have e2 : s.size = s.data.toList.length := by simp
  rw [e2]
  show (List.toArray _).size ≤ _
  rw [List.size_toArray]
  exact this

set_option maxHeartbeats 400000 in
theorem name_long (s : ByteArray) (w : World) (hs : s.size ≤ maxLen) (h60 : 60 < s.size) :
    Calls Tryz.prog 97 #[.string s] w fun e w' => e = .returned (.bool (D.isName s.data.toList)) ∧ Below w.heap.size w w' := by
  have hx : Hid (D.isName s.data.toList = false) := by
    unfold Hid D.isName
    rw [Bool.and_eq_false_iff]; left; apply decide_eq_false; simp; exact h60
  unfold maxLen at hs
  go_enter Tryz.func97, Tryz.ntmps97
  go_wp2
  refine bodyPost_ret (v := .bool false) (by simp [results, Tryz.f97, go_sem]) rfl ⟨ret_bool hx.out.symm, ?_⟩
  exact (Below.refl _ _).alloc (Nat.le_refl _) _

set_option maxRecDepth 100000 in
set_option maxHeartbeats 400000 in
theorem name_any (s : ByteArray) (w : World) (hs : s.size ≤ maxLen) :
    Calls Tryz.prog 97 #[.string s] w fun e w' => e = .returned (.bool (D.isName s.data.toList)) ∧ Below w.heap.size w w' := by
  by_cases h60 : 60 < s.size
  · exact name_long s w hs h60
  refine (callsIn_wide (n := 8)).1 ?_
  have hs' := hs
  unfold maxLen at hs
  have h60' : s.size ≤ 60 := by omega
  refine callsIn_of_wp_marks Tryz.func97 rfl trivial ?_ rfl
  simp only [Tryz.ntmps97, List.size_toArray, List.length_cons, List.length_nil, Nat.reduceAdd, Nat.reduceSub, Array.replicate_succ, Array.replicate_zero, List.push_toArray, List.append_toArray, List.nil_append, List.cons_append]
  gi_wp2_with fail
  refine ⟨trivial, (callsIn_wide.2 (SplitSeq_any _ _ _)).mono ?_⟩
  rintro e w' ⟨rfl, hw'⟩
  have b0 : Boxed w' w.heap.size 4 (.bool false) := by
    rw [hw']; exact (((Boxed.new w 4 (.bool false)).alloc _).alloc _).alloc _
  have hB0 : Below w.heap.size w w' := by
    rw [hw']; exact ((Below.refl _ w).alloc (Nat.le_refl _) _).trans (boxed3_below _ _ _ _ (by simp))
  have hsz : w'.heap.size = w.heap.size + 4 := by rw [hw', boxed3_size]; simp
  have hst := split_steps 7 46 s _ w' hs' hw'
  simp only [World.size_alloc] at hst
  have HST := hide hst
  clear hst
  have HW := hide hw'
  clear hw'
  gi_wp2_with fail
  refine wpIn_rangeFunc_steps rfl (by omega) (gf := 248) (lb := #[.pointer (some ⟨w.heap.size + 1 + 1, 0, none⟩), .pointer (some ⟨w.heap.size + 1, 0, none⟩), .pointer (some ⟨w.heap.size + 1 + 2, 0, none⟩)]) rfl trivial (enters_of Tryz.func248 (by kernel_rfl) rfl)
    HST.out (Below.refl _ _) (by omega) rfl
    (fun k W => Boxed W w.heap.size 4 (.bool false) ∧ (∀ j (hj : j < (parts 46 s).length), j < k → D.isLabel (parts 46 s)[j].data.toList = true) ∧ Below w.heap.size w W)
    (fun c _ W => Boxed W w.heap.size 4 (.bool false) ∧ c = .ret ∧ D.isName s.data.toList = false ∧ Below w.heap.size w W)
    (OwnFrom.and (Own.from (boxed_own _ _ _) _) (OwnFrom.and (fun _ _ _ _ h _ _ => h) (ownFrom_below (Nat.le_refl _) (by omega))))
    (fun c => OwnFrom.and (Own.from (boxed_own _ _ _) _) (OwnFrom.and (fun _ _ _ _ h _ _ => h) (OwnFrom.and (fun _ _ _ _ h _ _ => h) (ownFrom_below (Nat.le_refl _) (by omega)))))
    (fun k W v h => ⟨boxed_far h.1 (by omega) v, h.2.1, h.2.2.setCell (p := ⟨w.heap.size + 1, 0, none⟩) (by show _ ≤ w.heap.size + 1; omega) v⟩)
    (fun c k W v h => ⟨boxed_far h.1 (by omega) v, h.2.1, h.2.2.1, h.2.2.2.setCell (p := ⟨w.heap.size + 1, 0, none⟩) (by show _ ≤ w.heap.size + 1; omega) v⟩)
    ⟨b0, fun _ _ h => absurd h (by omega), hB0⟩
    (fun x => { tmps := #[.string s, undef, .pointer (some ⟨w.heap.size, 0, none⟩), .string x, .string s, .int .i64 s.size, .bool (decide ((60 : Int) < s.size)), .string s, itv (w.heap.size + 1), .string x, undef, undef, undef], defers := [] }) ?assign ?body ?done ?stop
  case assign =>
    intro l x W K hK
    gi_wp2
    exact hK
  case body =>
    rintro l k W hk ⟨hb, hall, hB⟩
    have hps := part_size 46 s hk
    have hpm : (parts 46 s)[k].size ≤ maxLen := Nat.le_trans hps hs'
    obtain ⟨p, hp⟩ : ∃ p, (parts 46 s)[k] = p := ⟨_, rfl⟩
    rw [hp] at hpm
    have HP := hide hp
    have HALL := hide hall
    have hc := hb.cell
    have hf := hb.frozen
    clear hall hps
    rw [hp]
    clear hp
    cases hl : D.isLabel p.data.toList
    · have HL := hide hl
      clear hl
      gi_wp2_with fail
      refine ⟨trivial, (CallsIn.inRound l (callsIn_wide.2 (label_any _ _ hpm))).mono ?_⟩
      rintro e w2 ⟨rfl, rfl⟩
      rw [HL.out]
      gi_wp2
      refine ⟨KeepsOthers.setCell _ _ _, hb.set _, rfl, ?_, hB.setCell (p := ⟨w.heap.size, 0, none⟩) (Nat.le_refl _) _⟩
      exact not_name_of_part s hk (by rw [HP.out]; exact HL.out)
    · have HL := hide hl
      clear hl
      gi_wp2_with fail
      refine ⟨trivial, (CallsIn.inRound l (callsIn_wide.2 (label_any _ _ hpm))).mono ?_⟩
      rintro e w2 ⟨rfl, rfl⟩
      rw [HL.out]
      gi_wp2
      refine ⟨KeepsOthers.refl _, Stays.refl _ _ _, hb, ?_, hB⟩
      intro j hj hjk
      by_cases e : j = k
      · subst e; rw [HP.out]; exact HL.out
      · exact HALL.out j hj (by omega)
  case done =>
    rintro D W hD ⟨hb, hall, hB⟩ hK
    have hn := hide (name_of_parts s h60' (fun j hj => hall j hj hj))
    clear hall
    have hc := hb.cell
    have hf := hb.frozen
    gi_wp2
    have hK' := (KeepsOthers.setCell W ⟨w.heap.size, 0, none⟩ (.bool true)).same D _ hK rfl
    refine ⟨by simp, .inl ⟨_, _, rfl, run_takeDeferred hK', ?_⟩⟩
    have hc5 := cell_kept (World.cell?_setCell_same' W ⟨w.heap.size, 0, none⟩ (.bool true) (by rw [hc]; rfl)) (grownBy_putObj' _ D (.deferred none)) (fun r e => by cases e; exact ⟨_, hK', rfl⟩)
    refine ⟨.bool true, ?_, ret_bool hn.out.symm, (hB.setCell (p := ⟨w.heap.size, 0, none⟩) (Nat.le_refl _) _).trans (belowK_b (w := w) (Nat.le_refl _) _ D _ _ (by omega) hK' rfl rfl)⟩
    simp [results, Tryz.f97, go_sem, hc5]
  case stop =>
    rintro D c k W hD hk ⟨hb, rfl, hn, hB⟩ hK
    have HN := hide hn
    clear hn
    have hc := hb.cell
    gi_wp2
    refine ⟨by simp, .inl ⟨_, _, rfl, run_takeDeferred hK, ?_⟩⟩
    have hc5 := cell_kept hc (grownBy_putObj' _ D (.deferred none)) (fun r e => by cases e; exact ⟨_, hK, rfl⟩)
    refine ⟨.bool false, ?_, ret_bool HN.out.symm, hB.trans (belowK_b (w := w) (Nat.le_refl _) W D _ _ (by omega) hK rfl rfl)⟩
    simp [results, Tryz.f97, go_sem, hc5]

end Go.Proofs.YtblmdcpcekoogaaGreatDoor
