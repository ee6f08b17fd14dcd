/-
  Walks: inPath, Is, mayBegin, May (of package path).
-/
import Derived.Test.YtphinklnbjpohaaGreatDoorPaPlain
import Derived.LoopTactic
import Derived.Laws.RangeAny
import Derived.Laws.RangeString
import Derived.Deep.RegionHeld3
namespace Go.Proofs.YtphinklnbjpohaaGreatDoor
set_option maxRecDepth 20000
open Go Go.RowKit Go.Shelf

set_option maxHeartbeats 400000 in
theorem inPath_any (c : Int) (w : World) :
    Calls Tryz.prog 204 #[.int .i32 c] w fun e w' => e = .returned (.bool (inP c)) ∧ w' = w := by
  go_enter Tryz.func204, Tryz.ntmps204
  go_wp2
  all_goals go_ret
  all_goals (refine ⟨ret_bool ?_, rfl⟩)
  all_goals (simp only [inP]; rw [Bool.eq_iff_iff]; simp)
  all_goals omega

theorem root_len : (⟨#[47]⟩ : ByteArray).size ≤ maxLen := by decide

theorem data_at (s : ByteArray) (k : Nat) (h : k < s.size) : s.data.toList[k]'(by simpa using h) = s[k] := rfl

theorem high_out (s : ByteArray) (pos : Nat) (h : pos < s.size) (ha : ¬ (s[pos]'h).toNat < 128) : inP ((Utf8.decode s pos).1 : Int) = false := by
  have := (decode_high s pos h (by omega)).1
  simp only [inP]
  have h2 : decide (((Utf8.decode s pos).1 : Int) ≤ 126) = false := decide_eq_false (by omega)
  rw [h2]
  simp
theorem high_out' (s : ByteArray) (pos : Nat) (h : pos < s.size) (ha : ¬ (s[pos]'h).toNat < 128) : inP ((s[pos]'h).toNat : Int) = false := by
  simp only [inP]
  have h2 : decide (((s[pos]'h).toNat : Int) ≤ 126) = false := decide_eq_false (by omega)
  rw [h2]
  simp

theorem isP_not {s : ByteArray} {k : Nat} (h : k < s.size) (hin : inP (s[k].toNat : Int) = false) : isP s.data.toList = false := by
  rw [Bool.eq_false_iff]
  intro hp
  have := (isP_iff.1 hp).2.2 s[k] (by simp [ByteArray.getElem_eq_getElem_data])
  rw [hin] at this
  cases this
theorem isP_all {s : ByteArray} (h60 : ¬ 60 < s.size) (hpre : Lib.hasPrefix s.data.toList [47] = true) (hall : ∀ j (h : j < s.size), inP (s[j].toNat : Int) = true) : isP s.data.toList = true := by
  rw [isP_iff]
  refine ⟨by rw [Array.length_toList]; exact Nat.le_of_not_lt h60, hasP_iff.1 hpre, ?_⟩
  intro c hc
  obtain ⟨j, hj, rfl⟩ := List.getElem_of_mem hc
  exact hall j (by simpa using hj)
theorem isP_long {s : ByteArray} (h60 : 60 < s.size) : isP s.data.toList = false := by
  rw [Bool.eq_false_iff]
  intro hp
  have := (isP_iff.1 hp).1
  rw [Array.length_toList] at this
  exact absurd h60 (Nat.not_lt.2 this)
theorem isP_root {s : ByteArray} (hpre : Lib.hasPrefix s.data.toList [47] = false) : isP s.data.toList = false := by
  rw [Bool.eq_false_iff]
  intro hp
  have := hasP_iff.2 (isP_iff.1 hp).2.1
  rw [hpre] at this
  cases this

set_option maxHeartbeats 800000 in
theorem isPath_any (s : ByteArray) (w : World) (hs : s.size ≤ maxLen) :
    Calls Tryz.prog 142 #[.string s] w fun e w' => e = .returned (.bool (isP s.data.toList)) ∧ Below w.heap.size w w' := by
  by_cases h60 : 60 < s.size
  · have HX := hide (isP_long h60)
    go_enter Tryz.func142, Tryz.ntmps142
    go_wp2_with fail
    go_ret
    exact ⟨ret_bool HX.out.symm, Below.refl _ _⟩
  · cases hpre : Lib.hasPrefix s.data.toList [47]
    · have HX := hide (isP_root hpre)
      have HP : Hid (Lib.hasPrefix s.data.toList (⟨#[47]⟩ : ByteArray).data.toList = false) := hpre
      clear hpre
      go_enter Tryz.func142, Tryz.ntmps142
      go_wp2_with fail
      refine (hasPrefix_any _ _ _ hs root_len).mono ?_
      rintro e x ⟨rfl, hx⟩
      subst x
      rw [HP.out]
      go_wp2_with fail
      go_ret
      exact ⟨ret_bool HX.out.symm, Below.refl _ _⟩
    · have HX := hide (fun h => isP_all h60 hpre h)
      have HP : Hid (Lib.hasPrefix s.data.toList (⟨#[47]⟩ : ByteArray).data.toList = true) := hpre
      clear hpre
      go_enter Tryz.func142, Tryz.ntmps142
      go_wp2_with fail
      refine (hasPrefix_any _ _ _ hs root_len).mono ?_
      rintro e x ⟨rfl, hx⟩
      subst x
      rw [HP.out]
      go_wp2_with fail
      go_loopw [4] (fun _ w' => ∃ pos : Nat, w' = w.iter s pos ∧ Hid (∀ j (h : j < s.size), j < pos → inP (s[j].toNat : Int) = true)) (fun _ w' => s.size - w'.iterPos w.heap.size)
      case atStart => exact ⟨0, rfl, fun j h hj => by omega⟩
      case round =>
        obtain ⟨pos, rfl, hall⟩ := hrel
        by_cases hp : pos < s.size
        · by_cases ha : (s[pos]'hp).toNat < 128
          · have hnx : ∀ ty, (Instr.next (.pointer (some ⟨w.heap.size, 0, none⟩)) true ty).run Tryz.prog (w.iter s pos) = _ := fun ty => run_next_ascii w s pos ty hp ha
            cases hin : inP (s[pos].toNat : Int)
            · have HN := hide (isP_not hp hin)
              have HI := hide hin
              clear hin
              go_wp2_with fail
              refine (inPath_any _ _).mono ?_
              rintro e x ⟨rfl, hx⟩
              subst x
              rw [HI.out]
              go_wp2_with fail
              go_ret
              exact ⟨ret_bool HN.out.symm, (Below.refl _ _).alloc (Nat.le_refl _) _⟩
            · have HI := hide hin
              clear hin
              go_wp2_with fail
              refine (inPath_any _ _).mono ?_
              rintro e x ⟨rfl, hx⟩
              subst x
              rw [HI.out]
              go_wp2_with fail
              refine ⟨⟨pos + 1, rfl, fun j h hj => ?_⟩, ?_⟩
              · by_cases e : j = pos
                · subst e; exact HI.out
                · exact hall.out j h (by omega)
              · simp; omega
          · have hnx : ∀ ty, (Instr.next (.pointer (some ⟨w.heap.size, 0, none⟩)) true ty).run Tryz.prog (w.iter s pos) = _ := fun ty => run_next_any w s pos ty hp
            have HN := hide (isP_not hp (high_out' s pos hp ha))
            have HI := hide (high_out s pos hp ha)
            go_wp2_with fail
            refine (inPath_any _ _).mono ?_
            rintro e x ⟨rfl, hx⟩
            subst x
            rw [HI.out]
            go_wp2_with fail
            go_ret
            exact ⟨ret_bool HN.out.symm, (Below.refl _ _).alloc (Nat.le_refl _) _⟩
        · have hnx : ∀ ty, (Instr.next (.pointer (some ⟨w.heap.size, 0, none⟩)) true ty).run Tryz.prog (w.iter s pos) = _ := fun ty => run_next_end w s pos ty hp
          have HY := hide (HX.out (fun j h => hall.out j h (by omega)))
          go_wp2_with fail
          go_ret
          exact ⟨ret_bool HY.out.symm, (Below.refl _ _).alloc (Nat.le_refl _) _⟩

end Go.Proofs.YtphinklnbjpohaaGreatDoor
namespace Go.Proofs.YtphinklnbjpohaaGreatDoor
set_option maxRecDepth 20000
open Go Go.RowKit Go.Shelf

theorem list_beq {a b : ByteArray} : (a.toList == b.toList) = (a.data.toList == b.data.toList) := by rw [Lib.toList_data, Lib.toList_data]
theorem list_root {a : ByteArray} : (a.toList == [47]) = (a.data.toList == [47]) := by rw [Lib.toList_data]
theorem list_none {a : ByteArray} : a.toList.isEmpty = a.data.toList.isEmpty := by rw [Lib.toList_data]
theorem isP_len {s : ByteArray} (h : isP s.data.toList = true) : s.size ≤ 60 := by
  have := (isP_iff.1 h).1
  rwa [Array.length_toList] at this
theorem may_isP {k : Int} {s : List UInt8} (h : mayP k s = true) : isP s = true := by
  unfold mayP at h
  split at h
  · exact h
  · split at h
    · exact abv_isP h
    · cases h

set_option maxHeartbeats 800000 in
theorem mayBegin_any (s : ByteArray) (w : World) (hs : s.size ≤ maxLen) :
    Calls Tryz.prog 152 #[.string s] w fun e w' => e = .returned (.bool (abv s.data.toList)) ∧ Below w.heap.size w w' := by
  cases hp : isP s.data.toList
  · have HA : Hid (abv s.data.toList = false) := by unfold Hid abv; rw [hp]; rfl
    have HP := hide hp
    clear hp
    go_enter Tryz.func152, Tryz.ntmps152
    go_wp2_with fail
    refine (isPath_any _ _ hs).mono ?_
    rintro e w1 ⟨rfl, hb1⟩
    rw [HP.out]
    go_wp2_with fail
    go_ret
    exact ⟨ret_bool HA.out.symm, hb1⟩
  · have HP := hide hp
    cases hr : (s.toList == [47])
    · have HA : Hid (abv s.data.toList = !Lib.hasSuffix s.data.toList (⟨#[47]⟩ : ByteArray).data.toList) := by
        unfold Hid abv
        rw [hp, ← list_root, hr]; rfl
      clear hp
      go_enter Tryz.func152, Tryz.ntmps152
      go_wp2_with fail
      refine (isPath_any _ _ hs).mono ?_
      rintro e w1 ⟨rfl, hb1⟩
      rw [HP.out]
      go_wp2_with fail
      refine (hasSuffix_any _ _ _ hs root_len).mono ?_
      rintro e x ⟨rfl, hx⟩
      subst x
      go_wp2_with fail
      go_ret
      exact ⟨ret_bool HA.out.symm, hb1⟩
    · have HA : Hid (abv s.data.toList = true) := by
        unfold Hid abv
        rw [hp, ← list_root, hr]; rfl
      clear hp
      go_enter Tryz.func152, Tryz.ntmps152
      go_wp2_with fail
      refine (isPath_any _ _ hs).mono ?_
      rintro e w1 ⟨rfl, hb1⟩
      rw [HP.out]
      go_wp2_with fail
      go_ret
      exact ⟨ret_bool HA.out.symm, hb1⟩

set_option maxHeartbeats 800000 in
theorem may_any (k : Int) (s : ByteArray) (w : World) (hs : s.size ≤ maxLen) :
    Calls Tryz.prog 141 #[.agg #[.int .i64 k, .string s]] w fun e w' => e = .returned (.bool (mayP k s.data.toList)) ∧ Below w.heap.size w w' := by
  cases h1 : (k == 1)
  · cases h2 : (k == 2)
    · have HM : Hid (mayP k s.data.toList = false) := by
        unfold Hid mayP
        rw [if_neg (beq_eq_false_iff_ne.1 h1), if_neg (beq_eq_false_iff_ne.1 h2)]
      go_enter Tryz.func141, Tryz.ntmps141
      go_wp2_with fail
      go_ret
      exact ⟨ret_bool HM.out.symm, (Below.refl _ _).alloc (Nat.le_refl _) _⟩
    · have HM : Hid (mayP k s.data.toList = abv s.data.toList) := by
        unfold Hid mayP
        rw [if_neg (beq_eq_false_iff_ne.1 h1), if_pos (eq_of_beq h2)]
      go_enter Tryz.func141, Tryz.ntmps141
      go_wp2_with fail
      refine (mayBegin_any _ _ hs).mono ?_
      rintro e w1 ⟨rfl, hb1⟩
      go_wp2_with fail
      go_ret
      exact ⟨ret_bool HM.out.symm, below_box hb1⟩
  · have HM : Hid (mayP k s.data.toList = isP s.data.toList) := by
      unfold Hid mayP
      rw [if_pos (eq_of_beq h1)]
    go_enter Tryz.func141, Tryz.ntmps141
    go_wp2_with fail
    refine (isPath_any _ _ hs).mono ?_
    rintro e w1 ⟨rfl, hb1⟩
    go_wp2_with fail
    go_ret
    exact ⟨ret_bool HM.out.symm, below_box hb1⟩

set_option maxHeartbeats 1600000 in
theorem pholds_any (k : Int) (v s : ByteArray) (w : World) (hv : v.size ≤ maxLen) (hs : s.size ≤ maxLen) :
    Calls Tryz.prog 97 #[.agg #[.int .i64 k, .string v], .string s] w fun e w' => e = .returned (.bool (holdP k v.data.toList s.data.toList)) ∧ Below w.heap.size w w' := by
  cases hm : mayP k v.data.toList
  · have HH : Hid (holdP k v.data.toList s.data.toList = false) := by unfold Hid holdP; rw [hm]; rfl
    have HM := hide hm
    clear hm
    go_enter Tryz.func97, Tryz.ntmps97
    go_wp2_with fail
    refine (may_any _ _ _ hv).mono ?_
    rintro e w1 ⟨rfl, hb1⟩
    rw [HM.out]
    go_wp2_with fail
    go_ret
    exact ⟨ret_bool HH.out.symm, below_box hb1⟩
  · have HM := hide hm
    have hvl := isP_len (may_isP hm)
    cases hp : isP s.data.toList
    · have HH : Hid (holdP k v.data.toList s.data.toList = false) := by unfold Hid holdP; rw [hm, hp]; rfl
      have HP := hide hp
      clear hm hp
      go_enter Tryz.func97, Tryz.ntmps97
      go_wp2_with fail
      refine (may_any _ _ _ hv).mono ?_
      rintro e w1 ⟨rfl, hb1⟩
      rw [HM.out]
      go_wp2_with fail
      refine (isPath_any _ _ hs).mono ?_
      rintro e w2 ⟨rfl, hb2⟩
      rw [HP.out]
      go_wp2_with fail
      go_ret
      exact ⟨ret_bool HH.out.symm, below_box (hb1.trans (hb2.mono hb1.size))⟩
    · have HP := hide hp
      cases h1 : (k == 1)
      · cases he : (s.toList == v.toList)
        · cases hr : (v.toList == [47])
          · have HH : Hid (holdP k v.data.toList s.data.toList = Lib.hasPrefix s.data.toList (v ++ ⟨#[47]⟩ : ByteArray).data.toList) := by
              unfold Hid holdP und
              rw [hm, hp, if_neg (beq_eq_false_iff_ne.1 h1), ← list_beq, he, ← list_root, hr, app_data]; rfl
            have hvl' : (v ++ ⟨#[47]⟩ : ByteArray).size ≤ maxLen := small_len (by rw [ByteArray.size_append]; exact Nat.le_trans (Nat.add_le_add_right hvl _) (by decide))
            clear hm hp
            go_enter Tryz.func97, Tryz.ntmps97
            go_wp2_with fail
            refine (may_any _ _ _ hv).mono ?_
            rintro e w1 ⟨rfl, hb1⟩
            rw [HM.out]
            go_wp2_with fail
            refine (isPath_any _ _ hs).mono ?_
            rintro e w2 ⟨rfl, hb2⟩
            rw [HP.out]
            have bb := hb1.trans (hb2.mono hb1.size)
            have c0 := box_fst bb
            have c1 := box_snd bb
            go_wp2_with fail
            refine (hasPrefix_any _ _ _ hs hvl').mono ?_
            rintro e x ⟨rfl, hx⟩
            subst x
            go_wp2_with fail
            go_ret
            exact ⟨ret_bool HH.out.symm, below_box bb⟩
          · have HH : Hid (holdP k v.data.toList s.data.toList = true) := by
              unfold Hid holdP und
              rw [hm, hp, if_neg (beq_eq_false_iff_ne.1 h1), ← list_beq, he, ← list_root, hr]; rfl
            clear hm hp
            go_enter Tryz.func97, Tryz.ntmps97
            go_wp2_with fail
            refine (may_any _ _ _ hv).mono ?_
            rintro e w1 ⟨rfl, hb1⟩
            rw [HM.out]
            go_wp2_with fail
            refine (isPath_any _ _ hs).mono ?_
            rintro e w2 ⟨rfl, hb2⟩
            rw [HP.out]
            have bb := hb1.trans (hb2.mono hb1.size)
            have c0 := box_fst bb
            have c1 := box_snd bb
            go_wp2_with fail
            go_ret
            exact ⟨ret_bool HH.out.symm, below_box bb⟩
        · have HH : Hid (holdP k v.data.toList s.data.toList = true) := by
            unfold Hid holdP und
            rw [hm, hp, if_neg (beq_eq_false_iff_ne.1 h1), ← list_beq, he]; rfl
          clear hm hp
          go_enter Tryz.func97, Tryz.ntmps97
          go_wp2_with fail
          refine (may_any _ _ _ hv).mono ?_
          rintro e w1 ⟨rfl, hb1⟩
          rw [HM.out]
          go_wp2_with fail
          refine (isPath_any _ _ hs).mono ?_
          rintro e w2 ⟨rfl, hb2⟩
          rw [HP.out]
          have bb := hb1.trans (hb2.mono hb1.size)
          have c0 := box_fst bb
          have c1 := box_snd bb
          go_wp2_with fail
          go_ret
          exact ⟨ret_bool HH.out.symm, below_box bb⟩
      · have HH : Hid (holdP k v.data.toList s.data.toList = (s.toList == v.toList)) := by
          unfold Hid holdP
          rw [hm, hp, if_pos (eq_of_beq h1), list_beq]; rfl
        clear hm hp
        go_enter Tryz.func97, Tryz.ntmps97
        go_wp2_with fail
        refine (may_any _ _ _ hv).mono ?_
        rintro e w1 ⟨rfl, hb1⟩
        rw [HM.out]
        go_wp2_with fail
        refine (isPath_any _ _ hs).mono ?_
        rintro e w2 ⟨rfl, hb2⟩
        rw [HP.out]
        have bb := hb1.trans (hb2.mono hb1.size)
        have c0 := box_fst bb
        have c1 := box_snd bb
        go_wp2_with fail
        go_ret
        exact ⟨ret_bool HH.out.symm, below_box bb⟩

end Go.Proofs.YtphinklnbjpohaaGreatDoor
namespace Go.Proofs.YtphinklnbjpohaaGreatDoor
set_option maxRecDepth 20000
open Go Go.RowKit Go.Shelf

/-- the first of three that is not 0 -/
def or3 (x y z : Int) : Int := orI x (orI y z)

set_option maxHeartbeats 800000 in
theorem cmpOr3_any (x y z : Int) (g : Nat) (w : World) (h0 : w.cell? ⟨g, 0, none⟩ = some (.int .i64 x)) (h1 : w.cell? ⟨g, 1, none⟩ = some (.int .i64 y)) (h2 : w.cell? ⟨g, 2, none⟩ = some (.int .i64 z)) :
    Calls Tryz.prog 93 #[.slice (some ⟨g, 0, none⟩) 3 3] w fun e w' => e = .returned (.int .i64 (or3 x y z)) ∧ w' = w := by
  go_enter Tryz.func93, Tryz.ntmps93
  go_wp2
  go_loop [8] (fun i => ∃ k : Nat, k ≤ 3 ∧ i = .int .i64 k ∧ (1 ≤ k → Hid (x = 0)) ∧ (2 ≤ k → Hid (y = 0)) ∧ (3 ≤ k → Hid (z = 0))) (fun i => 3 - (intOf i).toNat)
  case atStart => exact ⟨0, by omega, rfl, fun h => absurd h (by omega), fun h => absurd h (by omega), fun h => absurd h (by omega)⟩
  case round =>
    obtain ⟨k, hk, rfl, hx, hy, hz⟩ := hrel
    rcases k with _ | _ | _ | k
    · clear hx hy hz
      cases hq : (x != 0)
      · have HX : Hid (x = 0) := by simpa [Hid] using hq
        go_wp2
        go_round
        case rel => exact ⟨1, by omega, rfl, fun _ => HX, fun h => absurd h (by omega), fun h => absurd h (by omega)⟩
        case measure => simp [intOf]
      · have HX : Hid (or3 x y z = x) := by
          have : x ≠ 0 := by simpa using hq
          simp [Hid, or3, orI, this]
        go_wp2
        go_ret
        exact ⟨ret_int HX.out.symm, rfl⟩
    · have HX0 := hx (by omega)
      clear hx hy hz
      cases hq : (y != 0)
      · have HX : Hid (y = 0) := by simpa [Hid] using hq
        go_wp2
        go_round
        case rel => exact ⟨2, by omega, rfl, fun _ => HX0, fun _ => HX, fun h => absurd h (by omega)⟩
        case measure => simp [intOf]
      · have HX : Hid (or3 x y z = y) := by
          have : y ≠ 0 := by simpa using hq
          simp [Hid, or3, orI, HX0.out, this]
        go_wp2
        go_ret
        exact ⟨ret_int HX.out.symm, rfl⟩
    · have HX0 := hx (by omega)
      have HX1 := hy (by omega)
      clear hx hy hz
      cases hq : (z != 0)
      · have HX : Hid (z = 0) := by simpa [Hid] using hq
        go_wp2
        go_round
        case rel => exact ⟨3, by omega, rfl, fun _ => HX0, fun _ => HX1, fun _ => HX⟩
        case measure => simp [intOf]
      · have HX : Hid (or3 x y z = z) := by simp [Hid, or3, orI, HX0.out, HX1.out]
        go_wp2
        go_ret
        exact ⟨ret_int HX.out.symm, rfl⟩
    · have hk0 : k = 0 := by omega
      subst hk0
      have HX : Hid (or3 x y z = 0) := by
        have a := (hx (by omega)).out
        have b := (hy (by omega)).out
        have c := (hz (by omega)).out
        simp [Hid, or3, orI, a, b, c]
      clear hx hy hz
      go_wp2
      go_ret
      exact ⟨ret_int HX.out.symm, rfl⟩

/-- cmp.Or of three that have just been laid -/
theorem or3_at (w2 : World) (o1 o2 : Obj) (x y z : Int) : Calls Tryz.prog 93 #[.slice (some ⟨w2.heap.size + 1 + 1, 0, none⟩) 3 3] (((w2.alloc o1).alloc o2).alloc (.cells #[.int .i64 x, .int .i64 y, .int .i64 z] 3)).drew
    fun e w' => e = .returned (.int .i64 (or3 x y z)) ∧ w' = (((w2.alloc o1).alloc o2).alloc (.cells #[.int .i64 x, .int .i64 y, .int .i64 z] 3)).drew := by
  have h := alloc_new ((w2.alloc o1).alloc o2) (.cells #[.int .i64 x, .int .i64 y, .int .i64 z] 3)
  simp only [World.size_alloc] at h
  have h' : (((w2.alloc o1).alloc o2).alloc (.cells #[.int .i64 x, .int .i64 y, .int .i64 z] 3)).drew.heap[w2.heap.size + 1 + 1]? = some (.cells #[.int .i64 x, .int .i64 y, .int .i64 z] 3) := h
  exact cmpOr3_any x y z _ _ (by simp only [World.cell?]; rw [h']; rfl) (by simp only [World.cell?]; rw [h']; rfl) (by simp only [World.cell?]; rw [h']; rfl)

set_option maxHeartbeats 800000 in
theorem pfew_any (k : Int) (s : ByteArray) (w : World) (hs : s.size ≤ maxLen) :
    Calls Tryz.prog 37 #[.agg #[.int .i64 k, .string s]] w fun e w' => e = .returned (.agg #[.int .i64 k, .string (fewB s)]) ∧ Below w.heap.size w w' := by
  go_enter Tryz.func37, Tryz.ntmps37
  go_wp2_with fail
  refine (fewB_any _ _ hs).mono ?_
  rintro e x ⟨rfl, hx⟩
  subst x
  go_wp2_with fail
  exact bodyPost_ret (v := .agg #[.int .i64 k, .string (fewB s)]) (by simp [results, Tryz.results37, go_sem]) rfl ⟨rfl, ((Below.refl _ _).alloc (Nat.le_refl _) _).alloc (by simp) _⟩

end Go.Proofs.YtphinklnbjpohaaGreatDoor
namespace Go.Proofs.YtphinklnbjpohaaGreatDoor
set_option maxRecDepth 20000
open Go Go.RowKit Go.Shelf

theorem mkB_eq {a : ByteArray} {l : List UInt8} (h : a.data.toList = l) : a = mkB l := by
  subst h
  simp [mkB]

set_option maxHeartbeats 800000 in
theorem tail_any (v s : ByteArray) (w : World) (_hs : s.size ≤ maxLen) (hle : v.data.toList ≠ [47] → v.size ≤ s.size) :
    Calls Tryz.prog 154 #[.string v, .string s] w fun e w' => e = .returned (.string (mkB (tailP v.data.toList s.data.toList))) ∧ w' = w := by
  cases hr : (v.toList == [47])
  · have hv : v.data.toList ≠ [47] := by rw [list_root] at hr; exact beq_eq_false_iff_ne.1 hr
    have hl := hle hv
    have HT : Hid (s.extract v.size s.size = mkB (tailP v.data.toList s.data.toList)) := by
      refine mkB_eq ?_
      rw [drop_data]
      unfold tailP
      rw [if_neg hv, size_len]
    clear hle hv
    go_enter Tryz.func154, Tryz.ntmps154
    go_wp2_with fail
    go_ret
    exact ⟨ret_str HT.out, rfl⟩
  · have hv : v.data.toList = [47] := by rw [list_root] at hr; exact eq_of_beq hr
    cases hq : (s.toList == [47])
    · have HT : Hid (s = mkB (tailP v.data.toList s.data.toList)) := by
        refine mkB_eq ?_
        unfold tailP
        rw [list_root] at hq
        rw [if_pos hv, if_neg (beq_eq_false_iff_ne.1 hq)]
      clear hv hle
      go_enter Tryz.func154, Tryz.ntmps154
      go_wp2_with fail
      go_ret
      exact ⟨ret_str HT.out, rfl⟩
    · have HT : Hid (⟨#[]⟩ = mkB (tailP v.data.toList s.data.toList)) := by
        refine mkB_eq ?_
        unfold tailP
        rw [list_root] at hq
        rw [if_pos hv, if_pos (eq_of_beq hq)]
      clear hv hle
      go_enter Tryz.func154, Tryz.ntmps154
      go_wp2_with fail
      go_ret
      exact ⟨ret_str HT.out, rfl⟩

set_option maxHeartbeats 800000 in
theorem join_any (b t : ByteArray) (w : World) (hb : b.size ≤ 1000) (ht : t.size ≤ 1000) :
    Calls Tryz.prog 153 #[.string b, .string t] w fun e w' => e = .returned (.string (mkB (joinP b.data.toList t.data.toList))) ∧ w' = w := by
  cases hr : (b.toList == [47])
  · have hv : b.data.toList ≠ [47] := by rw [list_root] at hr; exact beq_eq_false_iff_ne.1 hr
    have HT : Hid (b ++ t = mkB (joinP b.data.toList t.data.toList)) := by
      refine mkB_eq ?_
      rw [app_data]
      unfold joinP
      rw [if_neg hv]
    clear hv
    go_enter Tryz.func153, Tryz.ntmps153
    go_wp2_with fail
    go_ret
    exact ⟨ret_str HT.out, rfl⟩
  · have hv : b.data.toList = [47] := by rw [list_root] at hr; exact eq_of_beq hr
    cases hq : t.toList.isEmpty
    · have HT : Hid (t = mkB (joinP b.data.toList t.data.toList)) := by
        refine mkB_eq ?_
        unfold joinP
        rw [list_none] at hq
        rw [if_pos hv, if_neg (fun e => by rw [e] at hq; cases hq)]
      clear hv
      go_enter Tryz.func153, Tryz.ntmps153
      go_wp2_with fail
      go_ret
      exact ⟨ret_str HT.out, rfl⟩
    · have HT : Hid (⟨#[47]⟩ = mkB (joinP b.data.toList t.data.toList)) := by
        refine mkB_eq ?_
        unfold joinP
        rw [list_none] at hq
        rw [if_pos hv, if_pos (List.isEmpty_iff.1 hq)]
      clear hv
      go_enter Tryz.func153, Tryz.ntmps153
      go_wp2_with fail
      go_ret
      exact ⟨ret_str HT.out, rfl⟩

theorem tail_le (v s : List UInt8) : (tailP v s).length ≤ s.length := by
  unfold tailP
  split
  · split <;> simp
  · simp

theorem ret_two {a b : ByteArray} {x y : Int} (h : a = b) (k : x = y) : Ending.returned (.tuple #[.string a, .int .i64 x]) = .returned (.tuple #[.string b, .int .i64 y]) := by rw [h, k]

theorem swap_arg {k : Int} {v b s : List UInt8} (h : okSw k v b s = false) : Hid (⟨#[]⟩ = mkB (swapT k v b s)) ∧ Hid (1 = swapE k v b s) := by
  unfold swapT swapE Hid
  rw [h]
  exact ⟨rfl, rfl⟩
theorem swap_large {k : Int} {v b s : List UInt8} (h : okSw k v b s = true) (hl : 60 < (joinP b (tailP v s)).length) : Hid (⟨#[]⟩ = mkB (swapT k v b s)) ∧ Hid (5 = swapE k v b s) := by
  unfold swapT swapE Hid
  rw [h, if_pos hl, if_pos hl]
  exact ⟨rfl, rfl⟩
theorem swap_fine {k : Int} {v b s : List UInt8} (h : okSw k v b s = true) (hl : ¬ 60 < (joinP b (tailP v s)).length) : Hid (mkB (joinP b (tailP v s)) = mkB (swapT k v b s)) ∧ Hid (0 = swapE k v b s) := by
  unfold swapT swapE Hid
  rw [h, if_neg hl, if_neg hl]
  exact ⟨rfl, rfl⟩

set_option maxHeartbeats 1600000 in
theorem pswap_any (k : Int) (v b s : ByteArray) (w : World) (hv : v.size ≤ maxLen) (hb : b.size ≤ maxLen) (hs : s.size ≤ maxLen) :
    Calls Tryz.prog 108 #[.agg #[.int .i64 k, .string v], .string b, .string s] w fun e w' => e = .returned (.tuple #[.string (mkB (swapT k v.data.toList b.data.toList s.data.toList)), .int .i64 (swapE k v.data.toList b.data.toList s.data.toList)]) ∧ Below w.heap.size w w' := by
  cases h2 : (k == 2)
  · have ⟨HT, HE⟩ := swap_arg (k := k) (v := v.data.toList) (b := b.data.toList) (s := s.data.toList) (by unfold okSw; rw [decide_eq_false (beq_eq_false_iff_ne.1 h2)]; rfl)
    have h2' : (k != 2) = true := by simp [bne, h2]
    go_enter Tryz.func108, Tryz.ntmps108
    go_wp2_with fail
    go_ret2
    exact ⟨ret_two HT.out HE.out, (Below.refl _ _).alloc (Nat.le_refl _) _⟩
  · have hk : k = 2 := eq_of_beq h2
    subst hk
    clear h2
    cases hh : holdP 2 v.data.toList s.data.toList
    · have ⟨HT, HE⟩ := swap_arg (k := 2) (v := v.data.toList) (b := b.data.toList) (s := s.data.toList) (by unfold okSw; rw [hh]; rfl)
      have HH := hide hh
      clear hh
      go_enter Tryz.func108, Tryz.ntmps108
      go_wp2_with fail
      refine (pholds_any _ _ _ _ hv hs).mono ?_
      rintro e w1 ⟨rfl, hb1⟩
      rw [HH.out]
      go_wp2_with fail
      go_ret2
      exact ⟨ret_two HT.out HE.out, below_box hb1⟩
    · cases ha : abv b.data.toList
      · have ⟨HT, HE⟩ := swap_arg (k := 2) (v := v.data.toList) (b := b.data.toList) (s := s.data.toList) (by unfold okSw; rw [hh, ha]; rfl)
        have HH := hide hh
        have HA := hide ha
        clear hh ha
        go_enter Tryz.func108, Tryz.ntmps108
        go_wp2_with fail
        refine (pholds_any _ _ _ _ hv hs).mono ?_
        rintro e w1 ⟨rfl, hb1⟩
        rw [HH.out]
        go_wp2_with fail
        refine (mayBegin_any _ _ hb).mono ?_
        rintro e w2 ⟨rfl, hb2⟩
        rw [HA.out]
        go_wp2_with fail
        go_ret2
        exact ⟨ret_two HT.out HE.out, below_box (hb1.trans (hb2.mono hb1.size))⟩
      · have hok : okSw 2 v.data.toList b.data.toList s.data.toList = true := okSw_iff.2 ⟨hh, ha⟩
        have h2i := hold2_iff.1 hh
        have hsl := isP_len h2i.2.1
        have hbl := isP_len (abv_isP ha)
        have hpre : v.data.toList ≠ [47] → v.size ≤ s.size := fun _ => by
          have := (und_pre h2i.2.1 h2i.2.2).length_le
          rwa [size_len, size_len] at this
        have htl : (mkB (tailP v.data.toList s.data.toList)).size ≤ 1000 := by
          rw [mkB_size]
          have := tail_le v.data.toList s.data.toList
          rw [size_len] at this
          omega
        have HPre := hide hpre
        have HH := hide hh
        have HA := hide ha
        by_cases hl : 60 < (joinP b.data.toList (tailP v.data.toList s.data.toList)).length
        · have ⟨HT, HE⟩ := swap_large hok hl
          have HL : decide ((60 : Int) < ((mkB (joinP b.data.toList (tailP v.data.toList s.data.toList))).size : Int)) = true := by rw [mkB_size]; exact decide_eq_true (by omega)
          clear hh ha hok h2i hpre hl
          go_enter Tryz.func108, Tryz.ntmps108
          go_wp2_with fail
          refine (pholds_any _ _ _ _ hv hs).mono ?_
          rintro e w1 ⟨rfl, hb1⟩
          rw [HH.out]
          go_wp2_with fail
          refine (mayBegin_any _ _ hb).mono ?_
          rintro e w2 ⟨rfl, hb2⟩
          rw [HA.out]
          have bb := hb1.trans (hb2.mono hb1.size)
          have c0 := box_fst bb
          have c1 := box_snd bb
          go_wp2_with fail
          refine (tail_any _ _ _ hs HPre.out).mono ?_
          rintro e x ⟨rfl, hx⟩
          subst x
          go_wp2_with fail
          refine (join_any _ _ _ (by omega) htl).mono ?_
          rintro e x ⟨rfl, hx⟩
          subst x
          rw [mkB_data]
          go_wp2_with fail
          go_ret2
          exact ⟨ret_two HT.out HE.out, below_box bb⟩
        · have ⟨HT, HE⟩ := swap_fine hok hl
          have HL : decide ((60 : Int) < ((mkB (joinP b.data.toList (tailP v.data.toList s.data.toList))).size : Int)) = false := by rw [mkB_size]; exact decide_eq_false (by omega)
          clear hh ha hok h2i hpre hl
          go_enter Tryz.func108, Tryz.ntmps108
          go_wp2_with fail
          refine (pholds_any _ _ _ _ hv hs).mono ?_
          rintro e w1 ⟨rfl, hb1⟩
          rw [HH.out]
          go_wp2_with fail
          refine (mayBegin_any _ _ hb).mono ?_
          rintro e w2 ⟨rfl, hb2⟩
          rw [HA.out]
          have bb := hb1.trans (hb2.mono hb1.size)
          have c0 := box_fst bb
          have c1 := box_snd bb
          go_wp2_with fail
          refine (tail_any _ _ _ hs HPre.out).mono ?_
          rintro e x ⟨rfl, hx⟩
          subst x
          go_wp2_with fail
          refine (join_any _ _ _ (by omega) htl).mono ?_
          rintro e x ⟨rfl, hx⟩
          subst x
          rw [mkB_data]
          go_wp2_with fail
          go_ret2
          exact ⟨ret_two HT.out HE.out, below_box bb⟩

end Go.Proofs.YtphinklnbjpohaaGreatDoor
