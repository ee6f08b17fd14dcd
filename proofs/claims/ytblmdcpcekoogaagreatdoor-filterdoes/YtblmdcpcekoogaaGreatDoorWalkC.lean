/-
  The iterator that strings.SplitSeq hands back, at a separator of one octet: its contract.
-/
import Derived.Test.YtblmdcpcekoogaaGreatDoorSeq
import Derived.Test.YtblmdcpcekoogaaGreatDoorWalkB
import Derived.Shelf.Abstract
import Derived.Shelf.RegionOpen
import Derived.OwnWalkIn
import Derived.TacticsInMore
import Derived.LoopNIn
import Derived.LoopIn
import Derived.Lib.IndexBytes
namespace Go.Proofs.YtblmdcpcekoogaaGreatDoor
set_option maxRecDepth 20000
open Go Go.RowKit Go.Shelf

attribute [local go_sem] Oper.semAt_some

theorem wide_depth {n : Nat} : Fence.wide.depth.isSome = true → 1 ≤ n := fun h => by simp [Fence.wide] at h

/-- the parts, as texts -/
def parts (c : UInt8) (s : ByteArray) : List ByteArray := (D.spl c s.data.toList).map fun l => ⟨l.toArray⟩

theorem parts_len (c : UInt8) (s : ByteArray) : (parts c s).length = (D.spl c s.data.toList).length := by simp [parts]

/-- the length of the text that a cell holds -/
def cellLen (W : World) (B : Nat) : Nat := match W.cell? ⟨B, 0, none⟩ with | some (.string s) => s.size | _ => 0
theorem cellLen_eq {W : World} {B : Nat} {s : ByteArray} (h : W.cell? ⟨B, 0, none⟩ = some (.string s)) : cellLen W B = s.size := by simp [cellLen, h]

theorem part_head {c : UInt8} {s : ByteArray} {k : Nat} {p : List UInt8} {rest : List (List UInt8)} (h : (D.spl c s.data.toList).drop k = p :: rest) :
    ∃ hk : k < (parts c s).length, (parts c s)[k] = ⟨p.toArray⟩ := by
  have hk : k < (D.spl c s.data.toList).length := by
    rcases Nat.lt_or_ge k (D.spl c s.data.toList).length with h' | h'
    · exact h'
    · rw [List.drop_eq_nil_of_le h'] at h; cases h
  refine ⟨by rw [parts_len]; exact hk, ?_⟩
  rw [List.drop_eq_getElem_cons hk] at h
  simp [parts, (List.cons.inj h).1]
theorem part_rest {c : UInt8} {s : ByteArray} {k : Nat} {p : List UInt8} {rest : List (List UInt8)} (h : (D.spl c s.data.toList).drop k = p :: rest) :
    (D.spl c s.data.toList).drop (k + 1) = rest := by
  rw [← List.drop_drop, h]; rfl
theorem part_last {c : UInt8} {s : ByteArray} {k : Nat} {p : List UInt8} (h : (D.spl c s.data.toList).drop k = [p]) : (parts c s).length = k + 1 := by
  rw [parts_len]
  have := congrArg List.length h
  simp at this
  omega

set_option maxRecDepth 100000 in
set_option maxHeartbeats 400000 in
theorem seq_steps (n : Nat) (B : Nat) (c : UInt8) (s : ByteArray) (w : World) (hs : s.size ≤ maxLen) (hB : B + 2 < w.heap.size)
    (h0 : w.cell? ⟨B, 0, none⟩ = some (.string s)) (f0 : w.frozen? ⟨B, 0, none⟩ = false)
    (h1 : w.cell? ⟨B + 1, 0, none⟩ = some (.string ⟨#[c]⟩)) (h2 : w.cell? ⟨B + 2, 0, none⟩ = some (.int .i64 0)) :
    SeqSteps Fence.wide n Tryz.prog 248 #[.pointer (some ⟨B + 1, 0, none⟩), .pointer (some ⟨B, 0, none⟩), .pointer (some ⟨B + 2, 0, none⟩)] (parts c s) B B (B + 3) w := by
  intro l J Jx W hW hJ hJx hY hJ0
  unfold maxLen at hs
  have g0 : W.cell? ⟨B, 0, none⟩ = some (.string s) := (hW.cell (p := ⟨B, 0, none⟩) (by show B < _; omega)).trans h0
  have gf : W.frozen? ⟨B, 0, none⟩ = false := (hW.frozen (p := ⟨B, 0, none⟩) (by show B < _; omega)).trans f0
  have g1 : W.cell? ⟨B + 1, 0, none⟩ = some (.string ⟨#[c]⟩) := (hW.cell (p := ⟨B + 1, 0, none⟩) (by show B + 1 < _; omega)).trans h1
  have g2 : W.cell? ⟨B + 2, 0, none⟩ = some (.int .i64 0) := (hW.cell (p := ⟨B + 2, 0, none⟩) (by show B + 2 < _; omega)).trans h2
  clear h0 f0 h1 h2
  have HY := hide hY
  clear hY
  have HJ := hide hJ
  have HJx := hide hJx
  clear hJ hJx
  refine callsIn_of_wp Tryz.func248 rfl trivial ?_ rfl
  simp only [Tryz.ntmps248, List.size_toArray, List.length_cons, List.length_nil, Nat.reduceAdd, Nat.reduceSub, Array.replicate_succ, Array.replicate_zero, List.push_toArray, List.append_toArray, List.nil_append, List.cons_append]
  gi_wp2
  gi_loopw [7] (fun _ wr => ∃ (k : Nat) (r : ByteArray), r.size ≤ s.size ∧ Hid ((D.spl c s.data.toList).drop k = D.spl c r.data.toList) ∧ J k wr ∧ wr.cell? ⟨B, 0, none⟩ = some (.string r) ∧ wr.frozen? ⟨B, 0, none⟩ = false ∧ wr.cell? ⟨B + 1, 0, none⟩ = some (.string ⟨#[c]⟩) ∧ wr.cell? ⟨B + 2, 0, none⟩ = some (.int .i64 0))
    (fun _ wr => cellLen wr B)
  case atStart =>
    exact ⟨0, s, Nat.le_refl _, by simp [Hid], hJ0, g0, gf, g1, g2⟩
  case round =>
    clear g0 gf g1 g2 hJ0
    obtain ⟨k, r, hr, hd, hJk, g0, gf, g1, g2⟩ := hrel
    have hrs : r.size ≤ 9223372036854775807 := by omega
    rcases idx_cases c r.data.toList with ⟨hi, hno⟩ | ⟨i, hil, hi, hcut, hno⟩
    · have hd1 : (D.spl c s.data.toList).drop k = [r.data.toList] := hd.out.trans (spl_idx_none hno)
      obtain ⟨hk, hx⟩ := part_head hd1
      have hlast := hide (part_last hd1)
      rw [Lib.mk_data] at hx
      obtain ⟨fn, tmps, assign, body, hy, hR⟩ := HY.out k wr hk hJk
      rw [hx] at hy
      have HI := hide hi
      clear hi hno hd1 hx
      gi_wp2_with fail
      refine ⟨trivial, wide_depth, ?_⟩
      refine (callsIn_wide.2 (index_any _ _ _)).mono ?_
      rintro e w' ⟨rfl, rfl⟩
      rw [HI.out]
      gi_wp2
      refine ⟨wide_depth, hR.mono ?_⟩
      rintro e W3 (⟨rfl, hJ3, hk3⟩ | ⟨rfl, hJx3⟩)
      · gi_wp2
        go_end0
        exact ⟨⟨_, rfl⟩, .inl (by rw [hlast.out]; exact hJ3)⟩
      · gi_wp2
        go_end0
        exact ⟨⟨_, rfl⟩, .inr ⟨k, hk, hJx3⟩⟩
    · have hil' : i < r.size := by simpa using hil
      have hd1 : (D.spl c s.data.toList).drop k = r.data.toList.take i :: D.spl c (r.data.toList.drop (i + 1)) := hd.out.trans (spl_idx_some hcut hno)
      obtain ⟨hk, hx⟩ := part_head hd1
      have hrest := hide (part_rest hd1)
      have hfr : r.extract 0 i = ⟨(r.data.toList.take i).toArray⟩ := by rw [Lib.extract_eq]; simp
      have hto : (r.extract (i + 1) r.size).data.toList = r.data.toList.drop (i + 1) := Lib.extract_to_end r (i + 1)
      rw [← hfr] at hx
      obtain ⟨fn, tmps, assign, body, hy, hR⟩ := HY.out k wr hk hJk
      rw [hx] at hy
      have HI := hide hi
      have HT := hide hto
      clear hi hno hcut hil hd1 hx hfr hto
      gi_wp2_with fail
      refine ⟨trivial, wide_depth, ?_⟩
      refine (callsIn_wide.2 (index_any _ _ _)).mono ?_
      rintro e w' ⟨rfl, rfl⟩
      rw [HI.out]
      gi_wp2
      refine ⟨wide_depth, hR.mono ?_⟩
      rintro e W3 (⟨rfl, hJ3, hk3⟩ | ⟨rfl, hJx3⟩)
      · have e0 := (hk3.cell (o := 0) (Nat.le_refl B) (by omega)).trans g0
        have ef := (hk3.frozen (o := 0) (Nat.le_refl B) (by omega)).trans gf
        have e1 := (hk3.cell (b := B + 1) (o := 0) (by omega) (by omega)).trans g1
        have e2 := (hk3.cell (b := B + 2) (o := 0) (by omega) (by omega)).trans g2
        gi_wp2
        have hsz : (r.extract (i + 1) r.size).size = r.size - (i + 1) := by simp
        have c0 : (W3.setCell ⟨B, 0, none⟩ (.string (r.extract (i + 1) r.size))).cell? ⟨B, 0, none⟩ = some (.string (r.extract (i + 1) r.size)) := World.cell?_setCell_same' _ _ _ (by rw [e0]; rfl)
        refine ⟨⟨k + 1, r.extract (i + 1) r.size, by omega, ?_, HJ.out _ _ _ hJ3, c0, by rw [World.frozen?_setCell]; exact ef, ?_, ?_⟩, ?_⟩
        · unfold Hid
          rw [HT.out]
          exact hrest.out
        · exact (World.cell?_of_block (w := W3) (Below.heap_setCell W3 ⟨B, 0, none⟩ _ (B + 1) (by show _ ≠ B; omega))).trans e1
        · exact (World.cell?_of_block (w := W3) (Below.heap_setCell W3 ⟨B, 0, none⟩ _ (B + 2) (by show _ ≠ B; omega))).trans e2
        · rw [cellLen_eq c0, cellLen_eq g0]; omega
      · gi_wp2
        refine bodyPost_ret (results_none rfl _ _ _) rfl ?_
        exact ⟨⟨_, rfl⟩, .inr ⟨k, hk, hJx3⟩⟩

end Go.Proofs.YtblmdcpcekoogaaGreatDoor
