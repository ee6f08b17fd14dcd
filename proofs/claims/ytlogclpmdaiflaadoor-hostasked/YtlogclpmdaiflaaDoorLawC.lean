/-
  The law DnsLabels: plain facts of parts, and its walk.
-/
import Derived.Test.YtlogclpmdaiflaaDoorLawB
namespace Go.Proofs.YtlogclpmdaiflaaDoor
open Go Go.RowKit Go.Shelf

/-- the parts with a dot between each two -/
def jn : List (List UInt8) → List UInt8
  | [] => []
  | p :: ps => p ++ ps.flatMap (fun q => 46 :: q)

theorem jn_cons (p : List UInt8) {ps : List (List UInt8)} (h : ps ≠ []) : jn (p :: ps) = p ++ 46 :: jn ps := by
  cases ps with
  | nil => exact absurd rfl h
  | cons q qs => simp [jn]

theorem jn_spl (l : List UInt8) : jn (D.spl 46 l) = l := by
  induction l with
  | nil => simp [D.spl, jn]
  | cons a r ih =>
    have hne := D.spl_ne 46 r
    unfold D.spl
    split
    · rename_i h; rw [jn_cons _ hne, ih, h]; rfl
    · cases hs : D.spl 46 r with
      | nil => exact absurd hs hne
      | cons q t => rw [hs] at ih; simp [jn] at ih ⊢; exact ih

theorem jn_snoc {ps : List (List UInt8)} (p : List UInt8) (h : ps ≠ []) : jn (ps ++ [p]) = jn ps ++ 46 :: p := by
  cases ps with
  | nil => exact absurd rfl h
  | cons q qs => simp [jn]

theorem jn_take_succ {ps : List (List UInt8)} {k : Nat} (hk : k < ps.length) (h0 : 0 < k) : jn (ps.take (k + 1)) = jn (ps.take k) ++ 46 :: ps[k] := by
  rw [List.take_succ_eq_append_getElem hk, jn_snoc]
  intro h
  have := congrArg List.length h
  rw [List.length_take, List.length_nil] at this
  omega
theorem jn_take_one {ps : List (List UInt8)} (hk : 0 < ps.length) : jn (ps.take 1) = ps[0] := by
  rw [List.take_succ_eq_append_getElem hk]; simp [jn]

theorem jn_take_len (ps : List (List UInt8)) (k : Nat) : (jn (ps.take k)).length ≤ (jn ps).length := by
  cases ps with
  | nil => simp
  | cons p ps =>
    cases k with
    | zero => simp [jn]
    | succ k =>
      have h : ps.flatMap (fun q => 46 :: q) = (ps.take k).flatMap (fun q => 46 :: q) ++ (ps.drop k).flatMap (fun q => (46 : UInt8) :: q) := by
        rw [← List.flatMap_append, List.take_append_drop]
      simp only [List.take_succ_cons, jn, List.length_append, h]
      omega

theorem spl_append (a b : List UInt8) : D.spl 46 (a ++ 46 :: b) = D.spl 46 a ++ D.spl 46 b := by
  induction a with
  | nil => simp [D.spl]
  | cons x r ih =>
    have hne := D.spl_ne 46 r
    rw [List.cons_append]
    conv => lhs; unfold D.spl
    conv => rhs; lhs; unfold D.spl
    rw [ih]
    split
    · simp
    · cases hs : D.spl 46 r with
      | nil => exact absurd hs hne
      | cons q t => simp

theorem name_more {s m : List UInt8} (hs : D.isName s = true) : D.isName (s ++ 46 :: m) = (D.isName m && decide ((s ++ 46 :: m).length ≤ 60)) := by
  rw [Bool.eq_iff_iff, Bool.and_eq_true, decide_eq_true_eq, isName_iff, isName_iff, spl_append]
  have h := (isName_iff.1 hs).2
  constructor
  · rintro ⟨h1, h2⟩
    exact ⟨⟨by simp at h1; omega, fun p hp => h2 p (List.mem_append_right _ hp)⟩, h1⟩
  · rintro ⟨⟨_, h2⟩, h1⟩
    exact ⟨h1, fun p hp => (List.mem_append.1 hp).elim (h p) (h2 p)⟩

theorem part_data (c : UInt8) (s : ByteArray) {k : Nat} (hk : k < (parts c s).length) : (parts c s)[k].data.toList = (D.spl c s.data.toList)[k]'(by rw [← parts_len]; exact hk) := by
  simp [parts]

theorem part_label (s : ByteArray) (h : D.isName s.data.toList = true) {k : Nat} (hk : k < (parts 46 s).length) : D.isLabel (parts 46 s)[k].data.toList = true := by
  rw [part_data]
  exact (isName_iff.1 h).2 _ (List.getElem_mem _)

end Go.Proofs.YtlogclpmdaiflaaDoor
