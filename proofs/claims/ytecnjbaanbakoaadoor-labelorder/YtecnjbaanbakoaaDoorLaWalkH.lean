/-
  Walks: sameNeed, slices.EqualFunc, Same (of needs).
-/
import Derived.Test.YtecnjbaanbakoaaDoorLaWalkF
import Derived.Test.YtecnjbaanbakoaaDoorLaWalkE
namespace Go.Proofs.YtecnjbaanbakoaaDoor
open Go Go.RowKit Go.Shelf

set_option maxHeartbeats 800000 in
theorem sameNeed_any (x y : NV) (w : World) (hx : Sl ES w x.v x.n.vals) (hy : Sl ES w y.v y.n.vals) :
    Calls Tryd.prog 35 #[nV x, nV y] w fun e w' => e = .returned (.bool (La.sameN x.n y.n)) ∧ Below w.heap.size w w' := by
  have HQ := hide (fun W (h : Below w.heap.size w W) => sequal_any W x.v y.v x.n.vals y.n.vals (hx.below h) (hy.below h))
  obtain ⟨⟨k, nm, vs⟩, a, c⟩ := x
  obtain ⟨⟨k2, nm2, vs2⟩, a2, c2⟩ := y
  have HE : Hid (La.sameN ⟨k, nm, vs⟩ ⟨k2, nm2, vs2⟩ = (decide (k = k2) && decide (nm = nm2) && decide (vs = vs2))) := rfl
  clear hx hy
  dsimp only at *
  by_cases h1 : k = k2
  · subst h1
    cases h2 : (nm.toList == nm2.toList)
    · have : decide (nm = nm2) = false := decide_eq_false (fun e => by rw [e] at h2; simp at h2)
      rw [this] at HE
      clear this
      go_enter Tryd.func35, Tryd.ntmps35
      go_wp2_with fail
      go_ret
      exact ⟨ret_bool (by rw [HE.out]; simp), ((Below.refl _ _).alloc (Nat.le_refl _) _).alloc (by simp) _⟩
    · have : decide (nm = nm2) = true := decide_eq_true (bytes_eq h2)
      rw [this] at HE
      clear this
      go_enter Tryd.func35, Tryd.ntmps35
      go_wp2_with fail
      refine (HQ.out _ (((Below.refl _ _).alloc (Nat.le_refl _) _).alloc (by simp) _)).mono ?_
      rintro e w1 ⟨rfl, hb1⟩
      go_wp2_with fail
      go_ret
      exact ⟨ret_bool (by rw [HE.out]; simp), below_box (below_box hb1)⟩
  · have h1' : (k == k2) = false := by simpa using h1
    rw [decide_eq_false h1] at HE
    clear h1
    go_enter Tryd.func35, Tryd.ntmps35
    go_wp2_with fail
    go_ret
    exact ⟨ret_bool (by rw [HE.out]; rfl), ((Below.refl _ _).alloc (Nat.le_refl _) _).alloc (by simp) _⟩

theorem sameL_full {a b : List NB} {k : Nat} (ha : a.length ≤ k) (hb : b.length ≤ k) (h : La.sameL (a.take k) (b.take k) = true) : La.sameL a b = true := by
  rwa [List.take_of_length_le ha, List.take_of_length_le hb] at h

set_option maxHeartbeats 1600000 in
theorem equalFunc_any (va vb : Value) (A B : List NV) (w : World) (ha : Sl EN w va A) (hb : Sl EN w vb B) :
    Calls Tryd.prog 34 #[va, vb, .func (.func 35) #[] #[]] w fun e w' => e = .returned (.bool (La.sameL (nbs A) (nbs B))) ∧ Below w.heap.size w w' := by
  have hlen := ha.len
  obtain ⟨a, ca, rfl⟩ := ha.form
  obtain ⟨b, cb, rfl⟩ := hb.form
  have HA := hide (fun W (hB : Below w.heap.size w W) k (hk : k < A.length) => en_one ha hB hk)
  have HB := hide (fun W (hB : Below w.heap.size w W) k (hk : k < B.length) => en_one hb hB hk)
  clear ha hb
  by_cases hne : A.length = B.length
  · have hx : ((A.length : Int) != (B.length : Int)) = false := by rw [bne_eq_false_iff_eq]; omega
    have HN := hide hne
    clear hne
    go_enter Tryd.func34, Tryd.ntmps34
    go_wp2_with fail
    go_loopw [17] (fun i wr => ∃ k : Nat, k ≤ A.length ∧ i = .int .i64 k ∧ Hid (La.sameL ((nbs A).take k) ((nbs B).take k) = true) ∧ Below w.heap.size w wr) (fun i _ => A.length - (intOf i).toNat)
    case atStart => exact ⟨0, Nat.zero_le _, rfl, rfl, Below.refl _ _⟩
    case round =>
      obtain ⟨k, hk, rfl, hall, hB⟩ := hrel
      by_cases hlt : k < A.length
      · have hlb : k < B.length := by rw [← HN.out]; exact hlt
        have hlt' : (k : Int) < (A.length : Int) := by omega
        have hlb' : (k : Int) < (B.length : Int) := by omega
        obtain ⟨hA, g, off, rfl, hg, c0, c1, c2⟩ := HA.out _ hB k hlt
        obtain ⟨hA2, g2, off2, rfl, hg2, d0', d1', d2'⟩ := HB.out _ (hB.alloc hB.size (.cells #[.int .i64 A[k].n.kind, .string A[k].n.name, A[k].v] 29)) k hlb
        have HT : Hid (La.sameN A[k].n B[k].n = true → La.sameL ((nbs A).take (k + 1)) ((nbs B).take (k + 1)) = true) := fun h => by
          have := La.sameL_take (nbs A) (nbs B) k (by simpa using hlt) (by simpa using hlb)
          rw [this, hall.out]
          simpa using h
        have HG : Hid (La.sameN A[k].n B[k].n = false → La.sameL (nbs A) (nbs B) = false) := fun h =>
          La.sameL_not (nbs A) (nbs B) k (by simpa using hlt) (by simpa using hlb) (by simpa using h)
        generalize A[k] = x at *
        generalize B[k] = y at *
        have HM := hide (fun W (h : Below wr.heap.size wr W) (h2 : Below (wr.alloc (.cells #[.int .i64 x.n.kind, .string x.n.name, x.v] 29)).heap.size (wr.alloc (.cells #[.int .i64 x.n.kind, .string x.n.name, x.v] 29)) W) => sameNeed_any x y W (hA.below h) (hA2.below h2))
        clear hA hA2
        obtain ⟨⟨kk, nm, vs⟩, xa, xc⟩ := x
        obtain ⟨⟨kk2, nm2, vs2⟩, ya, yc⟩ := y
        dsimp only at *
        cases hq : La.sameN ⟨kk, nm, vs⟩ ⟨kk2, nm2, vs2⟩
        · have hq2 := hide (HG.out hq)
          rw [hq] at HM
          go_wp2_with fail
          refine (HM.out _ (((Below.refl _ _).alloc (Nat.le_refl _) _).alloc (by simp) _) ((Below.refl _ _).alloc (Nat.le_refl _) _)).mono ?_
          rintro e w1 ⟨rfl, hb1⟩
          go_wp2_with fail
          go_ret
          exact ⟨ret_bool (by rw [hq2.out]), bb2 hB (below_box (below_box hb1))⟩
        · have hq2 := hide (HT.out hq)
          rw [hq] at HM
          go_wp2_with fail
          refine (HM.out _ (((Below.refl _ _).alloc (Nat.le_refl _) _).alloc (by simp) _) ((Below.refl _ _).alloc (Nat.le_refl _) _)).mono ?_
          rintro e w1 ⟨rfl, hb1⟩
          go_wp2_with fail
          exact ⟨⟨k + 1, by omega, by go_num, hq2.out, bb2 hB (below_box (below_box hb1))⟩, by simp [intOf]; omega⟩
      · have hlt' : ¬ (k : Int) < (A.length : Int) := by omega
        have hq := hide (sameL_full (a := nbs A) (b := nbs B) (k := k) (by simp; omega) (by have := HN.out; simp; omega) hall.out)
        go_wp2_with fail
        go_ret
        exact ⟨ret_bool (by rw [hq.out]), hB⟩
  · have hx : ((A.length : Int) != (B.length : Int)) = true := by rw [bne_iff_ne]; omega
    have hd := hide (La.sameL_len (nbs A) (nbs B) (by simpa using hne))
    clear hne
    go_enter Tryd.func34, Tryd.ntmps34
    go_wp2_with fail
    go_ret
    exact ⟨ret_bool hd.out.symm, Below.refl _ _⟩

set_option maxHeartbeats 400000 in
theorem lsame_any (va vb : Value) (A B : List NV) (w : World) (ha : Sl EN w va A) (hb : Sl EN w vb B) :
    Calls Tryd.prog 20 #[va, vb] w fun e w' => e = .returned (.bool (La.sameL (nbs A) (nbs B))) ∧ Below w.heap.size w w' := by
  have HE := hide (equalFunc_any va vb A B w ha hb)
  obtain ⟨a, ca, rfl⟩ := ha.form
  obtain ⟨b, cb, rfl⟩ := hb.form
  clear ha hb
  go_enter Tryd.func20, Tryd.ntmps20
  go_wp2_with fail
  refine (HE.out).mono ?_
  rintro e w1 ⟨rfl, hb1⟩
  go_wp2_with fail
  go_ret
  exact ⟨rfl, hb1⟩

end Go.Proofs.YtecnjbaanbakoaaDoor
