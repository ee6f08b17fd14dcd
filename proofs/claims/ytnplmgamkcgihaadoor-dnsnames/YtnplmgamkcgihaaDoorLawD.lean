/-
  The law DnsFolds: plain facts of folding, and its walk.
-/
import Derived.Test.YtnplmgamkcgihaaDoorWalkI
namespace Go.Proofs.YtnplmgamkcgihaaDoor
open Go Go.RowKit Go.Shelf

theorem foldc_not_up (c : UInt8) : ¬ (65 ≤ (foldc c).toNat ∧ (foldc c).toNat ≤ 90) := by
  by_cases h : 65 ≤ c.toNat ∧ c.toNat ≤ 90
  · have := foldc_yes h.1 h.2
    omega
  · rw [foldc_no h]; exact h
theorem foldc_twice (c : UInt8) : foldc (foldc c) = foldc c := foldc_no (foldc_not_up c)
theorem foldL_twice (l : List UInt8) : foldL (foldL l) = foldL l := by
  simp only [foldL, List.map_map]
  exact List.map_congr_left (fun c _ => foldc_twice c)
theorem foldL_len (l : List UInt8) : (foldL l).length = l.length := by simp [foldL]
theorem foldL_label {l : List UInt8} (h : D.isLabel l = true) : foldL l = l := by
  have ho := label_octets h
  unfold foldL
  conv => rhs; rw [← List.map_id l]
  refine List.map_congr_left (fun c hc => foldc_no ?_)
  have := ho c hc
  simp only [D.inLab, decide_eq_true_eq] at this
  omega

/-- the folded text -/
def foldB (s : ByteArray) : ByteArray := ⟨(foldL s.data.toList).toArray⟩
theorem foldB_data (s : ByteArray) : (foldB s).data.toList = foldL s.data.toList := by simp [foldB]
theorem foldB_size (s : ByteArray) : (foldB s).size = s.size := by
  have h1 : (foldB s).data.toList.length = (foldB s).size := Array.length_toList
  have h2 : s.data.toList.length = s.size := Array.length_toList
  rw [← h1, foldB_data, foldL_len, h2]
theorem foldB_twice (s : ByteArray) : foldB (foldB s) = foldB s := by
  apply bytes_ext; rw [foldB_data, foldB_data, foldL_twice]
theorem foldB_at (s : ByteArray) (k : Nat) (h : k < s.size) (h' : k < (foldB s).size) : (foldB s)[k] = foldc s[k] := by
  have e1 : (foldB s)[k] = (foldB s).data.toList[k]'(by rw [Array.length_toList]; exact h') := rfl
  have e2 : s[k] = s.data.toList[k]'(by rw [Array.length_toList]; exact h) := rfl
  rw [e1, e2]
  simp [foldB, foldL]

theorem foldB_any (s : ByteArray) (w : World) (hs : s.size ≤ maxLen) :
    Calls Tryd.prog 18 #[.string s] w fun e w' => e = .returned (.string (foldB s)) ∧ Below w.heap.size w w' := fold_any s w hs

set_option maxHeartbeats 1600000 in
theorem folds_law (s1 : ByteArray) (w : World) (hs1 : s1.size ≤ maxLen) :
    Calls Tryd.prog 8 #[.string s1] w fun e w' => e = .returned (.bool true) ∧ Below w.heap.size w w' := by
  go_enter Tryd.func8, Tryd.ntmps8
  go_wp2_with fail
  refine (few_any _ _ hs1).mono ?_
  rintro e w ⟨s, rfl, hs, rfl⟩
  go_wp2_with fail
  have ls : s.size ≤ maxLen := small_len (by omega)
  refine (foldB_any _ _ ls).mono ?_
  rintro e w1 ⟨rfl, hb1⟩
  have hsz := foldB_size s
  have htw := foldB_twice s
  have hlab : D.isLabel s.data.toList = true → foldB s = s := fun h => by
    apply bytes_ext; rw [foldB_data, foldL_label h]
  have hat := foldB_at s
  generalize hF : foldB s = f at *
  have HSZ := hide hsz
  have HTW := hide htw
  have HLAB := hide hlab
  have HAT := hide hat
  have HF := hide hF
  have lf : f.size ≤ maxLen := small_len (by omega)
  have hf100 : f.size ≤ 100 := by omega
  have hne : ((f.size : Int) != (s.size : Int)) = false := by rw [bne_eq_false_iff_eq]; omega
  clear hsz htw hlab hat hF
  go_wp2_with fail
  refine (foldB_any _ _ lf).mono ?_
  rintro e w2 ⟨rfl, hb2⟩
  rw [HTW.out]
  go_wp2_with fail
  refine (label_any _ _ ls).mono ?_
  rintro e w3 ⟨rfl, rfl⟩
  have B := hb1.trans (hb2.mono hb1.size)
  have hff : f.size = s.size := HSZ.out
  have HFF := hide hff
  clear hff
  cases hl : D.isLabel s.data.toList
  · have hfs : s.size = f.size := HFF.out.symm
    have hfs1 : s.size ≤ f.size := by omega
    have hfs2 : f.size ≤ s.size := by omega
    clear hfs
    go_wp2_with fail
    go_loopw [4] (fun i wr => ∃ k : Nat, k ≤ f.size ∧ i = .int .i64 k ∧ Below w.heap.size w wr) (fun i _ => f.size - (intOf i).toNat)
    case atStart => exact ⟨0, Nat.zero_le _, rfl, B⟩
    case round =>
      obtain ⟨k, hk, rfl, hB⟩ := hrel
      by_cases hlt : k < f.size
      · have hls : k < s.size := by omega
        have hlt' : (k : Int) < (f.size : Int) := by omega
        have hls' : (k : Int) < (s.size : Int) := by omega
        have hfk := HAT.out k hls hlt
        by_cases hup : 65 ≤ s[k].toNat ∧ s[k].toNat ≤ 90
        · have hy := foldc_yes hup.1 hup.2
          rw [← hfk] at hy
          have i1 : (65 : Int) ≤ (f[k].toNat : Int) := by omega
          have i2 : decide ((f[k].toNat : Int) ≤ 90) = false := decide_eq_false (by omega)
          have i3 : ((f[k].toNat : Int) != (s[k].toNat : Int)) = true := by rw [bne_iff_ne]; omega
          have i4 : ((f[k].toNat : Int) != (s[k].toNat : Int) + 32) = false := by rw [bne_eq_false_iff_eq]; omega
          have i5 : (65 : Int) ≤ (s[k].toNat : Int) := by omega
          have i6 : (s[k].toNat : Int) ≤ 90 := by omega
          clear hfk hy hup
          go_wp2_with fail
          go_quiet (fail)
          go_wp2_with fail
          exact ⟨⟨k + 1, by omega, by go_num, below_drewN hB _⟩, by simp [intOf]; omega⟩
        · have hy : f[k] = s[k] := by rw [hfk, foldc_no hup]
          have i3 : ((f[k].toNat : Int) != (s[k].toNat : Int)) = false := by rw [bne_eq_false_iff_eq, hy]
          by_cases h65 : 65 ≤ s[k].toNat
          · have i1 : (65 : Int) ≤ (f[k].toNat : Int) := by rw [hy]; omega
            have i2 : decide ((f[k].toNat : Int) ≤ 90) = false := decide_eq_false (by rw [hy]; omega)
            clear hfk hy hup
            go_wp2_with fail
            go_quiet (fail)
            go_wp2_with fail
            exact ⟨⟨k + 1, by omega, by go_num, below_drewN hB _⟩, by simp [intOf]; omega⟩
          · have i1 : decide ((65 : Int) ≤ (f[k].toNat : Int)) = false := decide_eq_false (by rw [hy]; omega)
            clear hfk hy hup
            go_wp2_with fail
            go_quiet (fail)
            go_wp2_with fail
            exact ⟨⟨k + 1, by omega, by go_num, below_drewN hB _⟩, by simp [intOf]; omega⟩
      · have hlt' : ¬ (k : Int) < (f.size : Int) := by omega
        go_wp2_with fail
        refine (awake_any _).mono ?_
        rintro e w5 ⟨rfl, hb5⟩
        go_wp2_with fail
        go_ret
        exact ⟨rfl, hB.trans (hb5.mono hB.size)⟩
  · have hfs := HLAB.out hl
    subst hfs
    go_wp2_with fail
    go_loopw [4] (fun i wr => ∃ k : Nat, k ≤ f.size ∧ i = .int .i64 k ∧ Below w.heap.size w wr) (fun i _ => f.size - (intOf i).toNat)
    case atStart => exact ⟨0, Nat.zero_le _, rfl, B⟩
    case round =>
      obtain ⟨k, hk, rfl, hB⟩ := hrel
      by_cases hlt : k < f.size
      · have hls : k < f.size := by omega
        have hlt' : (k : Int) < (f.size : Int) := by omega
        have hls' : (k : Int) < (f.size : Int) := by omega
        have hfk := HAT.out k hls hlt
        by_cases hup : 65 ≤ f[k].toNat ∧ f[k].toNat ≤ 90
        · have hy := foldc_yes hup.1 hup.2
          rw [← hfk] at hy
          exact absurd hy (by omega)
        · have hy : f[k] = f[k] := by rw [hfk, foldc_no hup]
          have i3 : ((f[k].toNat : Int) != (f[k].toNat : Int)) = false := by rw [bne_eq_false_iff_eq, hy]
          by_cases h65 : 65 ≤ f[k].toNat
          · have i1 : (65 : Int) ≤ (f[k].toNat : Int) := by rw [hy]; omega
            have i2 : decide ((f[k].toNat : Int) ≤ 90) = false := decide_eq_false (by rw [hy]; omega)
            clear hfk hy hup
            go_wp2_with fail
            go_quiet (fail)
            go_wp2_with fail
            exact ⟨⟨k + 1, by omega, by go_num, below_drewN hB _⟩, by simp [intOf]; omega⟩
          · have i1 : decide ((65 : Int) ≤ (f[k].toNat : Int)) = false := decide_eq_false (by rw [hy]; omega)
            clear hfk hy hup
            go_wp2_with fail
            go_quiet (fail)
            go_wp2_with fail
            exact ⟨⟨k + 1, by omega, by go_num, below_drewN hB _⟩, by simp [intOf]; omega⟩
      · have hlt' : ¬ (k : Int) < (f.size : Int) := by omega
        go_wp2_with fail
        refine (awake_any _).mono ?_
        rintro e w5 ⟨rfl, hb5⟩
        go_wp2_with fail
        go_ret
        exact ⟨rfl, hB.trans (hb5.mono hB.size)⟩

end Go.Proofs.YtnplmgamkcgihaaDoor
