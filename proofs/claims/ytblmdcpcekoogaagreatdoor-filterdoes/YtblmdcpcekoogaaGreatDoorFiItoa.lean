/-
  strconv.Itoa at a port, by the library's contract.
-/
import Derived.Test.YtblmdcpcekoogaaGreatDoorJ5
import Derived.Test.YtblmdcpcekoogaaGreatDoorFiShelf
import Derived.Lib.AppendIntMem
namespace Go.Proofs.YtblmdcpcekoogaaGreatDoor
set_option maxRecDepth 20000
open Go Go.RowKit Go.Shelf Fi

theorem digs_zero : ∀ k, digs k 0 = []
  | 0 => rfl
  | _ + 1 => rfl
theorem dec_digs : ∀ (k n : Nat), 0 < n → n < 10 ^ k → Lib.decDigits n = digs k n
  | 0, n, h, h1 => by simp at h1; omega
  | k + 1, n, h, h1 => by
    rw [Lib.decDigits]
    unfold digs
    rw [if_neg (by omega)]
    split
    · rename_i h2
      rw [show n / 10 = 0 by omega, digs_zero, show n % 10 = n by omega]
      rfl
    · rw [dec_digs k (n / 10) (by omega) (by rw [Nat.pow_succ] at h1; omega)]

/-- the table that it reads -/
abbrev Tab10 (w : World) : Prop := Lib.TabIs Tryz.prog w "internal/strconv.uint64pow10" .u64 Lib.pow10Tab
theorem itoa_at {w : World} (h : Tab10 w) {n : Int} (h0 : 0 < n) (h1 : n ≤ 65535) : ItoaAt w n := fun W hW =>
  (Tryz.strconv_Itoa n (by omega) (by omega) W (Lib.tabBelow_of_tabIs h W hW)).mono fun e w' ⟨he, k, os, hw⟩ => by
    refine ⟨?_, by rw [hw]; exact Lib.below_grow _ _ (Nat.le_refl _) k os⟩
    rw [he]
    have : Lib.itoa n = digs 8 n.toNat := by
      unfold Lib.itoa
      rw [if_neg (by omega)]
      exact dec_digs 8 _ (by omega) (by omega)
    rw [this]
    rfl
/-- at each port of filters that may be -/
theorem itoa_ports {w : World} (h : Tab10 w) {tls : Bool} {l : List FB} : ∀ f ∈ l, mayF f = true → f.kind = 4 → needD f.port tls → ItoaAt w f.port := fun f _ hm hk hn => by
  have hp : 0 ≤ f.port ∧ f.port ≤ 65535 := by
    unfold mayF at hm
    rw [if_neg (by omega), if_neg (by omega), if_pos hk] at hm
    simp only [Bool.and_eq_true, decide_eq_true_eq] at hm
    exact hm.2.2.2.1
  have h0 := hn.1
  exact itoa_at h (by omega) hp.2

end Go.Proofs.YtblmdcpcekoogaaGreatDoor
