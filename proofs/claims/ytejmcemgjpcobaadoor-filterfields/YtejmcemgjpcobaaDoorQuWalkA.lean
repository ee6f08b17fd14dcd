/-
  Walks: Plain, mayPair, May (of package query), and the document's Plain, May, Same; a slice of pairs.
-/
import Derived.Test.YtejmcemgjpcobaaDoorIdx
import Derived.Test.YtejmcemgjpcobaaDoorPrs
import Derived.Test.YtejmcemgjpcobaaDoorQuPlain
namespace Go.Proofs.YtejmcemgjpcobaaDoor
set_option maxRecDepth 20000
open Go Go.RowKit Go.Shelf

def pl (p : PairB) : Qu.PairL := (p.1.data.toList, p.2.data.toList)

/-! ### which octets are plain -/
theorem strings_indexByte (s : ByteArray) (c : UInt8) (w : World) :
    Calls Tryd.prog 75 #[.string s, .int .u8 (c.toNat : Int)] w fun e w' => e = .returned (.int .i64 (Lib.indexByte s.data.toList c)) ∧ w' = w := by
  have hx := indexByte_any s (c.toNat : Int) w
  have hc : ((c.toNat : Int).toNat).toUInt8 = c := by simp
  rw [hc] at hx
  go_enter Tryd.func75, Tryd.ntmps75
  go_wp2_with fail
  refine hx.mono ?_
  rintro e w' ⟨rfl, rfl⟩
  go_wp2_with fail
  go_ret
  exact ⟨rfl, rfl⟩

theorem sign_idx (c : UInt8) : decide (0 ≤ Lib.indexByte [45, 46, 95, 126] c) = (c == 45 || c == 46 || c == 95 || c == 126) := by
  by_cases h1 : c = 45
  · subst h1; decide
  by_cases h2 : c = 46
  · subst h2; decide
  by_cases h3 : c = 95
  · subst h3; decide
  by_cases h4 : c = 126
  · subst h4; decide
  have e1 : ¬ (45 : UInt8) = c := fun e => h1 e.symm
  have e2 : ¬ (46 : UInt8) = c := fun e => h2 e.symm
  have e3 : ¬ (95 : UInt8) = c := fun e => h3 e.symm
  have e4 : ¬ (126 : UInt8) = c := fun e => h4 e.symm
  simp [Lib.indexByte, e1, e2, e3, e4, h1, h2, h3, h4]

theorem u8_eq (c d : UInt8) : (c == d) = (c.toNat == d.toNat) := by
  rw [Bool.eq_iff_iff, beq_iff_eq, beq_iff_eq]
  exact ⟨fun h => by rw [h], fun h => UInt8.toNat_inj.1 h⟩

theorem may_no {l : List PairB} {k : Nat} (hk : k < l.length) (h : Qu.mayP (pl l[k]) = false) : Qu.may (l.map pl) = false := by
  unfold Qu.may
  rw [Bool.and_eq_false_iff]
  left
  rw [List.all_eq_false]
  exact ⟨pl l[k], List.mem_map.2 ⟨_, List.getElem_mem hk, rfl⟩, by rw [h]; decide⟩
theorem may_yes {l : List PairB} (h : ∀ k (hk : k < l.length), Qu.mayP (pl l[k]) = true) : Qu.may (l.map pl) = decide (l.length ≤ 20) := by
  unfold Qu.may
  have : (l.map pl).all Qu.mayP = true := by
    rw [List.all_eq_true]
    intro x hx
    obtain ⟨p, hp, rfl⟩ := List.mem_map.1 hx
    obtain ⟨k, hk, rfl⟩ := List.getElem_of_mem hp
    exact h k hk
  rw [this, Bool.true_and, List.length_map]

/-! ### are they the same? -/
end Go.Proofs.YtejmcemgjpcobaaDoor
