/-
  What ObjectLess needs beyond the texts that it shares with others.
-/
import Derived.Test.YtblmdcpcekoogaaGreatDoorJ2
import Derived.Test.YtblmdcpcekoogaaGreatDoorJ1
import Derived.Test.YtblmdcpcekoogaaGreatDoorQuWalkA
import Derived.Test.YtblmdcpcekoogaaGreatDoorJ3
import Derived.Test.YtblmdcpcekoogaaGreatDoorRuMatch
import Derived.Test.YtblmdcpcekoogaaGreatDoorFiPlain
import Derived.Test.YtblmdcpcekoogaaGreatDoorJ4
import Derived.Test.YtblmdcpcekoogaaGreatDoorJ5
import Derived.Test.YtblmdcpcekoogaaGreatDoorJ6
import Derived.Test.YtblmdcpcekoogaaGreatDoorJ8
import Derived.Test.YtblmdcpcekoogaaGreatDoorJ10
import Derived.Test.YtblmdcpcekoogaaGreatDoorPbRefA
import Derived.Test.YtblmdcpcekoogaaGreatDoorPbLawA
import Derived.Test.YtblmdcpcekoogaaGreatDoorJ7
import Derived.Test.YtblmdcpcekoogaaGreatDoorJ9
import Derived.Test.YtblmdcpcekoogaaGreatDoorFiEq
import Derived.Test.YtblmdcpcekoogaaGreatDoorRowA
import Derived.Test.YtblmdcpcekoogaaGreatDoorJ12
import Derived.Test.YtblmdcpcekoogaaGreatDoorJ11
import Derived.Test.YtblmdcpcekoogaaGreatDoorJ13
import Derived.Test.YtblmdcpcekoogaaGreatDoorJ14
import Derived.Test.YtblmdcpcekoogaaGreatDoorJ15
import Derived.Test.YtblmdcpcekoogaaGreatDoorFiShelf
import Derived.Test.YtblmdcpcekoogaaGreatDoorJ16
import Derived.Test.YtblmdcpcekoogaaGreatDoorJ17
import Derived.Test.YtblmdcpcekoogaaGreatDoorObFewC
import Derived.Test.YtblmdcpcekoogaaGreatDoorJ18
namespace Go.Proofs.YtblmdcpcekoogaaGreatDoor
set_option maxRecDepth 20000
open Go Go.RowKit Go.Shelf Go.ChangeShapes Go.WideShapes Go.Deep

theorem u8_lit {n0 : Int} (h0 : (Lit.int .u8 n0).wf = true) : ∃ c : UInt8, n0 = (c.toNat : Int) := by
  simp [Lit.wf, IntKind.min, IntKind.max, IntKind.bits, IntKind.signed] at h0
  refine ⟨UInt8.ofNat n0.toNat, ?_⟩
  simp
  omega

end Go.Proofs.YtblmdcpcekoogaaGreatDoor
namespace Go.Proofs.YtblmdcpcekoogaaGreatDoor
set_option maxRecDepth 20000
open Go Go.RowKit Go.Shelf Go.ChangeShapes Go.WideShapes Go.Deep

section
variable {α : Type} (E : Elem α)
variable {E}
theorem owns_emptyT (t n : Nat) (w : World) (p : Nat) (h : w.heap.size = p) : (w.alloc (.cells #[] t)).ownsRow p t n (.slice (some ⟨p, 0, none⟩) 0 0) 0 [] := by
  subst h
  exact ⟨by simp, .inr ⟨w.heap.size, 0, #[], rfl, Nat.le_refl _, alloc_new w _, Nat.le_refl _, Nat.zero_le _, by simp, by simp⟩⟩

/-! ### append -/
/-! ### an argument -/
end

end Go.Proofs.YtblmdcpcekoogaaGreatDoor
namespace Go.Proofs.YtblmdcpcekoogaaGreatDoor
set_option maxRecDepth 20000
open Go Go.RowKit Go.Shelf
namespace Ob

/-! ### the kinds, one by one -/
theorem may_of6 {o : OB} (hr : mayRef o.ref = true) (hk : o.ref.kind = 6) (h : mayRt o = true) : mayO o = true := by
  unfold mayO mayK
  simp [hr, hk, h]
theorem may_of5 {o : OB} (hr : mayRef o.ref = true) (hk : o.ref.kind = 5) : mayO o = mayGw o := by
  unfold mayO mayK
  simp [hr, hk]
theorem may_of3 {o : OB} (hr : mayRef o.ref = true) (hk : o.ref.kind = 3) : mayO o = maySv o := by
  unfold mayO mayK
  simp [hr, hk]
theorem sv_parts {o : OB} (h : maySv o = true) : o = { zO o.ref with ports := o.ports } ∧ cnt o.ports 1 8 isPort = true ∧ srt o.ports = true ∧ dif eqI o.ports = true := by
  unfold maySv at h
  simp only [Bool.and_eq_true, sameO_iff] at h
  exact h
/-- what an object of another kind has none of -/
theorem only_rules {o : OB} (h : mayO o = true) (hr : o.rules ≠ []) : o.ref.kind = 6 := by
  refine Decidable.byContradiction fun h6 => hr ?_
  have key : ∀ x : OB, sameO o x = true → x.rules = [] → o.rules = [] := fun x hx he => by rw [sameO_iff.1 hx]; exact he
  have hk := mayRef_kind (may_parts h).1
  by_cases h1 : o.ref.kind = 1
  · exact key _ (may1 h h1) rfl
  by_cases h2 : o.ref.kind = 2
  · have := may2 h h2
    unfold maySp at this
    rw [Bool.and_eq_true] at this
    exact key _ this.1 rfl
  by_cases h3 : o.ref.kind = 3
  · have := may3 h h3
    unfold maySv at this
    rw [Bool.and_eq_true] at this
    exact key _ this.1 rfl
  by_cases h4 : o.ref.kind = 4
  · exact key _ (may4 h h4) rfl
  by_cases h5 : o.ref.kind = 5
  · have := may5 h h5
    unfold mayGw at this
    rw [Bool.and_eq_true] at this
    exact key _ this.1 rfl
  have := may7 h h1 h2 h3 h4 h5 h6
  unfold mayGr at this
  rw [Bool.and_eq_true] at this
  exact key _ this.1 rfl
theorem only_hosts {o : OB} (h : mayO o = true) (hr : o.hosts ≠ []) : o.ref.kind = 6 := by
  refine Decidable.byContradiction fun h6 => hr ?_
  have key : ∀ x : OB, sameO o x = true → x.hosts = [] → o.hosts = [] := fun x hx he => by rw [sameO_iff.1 hx]; exact he
  have hk := mayRef_kind (may_parts h).1
  by_cases h1 : o.ref.kind = 1
  · exact key _ (may1 h h1) rfl
  by_cases h2 : o.ref.kind = 2
  · have := may2 h h2
    unfold maySp at this
    rw [Bool.and_eq_true] at this
    exact key _ this.1 rfl
  by_cases h3 : o.ref.kind = 3
  · have := may3 h h3
    unfold maySv at this
    rw [Bool.and_eq_true] at this
    exact key _ this.1 rfl
  by_cases h4 : o.ref.kind = 4
  · exact key _ (may4 h h4) rfl
  by_cases h5 : o.ref.kind = 5
  · have := may5 h h5
    unfold mayGw at this
    rw [Bool.and_eq_true] at this
    exact key _ this.1 rfl
  have := may7 h h1 h2 h3 h4 h5 h6
  unfold mayGr at this
  rw [Bool.and_eq_true] at this
  exact key _ this.1 rfl
theorem only_lis {o : OB} (h : mayO o = true) (hr : o.lis ≠ []) : o.ref.kind = 5 := by
  refine Decidable.byContradiction fun h5 => hr ?_
  have key : ∀ x : OB, sameO o x = true → x.lis = [] → o.lis = [] := fun x hx he => by rw [sameO_iff.1 hx]; exact he
  have hk := mayRef_kind (may_parts h).1
  by_cases h1 : o.ref.kind = 1
  · exact key _ (may1 h h1) rfl
  by_cases h2 : o.ref.kind = 2
  · have := may2 h h2
    unfold maySp at this
    rw [Bool.and_eq_true] at this
    exact key _ this.1 rfl
  by_cases h3 : o.ref.kind = 3
  · have := may3 h h3
    unfold maySv at this
    rw [Bool.and_eq_true] at this
    exact key _ this.1 rfl
  by_cases h4 : o.ref.kind = 4
  · exact key _ (may4 h h4) rfl
  by_cases h6 : o.ref.kind = 6
  · have := may6 h h6
    unfold mayRt at this
    rw [Bool.and_eq_true] at this
    exact key _ this.1 rfl
  have := may7 h h1 h2 h3 h4 h5 h6
  unfold mayGr at this
  rw [Bool.and_eq_true] at this
  exact key _ this.1 rfl
theorem only_ports {o : OB} (h : mayO o = true) (hr : o.ports ≠ []) : o.ref.kind = 3 := by
  refine Decidable.byContradiction fun h3 => hr ?_
  have key : ∀ x : OB, sameO o x = true → x.ports = [] → o.ports = [] := fun x hx he => by rw [sameO_iff.1 hx]; exact he
  have hk := mayRef_kind (may_parts h).1
  by_cases h1 : o.ref.kind = 1
  · exact key _ (may1 h h1) rfl
  by_cases h2 : o.ref.kind = 2
  · have := may2 h h2
    unfold maySp at this
    rw [Bool.and_eq_true] at this
    exact key _ this.1 rfl
  by_cases h4 : o.ref.kind = 4
  · exact key _ (may4 h h4) rfl
  by_cases h5 : o.ref.kind = 5
  · have := may5 h h5
    unfold mayGw at this
    rw [Bool.and_eq_true] at this
    exact key _ this.1 rfl
  by_cases h6 : o.ref.kind = 6
  · have := may6 h h6
    unfold mayRt at this
    rw [Bool.and_eq_true] at this
    exact key _ this.1 rfl
  have := may7 h h1 h2 h3 h4 h5 h6
  unfold mayGr at this
  rw [Bool.and_eq_true] at this
  exact key _ this.1 rfl
/-- of a route a class is none; of all others hosts are none -/
theorem odd_cls {o : OB} (hk : o.ref.kind = 6) (c : ByteArray) (hc : e0 c = false) : mayO { o with cls := c } = false := by
  cases h : mayO { o with cls := c }
  · rfl
  · have := congrArg OB.cls (rt_parts (may6 h hk)).1
    dsimp only at this
    rw [this] at hc
    cases hc
theorem odd_hosts {o : OB} (hk : o.ref.kind ≠ 6) (l : List ByteArray) (hl : l ≠ []) : mayO { o with hosts := l } = false := by
  cases h : mayO { o with hosts := l }
  · rfl
  · exact absurd (only_hosts h hl) hk

/-! ### a part less -/
theorem less_sub {α : Type} (l : List α) (k : Nat) : (less l k).Sublist l := by
  have h := List.take_append_drop k l
  have h1 : (l.drop (k + 1)).Sublist (l.drop k) := by
    rw [← List.drop_drop]
    exact List.drop_sublist _ _
  have := List.Sublist.append (List.Sublist.refl (l.take k)) h1
  rwa [h] at this
theorem less_len {α : Type} {l : List α} {k : Nat} (hk : k < l.length) : (less l k).length = l.length - 1 := by simp; omega
theorem cnt_less {α : Type} {l : List α} {lo hi : Int} {p : α → Bool} {k : Nat} (hk : k < l.length) (h : cnt l lo hi p = true) : cnt (less l k) lo hi p = decide (lo ≤ (l.length : Int) - 1) := by
  obtain ⟨h1, h2, h3⟩ := cnt_iff.1 h
  by_cases hl : lo ≤ (l.length : Int) - 1
  · rw [decide_eq_true hl, cnt_iff]
    have := less_len hk
    exact ⟨by omega, by omega, fun x hx => h3 x ((less_sub l k).subset hx)⟩
  · rw [decide_eq_false hl]
    unfold cnt
    rw [decide_eq_false (by have := less_len hk; omega), Bool.false_and]
theorem dif_less {α : Type} {same : α → α → Bool} {l : List α} (k : Nat) (h : dif same l = true) : dif same (less l k) = true := by
  rw [dif_iff] at *
  exact h.sublist (less_sub l k)
theorem srt_less {l : List Int} (k : Nat) (h : srt l = true) : srt (less l k) = true := by
  unfold srt at *
  rw [decide_eq_true_eq] at *
  exact h.sublist (less_sub l k)
theorem less_rules {o : OB} (h : mayO o = true) {k : Nat} (hk : k < o.rules.length) : mayO { o with rules := less o.rules k } = true := by
  have h6 := only_rules h (fun e => by rw [e] at hk; simp at hk)
  obtain ⟨e, p1, p2, p3, p4, p5⟩ := rt_parts (may6 h h6)
  refine may_of6 (o := { o with rules := less o.rules k }) (may_parts h).1 h6 ?_
  unfold mayRt
  simp only [Bool.and_eq_true, sameO_iff]
  refine ⟨?_, p1, p2, p3, p4, ?_⟩
  · obtain ⟨a1, a2, a3, a4, a5, a6, a7, a8, a9, a10, a11⟩ := o
    simp only [OB.mk.injEq] at e ⊢
    simp [e]
  · rw [cnt_less hk p5, decide_eq_true_eq]
    omega
theorem less_lis {o : OB} (h : mayO o = true) {k : Nat} (hk : k < o.lis.length) : mayO { o with lis := less o.lis k } = decide (1 < o.lis.length) := by
  have h5 := only_lis h (fun e => by rw [e] at hk; simp at hk)
  obtain ⟨e, p1, p2, p3⟩ := gw_parts (may5 h h5)
  rw [may_of5 (o := { o with lis := less o.lis k }) (may_parts h).1 h5]
  unfold mayGw
  dsimp only
  rw [cnt_less hk p2, p1, dif_less k p3]
  have : sameO { o with lis := less o.lis k } { zO o.ref with cls := o.cls, lis := less o.lis k } = true := by
    rw [sameO_iff]
    obtain ⟨a1, a2, a3, a4, a5, a6, a7, a8, a9, a10, a11⟩ := o
    simp only [OB.mk.injEq] at e ⊢
    simp [e]
  rw [this]
  simp only [Bool.true_and, Bool.and_true, decide_eq_decide]
  omega
theorem less_ports {o : OB} (h : mayO o = true) {k : Nat} (hk : k < o.ports.length) : mayO { o with ports := less o.ports k } = decide (1 < o.ports.length) := by
  have h3 := only_ports h (fun e => by rw [e] at hk; simp at hk)
  obtain ⟨e, p1, p2, p3⟩ := sv_parts (may3 h h3)
  rw [may_of3 (o := { o with ports := less o.ports k }) (may_parts h).1 h3]
  unfold maySv
  dsimp only
  rw [cnt_less hk p1, srt_less k p2, dif_less k p3]
  have : sameO { o with ports := less o.ports k } { zO o.ref with ports := less o.ports k } = true := by
    rw [sameO_iff]
    obtain ⟨a1, a2, a3, a4, a5, a6, a7, a8, a9, a10, a11⟩ := o
    simp only [OB.mk.injEq] at e ⊢
    simp [e]
  rw [this]
  simp only [Bool.true_and, Bool.and_true, decide_eq_decide]
  omega

/-! ### an object's refs -/
/-! ### refs without a space are given the object's own -/
end Ob
end Go.Proofs.YtblmdcpcekoogaaGreatDoor
