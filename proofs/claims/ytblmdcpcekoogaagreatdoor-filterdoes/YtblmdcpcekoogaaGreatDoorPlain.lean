/-
  The plain mathematics of labels and names: lists of octets. No program is named here.
-/
import Derived.Below
namespace Go.Proofs.YtblmdcpcekoogaaGreatDoor.D

/-- an octet of a label, as a number -/
def inLab (c : Int) : Bool := decide (97 ≤ c ∧ c ≤ 122 ∨ 48 ≤ c ∧ c ≤ 57 ∨ c = 45)

abbrev at' (l : List UInt8) (i : Nat) : Int := ((l[i]?.getD 0).toNat : Int)

def isLabel (l : List UInt8) : Bool :=
  decide (1 ≤ l.length) && decide (l.length ≤ 20) && l.all (fun c => inLab c.toNat) && decide (at' l 0 ≠ 45) && decide (at' l (l.length - 1) ≠ 45)

/-- the parts between octets c -/
def spl (c : UInt8) : List UInt8 → List (List UInt8)
  | [] => [[]]
  | a :: r => if a = c then [] :: spl c r else ((a :: (spl c r).headD []) :: (spl c r).tail)

def isName (l : List UInt8) : Bool := decide (l.length ≤ 60) && (spl 46 l).all isLabel

def maySp (l : List UInt8) : Bool := l.isEmpty || isLabel l

theorem spl_ne (c : UInt8) (l : List UInt8) : spl c l ≠ [] := by
  cases l with
  | nil => simp [spl]
  | cons a r => unfold spl; split <;> simp

theorem spl_pos (c : UInt8) (l : List UInt8) : 0 < (spl c l).length := List.length_pos_iff.2 (spl_ne c l)

/-- where no c is, the text is the one part -/
theorem spl_none {c : UInt8} {l : List UInt8} (h : ∀ x ∈ l, x ≠ c) : spl c l = [l] := by
  induction l with
  | nil => rfl
  | cons a r ih =>
    have ha : a ≠ c := h a (by simp)
    have hr := ih (fun x hx => h x (by simp [hx]))
    simp [spl, ha, hr]

/-- at the first c -/
theorem spl_at {c : UInt8} {l r : List UInt8} (h : ∀ x ∈ l, x ≠ c) : spl c (l ++ c :: r) = l :: spl c r := by
  induction l with
  | nil => simp [spl]
  | cons a t ih =>
    have ha : a ≠ c := h a (by simp)
    have hr := ih (fun x hx => h x (by simp [hx]))
    simp [spl, ha, hr]

theorem spl_mem {c : UInt8} {l : List UInt8} : ∀ p ∈ spl c l, ∀ x ∈ p, x ∈ l ∧ x ≠ c := by
  induction l with
  | nil => intro p hp x hx; simp [spl] at hp; subst hp; simp at hx
  | cons a r ih =>
    intro p hp x hx
    unfold spl at hp
    have hne := spl_ne c r
    split at hp
    · rcases List.mem_cons.1 hp with rfl | hp
      · simp at hx
      · have := ih p hp x hx; exact ⟨List.mem_cons_of_mem _ this.1, this.2⟩
    · rename_i hac
      cases hs : spl c r with
      | nil => exact absurd hs hne
      | cons q t =>
        rw [hs] at hp
        simp at hp
        rcases hp with rfl | hp
        · rcases List.mem_cons.1 hx with rfl | hx
          · exact ⟨by simp, hac⟩
          · have := ih q (by rw [hs]; simp) x hx; exact ⟨List.mem_cons_of_mem _ this.1, this.2⟩
        · have := ih p (by rw [hs]; simp [hp]) x hx; exact ⟨List.mem_cons_of_mem _ this.1, this.2⟩

theorem spl_len {c : UInt8} {l : List UInt8} : ∀ p ∈ spl c l, p.length ≤ l.length := by
  induction l with
  | nil => intro p hp; simp [spl] at hp; subst hp; simp
  | cons a r ih =>
    intro p hp
    unfold spl at hp
    have hne := spl_ne c r
    split at hp
    · rcases List.mem_cons.1 hp with rfl | hp
      · simp
      · have := ih p hp; simp; omega
    · cases hs : spl c r with
      | nil => exact absurd hs hne
      | cons q t =>
        rw [hs] at hp
        simp at hp
        rcases hp with rfl | hp
        · have := ih q (by rw [hs]; simp); simp; omega
        · have := ih p (by rw [hs]; simp [hp]); simp; omega

theorem spl_count {c : UInt8} {l : List UInt8} : (spl c l).length ≤ l.length + 1 := by
  induction l with
  | nil => simp [spl]
  | cons a r ih =>
    have := spl_pos c r
    unfold spl; split <;> simp <;> omega

end Go.Proofs.YtblmdcpcekoogaaGreatDoor.D
