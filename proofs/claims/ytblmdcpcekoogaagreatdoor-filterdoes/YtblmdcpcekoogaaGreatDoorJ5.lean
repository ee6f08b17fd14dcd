/-
  Walks: what filters may be, each kind.
-/
import Derived.Test.YtblmdcpcekoogaaGreatDoorFiMem
import Derived.Test.YtblmdcpcekoogaaGreatDoorFiEq
import Derived.Test.YtblmdcpcekoogaaGreatDoorWalkD
import Derived.Test.YtblmdcpcekoogaaGreatDoorPaWalkB
import Derived.Test.YtblmdcpcekoogaaGreatDoorRuWalkB
import Derived.Test.YtblmdcpcekoogaaGreatDoorCore
import Derived.MapKept
import Derived.Test.YtblmdcpcekoogaaGreatDoorPaWalkC
import Derived.Test.YtblmdcpcekoogaaGreatDoorRuLawA
namespace Go.Proofs.YtblmdcpcekoogaaGreatDoor
set_option maxRecDepth 20000
open Go Go.RowKit Go.Shelf Fi

/-- a filter's box: its cells, whatever grows behind it -/
theorem boxF {w : World} {f : FB} {t : Nat} {W : World} (h : Below (w.alloc (.cells (fcells f).toArray t)).heap.size (w.alloc (.cells (fcells f).toArray t)) W) : EF.At W w.heap.size 0 f :=
  EF_block (t := t) ((h.block w.heap.size (by simp)).trans (alloc_new w _))
theorem boxF2 {w : World} {f : FB} {t : Nat} {W : World} {o : Obj} (h : Below ((w.alloc (.cells (fcells f).toArray t)).alloc o).heap.size ((w.alloc (.cells (fcells f).toArray t)).alloc o) W) : EF.At W w.heap.size 0 f :=
  boxF (t := t) (((Below.refl _ _).alloc (Nat.le_refl _) _).trans (h.mono (by simp)))
theorem below_b2 {w w1 : World} {o o2 : Obj} (h : Below ((w.alloc o).alloc o2).heap.size ((w.alloc o).alloc o2) w1) : Below w.heap.size w w1 :=
  (((Below.refl _ _).alloc (Nat.le_refl _) _).alloc (by simp) _).trans (h.mono (by simp; omega))
theorem tl_nil {s : ByteArray} : (s.toList = (⟨#[]⟩ : ByteArray).toList) ↔ s.size = 0 := by
  rw [Lib.toList_data, Lib.toList_data]
  exact (List.length_eq_zero_iff (l := s.data.toList)).symm
theorem tl_e {s : ByteArray} : s.toList = [] ↔ s = ByteArray.empty := by
  rw [Lib.toList_data]
  constructor
  · intro h
    obtain ⟨⟨l⟩⟩ := s
    have : l = [] := h
    subst this
    rfl
  · rintro rfl
    rfl
theorem tl_emp {s : ByteArray} : s.toList.isEmpty = e0 s := by
  rw [Lib.toList_data]
  have : s.size = s.data.toList.length := rfl
  unfold e0
  rw [this]
  cases s.data.toList <;> rfl

/-- a filter that has all but its own fields zero -/
def ownAway (f : FB) : Bool := e0 f.name && e0 f.val
def ownSwap (f : FB) : Bool := e0 f.name && (e0 f.val && (f.port == 0 && f.code == 0))
def ownDrop (f : FB) : Bool := noneF f && e0 f.val
def hostF (f : FB) : Bool := e0 f.host || D.isName (dl f.host)
def pathF (f : FB) : Bool := if e0 f.path then !f.whole else if f.whole then isP (dl f.path) else mayP 2 (dl f.path)
theorem turn_walk (f : FB) : turnF f = (hostF f && pathF f) := by
  unfold turnF hostF pathF
  congr 1
  cases e0 f.path
  · cases f.whole
    · show (isP (dl f.path) && (false || abv (dl f.path))) = abv (dl f.path)
      cases ha : abv (dl f.path)
      · cases isP (dl f.path) <;> rfl
      · rw [abv_isP ha]
        rfl
    · show (isP (dl f.path) && (true || abv (dl f.path))) = isP (dl f.path)
      cases isP (dl f.path) <;> rfl
  · rfl

set_option maxHeartbeats 800000 in
theorem mayHost_any (f : FB) (w : World) (ok : OkFi f) :
    Calls Tryz.prog 240 #[fV f] w fun e w' => e = .returned (.bool (hostF f)) ∧ Below w.heap.size w w' := by
  obtain ⟨k, n, v, h, p, t, b, c⟩ := f
  have C1 := fun W => hide (name_any h W (small_len (by have := ok.host; dsimp only at this; omega)))
  have HE := @tl_emp h
  have HR : Hid (hostF ⟨k, n, v, h, p, t, b, c⟩ = (h.toList.isEmpty || D.isName h.data.toList)) := by rw [HE]; rfl
  clear HE
  generalize hostF ⟨k, n, v, h, p, t, b, c⟩ = r at *
  generalize D.isName h.data.toList = x at *
  cases he : h.toList.isEmpty
  · rw [he] at HR
    go_enter Tryz.func240, Tryz.ntmps240
    go_wp2_with fail
    refine ((C1 _).out).mono ?_
    rintro e w1 ⟨rfl, hb1⟩
    go_wp2_with fail
    go_ret
    exact ⟨ret_bool HR.out.symm, below_box hb1⟩
  · rw [he] at HR
    go_enter Tryz.func240, Tryz.ntmps240
    go_wp2_with fail
    go_ret
    exact ⟨ret_bool HR.out.symm, (Below.refl _ _).alloc (Nat.le_refl _) _⟩

set_option maxHeartbeats 800000 in
theorem mayPath_any (f : FB) (w : World) (ok : OkFi f) :
    Calls Tryz.prog 241 #[fV f] w fun e w' => e = .returned (.bool (pathF f)) ∧ Below w.heap.size w w' := by
  obtain ⟨k, n, v, h, p, t, b, c⟩ := f
  have C1 := fun W => hide (isPath_any t W (small_len (by have := ok.path; dsimp only at this; omega)))
  have C2 := fun W => hide (may_any 2 t W (small_len (by have := ok.path; dsimp only at this; omega)))
  have HE := @tl_emp t
  have HR : Hid (pathF ⟨k, n, v, h, p, t, b, c⟩ = (if t.toList.isEmpty then !b else if b then isP t.data.toList else mayP 2 t.data.toList)) := by rw [HE]; rfl
  clear HE
  generalize pathF ⟨k, n, v, h, p, t, b, c⟩ = r at *
  generalize isP t.data.toList = x at *
  generalize mayP 2 t.data.toList = y at *
  cases he : t.toList.isEmpty
  · rw [he] at HR
    cases b
    · go_enter Tryz.func241, Tryz.ntmps241
      go_wp2_with fail
      refine ((C2 _).out).mono ?_
      rintro e w1 ⟨rfl, hb1⟩
      go_wp2_with fail
      go_ret
      exact ⟨ret_bool HR.out.symm, below_box hb1⟩
    · go_enter Tryz.func241, Tryz.ntmps241
      go_wp2_with fail
      refine ((C1 _).out).mono ?_
      rintro e w1 ⟨rfl, hb1⟩
      go_wp2_with fail
      go_ret
      exact ⟨ret_bool HR.out.symm, below_box hb1⟩
  · rw [he] at HR
    go_enter Tryz.func241, Tryz.ntmps241
    go_wp2_with fail
    go_ret
    exact ⟨ret_bool HR.out.symm, (Below.refl _ _).alloc (Nat.le_refl _) _⟩

set_option maxHeartbeats 800000 in
theorem mayPort_any (p : Int) (w : World) :
    Calls Tryz.prog 242 #[.int .i64 p] w fun e w' => e = .returned (.bool (decide (0 ≤ p ∧ p ≤ 65535))) ∧ Below w.heap.size w w' := by
  have H1 : Hid (0 ≤ p → decide (p ≤ 65535) = decide (0 ≤ p ∧ p ≤ 65535)) := fun h => decide_eq_decide.2 (by omega)
  have H2 : Hid (¬ 0 ≤ p → false = decide (0 ≤ p ∧ p ≤ 65535)) := fun h => (decide_eq_false (by omega)).symm
  generalize decide (0 ≤ p ∧ p ≤ 65535) = r at *
  by_cases h0 : 0 ≤ p
  · have HR : Hid (decide (p ≤ 65535) = r) := H1.out h0
    go_enter Tryz.func242, Tryz.ntmps242
    go_wp2_with fail
    go_ret
    exact ⟨ret_bool HR.out, Below.refl _ _⟩
  · have HR : Hid (false = r) := H2.out h0
    go_enter Tryz.func242, Tryz.ntmps242
    go_wp2_with fail
    go_ret
    exact ⟨ret_bool HR.out, Below.refl _ _⟩

set_option maxHeartbeats 1600000 in
theorem maySet_any (f : FB) (w : World) (ok : OkFi f) :
    Calls Tryz.prog 191 #[fV f] w fun e w' => e = .returned (.bool (noneF f && (tokenB f.name && valueB f.val))) ∧ Below w.heap.size w w' := by
  obtain ⟨k, n, v, h, p, t, b, c⟩ := f
  have C1 := fun W => hide (token_b n W (small_len (by have := ok.name; dsimp only at this; omega)))
  have C2 := fun W => hide (value_b v W (small_len (by have := ok.val; dsimp only at this; omega)))
  dsimp only
  generalize tokenB n = x1 at *
  generalize valueB v = x2 at *
  generalize hx0 : noneF ⟨k, n, v, h, p, t, b, c⟩ = x0 at *
  have HEQ : decide (k = k ∧ n.toList = n.toList ∧ v.toList = v.toList ∧ h.toList = (⟨#[]⟩ : ByteArray).toList ∧ p = 0 ∧ t.toList = (⟨#[]⟩ : ByteArray).toList ∧ b = false ∧ c = 0) = x0 := by
    rw [← hx0, Bool.eq_iff_iff, decide_eq_true_eq]
    unfold noneF e0
    simp [tl_e]
  have EQ := fun W => (eqFil k p c k 0 0 n v h t n v (⟨#[]⟩ : ByteArray) (⟨#[]⟩ : ByteArray) b false W).trans (by rw [HEQ])
  clear HEQ hx0
  have m2 : ∀ q : GB ((w.alloc (.cells #[.int .i64 k, .string n, .string v, .string h, .int .i64 p, .string t, .bool b, .int .i64 c] 87)).alloc (.cells #[.int .i64 k, .string n, .string v, .string ⟨#[]⟩, .int .i64 0, .string ⟨#[]⟩, .bool false, .int .i64 0] 87)), q.W.cell? ⟨w.heap.size, 2, none⟩ = some (.string v) := fun q => (EF_at (boxF2 (f := ⟨k, n, v, h, p, t, b, c⟩) q.h)).2.2.1
  cases x0
  · go_enter Tryz.func191, Tryz.ntmps191
    go_wp2_with fail
    go_ret
    exact ⟨rfl, ((Below.refl _ _).alloc (Nat.le_refl _) _).alloc (by simp) _⟩
  cases x1
  · go_enter Tryz.func191, Tryz.ntmps191
    go_wp2_with fail
    refine (calls_gb0 ((C1 _).out)).mono ?_
    rintro e x ⟨rfl, q, rfl⟩
    go_wp2_with fail
    go_ret
    exact ⟨rfl, below_b2 q.h⟩
  · go_enter Tryz.func191, Tryz.ntmps191
    go_wp2_with fail
    refine (calls_gb0 ((C1 _).out)).mono ?_
    rintro e x ⟨rfl, q, rfl⟩
    go_wp2_with fail
    refine (calls_gb ((C2 _).out)).mono ?_
    rintro e x ⟨rfl, q, rfl⟩
    go_wp2_with fail
    go_ret
    exact ⟨rfl, below_b2 q.h⟩

set_option maxHeartbeats 1600000 in
theorem mayDrop_any (f : FB) (w : World) (ok : OkFi f) :
    Calls Tryz.prog 192 #[fV f] w fun e w' => e = .returned (.bool (ownDrop f && tokenB f.name)) ∧ Below w.heap.size w w' := by
  obtain ⟨k, n, v, h, p, t, b, c⟩ := f
  have C1 := fun W => hide (token_b n W (small_len (by have := ok.name; dsimp only at this; omega)))
  dsimp only
  generalize tokenB n = x1 at *
  generalize hx0 : ownDrop ⟨k, n, v, h, p, t, b, c⟩ = x0 at *
  have HEQ : decide (k = k ∧ n.toList = n.toList ∧ v.toList = (⟨#[]⟩ : ByteArray).toList ∧ h.toList = (⟨#[]⟩ : ByteArray).toList ∧ p = 0 ∧ t.toList = (⟨#[]⟩ : ByteArray).toList ∧ b = false ∧ c = 0) = x0 := by
    rw [← hx0, Bool.eq_iff_iff, decide_eq_true_eq]
    unfold ownDrop noneF e0
    simp [tl_e]
    exact and_comm
  have EQ := fun W => (eqFil k p c k 0 0 n v h t n (⟨#[]⟩ : ByteArray) (⟨#[]⟩ : ByteArray) (⟨#[]⟩ : ByteArray) b false W).trans (by rw [HEQ])
  clear HEQ hx0
  cases x0
  · go_enter Tryz.func192, Tryz.ntmps192
    go_wp2_with fail
    go_ret
    exact ⟨rfl, ((Below.refl _ _).alloc (Nat.le_refl _) _).alloc (by simp) _⟩
  · go_enter Tryz.func192, Tryz.ntmps192
    go_wp2_with fail
    refine (calls_gb0 ((C1 _).out)).mono ?_
    rintro e x ⟨rfl, q, rfl⟩
    go_wp2_with fail
    go_ret
    exact ⟨rfl, below_b2 q.h⟩

set_option maxHeartbeats 1600000 in
theorem mayAway_any (f : FB) (w : World) (ok : OkFi f) :
    Calls Tryz.prog 193 #[fV f] w fun e w' => e = .returned (.bool (ownAway f && (hostF f && (pathF f && (decide (0 ≤ f.port ∧ f.port ≤ 65535) && (f.code == 301 || f.code == 302)))))) ∧ Below w.heap.size w w' := by
  obtain ⟨k, n, v, h, p, t, b, c⟩ := f
  have C1 := fun W => hide (mayHost_any ⟨k, n, v, h, p, t, b, c⟩ W ok)
  have C2 := fun W => hide (mayPath_any ⟨k, n, v, h, p, t, b, c⟩ W ok)
  have C3 := fun W => hide (mayPort_any p W)
  dsimp only
  generalize hostF ⟨k, n, v, h, p, t, b, c⟩ = x1 at *
  generalize pathF ⟨k, n, v, h, p, t, b, c⟩ = x2 at *
  generalize decide (0 ≤ p ∧ p ≤ 65535) = x3 at *
  generalize hx0 : ownAway ⟨k, n, v, h, p, t, b, c⟩ = x0 at *
  have HEQ : decide (k = k ∧ n.toList = (⟨#[]⟩ : ByteArray).toList ∧ v.toList = (⟨#[]⟩ : ByteArray).toList ∧ h.toList = h.toList ∧ p = p ∧ t.toList = t.toList ∧ b = b ∧ c = c) = x0 := by
    rw [← hx0, Bool.eq_iff_iff, decide_eq_true_eq]
    unfold ownAway e0
    simp [tl_e]
  have EQ := fun W => (eqFil k p c k p c n v h t (⟨#[]⟩ : ByteArray) (⟨#[]⟩ : ByteArray) h t b b W).trans (by rw [HEQ])
  clear HEQ hx0
  have m0 : ∀ q : GB ((w.alloc (.cells #[.int .i64 k, .string n, .string v, .string h, .int .i64 p, .string t, .bool b, .int .i64 c] 87)).alloc (.cells #[.int .i64 k, .string ⟨#[]⟩, .string ⟨#[]⟩, .string h, .int .i64 p, .string t, .bool b, .int .i64 c] 87)), q.W.cell? ⟨w.heap.size, 0, none⟩ = some (.int .i64 k) := fun q => (EF_at (boxF2 (f := ⟨k, n, v, h, p, t, b, c⟩) q.h)).1
  have m1 : ∀ q : GB ((w.alloc (.cells #[.int .i64 k, .string n, .string v, .string h, .int .i64 p, .string t, .bool b, .int .i64 c] 87)).alloc (.cells #[.int .i64 k, .string ⟨#[]⟩, .string ⟨#[]⟩, .string h, .int .i64 p, .string t, .bool b, .int .i64 c] 87)), q.W.cell? ⟨w.heap.size, 1, none⟩ = some (.string n) := fun q => (EF_at (boxF2 (f := ⟨k, n, v, h, p, t, b, c⟩) q.h)).2.1
  have m2 : ∀ q : GB ((w.alloc (.cells #[.int .i64 k, .string n, .string v, .string h, .int .i64 p, .string t, .bool b, .int .i64 c] 87)).alloc (.cells #[.int .i64 k, .string ⟨#[]⟩, .string ⟨#[]⟩, .string h, .int .i64 p, .string t, .bool b, .int .i64 c] 87)), q.W.cell? ⟨w.heap.size, 2, none⟩ = some (.string v) := fun q => (EF_at (boxF2 (f := ⟨k, n, v, h, p, t, b, c⟩) q.h)).2.2.1
  have m3 : ∀ q : GB ((w.alloc (.cells #[.int .i64 k, .string n, .string v, .string h, .int .i64 p, .string t, .bool b, .int .i64 c] 87)).alloc (.cells #[.int .i64 k, .string ⟨#[]⟩, .string ⟨#[]⟩, .string h, .int .i64 p, .string t, .bool b, .int .i64 c] 87)), q.W.cell? ⟨w.heap.size, 3, none⟩ = some (.string h) := fun q => (EF_at (boxF2 (f := ⟨k, n, v, h, p, t, b, c⟩) q.h)).2.2.2.1
  have m4 : ∀ q : GB ((w.alloc (.cells #[.int .i64 k, .string n, .string v, .string h, .int .i64 p, .string t, .bool b, .int .i64 c] 87)).alloc (.cells #[.int .i64 k, .string ⟨#[]⟩, .string ⟨#[]⟩, .string h, .int .i64 p, .string t, .bool b, .int .i64 c] 87)), q.W.cell? ⟨w.heap.size, 4, none⟩ = some (.int .i64 p) := fun q => (EF_at (boxF2 (f := ⟨k, n, v, h, p, t, b, c⟩) q.h)).2.2.2.2.1
  have m5 : ∀ q : GB ((w.alloc (.cells #[.int .i64 k, .string n, .string v, .string h, .int .i64 p, .string t, .bool b, .int .i64 c] 87)).alloc (.cells #[.int .i64 k, .string ⟨#[]⟩, .string ⟨#[]⟩, .string h, .int .i64 p, .string t, .bool b, .int .i64 c] 87)), q.W.cell? ⟨w.heap.size, 5, none⟩ = some (.string t) := fun q => (EF_at (boxF2 (f := ⟨k, n, v, h, p, t, b, c⟩) q.h)).2.2.2.2.2.1
  have m6 : ∀ q : GB ((w.alloc (.cells #[.int .i64 k, .string n, .string v, .string h, .int .i64 p, .string t, .bool b, .int .i64 c] 87)).alloc (.cells #[.int .i64 k, .string ⟨#[]⟩, .string ⟨#[]⟩, .string h, .int .i64 p, .string t, .bool b, .int .i64 c] 87)), q.W.cell? ⟨w.heap.size, 6, none⟩ = some (.bool b) := fun q => (EF_at (boxF2 (f := ⟨k, n, v, h, p, t, b, c⟩) q.h)).2.2.2.2.2.2.1
  have m7 : ∀ q : GB ((w.alloc (.cells #[.int .i64 k, .string n, .string v, .string h, .int .i64 p, .string t, .bool b, .int .i64 c] 87)).alloc (.cells #[.int .i64 k, .string ⟨#[]⟩, .string ⟨#[]⟩, .string h, .int .i64 p, .string t, .bool b, .int .i64 c] 87)), q.W.cell? ⟨w.heap.size, 7, none⟩ = some (.int .i64 c) := fun q => (EF_at (boxF2 (f := ⟨k, n, v, h, p, t, b, c⟩) q.h)).2.2.2.2.2.2.2
  cases x0
  · go_enter Tryz.func193, Tryz.ntmps193
    go_wp2_with fail
    go_ret
    exact ⟨rfl, ((Below.refl _ _).alloc (Nat.le_refl _) _).alloc (by simp) _⟩
  cases x1
  · go_enter Tryz.func193, Tryz.ntmps193
    go_wp2_with fail
    refine (calls_gb0 ((C1 _).out)).mono ?_
    rintro e x ⟨rfl, q, rfl⟩
    go_wp2_with fail
    go_ret
    exact ⟨rfl, below_b2 q.h⟩
  cases x2
  · go_enter Tryz.func193, Tryz.ntmps193
    go_wp2_with fail
    refine (calls_gb0 ((C1 _).out)).mono ?_
    rintro e x ⟨rfl, q, rfl⟩
    go_wp2_with fail
    refine (calls_gb ((C2 _).out)).mono ?_
    rintro e x ⟨rfl, q, rfl⟩
    go_wp2_with fail
    go_ret
    exact ⟨rfl, below_b2 q.h⟩
  cases x3
  · go_enter Tryz.func193, Tryz.ntmps193
    go_wp2_with fail
    refine (calls_gb0 ((C1 _).out)).mono ?_
    rintro e x ⟨rfl, q, rfl⟩
    go_wp2_with fail
    refine (calls_gb ((C2 _).out)).mono ?_
    rintro e x ⟨rfl, q, rfl⟩
    go_wp2_with fail
    refine (calls_gb ((C3 _).out)).mono ?_
    rintro e x ⟨rfl, q, rfl⟩
    go_wp2_with fail
    go_ret
    exact ⟨rfl, below_b2 q.h⟩
  cases hc : (c == 301)
  · go_enter Tryz.func193, Tryz.ntmps193
    go_wp2_with fail
    refine (calls_gb0 ((C1 _).out)).mono ?_
    rintro e x ⟨rfl, q, rfl⟩
    go_wp2_with fail
    refine (calls_gb ((C2 _).out)).mono ?_
    rintro e x ⟨rfl, q, rfl⟩
    go_wp2_with fail
    refine (calls_gb ((C3 _).out)).mono ?_
    rintro e x ⟨rfl, q, rfl⟩
    go_wp2_with fail
    go_ret
    exact ⟨by simp, below_b2 q.h⟩
  · go_enter Tryz.func193, Tryz.ntmps193
    go_wp2_with fail
    refine (calls_gb0 ((C1 _).out)).mono ?_
    rintro e x ⟨rfl, q, rfl⟩
    go_wp2_with fail
    refine (calls_gb ((C2 _).out)).mono ?_
    rintro e x ⟨rfl, q, rfl⟩
    go_wp2_with fail
    refine (calls_gb ((C3 _).out)).mono ?_
    rintro e x ⟨rfl, q, rfl⟩
    go_wp2_with fail
    go_ret
    exact ⟨rfl, below_b2 q.h⟩

set_option maxHeartbeats 1600000 in
theorem maySwap_any (f : FB) (w : World) (ok : OkFi f) :
    Calls Tryz.prog 194 #[fV f] w fun e w' => e = .returned (.bool (ownSwap f && (hostF f && (pathF f && (!e0 f.host || !e0 f.path))))) ∧ Below w.heap.size w w' := by
  obtain ⟨k, n, v, h, p, t, b, c⟩ := f
  have C1 := fun W => hide (mayHost_any ⟨k, n, v, h, p, t, b, c⟩ W ok)
  have C2 := fun W => hide (mayPath_any ⟨k, n, v, h, p, t, b, c⟩ W ok)
  dsimp only
  have HE := @tl_emp h
  have HE2 := @tl_emp t
  rw [← HE, ← HE2]
  clear HE HE2
  generalize hostF ⟨k, n, v, h, p, t, b, c⟩ = x1 at *
  generalize pathF ⟨k, n, v, h, p, t, b, c⟩ = x2 at *
  generalize hx0 : ownSwap ⟨k, n, v, h, p, t, b, c⟩ = x0 at *
  have HEQ : decide (k = k ∧ n.toList = (⟨#[]⟩ : ByteArray).toList ∧ v.toList = (⟨#[]⟩ : ByteArray).toList ∧ h.toList = h.toList ∧ p = 0 ∧ t.toList = t.toList ∧ b = b ∧ c = 0) = x0 := by
    rw [← hx0, Bool.eq_iff_iff, decide_eq_true_eq]
    unfold ownSwap e0
    simp [tl_e]
  have EQ := fun W => (eqFil k p c k 0 0 n v h t (⟨#[]⟩ : ByteArray) (⟨#[]⟩ : ByteArray) h t b b W).trans (by rw [HEQ])
  clear HEQ hx0
  have m0 : ∀ q : GB ((w.alloc (.cells #[.int .i64 k, .string n, .string v, .string h, .int .i64 p, .string t, .bool b, .int .i64 c] 87)).alloc (.cells #[.int .i64 k, .string ⟨#[]⟩, .string ⟨#[]⟩, .string h, .int .i64 0, .string t, .bool b, .int .i64 0] 87)), q.W.cell? ⟨w.heap.size, 0, none⟩ = some (.int .i64 k) := fun q => (EF_at (boxF2 (f := ⟨k, n, v, h, p, t, b, c⟩) q.h)).1
  have m1 : ∀ q : GB ((w.alloc (.cells #[.int .i64 k, .string n, .string v, .string h, .int .i64 p, .string t, .bool b, .int .i64 c] 87)).alloc (.cells #[.int .i64 k, .string ⟨#[]⟩, .string ⟨#[]⟩, .string h, .int .i64 0, .string t, .bool b, .int .i64 0] 87)), q.W.cell? ⟨w.heap.size, 1, none⟩ = some (.string n) := fun q => (EF_at (boxF2 (f := ⟨k, n, v, h, p, t, b, c⟩) q.h)).2.1
  have m2 : ∀ q : GB ((w.alloc (.cells #[.int .i64 k, .string n, .string v, .string h, .int .i64 p, .string t, .bool b, .int .i64 c] 87)).alloc (.cells #[.int .i64 k, .string ⟨#[]⟩, .string ⟨#[]⟩, .string h, .int .i64 0, .string t, .bool b, .int .i64 0] 87)), q.W.cell? ⟨w.heap.size, 2, none⟩ = some (.string v) := fun q => (EF_at (boxF2 (f := ⟨k, n, v, h, p, t, b, c⟩) q.h)).2.2.1
  have m3 : ∀ q : GB ((w.alloc (.cells #[.int .i64 k, .string n, .string v, .string h, .int .i64 p, .string t, .bool b, .int .i64 c] 87)).alloc (.cells #[.int .i64 k, .string ⟨#[]⟩, .string ⟨#[]⟩, .string h, .int .i64 0, .string t, .bool b, .int .i64 0] 87)), q.W.cell? ⟨w.heap.size, 3, none⟩ = some (.string h) := fun q => (EF_at (boxF2 (f := ⟨k, n, v, h, p, t, b, c⟩) q.h)).2.2.2.1
  have m4 : ∀ q : GB ((w.alloc (.cells #[.int .i64 k, .string n, .string v, .string h, .int .i64 p, .string t, .bool b, .int .i64 c] 87)).alloc (.cells #[.int .i64 k, .string ⟨#[]⟩, .string ⟨#[]⟩, .string h, .int .i64 0, .string t, .bool b, .int .i64 0] 87)), q.W.cell? ⟨w.heap.size, 4, none⟩ = some (.int .i64 p) := fun q => (EF_at (boxF2 (f := ⟨k, n, v, h, p, t, b, c⟩) q.h)).2.2.2.2.1
  have m5 : ∀ q : GB ((w.alloc (.cells #[.int .i64 k, .string n, .string v, .string h, .int .i64 p, .string t, .bool b, .int .i64 c] 87)).alloc (.cells #[.int .i64 k, .string ⟨#[]⟩, .string ⟨#[]⟩, .string h, .int .i64 0, .string t, .bool b, .int .i64 0] 87)), q.W.cell? ⟨w.heap.size, 5, none⟩ = some (.string t) := fun q => (EF_at (boxF2 (f := ⟨k, n, v, h, p, t, b, c⟩) q.h)).2.2.2.2.2.1
  have m6 : ∀ q : GB ((w.alloc (.cells #[.int .i64 k, .string n, .string v, .string h, .int .i64 p, .string t, .bool b, .int .i64 c] 87)).alloc (.cells #[.int .i64 k, .string ⟨#[]⟩, .string ⟨#[]⟩, .string h, .int .i64 0, .string t, .bool b, .int .i64 0] 87)), q.W.cell? ⟨w.heap.size, 6, none⟩ = some (.bool b) := fun q => (EF_at (boxF2 (f := ⟨k, n, v, h, p, t, b, c⟩) q.h)).2.2.2.2.2.2.1
  have m7 : ∀ q : GB ((w.alloc (.cells #[.int .i64 k, .string n, .string v, .string h, .int .i64 p, .string t, .bool b, .int .i64 c] 87)).alloc (.cells #[.int .i64 k, .string ⟨#[]⟩, .string ⟨#[]⟩, .string h, .int .i64 0, .string t, .bool b, .int .i64 0] 87)), q.W.cell? ⟨w.heap.size, 7, none⟩ = some (.int .i64 c) := fun q => (EF_at (boxF2 (f := ⟨k, n, v, h, p, t, b, c⟩) q.h)).2.2.2.2.2.2.2
  cases x0
  · go_enter Tryz.func194, Tryz.ntmps194
    go_wp2_with fail
    go_ret
    exact ⟨rfl, ((Below.refl _ _).alloc (Nat.le_refl _) _).alloc (by simp) _⟩
  cases x1
  · go_enter Tryz.func194, Tryz.ntmps194
    go_wp2_with fail
    refine (calls_gb0 ((C1 _).out)).mono ?_
    rintro e x ⟨rfl, q, rfl⟩
    go_wp2_with fail
    go_ret
    exact ⟨rfl, below_b2 q.h⟩
  cases x2
  · go_enter Tryz.func194, Tryz.ntmps194
    go_wp2_with fail
    refine (calls_gb0 ((C1 _).out)).mono ?_
    rintro e x ⟨rfl, q, rfl⟩
    go_wp2_with fail
    refine (calls_gb ((C2 _).out)).mono ?_
    rintro e x ⟨rfl, q, rfl⟩
    go_wp2_with fail
    go_ret
    exact ⟨rfl, below_b2 q.h⟩
  cases hc : h.toList.isEmpty
  · go_enter Tryz.func194, Tryz.ntmps194
    go_wp2_with fail
    refine (calls_gb0 ((C1 _).out)).mono ?_
    rintro e x ⟨rfl, q, rfl⟩
    go_wp2_with fail
    refine (calls_gb ((C2 _).out)).mono ?_
    rintro e x ⟨rfl, q, rfl⟩
    go_wp2_with fail
    go_ret
    exact ⟨rfl, below_b2 q.h⟩
  · go_enter Tryz.func194, Tryz.ntmps194
    go_wp2_with fail
    refine (calls_gb0 ((C1 _).out)).mono ?_
    rintro e x ⟨rfl, q, rfl⟩
    go_wp2_with fail
    refine (calls_gb ((C2 _).out)).mono ?_
    rintro e x ⟨rfl, q, rfl⟩
    go_wp2_with fail
    go_ret
    exact ⟨by simp, below_b2 q.h⟩

set_option maxHeartbeats 1600000 in
theorem fmay_any (f : FB) (w : World) (ok : OkFi f) :
    Calls Tryz.prog 128 #[fV f] w fun e w' => e = .returned (.bool (mayF f)) ∧ Below w.heap.size w w' := by
  have C1 := fun W => hide (maySet_any f W ok)
  have C3 := fun W => hide (mayDrop_any f W ok)
  have C4 := fun W => hide (mayAway_any f W ok)
  have C5 := fun W => hide (maySwap_any f W ok)
  have H12 : Hid (f.kind = 1 ∨ f.kind = 2 → (noneF f && (tokenB f.name && valueB f.val)) = mayF f) := fun h => by unfold mayF; rw [if_pos h]
  have H3 : Hid (f.kind = 3 → (ownDrop f && tokenB f.name) = mayF f) := fun h => by
    unfold mayF ownDrop; rw [if_neg (by omega), if_pos h]
    cases noneF f <;> cases e0 f.val <;> cases tokenB f.name <;> rfl
  have H4 : Hid (f.kind = 4 → (ownAway f && (hostF f && (pathF f && (decide (0 ≤ f.port ∧ f.port ≤ 65535) && (f.code == 301 || f.code == 302))))) = mayF f) := fun h => by
    unfold mayF ownAway; rw [if_neg (by omega), if_neg (by omega), if_pos h, turn_walk]
    cases e0 f.name <;> cases e0 f.val <;> cases hostF f <;> cases pathF f <;> rfl
  have H5 : Hid (f.kind = 5 → (ownSwap f && (hostF f && (pathF f && (!e0 f.host || !e0 f.path)))) = mayF f) := fun h => by
    unfold mayF ownSwap; rw [if_neg (by omega), if_neg (by omega), if_neg (by omega), if_pos h, turn_walk]
    cases e0 f.name <;> cases e0 f.val <;> cases hostF f <;> cases pathF f <;> cases (f.port == 0) <;> cases (f.code == 0) <;> cases e0 f.host <;> cases e0 f.path <;> rfl
  have H0 : Hid (¬ (f.kind = 1 ∨ f.kind = 2) → f.kind ≠ 3 → f.kind ≠ 4 → f.kind ≠ 5 → false = mayF f) := fun h1 h2 h3 h4 => by
    unfold mayF; rw [if_neg h1, if_neg h2, if_neg h3, if_neg h4]
  generalize mayF f = r at *
  generalize (noneF f && (tokenB f.name && valueB f.val)) = r1 at *
  generalize (ownDrop f && tokenB f.name) = r3 at *
  generalize (ownAway f && (hostF f && (pathF f && (decide (0 ≤ f.port ∧ f.port ≤ 65535) && (f.code == 301 || f.code == 302))))) = r4 at *
  generalize (ownSwap f && (hostF f && (pathF f && (!e0 f.host || !e0 f.path)))) = r5 at *
  obtain ⟨k, n, v, h, p, t, b, c⟩ := f
  dsimp only at *
  cases h1 : (k == 1)
  · cases h2 : (k == 2)
    · cases h3 : (k == 3)
      · cases h4 : (k == 4)
        · cases h5 : (k == 5)
          · have HR : Hid (false = r) := H0.out (by simp at h1 h2; omega) (by simpa using h3) (by simpa using h4) (by simpa using h5)
            clear H12 H3 H4 H5 H0
            go_enter Tryz.func128, Tryz.ntmps128
            go_wp2_with fail
            go_ret
            exact ⟨ret_bool HR.out, (Below.refl _ _).alloc (Nat.le_refl _) _⟩
          · have HR : Hid (r5 = r) := H5.out (eq_of_beq h5)
            clear H12 H3 H4 H5 H0
            go_enter Tryz.func128, Tryz.ntmps128
            go_wp2_with fail
            refine ((C5 _).out).mono ?_
            rintro e w1 ⟨rfl, hb1⟩
            go_wp2_with fail
            go_ret
            exact ⟨ret_bool HR.out, below_box hb1⟩
        · have HR : Hid (r4 = r) := H4.out (eq_of_beq h4)
          clear H12 H3 H4 H5 H0
          go_enter Tryz.func128, Tryz.ntmps128
          go_wp2_with fail
          refine ((C4 _).out).mono ?_
          rintro e w1 ⟨rfl, hb1⟩
          go_wp2_with fail
          go_ret
          exact ⟨ret_bool HR.out, below_box hb1⟩
      · have HR : Hid (r3 = r) := H3.out (eq_of_beq h3)
        clear H12 H3 H4 H5 H0
        go_enter Tryz.func128, Tryz.ntmps128
        go_wp2_with fail
        refine ((C3 _).out).mono ?_
        rintro e w1 ⟨rfl, hb1⟩
        go_wp2_with fail
        go_ret
        exact ⟨ret_bool HR.out, below_box hb1⟩
    · have HR : Hid (r1 = r) := H12.out (.inr (eq_of_beq h2))
      clear H12 H3 H4 H5 H0
      go_enter Tryz.func128, Tryz.ntmps128
      go_wp2_with fail
      refine ((C1 _).out).mono ?_
      rintro e w1 ⟨rfl, hb1⟩
      go_wp2_with fail
      go_ret
      exact ⟨ret_bool HR.out, below_box hb1⟩
  · have HR : Hid (r1 = r) := H12.out (.inl (eq_of_beq h1))
    clear H12 H3 H4 H5 H0
    go_enter Tryz.func128, Tryz.ntmps128
    go_wp2_with fail
    refine ((C1 _).out).mono ?_
    rintro e w1 ⟨rfl, hb1⟩
    go_wp2_with fail
    go_ret
    exact ⟨ret_bool HR.out, below_box hb1⟩

end Go.Proofs.YtblmdcpcekoogaaGreatDoor
namespace Go.Proofs.YtblmdcpcekoogaaGreatDoor
set_option maxRecDepth 20000
open Go Go.RowKit Go.Shelf Fi

def elsF (f : FB) : Bool := f.kind == 4 || f.kind == 5
def clashG (f g : FB) : Bool := (elsF f && elsF g) || clash f g
theorem may_kind {f : FB} (h : mayF f = true) : f.kind = 1 ∨ f.kind = 2 ∨ f.kind = 3 ∨ f.kind = 4 ∨ f.kind = 5 := by
  unfold mayF at h
  by_cases h1 : f.kind = 1 ∨ f.kind = 2
  · omega
  · rw [if_neg h1] at h
    by_cases h2 : f.kind = 3
    · omega
    · rw [if_neg h2] at h
      by_cases h3 : f.kind = 4
      · omega
      · rw [if_neg h3] at h
        by_cases h4 : f.kind = 5
        · omega
        · rw [if_neg h4] at h
          exact absurd h (by decide)
theorem may_els {f : FB} (h : mayF f = true) : decide (3 < f.kind) = elsF f := by
  unfold elsF
  rcases may_kind h with h1 | h1 | h1 | h1 | h1 <;> rw [h1] <;> rfl
theorem turned_snoc (l : List FB) (f : FB) : turned (l ++ [f]) = turned l + if 3 < f.kind then 1 else 0 := by
  unfold turned
  rw [List.filter_append, List.length_append]
  congr 1
  by_cases h : 3 < f.kind
  · rw [if_pos h, List.filter_cons_of_pos (by simpa using h)]
    rfl
  · rw [if_neg h, List.filter_cons_of_neg (by simpa using h)]
    rfl
theorem pair_sub {l : List FB} {i j : Nat} (hj : j < l.length) (hi : i < j) : [l[i]'(by omega), l[j]].Sublist l := by
  have h1 : [l[i]'(by omega)].Sublist (l.take j) := List.singleton_sublist.2 (List.mem_take_iff_getElem.2 ⟨i, by omega, rfl⟩)
  have h2 : [l[j]].Sublist (l.drop j) := List.singleton_sublist.2 (List.mem_drop_iff_getElem.2 ⟨0, by omega, by simp⟩)
  have := h1.append h2
  rw [List.take_append_drop] at this
  exact this
theorem fall_no {l : List FB} {j : Nat} (hj : j < l.length) (h : mayF l[j] = false ∨ (l.take j).any (clashG l[j]) = true) : allF l = false := by
  cases ha : allF l
  · rfl
  · exfalso
    rcases h with h | h
    · rw [(allF_iff.1 ha).2.1 _ (List.getElem_mem hj)] at h
      exact absurd h (by decide)
    · obtain ⟨g, hg, hc⟩ := List.any_eq_true.1 h
      obtain ⟨i, hi, rfl⟩ := List.mem_take_iff_getElem.1 hg
      have hs := allF_iff.1 (all_sub ha (pair_sub hj (i := i) (by omega)))
      have m1 := hs.2.1 (l[i]'(by omega)) (by simp)
      have m2 := hs.2.1 l[j] (by simp)
      unfold clashG at hc
      rw [Bool.or_eq_true, Bool.and_eq_true] at hc
      rcases hc with ⟨c1, c2⟩ | hc
      · rw [← may_els m2, decide_eq_true_eq] at c1
        rw [← may_els m1, decide_eq_true_eq] at c2
        have := hs.2.2.1
        unfold turned at this
        rw [List.filter_cons_of_pos (by simpa using c2), List.filter_cons_of_pos (by simpa using c1)] at this
        simp at this
      · have := (List.pairwise_cons.1 hs.2.2.2).1 l[j] (by simp)
        rw [clash_comm, hc] at this
        exact absurd this (by decide)
theorem fall_long {l : List FB} (h : 8 < l.length) : allF l = false := by
  cases ha : allF l
  · rfl
  · have := (allF_iff.1 ha).1
    omega
theorem take_snocF {l : List FB} {k : Nat} (hk : k < l.length) : l.take (k + 1) = l.take k ++ [l[k]] := List.take_succ_eq_append_getElem hk
theorem fall_yes {l : List FB} (h8 : l.length ≤ 8) (h : ∀ j (hj : j < l.length), mayF l[j] = true ∧ (l.take j).any (clashG l[j]) = false) : allF l = true := by
  have H : ∀ n, n ≤ l.length → turned (l.take n) ≤ 1 ∧ (l.take n).Pairwise fun f g => clash f g = false := by
    intro n
    induction n with
    | zero => intro _; exact ⟨by simp [turned], by simp⟩
    | succ n ih =>
      intro hn
      obtain ⟨i1, i2⟩ := ih (by omega)
      obtain ⟨hm, hc⟩ := h n (by omega)
      rw [List.any_eq_false] at hc
      rw [take_snocF (by omega)]
      refine ⟨?_, ?_⟩
      · rw [turned_snoc]
        by_cases h3 : 3 < l[n].kind
        · have he : elsF l[n] = true := by rw [← may_els hm]; exact decide_eq_true h3
          have : turned (l.take n) = 0 := by
            unfold turned
            rw [List.length_eq_zero_iff, List.filter_eq_nil_iff]
            intro g hg hk
            have := hc g hg
            unfold clashG at this
            rw [he] at this
            have hmg : mayF g = true := by
              obtain ⟨i, hi, rfl⟩ := List.mem_take_iff_getElem.1 hg
              exact (h i (by omega)).1
            rw [may_els hmg] at hk
            rw [hk] at this
            simp at this
          rw [this]
          split <;> omega
        · rw [if_neg h3]
          exact i1
      · rw [List.pairwise_append]
        refine ⟨i2, by simp, fun a ha b hb => ?_⟩
        have : b = l[n] := by simpa using hb
        subst this
        have := hc a ha
        unfold clashG at this
        rw [clash_comm]
        cases hcc : clash l[n] a
        · rfl
        · rw [hcc] at this
          simp at this
  obtain ⟨t1, t2⟩ := H l.length (Nat.le_refl _)
  rw [List.take_length] at t1 t2
  refine allF_iff.2 ⟨h8, fun f hf => ?_, t1, t2⟩
  obtain ⟨i, hi, rfl⟩ := List.getElem_of_mem hf
  exact (h i hi).1

set_option maxHeartbeats 800000 in
theorem els_any (f : FB) (w : World) :
    Calls Tryz.prog 189 #[fV f] w fun e w' => e = .returned (.bool (elsF f)) ∧ Below w.heap.size w w' := by
  have HR : Hid (elsF f = (f.kind == 4 || f.kind == 5)) := rfl
  generalize elsF f = r at *
  obtain ⟨k, n, v, h, p, t, b, c⟩ := f
  dsimp only at *
  cases h4 : (k == 4)
  · rw [h4] at HR
    go_enter Tryz.func189, Tryz.ntmps189
    go_wp2_with fail
    go_ret
    exact ⟨ret_bool HR.out.symm, (Below.refl _ _).alloc (Nat.le_refl _) _⟩
  · rw [h4] at HR
    go_enter Tryz.func189, Tryz.ntmps189
    go_wp2_with fail
    go_ret
    exact ⟨ret_bool HR.out.symm, (Below.refl _ _).alloc (Nat.le_refl _) _⟩

theorem boxF3 {w : World} {f : FB} {t : Nat} {W : World} {o : Obj} (h : Below ((w.alloc o).alloc (.cells (fcells f).toArray t)).heap.size ((w.alloc o).alloc (.cells (fcells f).toArray t)) W) : EF.At W (w.heap.size + 1) 0 f := by
  have := boxF (t := t) h
  rw [World.size_alloc] at this
  exact this

set_option maxHeartbeats 1600000 in
theorem clashes_any (f g : FB) (w : World) (okf : OkFi f) (okg : OkFi g) :
    Calls Tryz.prog 127 #[fV f, fV g] w fun e w' => e = .returned (.bool (clashG f g)) ∧ Below w.heap.size w w' := by
  have C1 := fun W => hide (els_any f W)
  have C2 := fun W => hide (els_any g W)
  have C3 := fun W => hide (prSame_any f.name g.name W (small_len (by have := okf.name; omega)) (small_len (by have := okg.name; omega)))
  have HR : Hid (clashG f g = ((elsF f && elsF g) || (f.kind == g.kind && sameF f.name g.name))) := rfl
  clear okf okg
  generalize clashG f g = r at *
  generalize elsF f = x1 at *
  generalize elsF g = x2 at *
  generalize sameF f.name g.name = x3 at *
  obtain ⟨k, n, v, h, p, t, b, c⟩ := f
  obtain ⟨k', n', v', h', p', t', b', c'⟩ := g
  dsimp only at *
  have m0 : ∀ q : GB ((w.alloc (.cells #[.int .i64 k, .string n, .string v, .string h, .int .i64 p, .string t, .bool b, .int .i64 c] 87)).alloc (.cells #[.int .i64 k', .string n', .string v', .string h', .int .i64 p', .string t', .bool b', .int .i64 c'] 87)), q.W.cell? ⟨w.heap.size, 0, none⟩ = some (.int .i64 k) := fun q => (EF_at (boxF2 (f := ⟨k, n, v, h, p, t, b, c⟩) q.h)).1
  have m1 : ∀ q : GB ((w.alloc (.cells #[.int .i64 k, .string n, .string v, .string h, .int .i64 p, .string t, .bool b, .int .i64 c] 87)).alloc (.cells #[.int .i64 k', .string n', .string v', .string h', .int .i64 p', .string t', .bool b', .int .i64 c'] 87)), q.W.cell? ⟨w.heap.size, 1, none⟩ = some (.string n) := fun q => (EF_at (boxF2 (f := ⟨k, n, v, h, p, t, b, c⟩) q.h)).2.1
  have m2 : ∀ q : GB ((w.alloc (.cells #[.int .i64 k, .string n, .string v, .string h, .int .i64 p, .string t, .bool b, .int .i64 c] 87)).alloc (.cells #[.int .i64 k', .string n', .string v', .string h', .int .i64 p', .string t', .bool b', .int .i64 c'] 87)), q.W.cell? ⟨w.heap.size, 2, none⟩ = some (.string v) := fun q => (EF_at (boxF2 (f := ⟨k, n, v, h, p, t, b, c⟩) q.h)).2.2.1
  have m3 : ∀ q : GB ((w.alloc (.cells #[.int .i64 k, .string n, .string v, .string h, .int .i64 p, .string t, .bool b, .int .i64 c] 87)).alloc (.cells #[.int .i64 k', .string n', .string v', .string h', .int .i64 p', .string t', .bool b', .int .i64 c'] 87)), q.W.cell? ⟨w.heap.size, 3, none⟩ = some (.string h) := fun q => (EF_at (boxF2 (f := ⟨k, n, v, h, p, t, b, c⟩) q.h)).2.2.2.1
  have m4 : ∀ q : GB ((w.alloc (.cells #[.int .i64 k, .string n, .string v, .string h, .int .i64 p, .string t, .bool b, .int .i64 c] 87)).alloc (.cells #[.int .i64 k', .string n', .string v', .string h', .int .i64 p', .string t', .bool b', .int .i64 c'] 87)), q.W.cell? ⟨w.heap.size, 4, none⟩ = some (.int .i64 p) := fun q => (EF_at (boxF2 (f := ⟨k, n, v, h, p, t, b, c⟩) q.h)).2.2.2.2.1
  have m5 : ∀ q : GB ((w.alloc (.cells #[.int .i64 k, .string n, .string v, .string h, .int .i64 p, .string t, .bool b, .int .i64 c] 87)).alloc (.cells #[.int .i64 k', .string n', .string v', .string h', .int .i64 p', .string t', .bool b', .int .i64 c'] 87)), q.W.cell? ⟨w.heap.size, 5, none⟩ = some (.string t) := fun q => (EF_at (boxF2 (f := ⟨k, n, v, h, p, t, b, c⟩) q.h)).2.2.2.2.2.1
  have m6 : ∀ q : GB ((w.alloc (.cells #[.int .i64 k, .string n, .string v, .string h, .int .i64 p, .string t, .bool b, .int .i64 c] 87)).alloc (.cells #[.int .i64 k', .string n', .string v', .string h', .int .i64 p', .string t', .bool b', .int .i64 c'] 87)), q.W.cell? ⟨w.heap.size, 6, none⟩ = some (.bool b) := fun q => (EF_at (boxF2 (f := ⟨k, n, v, h, p, t, b, c⟩) q.h)).2.2.2.2.2.2.1
  have m7 : ∀ q : GB ((w.alloc (.cells #[.int .i64 k, .string n, .string v, .string h, .int .i64 p, .string t, .bool b, .int .i64 c] 87)).alloc (.cells #[.int .i64 k', .string n', .string v', .string h', .int .i64 p', .string t', .bool b', .int .i64 c'] 87)), q.W.cell? ⟨w.heap.size, 7, none⟩ = some (.int .i64 c) := fun q => (EF_at (boxF2 (f := ⟨k, n, v, h, p, t, b, c⟩) q.h)).2.2.2.2.2.2.2
  have n0 : ∀ q : GB ((w.alloc (.cells #[.int .i64 k, .string n, .string v, .string h, .int .i64 p, .string t, .bool b, .int .i64 c] 87)).alloc (.cells #[.int .i64 k', .string n', .string v', .string h', .int .i64 p', .string t', .bool b', .int .i64 c'] 87)), q.W.cell? ⟨w.heap.size + 1, 0, none⟩ = some (.int .i64 k') := fun q => (EF_at (boxF3 (f := ⟨k', n', v', h', p', t', b', c'⟩) q.h)).1
  have n1 : ∀ q : GB ((w.alloc (.cells #[.int .i64 k, .string n, .string v, .string h, .int .i64 p, .string t, .bool b, .int .i64 c] 87)).alloc (.cells #[.int .i64 k', .string n', .string v', .string h', .int .i64 p', .string t', .bool b', .int .i64 c'] 87)), q.W.cell? ⟨w.heap.size + 1, 1, none⟩ = some (.string n') := fun q => (EF_at (boxF3 (f := ⟨k', n', v', h', p', t', b', c'⟩) q.h)).2.1
  have n2 : ∀ q : GB ((w.alloc (.cells #[.int .i64 k, .string n, .string v, .string h, .int .i64 p, .string t, .bool b, .int .i64 c] 87)).alloc (.cells #[.int .i64 k', .string n', .string v', .string h', .int .i64 p', .string t', .bool b', .int .i64 c'] 87)), q.W.cell? ⟨w.heap.size + 1, 2, none⟩ = some (.string v') := fun q => (EF_at (boxF3 (f := ⟨k', n', v', h', p', t', b', c'⟩) q.h)).2.2.1
  have n3 : ∀ q : GB ((w.alloc (.cells #[.int .i64 k, .string n, .string v, .string h, .int .i64 p, .string t, .bool b, .int .i64 c] 87)).alloc (.cells #[.int .i64 k', .string n', .string v', .string h', .int .i64 p', .string t', .bool b', .int .i64 c'] 87)), q.W.cell? ⟨w.heap.size + 1, 3, none⟩ = some (.string h') := fun q => (EF_at (boxF3 (f := ⟨k', n', v', h', p', t', b', c'⟩) q.h)).2.2.2.1
  have n4 : ∀ q : GB ((w.alloc (.cells #[.int .i64 k, .string n, .string v, .string h, .int .i64 p, .string t, .bool b, .int .i64 c] 87)).alloc (.cells #[.int .i64 k', .string n', .string v', .string h', .int .i64 p', .string t', .bool b', .int .i64 c'] 87)), q.W.cell? ⟨w.heap.size + 1, 4, none⟩ = some (.int .i64 p') := fun q => (EF_at (boxF3 (f := ⟨k', n', v', h', p', t', b', c'⟩) q.h)).2.2.2.2.1
  have n5 : ∀ q : GB ((w.alloc (.cells #[.int .i64 k, .string n, .string v, .string h, .int .i64 p, .string t, .bool b, .int .i64 c] 87)).alloc (.cells #[.int .i64 k', .string n', .string v', .string h', .int .i64 p', .string t', .bool b', .int .i64 c'] 87)), q.W.cell? ⟨w.heap.size + 1, 5, none⟩ = some (.string t') := fun q => (EF_at (boxF3 (f := ⟨k', n', v', h', p', t', b', c'⟩) q.h)).2.2.2.2.2.1
  have n6 : ∀ q : GB ((w.alloc (.cells #[.int .i64 k, .string n, .string v, .string h, .int .i64 p, .string t, .bool b, .int .i64 c] 87)).alloc (.cells #[.int .i64 k', .string n', .string v', .string h', .int .i64 p', .string t', .bool b', .int .i64 c'] 87)), q.W.cell? ⟨w.heap.size + 1, 6, none⟩ = some (.bool b') := fun q => (EF_at (boxF3 (f := ⟨k', n', v', h', p', t', b', c'⟩) q.h)).2.2.2.2.2.2.1
  have n7 : ∀ q : GB ((w.alloc (.cells #[.int .i64 k, .string n, .string v, .string h, .int .i64 p, .string t, .bool b, .int .i64 c] 87)).alloc (.cells #[.int .i64 k', .string n', .string v', .string h', .int .i64 p', .string t', .bool b', .int .i64 c'] 87)), q.W.cell? ⟨w.heap.size + 1, 7, none⟩ = some (.int .i64 c') := fun q => (EF_at (boxF3 (f := ⟨k', n', v', h', p', t', b', c'⟩) q.h)).2.2.2.2.2.2.2
  cases hk : (k == k')
  all_goals rw [hk] at HR
  · cases x1
    · go_enter Tryz.func127, Tryz.ntmps127
      go_wp2_with fail
      refine (calls_gb0 ((C1 _).out)).mono ?_
      rintro e x ⟨rfl, q, rfl⟩
      go_wp2_with fail
      go_ret
      exact ⟨ret_bool HR.out.symm, below_b2 q.h⟩
    cases x2
    · go_enter Tryz.func127, Tryz.ntmps127
      go_wp2_with fail
      refine (calls_gb0 ((C1 _).out)).mono ?_
      rintro e x ⟨rfl, q, rfl⟩
      go_wp2_with fail
      refine (calls_gb ((C2 _).out)).mono ?_
      rintro e x ⟨rfl, q, rfl⟩
      go_wp2_with fail
      go_ret
      exact ⟨ret_bool HR.out.symm, below_b2 q.h⟩
    · go_enter Tryz.func127, Tryz.ntmps127
      go_wp2_with fail
      refine (calls_gb0 ((C1 _).out)).mono ?_
      rintro e x ⟨rfl, q, rfl⟩
      go_wp2_with fail
      refine (calls_gb ((C2 _).out)).mono ?_
      rintro e x ⟨rfl, q, rfl⟩
      go_wp2_with fail
      go_ret
      exact ⟨ret_bool HR.out.symm, below_b2 q.h⟩
  · cases x1
    · go_enter Tryz.func127, Tryz.ntmps127
      go_wp2_with fail
      refine (calls_gb0 ((C1 _).out)).mono ?_
      rintro e x ⟨rfl, q, rfl⟩
      go_wp2_with fail
      refine (calls_gb ((C3 _).out)).mono ?_
      rintro e x ⟨rfl, q, rfl⟩
      go_wp2_with fail
      go_ret
      exact ⟨ret_bool HR.out.symm, below_b2 q.h⟩
    cases x2
    · go_enter Tryz.func127, Tryz.ntmps127
      go_wp2_with fail
      refine (calls_gb0 ((C1 _).out)).mono ?_
      rintro e x ⟨rfl, q, rfl⟩
      go_wp2_with fail
      refine (calls_gb ((C2 _).out)).mono ?_
      rintro e x ⟨rfl, q, rfl⟩
      go_wp2_with fail
      refine (calls_gb ((C3 _).out)).mono ?_
      rintro e x ⟨rfl, q, rfl⟩
      go_wp2_with fail
      go_ret
      exact ⟨ret_bool HR.out.symm, below_b2 q.h⟩
    · go_enter Tryz.func127, Tryz.ntmps127
      go_wp2_with fail
      refine (calls_gb0 ((C1 _).out)).mono ?_
      rintro e x ⟨rfl, q, rfl⟩
      go_wp2_with fail
      refine (calls_gb ((C2 _).out)).mono ?_
      rintro e x ⟨rfl, q, rfl⟩
      go_wp2_with fail
      go_ret
      exact ⟨ret_bool HR.out.symm, below_b2 q.h⟩

/-- the closure of All: its filter lies at g -/
abbrev clV (g : Nat) : Value := .func (.func 126) #[] #[.pointer (some ⟨g, 0, none⟩)]
set_option maxHeartbeats 800000 in
theorem allClosure_any (f g : FB) (b : Nat) (w : World) (okf : OkFi f) (okg : OkFi g) (hb : b < w.heap.size) (hat : EF.At w b 0 f) :
    Calls Tryz.prog 126 #[fV g, .pointer (some ⟨b, 0, none⟩)] w fun e w' => e = .returned (.bool (clashG f g)) ∧ Below w.heap.size w w' := by
  have C1 := fun W => hide (clashes_any f g W okf okg)
  obtain ⟨c0, c1, c2, c3, c4, c5, c6, c7⟩ := EF_at (hat.below hb ((Below.refl _ w).alloc (Nat.le_refl _) (.cells (fcells g).toArray 87)))
  obtain ⟨k, n, v, h, p, t, b, c⟩ := f
  obtain ⟨k', n', v', h', p', t', b', c'⟩ := g
  simp only [fcells, Nat.zero_add] at c0 c1 c2 c3 c4 c5 c6 c7
  clear hat okf okg
  generalize clashG ⟨k, n, v, h, p, t, b, c⟩ ⟨k', n', v', h', p', t', b', c'⟩ = r at *
  go_enter Tryz.func126, Tryz.ntmps126
  go_wp2_with fail
  refine ((C1 _).out).mono ?_
  rintro e w1 ⟨rfl, hb1⟩
  go_wp2_with fail
  go_ret
  exact ⟨rfl, below_box hb1⟩

/-- where the first one of them stands -/
def idxP (P : FB → Bool) (l : List FB) : Int := if l.any P then (l.findIdx P : Nat) else -1
theorem idxP_yes {P : FB → Bool} {l : List FB} {k : Nat} (hk : k < l.length) (h : ∀ j (h : j < l.length), j < k → P l[j] = false) (hs : P l[k] = true) : idxP P l = (k : Int) := by
  have h1 : l.any P = true := List.any_eq_true.2 ⟨_, List.getElem_mem hk, hs⟩
  have h2 : l.findIdx P = k := by
    rw [List.findIdx_eq hk]
    exact ⟨hs, fun j hj => h j (by omega) hj⟩
  unfold idxP
  rw [if_pos h1, h2]
theorem idxP_no {P : FB → Bool} {l : List FB} (h : ∀ j (h : j < l.length), P l[j] = false) : idxP P l = -1 := by
  have h1 : l.any P = false := by
    rw [List.any_eq_false]
    intro p hp
    obtain ⟨j, hj, rfl⟩ := List.getElem_of_mem hp
    rw [h j hj]
    decide
  unfold idxP
  rw [h1]
  rfl
theorem idxP_ge (P : FB → Bool) (l : List FB) : decide (0 ≤ idxP P l) = l.any P := by
  unfold idxP
  cases l.any P
  · rfl
  · simp

set_option maxHeartbeats 1600000 in
theorem idxAll_any (P : FB → Bool) (gb : Nat) (v : Value) (l : List FB) (w : World) (hv : Sl EF w v l) (go : ∀ f ∈ l, ∀ W, Below w.heap.size w W → Calls Tryz.prog 126 #[fV f, .pointer (some ⟨gb, 0, none⟩)] W fun e w' => e = .returned (.bool (P f)) ∧ Below W.heap.size W w') :
    Calls Tryz.prog 41 #[v, .func (.func 126) #[] #[.pointer (some ⟨gb, 0, none⟩)]] w fun e w' => e = .returned (.int .i64 (idxP P l)) ∧ Below w.heap.size w w' := by
  have hlen := hv.len
  obtain ⟨a, cap, rfl, _, _, hc⟩ := hv
  have HC := hide hc
  have GO := hide go
  clear hc go
  have ent : ∀ (args : Array Value) (w : World), (callFunc 126 args).run Tryz.prog w = .ok (.enter 126 args) w := fun args w => enter_any Tryz.func126 (by kernel_rfl) rfl args w
  go_enter Tryz.func41, Tryz.ntmps41
  go_wp2_with fail
  go_loopw [8] (fun i wr => ∃ k : Nat, k ≤ l.length ∧ i = .int .i64 k ∧ Hid (∀ j (h : j < l.length), j < k → P l[j] = false) ∧ Below w.heap.size w wr) (fun i _ => l.length - (intOf i).toNat)
  case atStart => exact ⟨0, Nat.zero_le _, rfl, fun j h hj => absurd hj (by omega), Below.refl _ _⟩
  case round =>
    obtain ⟨k, hk, rfl, hno, hB⟩ := hrel
    by_cases hlt : k < l.length
    · have hlt' : (k : Int) < (l.length : Int) := by omega
      obtain ⟨_, gg, off, rfl, hgg, hat⟩ := HC.out k hlt
      obtain ⟨c0, c1, c2, c3, c4, c5, c6, c7⟩ := EF_at (show EF.At wr gg (off + k * 8) l[k] from fun j u hu => (hB.cell (p := ⟨gg, off + k * 8 + j, none⟩) hgg).trans (hat j u hu))
      have C1 := hide (GO.out l[k] (List.getElem_mem hlt) wr hB)
      have HS : Hid (∀ x, P l[k] = x → P l[k] = x) := fun _ h => h
      clear hat
      cases hs : P l[k]
      · have HN : Hid (∀ j (h : j < l.length), j < k + 1 → P l[j] = false) := fun j h hj => by
          rcases Nat.lt_or_ge j k with h1 | h1
          · exact hno.out j h h1
          · obtain rfl : j = k := by omega
            exact hs
        rw [hs] at C1
        clear hs HS
        generalize l[k] = fk at *
        obtain ⟨k0, n0, v0, h0, p0, t0, b0, z0⟩ := fk
        dsimp only at *
        go_wp2_with fail
        refine (C1.out).mono ?_
        rintro e w1 ⟨rfl, hb1⟩
        go_wp2_with fail
        exact ⟨⟨k + 1, by omega, by go_num, HN.out, bb2 hB hb1⟩, by simp [intOf]; omega⟩
      · have HI : Hid ((k : Int) = idxP P l) := (idxP_yes hlt hno.out hs).symm
        rw [hs] at C1
        clear hs HS
        generalize l[k] = fk at *
        obtain ⟨k0, n0, v0, h0, p0, t0, b0, z0⟩ := fk
        dsimp only at *
        go_wp2_with fail
        refine (C1.out).mono ?_
        rintro e w1 ⟨rfl, hb1⟩
        go_wp2_with fail
        go_ret
        exact ⟨ret_int HI.out, bb2 hB hb1⟩
    · have hlt' : ¬ (k : Int) < (l.length : Int) := by omega
      have HI : Hid (-1 = idxP P l) := (idxP_no (fun j h => hno.out j h (by omega))).symm
      go_wp2_with fail
      go_ret
      exact ⟨ret_int HI.out, hB⟩

set_option maxHeartbeats 1600000 in
theorem idxAway_any (P : FB → Bool) (v : Value) (l : List FB) (w : World) (hv : Sl EF w v l) (go : ∀ f ∈ l, ∀ W, Below w.heap.size w W → Calls Tryz.prog 42 #[fV f] W fun e w' => e = .returned (.bool (P f)) ∧ Below W.heap.size W w') :
    Calls Tryz.prog 41 #[v, .func (.func 42) #[] #[]] w fun e w' => e = .returned (.int .i64 (idxP P l)) ∧ Below w.heap.size w w' := by
  have hlen := hv.len
  obtain ⟨a, cap, rfl, _, _, hc⟩ := hv
  have HC := hide hc
  have GO := hide go
  clear hc go
  have ent : ∀ (args : Array Value) (w : World), (callFunc 42 args).run Tryz.prog w = .ok (.enter 42 args) w := fun args w => enter_any Tryz.func42 (by kernel_rfl) rfl args w
  go_enter Tryz.func41, Tryz.ntmps41
  go_wp2_with fail
  go_loopw [8] (fun i wr => ∃ k : Nat, k ≤ l.length ∧ i = .int .i64 k ∧ Hid (∀ j (h : j < l.length), j < k → P l[j] = false) ∧ Below w.heap.size w wr) (fun i _ => l.length - (intOf i).toNat)
  case atStart => exact ⟨0, Nat.zero_le _, rfl, fun j h hj => absurd hj (by omega), Below.refl _ _⟩
  case round =>
    obtain ⟨k, hk, rfl, hno, hB⟩ := hrel
    by_cases hlt : k < l.length
    · have hlt' : (k : Int) < (l.length : Int) := by omega
      obtain ⟨_, gg, off, rfl, hgg, hat⟩ := HC.out k hlt
      obtain ⟨c0, c1, c2, c3, c4, c5, c6, c7⟩ := EF_at (show EF.At wr gg (off + k * 8) l[k] from fun j u hu => (hB.cell (p := ⟨gg, off + k * 8 + j, none⟩) hgg).trans (hat j u hu))
      have C1 := hide (GO.out l[k] (List.getElem_mem hlt) wr hB)
      have HS : Hid (∀ x, P l[k] = x → P l[k] = x) := fun _ h => h
      clear hat
      cases hs : P l[k]
      · have HN : Hid (∀ j (h : j < l.length), j < k + 1 → P l[j] = false) := fun j h hj => by
          rcases Nat.lt_or_ge j k with h1 | h1
          · exact hno.out j h h1
          · obtain rfl : j = k := by omega
            exact hs
        rw [hs] at C1
        clear hs HS
        generalize l[k] = fk at *
        obtain ⟨k0, n0, v0, h0, p0, t0, b0, z0⟩ := fk
        dsimp only at *
        go_wp2_with fail
        refine (C1.out).mono ?_
        rintro e w1 ⟨rfl, hb1⟩
        go_wp2_with fail
        exact ⟨⟨k + 1, by omega, by go_num, HN.out, bb2 hB hb1⟩, by simp [intOf]; omega⟩
      · have HI : Hid ((k : Int) = idxP P l) := (idxP_yes hlt hno.out hs).symm
        rw [hs] at C1
        clear hs HS
        generalize l[k] = fk at *
        obtain ⟨k0, n0, v0, h0, p0, t0, b0, z0⟩ := fk
        dsimp only at *
        go_wp2_with fail
        refine (C1.out).mono ?_
        rintro e w1 ⟨rfl, hb1⟩
        go_wp2_with fail
        go_ret
        exact ⟨ret_int HI.out, bb2 hB hb1⟩
    · have hlt' : ¬ (k : Int) < (l.length : Int) := by omega
      have HI : Hid (-1 = idxP P l) := (idxP_no (fun j h => hno.out j h (by omega))).symm
      go_wp2_with fail
      go_ret
      exact ⟨ret_int HI.out, hB⟩

set_option maxHeartbeats 800000 in
theorem contains_any (f : FB) (b : Nat) (v : Value) (l : List FB) (w : World) (okf : OkFi f) (okl : ∀ g ∈ l, OkFi g) (hb : b < w.heap.size) (hat : EF.At w b 0 f) (hv : Sl EF w v l) :
    Calls Tryz.prog 129 #[v, clV b] w fun e w' => e = .returned (.bool (l.any (clashG f))) ∧ Below w.heap.size w w' := by
  have C1 := hide (idxAll_any (clashG f) b v l w hv (fun g hg W hW => allClosure_any f g b W okf (okl g hg) (Nat.lt_of_lt_of_le hb hW.size) (hat.below hb hW)))
  have HE := hide (idxP_ge (clashG f) l)
  clear hv hat
  go_enter Tryz.func129, Tryz.ntmps129
  go_wp2_with fail
  refine (C1.out).mono ?_
  rintro e w1 ⟨rfl, hb1⟩
  go_wp2_with fail
  go_ret
  exact ⟨ret_bool HE.out, hb1⟩

set_option maxHeartbeats 3200000 in
theorem fall_any (v : Value) (l : List FB) (w : World) (hv : Sl EF w v l) (ok : ∀ f ∈ l, OkFi f) :
    Calls Tryz.prog 83 #[v] w fun e w' => e = .returned (.bool (allF l)) ∧ Below w.heap.size w w' := by
  have hlen := hv.len
  have HV := hide hv
  obtain ⟨a, cap, rfl, hcap, hmax, hc⟩ := hv
  have HC := hide hc
  have HOK := hide ok
  clear hc ok
  have hcap' : (l.length : Int) ≤ (cap : Int) := by omega
  have hmf : ∀ (fn : Fn) (first cap : Array Value) (w : World), (Instr.makeFunc fn first cap).run Tryz.prog w = .ok (.func fn first cap) w := fun _ _ _ _ => rfl
  by_cases h8 : 8 < l.length
  · have HR : Hid (false = allF l) := (fall_long h8).symm
    have h8' : (8 : Int) < (l.length : Int) := by omega
    go_enter Tryz.func83, Tryz.ntmps83
    go_wp2_with fail
    go_ret
    exact ⟨ret_bool HR.out, Below.refl _ _⟩
  have h8' : ¬ (8 : Int) < (l.length : Int) := by omega
  go_enter Tryz.func83, Tryz.ntmps83
  go_wp2_with fail
  go_loopw [11] (fun i wr => ∃ k : Nat, k ≤ l.length ∧ i = .int .i64 k ∧ Hid (∀ j (hj : j < l.length), j < k → mayF l[j] = true ∧ (l.take j).any (clashG l[j]) = false) ∧ Below w.heap.size w wr) (fun i _ => l.length - (intOf i).toNat)
  case atStart => exact ⟨0, Nat.zero_le _, rfl, fun j h hj => absurd hj (by omega), Below.refl _ _⟩
  case round =>
    obtain ⟨k, hk, rfl, hno, hB⟩ := hrel
    by_cases hlt : k < l.length
    · have hlt' : (k : Int) < (l.length : Int) := by omega
      have hkc : (k : Int) ≤ (cap : Int) := by omega
      obtain ⟨_, gg, off, rfl, hgg, hat⟩ := HC.out k hlt
      obtain ⟨c0, c1, c2, c3, c4, c5, c6, c7⟩ := EF_at (show EF.At wr gg (off + k * 8) l[k] from fun j u hu => (hB.cell (p := ⟨gg, off + k * 8 + j, none⟩) hgg).trans (hat j u hu))
      have okk := HOK.out l[k] (List.getElem_mem hlt)
      have B1 : Below wr.heap.size wr (wr.alloc (.cells (fcells l[k]).toArray 87)) := (Below.refl _ wr).alloc (Nat.le_refl _) _
      have A1 : EF.At (wr.alloc (.cells (fcells l[k]).toArray 87)) wr.heap.size 0 l[k] := EF_block (alloc_new wr _)
      have C1 := fun W => hide (fmay_any l[k] W okk)
      have C2 := fun W (h : Below (wr.alloc (.cells (fcells l[k]).toArray 87)).heap.size (wr.alloc (.cells (fcells l[k]).toArray 87)) W) => hide (contains_any l[k] wr.heap.size (.slice (some ⟨gg, off, none⟩) k cap) (l.take k) W okk (fun g hg => HOK.out g (List.mem_of_mem_take hg)) (by have := h.size; simp at this; omega) (A1.below (by simp) h) ((HV.out.pre (k := k) (by omega)).below (bb2 hB (bb2 B1 h))))
      have HY : Hid (mayF l[k] = true → (l.take k).any (clashG l[k]) = false → ∀ j (hj : j < l.length), j < k + 1 → mayF l[j] = true ∧ (l.take j).any (clashG l[j]) = false) := fun h1 h2 j h hj => by
        rcases Nat.lt_or_ge j k with h3 | h3
        · exact hno.out j h h3
        · obtain rfl : j = k := by omega
          exact ⟨h1, h2⟩
      have HN := hide (fun h => fall_no (l := l) (j := k) hlt h)
      clear hat A1
      generalize (l.take k).any (clashG l[k]) = x2 at *
      generalize mayF l[k] = x1 at *
      generalize l[k] = fk at *
      obtain ⟨k0, n0, v0, h0, p0, t0, b0, z0⟩ := fk
      dsimp only at *
      cases x1
      · have HR : Hid (false = allF l) := (HN.out (.inl rfl)).symm
        go_wp2_with fail
        refine ((C1 _).out).mono ?_
        rintro e w1 ⟨rfl, hb1⟩
        go_wp2_with fail
        go_ret
        exact ⟨ret_bool HR.out, bb2 hB (below_box hb1)⟩
      cases x2
      · have HZ := hide (HY.out rfl rfl)
        go_wp2_with fail
        refine ((C1 _).out).mono ?_
        rintro e w1 ⟨rfl, hb1⟩
        go_wp2_with fail
        refine ((C2 _ hb1).out).mono ?_
        rintro e w2 ⟨rfl, hb2⟩
        go_wp2_with fail
        exact ⟨⟨k + 1, by omega, by go_num, HZ.out, bb2 hB (below_box (bb2 hb1 hb2))⟩, by simp [intOf]; omega⟩
      · have HR : Hid (false = allF l) := (HN.out (.inr rfl)).symm
        go_wp2_with fail
        refine ((C1 _).out).mono ?_
        rintro e w1 ⟨rfl, hb1⟩
        go_wp2_with fail
        refine ((C2 _ hb1).out).mono ?_
        rintro e w2 ⟨rfl, hb2⟩
        go_wp2_with fail
        go_ret
        exact ⟨ret_bool HR.out, bb2 hB (below_box (bb2 hb1 hb2))⟩
    · have hlt' : ¬ (k : Int) < (l.length : Int) := by omega
      have HR : Hid (true = allF l) := (fall_yes (by omega) (fun j h => hno.out j h (by omega))).symm
      go_wp2_with fail
      go_ret
      exact ⟨ret_bool HR.out, hB⟩

end Go.Proofs.YtblmdcpcekoogaaGreatDoor
namespace Go.Proofs.YtblmdcpcekoogaaGreatDoor
set_option maxRecDepth 20000
open Go Go.RowKit Go.Shelf

abbrev dF (n : Nat) : Value := .func (.func n) #[] #[]
/-- the map's entries -/
abbrev deedEs : Array MapEntry := #[⟨.int .i64 1, dF 85, 0⟩, ⟨.int .i64 2, dF 86, 1⟩, ⟨.int .i64 3, dF 87, 2⟩, ⟨.int .i64 4, dF 88, 3⟩, ⟨.int .i64 5, dF 89, 4⟩]

theorem setObj_new (w : World) (o o' : Obj) : { (w.alloc o) with heap := (w.alloc o).heap.setIfInBounds w.heap.size o' } = w.alloc o' := by
  show World.mk .. = World.mk ..
  congr 1
  show (w.heap.push o).setIfInBounds w.heap.size o' = w.heap.push o'
  apply Array.ext
  · simp
  · intro i h1 h2
    rw [Array.getElem_setIfInBounds (by simpa using h1)]
    by_cases he : w.heap.size = i
    · subst he
      simp
    · simp only [if_neg he]
      have hi : i < w.heap.size := by simp at h2; omega
      rw [Array.getElem_push_lt hi, Array.getElem_push_lt hi]

theorem run_upd (w : World) (es : Array MapEntry) (c : Nat) (i : Int) (v : Value) (h : Instr.findNow (.int .i64) (.int .i64 i) es.toList 0 = some none) :
    (Instr.mapUpdate 84 (.map (some w.heap.size)) (.int .i64 i) v).run Tryz.prog (w.alloc (.map es c)) = .ok () (w.alloc (.map (es.push ⟨.int .i64 i, v, c⟩) (c + 1))) := by
  have u3 := Tryz.underlying3
  have hb : (w.alloc (.map es c)).heap[w.heap.size]? = some (.map es c) := alloc_new w _
  have hg := MapKept.run_getObj_map (P := Tryz.prog) hb
  have hs := MapKept.run_setObj_map (P := Tryz.prog) (.map (es.push ⟨.int .i64 i, v, c⟩) (c + 1)) hb
  have hc := MapKept.run_checkKey (w := w.alloc (.map es c)) (k := .int .i64 i) u3 (by trivial) false 9999
  rw [setObj_new] at hs
  unfold Instr.mapUpdate Instr.findKey
  simp only [Sem.run_bind, run_underlying Tryz.underlying84, Result.andThen_ok, hg, hc, run_underlying u3, h, Sem.run_pure, hs]

set_option maxHeartbeats 1600000 in
theorem deeds_any (w : World) :
    Calls Tryz.prog 35 #[] w fun e w' => e = .returned (.map (some w.heap.size)) ∧ w' = w.alloc (.map deedEs 5) := by
  have hmm := @run_makeMap Tryz.prog
  have h1 := run_upd w #[] 0 1 (dF 85) rfl
  have h2 := run_upd w #[⟨.int .i64 1, dF 85, 0⟩] 1 2 (dF 86) rfl
  have h3 := run_upd w #[⟨.int .i64 1, dF 85, 0⟩, ⟨.int .i64 2, dF 86, 1⟩] 2 3 (dF 87) rfl
  have h4 := run_upd w #[⟨.int .i64 1, dF 85, 0⟩, ⟨.int .i64 2, dF 86, 1⟩, ⟨.int .i64 3, dF 87, 2⟩] 3 4 (dF 88) rfl
  have h5 := run_upd w #[⟨.int .i64 1, dF 85, 0⟩, ⟨.int .i64 2, dF 86, 1⟩, ⟨.int .i64 3, dF 87, 2⟩, ⟨.int .i64 4, dF 88, 3⟩] 4 5 (dF 89) rfl
  simp only [List.push_toArray, List.nil_append, Nat.zero_add] at h1
  simp only [List.push_toArray, List.cons_append, List.nil_append, Nat.reduceAdd] at h2
  simp only [List.push_toArray, List.cons_append, List.nil_append, Nat.reduceAdd] at h3
  simp only [List.push_toArray, List.cons_append, List.nil_append, Nat.reduceAdd] at h4
  simp only [List.push_toArray, List.cons_append, List.nil_append, Nat.reduceAdd] at h5
  go_enter Tryz.func35, Tryz.ntmps35
  go_wp2_with fail
  go_ret
  exact ⟨rfl, rfl⟩

/-- what is found there -/
theorem deeds_look {W : World} {m : Nat} (hb : W.heap[m]? = some (.map deedEs 5)) :
    (Instr.lookup 84 (.map (some m)) (.int .i64 1) false).run Tryz.prog W = .ok (dF 85) W ∧
    (Instr.lookup 84 (.map (some m)) (.int .i64 2) false).run Tryz.prog W = .ok (dF 86) W ∧
    (Instr.lookup 84 (.map (some m)) (.int .i64 3) false).run Tryz.prog W = .ok (dF 87) W ∧
    (Instr.lookup 84 (.map (some m)) (.int .i64 4) false).run Tryz.prog W = .ok (dF 88) W ∧
    (Instr.lookup 84 (.map (some m)) (.int .i64 5) false).run Tryz.prog W = .ok (dF 89) W := by
  have u3 := Tryz.underlying3
  have hg := MapKept.run_getObj_map (P := Tryz.prog) hb
  have hc := fun (i : Int) => MapKept.run_checkKey (w := W) (k := .int .i64 i) u3 (by trivial) false 9999
  have hf : ∀ (i : Int) (n : Nat), Instr.findNow (.int .i64) (.int .i64 i) deedEs.toList 0 = some (some ((i - 1).toNat, dF n)) → (Instr.lookup 84 (.map (some m)) (.int .i64 i) false).run Tryz.prog W = .ok (dF n) W := by
    intro i n h
    have he : deedEs.isEmpty = false := rfl
    unfold Instr.lookup Instr.findKey
    simp only [Sem.run_bind, run_underlying Tryz.underlying84, Result.andThen_ok, hg, he, hc, run_underlying u3, h, Sem.run_pure]
    rfl
  exact ⟨hf 1 _ rfl, hf 2 _ rfl, hf 3 _ rfl, hf 4 _ rfl, hf 5 _ rfl⟩

end Go.Proofs.YtblmdcpcekoogaaGreatDoor
namespace Go.Proofs.YtblmdcpcekoogaaGreatDoor
set_option maxRecDepth 20000
open Go Go.RowKit Go.Shelf Fi

set_option maxHeartbeats 800000 in
theorem clone_any (v : Value) (l : List PairB) (w : World) (hv : Prs w v l) (hl : l.length ≤ 1000) :
    Calls Tryz.prog 34 #[v] w fun e w' => ∃ v', e = .returned v' ∧ RowP w' v' l ∧ Below w.heap.size w w' := by
  have HV := hide hv
  have qS : ∀ (w : World) (a : Option Addr) (n c : Nat), (binOp .eql 25 (.slice a n c) (.slice none 0 0)).run Tryz.prog w = .ok (.bool a.isNone) w := fun w a n c => Lib.run_eql_slice_nil w _ _ a n c 0 0 Tryz.underlying25
  obtain ⟨a, cap, rfl, _, _, hc⟩ := hv
  cases a with
  | none =>
    have : l = [] := by
      cases l with
      | nil => rfl
      | cons p l =>
        obtain ⟨g, off, h1, _⟩ := hc 0 (by simp)
        exact absurd h1 (by simp)
    subst this
    clear hc
    go_enter Tryz.func34, Tryz.ntmps34
    go_wp2_with fail
    go_ret
    exact ⟨_, rfl, ⟨w.heap.size, World.ownsRow_nil _ _ _ _⟩, Below.refl _ _⟩
  | some ad =>
    clear hc
    go_enter Tryz.func34, Tryz.ntmps34
    go_wp2_with (at_builtin; refine wpList_append_prs _ _ _ rfl (by rfl) w.heap.size _ _ [] rfl (owns_emptyT _ _ _ _ rfl) _ _ rfl (HV.out.below ((Below.refl _ _).alloc (Nat.le_refl _) _)) (by omega) (by simp) ?_; intro v' w3 hown' hgrow)
    go_ret
    refine ⟨_, rfl, RowP.mk (by simp) hown', ((Below.refl _ _).alloc (Nat.le_refl _) _).grown hgrow (by simp) (fun j e => ?_)⟩
    have := ownBlock_ge (owns_emptyT 83 2 w w.heap.size rfl) e
    simpa using this

/-- a filter's own host, or the one that was asked for -/
def hostOf (f : FB) (a : ByteArray) : ByteArray := if e0 f.host then a else f.host
set_option maxHeartbeats 800000 in
theorem host_any (f : FB) (a : ByteArray) (w : World) :
    Calls Tryz.prog 45 #[fV f, .string a] w fun e w' => e = .returned (.string (hostOf f a)) ∧ Below w.heap.size w w' := by
  have HE := @tl_emp f.host
  have HR : Hid (hostOf f a = if f.host.toList.isEmpty then a else f.host) := by rw [HE]; rfl
  clear HE
  generalize hostOf f a = r at *
  obtain ⟨k, n, v, h, p, t, b, c⟩ := f
  dsimp only at *
  cases he : h.toList.isEmpty
  · rw [he] at HR
    go_enter Tryz.func45, Tryz.ntmps45
    go_wp2_with fail
    go_ret
    exact ⟨ret_str HR.out.symm, (Below.refl _ _).alloc (Nat.le_refl _) _⟩
  · rw [he] at HR
    go_enter Tryz.func45, Tryz.ntmps45
    go_wp2_with fail
    go_ret
    exact ⟨ret_str HR.out.symm, (Below.refl _ _).alloc (Nat.le_refl _) _⟩

set_option maxHeartbeats 1600000 in
theorem becomes_any (f : FB) (pk : Int) (pv s : ByteArray) (w : World) (ok : OkFi f) (hv : pv.size ≤ maxLen) (hs : s.size ≤ maxLen) :
    Calls Tryz.prog 43 #[fV f, .agg #[.int .i64 pk, .string pv], .string s] w fun e w' => e = .returned (.tuple #[.string (becT f pk pv s), .int .i64 (becE f pk pv s)]) ∧ Below w.heap.size w w' := by
  have HE := @tl_emp f.path
  have HT : Hid (becT f pk pv s = if f.path.toList.isEmpty then s else if f.whole || pk == 1 then f.path else mkB (swapT pk (dl pv) (dl f.path) (dl s))) := by rw [HE]; rfl
  have HN : Hid (becE f pk pv s = if f.path.toList.isEmpty then 0 else if f.whole || pk == 1 then 0 else swapE pk (dl pv) (dl f.path) (dl s)) := by rw [HE]; rfl
  have C1 := fun W => hide (pswap_any pk pv f.path s W hv (small_len (by have := ok.path; omega)) hs)
  clear HE ok
  generalize becT f pk pv s = x at *
  generalize becE f pk pv s = y at *
  obtain ⟨k, n, v, h, p, t, b, c⟩ := f
  dsimp only at *
  generalize swapT pk (dl pv) (dl t) (dl s) = x1 at *
  generalize swapE pk (dl pv) (dl t) (dl s) = y1 at *
  cases he : t.toList.isEmpty
  · rw [he] at HT HN
    cases b
    · cases hk : (pk == 1)
      · rw [hk] at HT HN
        go_enter Tryz.func43, Tryz.ntmps43
        go_wp2_with fail
        refine ((C1 _).out).mono ?_
        rintro e w1 ⟨rfl, hb1⟩
        go_wp2_with fail
        go_ret2
        exact ⟨ret_two HT.out.symm HN.out.symm, below_b2 hb1⟩
      · rw [hk] at HT HN
        go_enter Tryz.func43, Tryz.ntmps43
        go_wp2_with fail
        go_ret2
        exact ⟨ret_two HT.out.symm HN.out.symm, ((Below.refl _ _).alloc (Nat.le_refl _) _).alloc (by simp) _⟩
    · go_enter Tryz.func43, Tryz.ntmps43
      go_wp2_with fail
      go_ret2
      exact ⟨ret_two HT.out.symm HN.out.symm, ((Below.refl _ _).alloc (Nat.le_refl _) _).alloc (by simp) _⟩
  · rw [he] at HT HN
    go_enter Tryz.func43, Tryz.ntmps43
    go_wp2_with fail
    go_ret2
    exact ⟨ret_two HT.out.symm HN.out.symm, ((Below.refl _ _).alloc (Nat.le_refl _) _).alloc (by simp) _⟩

/-- a request that a filter made, and its error -/
abbrev rqE (y : RV) (n : Int) : Ending := .returned (.tuple #[rV y.r y.vq y.vh, .int .i64 n])
theorem below4 {w : World} (o1 o2 o3 o4 : Obj) : Below w.heap.size w ((((w.alloc o1).alloc o2).alloc o3).alloc o4) :=
  ((((Below.refl _ _).alloc (Nat.le_refl _) _).alloc (by simp) _).alloc (by simp; omega) _).alloc (by simp; omega) _
/-- the third and the fourth of four boxes -/
theorem box34 {w W : World} {o1 o2 o3 o4 : Obj} (h : Below ((((w.alloc o1).alloc o2).alloc o3).alloc o4).heap.size ((((w.alloc o1).alloc o2).alloc o3).alloc o4) W) : W.heap[w.heap.size + 1 + 1]? = some o3 ∧ W.heap[w.heap.size + 1 + 1 + 1]? = some o4 := by
  have h3 := alloc_new ((w.alloc o1).alloc o2) o3
  have h4 := alloc_new (((w.alloc o1).alloc o2).alloc o3) o4
  simp only [World.size_alloc] at h3 h4
  refine ⟨(h.block _ (by simp)).trans ?_, (h.block _ (by simp)).trans h4⟩
  rw [Below.heap_alloc _ _ _ (by simp)]
  exact h3
/-- one cell of a block -/
theorem set_blk {W : World} {g t i : Nat} {cs : Array Value} (c : Value) (h : W.heap[g]? = some (.cells cs t)) : (W.setCell ⟨g, i, none⟩ c).heap[g]? = some (.cells (cs.setIfInBounds i c) t) := by
  obtain ⟨hlt, hk⟩ := Array.getElem?_eq_some_iff.1 h
  show (W.heap.modify g _)[g]? = _
  rw [Array.getElem?_eq_getElem (by rw [Array.size_modify]; exact hlt), Array.getElem_modify_self, hk]
  rfl
theorem bel13 {w W : World} {o1 o2 o3 o4 : Obj} (h : Below ((((w.alloc o1).alloc o2).alloc o3).alloc o4).heap.size ((((w.alloc o1).alloc o2).alloc o3).alloc o4) W) : Below (w.alloc o1).heap.size (w.alloc o1) W :=
  ((((Below.refl _ _).alloc (Nat.le_refl _) _).alloc (by simp) _).alloc (by simp) _).trans (h.mono (by simp))
/-- no request -/
def zeroRV : RV := ⟨zeroR, none, 0, none, 0⟩
theorem zeroRV_own (w : World) : zeroRV.own w := ⟨⟨w.heap.size, World.ownsRow_nil _ _ _ _⟩, w.heap.size, World.ownsRow_nil _ _ _ _⟩
theorem add_own (n x : ByteArray) (v : Value) (l : List PairB) (w : World) (hv : Prs w v l) (hl : l.length ≤ 1000) :
    Calls Tryz.prog 134 #[v, .string n, .string x] w fun e w' => ∃ v', e = .returned v' ∧ RowP w' v' (l ++ [(n, x)]) ∧ Below w.heap.size w w' :=
  (add_any n x v l w hv hl).mono fun _ _ ⟨v', he, hr, hb⟩ => ⟨v', he, RowP.mk (by simp) hr, hb⟩

set_option maxHeartbeats 1600000 in
theorem set_deed (f : FB) (pk : Int) (pv : ByteArray) (x : RV) (w : World) (ok : OkFi f) (hx : x.own w) (okh : ∀ p ∈ x.r.head, okP p) (hlh : x.r.head.length ≤ 1000) :
    Calls Tryz.prog 85 #[fV f, .agg #[.int .i64 pk, .string pv], rV x.r x.vq x.vh] w fun e w' => ∃ y : RV, e = rqE y 0 ∧ y.r = { x.r with head := setQ x.r.head f.name f.val } ∧ y.own w' ∧ Below w.heap.size w w' := by
  obtain ⟨⟨rm, rho, rp, qu, hd⟩, aq, cq, ah, ch⟩ := x
  obtain ⟨⟨bq, hq⟩, bh, hh⟩ := hx
  obtain ⟨k, n, v, h, p, t, b, c⟩ := f
  have C1 := hide (set_own n v (.slice ah hd.length ch) hd ((((w.alloc (.cells #[.int .i64 k, .string n, .string v, .string h, .int .i64 p, .string t, .bool b, .int .i64 c] 89)).alloc (.cells #[.int .i64 pk, .string pv] 24)).alloc (.cells #[.string rm, .string rho, .string rp, .slice aq qu.length cq, .slice ah hd.length ch] 27)).alloc (.cells #[.string ⟨#[]⟩, .string ⟨#[]⟩, .string ⟨#[]⟩, .slice none 0 0, .slice none 0 0] 27)) (small_len (by have := ok.name; dsimp only at this; omega)) ((Prs.of_row rfl hh).below (below4 _ _ _ _)) okh hlh)
  have HQ := hide hq
  have B0 := below4 (w := w) (.cells #[.int .i64 k, .string n, .string v, .string h, .int .i64 p, .string t, .bool b, .int .i64 c] 89) (.cells #[.int .i64 pk, .string pv] 24) (.cells #[.string rm, .string rho, .string rp, .slice aq qu.length cq, .slice ah hd.length ch] 27) (.cells #[.string ⟨#[]⟩, .string ⟨#[]⟩, .string ⟨#[]⟩, .slice none 0 0, .slice none 0 0] 27)
  clear hq hh ok okh
  dsimp only at *
  generalize setQ hd n v = nl at *
  go_enter Tryz.func85, Tryz.ntmps85
  go_wp2_with fail
  refine C1.out.mono ?_
  rintro e w1 ⟨v1, rfl, ⟨b1, hr1⟩, hb1⟩
  obtain ⟨a1, c1, hv1⟩ := row_form hr1
  subst hv1
  obtain ⟨k2, k3⟩ := box34 hb1
  have l24 := liveN k2 4
  have x24 := cellN k2 (i := 4) rfl
  have K2 := hide (set_blk (i := 4) (.slice a1 nl.length c1) k2)
  have K3 := hide ((setL_far (g := w.heap.size + 1 + 1) (m := w.heap.size + 1 + 1 + 1) (by omega) [.slice a1 nl.length c1] w1 4).trans k3)
  have R1 := hide (row_setL (cs := [.slice a1 nl.length c1]) (k := 4) hr1 k2 (by decide))
  obtain ⟨d0, d1, d2, d3, d4⟩ : _ ∧ _ ∧ _ ∧ _ ∧ _ := ⟨cellN K2.out (i := 0) rfl, cellN K2.out (i := 1) rfl, cellN K2.out (i := 2) rfl, cellN K2.out (i := 3) rfl, cellN K2.out (i := 4) rfl⟩
  have l3 : ∀ i, (w1.setCell ⟨w.heap.size + 1 + 1, 4, none⟩ (.slice a1 nl.length c1)).frozen? ⟨w.heap.size + 1 + 1 + 1, i, none⟩ = false := liveN K3.out
  obtain ⟨z0, z1, z2, z3, z4⟩ : (w1.setCell ⟨w.heap.size + 1 + 1, 4, none⟩ (.slice a1 nl.length c1)).cell? ⟨w.heap.size + 1 + 1 + 1, 0, none⟩ = _ ∧ (w1.setCell ⟨w.heap.size + 1 + 1, 4, none⟩ (.slice a1 nl.length c1)).cell? ⟨w.heap.size + 1 + 1 + 1, 1, none⟩ = _ ∧ (w1.setCell ⟨w.heap.size + 1 + 1, 4, none⟩ (.slice a1 nl.length c1)).cell? ⟨w.heap.size + 1 + 1 + 1, 2, none⟩ = _ ∧ (w1.setCell ⟨w.heap.size + 1 + 1, 4, none⟩ (.slice a1 nl.length c1)).cell? ⟨w.heap.size + 1 + 1 + 1, 3, none⟩ = _ ∧ (w1.setCell ⟨w.heap.size + 1 + 1, 4, none⟩ (.slice a1 nl.length c1)).cell? ⟨w.heap.size + 1 + 1 + 1, 4, none⟩ = _ := ⟨cellN K3.out (i := 0) rfl, cellN K3.out (i := 1) rfl, cellN K3.out (i := 2) rfl, cellN K3.out (i := 3) rfl, cellN K3.out (i := 4) rfl⟩
  have BB := hide ((bb2 B0 hb1).setCell (p := ⟨w.heap.size + 1 + 1, 4, none⟩) (by simp; omega) (.slice a1 nl.length c1))
  clear k2 k3 hr1 hb1 B0 C1
  go_wp2_with fail
  have K4 := setL_all [.string rm, .string rho, .string rp, .slice aq qu.length cq, .slice a1 nl.length c1] K3.out rfl
  have R2 := row_setL (cs := [.string rm, .string rho, .string rp, .slice aq qu.length cq, .slice a1 nl.length c1]) (k := 0) R1.out K3.out (by decide)
  have S1 := setL_below (w := w) (B := w.heap.size) (g := w.heap.size + 1 + 1 + 1) (by omega) [.string rm, .string rho, .string rp, .slice aq qu.length cq, .slice a1 nl.length c1] _ 0 BB.out
  change bodyPost _ _ _ _ _ (setL (w1.setCell ⟨w.heap.size + 1 + 1, 4, none⟩ (.slice a1 nl.length c1)) (w.heap.size + 1 + 1 + 1) 0 [.string rm, .string rho, .string rp, .slice aq qu.length cq, .slice a1 nl.length c1])
  change (setL (w1.setCell ⟨w.heap.size + 1 + 1, 4, none⟩ (.slice a1 nl.length c1)) (w.heap.size + 1 + 1 + 1) 0 [.string rm, .string rho, .string rp, .slice aq qu.length cq, .slice a1 nl.length c1]).ownsRow _ _ _ _ _ _ at R2
  change Below _ _ (setL (w1.setCell ⟨w.heap.size + 1 + 1, 4, none⟩ (.slice a1 nl.length c1)) (w.heap.size + 1 + 1 + 1) 0 [.string rm, .string rho, .string rp, .slice aq qu.length cq, .slice a1 nl.length c1]) at S1
  change (setL (w1.setCell ⟨w.heap.size + 1 + 1, 4, none⟩ (.slice a1 nl.length c1)) (w.heap.size + 1 + 1 + 1) 0 [.string rm, .string rho, .string rp, .slice aq qu.length cq, .slice a1 nl.length c1]).heap[_]? = _ at K4
  generalize setL (w1.setCell ⟨w.heap.size + 1 + 1, 4, none⟩ (.slice a1 nl.length c1)) (w.heap.size + 1 + 1 + 1) 0 [.string rm, .string rho, .string rp, .slice aq qu.length cq, .slice a1 nl.length c1] = W3 at *
  obtain ⟨e0, e1, e2, e3, e4⟩ : _ ∧ _ ∧ _ ∧ _ ∧ _ := ⟨cellN K4 (i := 0) rfl, cellN K4 (i := 1) rfl, cellN K4 (i := 2) rfl, cellN K4 (i := 3) rfl, cellN K4 (i := 4) rfl⟩
  exact bodyPost_ret (v := .tuple #[.agg #[.string rm, .string rho, .string rp, .slice aq qu.length cq, .slice a1 nl.length c1], .int .i64 0]) (by simp [results, Tryz.f85, go_sem, e0, e1, e2, e3, e4]) rfl ⟨⟨⟨rm, rho, rp, qu, nl⟩, aq, cq, a1, c1⟩, rfl, rfl, ⟨⟨bq, ownsRow_below HQ.out S1⟩, _, R2⟩, S1⟩

set_option maxHeartbeats 1600000 in
theorem add_deed (f : FB) (pk : Int) (pv : ByteArray) (x : RV) (w : World) (ok : OkFi f) (hx : x.own w) (okh : ∀ p ∈ x.r.head, okP p) (hlh : x.r.head.length ≤ 1000) :
    Calls Tryz.prog 86 #[fV f, .agg #[.int .i64 pk, .string pv], rV x.r x.vq x.vh] w fun e w' => ∃ y : RV, e = rqE y 0 ∧ y.r = { x.r with head := x.r.head ++ [(f.name, f.val)] } ∧ y.own w' ∧ Below w.heap.size w w' := by
  obtain ⟨⟨rm, rho, rp, qu, hd⟩, aq, cq, ah, ch⟩ := x
  obtain ⟨⟨bq, hq⟩, bh, hh⟩ := hx
  obtain ⟨k, n, v, h, p, t, b, c⟩ := f
  have C1 := hide (add_own n v (.slice ah hd.length ch) hd ((((w.alloc (.cells #[.int .i64 k, .string n, .string v, .string h, .int .i64 p, .string t, .bool b, .int .i64 c] 89)).alloc (.cells #[.int .i64 pk, .string pv] 24)).alloc (.cells #[.string rm, .string rho, .string rp, .slice aq qu.length cq, .slice ah hd.length ch] 27)).alloc (.cells #[.string ⟨#[]⟩, .string ⟨#[]⟩, .string ⟨#[]⟩, .slice none 0 0, .slice none 0 0] 27)) ((Prs.of_row rfl hh).below (below4 _ _ _ _)) hlh)
  have HQ := hide hq
  have B0 := below4 (w := w) (.cells #[.int .i64 k, .string n, .string v, .string h, .int .i64 p, .string t, .bool b, .int .i64 c] 89) (.cells #[.int .i64 pk, .string pv] 24) (.cells #[.string rm, .string rho, .string rp, .slice aq qu.length cq, .slice ah hd.length ch] 27) (.cells #[.string ⟨#[]⟩, .string ⟨#[]⟩, .string ⟨#[]⟩, .slice none 0 0, .slice none 0 0] 27)
  clear hq hh ok okh
  dsimp only at *
  generalize hd ++ [(n, v)] = nl at *
  go_enter Tryz.func86, Tryz.ntmps86
  go_wp2_with fail
  refine C1.out.mono ?_
  rintro e w1 ⟨v1, rfl, ⟨b1, hr1⟩, hb1⟩
  obtain ⟨a1, c1, hv1⟩ := row_form hr1
  subst hv1
  obtain ⟨k2, k3⟩ := box34 hb1
  have l24 := liveN k2 4
  have x24 := cellN k2 (i := 4) rfl
  have K2 := hide (set_blk (i := 4) (.slice a1 nl.length c1) k2)
  have K3 := hide ((setL_far (g := w.heap.size + 1 + 1) (m := w.heap.size + 1 + 1 + 1) (by omega) [.slice a1 nl.length c1] w1 4).trans k3)
  have R1 := hide (row_setL (cs := [.slice a1 nl.length c1]) (k := 4) hr1 k2 (by decide))
  obtain ⟨d0, d1, d2, d3, d4⟩ : _ ∧ _ ∧ _ ∧ _ ∧ _ := ⟨cellN K2.out (i := 0) rfl, cellN K2.out (i := 1) rfl, cellN K2.out (i := 2) rfl, cellN K2.out (i := 3) rfl, cellN K2.out (i := 4) rfl⟩
  have l3 : ∀ i, (w1.setCell ⟨w.heap.size + 1 + 1, 4, none⟩ (.slice a1 nl.length c1)).frozen? ⟨w.heap.size + 1 + 1 + 1, i, none⟩ = false := liveN K3.out
  obtain ⟨z0, z1, z2, z3, z4⟩ : (w1.setCell ⟨w.heap.size + 1 + 1, 4, none⟩ (.slice a1 nl.length c1)).cell? ⟨w.heap.size + 1 + 1 + 1, 0, none⟩ = _ ∧ (w1.setCell ⟨w.heap.size + 1 + 1, 4, none⟩ (.slice a1 nl.length c1)).cell? ⟨w.heap.size + 1 + 1 + 1, 1, none⟩ = _ ∧ (w1.setCell ⟨w.heap.size + 1 + 1, 4, none⟩ (.slice a1 nl.length c1)).cell? ⟨w.heap.size + 1 + 1 + 1, 2, none⟩ = _ ∧ (w1.setCell ⟨w.heap.size + 1 + 1, 4, none⟩ (.slice a1 nl.length c1)).cell? ⟨w.heap.size + 1 + 1 + 1, 3, none⟩ = _ ∧ (w1.setCell ⟨w.heap.size + 1 + 1, 4, none⟩ (.slice a1 nl.length c1)).cell? ⟨w.heap.size + 1 + 1 + 1, 4, none⟩ = _ := ⟨cellN K3.out (i := 0) rfl, cellN K3.out (i := 1) rfl, cellN K3.out (i := 2) rfl, cellN K3.out (i := 3) rfl, cellN K3.out (i := 4) rfl⟩
  have BB := hide ((bb2 B0 hb1).setCell (p := ⟨w.heap.size + 1 + 1, 4, none⟩) (by simp; omega) (.slice a1 nl.length c1))
  clear k2 k3 hr1 hb1 B0 C1
  go_wp2_with fail
  have K4 := setL_all [.string rm, .string rho, .string rp, .slice aq qu.length cq, .slice a1 nl.length c1] K3.out rfl
  have R2 := row_setL (cs := [.string rm, .string rho, .string rp, .slice aq qu.length cq, .slice a1 nl.length c1]) (k := 0) R1.out K3.out (by decide)
  have S1 := setL_below (w := w) (B := w.heap.size) (g := w.heap.size + 1 + 1 + 1) (by omega) [.string rm, .string rho, .string rp, .slice aq qu.length cq, .slice a1 nl.length c1] _ 0 BB.out
  change bodyPost _ _ _ _ _ (setL (w1.setCell ⟨w.heap.size + 1 + 1, 4, none⟩ (.slice a1 nl.length c1)) (w.heap.size + 1 + 1 + 1) 0 [.string rm, .string rho, .string rp, .slice aq qu.length cq, .slice a1 nl.length c1])
  change (setL (w1.setCell ⟨w.heap.size + 1 + 1, 4, none⟩ (.slice a1 nl.length c1)) (w.heap.size + 1 + 1 + 1) 0 [.string rm, .string rho, .string rp, .slice aq qu.length cq, .slice a1 nl.length c1]).ownsRow _ _ _ _ _ _ at R2
  change Below _ _ (setL (w1.setCell ⟨w.heap.size + 1 + 1, 4, none⟩ (.slice a1 nl.length c1)) (w.heap.size + 1 + 1 + 1) 0 [.string rm, .string rho, .string rp, .slice aq qu.length cq, .slice a1 nl.length c1]) at S1
  change (setL (w1.setCell ⟨w.heap.size + 1 + 1, 4, none⟩ (.slice a1 nl.length c1)) (w.heap.size + 1 + 1 + 1) 0 [.string rm, .string rho, .string rp, .slice aq qu.length cq, .slice a1 nl.length c1]).heap[_]? = _ at K4
  generalize setL (w1.setCell ⟨w.heap.size + 1 + 1, 4, none⟩ (.slice a1 nl.length c1)) (w.heap.size + 1 + 1 + 1) 0 [.string rm, .string rho, .string rp, .slice aq qu.length cq, .slice a1 nl.length c1] = W3 at *
  obtain ⟨e0, e1, e2, e3, e4⟩ : _ ∧ _ ∧ _ ∧ _ ∧ _ := ⟨cellN K4 (i := 0) rfl, cellN K4 (i := 1) rfl, cellN K4 (i := 2) rfl, cellN K4 (i := 3) rfl, cellN K4 (i := 4) rfl⟩
  exact bodyPost_ret (v := .tuple #[.agg #[.string rm, .string rho, .string rp, .slice aq qu.length cq, .slice a1 nl.length c1], .int .i64 0]) (by simp [results, Tryz.f86, go_sem, e0, e1, e2, e3, e4]) rfl ⟨⟨⟨rm, rho, rp, qu, nl⟩, aq, cq, a1, c1⟩, rfl, rfl, ⟨⟨bq, ownsRow_below HQ.out S1⟩, _, R2⟩, S1⟩

set_option maxHeartbeats 1600000 in
theorem drop_deed (f : FB) (pk : Int) (pv : ByteArray) (x : RV) (w : World) (ok : OkFi f) (hx : x.own w) (okh : ∀ p ∈ x.r.head, okP p) (hlh : x.r.head.length ≤ 1000) :
    Calls Tryz.prog 87 #[fV f, .agg #[.int .i64 pk, .string pv], rV x.r x.vq x.vh] w fun e w' => ∃ y : RV, e = rqE y 0 ∧ y.r = { x.r with head := dropQ x.r.head f.name } ∧ y.own w' ∧ Below w.heap.size w w' := by
  obtain ⟨⟨rm, rho, rp, qu, hd⟩, aq, cq, ah, ch⟩ := x
  obtain ⟨⟨bq, hq⟩, bh, hh⟩ := hx
  obtain ⟨k, n, v, h, p, t, b, c⟩ := f
  have C1 := hide (drop_own n (.slice ah hd.length ch) hd ((((w.alloc (.cells #[.int .i64 k, .string n, .string v, .string h, .int .i64 p, .string t, .bool b, .int .i64 c] 89)).alloc (.cells #[.int .i64 pk, .string pv] 24)).alloc (.cells #[.string rm, .string rho, .string rp, .slice aq qu.length cq, .slice ah hd.length ch] 27)).alloc (.cells #[.string ⟨#[]⟩, .string ⟨#[]⟩, .string ⟨#[]⟩, .slice none 0 0, .slice none 0 0] 27)) (small_len (by have := ok.name; dsimp only at this; omega)) ((Prs.of_row rfl hh).below (below4 _ _ _ _)) okh hlh)
  have HQ := hide hq
  have B0 := below4 (w := w) (.cells #[.int .i64 k, .string n, .string v, .string h, .int .i64 p, .string t, .bool b, .int .i64 c] 89) (.cells #[.int .i64 pk, .string pv] 24) (.cells #[.string rm, .string rho, .string rp, .slice aq qu.length cq, .slice ah hd.length ch] 27) (.cells #[.string ⟨#[]⟩, .string ⟨#[]⟩, .string ⟨#[]⟩, .slice none 0 0, .slice none 0 0] 27)
  clear hq hh ok okh
  dsimp only at *
  generalize dropQ hd n = nl at *
  go_enter Tryz.func87, Tryz.ntmps87
  go_wp2_with fail
  refine C1.out.mono ?_
  rintro e w1 ⟨v1, rfl, ⟨b1, hr1⟩, hb1⟩
  obtain ⟨a1, c1, hv1⟩ := row_form hr1
  subst hv1
  obtain ⟨k2, k3⟩ := box34 hb1
  have l24 := liveN k2 4
  have x24 := cellN k2 (i := 4) rfl
  have K2 := hide (set_blk (i := 4) (.slice a1 nl.length c1) k2)
  have K3 := hide ((setL_far (g := w.heap.size + 1 + 1) (m := w.heap.size + 1 + 1 + 1) (by omega) [.slice a1 nl.length c1] w1 4).trans k3)
  have R1 := hide (row_setL (cs := [.slice a1 nl.length c1]) (k := 4) hr1 k2 (by decide))
  obtain ⟨d0, d1, d2, d3, d4⟩ : _ ∧ _ ∧ _ ∧ _ ∧ _ := ⟨cellN K2.out (i := 0) rfl, cellN K2.out (i := 1) rfl, cellN K2.out (i := 2) rfl, cellN K2.out (i := 3) rfl, cellN K2.out (i := 4) rfl⟩
  have l3 : ∀ i, (w1.setCell ⟨w.heap.size + 1 + 1, 4, none⟩ (.slice a1 nl.length c1)).frozen? ⟨w.heap.size + 1 + 1 + 1, i, none⟩ = false := liveN K3.out
  obtain ⟨z0, z1, z2, z3, z4⟩ : (w1.setCell ⟨w.heap.size + 1 + 1, 4, none⟩ (.slice a1 nl.length c1)).cell? ⟨w.heap.size + 1 + 1 + 1, 0, none⟩ = _ ∧ (w1.setCell ⟨w.heap.size + 1 + 1, 4, none⟩ (.slice a1 nl.length c1)).cell? ⟨w.heap.size + 1 + 1 + 1, 1, none⟩ = _ ∧ (w1.setCell ⟨w.heap.size + 1 + 1, 4, none⟩ (.slice a1 nl.length c1)).cell? ⟨w.heap.size + 1 + 1 + 1, 2, none⟩ = _ ∧ (w1.setCell ⟨w.heap.size + 1 + 1, 4, none⟩ (.slice a1 nl.length c1)).cell? ⟨w.heap.size + 1 + 1 + 1, 3, none⟩ = _ ∧ (w1.setCell ⟨w.heap.size + 1 + 1, 4, none⟩ (.slice a1 nl.length c1)).cell? ⟨w.heap.size + 1 + 1 + 1, 4, none⟩ = _ := ⟨cellN K3.out (i := 0) rfl, cellN K3.out (i := 1) rfl, cellN K3.out (i := 2) rfl, cellN K3.out (i := 3) rfl, cellN K3.out (i := 4) rfl⟩
  have BB := hide ((bb2 B0 hb1).setCell (p := ⟨w.heap.size + 1 + 1, 4, none⟩) (by simp; omega) (.slice a1 nl.length c1))
  clear k2 k3 hr1 hb1 B0 C1
  go_wp2_with fail
  have K4 := setL_all [.string rm, .string rho, .string rp, .slice aq qu.length cq, .slice a1 nl.length c1] K3.out rfl
  have R2 := row_setL (cs := [.string rm, .string rho, .string rp, .slice aq qu.length cq, .slice a1 nl.length c1]) (k := 0) R1.out K3.out (by decide)
  have S1 := setL_below (w := w) (B := w.heap.size) (g := w.heap.size + 1 + 1 + 1) (by omega) [.string rm, .string rho, .string rp, .slice aq qu.length cq, .slice a1 nl.length c1] _ 0 BB.out
  change bodyPost _ _ _ _ _ (setL (w1.setCell ⟨w.heap.size + 1 + 1, 4, none⟩ (.slice a1 nl.length c1)) (w.heap.size + 1 + 1 + 1) 0 [.string rm, .string rho, .string rp, .slice aq qu.length cq, .slice a1 nl.length c1])
  change (setL (w1.setCell ⟨w.heap.size + 1 + 1, 4, none⟩ (.slice a1 nl.length c1)) (w.heap.size + 1 + 1 + 1) 0 [.string rm, .string rho, .string rp, .slice aq qu.length cq, .slice a1 nl.length c1]).ownsRow _ _ _ _ _ _ at R2
  change Below _ _ (setL (w1.setCell ⟨w.heap.size + 1 + 1, 4, none⟩ (.slice a1 nl.length c1)) (w.heap.size + 1 + 1 + 1) 0 [.string rm, .string rho, .string rp, .slice aq qu.length cq, .slice a1 nl.length c1]) at S1
  change (setL (w1.setCell ⟨w.heap.size + 1 + 1, 4, none⟩ (.slice a1 nl.length c1)) (w.heap.size + 1 + 1 + 1) 0 [.string rm, .string rho, .string rp, .slice aq qu.length cq, .slice a1 nl.length c1]).heap[_]? = _ at K4
  generalize setL (w1.setCell ⟨w.heap.size + 1 + 1, 4, none⟩ (.slice a1 nl.length c1)) (w.heap.size + 1 + 1 + 1) 0 [.string rm, .string rho, .string rp, .slice aq qu.length cq, .slice a1 nl.length c1] = W3 at *
  obtain ⟨e0, e1, e2, e3, e4⟩ : _ ∧ _ ∧ _ ∧ _ ∧ _ := ⟨cellN K4 (i := 0) rfl, cellN K4 (i := 1) rfl, cellN K4 (i := 2) rfl, cellN K4 (i := 3) rfl, cellN K4 (i := 4) rfl⟩
  exact bodyPost_ret (v := .tuple #[.agg #[.string rm, .string rho, .string rp, .slice aq qu.length cq, .slice a1 nl.length c1], .int .i64 0]) (by simp [results, Tryz.f87, go_sem, e0, e1, e2, e3, e4]) rfl ⟨⟨⟨rm, rho, rp, qu, nl⟩, aq, cq, a1, c1⟩, rfl, rfl, ⟨⟨bq, ownsRow_below HQ.out S1⟩, _, R2⟩, S1⟩

set_option maxHeartbeats 1600000 in
theorem keep_deed (f : FB) (pk : Int) (pv : ByteArray) (x : RV) (w : World) (hx : x.own w) :
    Calls Tryz.prog 88 #[fV f, .agg #[.int .i64 pk, .string pv], rV x.r x.vq x.vh] w fun e w' => ∃ y : RV, e = rqE y 0 ∧ y.r = x.r ∧ y.own w' ∧ Below w.heap.size w w' := by
  obtain ⟨⟨rm, rho, rp, qu, hd⟩, aq, cq, ah, ch⟩ := x
  obtain ⟨⟨bq, hq⟩, bh, hh⟩ := hx
  obtain ⟨k, n, v, h, p, t, b, c⟩ := f
  have HQ := hide hq
  have HH := hide hh
  clear hq hh
  dsimp only at *
  go_enter Tryz.func88, Tryz.ntmps88
  go_wp2_with fail
  exact bodyPost_ret (v := .tuple #[.agg #[.string rm, .string rho, .string rp, .slice aq qu.length cq, .slice ah hd.length ch], .int .i64 0]) (by simp [results, Tryz.f88, go_sem]) rfl ⟨⟨⟨rm, rho, rp, qu, hd⟩, aq, cq, ah, ch⟩, rfl, rfl, ⟨⟨bq, ownsRow_below HQ.out (below4 _ _ _ _)⟩, bh, ownsRow_below HH.out (below4 _ _ _ _)⟩, below4 _ _ _ _⟩

set_option maxHeartbeats 1600000 in
theorem swap_deed (f : FB) (pk : Int) (pv : ByteArray) (x : RV) (w : World) (ok : OkFi f) (hv : pv.size ≤ maxLen) (hp : x.r.path.size ≤ maxLen) (hx : x.own w) :
    Calls Tryz.prog 89 #[fV f, .agg #[.int .i64 pk, .string pv], rV x.r x.vq x.vh] w fun e w' => ∃ y : RV, e = rqE y (becE f pk pv x.r.path) ∧ y.r = (if becE f pk pv x.r.path = 0 then { x.r with host := hostOf f x.r.host, path := becT f pk pv x.r.path } else zeroR) ∧ y.own w' ∧ Below w.heap.size w w' := by
  have C1 := fun W => hide (becomes_any f pk pv x.r.path W ok hv hp)
  have C2 := fun W => hide (host_any f x.r.host W)
  generalize becE f pk pv x.r.path = be at *
  generalize becT f pk pv x.r.path = bt at *
  generalize hostOf f x.r.host = hs at *
  obtain ⟨⟨rm, rho, rp, qu, hd⟩, aq, cq, ah, ch⟩ := x
  obtain ⟨⟨bq, hq⟩, bh, hh⟩ := hx
  obtain ⟨k, n, v, h, p, t, b, c⟩ := f
  have HQ := hide hq
  have HH := hide hh
  have B0 := below4 (w := w) (.cells #[.int .i64 k, .string n, .string v, .string h, .int .i64 p, .string t, .bool b, .int .i64 c] 89) (.cells #[.int .i64 pk, .string pv] 24) (.cells #[.string rm, .string rho, .string rp, .slice aq qu.length cq, .slice ah hd.length ch] 27) (.cells #[.string ⟨#[]⟩, .string ⟨#[]⟩, .string ⟨#[]⟩, .slice none 0 0, .slice none 0 0] 27)
  clear hq hh ok hv hp
  dsimp only at *
  by_cases he : be = 0
  · rw [if_pos he]
    subst he
    go_enter Tryz.func89, Tryz.ntmps89
    go_wp2_with fail
    refine (C1 _).out.mono ?_
    rintro e w1 ⟨rfl, hb1⟩
    obtain ⟨m0, m1, m2, m3, m4, m5, m6, m7⟩ := EF_at (boxF (f := ⟨k, n, v, h, p, t, b, c⟩) (w := w) (bel13 hb1))
    have rho1 := cellN (box34 hb1).1 (i := 1) rfl
    simp only [Nat.zero_add] at m0 m1 m2 m3 m4 m5 m6 m7
    go_wp2_with fail
    refine (C2 _).out.mono ?_
    rintro e w2 ⟨rfl, hb2⟩
    clear m0 m1 m2 m3 m4 m5 m6 m7 rho1
    have hb12 := bb2 hb1 hb2
    obtain ⟨k2, k3⟩ := box34 hb12
    have l2 := liveN k2
    have x21 := cellN k2 (i := 1) rfl
    have x22 := cellN k2 (i := 2) rfl
    have k2' := set_blk (i := 1) (.string hs) k2
    have l2' := liveN k2' 2
    have x22' := cellN k2' (i := 2) rfl
    have K2 := hide (set_blk (i := 2) (.string bt) k2')
    have K3 := hide ((setL_far (g := w.heap.size + 1 + 1) (m := w.heap.size + 1 + 1 + 1) (by omega) [.string hs, .string bt] w2 1).trans k3)
    obtain ⟨d0, d1, d2, d3, d4⟩ : _ ∧ _ ∧ _ ∧ _ ∧ _ := ⟨cellN K2.out (i := 0) rfl, cellN K2.out (i := 1) rfl, cellN K2.out (i := 2) rfl, cellN K2.out (i := 3) rfl, cellN K2.out (i := 4) rfl⟩
    have l3 : ∀ i, ((w2.setCell ⟨w.heap.size + 1 + 1, 1, none⟩ (.string hs)).setCell ⟨w.heap.size + 1 + 1, 2, none⟩ (.string bt)).frozen? ⟨w.heap.size + 1 + 1 + 1, i, none⟩ = false := liveN K3.out
    obtain ⟨z0, z1, z2, z3, z4⟩ : ((w2.setCell ⟨w.heap.size + 1 + 1, 1, none⟩ (.string hs)).setCell ⟨w.heap.size + 1 + 1, 2, none⟩ (.string bt)).cell? ⟨w.heap.size + 1 + 1 + 1, 0, none⟩ = _ ∧ ((w2.setCell ⟨w.heap.size + 1 + 1, 1, none⟩ (.string hs)).setCell ⟨w.heap.size + 1 + 1, 2, none⟩ (.string bt)).cell? ⟨w.heap.size + 1 + 1 + 1, 1, none⟩ = _ ∧ ((w2.setCell ⟨w.heap.size + 1 + 1, 1, none⟩ (.string hs)).setCell ⟨w.heap.size + 1 + 1, 2, none⟩ (.string bt)).cell? ⟨w.heap.size + 1 + 1 + 1, 2, none⟩ = _ ∧ ((w2.setCell ⟨w.heap.size + 1 + 1, 1, none⟩ (.string hs)).setCell ⟨w.heap.size + 1 + 1, 2, none⟩ (.string bt)).cell? ⟨w.heap.size + 1 + 1 + 1, 3, none⟩ = _ ∧ ((w2.setCell ⟨w.heap.size + 1 + 1, 1, none⟩ (.string hs)).setCell ⟨w.heap.size + 1 + 1, 2, none⟩ (.string bt)).cell? ⟨w.heap.size + 1 + 1 + 1, 4, none⟩ = _ := ⟨cellN K3.out (i := 0) rfl, cellN K3.out (i := 1) rfl, cellN K3.out (i := 2) rfl, cellN K3.out (i := 3) rfl, cellN K3.out (i := 4) rfl⟩
    have BB := hide (((bb2 B0 hb12).setCell (p := ⟨w.heap.size + 1 + 1, 1, none⟩) (by simp; omega) (.string hs)).setCell (p := ⟨w.heap.size + 1 + 1, 2, none⟩) (by simp; omega) (.string bt))
    clear k2 k2' k3 hb1 hb2 hb12 B0 C1 C2
    go_wp2_with fail
    have K4 := setL_all [.string rm, .string hs, .string bt, .slice aq qu.length cq, .slice ah hd.length ch] K3.out rfl
    have S1 := setL_below (w := w) (B := w.heap.size) (g := w.heap.size + 1 + 1 + 1) (by omega) [.string rm, .string hs, .string bt, .slice aq qu.length cq, .slice ah hd.length ch] _ 0 BB.out
    change bodyPost _ _ _ _ _ (setL ((w2.setCell ⟨w.heap.size + 1 + 1, 1, none⟩ (.string hs)).setCell ⟨w.heap.size + 1 + 1, 2, none⟩ (.string bt)) (w.heap.size + 1 + 1 + 1) 0 [.string rm, .string hs, .string bt, .slice aq qu.length cq, .slice ah hd.length ch])
    change Below _ _ (setL ((w2.setCell ⟨w.heap.size + 1 + 1, 1, none⟩ (.string hs)).setCell ⟨w.heap.size + 1 + 1, 2, none⟩ (.string bt)) (w.heap.size + 1 + 1 + 1) 0 [.string rm, .string hs, .string bt, .slice aq qu.length cq, .slice ah hd.length ch]) at S1
    change (setL ((w2.setCell ⟨w.heap.size + 1 + 1, 1, none⟩ (.string hs)).setCell ⟨w.heap.size + 1 + 1, 2, none⟩ (.string bt)) (w.heap.size + 1 + 1 + 1) 0 [.string rm, .string hs, .string bt, .slice aq qu.length cq, .slice ah hd.length ch]).heap[_]? = _ at K4
    generalize setL ((w2.setCell ⟨w.heap.size + 1 + 1, 1, none⟩ (.string hs)).setCell ⟨w.heap.size + 1 + 1, 2, none⟩ (.string bt)) (w.heap.size + 1 + 1 + 1) 0 [.string rm, .string hs, .string bt, .slice aq qu.length cq, .slice ah hd.length ch] = W3 at *
    obtain ⟨e0, e1, e2, e3, e4⟩ : _ ∧ _ ∧ _ ∧ _ ∧ _ := ⟨cellN K4 (i := 0) rfl, cellN K4 (i := 1) rfl, cellN K4 (i := 2) rfl, cellN K4 (i := 3) rfl, cellN K4 (i := 4) rfl⟩
    exact bodyPost_ret (v := .tuple #[.agg #[.string rm, .string hs, .string bt, .slice aq qu.length cq, .slice ah hd.length ch], .int .i64 0]) (by simp [results, Tryz.f89, go_sem, e0, e1, e2, e3, e4]) rfl ⟨⟨⟨rm, hs, bt, qu, hd⟩, aq, cq, ah, ch⟩, rfl, rfl, ⟨⟨bq, ownsRow_below HQ.out S1⟩, bh, ownsRow_below HH.out S1⟩, S1⟩
  · rw [if_neg he]
    have he' : (be != 0) = true := by simpa using he
    go_enter Tryz.func89, Tryz.ntmps89
    go_wp2_with fail
    refine (C1 _).out.mono ?_
    rintro e w1 ⟨rfl, hb1⟩
    obtain ⟨k2, k3⟩ := box34 hb1
    have K3 := hide k3
    have l3 := liveN k3
    obtain ⟨z0, z1, z2, z3, z4⟩ : _ ∧ _ ∧ _ ∧ _ ∧ _ := ⟨cellN k3 (i := 0) rfl, cellN k3 (i := 1) rfl, cellN k3 (i := 2) rfl, cellN k3 (i := 3) rfl, cellN k3 (i := 4) rfl⟩
    have BB := hide (bb2 B0 hb1)
    clear k2 k3 hb1 B0 C1 C2
    go_wp2_with fail
    have K4 := setL_all [.string ⟨#[]⟩, .string ⟨#[]⟩, .string ⟨#[]⟩, .slice none 0 0, .slice none 0 0] K3.out rfl
    have S1 := setL_below (w := w) (B := w.heap.size) (g := w.heap.size + 1 + 1 + 1) (by omega) [.string ⟨#[]⟩, .string ⟨#[]⟩, .string ⟨#[]⟩, .slice none 0 0, .slice none 0 0] _ 0 BB.out
    change bodyPost _ _ _ _ _ (setL w1 (w.heap.size + 1 + 1 + 1) 0 [.string ⟨#[]⟩, .string ⟨#[]⟩, .string ⟨#[]⟩, .slice none 0 0, .slice none 0 0])
    change Below _ _ (setL w1 (w.heap.size + 1 + 1 + 1) 0 [.string ⟨#[]⟩, .string ⟨#[]⟩, .string ⟨#[]⟩, .slice none 0 0, .slice none 0 0]) at S1
    change (setL w1 (w.heap.size + 1 + 1 + 1) 0 [.string ⟨#[]⟩, .string ⟨#[]⟩, .string ⟨#[]⟩, .slice none 0 0, .slice none 0 0]).heap[_]? = _ at K4
    generalize setL w1 (w.heap.size + 1 + 1 + 1) 0 [.string ⟨#[]⟩, .string ⟨#[]⟩, .string ⟨#[]⟩, .slice none 0 0, .slice none 0 0] = W3 at *
    obtain ⟨e0, e1, e2, e3, e4⟩ : _ ∧ _ ∧ _ ∧ _ ∧ _ := ⟨cellN K4 (i := 0) rfl, cellN K4 (i := 1) rfl, cellN K4 (i := 2) rfl, cellN K4 (i := 3) rfl, cellN K4 (i := 4) rfl⟩
    exact bodyPost_ret (v := .tuple #[.agg #[.string ⟨#[]⟩, .string ⟨#[]⟩, .string ⟨#[]⟩, .slice none 0 0, .slice none 0 0], .int .i64 be]) (by simp [results, Tryz.f89, go_sem, e0, e1, e2, e3, e4]) rfl ⟨zeroRV, rfl, rfl, zeroRV_own _, S1⟩

end Go.Proofs.YtblmdcpcekoogaaGreatDoor
namespace Go.Proofs.YtblmdcpcekoogaaGreatDoor
set_option maxRecDepth 20000
open Go Go.RowKit Go.Shelf Fi

theorem bx2 {w W : World} {o1 o2 : Obj} (h : Below ((w.alloc o1).alloc o2).heap.size ((w.alloc o1).alloc o2) W) : W.heap[w.heap.size]? = some o1 ∧ W.heap[w.heap.size + 1]? = some o2 := by
  have h1 := alloc_new w o1
  have h2 := alloc_new (w.alloc o1) o2
  simp only [World.size_alloc] at h2
  refine ⟨(h.block _ (by simp; omega)).trans ?_, (h.block _ (by simp)).trans h2⟩
  rw [Below.heap_alloc _ _ _ (by simp)]
  exact h1
theorem bx3 {w W : World} {o1 o2 o3 : Obj} (h : Below (((w.alloc o1).alloc o2).alloc o3).heap.size (((w.alloc o1).alloc o2).alloc o3) W) : W.heap[w.heap.size]? = some o1 ∧ W.heap[w.heap.size + 1]? = some o2 ∧ W.heap[w.heap.size + 1 + 1]? = some o3 := by
  have h3 := alloc_new ((w.alloc o1).alloc o2) o3
  simp only [World.size_alloc] at h3
  have h12 := bx2 (w := w) (o1 := o1) (o2 := o2) (W := W) (((Below.refl _ _).alloc (Nat.le_refl _) _).trans (h.mono (by simp)))
  exact ⟨h12.1, h12.2, (h.block _ (by simp)).trans h3⟩
theorem below_3 {w : World} (o1 o2 o3 : Obj) : Below w.heap.size w (((w.alloc o1).alloc o2).alloc o3) :=
  (((Below.refl _ _).alloc (Nat.le_refl _) _).alloc (by simp) _).alloc (by simp; omega) _

set_option maxHeartbeats 800000 in
theorem fits_any (vl : Value) (l : List FB) (pk : Int) (pv : ByteArray) (x : RV) (w : World) (hv : Sl EF w vl l) (ok : ∀ f ∈ l, OkFi f) (hpv : pv.size ≤ maxLen) (hrp : x.r.path.size ≤ maxLen) :
    Calls Tryz.prog 33 #[vl, .agg #[.int .i64 pk, .string pv], rV x.r x.vq x.vh] w fun e w' => e = .returned (.bool (allF l && holdP pk (dl pv) (dl x.r.path))) ∧ Below w.heap.size w w' := by
  obtain ⟨⟨rm, rho, rp, qu, hd⟩, aq, cq, ah, ch⟩ := x
  dsimp only at *
  have C1 := fun W (h : Below w.heap.size w W) => hide (fall_any vl l W (hv.below h) ok)
  have C2 := fun W => hide (pholds_any pk pv rp W hpv hrp)
  clear hv ok hpv hrp
  generalize allF l = x1 at *
  generalize holdP pk (dl pv) (dl rp) = x2 at *
  have B2 : Below w.heap.size w ((w.alloc (.cells #[.int .i64 pk, .string pv] 24)).alloc (.cells #[.string rm, .string rho, .string rp, .slice aq qu.length cq, .slice ah hd.length ch] 27)) := ((Below.refl _ _).alloc (Nat.le_refl _) _).alloc (by simp) _
  cases x1
  · go_enter Tryz.func33, Tryz.ntmps33
    go_wp2_with fail
    refine ((C1 _ B2).out).mono ?_
    rintro e w1 ⟨rfl, hb1⟩
    go_wp2_with fail
    go_ret
    exact ⟨rfl, bb2 B2 hb1⟩
  · go_enter Tryz.func33, Tryz.ntmps33
    go_wp2_with fail
    refine (C1 _ B2).out.mono ?_
    rintro e w1 ⟨rfl, hb1⟩
    obtain ⟨k0, k1⟩ := bx2 hb1
    have p0 := cellN k0 (i := 0) rfl
    have p1 := cellN k0 (i := 1) rfl
    have r2 := cellN k1 (i := 2) rfl
    go_wp2_with fail
    refine ((C2 _).out).mono ?_
    rintro e w2 ⟨rfl, hb2⟩
    go_wp2_with fail
    go_ret
    exact ⟨rfl, bb2 (bb2 B2 hb1) hb2⟩

theorem RV.own.setL {x : RV} {W : World} {g t k : Nat} {old : Array Value} {cs : List Value} (h : x.own W) (hz : W.heap[g]? = some (.cells old t)) (hne : 83 ≠ t) : x.own (Go.Proofs.YtblmdcpcekoogaaGreatDoor.setL W g k cs) := by
  obtain ⟨⟨b, h1⟩, c, h2⟩ := h
  exact ⟨⟨b, row_setL h1 hz hne⟩, c, row_setL h2 hz hne⟩
/-- how large a request may have become -/
structure StOk (r : RB) (n : Nat) : Prop where
  len : r.head.length ≤ 31 + n
  head : ∀ p ∈ r.head, okF p
  path : r.path.size ≤ 100
theorem setQ_mem {l : List PairB} {n x : ByteArray} : ∀ p ∈ setQ l n x, p = (n, x) ∨ p ∈ l := by
  induction l with
  | nil => intro p hp; simp [setQ, Pb.setP] at hp; exact .inl hp
  | cons q r ih =>
    intro p hp
    unfold setQ Pb.setP at hp
    split at hp
    · rcases List.mem_cons.1 hp with rfl | hp
      · exact .inl rfl
      · exact .inr (List.mem_cons_of_mem _ (List.mem_filter.1 hp).1)
    · rcases List.mem_cons.1 hp with rfl | hp
      · exact .inr List.mem_cons_self
      · rcases ih p hp with h | h
        · exact .inl h
        · exact .inr (List.mem_cons_of_mem _ h)
theorem setQ_le (l : List PairB) (n x : ByteArray) : (setQ l n x).length ≤ l.length + 1 := by
  have h1 : (setQ l n x).length = (dropQ l n).length + 1 := Pb.len_set l n x
  have h2 : (dropQ l n).length ≤ l.length := List.length_filter_le _ _
  omega
theorem swapT_le (k : Int) (v b s : List UInt8) : (swapT k v b s).length ≤ 60 := by
  unfold swapT
  split
  · split
    · simp
    · omega
  · simp
theorem becT_le {f : FB} {k : Int} {v s : ByteArray} (hf : f.path.size ≤ 100) (hs : s.size ≤ 100) : (becT f k v s).size ≤ 100 := by
  unfold becT
  split
  · exact hs
  · split
    · exact hf
    · have := swapT_le k (dl v) (dl f.path) (dl s)
      show (swapT k (dl v) (dl f.path) (dl s)).toArray.size ≤ 100
      simp
      omega
theorem step_ok {k : Int} {v : ByteArray} {r y : RB} {f : FB} {n : Nat} (ok : OkFi f) (h : StOk r n) (hs : stepF k v r f = .ok y) : StOk y (n + 1) := by
  have hl := h.len
  unfold stepF at hs
  split at hs
  · cases hs
    have := setQ_le r.head f.name f.val
    exact ⟨by dsimp only; omega, fun p hp => by
      rcases setQ_mem p hp with rfl | hp
      · exact ⟨ok.name, ok.val⟩
      · exact h.head p hp, h.path⟩
  · split at hs
    · cases hs
      exact ⟨by simp; omega, fun p hp => by
        rcases List.mem_append.1 hp with hp | hp
        · exact h.head p hp
        · obtain rfl : p = (f.name, f.val) := by simpa using hp
          exact ⟨ok.name, ok.val⟩, h.path⟩
    · split at hs
      · cases hs
        have : (dropQ r.head f.name).length ≤ r.head.length := List.length_filter_le _ _
        exact ⟨by dsimp only; omega, fun p hp => h.head p (List.mem_filter.1 hp).1, h.path⟩
      · split at hs
        · split at hs
          · cases hs
            exact ⟨by dsimp only; omega, h.head, becT_le ok.path h.path⟩
          · cases hs
        · cases hs
          exact ⟨by omega, h.head, h.path⟩

/-- what holds at each round of Do -/
structure DoInv (w : World) (pk : Int) (pv : ByteArray) (M : Nat) (y : RV) (W : World) : Prop where
  own : y.own W
  pth : W.heap[w.heap.size]? = some (.cells #[.int .i64 pk, .string pv] 24)
  req : W.heap[w.heap.size + 1]? = some (.cells #[.string y.r.meth, .string y.r.host, .string y.r.path, .slice y.aq y.r.query.length y.cq, .slice y.ah y.r.head.length y.ch] 27)
  res : W.heap[w.heap.size + 1 + 1]? = some (.cells #[.string ⟨#[]⟩, .string ⟨#[]⟩, .string ⟨#[]⟩, .slice none 0 0, .slice none 0 0] 27)
  map : W.heap[M]? = some (.map deedEs 5)
  below : Below w.heap.size w W
theorem DoInv.next {w : World} {pk : Int} {pv : ByteArray} {M : Nat} {y y' : RV} {W W2 : World} {o o' : Obj} (h : DoInv w pk pv M y W) (hM : w.heap.size + 1 + 1 < M) (hb : Below (W.alloc o).heap.size (W.alloc o) W2) (hy : y'.own W2) :
    DoInv w pk pv M y' (setL (W2.alloc o') (w.heap.size + 1) 0 [.string y'.r.meth, .string y'.r.host, .string y'.r.path, .slice y'.aq y'.r.query.length y'.cq, .slice y'.ah y'.r.head.length y'.ch]) := by
  have b1 := bb2 (below_box hb) ((Below.refl _ W2).alloc (Nat.le_refl _) o')
  have hr := blk_below h.req b1
  exact ⟨(hy.below ((Below.refl _ W2).alloc (Nat.le_refl _) o')).setL hr (by decide), (setL_far (by omega) _ _ _).trans (blk_below h.pth b1), setL_all _ hr rfl, (setL_far (by omega) _ _ _).trans (blk_below h.res b1), (setL_far (by omega) _ _ _).trans (blk_below h.map b1), setL_below (by omega) _ _ _ (bb2 h.below b1)⟩

set_option maxHeartbeats 6400000 in
theorem do_any (vl : Value) (l : List FB) (pk : Int) (pv : ByteArray) (x : RV) (w : World) (hv : Sl EF w vl l) (ok : ∀ f ∈ l, OkFi f) (hpv : pv.size ≤ 100) (hx : x.at_ w) (okr : OkR x.r) :
    Calls Tryz.prog 12 #[vl, .agg #[.int .i64 pk, .string pv], rV x.r x.vq x.vh] w fun e w' => ∃ y : RV, e = rqE y (doF l pk pv x.r).2 ∧ y.r = (doF l pk pv x.r).1 ∧ y.own w' ∧ Below w.heap.size w w' := by
  have C1 := fun W (h : Below w.heap.size w W) => hide (fits_any vl l pk pv x W (hv.below h) ok (small_len (by omega)) (small_len (by have := okr.path; omega)))
  obtain ⟨⟨rm, rho, rp, qu, hd⟩, aq, cq, ah, ch⟩ := x
  obtain ⟨hq, hh⟩ := hx
  have lq := okr.qlen
  have lh := okr.hlen
  dsimp only at *
  have HOKR := hide okr
  have HOK := hide ok
  have hlen := hv.len
  obtain ⟨a, cap, rfl, hcap, hmax, hc⟩ := hv
  have HC := hide hc
  clear hc ok okr
  have B3 := below_3 (w := w) (.cells #[.int .i64 pk, .string pv] 24) (.cells #[.string rm, .string rho, .string rp, .slice aq qu.length cq, .slice ah hd.length ch] 27) (.cells #[.string ⟨#[]⟩, .string ⟨#[]⟩, .string ⟨#[]⟩, .slice none 0 0, .slice none 0 0] 27)
  cases hfit : (allF l && holdP pk (dl pv) (dl rp))
  · have HR : Hid (doF l pk pv ⟨rm, rho, rp, qu, hd⟩ = (zeroR, 1)) := by
      show doF _ _ _ _ = _
      unfold doF
      rw [if_neg (by rw [hfit]; decide)]
    rw [hfit] at C1
    clear hq hh
    go_enter Tryz.func12, Tryz.ntmps12
    go_wp2_with fail
    refine (C1 _ B3).out.mono ?_
    rintro e w1 ⟨rfl, hb1⟩
    have HZ := hide (bx3 hb1).2.2
    have BB := hide (bb2 B3 hb1)
    have lz := liveN HZ.out
    obtain ⟨z0, z1, z2, z3, z4⟩ : _ ∧ _ ∧ _ ∧ _ ∧ _ := ⟨cellN HZ.out (i := 0) rfl, cellN HZ.out (i := 1) rfl, cellN HZ.out (i := 2) rfl, cellN HZ.out (i := 3) rfl, cellN HZ.out (i := 4) rfl⟩
    clear C1
    go_wp2_with fail
    have S1 := setL_below (w := w) (B := w.heap.size) (g := w.heap.size + 1 + 1) (by omega) [.string ⟨#[]⟩, .string ⟨#[]⟩, .string ⟨#[]⟩, .slice none 0 0, .slice none 0 0] _ 0 BB.out
    have K4 := setL_all [.string ⟨#[]⟩, .string ⟨#[]⟩, .string ⟨#[]⟩, .slice none 0 0, .slice none 0 0] HZ.out rfl
    change bodyPost _ _ _ _ _ (setL w1 (w.heap.size + 1 + 1) 0 [.string ⟨#[]⟩, .string ⟨#[]⟩, .string ⟨#[]⟩, .slice none 0 0, .slice none 0 0])
    generalize setL w1 (w.heap.size + 1 + 1) 0 [.string ⟨#[]⟩, .string ⟨#[]⟩, .string ⟨#[]⟩, .slice none 0 0, .slice none 0 0] = W9 at *
    obtain ⟨e0, e1, e2, e3, e4⟩ : _ ∧ _ ∧ _ ∧ _ ∧ _ := ⟨cellN K4 (i := 0) rfl, cellN K4 (i := 1) rfl, cellN K4 (i := 2) rfl, cellN K4 (i := 3) rfl, cellN K4 (i := 4) rfl⟩
    exact bodyPost_ret (v := .tuple #[.agg #[.string ⟨#[]⟩, .string ⟨#[]⟩, .string ⟨#[]⟩, .slice none 0 0, .slice none 0 0], .int .i64 1]) (by simp [results, Tryz.f12, go_sem, e0, e1, e2, e3, e4]) rfl ⟨zeroRV, by rw [HR.out]; rfl, by rw [HR.out]; rfl, zeroRV_own _, S1⟩
  · have HFIT := hide hfit
    rw [hfit] at C1
    clear hfit
    go_enter Tryz.func12, Tryz.ntmps12
    go_wp2_with fail
    refine (C1 _ B3).out.mono ?_
    rintro e w1 ⟨rfl, hb1⟩
    have HB := fun W (h : Below w1.heap.size w1 W) => bx3 (bb2 hb1 h)
    have B4 := bb2 B3 hb1
    have CQ := fun W (h : Below w1.heap.size w1 W) => hide (clone_any (.slice aq qu.length cq) qu W (hq.below (bb2 B4 h)) (by omega))
    have CH := fun W (h : Below w1.heap.size w1 W) => hide (clone_any (.slice ah hd.length ch) hd W (hh.below (bb2 B4 h)) (by omega))
    have m3 := fun W h => cellN (HB W h).2.1 (i := 3) rfl
    have m4 := fun W h => cellN (HB W h).2.1 (i := 4) rfl
    have HBH := hide HB
    clear HB C1 hq hh hb1
    go_wp2_with fail
    refine wp_region_G 7 (fun w' => Below w1.heap.size w1 w') (by kernel_rfl) ((Below.refl _ _).drew) ?_
    refine wpG_take (i := 0) 5 (v := .pointer (some ⟨w.heap.size + 1, 3, none⟩)) rfl (by kernel_rfl) (by kernel_rfl) (by kernel_rfl) (by decide) (by kernel_rfl) (by kernel_rfl) (fun _ _ _ h => h) (Or.inl ⟨by rfl, fun w1 hS => ?_⟩) ?_
    · (try dsimp only at hS)
      go_simp
    simp only [Act.put, List.setIfInBounds_toArray, List.set_cons_zero, List.set_cons_succ]
    refine wpG_take (i := 1) 5 (v := .slice aq qu.length cq) rfl (by kernel_rfl) (by kernel_rfl) (by kernel_rfl) (by decide) (by kernel_rfl) (by kernel_rfl) (fun _ _ _ h => h) (Or.inl ⟨by rfl, fun w1 hS => ?_⟩) ?_
    · (try dsimp only at hS)
      go_simp
    simp only [Act.put, List.setIfInBounds_toArray, List.set_cons_zero, List.set_cons_succ]
    refine wpG_take (i := 3) 5 (v := .pointer (some ⟨w.heap.size + 1, 4, none⟩)) rfl (by kernel_rfl) (by kernel_rfl) (by kernel_rfl) (by decide) (by kernel_rfl) (by kernel_rfl) (fun _ _ _ h => h) (Or.inl ⟨by rfl, fun w1 hS => ?_⟩) ?_
    · (try dsimp only at hS)
      go_simp
    simp only [Act.put, List.setIfInBounds_toArray, List.set_cons_zero, List.set_cons_succ]
    refine wpG_take (i := 4) 5 (v := .slice ah hd.length ch) rfl (by kernel_rfl) (by kernel_rfl) (by kernel_rfl) (by decide) (by kernel_rfl) (by kernel_rfl) (fun _ _ _ h => h) (Or.inl ⟨by rfl, fun w1 hS => ?_⟩) ?_
    · (try dsimp only at hS)
      go_simp
    simp only [Act.put, List.setIfInBounds_toArray, List.set_cons_zero, List.set_cons_succ]
    clear m3 m4
    refine wpG_ready (rs := [2]) (by kernel_rfl) (by simp) (fun W2 hG2 hS2 i hi => ?_)
    obtain rfl : i = 2 := by simpa using hi
    clear hi
    refine wpOp_step rfl (by rfl) (fun K' hK' => ?_)
    replace hK' := hide hK'
    go_simp
    refine (CQ _ hS2).out.mono ?_
    rintro e x2 ⟨u2, rfl, ⟨d2, r2⟩, hb2⟩
    have B2 := hS2.trans (hb2.mono hS2.size)
    obtain ⟨aa, ac, hu2⟩ := row_form r2
    subst hu2
    go_wp2_with fail
    refine hK'.out _ _ (wpG_kept (by decide) B2 ?_)
    clear hK' K' hG2 hS2 hb2
    refine wpG_take (i := 6) 5 (v := .pointer (some ⟨w.heap.size + 1, 3, none⟩)) rfl (by kernel_rfl) (by kernel_rfl) (by kernel_rfl) (by decide) (by kernel_rfl) (by kernel_rfl) (fun _ _ _ h => h) (Or.inl ⟨by rfl, fun w1 hS => ?_⟩) ?_
    · (try dsimp only at hS)
      go_simp
    simp only [Act.put, List.setIfInBounds_toArray, List.set_cons_zero, List.set_cons_succ]
    refine wpG_ready (rs := [5]) (by kernel_rfl) (by simp) (fun W5 hG5 hS5 i hi => ?_)
    obtain rfl : i = 5 := by simpa using hi
    clear hi
    refine wpOp_step rfl (by rfl) (fun K' hK' => ?_)
    replace hK' := hide hK'
    go_simp
    refine (CH _ hS5).out.mono ?_
    rintro e x5 ⟨u5, rfl, ⟨d5, r5⟩, hb5⟩
    have B5 := hS5.trans (hb5.mono hS5.size)
    obtain ⟨ba, bc, hu5⟩ := row_form r5
    subst hu5
    go_wp2_with fail
    refine hK'.out _ _ (wpG_kept (by decide) B5 ?_)
    replace r2 := ownsRow_below (ownsRow_below r2 hG5) hb5
    clear hK' K' hG5 hS5 hb5
    refine wpG_ready (rs := [7]) (by kernel_rfl) (by simp) (fun W hG hS i hi => ?_)
    obtain rfl : i = 7 := by simpa using hi
    clear hi
    obtain ⟨k0, k1, k2⟩ := HBH.out W hS
    replace r2 := ownsRow_below r2 hG
    replace r5 := ownsRow_below r5 hG
    have BZ := bb2 B4 hS
    have x3 := cellN k1 (i := 3) rfl
    have lv := liveN k1
    refine wpOp_step rfl (by rfl) (fun K' hK' => ?_)
    go_simp
    refine hK' _ _ (wpG_past (by decide) ?_)
    clear hK' K' x3 lv hG hS HBH CQ CH
    have k1' := set_blk (i := 3) (.slice aa qu.length ac) k1
    have x4 := cellN k1' (i := 4) rfl
    have lv := liveN k1'
    refine wpAny_one (i := 8) (by kernel_rfl) ?_
    refine wpOp_step rfl (by rfl) (fun K' hK' => ?_)
    go_simp
    refine hK' _ _ ?_
    clear hK' K'
    refine wpAny_one (i := 9) (by kernel_rfl) ?_
    refine wpOp_step rfl (by rfl) (fun K' hK' => ?_)
    go_simp
    refine hK' _ _ ?_
    clear hK' K' x4 lv
    refine wpAny_end (by kernel_rfl) ?_
    have k1f := set_blk (i := 4) (.slice ba hd.length bc) k1'
    have OWN : RV.own ⟨⟨rm, rho, rp, qu, hd⟩, aa, ac, ba, bc⟩ (setL W (w.heap.size + 1) 3 [.slice aa qu.length ac, .slice ba hd.length bc]) := ⟨⟨_, row_setL r2 k1 (by decide)⟩, _, row_setL r5 k1 (by decide)⟩
    have k0f := (setL_far (g := w.heap.size + 1) (m := w.heap.size) (by omega) [.slice aa qu.length ac, .slice ba hd.length bc] W 3).trans k0
    have k2f := (setL_far (g := w.heap.size + 1) (m := w.heap.size + 1 + 1) (by omega) [.slice aa qu.length ac, .slice ba hd.length bc] W 3).trans k2
    have BF := setL_below (w := w) (B := w.heap.size) (g := w.heap.size + 1) (by omega) [.slice aa qu.length ac, .slice ba hd.length bc] W 3 BZ
    change (setL W (w.heap.size + 1) 3 [.slice aa qu.length ac, .slice ba hd.length bc]).heap[_]? = _ at k1f
    change Exit.then _ _ _ _ (setL W (w.heap.size + 1) 3 [.slice aa qu.length ac, .slice ba hd.length bc])
    generalize setL W (w.heap.size + 1) 3 [.slice aa qu.length ac, .slice ba hd.length bc] = V at *
    clear k0 k1 k1' k2 r2 r5 BZ B4 B3 B2 B5
    obtain ⟨M, hMe⟩ : ∃ z, z = V.heap.size := ⟨_, rfl⟩
    have I0 : DoInv w pk pv M ⟨⟨rm, rho, rp, qu, hd⟩, aa, ac, ba, bc⟩ (V.alloc (.map deedEs 5)) := by
      have ba := (Below.refl _ V).alloc (Nat.le_refl _) (.map deedEs 5)
      exact ⟨OWN.below ba, blk_below k0f ba, blk_below k1f ba, blk_below k2f ba, by rw [hMe]; exact alloc_new _ _, bb2 BF ba⟩
    have hM : w.heap.size + 1 + 1 < M := by rw [hMe]; exact lt_blk k2f
    have HI0 := hide I0
    clear I0 OWN k0f k1f k2f BF
    go_wp2_with fail
    refine (deeds_any V).mono ?_
    rintro e w3 ⟨rfl, hw3⟩
    rw [hw3, ← hMe]
    clear hw3 hMe
    go_wp2_with fail
    go_loopw [30] (fun i wr => ∃ k : Nat, k ≤ l.length ∧ i = .int .i64 k ∧ ∃ y : RV, Hid (runF pk pv (l.take k) ⟨rm, rho, rp, qu, hd⟩ = .ok y.r ∧ StOk y.r k) ∧ DoInv w pk pv M y wr) (fun i _ => l.length - (intOf i).toNat)
    case atStart => exact ⟨0, Nat.zero_le _, rfl, _, ⟨rfl, ⟨by omega, HOKR.out.head, HOKR.out.path⟩⟩, HI0.out⟩
    case round =>
      obtain ⟨k, hk, rfl, y, HRUN, hI⟩ := hrel
      have hall := (Bool.and_eq_true _ _ ▸ HFIT.out : allF l = true ∧ _).1
      have h8 := (allF_iff.1 hall).1
      have HM := hide hall
      clear hall
      by_cases hlt : k < l.length
      · have hlt' : (k : Int) < (l.length : Int) := by omega
        obtain ⟨_, gg, off, rfl, hgg, hat⟩ := HC.out k hlt
        obtain ⟨c0, c1, c2, c3, c4, c5, c6, c7⟩ := EF_at (show EF.At wr gg (off + k * 8) l[k] from fun j u hu => (hI.below.cell (p := ⟨gg, off + k * 8 + j, none⟩) hgg).trans (hat j u hu))
        clear hat
        have okk := HOK.out l[k] (List.getElem_mem hlt)
        have hkind := may_kind (may_one HM.out (List.getElem_mem hlt))
        have hMl : M < wr.heap.size := lt_blk hI.map
        have HFK : Hid (l[k] = l[k]) := rfl
        generalize hfk : l[k] = fk at *
        replace HFK := hide hfk
        clear hfk
        obtain ⟨k0, n0, v0, h0, p0, t0, b0, z0⟩ := fk
        dsimp only at c0 c1 c2 c3 c4 c5 c6 c7 hkind
        have B1 : Below wr.heap.size wr (wr.alloc (.cells #[.int .i64 k0, .string n0, .string v0, .string h0, .int .i64 p0, .string t0, .bool b0, .int .i64 z0] 87)) := (Below.refl _ wr).alloc (Nat.le_refl _) _
        have hp := blk_below hI.pth B1
        have hq := blk_below hI.req B1
        have p0' := cellN hp (i := 0) rfl
        have p1' := cellN hp (i := 1) rfl
        obtain ⟨q0, q1, q2, q3, q4⟩ : _ ∧ _ ∧ _ ∧ _ ∧ _ := ⟨cellN hq (i := 0) rfl, cellN hq (i := 1) rfl, cellN hq (i := 2) rfl, cellN hq (i := 3) rfl, cellN hq (i := 4) rfl⟩
        clear hp hq
        rcases hkind with hkind | hkind | hkind | hkind | hkind
        · obtain rfl : k0 = 1 := hkind
          have HL := (deeds_look (W := wr.alloc (.cells #[.int .i64 1, .string n0, .string v0, .string h0, .int .i64 p0, .string t0, .bool b0, .int .i64 z0] 87)) (m := M) ((Below.heap_alloc _ _ _ hMl).trans hI.map)).1
          have ent : ∀ (args : Array Value) (w : World), (callFunc 85 args).run Tryz.prog w = .ok (.enter 85 args) w := fun args w => enter_any Tryz.func85 (by kernel_rfl) rfl args w
          have C2 := hide (set_deed ⟨1, n0, v0, h0, p0, t0, b0, z0⟩ pk pv y (wr.alloc (.cells #[.int .i64 1, .string n0, .string v0, .string h0, .int .i64 p0, .string t0, .bool b0, .int .i64 z0] 87)) okk (hI.own.below B1) (fun p hp => okF_okP HRUN.out.2.head p hp) (by have := HRUN.out.2.len; omega))
          go_wp2_with fail
          refine C2.out.mono ?_
          rintro e w2 ⟨y2, rfl, hy2, own2, hb2⟩
          have HSt : Hid (stepF pk pv y.r (⟨1, n0, v0, h0, p0, t0, b0, z0⟩) = .ok y2.r) := by
            unfold Hid
            rw [hy2]
            rfl
          have HI2 := hide (hI.next (o' := (.cells #[.string y2.r.meth, .string y2.r.host, .string y2.r.path, .slice y2.aq y2.r.query.length y2.cq, .slice y2.ah y2.r.head.length y2.ch] 27)) hM hb2 own2)
          have hr := blk_below hI.req (bb2 (below_box hb2) ((Below.refl _ w2).alloc (Nat.le_refl _) (.cells #[.string y2.r.meth, .string y2.r.host, .string y2.r.path, .slice y2.aq y2.r.query.length y2.cq, .slice y2.ah y2.r.head.length y2.ch] 27)))
          have lr := liveN hr
          obtain ⟨s0, s1, s2, s3, s4⟩ : _ ∧ _ ∧ _ ∧ _ ∧ _ := ⟨cellN hr (i := 0) rfl, cellN hr (i := 1) rfl, cellN hr (i := 2) rfl, cellN hr (i := 3) rfl, cellN hr (i := 4) rfl⟩
          clear hr hy2 own2
          go_wp2_with fail
          exact ⟨⟨k + 1, by omega, by go_num, y2, ⟨by rw [run_take hlt, HRUN.out.1, HFK.out]; exact HSt.out, step_ok okk HRUN.out.2 HSt.out⟩, HI2.out⟩, by simp [intOf]; omega⟩
        · obtain rfl : k0 = 2 := hkind
          have HL := (deeds_look (W := wr.alloc (.cells #[.int .i64 2, .string n0, .string v0, .string h0, .int .i64 p0, .string t0, .bool b0, .int .i64 z0] 87)) (m := M) ((Below.heap_alloc _ _ _ hMl).trans hI.map)).2.1
          have ent : ∀ (args : Array Value) (w : World), (callFunc 86 args).run Tryz.prog w = .ok (.enter 86 args) w := fun args w => enter_any Tryz.func86 (by kernel_rfl) rfl args w
          have C2 := hide (add_deed ⟨2, n0, v0, h0, p0, t0, b0, z0⟩ pk pv y (wr.alloc (.cells #[.int .i64 2, .string n0, .string v0, .string h0, .int .i64 p0, .string t0, .bool b0, .int .i64 z0] 87)) okk (hI.own.below B1) (fun p hp => okF_okP HRUN.out.2.head p hp) (by have := HRUN.out.2.len; omega))
          go_wp2_with fail
          refine C2.out.mono ?_
          rintro e w2 ⟨y2, rfl, hy2, own2, hb2⟩
          have HSt : Hid (stepF pk pv y.r (⟨2, n0, v0, h0, p0, t0, b0, z0⟩) = .ok y2.r) := by
            unfold Hid
            rw [hy2]
            rfl
          have HI2 := hide (hI.next (o' := (.cells #[.string y2.r.meth, .string y2.r.host, .string y2.r.path, .slice y2.aq y2.r.query.length y2.cq, .slice y2.ah y2.r.head.length y2.ch] 27)) hM hb2 own2)
          have hr := blk_below hI.req (bb2 (below_box hb2) ((Below.refl _ w2).alloc (Nat.le_refl _) (.cells #[.string y2.r.meth, .string y2.r.host, .string y2.r.path, .slice y2.aq y2.r.query.length y2.cq, .slice y2.ah y2.r.head.length y2.ch] 27)))
          have lr := liveN hr
          obtain ⟨s0, s1, s2, s3, s4⟩ : _ ∧ _ ∧ _ ∧ _ ∧ _ := ⟨cellN hr (i := 0) rfl, cellN hr (i := 1) rfl, cellN hr (i := 2) rfl, cellN hr (i := 3) rfl, cellN hr (i := 4) rfl⟩
          clear hr hy2 own2
          go_wp2_with fail
          exact ⟨⟨k + 1, by omega, by go_num, y2, ⟨by rw [run_take hlt, HRUN.out.1, HFK.out]; exact HSt.out, step_ok okk HRUN.out.2 HSt.out⟩, HI2.out⟩, by simp [intOf]; omega⟩
        · obtain rfl : k0 = 3 := hkind
          have HL := (deeds_look (W := wr.alloc (.cells #[.int .i64 3, .string n0, .string v0, .string h0, .int .i64 p0, .string t0, .bool b0, .int .i64 z0] 87)) (m := M) ((Below.heap_alloc _ _ _ hMl).trans hI.map)).2.2.1
          have ent : ∀ (args : Array Value) (w : World), (callFunc 87 args).run Tryz.prog w = .ok (.enter 87 args) w := fun args w => enter_any Tryz.func87 (by kernel_rfl) rfl args w
          have C2 := hide (drop_deed ⟨3, n0, v0, h0, p0, t0, b0, z0⟩ pk pv y (wr.alloc (.cells #[.int .i64 3, .string n0, .string v0, .string h0, .int .i64 p0, .string t0, .bool b0, .int .i64 z0] 87)) okk (hI.own.below B1) (fun p hp => okF_okP HRUN.out.2.head p hp) (by have := HRUN.out.2.len; omega))
          go_wp2_with fail
          refine C2.out.mono ?_
          rintro e w2 ⟨y2, rfl, hy2, own2, hb2⟩
          have HSt : Hid (stepF pk pv y.r (⟨3, n0, v0, h0, p0, t0, b0, z0⟩) = .ok y2.r) := by
            unfold Hid
            rw [hy2]
            rfl
          have HI2 := hide (hI.next (o' := (.cells #[.string y2.r.meth, .string y2.r.host, .string y2.r.path, .slice y2.aq y2.r.query.length y2.cq, .slice y2.ah y2.r.head.length y2.ch] 27)) hM hb2 own2)
          have hr := blk_below hI.req (bb2 (below_box hb2) ((Below.refl _ w2).alloc (Nat.le_refl _) (.cells #[.string y2.r.meth, .string y2.r.host, .string y2.r.path, .slice y2.aq y2.r.query.length y2.cq, .slice y2.ah y2.r.head.length y2.ch] 27)))
          have lr := liveN hr
          obtain ⟨s0, s1, s2, s3, s4⟩ : _ ∧ _ ∧ _ ∧ _ ∧ _ := ⟨cellN hr (i := 0) rfl, cellN hr (i := 1) rfl, cellN hr (i := 2) rfl, cellN hr (i := 3) rfl, cellN hr (i := 4) rfl⟩
          clear hr hy2 own2
          go_wp2_with fail
          exact ⟨⟨k + 1, by omega, by go_num, y2, ⟨by rw [run_take hlt, HRUN.out.1, HFK.out]; exact HSt.out, step_ok okk HRUN.out.2 HSt.out⟩, HI2.out⟩, by simp [intOf]; omega⟩
        · obtain rfl : k0 = 4 := hkind
          have HL := (deeds_look (W := wr.alloc (.cells #[.int .i64 4, .string n0, .string v0, .string h0, .int .i64 p0, .string t0, .bool b0, .int .i64 z0] 87)) (m := M) ((Below.heap_alloc _ _ _ hMl).trans hI.map)).2.2.2.1
          have ent : ∀ (args : Array Value) (w : World), (callFunc 88 args).run Tryz.prog w = .ok (.enter 88 args) w := fun args w => enter_any Tryz.func88 (by kernel_rfl) rfl args w
          have C2 := hide (keep_deed ⟨4, n0, v0, h0, p0, t0, b0, z0⟩ pk pv y (wr.alloc (.cells #[.int .i64 4, .string n0, .string v0, .string h0, .int .i64 p0, .string t0, .bool b0, .int .i64 z0] 87)) (hI.own.below B1))
          go_wp2_with fail
          refine C2.out.mono ?_
          rintro e w2 ⟨y2, rfl, hy2, own2, hb2⟩
          have HSt : Hid (stepF pk pv y.r (⟨4, n0, v0, h0, p0, t0, b0, z0⟩) = .ok y2.r) := by
            unfold Hid
            rw [hy2]
            rfl
          have HI2 := hide (hI.next (o' := (.cells #[.string y2.r.meth, .string y2.r.host, .string y2.r.path, .slice y2.aq y2.r.query.length y2.cq, .slice y2.ah y2.r.head.length y2.ch] 27)) hM hb2 own2)
          have hr := blk_below hI.req (bb2 (below_box hb2) ((Below.refl _ w2).alloc (Nat.le_refl _) (.cells #[.string y2.r.meth, .string y2.r.host, .string y2.r.path, .slice y2.aq y2.r.query.length y2.cq, .slice y2.ah y2.r.head.length y2.ch] 27)))
          have lr := liveN hr
          obtain ⟨s0, s1, s2, s3, s4⟩ : _ ∧ _ ∧ _ ∧ _ ∧ _ := ⟨cellN hr (i := 0) rfl, cellN hr (i := 1) rfl, cellN hr (i := 2) rfl, cellN hr (i := 3) rfl, cellN hr (i := 4) rfl⟩
          clear hr hy2 own2
          go_wp2_with fail
          exact ⟨⟨k + 1, by omega, by go_num, y2, ⟨by rw [run_take hlt, HRUN.out.1, HFK.out]; exact HSt.out, step_ok okk HRUN.out.2 HSt.out⟩, HI2.out⟩, by simp [intOf]; omega⟩
        · obtain rfl : k0 = 5 := hkind
          have HL := (deeds_look (W := wr.alloc (.cells #[.int .i64 5, .string n0, .string v0, .string h0, .int .i64 p0, .string t0, .bool b0, .int .i64 z0] 87)) (m := M) ((Below.heap_alloc _ _ _ hMl).trans hI.map)).2.2.2.2
          have ent : ∀ (args : Array Value) (w : World), (callFunc 89 args).run Tryz.prog w = .ok (.enter 89 args) w := fun args w => enter_any Tryz.func89 (by kernel_rfl) rfl args w
          have C2 := hide (swap_deed ⟨5, n0, v0, h0, p0, t0, b0, z0⟩ pk pv y (wr.alloc (.cells #[.int .i64 5, .string n0, .string v0, .string h0, .int .i64 p0, .string t0, .bool b0, .int .i64 z0] 87)) okk (small_len (by omega)) (small_len (by have := HRUN.out.2.path; omega)) (hI.own.below B1))
          go_wp2_with fail
          refine C2.out.mono ?_
          rintro e w2 ⟨y2, rfl, hy2, own2, hb2⟩
          have HBE : Hid (stepF pk pv y.r ⟨5, n0, v0, h0, p0, t0, b0, z0⟩ = if becE ⟨5, n0, v0, h0, p0, t0, b0, z0⟩ pk pv y.r.path = 0 then .ok { y.r with host := hostOf ⟨5, n0, v0, h0, p0, t0, b0, z0⟩ y.r.host, path := becT ⟨5, n0, v0, h0, p0, t0, b0, z0⟩ pk pv y.r.path } else .error (becE ⟨5, n0, v0, h0, p0, t0, b0, z0⟩ pk pv y.r.path)) := rfl
          generalize becE ⟨5, n0, v0, h0, p0, t0, b0, z0⟩ pk pv y.r.path = be at *
          by_cases he : be = 0
          · rw [if_pos he] at hy2
            subst he
            have HSt : Hid (stepF pk pv y.r (⟨5, n0, v0, h0, p0, t0, b0, z0⟩) = .ok y2.r) := by
              unfold Hid
              rw [hy2]
              exact HBE.out.trans (if_pos rfl)
            have HI2 := hide (hI.next (o' := (.cells #[.string y2.r.meth, .string y2.r.host, .string y2.r.path, .slice y2.aq y2.r.query.length y2.cq, .slice y2.ah y2.r.head.length y2.ch] 27)) hM hb2 own2)
            have hr := blk_below hI.req (bb2 (below_box hb2) ((Below.refl _ w2).alloc (Nat.le_refl _) (.cells #[.string y2.r.meth, .string y2.r.host, .string y2.r.path, .slice y2.aq y2.r.query.length y2.cq, .slice y2.ah y2.r.head.length y2.ch] 27)))
            have lr := liveN hr
            obtain ⟨s0, s1, s2, s3, s4⟩ : _ ∧ _ ∧ _ ∧ _ ∧ _ := ⟨cellN hr (i := 0) rfl, cellN hr (i := 1) rfl, cellN hr (i := 2) rfl, cellN hr (i := 3) rfl, cellN hr (i := 4) rfl⟩
            clear hr hy2 own2
            go_wp2_with fail
            exact ⟨⟨k + 1, by omega, by go_num, y2, ⟨by rw [run_take hlt, HRUN.out.1, HFK.out]; exact HSt.out, step_ok okk HRUN.out.2 HSt.out⟩, HI2.out⟩, by simp [intOf]; omega⟩
          · have he' : (be != 0) = true := by simpa using he
            have HR : Hid (doF l pk pv ⟨rm, rho, rp, qu, hd⟩ = (zeroR, be)) := by
              have h1 : runF pk pv (l.take (k + 1)) ⟨rm, rho, rp, qu, hd⟩ = .error be := by
                rw [run_take hlt, HRUN.out.1, HFK.out]
                show stepF pk pv y.r ⟨5, n0, v0, h0, p0, t0, b0, z0⟩ = _
                rw [HBE.out, if_neg he]
              show doF _ _ _ _ = _
              unfold doF
              rw [if_pos HFIT.out, run_stop h1]
            rw [if_neg he] at hy2
            have b1 := bb2 (below_box hb2) ((Below.refl _ w2).alloc (Nat.le_refl _) (.cells #[.string y2.r.meth, .string y2.r.host, .string y2.r.path, .slice y2.aq y2.r.query.length y2.cq, .slice y2.ah y2.r.head.length y2.ch] 27))
            have HZ := hide (blk_below hI.res b1)
            have BB := hide (bb2 hI.below b1)
            have lz := liveN HZ.out
            obtain ⟨z0, z1, z2, z3, z4⟩ : _ ∧ _ ∧ _ ∧ _ ∧ _ := ⟨cellN HZ.out (i := 0) rfl, cellN HZ.out (i := 1) rfl, cellN HZ.out (i := 2) rfl, cellN HZ.out (i := 3) rfl, cellN HZ.out (i := 4) rfl⟩
            clear hy2 own2
            go_wp2_with fail
            have S1 := setL_below (w := w) (B := w.heap.size) (g := w.heap.size + 1 + 1) (by omega) [.string ⟨#[]⟩, .string ⟨#[]⟩, .string ⟨#[]⟩, .slice none 0 0, .slice none 0 0] _ 0 BB.out
            have K4 := setL_all [.string ⟨#[]⟩, .string ⟨#[]⟩, .string ⟨#[]⟩, .slice none 0 0, .slice none 0 0] HZ.out rfl
            change bodyPost _ _ _ _ _ (setL (w2.alloc (.cells #[.string y2.r.meth, .string y2.r.host, .string y2.r.path, .slice y2.aq y2.r.query.length y2.cq, .slice y2.ah y2.r.head.length y2.ch] 27)) (w.heap.size + 1 + 1) 0 [.string ⟨#[]⟩, .string ⟨#[]⟩, .string ⟨#[]⟩, .slice none 0 0, .slice none 0 0])
            generalize setL (w2.alloc (.cells #[.string y2.r.meth, .string y2.r.host, .string y2.r.path, .slice y2.aq y2.r.query.length y2.cq, .slice y2.ah y2.r.head.length y2.ch] 27)) (w.heap.size + 1 + 1) 0 [.string ⟨#[]⟩, .string ⟨#[]⟩, .string ⟨#[]⟩, .slice none 0 0, .slice none 0 0] = W9 at *
            obtain ⟨e0, e1, e2, e3, e4⟩ : _ ∧ _ ∧ _ ∧ _ ∧ _ := ⟨cellN K4 (i := 0) rfl, cellN K4 (i := 1) rfl, cellN K4 (i := 2) rfl, cellN K4 (i := 3) rfl, cellN K4 (i := 4) rfl⟩
            exact bodyPost_ret (v := .tuple #[.agg #[.string ⟨#[]⟩, .string ⟨#[]⟩, .string ⟨#[]⟩, .slice none 0 0, .slice none 0 0], .int .i64 be]) (by simp [results, Tryz.f12, go_sem, e0, e1, e2, e3, e4]) rfl ⟨zeroRV, by rw [HR.out]; rfl, by rw [HR.out]; rfl, zeroRV_own _, S1⟩
      · have hlt' : ¬ (k : Int) < (l.length : Int) := by omega
        have HRE : Hid (runF pk pv l ⟨rm, rho, rp, qu, hd⟩ = .ok y.r) := by
          have := HRUN.out.1
          rwa [List.take_of_length_le (by omega)] at this
        have HDO : Hid (doF l pk pv ⟨rm, rho, rp, qu, hd⟩ = if 30 < y.r.head.length then (zeroR, 5) else (y.r, 0)) := by
          show doF _ _ _ _ = _
          unfold doF
          rw [if_pos HFIT.out, HRE.out]
        have q4 := cellN hI.req (i := 4) rfl
        have HZ := hide hI.res
        have BB := hide hI.below
        have lz := liveN HZ.out
        obtain ⟨z0, z1, z2, z3, z4⟩ : _ ∧ _ ∧ _ ∧ _ ∧ _ := ⟨cellN HZ.out (i := 0) rfl, cellN HZ.out (i := 1) rfl, cellN HZ.out (i := 2) rfl, cellN HZ.out (i := 3) rfl, cellN HZ.out (i := 4) rfl⟩
        by_cases h30 : 30 < y.r.head.length
        · have h30' : (30 : Int) < (y.r.head.length : Int) := by omega
          have HR : Hid (doF l pk pv ⟨rm, rho, rp, qu, hd⟩ = (zeroR, 5)) := by
            show _ = _
            rw [HDO.out, if_pos h30]
          go_wp2_with fail
          have S1 := setL_below (w := w) (B := w.heap.size) (g := w.heap.size + 1 + 1) (by omega) [.string ⟨#[]⟩, .string ⟨#[]⟩, .string ⟨#[]⟩, .slice none 0 0, .slice none 0 0] _ 0 BB.out
          have K4 := setL_all [.string ⟨#[]⟩, .string ⟨#[]⟩, .string ⟨#[]⟩, .slice none 0 0, .slice none 0 0] HZ.out rfl
          change bodyPost _ _ _ _ _ (setL wr (w.heap.size + 1 + 1) 0 [.string ⟨#[]⟩, .string ⟨#[]⟩, .string ⟨#[]⟩, .slice none 0 0, .slice none 0 0])
          generalize setL wr (w.heap.size + 1 + 1) 0 [.string ⟨#[]⟩, .string ⟨#[]⟩, .string ⟨#[]⟩, .slice none 0 0, .slice none 0 0] = W9 at *
          obtain ⟨e0, e1, e2, e3, e4⟩ : _ ∧ _ ∧ _ ∧ _ ∧ _ := ⟨cellN K4 (i := 0) rfl, cellN K4 (i := 1) rfl, cellN K4 (i := 2) rfl, cellN K4 (i := 3) rfl, cellN K4 (i := 4) rfl⟩
          exact bodyPost_ret (v := .tuple #[.agg #[.string ⟨#[]⟩, .string ⟨#[]⟩, .string ⟨#[]⟩, .slice none 0 0, .slice none 0 0], .int .i64 5]) (by simp [results, Tryz.f12, go_sem, e0, e1, e2, e3, e4]) rfl ⟨zeroRV, by rw [HR.out]; rfl, by rw [HR.out]; rfl, zeroRV_own _, S1⟩
        · have h30' : ¬ (30 : Int) < (y.r.head.length : Int) := by omega
          have HR : Hid (doF l pk pv ⟨rm, rho, rp, qu, hd⟩ = (y.r, 0)) := by
            show _ = _
            rw [HDO.out, if_neg h30]
          obtain ⟨q0, q1, q2, q3⟩ : _ ∧ _ ∧ _ ∧ _ := ⟨cellN hI.req (i := 0) rfl, cellN hI.req (i := 1) rfl, cellN hI.req (i := 2) rfl, cellN hI.req (i := 3) rfl⟩
          go_wp2_with fail
          have S1 := setL_below (w := w) (B := w.heap.size) (g := w.heap.size + 1 + 1) (by omega) [.string y.r.meth, .string y.r.host, .string y.r.path, .slice y.aq y.r.query.length y.cq, .slice y.ah y.r.head.length y.ch] _ 0 BB.out
          have K4 := setL_all [.string y.r.meth, .string y.r.host, .string y.r.path, .slice y.aq y.r.query.length y.cq, .slice y.ah y.r.head.length y.ch] HZ.out rfl
          have O1 := hI.own.setL (k := 0) (cs := [.string y.r.meth, .string y.r.host, .string y.r.path, .slice y.aq y.r.query.length y.cq, .slice y.ah y.r.head.length y.ch]) HZ.out (by decide)
          change bodyPost _ _ _ _ _ (setL wr (w.heap.size + 1 + 1) 0 [.string y.r.meth, .string y.r.host, .string y.r.path, .slice y.aq y.r.query.length y.cq, .slice y.ah y.r.head.length y.ch])
          generalize setL wr (w.heap.size + 1 + 1) 0 [.string y.r.meth, .string y.r.host, .string y.r.path, .slice y.aq y.r.query.length y.cq, .slice y.ah y.r.head.length y.ch] = W9 at *
          obtain ⟨e0, e1, e2, e3, e4⟩ : _ ∧ _ ∧ _ ∧ _ ∧ _ := ⟨cellN K4 (i := 0) rfl, cellN K4 (i := 1) rfl, cellN K4 (i := 2) rfl, cellN K4 (i := 3) rfl, cellN K4 (i := 4) rfl⟩
          exact bodyPost_ret (v := .tuple #[.agg #[.string y.r.meth, .string y.r.host, .string y.r.path, .slice y.aq y.r.query.length y.cq, .slice y.ah y.r.head.length y.ch], .int .i64 0]) (by simp [results, Tryz.f12, go_sem, e0, e1, e2, e3, e4]) rfl ⟨y, by rw [HR.out], by rw [HR.out], O1, S1⟩

end Go.Proofs.YtblmdcpcekoogaaGreatDoor
namespace Go.Proofs.YtblmdcpcekoogaaGreatDoor
set_option maxRecDepth 20000
open Go Go.RowKit Go.Shelf Fi

/-- is the port told? -/
def needD (port : Int) (tls : Bool) : Prop := port ≠ 0 ∧ ¬ (port = 80 ∧ tls = false) ∧ ¬ (port = 443 ∧ tls = true)
/-- strconv.Itoa at a port, from here on -/
def ItoaAt (w : World) (n : Int) : Prop := ∀ W, Below w.heap.size w W → Calls Tryz.prog 96 #[.int .i64 n] W fun e w' => e = .returned (.string (mkB (digs 8 n.toNat))) ∧ Below W.heap.size W w'
theorem ItoaAt.below {w W : World} {n : Int} (h : ItoaAt w n) (hb : Below w.heap.size w W) : ItoaAt W n := fun V hV => h V (bb2 hb hV)
theorem digs_len : ∀ (k n : Nat), (digs k n).length ≤ k
  | 0, _ => Nat.zero_le _
  | k + 1, n => by
    unfold digs
    split
    · simp
    · have := digs_len k (n / 10)
      simp
      omega

set_option maxHeartbeats 1600000 in
theorem address_any (host : ByteArray) (port : Int) (to : ByteArray) (tls : Bool) (w : World) (hh : host.size ≤ 1000) (ht : to.size ≤ 1000) (CI : needD port tls → ItoaAt w port) :
    Calls Tryz.prog 44 #[.string host, .int .i64 port, .string to, .bool tls] w fun e w' => e = .returned (.string (mkB (scheme tls ++ (dl host ++ portT port tls ++ dl to)))) ∧ Below w.heap.size w w' := by
  by_cases hn : needD port tls
  · have hp : portT port tls = 58 :: digs 8 port.toNat := if_pos hn
    have C1 := hide (CI hn w (Below.refl _ _))
    have HL := digs_len 8 port.toNat
    obtain ⟨h0, h1, h2⟩ := hn
    have t0 : (port == 0) = false := by simpa using h0
    have hsz := mkB_size (digs 8 port.toNat)
    have HT : Hid ((((mkB (scheme tls) ++ host) ++ ⟨#[58]⟩) ++ mkB (digs 8 port.toNat)) ++ to = mkB (scheme tls ++ (dl host ++ portT port tls ++ dl to))) := by
      refine mkB_eq ?_
      rw [app_data, app_data, app_data, app_data, mkB_list, mkB_list, hp]
      simp [dl]
    clear hp CI
    generalize mkB (scheme tls ++ (dl host ++ portT port tls ++ dl to)) = r at *
    generalize mkB (digs 8 port.toNat) = ds at *
    cases tls
    · have t1 : (port == 80) = false := by
        rw [beq_eq_false_iff_ne]
        exact fun e => h1 ⟨e, rfl⟩
      go_enter Tryz.func44, Tryz.ntmps44
      go_wp2_with fail
      refine C1.out.mono ?_
      rintro e w1 ⟨rfl, hb1⟩
      go_wp2_with fail
      go_ret
      exact ⟨ret_str HT.out, hb1⟩
    · have t1 : (port == 443) = false := by
        rw [beq_eq_false_iff_ne]
        exact fun e => h2 ⟨e, rfl⟩
      go_enter Tryz.func44, Tryz.ntmps44
      go_wp2_with fail
      refine C1.out.mono ?_
      rintro e w1 ⟨rfl, hb1⟩
      go_wp2_with fail
      go_ret
      exact ⟨ret_str HT.out, hb1⟩
  · have hp : portT port tls = [] := if_neg hn
    have HT : Hid ((mkB (scheme tls) ++ host) ++ to = mkB (scheme tls ++ (dl host ++ portT port tls ++ dl to))) := by
      refine mkB_eq ?_
      rw [app_data, app_data, mkB_list, hp]
      simp [dl]
    clear hp CI
    generalize mkB (scheme tls ++ (dl host ++ portT port tls ++ dl to)) = r at *
    unfold needD at hn
    cases h0 : (port == 0)
    · have h0' : port ≠ 0 := by simpa using h0
      cases tls
      · have t1 : (port == 80) = true := by
          rw [beq_iff_eq]
          exact Classical.not_not.1 fun e => hn ⟨h0', fun h => e h.1, fun h => by cases h.2⟩
        clear hn h0'
        go_enter Tryz.func44, Tryz.ntmps44
        go_wp2_with fail
        go_ret
        exact ⟨ret_str HT.out, Below.refl _ _⟩
      · have t1 : (port == 443) = true := by
          rw [beq_iff_eq]
          exact Classical.not_not.1 fun e => hn ⟨h0', fun h => (by cases h.2), fun h => e h.1⟩
        clear hn h0'
        go_enter Tryz.func44, Tryz.ntmps44
        go_wp2_with fail
        go_ret
        exact ⟨ret_str HT.out, Below.refl _ _⟩
    · clear hn
      cases tls
      · go_enter Tryz.func44, Tryz.ntmps44
        go_wp2_with fail
        go_ret
        exact ⟨ret_str HT.out, Below.refl _ _⟩
      · go_enter Tryz.func44, Tryz.ntmps44
        go_wp2_with fail
        go_ret
        exact ⟨ret_str HT.out, Below.refl _ _⟩

set_option maxHeartbeats 800000 in
theorem awayClosure_any (f : FB) (w : World) :
    Calls Tryz.prog 42 #[fV f] w fun e w' => e = .returned (.bool (f.kind == 4)) ∧ Below w.heap.size w w' := by
  obtain ⟨k, n, v, h, p, t, b, c⟩ := f
  dsimp only
  go_enter Tryz.func42, Tryz.ntmps42
  go_wp2_with fail
  go_ret
  exact ⟨rfl, (Below.refl _ _).alloc (Nat.le_refl _) _⟩

theorem find_idx {P : FB → Bool} {l : List FB} {f : FB} (h : l.find? P = some f) : ∃ k, ∃ hk : k < l.length, l[k] = f ∧ idxP P l = (k : Int) := by
  obtain ⟨hp, i, hi, he, hj⟩ := List.find?_eq_some_iff_getElem.1 h
  refine ⟨i, hi, he, idxP_yes hi (fun j h1 h2 => ?_) (by rw [he]; exact hp)⟩
  have := hj j h2
  simpa using this
theorem find_none {P : FB → Bool} {l : List FB} (h : l.find? P = none) : idxP P l = -1 :=
  idxP_no fun j hj => by
    have := List.find?_eq_none.1 h _ (List.getElem_mem hj)
    simpa using this

set_option maxHeartbeats 6400000 in
theorem away_any (vl : Value) (l : List FB) (pk : Int) (pv : ByteArray) (x : RV) (tls : Bool) (w : World) (hv : Sl EF w vl l) (ok : ∀ f ∈ l, OkFi f) (hpv : pv.size ≤ 100) (rp100 : x.r.path.size ≤ 100) (rh100 : x.r.host.size ≤ 100) (CI : ∀ f ∈ l, mayF f = true → f.kind = 4 → needD f.port tls → ItoaAt w f.port) :
    Calls Tryz.prog 14 #[vl, .agg #[.int .i64 pk, .string pv], rV x.r x.vq x.vh, .bool tls] w fun e w' => e = .returned (.tuple #[.agg #[.int .i64 (awayF l pk pv x.r.host x.r.path tls).1.1, .string (awayF l pk pv x.r.host x.r.path tls).1.2], .int .i64 (awayF l pk pv x.r.host x.r.path tls).2]) ∧ Below w.heap.size w w' := by
  have C1 := fun W (h : Below w.heap.size w W) => hide (fits_any vl l pk pv x W (hv.below h) ok (small_len (by omega)) (small_len (by omega)))
  have C2 := fun W (h : Below w.heap.size w W) => hide (idxAway_any (fun f => f.kind == 4) vl l W (hv.below h) (fun f _ V _ => awayClosure_any f V))
  obtain ⟨⟨rm, rho, rp, qu, hd⟩, aq, cq, ah, ch⟩ := x
  dsimp only at *
  have HOK := hide ok
  have HCI := hide CI
  have hlen := hv.len
  obtain ⟨a, cap, rfl, hcap, hmax, hc⟩ := hv
  have HC := hide hc
  clear hc ok CI
  have B3 := below_3 (w := w) (.cells #[.int .i64 pk, .string pv] 24) (.cells #[.string rm, .string rho, .string rp, .slice aq qu.length cq, .slice ah hd.length ch] 27) (.cells #[.int .i64 0, .string ⟨#[]⟩] 38)
  cases hfit : (allF l && holdP pk (dl pv) (dl rp))
  · have HR : Hid (awayF l pk pv rho rp tls = ((0, ⟨#[]⟩), 1)) := by
      show awayF _ _ _ _ _ _ = _
      unfold awayF
      rw [if_neg (by rw [hfit]; decide)]
    rw [hfit] at C1
    go_enter Tryz.func14, Tryz.ntmps14
    go_wp2_with fail
    refine (C1 _ B3).out.mono ?_
    rintro e w1 ⟨rfl, hb1⟩
    have HZ := hide (bx3 hb1).2.2
    have BB := hide (bb2 B3 hb1)
    have lz := liveN HZ.out
    obtain ⟨z0, z1⟩ : _ ∧ _ := ⟨cellN HZ.out (i := 0) rfl, cellN HZ.out (i := 1) rfl⟩
    clear C1 C2
    go_wp2_with fail
    have S1 := setL_below (w := w) (B := w.heap.size) (g := w.heap.size + 1 + 1) (by omega) [.int .i64 0, .string ⟨#[]⟩] _ 0 BB.out
    have K4 := setL_all [.int .i64 0, .string ⟨#[]⟩] HZ.out rfl
    change bodyPost _ _ _ _ _ (setL w1 (w.heap.size + 1 + 1) 0 [.int .i64 0, .string ⟨#[]⟩])
    generalize setL w1 (w.heap.size + 1 + 1) 0 [.int .i64 0, .string ⟨#[]⟩] = W9 at *
    obtain ⟨e0, e1⟩ : _ ∧ _ := ⟨cellN K4 (i := 0) rfl, cellN K4 (i := 1) rfl⟩
    exact bodyPost_ret (v := .tuple #[.agg #[.int .i64 0, .string ⟨#[]⟩], .int .i64 1]) (by simp [results, Tryz.f14, go_sem, e0, e1]) rfl ⟨by rw [HR.out], S1⟩
  rw [hfit] at C1
  have hall : allF l = true := by
    rw [Bool.and_eq_true] at hfit
    exact hfit.1
  cases hfd : l.find? fun f => f.kind == 4 with
  | none =>
    have HR : Hid (awayF l pk pv rho rp tls = ((0, ⟨#[]⟩), 3)) := by
      show awayF _ _ _ _ _ _ = _
      unfold awayF
      rw [if_pos hfit, hfd]
    rw [find_none hfd] at C2
    clear hfd hfit
    go_enter Tryz.func14, Tryz.ntmps14
    go_wp2_with fail
    refine (C1 _ B3).out.mono ?_
    rintro e w1 ⟨rfl, hb1⟩
    go_wp2_with fail
    refine (C2 _ (bb2 B3 hb1)).out.mono ?_
    rintro e w2 ⟨rfl, hb2⟩
    have HZ := hide (bx3 (bb2 hb1 hb2)).2.2
    have BB := hide (bb2 B3 (bb2 hb1 hb2))
    have lz := liveN HZ.out
    obtain ⟨z0, z1⟩ : _ ∧ _ := ⟨cellN HZ.out (i := 0) rfl, cellN HZ.out (i := 1) rfl⟩
    clear C1 C2
    go_wp2_with fail
    have S1 := setL_below (w := w) (B := w.heap.size) (g := w.heap.size + 1 + 1) (by omega) [.int .i64 0, .string ⟨#[]⟩] _ 0 BB.out
    have K4 := setL_all [.int .i64 0, .string ⟨#[]⟩] HZ.out rfl
    change bodyPost _ _ _ _ _ (setL w2 (w.heap.size + 1 + 1) 0 [.int .i64 0, .string ⟨#[]⟩])
    generalize setL w2 (w.heap.size + 1 + 1) 0 [.int .i64 0, .string ⟨#[]⟩] = W9 at *
    obtain ⟨e0, e1⟩ : _ ∧ _ := ⟨cellN K4 (i := 0) rfl, cellN K4 (i := 1) rfl⟩
    exact bodyPost_ret (v := .tuple #[.agg #[.int .i64 0, .string ⟨#[]⟩], .int .i64 3]) (by simp [results, Tryz.f14, go_sem, e0, e1]) rfl ⟨by rw [HR.out], S1⟩
  | some f =>
    obtain ⟨k, hk, rfl, hidx⟩ := find_idx hfd
    have hk4 : l[k].kind = 4 := by
      have := List.find?_some hfd
      simpa using this
    have hmk := may_one hall (List.getElem_mem hk)
    have CIk := hide (HCI.out _ (List.getElem_mem hk) hmk hk4)
    have HD : Hid (awayF l pk pv rho rp tls = if becE l[k] pk pv rp = 0 then ((l[k].code, mkB (addrF l[k] pk pv rho rp tls)), 0) else ((0, ⟨#[]⟩), becE l[k] pk pv rp)) := by
      show awayF _ _ _ _ _ _ = _
      unfold awayF
      rw [if_pos hfit, hfd]
    rw [hidx] at C2
    have hk' : (k : Int) < (l.length : Int) := by omega
    have okk := HOK.out _ (List.getElem_mem hk)
    have C3 := fun W => hide (becomes_any l[k] pk pv rp W okk (small_len (by omega)) (small_len (by omega)))
    have hbt : (becT l[k] pk pv rp).size ≤ 100 := becT_le okk.path rp100
    have HA : Hid (addrF l[k] pk pv rho rp tls = scheme tls ++ (dl (hostOf l[k] rho) ++ portT l[k].port tls ++ dl (becT l[k] pk pv rp))) := rfl
    have hho : (hostOf l[k] rho).size ≤ 100 := by
      unfold hostOf
      split
      · exact rh100
      · exact okk.host
    have C4 := fun W => hide (host_any l[k] rho W)
    have C5 := fun W (h : Below w.heap.size w W) => hide (address_any (hostOf l[k] rho) l[k].port (becT l[k] pk pv rp) tls W (by omega) (by omega) (fun hn => (CIk.out hn).below h))
    rw [← HA.out] at C5
    obtain ⟨_, gg, off, rfl, hgg, hat⟩ := HC.out k hk
    have EL := fun W (h : Below w.heap.size w W) => EF_at (show EF.At W gg (off + k * 8) l[k] from fun j u hu => (h.cell (p := ⟨gg, off + k * 8 + j, none⟩) hgg).trans (hat j u hu))
    have HEL := hide EL
    clear hat hfd hidx hfit EL HA hbt hho okk hk4 hmk CIk HCI HC HOK hall
    generalize addrF l[k] pk pv rho rp tls = ad at *
    generalize becE l[k] pk pv rp = be at *
    generalize becT l[k] pk pv rp = bt at *
    generalize hostOf l[k] rho = ho at *
    generalize l[k] = fk at *
    obtain ⟨k0, n0, v0, h0, p0, t0, b0, z0⟩ := fk
    dsimp only at *
    by_cases he : be = 0
    · have HR : Hid (awayF l pk pv rho rp tls = ((z0, mkB ad), 0)) := by
        show _ = _
        rw [HD.out, if_pos he]
      subst he
      clear HD
      go_enter Tryz.func14, Tryz.ntmps14
      go_wp2_with fail
      refine (C1 _ B3).out.mono ?_
      rintro e w1 ⟨rfl, hb1⟩
      go_wp2_with fail
      refine (C2 _ (bb2 B3 hb1)).out.mono ?_
      rintro e w2 ⟨rfl, hb2⟩
      obtain ⟨c0, c1, c2, c3, c4, c5, c6, c7⟩ := HEL.out w2 (bb2 B3 (bb2 hb1 hb2))
      obtain ⟨b0', b1', b2'⟩ := bx3 (bb2 hb1 hb2)
      have B5 : Below w2.heap.size w2 (w2.alloc (.cells #[.int .i64 k0, .string n0, .string v0, .string h0, .int .i64 p0, .string t0, .bool b0, .int .i64 z0] 89)) := (Below.refl _ w2).alloc (Nat.le_refl _) _
      have q0 := cellN (blk_below b0' B5) (i := 0) rfl
      have q1 := cellN (blk_below b0' B5) (i := 1) rfl
      have q2 := cellN (blk_below b1' B5) (i := 2) rfl
      go_wp2_with fail
      refine (C3 _).out.mono ?_
      rintro e w3 ⟨rfl, hb3⟩
      clear c0 c1 c2 c3 c4 c5 c6 c7 q0 q1 q2
      have HB3 := fun W (h : Below w3.heap.size w3 W) => bx3 (bb2 (bb2 hb1 hb2) (bb2 (below_box hb3) h))
      have HF3 := fun W (h : Below w3.heap.size w3 W) => EF_at (boxF (f := ⟨k0, n0, v0, h0, p0, t0, b0, z0⟩) (w := w2) (bb2 hb3 h))
      have B6 := bb2 B3 (bb2 (bb2 hb1 hb2) (below_box hb3))
      have r1 := fun W h => cellN (HB3 W h).2.1 (i := 1) rfl
      have g0 := fun W h => (HF3 W h).1
      have g1 := fun W h => (HF3 W h).2.1
      have g2 := fun W h => (HF3 W h).2.2.1
      have g3 := fun W h => (HF3 W h).2.2.2.1
      have g4 := fun W h => (HF3 W h).2.2.2.2.1
      have g5 := fun W h => (HF3 W h).2.2.2.2.2.1
      have g6 := fun W h => (HF3 W h).2.2.2.2.2.2.1
      have g7 := fun W h => (HF3 W h).2.2.2.2.2.2.2
      simp only [Nat.zero_add] at g0 g1 g2 g3 g4 g5 g6 g7
      have HBH := hide HB3
      clear HB3 HF3 hb1 hb2 hb3 C1 C2 C3 b0' b1' b2' B5
      go_wp2_with fail
      refine wp_region_G 12 (fun w' => Below w3.heap.size w3 w') (by kernel_rfl) ((Below.refl _ _).drew) ?_
      refine wpG_take (i := 0) 5 (v := .pointer (some ⟨w2.heap.size, 7, none⟩)) rfl (by kernel_rfl) (by kernel_rfl) (by kernel_rfl) (by decide) (by kernel_rfl) (by kernel_rfl) (fun _ _ _ h => h) (Or.inl ⟨by rfl, fun w1 hS => ?_⟩) ?_
      · (try dsimp only at hS)
        go_simp
      simp only [Act.put, List.setIfInBounds_toArray, List.set_cons_zero, List.set_cons_succ]
      refine wpG_take (i := 1) 5 (v := .int .i64 z0) rfl (by kernel_rfl) (by kernel_rfl) (by kernel_rfl) (by decide) (by kernel_rfl) (by kernel_rfl) (fun _ _ _ h => h) (Or.inl ⟨by rfl, fun w1 hS => ?_⟩) ?_
      · (try dsimp only at hS)
        go_simp
      simp only [Act.put, List.setIfInBounds_toArray, List.set_cons_zero, List.set_cons_succ]
      refine wpG_take (i := 2) 5 (v := .agg #[.int .i64 k0, .string n0, .string v0, .string h0, .int .i64 p0, .string t0, .bool b0, .int .i64 z0]) rfl (by kernel_rfl) (by kernel_rfl) (by kernel_rfl) (by decide) (by kernel_rfl) (by kernel_rfl) (fun _ _ _ h => h) (Or.inl ⟨by rfl, fun w1 hS => ?_⟩) ?_
      · (try dsimp only at hS)
        go_simp
      simp only [Act.put, List.setIfInBounds_toArray, List.set_cons_zero, List.set_cons_succ]
      refine wpG_take (i := 3) 5 (v := .pointer (some ⟨w.heap.size + 1, 1, none⟩)) rfl (by kernel_rfl) (by kernel_rfl) (by kernel_rfl) (by decide) (by kernel_rfl) (by kernel_rfl) (fun _ _ _ h => h) (Or.inl ⟨by rfl, fun w1 hS => ?_⟩) ?_
      · (try dsimp only at hS)
        go_simp
      simp only [Act.put, List.setIfInBounds_toArray, List.set_cons_zero, List.set_cons_succ]
      refine wpG_take (i := 4) 5 (v := .string rho) rfl (by kernel_rfl) (by kernel_rfl) (by kernel_rfl) (by decide) (by kernel_rfl) (by kernel_rfl) (fun _ _ _ h => h) (Or.inl ⟨by rfl, fun w1 hS => ?_⟩) ?_
      · (try dsimp only at hS)
        go_simp
      simp only [Act.put, List.setIfInBounds_toArray, List.set_cons_zero, List.set_cons_succ]
      refine wpG_take (i := 6) 5 (v := .pointer (some ⟨w2.heap.size, 4, none⟩)) rfl (by kernel_rfl) (by kernel_rfl) (by kernel_rfl) (by decide) (by kernel_rfl) (by kernel_rfl) (fun _ _ _ h => h) (Or.inl ⟨by rfl, fun w1 hS => ?_⟩) ?_
      · (try dsimp only at hS)
        go_simp
      simp only [Act.put, List.setIfInBounds_toArray, List.set_cons_zero, List.set_cons_succ]
      refine wpG_take (i := 7) 5 (v := .int .i64 p0) rfl (by kernel_rfl) (by kernel_rfl) (by kernel_rfl) (by decide) (by kernel_rfl) (by kernel_rfl) (fun _ _ _ h => h) (Or.inl ⟨by rfl, fun w1 hS => ?_⟩) ?_
      · (try dsimp only at hS)
        go_simp
      simp only [Act.put, List.setIfInBounds_toArray, List.set_cons_zero, List.set_cons_succ]
      refine wpG_take (i := 8) 5 (v := .string bt) rfl (by kernel_rfl) (by kernel_rfl) (by kernel_rfl) (by decide) (by kernel_rfl) (by kernel_rfl) (fun _ _ _ h => h) (Or.inl ⟨by rfl, fun w1 hS => ?_⟩) ?_
      · (try dsimp only at hS)
        go_simp
      simp only [Act.put, List.setIfInBounds_toArray, List.set_cons_zero, List.set_cons_succ]
      refine wpG_take (i := 9) 5 (v := .bool tls) rfl (by kernel_rfl) (by kernel_rfl) (by kernel_rfl) (by decide) (by kernel_rfl) (by kernel_rfl) (fun _ _ _ h => h) (Or.inl ⟨by rfl, fun w1 hS => ?_⟩) ?_
      · (try dsimp only at hS)
        go_simp
      simp only [Act.put, List.setIfInBounds_toArray, List.set_cons_zero, List.set_cons_succ]
      clear r1 g0 g1 g2 g3 g4 g5 g6 g7
      refine wpG_take (i := 5) 5 (v := .string ho) rfl (by kernel_rfl) (by kernel_rfl) (by kernel_rfl) (by decide) (by kernel_rfl) (by kernel_rfl) (fun _ _ _ h => h) (Or.inl ⟨by rfl, fun w1 hS => ?_⟩) ?_
      · (try dsimp only at hS)
        go_simp
        exact calls_grow hS (Nat.le_refl _) (C4 _).out
      simp only [Act.put, List.setIfInBounds_toArray, List.set_cons_zero, List.set_cons_succ]
      refine wpG_take (i := 10) 5 (v := .string (mkB ad)) rfl (by kernel_rfl) (by kernel_rfl) (by kernel_rfl) (by decide) (by kernel_rfl) (by kernel_rfl) (fun _ _ _ h => h) (Or.inl ⟨by rfl, fun w1 hS => ?_⟩) ?_
      · (try dsimp only at hS)
        go_simp
        exact calls_grow hS (Nat.le_refl _) (C5 _ (bb2 B6 hS)).out
      simp only [Act.put, List.setIfInBounds_toArray, List.set_cons_zero, List.set_cons_succ]
      refine wpG_take (i := 11) 5 (v := .agg #[.int .i64 z0, .string (mkB ad)]) rfl (by kernel_rfl) (by kernel_rfl) (by kernel_rfl) (by decide) (by kernel_rfl) (by kernel_rfl) (fun _ _ _ h => h) (Or.inl ⟨by rfl, fun w1 hS => ?_⟩) ?_
      · (try dsimp only at hS)
        go_simp
      simp only [Act.put, List.setIfInBounds_toArray, List.set_cons_zero, List.set_cons_succ]
      refine wpG_ready (rs := [12]) (by kernel_rfl) (by simp) (fun W hG hS i hi => ?_)
      obtain rfl : i = 12 := by simpa using hi
      clear hi
      have HZ := hide (HBH.out W hS).2.2
      have BB := hide (bb2 B6 hS)
      have lz := liveN HZ.out
      obtain ⟨x0, x1⟩ : _ ∧ _ := ⟨cellN HZ.out (i := 0) rfl, cellN HZ.out (i := 1) rfl⟩
      refine wpOp_step rfl (by rfl) (fun K' hK' => ?_)
      go_simp
      refine hK' _ _ (wpG_past (by decide) ?_)
      clear hK' K' x0 x1 lz hG hS HBH
      refine wpAny_one (i := 13) (by kernel_rfl) ?_
      refine wpOp_step rfl (by rfl) (fun K' hK' => ?_)
      go_simp
      refine hK' _ _ ?_
      clear hK' K'
      refine wpAny_end (by kernel_rfl) ?_
      have S1 := setL_below (w := w) (B := w.heap.size) (g := w.heap.size + 1 + 1) (by omega) [.int .i64 z0, .string (mkB ad)] _ 0 BB.out
      have K4 := setL_all [.int .i64 z0, .string (mkB ad)] HZ.out rfl
      change Exit.then _ _ _ _ (setL W (w.heap.size + 1 + 1) 0 [.int .i64 z0, .string (mkB ad)])
      generalize setL W (w.heap.size + 1 + 1) 0 [.int .i64 z0, .string (mkB ad)] = W9 at *
      obtain ⟨e0, e1⟩ : _ ∧ _ := ⟨cellN K4 (i := 0) rfl, cellN K4 (i := 1) rfl⟩
      go_wp2_with fail
      exact bodyPost_ret (v := .tuple #[.agg #[.int .i64 z0, .string (mkB ad)], .int .i64 0]) (by simp [results, Tryz.f14, go_sem, e0, e1]) rfl ⟨by rw [HR.out], S1⟩
    · have HR : Hid (awayF l pk pv rho rp tls = ((0, ⟨#[]⟩), be)) := by
        show _ = _
        rw [HD.out, if_neg he]
      have he' : (be != 0) = true := by simpa using he
      clear HD
      go_enter Tryz.func14, Tryz.ntmps14
      go_wp2_with fail
      refine (C1 _ B3).out.mono ?_
      rintro e w1 ⟨rfl, hb1⟩
      go_wp2_with fail
      refine (C2 _ (bb2 B3 hb1)).out.mono ?_
      rintro e w2 ⟨rfl, hb2⟩
      obtain ⟨c0, c1, c2, c3, c4, c5, c6, c7⟩ := HEL.out w2 (bb2 B3 (bb2 hb1 hb2))
      obtain ⟨b0', b1', b2'⟩ := bx3 (bb2 hb1 hb2)
      have B5 : Below w2.heap.size w2 (w2.alloc (.cells #[.int .i64 k0, .string n0, .string v0, .string h0, .int .i64 p0, .string t0, .bool b0, .int .i64 z0] 89)) := (Below.refl _ w2).alloc (Nat.le_refl _) _
      have q0 := cellN (blk_below b0' B5) (i := 0) rfl
      have q1 := cellN (blk_below b0' B5) (i := 1) rfl
      have q2 := cellN (blk_below b1' B5) (i := 2) rfl
      go_wp2_with fail
      refine (C3 _).out.mono ?_
      rintro e w3 ⟨rfl, hb3⟩
      have HZ := hide (blk_below b2' (below_box hb3))
      have BB := hide (bb2 B3 (bb2 (bb2 hb1 hb2) (below_box hb3)))
      have lz := liveN HZ.out
      obtain ⟨x0, x1⟩ : _ ∧ _ := ⟨cellN HZ.out (i := 0) rfl, cellN HZ.out (i := 1) rfl⟩
      clear C1 C2 C3 c0 c1 c2 c3 c4 c5 c6 c7 q0 q1 q2
      go_wp2_with fail
      have S1 := setL_below (w := w) (B := w.heap.size) (g := w.heap.size + 1 + 1) (by omega) [.int .i64 0, .string ⟨#[]⟩] _ 0 BB.out
      have K4 := setL_all [.int .i64 0, .string ⟨#[]⟩] HZ.out rfl
      change bodyPost _ _ _ _ _ (setL w3 (w.heap.size + 1 + 1) 0 [.int .i64 0, .string ⟨#[]⟩])
      generalize setL w3 (w.heap.size + 1 + 1) 0 [.int .i64 0, .string ⟨#[]⟩] = W9 at *
      obtain ⟨e0, e1⟩ : _ ∧ _ := ⟨cellN K4 (i := 0) rfl, cellN K4 (i := 1) rfl⟩
      exact bodyPost_ret (v := .tuple #[.agg #[.int .i64 0, .string ⟨#[]⟩], .int .i64 be]) (by simp [results, Tryz.f14, go_sem, e0, e1]) rfl ⟨by rw [HR.out], S1⟩

end Go.Proofs.YtblmdcpcekoogaaGreatDoor
