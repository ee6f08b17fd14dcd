/-
  Walks: what filters may be, each kind.
-/
import Derived.Test.YtphinklnbjpohaaGreatDoorFiMem
import Derived.Test.YtphinklnbjpohaaGreatDoorFiEq
import Derived.Test.YtphinklnbjpohaaGreatDoorWalkD
import Derived.Test.YtphinklnbjpohaaGreatDoorJ6
import Derived.Test.YtphinklnbjpohaaGreatDoorRuWalkB
namespace Go.Proofs.YtphinklnbjpohaaGreatDoor
set_option maxRecDepth 20000
open Go Go.RowKit Go.Shelf Fi

/-- a filter's box: its cells, whatever grows behind it -/
theorem boxF {w : World} {f : FB} {t : Nat} {W : World} (h : Below (w.alloc (.cells (fcells f).toArray t)).heap.size (w.alloc (.cells (fcells f).toArray t)) W) : EF.At W w.heap.size 0 f :=
  EF_block (t := t) ((h.block w.heap.size (by simp)).trans (alloc_new w _))
theorem boxF2 {w : World} {f : FB} {t : Nat} {W : World} {o : Obj} (h : Below ((w.alloc (.cells (fcells f).toArray t)).alloc o).heap.size ((w.alloc (.cells (fcells f).toArray t)).alloc o) W) : EF.At W w.heap.size 0 f :=
  boxF (t := t) (((Below.refl _ _).alloc (Nat.le_refl _) _).trans (h.mono (by simp)))
theorem below_b2 {w w1 : World} {o o2 : Obj} (h : Below ((w.alloc o).alloc o2).heap.size ((w.alloc o).alloc o2) w1) : Below w.heap.size w w1 :=
  (((Below.refl _ _).alloc (Nat.le_refl _) _).alloc (by simp) _).trans (h.mono (by simp; omega))
theorem tl_nil {s : ByteArray} : (s.toList = (⟨#[]⟩ : ByteArray).toList) ↔ s.size = 0 := by
  rw [Lib.toList_data, Lib.toList_data]
  exact (List.length_eq_zero_iff (l := s.data.toList)).symm
theorem tl_e {s : ByteArray} : s.toList = [] ↔ s = ByteArray.empty := by
  rw [Lib.toList_data]
  constructor
  · intro h
    obtain ⟨⟨l⟩⟩ := s
    have : l = [] := h
    subst this
    rfl
  · rintro rfl
    rfl
theorem tl_emp {s : ByteArray} : s.toList.isEmpty = e0 s := by
  rw [Lib.toList_data]
  have : s.size = s.data.toList.length := rfl
  unfold e0
  rw [this]
  cases s.data.toList <;> rfl

/-- a filter that has all but its own fields zero -/
def ownAway (f : FB) : Bool := e0 f.name && e0 f.val
def ownSwap (f : FB) : Bool := e0 f.name && (e0 f.val && (f.port == 0 && f.code == 0))
def ownDrop (f : FB) : Bool := noneF f && e0 f.val
def hostF (f : FB) : Bool := e0 f.host || D.isName (dl f.host)
def pathF (f : FB) : Bool := if e0 f.path then !f.whole else if f.whole then isP (dl f.path) else mayP 2 (dl f.path)
theorem turn_walk (f : FB) : turnF f = (hostF f && pathF f) := by
  unfold turnF hostF pathF
  congr 1
  cases e0 f.path
  · cases f.whole
    · show (isP (dl f.path) && (false || abv (dl f.path))) = abv (dl f.path)
      cases ha : abv (dl f.path)
      · cases isP (dl f.path) <;> rfl
      · rw [abv_isP ha]
        rfl
    · show (isP (dl f.path) && (true || abv (dl f.path))) = isP (dl f.path)
      cases isP (dl f.path) <;> rfl
  · rfl

set_option maxHeartbeats 800000 in
theorem mayHost_any (f : FB) (w : World) (ok : OkFi f) :
    Calls Tryz.prog 258 #[fV f] w fun e w' => e = .returned (.bool (hostF f)) ∧ Below w.heap.size w w' := by
  obtain ⟨k, n, v, h, p, t, b, c⟩ := f
  have C1 := fun W => hide (name_any h W (small_len (by have := ok.host; dsimp only at this; omega)))
  have HE := @tl_emp h
  have HR : Hid (hostF ⟨k, n, v, h, p, t, b, c⟩ = (h.toList.isEmpty || D.isName h.data.toList)) := by rw [HE]; rfl
  clear HE
  generalize hostF ⟨k, n, v, h, p, t, b, c⟩ = r at *
  generalize D.isName h.data.toList = x at *
  cases he : h.toList.isEmpty
  · rw [he] at HR
    go_enter Tryz.func258, Tryz.ntmps258
    go_wp2_with fail
    refine ((C1 _).out).mono ?_
    rintro e w1 ⟨rfl, hb1⟩
    go_wp2_with fail
    go_ret
    exact ⟨ret_bool HR.out.symm, below_box hb1⟩
  · rw [he] at HR
    go_enter Tryz.func258, Tryz.ntmps258
    go_wp2_with fail
    go_ret
    exact ⟨ret_bool HR.out.symm, (Below.refl _ _).alloc (Nat.le_refl _) _⟩

set_option maxHeartbeats 800000 in
theorem mayPath_any (f : FB) (w : World) (ok : OkFi f) :
    Calls Tryz.prog 259 #[fV f] w fun e w' => e = .returned (.bool (pathF f)) ∧ Below w.heap.size w w' := by
  obtain ⟨k, n, v, h, p, t, b, c⟩ := f
  have C1 := fun W => hide (isPath_any t W (small_len (by have := ok.path; dsimp only at this; omega)))
  have C2 := fun W => hide (may_any 2 t W (small_len (by have := ok.path; dsimp only at this; omega)))
  have HE := @tl_emp t
  have HR : Hid (pathF ⟨k, n, v, h, p, t, b, c⟩ = (if t.toList.isEmpty then !b else if b then isP t.data.toList else mayP 2 t.data.toList)) := by rw [HE]; rfl
  clear HE
  generalize pathF ⟨k, n, v, h, p, t, b, c⟩ = r at *
  generalize isP t.data.toList = x at *
  generalize mayP 2 t.data.toList = y at *
  cases he : t.toList.isEmpty
  · rw [he] at HR
    cases b
    · go_enter Tryz.func259, Tryz.ntmps259
      go_wp2_with fail
      refine ((C2 _).out).mono ?_
      rintro e w1 ⟨rfl, hb1⟩
      go_wp2_with fail
      go_ret
      exact ⟨ret_bool HR.out.symm, below_box hb1⟩
    · go_enter Tryz.func259, Tryz.ntmps259
      go_wp2_with fail
      refine ((C1 _).out).mono ?_
      rintro e w1 ⟨rfl, hb1⟩
      go_wp2_with fail
      go_ret
      exact ⟨ret_bool HR.out.symm, below_box hb1⟩
  · rw [he] at HR
    go_enter Tryz.func259, Tryz.ntmps259
    go_wp2_with fail
    go_ret
    exact ⟨ret_bool HR.out.symm, (Below.refl _ _).alloc (Nat.le_refl _) _⟩

set_option maxHeartbeats 800000 in
theorem mayPort_any (p : Int) (w : World) :
    Calls Tryz.prog 260 #[.int .i64 p] w fun e w' => e = .returned (.bool (decide (0 ≤ p ∧ p ≤ 65535))) ∧ Below w.heap.size w w' := by
  have H1 : Hid (0 ≤ p → decide (p ≤ 65535) = decide (0 ≤ p ∧ p ≤ 65535)) := fun h => decide_eq_decide.2 (by omega)
  have H2 : Hid (¬ 0 ≤ p → false = decide (0 ≤ p ∧ p ≤ 65535)) := fun h => (decide_eq_false (by omega)).symm
  generalize decide (0 ≤ p ∧ p ≤ 65535) = r at *
  by_cases h0 : 0 ≤ p
  · have HR : Hid (decide (p ≤ 65535) = r) := H1.out h0
    go_enter Tryz.func260, Tryz.ntmps260
    go_wp2_with fail
    go_ret
    exact ⟨ret_bool HR.out, Below.refl _ _⟩
  · have HR : Hid (false = r) := H2.out h0
    go_enter Tryz.func260, Tryz.ntmps260
    go_wp2_with fail
    go_ret
    exact ⟨ret_bool HR.out, Below.refl _ _⟩

set_option maxHeartbeats 1600000 in
theorem maySet_any (f : FB) (w : World) (ok : OkFi f) :
    Calls Tryz.prog 200 #[fV f] w fun e w' => e = .returned (.bool (noneF f && (tokenB f.name && valueB f.val))) ∧ Below w.heap.size w w' := by
  obtain ⟨k, n, v, h, p, t, b, c⟩ := f
  have C1 := fun W => hide (token_b n W (small_len (by have := ok.name; dsimp only at this; omega)))
  have C2 := fun W => hide (value_b v W (small_len (by have := ok.val; dsimp only at this; omega)))
  dsimp only
  generalize tokenB n = x1 at *
  generalize valueB v = x2 at *
  generalize hx0 : noneF ⟨k, n, v, h, p, t, b, c⟩ = x0 at *
  have HEQ : decide (k = k ∧ n.toList = n.toList ∧ v.toList = v.toList ∧ h.toList = (⟨#[]⟩ : ByteArray).toList ∧ p = 0 ∧ t.toList = (⟨#[]⟩ : ByteArray).toList ∧ b = false ∧ c = 0) = x0 := by
    rw [← hx0, Bool.eq_iff_iff, decide_eq_true_eq]
    unfold noneF e0
    simp [tl_e]
  have EQ := fun W => (eqFil k p c k 0 0 n v h t n v (⟨#[]⟩ : ByteArray) (⟨#[]⟩ : ByteArray) b false W).trans (by rw [HEQ])
  clear HEQ hx0
  have m2 : ∀ q : GB ((w.alloc (.cells #[.int .i64 k, .string n, .string v, .string h, .int .i64 p, .string t, .bool b, .int .i64 c] 87)).alloc (.cells #[.int .i64 k, .string n, .string v, .string ⟨#[]⟩, .int .i64 0, .string ⟨#[]⟩, .bool false, .int .i64 0] 87)), q.W.cell? ⟨w.heap.size, 2, none⟩ = some (.string v) := fun q => (EF_at (boxF2 (f := ⟨k, n, v, h, p, t, b, c⟩) q.h)).2.2.1
  cases x0
  · go_enter Tryz.func200, Tryz.ntmps200
    go_wp2_with fail
    go_ret
    exact ⟨rfl, ((Below.refl _ _).alloc (Nat.le_refl _) _).alloc (by simp) _⟩
  cases x1
  · go_enter Tryz.func200, Tryz.ntmps200
    go_wp2_with fail
    refine (calls_gb0 ((C1 _).out)).mono ?_
    rintro e x ⟨rfl, q, rfl⟩
    go_wp2_with fail
    go_ret
    exact ⟨rfl, below_b2 q.h⟩
  · go_enter Tryz.func200, Tryz.ntmps200
    go_wp2_with fail
    refine (calls_gb0 ((C1 _).out)).mono ?_
    rintro e x ⟨rfl, q, rfl⟩
    go_wp2_with fail
    refine (calls_gb ((C2 _).out)).mono ?_
    rintro e x ⟨rfl, q, rfl⟩
    go_wp2_with fail
    go_ret
    exact ⟨rfl, below_b2 q.h⟩

set_option maxHeartbeats 1600000 in
theorem mayDrop_any (f : FB) (w : World) (ok : OkFi f) :
    Calls Tryz.prog 201 #[fV f] w fun e w' => e = .returned (.bool (ownDrop f && tokenB f.name)) ∧ Below w.heap.size w w' := by
  obtain ⟨k, n, v, h, p, t, b, c⟩ := f
  have C1 := fun W => hide (token_b n W (small_len (by have := ok.name; dsimp only at this; omega)))
  dsimp only
  generalize tokenB n = x1 at *
  generalize hx0 : ownDrop ⟨k, n, v, h, p, t, b, c⟩ = x0 at *
  have HEQ : decide (k = k ∧ n.toList = n.toList ∧ v.toList = (⟨#[]⟩ : ByteArray).toList ∧ h.toList = (⟨#[]⟩ : ByteArray).toList ∧ p = 0 ∧ t.toList = (⟨#[]⟩ : ByteArray).toList ∧ b = false ∧ c = 0) = x0 := by
    rw [← hx0, Bool.eq_iff_iff, decide_eq_true_eq]
    unfold ownDrop noneF e0
    simp [tl_e]
    exact and_comm
  have EQ := fun W => (eqFil k p c k 0 0 n v h t n (⟨#[]⟩ : ByteArray) (⟨#[]⟩ : ByteArray) (⟨#[]⟩ : ByteArray) b false W).trans (by rw [HEQ])
  clear HEQ hx0
  cases x0
  · go_enter Tryz.func201, Tryz.ntmps201
    go_wp2_with fail
    go_ret
    exact ⟨rfl, ((Below.refl _ _).alloc (Nat.le_refl _) _).alloc (by simp) _⟩
  · go_enter Tryz.func201, Tryz.ntmps201
    go_wp2_with fail
    refine (calls_gb0 ((C1 _).out)).mono ?_
    rintro e x ⟨rfl, q, rfl⟩
    go_wp2_with fail
    go_ret
    exact ⟨rfl, below_b2 q.h⟩

set_option maxHeartbeats 1600000 in
theorem mayAway_any (f : FB) (w : World) (ok : OkFi f) :
    Calls Tryz.prog 202 #[fV f] w fun e w' => e = .returned (.bool (ownAway f && (hostF f && (pathF f && (decide (0 ≤ f.port ∧ f.port ≤ 65535) && (f.code == 301 || f.code == 302)))))) ∧ Below w.heap.size w w' := by
  obtain ⟨k, n, v, h, p, t, b, c⟩ := f
  have C1 := fun W => hide (mayHost_any ⟨k, n, v, h, p, t, b, c⟩ W ok)
  have C2 := fun W => hide (mayPath_any ⟨k, n, v, h, p, t, b, c⟩ W ok)
  have C3 := fun W => hide (mayPort_any p W)
  dsimp only
  generalize hostF ⟨k, n, v, h, p, t, b, c⟩ = x1 at *
  generalize pathF ⟨k, n, v, h, p, t, b, c⟩ = x2 at *
  generalize decide (0 ≤ p ∧ p ≤ 65535) = x3 at *
  generalize hx0 : ownAway ⟨k, n, v, h, p, t, b, c⟩ = x0 at *
  have HEQ : decide (k = k ∧ n.toList = (⟨#[]⟩ : ByteArray).toList ∧ v.toList = (⟨#[]⟩ : ByteArray).toList ∧ h.toList = h.toList ∧ p = p ∧ t.toList = t.toList ∧ b = b ∧ c = c) = x0 := by
    rw [← hx0, Bool.eq_iff_iff, decide_eq_true_eq]
    unfold ownAway e0
    simp [tl_e]
  have EQ := fun W => (eqFil k p c k p c n v h t (⟨#[]⟩ : ByteArray) (⟨#[]⟩ : ByteArray) h t b b W).trans (by rw [HEQ])
  clear HEQ hx0
  have m0 : ∀ q : GB ((w.alloc (.cells #[.int .i64 k, .string n, .string v, .string h, .int .i64 p, .string t, .bool b, .int .i64 c] 87)).alloc (.cells #[.int .i64 k, .string ⟨#[]⟩, .string ⟨#[]⟩, .string h, .int .i64 p, .string t, .bool b, .int .i64 c] 87)), q.W.cell? ⟨w.heap.size, 0, none⟩ = some (.int .i64 k) := fun q => (EF_at (boxF2 (f := ⟨k, n, v, h, p, t, b, c⟩) q.h)).1
  have m1 : ∀ q : GB ((w.alloc (.cells #[.int .i64 k, .string n, .string v, .string h, .int .i64 p, .string t, .bool b, .int .i64 c] 87)).alloc (.cells #[.int .i64 k, .string ⟨#[]⟩, .string ⟨#[]⟩, .string h, .int .i64 p, .string t, .bool b, .int .i64 c] 87)), q.W.cell? ⟨w.heap.size, 1, none⟩ = some (.string n) := fun q => (EF_at (boxF2 (f := ⟨k, n, v, h, p, t, b, c⟩) q.h)).2.1
  have m2 : ∀ q : GB ((w.alloc (.cells #[.int .i64 k, .string n, .string v, .string h, .int .i64 p, .string t, .bool b, .int .i64 c] 87)).alloc (.cells #[.int .i64 k, .string ⟨#[]⟩, .string ⟨#[]⟩, .string h, .int .i64 p, .string t, .bool b, .int .i64 c] 87)), q.W.cell? ⟨w.heap.size, 2, none⟩ = some (.string v) := fun q => (EF_at (boxF2 (f := ⟨k, n, v, h, p, t, b, c⟩) q.h)).2.2.1
  have m3 : ∀ q : GB ((w.alloc (.cells #[.int .i64 k, .string n, .string v, .string h, .int .i64 p, .string t, .bool b, .int .i64 c] 87)).alloc (.cells #[.int .i64 k, .string ⟨#[]⟩, .string ⟨#[]⟩, .string h, .int .i64 p, .string t, .bool b, .int .i64 c] 87)), q.W.cell? ⟨w.heap.size, 3, none⟩ = some (.string h) := fun q => (EF_at (boxF2 (f := ⟨k, n, v, h, p, t, b, c⟩) q.h)).2.2.2.1
  have m4 : ∀ q : GB ((w.alloc (.cells #[.int .i64 k, .string n, .string v, .string h, .int .i64 p, .string t, .bool b, .int .i64 c] 87)).alloc (.cells #[.int .i64 k, .string ⟨#[]⟩, .string ⟨#[]⟩, .string h, .int .i64 p, .string t, .bool b, .int .i64 c] 87)), q.W.cell? ⟨w.heap.size, 4, none⟩ = some (.int .i64 p) := fun q => (EF_at (boxF2 (f := ⟨k, n, v, h, p, t, b, c⟩) q.h)).2.2.2.2.1
  have m5 : ∀ q : GB ((w.alloc (.cells #[.int .i64 k, .string n, .string v, .string h, .int .i64 p, .string t, .bool b, .int .i64 c] 87)).alloc (.cells #[.int .i64 k, .string ⟨#[]⟩, .string ⟨#[]⟩, .string h, .int .i64 p, .string t, .bool b, .int .i64 c] 87)), q.W.cell? ⟨w.heap.size, 5, none⟩ = some (.string t) := fun q => (EF_at (boxF2 (f := ⟨k, n, v, h, p, t, b, c⟩) q.h)).2.2.2.2.2.1
  have m6 : ∀ q : GB ((w.alloc (.cells #[.int .i64 k, .string n, .string v, .string h, .int .i64 p, .string t, .bool b, .int .i64 c] 87)).alloc (.cells #[.int .i64 k, .string ⟨#[]⟩, .string ⟨#[]⟩, .string h, .int .i64 p, .string t, .bool b, .int .i64 c] 87)), q.W.cell? ⟨w.heap.size, 6, none⟩ = some (.bool b) := fun q => (EF_at (boxF2 (f := ⟨k, n, v, h, p, t, b, c⟩) q.h)).2.2.2.2.2.2.1
  have m7 : ∀ q : GB ((w.alloc (.cells #[.int .i64 k, .string n, .string v, .string h, .int .i64 p, .string t, .bool b, .int .i64 c] 87)).alloc (.cells #[.int .i64 k, .string ⟨#[]⟩, .string ⟨#[]⟩, .string h, .int .i64 p, .string t, .bool b, .int .i64 c] 87)), q.W.cell? ⟨w.heap.size, 7, none⟩ = some (.int .i64 c) := fun q => (EF_at (boxF2 (f := ⟨k, n, v, h, p, t, b, c⟩) q.h)).2.2.2.2.2.2.2
  cases x0
  · go_enter Tryz.func202, Tryz.ntmps202
    go_wp2_with fail
    go_ret
    exact ⟨rfl, ((Below.refl _ _).alloc (Nat.le_refl _) _).alloc (by simp) _⟩
  cases x1
  · go_enter Tryz.func202, Tryz.ntmps202
    go_wp2_with fail
    refine (calls_gb0 ((C1 _).out)).mono ?_
    rintro e x ⟨rfl, q, rfl⟩
    go_wp2_with fail
    go_ret
    exact ⟨rfl, below_b2 q.h⟩
  cases x2
  · go_enter Tryz.func202, Tryz.ntmps202
    go_wp2_with fail
    refine (calls_gb0 ((C1 _).out)).mono ?_
    rintro e x ⟨rfl, q, rfl⟩
    go_wp2_with fail
    refine (calls_gb ((C2 _).out)).mono ?_
    rintro e x ⟨rfl, q, rfl⟩
    go_wp2_with fail
    go_ret
    exact ⟨rfl, below_b2 q.h⟩
  cases x3
  · go_enter Tryz.func202, Tryz.ntmps202
    go_wp2_with fail
    refine (calls_gb0 ((C1 _).out)).mono ?_
    rintro e x ⟨rfl, q, rfl⟩
    go_wp2_with fail
    refine (calls_gb ((C2 _).out)).mono ?_
    rintro e x ⟨rfl, q, rfl⟩
    go_wp2_with fail
    refine (calls_gb ((C3 _).out)).mono ?_
    rintro e x ⟨rfl, q, rfl⟩
    go_wp2_with fail
    go_ret
    exact ⟨rfl, below_b2 q.h⟩
  cases hc : (c == 301)
  · go_enter Tryz.func202, Tryz.ntmps202
    go_wp2_with fail
    refine (calls_gb0 ((C1 _).out)).mono ?_
    rintro e x ⟨rfl, q, rfl⟩
    go_wp2_with fail
    refine (calls_gb ((C2 _).out)).mono ?_
    rintro e x ⟨rfl, q, rfl⟩
    go_wp2_with fail
    refine (calls_gb ((C3 _).out)).mono ?_
    rintro e x ⟨rfl, q, rfl⟩
    go_wp2_with fail
    go_ret
    exact ⟨by simp, below_b2 q.h⟩
  · go_enter Tryz.func202, Tryz.ntmps202
    go_wp2_with fail
    refine (calls_gb0 ((C1 _).out)).mono ?_
    rintro e x ⟨rfl, q, rfl⟩
    go_wp2_with fail
    refine (calls_gb ((C2 _).out)).mono ?_
    rintro e x ⟨rfl, q, rfl⟩
    go_wp2_with fail
    refine (calls_gb ((C3 _).out)).mono ?_
    rintro e x ⟨rfl, q, rfl⟩
    go_wp2_with fail
    go_ret
    exact ⟨rfl, below_b2 q.h⟩

set_option maxHeartbeats 1600000 in
theorem maySwap_any (f : FB) (w : World) (ok : OkFi f) :
    Calls Tryz.prog 203 #[fV f] w fun e w' => e = .returned (.bool (ownSwap f && (hostF f && (pathF f && (!e0 f.host || !e0 f.path))))) ∧ Below w.heap.size w w' := by
  obtain ⟨k, n, v, h, p, t, b, c⟩ := f
  have C1 := fun W => hide (mayHost_any ⟨k, n, v, h, p, t, b, c⟩ W ok)
  have C2 := fun W => hide (mayPath_any ⟨k, n, v, h, p, t, b, c⟩ W ok)
  dsimp only
  have HE := @tl_emp h
  have HE2 := @tl_emp t
  rw [← HE, ← HE2]
  clear HE HE2
  generalize hostF ⟨k, n, v, h, p, t, b, c⟩ = x1 at *
  generalize pathF ⟨k, n, v, h, p, t, b, c⟩ = x2 at *
  generalize hx0 : ownSwap ⟨k, n, v, h, p, t, b, c⟩ = x0 at *
  have HEQ : decide (k = k ∧ n.toList = (⟨#[]⟩ : ByteArray).toList ∧ v.toList = (⟨#[]⟩ : ByteArray).toList ∧ h.toList = h.toList ∧ p = 0 ∧ t.toList = t.toList ∧ b = b ∧ c = 0) = x0 := by
    rw [← hx0, Bool.eq_iff_iff, decide_eq_true_eq]
    unfold ownSwap e0
    simp [tl_e]
  have EQ := fun W => (eqFil k p c k 0 0 n v h t (⟨#[]⟩ : ByteArray) (⟨#[]⟩ : ByteArray) h t b b W).trans (by rw [HEQ])
  clear HEQ hx0
  have m0 : ∀ q : GB ((w.alloc (.cells #[.int .i64 k, .string n, .string v, .string h, .int .i64 p, .string t, .bool b, .int .i64 c] 87)).alloc (.cells #[.int .i64 k, .string ⟨#[]⟩, .string ⟨#[]⟩, .string h, .int .i64 0, .string t, .bool b, .int .i64 0] 87)), q.W.cell? ⟨w.heap.size, 0, none⟩ = some (.int .i64 k) := fun q => (EF_at (boxF2 (f := ⟨k, n, v, h, p, t, b, c⟩) q.h)).1
  have m1 : ∀ q : GB ((w.alloc (.cells #[.int .i64 k, .string n, .string v, .string h, .int .i64 p, .string t, .bool b, .int .i64 c] 87)).alloc (.cells #[.int .i64 k, .string ⟨#[]⟩, .string ⟨#[]⟩, .string h, .int .i64 0, .string t, .bool b, .int .i64 0] 87)), q.W.cell? ⟨w.heap.size, 1, none⟩ = some (.string n) := fun q => (EF_at (boxF2 (f := ⟨k, n, v, h, p, t, b, c⟩) q.h)).2.1
  have m2 : ∀ q : GB ((w.alloc (.cells #[.int .i64 k, .string n, .string v, .string h, .int .i64 p, .string t, .bool b, .int .i64 c] 87)).alloc (.cells #[.int .i64 k, .string ⟨#[]⟩, .string ⟨#[]⟩, .string h, .int .i64 0, .string t, .bool b, .int .i64 0] 87)), q.W.cell? ⟨w.heap.size, 2, none⟩ = some (.string v) := fun q => (EF_at (boxF2 (f := ⟨k, n, v, h, p, t, b, c⟩) q.h)).2.2.1
  have m3 : ∀ q : GB ((w.alloc (.cells #[.int .i64 k, .string n, .string v, .string h, .int .i64 p, .string t, .bool b, .int .i64 c] 87)).alloc (.cells #[.int .i64 k, .string ⟨#[]⟩, .string ⟨#[]⟩, .string h, .int .i64 0, .string t, .bool b, .int .i64 0] 87)), q.W.cell? ⟨w.heap.size, 3, none⟩ = some (.string h) := fun q => (EF_at (boxF2 (f := ⟨k, n, v, h, p, t, b, c⟩) q.h)).2.2.2.1
  have m4 : ∀ q : GB ((w.alloc (.cells #[.int .i64 k, .string n, .string v, .string h, .int .i64 p, .string t, .bool b, .int .i64 c] 87)).alloc (.cells #[.int .i64 k, .string ⟨#[]⟩, .string ⟨#[]⟩, .string h, .int .i64 0, .string t, .bool b, .int .i64 0] 87)), q.W.cell? ⟨w.heap.size, 4, none⟩ = some (.int .i64 p) := fun q => (EF_at (boxF2 (f := ⟨k, n, v, h, p, t, b, c⟩) q.h)).2.2.2.2.1
  have m5 : ∀ q : GB ((w.alloc (.cells #[.int .i64 k, .string n, .string v, .string h, .int .i64 p, .string t, .bool b, .int .i64 c] 87)).alloc (.cells #[.int .i64 k, .string ⟨#[]⟩, .string ⟨#[]⟩, .string h, .int .i64 0, .string t, .bool b, .int .i64 0] 87)), q.W.cell? ⟨w.heap.size, 5, none⟩ = some (.string t) := fun q => (EF_at (boxF2 (f := ⟨k, n, v, h, p, t, b, c⟩) q.h)).2.2.2.2.2.1
  have m6 : ∀ q : GB ((w.alloc (.cells #[.int .i64 k, .string n, .string v, .string h, .int .i64 p, .string t, .bool b, .int .i64 c] 87)).alloc (.cells #[.int .i64 k, .string ⟨#[]⟩, .string ⟨#[]⟩, .string h, .int .i64 0, .string t, .bool b, .int .i64 0] 87)), q.W.cell? ⟨w.heap.size, 6, none⟩ = some (.bool b) := fun q => (EF_at (boxF2 (f := ⟨k, n, v, h, p, t, b, c⟩) q.h)).2.2.2.2.2.2.1
  have m7 : ∀ q : GB ((w.alloc (.cells #[.int .i64 k, .string n, .string v, .string h, .int .i64 p, .string t, .bool b, .int .i64 c] 87)).alloc (.cells #[.int .i64 k, .string ⟨#[]⟩, .string ⟨#[]⟩, .string h, .int .i64 0, .string t, .bool b, .int .i64 0] 87)), q.W.cell? ⟨w.heap.size, 7, none⟩ = some (.int .i64 c) := fun q => (EF_at (boxF2 (f := ⟨k, n, v, h, p, t, b, c⟩) q.h)).2.2.2.2.2.2.2
  cases x0
  · go_enter Tryz.func203, Tryz.ntmps203
    go_wp2_with fail
    go_ret
    exact ⟨rfl, ((Below.refl _ _).alloc (Nat.le_refl _) _).alloc (by simp) _⟩
  cases x1
  · go_enter Tryz.func203, Tryz.ntmps203
    go_wp2_with fail
    refine (calls_gb0 ((C1 _).out)).mono ?_
    rintro e x ⟨rfl, q, rfl⟩
    go_wp2_with fail
    go_ret
    exact ⟨rfl, below_b2 q.h⟩
  cases x2
  · go_enter Tryz.func203, Tryz.ntmps203
    go_wp2_with fail
    refine (calls_gb0 ((C1 _).out)).mono ?_
    rintro e x ⟨rfl, q, rfl⟩
    go_wp2_with fail
    refine (calls_gb ((C2 _).out)).mono ?_
    rintro e x ⟨rfl, q, rfl⟩
    go_wp2_with fail
    go_ret
    exact ⟨rfl, below_b2 q.h⟩
  cases hc : h.toList.isEmpty
  · go_enter Tryz.func203, Tryz.ntmps203
    go_wp2_with fail
    refine (calls_gb0 ((C1 _).out)).mono ?_
    rintro e x ⟨rfl, q, rfl⟩
    go_wp2_with fail
    refine (calls_gb ((C2 _).out)).mono ?_
    rintro e x ⟨rfl, q, rfl⟩
    go_wp2_with fail
    go_ret
    exact ⟨rfl, below_b2 q.h⟩
  · go_enter Tryz.func203, Tryz.ntmps203
    go_wp2_with fail
    refine (calls_gb0 ((C1 _).out)).mono ?_
    rintro e x ⟨rfl, q, rfl⟩
    go_wp2_with fail
    refine (calls_gb ((C2 _).out)).mono ?_
    rintro e x ⟨rfl, q, rfl⟩
    go_wp2_with fail
    go_ret
    exact ⟨by simp, below_b2 q.h⟩

set_option maxHeartbeats 1600000 in
theorem fmay_any (f : FB) (w : World) (ok : OkFi f) :
    Calls Tryz.prog 139 #[fV f] w fun e w' => e = .returned (.bool (mayF f)) ∧ Below w.heap.size w w' := by
  have C1 := fun W => hide (maySet_any f W ok)
  have C3 := fun W => hide (mayDrop_any f W ok)
  have C4 := fun W => hide (mayAway_any f W ok)
  have C5 := fun W => hide (maySwap_any f W ok)
  have H12 : Hid (f.kind = 1 ∨ f.kind = 2 → (noneF f && (tokenB f.name && valueB f.val)) = mayF f) := fun h => by unfold mayF; rw [if_pos h]
  have H3 : Hid (f.kind = 3 → (ownDrop f && tokenB f.name) = mayF f) := fun h => by
    unfold mayF ownDrop; rw [if_neg (by omega), if_pos h]
    cases noneF f <;> cases e0 f.val <;> cases tokenB f.name <;> rfl
  have H4 : Hid (f.kind = 4 → (ownAway f && (hostF f && (pathF f && (decide (0 ≤ f.port ∧ f.port ≤ 65535) && (f.code == 301 || f.code == 302))))) = mayF f) := fun h => by
    unfold mayF ownAway; rw [if_neg (by omega), if_neg (by omega), if_pos h, turn_walk]
    cases e0 f.name <;> cases e0 f.val <;> cases hostF f <;> cases pathF f <;> rfl
  have H5 : Hid (f.kind = 5 → (ownSwap f && (hostF f && (pathF f && (!e0 f.host || !e0 f.path)))) = mayF f) := fun h => by
    unfold mayF ownSwap; rw [if_neg (by omega), if_neg (by omega), if_neg (by omega), if_pos h, turn_walk]
    cases e0 f.name <;> cases e0 f.val <;> cases hostF f <;> cases pathF f <;> cases (f.port == 0) <;> cases (f.code == 0) <;> cases e0 f.host <;> cases e0 f.path <;> rfl
  have H0 : Hid (¬ (f.kind = 1 ∨ f.kind = 2) → f.kind ≠ 3 → f.kind ≠ 4 → f.kind ≠ 5 → false = mayF f) := fun h1 h2 h3 h4 => by
    unfold mayF; rw [if_neg h1, if_neg h2, if_neg h3, if_neg h4]
  generalize mayF f = r at *
  generalize (noneF f && (tokenB f.name && valueB f.val)) = r1 at *
  generalize (ownDrop f && tokenB f.name) = r3 at *
  generalize (ownAway f && (hostF f && (pathF f && (decide (0 ≤ f.port ∧ f.port ≤ 65535) && (f.code == 301 || f.code == 302))))) = r4 at *
  generalize (ownSwap f && (hostF f && (pathF f && (!e0 f.host || !e0 f.path)))) = r5 at *
  obtain ⟨k, n, v, h, p, t, b, c⟩ := f
  dsimp only at *
  cases h1 : (k == 1)
  · cases h2 : (k == 2)
    · cases h3 : (k == 3)
      · cases h4 : (k == 4)
        · cases h5 : (k == 5)
          · have HR : Hid (false = r) := H0.out (by simp at h1 h2; omega) (by simpa using h3) (by simpa using h4) (by simpa using h5)
            clear H12 H3 H4 H5 H0
            go_enter Tryz.func139, Tryz.ntmps139
            go_wp2_with fail
            go_ret
            exact ⟨ret_bool HR.out, (Below.refl _ _).alloc (Nat.le_refl _) _⟩
          · have HR : Hid (r5 = r) := H5.out (eq_of_beq h5)
            clear H12 H3 H4 H5 H0
            go_enter Tryz.func139, Tryz.ntmps139
            go_wp2_with fail
            refine ((C5 _).out).mono ?_
            rintro e w1 ⟨rfl, hb1⟩
            go_wp2_with fail
            go_ret
            exact ⟨ret_bool HR.out, below_box hb1⟩
        · have HR : Hid (r4 = r) := H4.out (eq_of_beq h4)
          clear H12 H3 H4 H5 H0
          go_enter Tryz.func139, Tryz.ntmps139
          go_wp2_with fail
          refine ((C4 _).out).mono ?_
          rintro e w1 ⟨rfl, hb1⟩
          go_wp2_with fail
          go_ret
          exact ⟨ret_bool HR.out, below_box hb1⟩
      · have HR : Hid (r3 = r) := H3.out (eq_of_beq h3)
        clear H12 H3 H4 H5 H0
        go_enter Tryz.func139, Tryz.ntmps139
        go_wp2_with fail
        refine ((C3 _).out).mono ?_
        rintro e w1 ⟨rfl, hb1⟩
        go_wp2_with fail
        go_ret
        exact ⟨ret_bool HR.out, below_box hb1⟩
    · have HR : Hid (r1 = r) := H12.out (.inr (eq_of_beq h2))
      clear H12 H3 H4 H5 H0
      go_enter Tryz.func139, Tryz.ntmps139
      go_wp2_with fail
      refine ((C1 _).out).mono ?_
      rintro e w1 ⟨rfl, hb1⟩
      go_wp2_with fail
      go_ret
      exact ⟨ret_bool HR.out, below_box hb1⟩
  · have HR : Hid (r1 = r) := H12.out (.inl (eq_of_beq h1))
    clear H12 H3 H4 H5 H0
    go_enter Tryz.func139, Tryz.ntmps139
    go_wp2_with fail
    refine ((C1 _).out).mono ?_
    rintro e w1 ⟨rfl, hb1⟩
    go_wp2_with fail
    go_ret
    exact ⟨ret_bool HR.out, below_box hb1⟩

end Go.Proofs.YtphinklnbjpohaaGreatDoor
