/-
  Walks: what a need asks (a value that an interface holds): askOf, with, mayVal, mayVals, mayAsk, slices.Index, Contains, holds, otherKind.
-/
import Derived.Test.YtecnjbaanbakoaaDoorLaMem
import Derived.Test.YtecnjbaanbakoaaDoorWalkA
namespace Go.Proofs.YtecnjbaanbakoaaDoor
open Go Go.RowKit Go.Shelf

/-- what a need asks, as a value -/
abbrev kT (t : Nat) (v : Value) : Value := .iface t (.agg #[v])
theorem as_isis (v : Value) (w : World) : (Instr.typeAssert (.iface 64 v) 51 64 true).run Tryd.prog w = .ok (.tuple #[v, .bool true]) w := by kernel_rfl
theorem as_isnn (v : Value) (w : World) : (Instr.typeAssert (.iface 64 v) 51 65 true).run Tryd.prog w = .ok (.tuple #[.agg #[.slice none 0 0], .bool false]) w := by kernel_rfl
theorem as_nnis (v : Value) (w : World) : (Instr.typeAssert (.iface 65 v) 51 64 true).run Tryd.prog w = .ok (.tuple #[.agg #[.slice none 0 0], .bool false]) w := by kernel_rfl
theorem as_nnnn (v : Value) (w : World) : (Instr.typeAssert (.iface 65 v) 51 65 true).run Tryd.prog w = .ok (.tuple #[v, .bool true]) w := by kernel_rfl
theorem as_hais (v : Value) (w : World) : (Instr.typeAssert (.iface 66 v) 51 64 true).run Tryd.prog w = .ok (.tuple #[.agg #[.slice none 0 0], .bool false]) w := by kernel_rfl
theorem as_hann (v : Value) (w : World) : (Instr.typeAssert (.iface 66 v) 51 65 true).run Tryd.prog w = .ok (.tuple #[.agg #[.slice none 0 0], .bool false]) w := by kernel_rfl
theorem as_haha (v : Value) (w : World) : (Instr.typeAssert (.iface 66 v) 51 66 true).run Tryd.prog w = .ok (.tuple #[v, .bool true]) w := by kernel_rfl
theorem as_hala (v : Value) (w : World) : (Instr.typeAssert (.iface 66 v) 51 67 true).run Tryd.prog w = .ok (.tuple #[.agg #[.slice none 0 0], .bool false]) w := by kernel_rfl
theorem as_lais (v : Value) (w : World) : (Instr.typeAssert (.iface 67 v) 51 64 true).run Tryd.prog w = .ok (.tuple #[.agg #[.slice none 0 0], .bool false]) w := by kernel_rfl
theorem as_lann (v : Value) (w : World) : (Instr.typeAssert (.iface 67 v) 51 65 true).run Tryd.prog w = .ok (.tuple #[.agg #[.slice none 0 0], .bool false]) w := by kernel_rfl
theorem as_laha (v : Value) (w : World) : (Instr.typeAssert (.iface 67 v) 51 66 true).run Tryd.prog w = .ok (.tuple #[.agg #[.slice none 0 0], .bool false]) w := by kernel_rfl
theorem as_lala (v : Value) (w : World) : (Instr.typeAssert (.iface 67 v) 51 67 true).run Tryd.prog w = .ok (.tuple #[v, .bool true]) w := by kernel_rfl
theorem nil_is (w : World) : (Instr.typeAssert .nilIface 51 64 true).run Tryd.prog w = .ok (.tuple #[.agg #[.slice none 0 0], .bool false]) w := by kernel_rfl
theorem nil_nn (w : World) : (Instr.typeAssert .nilIface 51 65 true).run Tryd.prog w = .ok (.tuple #[.agg #[.slice none 0 0], .bool false]) w := by kernel_rfl
theorem nil_ha (w : World) : (Instr.typeAssert .nilIface 51 66 true).run Tryd.prog w = .ok (.tuple #[.agg #[.slice none 0 0], .bool false]) w := by kernel_rfl
theorem nil_la (w : World) : (Instr.typeAssert .nilIface 51 67 true).run Tryd.prog w = .ok (.tuple #[.agg #[.slice none 0 0], .bool false]) w := by kernel_rfl
theorem with_is (a : Option Addr) (n c : Nat) (w : World) : (invoke (.fn (.method "toll/label.with") #[]) #[kT 64 (.slice a n c)]).run Tryd.prog w = .ok (.enter 77 #[.slice a n c]) w := by kernel_rfl
theorem with_nn (a : Option Addr) (n c : Nat) (w : World) : (invoke (.fn (.method "toll/label.with") #[]) #[kT 65 (.slice a n c)]).run Tryd.prog w = .ok (.enter 77 #[.slice a n c]) w := by kernel_rfl
theorem with_ha (a : Option Addr) (n c : Nat) (w : World) : (invoke (.fn (.method "toll/label.with") #[]) #[kT 66 (.slice a n c)]).run Tryd.prog w = .ok (.enter 77 #[.slice a n c]) w := by kernel_rfl
theorem with_la (a : Option Addr) (n c : Nat) (w : World) : (invoke (.fn (.method "toll/label.with") #[]) #[kT 67 (.slice a n c)]).run Tryd.prog w = .ok (.enter 77 #[.slice a n c]) w := by kernel_rfl

def askV (k : Int) (v : Value) : Value := if k = 1 then kT 64 v else if k = 2 then kT 65 v else if k = 3 then kT 66 v else if k = 4 then kT 67 v else .nilIface

theorem with_any (a : Option Addr) (n c : Nat) (w : World) :
    Calls Tryd.prog 77 #[.slice a n c] w fun e w' => e = .returned (.slice a n c) ∧ w' = w := by
  go_enter Tryd.func77, Tryd.ntmps77
  go_wp2_with fail
  go_ret
  exact ⟨rfl, rfl⟩

set_option maxHeartbeats 400000 in
theorem mayVal_any (s : ByteArray) (w : World) (hs : s.size ≤ maxLen) :
    Calls Tryd.prog 31 #[.string s] w fun e w' => e = .returned (.bool (La.mayV s)) ∧ w' = w := by
  have hm : Hid (La.mayV s = ((s.toList == []) || D.isLabel s.data.toList)) := rfl
  cases h : (s.toList == [])
  · rw [h] at hm
    go_enter Tryd.func31, Tryd.ntmps31
    go_wp2_with fail
    refine (label_any s w hs).mono ?_
    rintro e x ⟨rfl, rfl⟩
    go_wp2_with fail
    go_ret
    exact ⟨ret_bool (by rw [hm.out]; rfl), rfl⟩
  · rw [h] at hm
    go_enter Tryd.func31, Tryd.ntmps31
    go_wp2_with fail
    go_ret
    exact ⟨ret_bool (by rw [hm.out]; rfl), rfl⟩

end Go.Proofs.YtecnjbaanbakoaaDoor
