/-
  Walks: rule.Method, the document's Method; named (by ContainsFunc and a closure).
-/
import Derived.Test.YtblmdcpcekoogaaGreatDoorRuMatch
namespace Go.Proofs.YtblmdcpcekoogaaGreatDoor
set_option maxRecDepth 20000
open Go Go.RowKit Go.Shelf

theorem meth_no0 {s : ByteArray} (h : s.size = 0) : methB s = false := by
  unfold methB
  exact decide_eq_false (fun ⟨h1, _⟩ => by omega)
theorem meth_no10 {s : ByteArray} (h : 10 < s.size) : methB s = false := by
  unfold methB
  exact decide_eq_false (fun ⟨_, h1, _⟩ => by omega)
theorem meth_noc {s : ByteArray} {k : Nat} (h : k < s.size) (hc : ¬ (65 ≤ s[k].toNat ∧ s[k].toNat ≤ 90)) : methB s = false := by
  unfold methB
  exact decide_eq_false (fun ⟨_, _, h1⟩ => hc (h1 k h))
theorem meth_all {s : ByteArray} (h : ∀ j (h : j < s.size), 65 ≤ s[j].toNat ∧ s[j].toNat ≤ 90) : methB s = decide (1 ≤ s.size ∧ s.size ≤ 10) := by
  unfold methB
  exact decide_eq_decide.2 ⟨fun h1 => ⟨h1.1, h1.2.1⟩, fun h1 => ⟨h1.1, h1.2, h⟩⟩

set_option maxHeartbeats 800000 in
theorem method_any (s : ByteArray) (w : World) (hs : s.size ≤ maxLen) :
    Calls Tryz.prog 260 #[.string s] w fun e w' => e = .returned (.bool (methB s)) ∧ w' = w := by
  unfold maxLen at hs
  by_cases h0 : s.size = 0
  · have HN : Hid (false = methB s) := (meth_no0 h0).symm
    have t0 : ((s.size : Int) == 0) = true := by rw [beq_iff_eq]; omega
    clear h0
    go_enter Tryz.func260, Tryz.ntmps260
    go_wp2_with fail
    go_ret
    exact ⟨ret_bool HN.out, rfl⟩
  · have t0 : ((s.size : Int) == 0) = false := by rw [beq_eq_false_iff_ne]; omega
    by_cases h40 : 10 < s.size
    · have HN : Hid (false = methB s) := (meth_no10 h40).symm
      have t1 : (10 : Int) < (s.size : Int) := by omega
      clear h0
      go_enter Tryz.func260, Tryz.ntmps260
      go_wp2_with fail
      go_ret
      exact ⟨ret_bool HN.out, rfl⟩
    · have t1 : ¬ (10 : Int) < (s.size : Int) := by omega
      go_enter Tryz.func260, Tryz.ntmps260
      go_wp2_with fail
      go_loopw [14] (fun i wr => ∃ k : Nat, k ≤ s.size ∧ i = .int .i64 k ∧ Hid (∀ j (h : j < s.size), j < k → 65 ≤ s[j].toNat ∧ s[j].toNat ≤ 90) ∧ wr = w) (fun i _ => s.size - (intOf i).toNat)
      case atStart => exact ⟨0, Nat.zero_le _, rfl, fun _ _ h => absurd h (by omega), rfl⟩
      case round =>
        obtain ⟨k, hk, rfl, hno, rfl⟩ := hrel
        by_cases hlt : k < s.size
        · have hlt' : (k : Int) < (s.size : Int) := by omega
          by_cases hc1 : s[k].toNat < 65
          · have HN : Hid (false = methB s) := (meth_noc hlt (by omega)).symm
            have u1 : (s[k].toNat : Int) < 65 := by omega
            go_wp2_with fail
            go_ret
            exact ⟨ret_bool HN.out, rfl⟩
          · have u1 : ¬ (s[k].toNat : Int) < 65 := by omega
            by_cases hc2 : 90 < s[k].toNat
            · have HN : Hid (false = methB s) := (meth_noc hlt (by omega)).symm
              have u2 : (90 : Int) < (s[k].toNat : Int) := by omega
              go_wp2_with fail
              go_ret
              exact ⟨ret_bool HN.out, rfl⟩
            · have u2 : ¬ (90 : Int) < (s[k].toNat : Int) := by omega
              have HY : Hid (∀ j (h : j < s.size), j < k + 1 → 65 ≤ s[j].toNat ∧ s[j].toNat ≤ 90) := fun j hj hjk => by
                rcases Nat.lt_or_ge j k with h1 | h1
                · exact hno.out j hj h1
                · obtain rfl : j = k := by omega
                  omega
              go_wp2_with fail
              exact ⟨⟨k + 1, by omega, by go_num, HY.out, trivial⟩, by simp [intOf]; omega⟩
        · have hlt' : ¬ (k : Int) < (s.size : Int) := by omega
          have HY : Hid (true = methB s) := by
            unfold Hid
            rw [meth_all (fun j h => hno.out j h (by omega)), decide_eq_true (by omega)]
          go_wp2_with fail
          go_ret
          exact ⟨ret_bool HY.out, rfl⟩

set_option maxHeartbeats 800000 in
theorem rmethod_any (s : ByteArray) (w : World) (hs : s.size ≤ maxLen) :
    Calls Tryz.prog 230 #[.string s] w fun e w' => e = .returned (.bool (methB s)) ∧ w' = w := by
  unfold maxLen at hs
  go_enter Tryz.func230, Tryz.ntmps230
  go_wp2_with fail
  go_loopw [3] (fun i wr => ∃ k : Nat, k ≤ s.size ∧ i = .int .i64 k ∧ Hid (∀ j (h : j < s.size), j < k → 65 ≤ s[j].toNat ∧ s[j].toNat ≤ 90) ∧ wr = w) (fun i _ => s.size - (intOf i).toNat)
  case atStart => exact ⟨0, Nat.zero_le _, rfl, fun _ _ h => absurd h (by omega), rfl⟩
  case round =>
    obtain ⟨k, hk, rfl, hno, rfl⟩ := hrel
    by_cases hlt : k < s.size
    · have hlt' : (k : Int) < (s.size : Int) := by omega
      by_cases hc1 : s[k].toNat < 65
      · have HN : Hid (false = methB s) := (meth_noc hlt (by omega)).symm
        have u1 : (s[k].toNat : Int) < 65 := by omega
        go_wp2_with fail
        go_ret
        exact ⟨ret_bool HN.out, rfl⟩
      · have u1 : ¬ (s[k].toNat : Int) < 65 := by omega
        by_cases hc2 : 90 < s[k].toNat
        · have HN : Hid (false = methB s) := (meth_noc hlt (by omega)).symm
          have u2 : (90 : Int) < (s[k].toNat : Int) := by omega
          go_wp2_with fail
          go_ret
          exact ⟨ret_bool HN.out, rfl⟩
        · have u2 : ¬ (90 : Int) < (s[k].toNat : Int) := by omega
          have HY : Hid (∀ j (h : j < s.size), j < k + 1 → 65 ≤ s[j].toNat ∧ s[j].toNat ≤ 90) := fun j hj hjk => by
            rcases Nat.lt_or_ge j k with h1 | h1
            · exact hno.out j hj h1
            · obtain rfl : j = k := by omega
              omega
          go_wp2_with fail
          exact ⟨⟨k + 1, by omega, by go_num, HY.out, trivial⟩, by simp [intOf]; omega⟩
    · have hlt' : ¬ (k : Int) < (s.size : Int) := by omega
      have HY := hide (meth_all (fun j h => hno.out j h (by omega)))
      by_cases h1 : 1 ≤ s.size
      · have t1 : (1 : Int) ≤ (s.size : Int) := by omega
        have HZ : Hid (decide ((s.size : Int) ≤ 10) = methB s) := by
          unfold Hid
          rw [HY.out]
          exact decide_eq_decide.2 (by omega)
        go_wp2_with fail
        go_ret
        exact ⟨ret_bool HZ.out, rfl⟩
      · have t1 : decide ((1 : Int) ≤ (s.size : Int)) = false := decide_eq_false (by omega)
        have HZ : Hid (false = methB s) := by
          unfold Hid
          rw [HY.out, decide_eq_false (by omega)]
        go_wp2_with fail
        go_ret
        exact ⟨ret_bool HZ.out, rfl⟩

set_option maxHeartbeats 400000 in
theorem rEqual_any (a b : ByteArray) (w : World) :
    Calls Tryz.prog 279 #[.string a, .string b] w fun e w' => e = .returned (.bool (sameE a b)) ∧ Below w.heap.size w w' := by
  have H : Hid ((a.toList == b.toList) = sameE a b) := beq_dec _ _
  go_enter Tryz.func279, Tryz.ntmps279
  go_wp2_with fail
  go_ret
  exact ⟨ret_bool H.out, Below.refl _ _⟩
theorem cmp_requal : Cmp 279 sameE := ⟨fun a b w _ _ => rEqual_any a b w, fun args w => enter_any Tryz.func279 (by kernel_rfl) rfl args w⟩

/-- the closure of named: its name lies at h, its function at g -/
abbrev namV (g h : Nat) : Value := .func (.func 291) #[] #[.pointer (some ⟨g, 0, none⟩), .pointer (some ⟨h, 0, none⟩)]

set_option maxHeartbeats 400000 in
theorem named1_any {f : Nat} {same : ByteArray → ByteArray → Bool} (hf : Cmp f same) (n a b : ByteArray) (g h : Nat) (w : World) (hn : n.size ≤ maxLen) (ha : a.size ≤ maxLen)
    (hg : g < w.heap.size) (hh : h < w.heap.size) (cg : w.cell? ⟨g, 0, none⟩ = some (.func (.func f) #[] #[])) (ch : w.cell? ⟨h, 0, none⟩ = some (.string n)) :
    Calls Tryz.prog 291 #[.agg #[.string a, .string b], .pointer (some ⟨g, 0, none⟩), .pointer (some ⟨h, 0, none⟩)] w fun e w' => e = .returned (.bool (same a n)) ∧ Below w.heap.size w w' := by
  have eg := hf.enters
  have cg' : (w.alloc (.cells #[.string a, .string b] 83)).cell? ⟨g, 0, none⟩ = some (.func (.func f) #[] #[]) := (((Below.refl _ w).alloc (Nat.le_refl _) _).cell (p := ⟨g, 0, none⟩) hg).trans cg
  have ch' : (w.alloc (.cells #[.string a, .string b] 83)).cell? ⟨h, 0, none⟩ = some (.string n) := (((Below.refl _ w).alloc (Nat.le_refl _) _).cell (p := ⟨h, 0, none⟩) hh).trans ch
  clear cg ch
  go_enter Tryz.func291, Tryz.ntmps291
  go_wp2_with fail
  refine (hf.go _ _ _ ha hn).mono ?_
  rintro e w1 ⟨rfl, hb1⟩
  go_wp2_with fail
  go_ret
  exact ⟨rfl, below_box hb1⟩

/-- has one of the pairs that name? -/
def namedB (same : ByteArray → ByteArray → Bool) (n : ByteArray) (l : List PairB) : Bool := l.any fun p => same p.1 n
def nameI (same : ByteArray → ByteArray → Bool) (n : ByteArray) (l : List PairB) : Int := if namedB same n l then (l.findIdx fun p => same p.1 n : Nat) else -1
theorem nameI_yes {same : ByteArray → ByteArray → Bool} {n : ByteArray} {l : List PairB} {k : Nat} (hk : k < l.length) (h : ∀ j (h : j < l.length), j < k → same l[j].1 n = false) (hs : same l[k].1 n = true) : nameI same n l = (k : Int) := by
  have h1 : namedB same n l = true := List.any_eq_true.2 ⟨_, List.getElem_mem hk, hs⟩
  have h2 : (l.findIdx fun p => same p.1 n) = k := by
    rw [List.findIdx_eq hk]
    exact ⟨hs, fun j hj => h j (by omega) hj⟩
  unfold nameI
  rw [if_pos h1, h2]
theorem nameI_no {same : ByteArray → ByteArray → Bool} {n : ByteArray} {l : List PairB} (h : ∀ j (h : j < l.length), same l[j].1 n = false) : nameI same n l = -1 := by
  have h1 : namedB same n l = false := by
    unfold namedB
    rw [List.any_eq_false]
    intro p hp
    obtain ⟨j, hj, rfl⟩ := List.getElem_of_mem hp
    rw [h j hj]
    decide
  unfold nameI
  rw [h1]
  rfl
theorem nameI_ge (same : ByteArray → ByteArray → Bool) (n : ByteArray) (l : List PairB) : decide (0 ≤ nameI same n l) = namedB same n l := by
  unfold nameI
  cases namedB same n l
  · rfl
  · simp

set_option maxHeartbeats 800000 in
theorem indexFunc_any {f : Nat} {same : ByteArray → ByteArray → Bool} (hf : Cmp f same) (n : ByteArray) (g h : Nat) (v : Value) (l : List PairB) (w : World) (hn : n.size ≤ maxLen) (hv : Prs w v l) (hok : ∀ p ∈ l, okP p)
    (hg : g < w.heap.size) (hh : h < w.heap.size) (cg : w.cell? ⟨g, 0, none⟩ = some (.func (.func f) #[] #[])) (ch : w.cell? ⟨h, 0, none⟩ = some (.string n)) :
    Calls Tryz.prog 296 #[v, namV g h] w fun e w' => e = .returned (.int .i64 (nameI same n l)) ∧ Below w.heap.size w w' := by
  have hlen := hv.len
  obtain ⟨a, cap, rfl, _, _, hc⟩ := hv
  have HC := hide hc
  have HOK := hide hok
  clear hc hok
  have ent : ∀ (args : Array Value) (w : World), (callFunc 291 args).run Tryz.prog w = .ok (.enter 291 args) w := fun args w => enter_any Tryz.func291 (by kernel_rfl) rfl args w
  go_enter Tryz.func296, Tryz.ntmps296
  go_wp2_with fail
  go_loopw [8] (fun i wr => ∃ k : Nat, k ≤ l.length ∧ i = .int .i64 k ∧ Hid (∀ j (h : j < l.length), j < k → same l[j].1 n = false) ∧ Below w.heap.size w wr) (fun i _ => l.length - (intOf i).toNat)
  case atStart => exact ⟨0, Nat.zero_le _, rfl, fun j h hj => absurd hj (by omega), Below.refl _ _⟩
  case round =>
    obtain ⟨k, hk, rfl, hno, hB⟩ := hrel
    by_cases hlt : k < l.length
    · have hlt' : (k : Int) < (l.length : Int) := by omega
      obtain ⟨gg, off, rfl, hgg, c1, c2⟩ := HC.out k hlt
      replace c1 := (hB.cell (p := ⟨gg, off + k * 2, none⟩) hgg).trans c1
      replace c2 := (hB.cell (p := ⟨gg, off + k * 2 + 1, none⟩) hgg).trans c2
      obtain ⟨o1, o2⟩ := HOK.out _ (List.getElem_mem hlt)
      have C1 := hide (named1_any hf n l[k].1 l[k].2 g h wr hn o1 (Nat.lt_of_lt_of_le hg hB.size) (Nat.lt_of_lt_of_le hh hB.size) ((hB.cell (p := ⟨g, 0, none⟩) hg).trans cg) ((hB.cell (p := ⟨h, 0, none⟩) hh).trans ch))
      cases hs : same l[k].1 n
      · have HN : Hid (∀ j (h : j < l.length), j < k + 1 → same l[j].1 n = false) := fun j h hj => by
          rcases Nat.lt_or_ge j k with h1 | h1
          · exact hno.out j h h1
          · obtain rfl : j = k := by omega
            exact hs
        rw [hs] at C1
        clear hs
        generalize l[k].1 = p1 at *
        generalize l[k].2 = p2 at *
        go_wp2_with fail
        refine (C1.out).mono ?_
        rintro e w1 ⟨rfl, hb1⟩
        go_wp2_with fail
        exact ⟨⟨k + 1, by omega, by go_num, HN.out, bb2 hB hb1⟩, by simp [intOf]; omega⟩
      · have HI : Hid ((k : Int) = nameI same n l) := (nameI_yes hlt hno.out hs).symm
        rw [hs] at C1
        clear hs
        generalize l[k].1 = p1 at *
        generalize l[k].2 = p2 at *
        go_wp2_with fail
        refine (C1.out).mono ?_
        rintro e w1 ⟨rfl, hb1⟩
        go_wp2_with fail
        go_ret
        exact ⟨ret_int HI.out, bb2 hB hb1⟩
    · have hlt' : ¬ (k : Int) < (l.length : Int) := by omega
      have HI : Hid (-1 = nameI same n l) := (nameI_no (fun j h => hno.out j h (by omega))).symm
      go_wp2_with fail
      go_ret
      exact ⟨ret_int HI.out, hB⟩

set_option maxHeartbeats 400000 in
theorem containsFunc_any {f : Nat} {same : ByteArray → ByteArray → Bool} (hf : Cmp f same) (n : ByteArray) (g h : Nat) (v : Value) (l : List PairB) (w : World) (hn : n.size ≤ maxLen) (hv : Prs w v l) (hok : ∀ p ∈ l, okP p)
    (hg : g < w.heap.size) (hh : h < w.heap.size) (cg : w.cell? ⟨g, 0, none⟩ = some (.func (.func f) #[] #[])) (ch : w.cell? ⟨h, 0, none⟩ = some (.string n)) :
    Calls Tryz.prog 290 #[v, namV g h] w fun e w' => e = .returned (.bool (namedB same n l)) ∧ Below w.heap.size w w' := by
  have C1 := hide (indexFunc_any hf n g h v l w hn hv hok hg hh cg ch)
  have HE := hide (nameI_ge same n l)
  go_enter Tryz.func290, Tryz.ntmps290
  go_wp2_with fail
  refine (C1.out).mono ?_
  rintro e w1 ⟨rfl, hb1⟩
  go_wp2_with fail
  go_ret
  exact ⟨ret_bool HE.out, hb1⟩

set_option maxHeartbeats 400000 in
theorem named_any {f : Nat} {same : ByteArray → ByteArray → Bool} (hf : Cmp f same) (n : ByteArray) (v : Value) (l : List PairB) (w : World) (hn : n.size ≤ maxLen) (hv : Prs w v l) (hok : ∀ p ∈ l, okP p) :
    Calls Tryz.prog 277 #[v, .string n, .func (.func f) #[] #[]] w fun e w' => e = .returned (.bool (namedB same n l)) ∧ Below w.heap.size w w' := by
  have hb0 : Below w.heap.size w ((w.alloc (.cells #[.string n] 9)).alloc (.cells #[.func (.func f) #[] #[]] 139)) := ((Below.refl _ _).alloc (Nat.le_refl _) _).alloc (by simp) _
  have C1 := hide (containsFunc_any hf n (w.heap.size + 1) w.heap.size v l _ hn (hv.below hb0) hok (by simp) (by simp; omega) (by
    have := alloc_new (w.alloc (.cells #[.string n] 9)) (.cells #[.func (.func f) #[] #[]] 139)
    simp only [World.size_alloc] at this
    simp only [World.cell?]; rw [this]; rfl) (by
    simp only [World.cell?]; rw [Below.heap_alloc _ _ _ (by simp), alloc_new]; rfl))
  have hmf : ∀ (fn : Fn) (first cap : Array Value) (w : World), (Instr.makeFunc fn first cap).run Tryz.prog w = .ok (.func fn first cap) w := fun _ _ _ _ => rfl
  go_enter Tryz.func277, Tryz.ntmps277
  go_wp2_with fail
  refine (C1.out).mono ?_
  rintro e w1 ⟨rfl, hb1⟩
  go_wp2_with fail
  go_ret
  exact ⟨rfl, bb2 hb0 hb1⟩

end Go.Proofs.YtblmdcpcekoogaaGreatDoor
