/-
  Walks: pairs.Same, equal, a wanted name's is, place, first; Get.
-/
import Derived.Test.YtblmdcpcekoogaaGreatDoorFold
import Derived.Test.YtblmdcpcekoogaaGreatDoorPrs
import Derived.Test.YtblmdcpcekoogaaGreatDoorPbPlain
import Derived.Laws.EntriesVeiled
namespace Go.Proofs.YtblmdcpcekoogaaGreatDoor
set_option maxRecDepth 20000
open Go Go.RowKit Go.Shelf

/-- are both names the same, folded? -/
abbrev sameF (a b : ByteArray) : Bool := Pb.sm foldB a b
/-- octet by octet -/
abbrev sameE (a b : ByteArray) : Bool := decide (a = b)

set_option maxHeartbeats 400000 in
theorem prSame_any (a b : ByteArray) (w : World) (ha : a.size ≤ maxLen) (hb : b.size ≤ maxLen) :
    Calls Tryz.prog 190 #[.string a, .string b] w fun e w' => e = .returned (.bool (sameF a b)) ∧ Below w.heap.size w w' := by
  by_cases hl : a.size = b.size
  · have H : Hid (((foldB a).toList == (foldB b).toList) = sameF a b) := beq_dec _ _
    go_enter Tryz.func190, Tryz.ntmps190
    go_wp2_with fail
    refine (foldB_any _ _ ha).mono ?_
    rintro e w1 ⟨rfl, hb1⟩
    go_wp2_with fail
    refine (foldB_any _ _ hb).mono ?_
    rintro e w2 ⟨rfl, hb2⟩
    go_wp2_with fail
    go_ret
    exact ⟨ret_bool H.out, bb2 hb1 hb2⟩
  · have H : Hid (false = sameF a b) := by
      refine (decide_eq_false fun e => hl ?_).symm
      rw [← foldB_size a, e, foldB_size]
    have hl' : ((a.size : Int) == (b.size : Int)) = false := by rw [beq_eq_false_iff_ne]; omega
    go_enter Tryz.func190, Tryz.ntmps190
    go_wp2_with fail
    go_ret
    exact ⟨ret_bool H.out, Below.refl _ _⟩

/-- a function of the program that tells whether two texts are the same -/
structure Cmp (f : Nat) (same : ByteArray → ByteArray → Bool) : Prop where
  go : ∀ (a b : ByteArray) (w : World), a.size ≤ maxLen → b.size ≤ maxLen → Calls Tryz.prog f #[.string a, .string b] w fun e w' => e = .returned (.bool (same a b)) ∧ Below w.heap.size w w'
  enters : ∀ (args : Array Value) (w : World), (callFunc f args).run Tryz.prog w = .ok (.enter f args) w
theorem enter_any {P : Program} {f : FuncId} {fn : Func} {c : Code} (hf : P.funcs[f]? = some fn) (hname : (fn.name == "runtime.NumGoroutine") = false) (hb : fn.body = some c) (args : Array Value) (w : World) :
    (callFunc f args).run P w = .ok (.enter f args) w := by
  have h1 : fn.name ≠ "runtime.NumGoroutine" := by simpa using hname
  simp [callFunc, hf, h1, hb]
theorem cmp_same : Cmp 190 sameF := ⟨fun a b w ha hb => prSame_any a b w ha hb, fun args w => enter_any Tryz.func190 (by kernel_rfl) rfl args w⟩

/-- a wanted name -/
abbrev wnt (f : Nat) (n : ByteArray) : Value := .agg #[.string n, .func (.func f) #[] #[]]

set_option maxHeartbeats 400000 in
theorem is_any {f : Nat} {same : ByteArray → ByteArray → Bool} (hf : Cmp f same) (n a b : ByteArray) (w : World) (hn : n.size ≤ maxLen) (ha : a.size ≤ maxLen) :
    Calls Tryz.prog 199 #[wnt f n, .agg #[.string a, .string b]] w fun e w' => e = .returned (.bool (same n a)) ∧ Below w.heap.size w w' := by
  have eg := hf.enters
  go_enter Tryz.func199, Tryz.ntmps199
  go_wp2_with fail
  refine (hf.go _ _ _ hn ha).mono ?_
  rintro e w1 ⟨rfl, hb1⟩
  go_wp2_with fail
  go_ret
  exact ⟨rfl, below_box (below_box hb1)⟩

/-- the place of the first pair whose name is the same -/
def placeP (same : ByteArray → ByteArray → Bool) (n : ByteArray) (l : List PairB) : Nat := l.findIdx fun p => same n p.1

def placeI (same : ByteArray → ByteArray → Bool) (n : ByteArray) (l : List PairB) : Nat := if placeP same n l < l.length then placeP same n l else 0
def hasI (same : ByteArray → ByteArray → Bool) (n : ByteArray) (l : List PairB) : Bool := decide (placeP same n l < l.length)
theorem ret_place {i j : Nat} {a b : Bool} (h : i = j) (k : a = b) : Ending.returned (.tuple #[.int .i64 (i : Int), .bool a]) = .returned (.tuple #[.int .i64 (j : Int), .bool b]) := by rw [h, k]
theorem place_here (same : ByteArray → ByteArray → Bool) (n : ByteArray) (l : List PairB) (k : Nat) (hk : k < l.length) (h : ∀ j (h : j < l.length), j < k → same n l[j].1 = false) (hs : same n l[k].1 = true) : placeP same n l = k := by
  unfold placeP
  rw [List.findIdx_eq hk]
  exact ⟨hs, fun j hj => h j (by omega) hj⟩
theorem place_none (same : ByteArray → ByteArray → Bool) (n : ByteArray) (l : List PairB) (h : ∀ j (h : j < l.length), same n l[j].1 = false) : placeP same n l = l.length := by
  unfold placeP
  rw [List.findIdx_eq_length]
  intro p hp
  obtain ⟨j, hj, rfl⟩ := List.getElem_of_mem hp
  exact h j hj

set_option maxHeartbeats 800000 in
theorem place_any {f : Nat} {same : ByteArray → ByteArray → Bool} (hf : Cmp f same) (n : ByteArray) (v : Value) (l : List PairB) (w : World) (hn : n.size ≤ maxLen) (hv : Prs w v l) (hok : ∀ p ∈ l, okP p) :
    Calls Tryz.prog 198 #[wnt f n, v] w fun e w' => e = .returned (.tuple #[.int .i64 (placeI same n l : Nat), .bool (hasI same n l)]) ∧ Below w.heap.size w w' := by
  have hlen := hv.len
  obtain ⟨a, cap, rfl, _, _, hc⟩ := hv
  have HC := hide hc
  have HOK := hide hok
  clear hc hok
  go_enter Tryz.func198, Tryz.ntmps198
  go_wp2_with fail
  go_loopw [10] (fun i wr => ∃ k : Nat, k ≤ l.length ∧ i = .int .i64 k ∧ Hid (∀ j (h : j < l.length), j < k → same n l[j].1 = false) ∧ Below (w.alloc (.cells #[.string n, .func (.func f) #[] #[]] 201)).heap.size (w.alloc (.cells #[.string n, .func (.func f) #[] #[]] 201)) wr) (fun i _ => l.length - (intOf i).toNat)
  case atStart => exact ⟨0, Nat.zero_le _, rfl, fun j h hj => absurd hj (by omega), Below.refl _ _⟩
  case round =>
    obtain ⟨k, hk, rfl, hno, hB⟩ := hrel
    have hW := below_box hB
    by_cases hlt : k < l.length
    · have hlt' : (k : Int) < (l.length : Int) := by omega
      obtain ⟨g, off, rfl, hg, c1, c2⟩ := HC.out k hlt
      replace c1 := (hW.cell (p := ⟨g, off + k * 2, none⟩) hg).trans c1
      replace c2 := (hW.cell (p := ⟨g, off + k * 2 + 1, none⟩) hg).trans c2
      obtain ⟨o1, o2⟩ := HOK.out _ (List.getElem_mem hlt)
      cases hs : same n l[k].1
      · have HS := hide hs
        have HN : Hid (∀ j (h : j < l.length), j < k + 1 → same n l[j].1 = false) := fun j h hj => by
          rcases Nat.lt_or_ge j k with h1 | h1
          · exact hno.out j h h1
          · obtain rfl : j = k := by omega
            exact hs
        clear hs
        generalize l[k].1 = p1 at *
        generalize l[k].2 = p2 at *
        have b1 := box_fst (hB.alloc hB.size (.cells #[.string p1, .string p2] 83))
        have b2 := box_snd (hB.alloc hB.size (.cells #[.string p1, .string p2] 83))
        go_wp2_with fail
        refine (is_any hf _ _ _ _ hn o1).mono ?_
        rintro e w1 ⟨rfl, hb1⟩
        rw [HS.out]
        go_wp2_with fail
        refine ⟨⟨k + 1, by omega, by go_num, HN.out, ?_⟩, by simp [intOf]; omega⟩
        exact (hB.alloc hB.size _).trans (hb1.mono (by simp; have := hB.size; simp at this; omega))
      · have HS := hide hs
        have HP := hide (place_here same n l k hlt hno.out hs)
        have HI : Hid (k = placeI same n l) := by unfold Hid placeI; rw [HP.out, if_pos hlt]
        have HH : Hid (true = hasI same n l) := by unfold Hid hasI; rw [HP.out, decide_eq_true hlt]
        clear hs
        generalize l[k].1 = p1 at *
        generalize l[k].2 = p2 at *
        have b1 := box_fst (hB.alloc hB.size (.cells #[.string p1, .string p2] 83))
        have b2 := box_snd (hB.alloc hB.size (.cells #[.string p1, .string p2] 83))
        go_wp2_with fail
        refine (is_any hf _ _ _ _ hn o1).mono ?_
        rintro e w1 ⟨rfl, hb1⟩
        rw [HS.out]
        go_wp2_with fail
        go_ret2
        exact ⟨ret_place HI.out HH.out, hW.trans ((below_box hb1).mono hW.size)⟩
    · have hlt' : ¬ (k : Int) < (l.length : Int) := by omega
      have HP := hide (place_none same n l (fun j h => hno.out j h (by omega)))
      have HI : Hid (0 = placeI same n l) := by unfold Hid placeI; rw [HP.out, if_neg (Nat.lt_irrefl _)]
      have HH : Hid (false = hasI same n l) := by unfold Hid hasI; rw [HP.out, decide_eq_false (Nat.lt_irrefl _)]
      go_wp2_with fail
      go_ret2
      exact ⟨ret_place HI.out HH.out, hW⟩

/-- the first value of a wanted name -/
def firstP (same : ByteArray → ByteArray → Bool) (n : ByteArray) (l : List PairB) : Option ByteArray := (l.find? fun p => same n p.1).map (·.2)
theorem first_yes {same : ByteArray → ByteArray → Bool} {n : ByteArray} {l : List PairB} (h : hasI same n l = true) : ∃ h' : placeI same n l < l.length, firstP same n l = some l[placeI same n l].2 := by
  have hp : placeP same n l < l.length := by simpa [hasI] using h
  have e : placeI same n l = placeP same n l := by unfold placeI; rw [if_pos hp]
  refine ⟨by rw [e]; exact hp, ?_⟩
  unfold firstP
  rw [List.find?_eq_some_iff_getElem.2 ⟨?_, placeI same n l, by rw [e]; exact hp, rfl, ?_⟩]
  · rfl
  · simp only [e]
    exact List.findIdx_getElem (w := hp)
  · intro j hj
    rw [e] at hj
    have := List.not_of_lt_findIdx hj
    simpa using this
theorem first_no {same : ByteArray → ByteArray → Bool} {n : ByteArray} {l : List PairB} (h : hasI same n l = false) : firstP same n l = none := by
  have hp : ¬ placeP same n l < l.length := by simpa [hasI] using h
  unfold firstP
  rw [Option.map_eq_none_iff, List.find?_eq_none]
  intro p hp2 hs
  exact hp (List.findIdx_lt_length_of_exists ⟨p, hp2, hs⟩)
/-- an answer that is there, or none -/
def valO (o : Option ByteArray) : ByteArray := o.getD ⟨#[]⟩

set_option maxHeartbeats 400000 in
theorem field_any (n : ByteArray) (w : World) :
    Calls Tryz.prog 197 #[.string n] w fun e w' => e = .returned (wnt 190 n) ∧ Below w.heap.size w w' := by
  go_enter Tryz.func197, Tryz.ntmps197
  go_wp2_with fail
  exact bodyPost_ret (v := wnt 190 n) (by simp [results, Tryz.results197, go_sem]) rfl ⟨rfl, (Below.refl _ _).alloc (Nat.le_refl _) _⟩

/-- what Get answers -/
abbrev getQ (l : List PairB) (n : ByteArray) : Option ByteArray := Pb.getP foldB l n
theorem first_get (l : List PairB) (n : ByteArray) : firstP sameF n l = getQ l n := by
  unfold firstP getQ Pb.getP
  congr 2
  funext p
  exact Pb.sm_comm _ _

end Go.Proofs.YtblmdcpcekoogaaGreatDoor
