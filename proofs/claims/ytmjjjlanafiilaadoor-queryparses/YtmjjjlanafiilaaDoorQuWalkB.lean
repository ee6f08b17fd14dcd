/-
  Walks: write, Text (of package query).
-/
import Derived.Test.YtmjjjlanafiilaaDoorQuWalkA
import Derived.Maps.AppendAt
import Derived.Lib.AppendStr
import Derived.Deep.AppendLies
import Derived.Deep.RegionHeld3
import Derived.Laws.IdiomStrings
namespace Go.Proofs.YtmjjjlanafiilaaDoor
open Go Go.RowKit Go.Shelf

/-- octets, as cells -/
def oc (l : List UInt8) : List Value := l.map fun b => Value.int .u8 (b.toNat : Int)
theorem oc_len (l : List UInt8) : (oc l).length = l.length := by simp [oc]
theorem oc_append (a b : List UInt8) : oc (a ++ b) = oc a ++ oc b := by simp [oc]
theorem oc_str (s : ByteArray) : Lib.strCells s = oc s.data.toList := rfl
theorem oc_one (l : List UInt8) : ∀ u ∈ oc l, u.oneCell' = true := by
  intro u hu
  obtain ⟨b, _, rfl⟩ := List.mem_map.1 hu
  rfl

theorem Tryd.info5 : (Tryd.prog.info? 5).map (fun i => (i.zero, i.size, i.bytes)) = some (some (.int .u8 0), 1, 1) := by kernel_rfl

theorem ownBlock_ge {w : World} {base : Nat} {e : TypeId} {size : Nat} {v : Value} {n : Nat} {xs : List Value} (h : w.ownsRow base e size v n xs) {g : Nat} (hg : v.ownBlock = some g) : base ≤ g := by
  rcases h.2 with ⟨rfl, _⟩ | ⟨g', cap, cur, rfl, hb, _⟩
  · simp [Value.ownBlock] at hg
  · obtain rfl : g' = g := by simpa [Value.ownBlock] using hg
    exact hb

/-- what lies in a box of pairs stays -/
def Boxes (w w' : World) : Prop := ∀ (b : Nat) (cs : Array Value) (fz : Nat × Nat), w.heap[b]? = some (.cells cs 42 fz) → w'.heap[b]? = some (.cells cs 42 fz)
theorem Boxes.refl (w : World) : Boxes w w := fun _ _ _ h => h
theorem Boxes.trans {a b c : World} (h : Boxes a b) (k : Boxes b c) : Boxes a c := fun i cs fz e => k i cs fz (h i cs fz e)
theorem Boxes.alloc {a b : World} (h : Boxes a b) (o : Obj) : Boxes a (b.alloc o) := fun i cs fz e => by
  have e' := h i cs fz e
  rw [Below.heap_alloc _ _ _ (Array.getElem?_eq_some_iff.1 e').1]
  exact e'
theorem Boxes.drew {a b : World} (h : Boxes a b) : Boxes a b.drew := h
theorem Boxes.grown {a b c : World} (h : Boxes a b) {base : Nat} {v : Value} {n : Nat} {xs : List Value} (hrow : b.ownsRow base 5 1 v n xs) (hg : b.grownBy c v.ownBlock) : Boxes a c := fun i cs fz e => by
  have e' := h i cs fz e
  rw [hg.block i (Array.getElem?_eq_some_iff.1 e').1 ?_]
  · exact e'
  · intro he
    rcases hrow.2 with ⟨rfl, _⟩ | ⟨g, cap, cur, rfl, _, hh, _⟩
    · simp [Value.ownBlock] at he
    · obtain rfl : i = g := by simpa [Value.ownBlock] using he
      rw [hh] at e'
      simp at e'

theorem wr_snoc (l : List UInt8) (c : UInt8) : Qu.wr (l ++ [c]) = Qu.wr l ++ Qu.wr1 c := by simp [Qu.wr]
theorem take_snoc' (s : ByteArray) (k : Nat) (h : k < s.size) : s.data.toList.take (k + 1) = s.data.toList.take k ++ [s[k]] := by
  rw [List.take_succ_eq_append_getElem (by simpa using h)]; rfl

theorem hex_at (i j : Nat) (hij : i = j) (h : i < (⟨#[48, 49, 50, 51, 52, 53, 54, 55, 56, 57, 65, 66, 67, 68, 69, 70]⟩ : ByteArray).size) :
    (⟨#[48, 49, 50, 51, 52, 53, 54, 55, 56, 57, 65, 66, 67, 68, 69, 70]⟩ : ByteArray)[i].toNat = (Qu.hexd j).toNat := by
  subst hij
  have h16 : i < 16 := h
  have key : ∀ i (h : i < 16), ((⟨#[48, 49, 50, 51, 52, 53, 54, 55, 56, 57, 65, 66, 67, 68, 69, 70]⟩ : ByteArray)[i]'h).toNat = (Qu.hexd i).toNat := by decide
  exact key i h16
theorem ownsRow_drew {w : World} {base : Nat} {e : TypeId} {size : Nat} {v : Value} {n : Nat} {xs : List Value} (h : w.ownsRow base e size v n xs) : w.drew.ownsRow base e size v n xs := h

set_option maxHeartbeats 1600000 in
theorem write_any (base : Nat) (v : Value) (n : Nat) (xs : List UInt8) (s : ByteArray) (w : World) (hrow : w.ownsRow base 5 1 v n (oc xs)) (hbase : base ≤ w.heap.size) (hn : n ≤ 100000) (hs : s.size ≤ 1000) :
    Calls Tryd.prog 22 #[v, .string s] w fun e w' => ∃ v', e = .returned v' ∧ w'.ownsRow base 5 1 v' (n + (Qu.wr s.data.toList).length) (oc (xs ++ Qu.wr s.data.toList)) ∧ Below base w w' ∧ Boxes w w' := by
  obtain ⟨i0, hi, hz0, hz1, hz2⟩ := info_parts Tryd.info5
  have HSL : Hid (s.data.toList.length = s.size) := Array.length_toList
  go_enter Tryd.func22, Tryd.ntmps22
  go_wp2_with fail
  go_loopw [0, 9] (fun o i wr => ∃ (k : Nat), k ≤ s.size ∧ i = .int .i64 k ∧ wr.ownsRow base 5 1 o (n + (Qu.wr (s.data.toList.take k)).length) (oc (xs ++ Qu.wr (s.data.toList.take k))) ∧ Below base w wr ∧ Hid (Boxes w wr)) (fun _ i _ => s.size - (intOf i).toNat)
  case atStart =>
    refine ⟨0, Nat.zero_le _, rfl, ?_, Below.refl _ _, Boxes.refl _⟩
    simpa [Qu.wr] using hrow
  case round =>
    obtain ⟨k, hk, rfl, hr, hB, hX⟩ := hrel
    by_cases hlt : k < s.size
    · have hlt' : (k : Int) < (s.size : Int) := by omega
      have hwl : (Qu.wr (s.data.toList.take k)).length ≤ 3000 := by
        have := Qu.wr_len (s.data.toList.take k)
        have h2 := HSL.out
        simp at this
        omega
      have hts := hide (take_snoc' s k hlt)
      have hbs := hB.size
      generalize hm : (Qu.wr (s.data.toList.take k)).length = m at *
      generalize hc : s[k] = c at *
      have hc8 := c.toNat_lt
      have HROW := hide hr
      have HM := hide hm
      clear hm hr
      have hgo : ∀ (y : List UInt8) (v' : Value) (w1 w2 : World), Hid (y = Qu.wr1 c) → w1.ownsRow base 5 1 u0 (n + m) (oc (xs ++ Qu.wr (s.data.toList.take k))) → Below base w w1 → Boxes w w1 → w1.grownBy w2 u0.ownBlock → w2.ownsRow base 5 1 v' (n + m + y.length) (oc (xs ++ Qu.wr (s.data.toList.take k)) ++ oc y) →
          w2.ownsRow base 5 1 v' (n + (Qu.wr (s.data.toList.take (k + 1))).length) (oc (xs ++ Qu.wr (s.data.toList.take (k + 1)))) ∧ Below base w w2 ∧ Boxes w w2 := by
        intro y v' w1 w2 hy hr1 hB1 hX1 hgrow hown
        refine ⟨?_, hB1.grown hgrow (Nat.le_trans hbase hB1.size) (fun j e => ownBlock_ge hr1 e), hX1.grown hr1 hgrow⟩
        have e1 : Qu.wr (s.data.toList.take (k + 1)) = Qu.wr (s.data.toList.take k) ++ y := by rw [hts.out, wr_snoc, hy.out]
        rw [e1, List.length_append, HM.out, ← List.append_assoc, oc_append (xs ++ Qu.wr (s.data.toList.take k)) y, ← Nat.add_assoc]
        exact hown
      have HGO := hide hgo
      clear hgo
      cases hp : Qu.plainO c
      · by_cases h32 : c = 32
        · have HY : Hid ([43] = Qu.wr1 c) := by unfold Hid Qu.wr1; rw [hp, h32]; rfl
          have HP := hide hp
          clear hp
          have t1 : ((c.toNat : Int) == 32) = true := by rw [h32]; rfl
          clear h32
          go_wp2_with fail
          refine (qplain_any c _).mono ?_
          rintro e w1 ⟨rfl, rfl⟩
          rw [HP.out]
          go_wp2_with (at_builtin; refine wpList_append_own _ rfl _ _ 40 rfl base 5 i0 (.int .u8 0) 1 1 Tryd.underlying40 hi hz0 hz1 hz2 rfl (by decide) _ _ _ rfl (HROW.out.alloc _) ⟨w1.heap.size, 0, none⟩ 1 1 [.int .u8 43] rfl rfl (cell_one_new _ _ _) (by simp [Value.oneCell']) (by unfold maxLen; omega) (by omega) (by simp; omega) ?_; intro v' w2 hown' hgrow _)
          obtain ⟨h1, h2, h3⟩ := HGO.out [43] v' (w1.alloc (.cells #[.int .u8 43] 5)) w2 HY.out (HROW.out.alloc _) (hB.alloc (by omega) _) (hX.out.alloc _) hgrow hown'
          exact ⟨⟨k + 1, by omega, by go_num, h1, h2, h3⟩, by simp [intOf]; omega⟩
        · have HY : Hid ([37, Qu.hexd (c.toNat / 16), Qu.hexd (c.toNat % 16)] = Qu.wr1 c) := by unfold Hid Qu.wr1; rw [hp, if_neg h32]; rfl
          have HP := hide hp
          clear hp
          have t1 : ((c.toNat : Int) == 32) = false := beq_eq_false_iff_ne.2 (fun e => h32 (UInt8.toNat_inj.1 (by show c.toNat = 32; omega)))
          clear h32
          have b1 : (0 : Int) ≤ (c.toNat : Int) / 16 := by omega
          have b2 : (c.toNat : Int) / 16 < 16 := by omega
          have b3 : (0 : Int) ≤ (c.toNat : Int) % 16 := by omega
          have b4 : (c.toNat : Int) % 16 < 16 := by omega
          have b5 : bits .and .u8 (c.toNat : Int) 15 = (c.toNat : Int) % 16 := (u8_and_nat c.toNat 15 hc8 (by decide)).trans (by rw [nat_mask4]; omega)
          go_wp2_with fail
          refine (qplain_any c _).mono ?_
          rintro e w1 ⟨rfl, rfl⟩
          rw [HP.out]
          go_wp2_with fail
          have hrd : w1.drew.ownsRow base 5 1 u0 (n + m) (oc (xs ++ Qu.wr (s.data.toList.take k))) := HROW.out
          go_region_held3 (fun w' => True) (trivial) ((refine step_append_lies _ (by rfl) _ _ 40 (by rfl) base 5 i0 (.int .u8 0) 1 1 Tryd.underlying40 hi hz0 hz1 hz2 (by rfl) (by decide) u0 (n + m) (oc (xs ++ Qu.wr (s.data.toList.take k))) (by rfl) (hrd.alloc _) ⟨w1.heap.size, 0, none⟩ 3 3 _ (by rfl) (by rfl) (World.news_of_block (heap_alloc_new _ _)) (by simp [Value.oneCell']) (by decide) (by unfold maxLen; omega) (by omega) (by simp; omega) (w1.heap.size + 1) (by simp) ?_; intro g' cap' w2 hown' hgrow _ _))
          all_goals
            have e1 := hex_at ((c.toNat : Int) / 16).toNat (c.toNat / 16) (by omega) (by show _ < 16; omega)
            have e2 := hex_at ((c.toNat : Int) % 16).toNat (c.toNat % 16) (by omega) (by show _ < 16; omega)
            rw [e1, e2] at hown' hgrow
            obtain ⟨h1, h2, h3⟩ := HGO.out [37, Qu.hexd (c.toNat / 16), Qu.hexd (c.toNat % 16)] _ _ w2 HY.out (ownsRow_drew (HROW.out.alloc _)) (hB.alloc (by omega) _).drew (hX.out.alloc _).drew hgrow hown'
            clear hown' hgrow
            go_wp2_with fail
            exact ⟨⟨k + 1, by omega, by go_num, h1, h2, h3⟩, by simp [intOf]; omega⟩
      · have HY : Hid ([c] = Qu.wr1 c) := by unfold Hid Qu.wr1; rw [hp]; rfl
        have HP := hide hp
        clear hp
        go_wp2_with fail
        refine (qplain_any c _).mono ?_
        rintro e w1 ⟨rfl, rfl⟩
        rw [HP.out]
        go_wp2_with (at_builtin; refine wpList_append_own _ rfl _ _ 40 rfl base 5 i0 (.int .u8 0) 1 1 Tryd.underlying40 hi hz0 hz1 hz2 rfl (by decide) _ _ _ rfl (HROW.out.alloc _) ⟨w1.heap.size, 0, none⟩ 1 1 [.int .u8 (c.toNat : Int)] rfl rfl (cell_one_new _ _ _) (by simp [Value.oneCell']) (by unfold maxLen; omega) (by omega) (by simp; omega) ?_; intro v' w2 hown' hgrow _)
        obtain ⟨h1, h2, h3⟩ := HGO.out [c] v' (w1.alloc (.cells #[.int .u8 (c.toNat : Int)] 5)) w2 HY.out (HROW.out.alloc _) (hB.alloc (by omega) _) (hX.out.alloc _) hgrow hown'
        exact ⟨⟨k + 1, by omega, by go_num, h1, h2, h3⟩, by simp [intOf]; omega⟩
    · have hlt' : ¬ (k : Int) < (s.size : Int) := by omega
      have HT : Hid (s.data.toList.take k = s.data.toList) := List.take_of_length_le (by rw [HSL.out]; omega)
      rw [HT.out] at hr
      go_wp2_with fail
      go_ret
      exact ⟨_, rfl, hr, hB, hX.out⟩

end Go.Proofs.YtmjjjlanafiilaaDoor
