/-
  Walks of the document's own answers: Text, Parse (of refs); both Parse side by side.
-/
import Derived.Test.YtphinklnbjpohaaGreatDoorJ4
import Derived.Test.YtphinklnbjpohaaGreatDoorPrs
import Derived.Lib.SmallJoins
import Derived.Deep.Slices
namespace Go.Proofs.YtphinklnbjpohaaGreatDoor
set_option maxRecDepth 20000
open Go Go.RowKit Go.Shelf

set_option maxHeartbeats 1600000 in
theorem rtext_any (r : RfB) (w : World) (ok : OkRf r) (h : Ob.mayRef r = true) :
    Calls Tryz.prog 35 #[rfV r] w fun e w' => e = .returned (.string (textB r)) ∧ Below w.heap.size w w' := by
  obtain ⟨hlo, hhi⟩ := Ob.mayRef_kind h
  have hs := ok.space
  have hn := ok.name
  obtain ⟨k, s, n⟩ := r
  dsimp only at *
  obtain ⟨i, rfl⟩ : ∃ i : Nat, k = (i : Int) := ⟨k.toNat, by omega⟩
  have e3 : IntKind.i64.wrap (48 + (i : Int)) = ((48 + i : Nat) : Int) := by rw [IntKind.wrap_i64]; omega
  have e5 : IntKind.u8.wrap (48 + (i : Int)) = 48 + (i : Int) := by
    simp [IntKind.wrap, IntKind.bits, IntKind.signed]
    omega
  have e4 : ((UInt8.ofNat (48 + i)).toNat : Int) = 48 + (i : Int) := by
    have : (UInt8.ofNat (48 + i)).toNat = (48 + i) % 256 := by simp
    omega
  have HT : Hid ((((mkB [UInt8.ofNat (48 + i)] ++ ⟨#[32]⟩) ++ s) ++ ⟨#[47]⟩) ++ n = textB ⟨(i : Int), s, n⟩) := by
    unfold Hid textB
    refine mkB_eq ?_
    rw [app_data, app_data, app_data, app_data, mkB_list]
    simp
  generalize textB ⟨(i : Int), s, n⟩ = tx at *
  generalize UInt8.ofNat (48 + i) = c at *
  obtain ⟨X, hX⟩ : ∃ z, z = w.alloc (.cells #[.int .i64 (i : Int), .string s, .string n] 47) := ⟨_, rfl⟩
  have B1 : Below w.heap.size w X := by rw [hX]; exact (Below.refl _ _).alloc (Nat.le_refl _) _
  have hXs : X.heap.size = w.heap.size + 1 := by rw [hX]; simp
  have hcv : (convert 150 9 (.slice (some ⟨w.heap.size + 1, 0, none⟩) 1 1)).run Tryz.prog ((w.alloc (.cells #[.int .i64 (i : Int), .string s, .string n] 47)).alloc (.cells #[.int .u8 (48 + (i : Int))] 5)) = .ok (.string (mkB [c])) ((w.alloc (.cells #[.int .i64 (i : Int), .string s, .string n] 47)).alloc (.cells #[.int .u8 (48 + (i : Int))] 5)) := by
    rw [← e4, ← hXs, ← hX]
    exact some_bytes X [c] 1
  have hsz : (mkB [c]).size = 1 := rfl
  have HB := hide ((bb2 B1 ((Below.refl _ X).alloc (Nat.le_refl _) (.cells #[.int .u8 (48 + (i : Int))] 5))))
  rw [hX] at HB
  clear e4 hX B1 hXs h hlo ok
  go_enter Tryz.func35, Tryz.ntmps35
  go_wp2_with fail
  go_ret
  exact ⟨ret_str HT.out, HB.out⟩

set_option maxHeartbeats 1600000 in
theorem rparse_no (s : ByteArray) (w : World) (h : s.size < 2 ∨ ∃ h2 : 2 ≤ s.size, ((s[1].toNat : Int) != 32) = true) :
    Calls Tryz.prog 30 #[.string s] w fun e w' => e = .returned (.tuple #[rfV Ob.zR, .bool false]) ∧ Below w.heap.size w w' := by
  obtain ⟨X, hX⟩ : ∃ z, z = w.alloc (.cells pz 47) := ⟨_, rfl⟩
  have B1 : Below w.heap.size w X := by rw [hX]; exact (Below.refl _ _).alloc (Nat.le_refl _) _
  have HB1 := hide B1
  have HBX := hide (Below.refl X.heap.size X)
  clear B1
  have e0 : X.cell? ⟨w.heap.size, 0, none⟩ = some (.int .i64 0) := by rw [hX]; exact cellN (alloc_new w _) (i := 0) rfl
  have e1 : X.cell? ⟨w.heap.size, 1, none⟩ = some (.string ⟨#[]⟩) := by rw [hX]; exact cellN (alloc_new w _) (i := 1) rfl
  have e2 : X.cell? ⟨w.heap.size, 2, none⟩ = some (.string ⟨#[]⟩) := by rw [hX]; exact cellN (alloc_new w _) (i := 2) rfl
  have HE := hide (⟨e0, e1, e2⟩ : _ ∧ _ ∧ _)
  clear e0 e1 e2
  rcases h with h | ⟨h2, h3⟩
  · have h' : (s.size : Int) < 2 := by omega
    go_enter Tryz.func30, Tryz.ntmps30
    go_wp2_with fail
    rw [← hX]
    obtain ⟨e0, e1, e2⟩ := HE.out
    exact bodyPost_ret (v := .tuple #[.agg #[.int .i64 0, .string ⟨#[]⟩, .string ⟨#[]⟩], .bool false]) (by simp [results, Tryz.f30, go_sem, e0, e1, e2]) rfl ⟨rfl, HB1.out⟩
  · have h' : ¬ (s.size : Int) < 2 := by omega
    have h4 : (1 : Int) < (s.size : Int) := by omega
    go_enter Tryz.func30, Tryz.ntmps30
    go_wp2_with fail
    rw [← hX]
    obtain ⟨e0, e1, e2⟩ := HE.out
    exact bodyPost_ret (v := .tuple #[.agg #[.int .i64 0, .string ⟨#[]⟩, .string ⟨#[]⟩], .bool false]) (by simp [results, Tryz.f30, go_sem, e0, e1, e2]) rfl ⟨rfl, HB1.out⟩
set_option maxHeartbeats 3200000 in
theorem rparse_go (s : ByteArray) (x y : ByteArray) (ok : Bool) (w : World) (h2 : 2 ≤ s.size) (hs : s.size ≤ 100) (h32 : s[1] = 32)
    (D : ∀ W, Calls Tryz.prog 87 #[.string (s.extract 2 s.size)] W fun e w' => e = .returned (.tuple #[.string x, .string y, .bool ok]) ∧ Below W.heap.size W w') (hxy : OkRf ⟨(s[0].toNat : Int) - 48, x, y⟩) :
    Calls Tryz.prog 30 #[.string s] w fun e w' => e = .returned (if ok = true ∧ Ob.mayRef ⟨(s[0].toNat : Int) - 48, x, y⟩ = true then .tuple #[rfV ⟨(s[0].toNat : Int) - 48, x, y⟩, .bool true] else .tuple #[rfV Ob.zR, .bool false]) ∧ Below w.heap.size w w' := by
  have HD := fun W => hide (D W)
  have HM := fun W => hide (rmayRef_any ⟨(s[0].toNat : Int) - 48, x, y⟩ W hxy)
  obtain ⟨X, hX⟩ : ∃ z, z = w.alloc (.cells pz 47) := ⟨_, rfl⟩
  have B1 : Below w.heap.size w X := by rw [hX]; exact (Below.refl _ _).alloc (Nat.le_refl _) _
  have K0 : Hid (X.heap[w.heap.size]? = some (.cells pz 47)) := by unfold Hid; rw [hX]; exact alloc_new _ _
  have HB1 := hide B1
  have hv : wrap64 (wrap64 (s[0].toNat : Int) - 48) = (s[0].toNat : Int) - 48 := by
    have := s[0].toNat_lt
    unfold wrap64
    omega
  have HV := hide hv
  have h' : ¬ (s.size : Int) < 2 := by omega
  have h4 : (1 : Int) < (s.size : Int) := by omega
  have h5 : (0 : Int) < (s.size : Int) := by omega
  have h6 : (2 : Int) ≤ (s.size : Int) := by omega
  clear hv D B1 hxy
  cases ok
  · rw [if_neg (fun h => by cases h.1)]
    go_enter Tryz.func30, Tryz.ntmps30
    go_wp2_with fail
    rw [← hX]
    clear hX
    refine (HD _).out.mono ?_
    rintro e w1 ⟨rfl, hb1⟩
    have HBX := hide (bb2 hb1 ((Below.refl _ w1).alloc (Nat.le_refl _) (.cells #[.int .i64 (wrap64 (wrap64 (s[0].toNat : Int) - 48)), .string x, .string y] 47)))
    clear hb1 HD HM
    have HZ := hide (blk_below K0.out HBX.out)
    have BB := hide (bb2 HB1.out HBX.out)
    have lz := liveN HZ.out
    obtain ⟨z0, z1, z2⟩ : _ ∧ _ ∧ _ := ⟨cellN HZ.out (i := 0) rfl, cellN HZ.out (i := 1) rfl, cellN HZ.out (i := 2) rfl⟩
    go_wp2_with fail
    have S1 := setL_below (w := w) (B := w.heap.size) (g := w.heap.size) (Nat.le_refl _) [.int .i64 0, .string ⟨#[]⟩, .string ⟨#[]⟩] _ 0 BB.out
    have K4 := setL_all [.int .i64 0, .string ⟨#[]⟩, .string ⟨#[]⟩] HZ.out rfl
    change bodyPost _ _ _ _ _ (setL (w1.alloc (.cells #[.int .i64 (wrap64 (wrap64 (s[0].toNat : Int) - 48)), .string x, .string y] 47)) w.heap.size 0 [.int .i64 0, .string ⟨#[]⟩, .string ⟨#[]⟩])
    generalize setL (w1.alloc (.cells #[.int .i64 (wrap64 (wrap64 (s[0].toNat : Int) - 48)), .string x, .string y] 47)) w.heap.size 0 [.int .i64 0, .string ⟨#[]⟩, .string ⟨#[]⟩] = W9 at *
    obtain ⟨e0, e1, e2⟩ : _ ∧ _ ∧ _ := ⟨cellN K4 (i := 0) rfl, cellN K4 (i := 1) rfl, cellN K4 (i := 2) rfl⟩
    exact bodyPost_ret (v := .tuple #[.agg #[.int .i64 0, .string ⟨#[]⟩, .string ⟨#[]⟩], .bool false]) (by simp [results, Tryz.f30, go_sem, e0, e1, e2]) rfl ⟨rfl, S1⟩
  · cases hm : Ob.mayRef ⟨(s[0].toNat : Int) - 48, x, y⟩
    · rw [if_neg (fun h => by cases h.2)]
      rw [hm] at HM
      clear hm
      go_enter Tryz.func30, Tryz.ntmps30
      go_wp2_with fail
      rw [← hX]
      clear hX
      refine (HD _).out.mono ?_
      rintro e w1 ⟨rfl, hb1⟩
      go_wp2_with fail
      rw [HV.out]
      refine (HM _).out.mono ?_
      rintro e w3 ⟨rfl, hb3⟩
      have HBX := hide (bb2 hb1 (below_box hb3))
      clear hb1 hb3 HD HM
      have HZ := hide (blk_below K0.out HBX.out)
      have BB := hide (bb2 HB1.out HBX.out)
      have lz := liveN HZ.out
      obtain ⟨z0, z1, z2⟩ : _ ∧ _ ∧ _ := ⟨cellN HZ.out (i := 0) rfl, cellN HZ.out (i := 1) rfl, cellN HZ.out (i := 2) rfl⟩
      go_wp2_with fail
      have S1 := setL_below (w := w) (B := w.heap.size) (g := w.heap.size) (Nat.le_refl _) [.int .i64 0, .string ⟨#[]⟩, .string ⟨#[]⟩] _ 0 BB.out
      have K4 := setL_all [.int .i64 0, .string ⟨#[]⟩, .string ⟨#[]⟩] HZ.out rfl
      change bodyPost _ _ _ _ _ (setL w3 w.heap.size 0 [.int .i64 0, .string ⟨#[]⟩, .string ⟨#[]⟩])
      generalize setL w3 w.heap.size 0 [.int .i64 0, .string ⟨#[]⟩, .string ⟨#[]⟩] = W9 at *
      obtain ⟨e0, e1, e2⟩ : _ ∧ _ ∧ _ := ⟨cellN K4 (i := 0) rfl, cellN K4 (i := 1) rfl, cellN K4 (i := 2) rfl⟩
      exact bodyPost_ret (v := .tuple #[.agg #[.int .i64 0, .string ⟨#[]⟩, .string ⟨#[]⟩], .bool false]) (by simp [results, Tryz.f30, go_sem, e0, e1, e2]) rfl ⟨rfl, S1⟩
    · rw [if_pos ⟨rfl, rfl⟩]
      rw [hm] at HM
      clear hm
      go_enter Tryz.func30, Tryz.ntmps30
      go_wp2_with fail
      rw [← hX]
      clear hX
      refine (HD _).out.mono ?_
      rintro e w1 ⟨rfl, hb1⟩
      have HR := hide (fun W (h : Below (w1.alloc (.cells #[.int .i64 ((s[0].toNat : Int) - 48), .string x, .string y] 47)).heap.size (w1.alloc (.cells #[.int .i64 ((s[0].toNat : Int) - 48), .string x, .string y] 47)) W) => (blk_below (alloc_new w1 (.cells #[.int .i64 ((s[0].toNat : Int) - 48), .string x, .string y] 47)) h |> fun k => (⟨cellN k (i := 0) rfl, cellN k (i := 1) rfl, cellN k (i := 2) rfl⟩ : W.cell? ⟨w1.heap.size, 0, none⟩ = some (.int .i64 ((s[0].toNat : Int) - 48)) ∧ W.cell? ⟨w1.heap.size, 1, none⟩ = some (.string x) ∧ W.cell? ⟨w1.heap.size, 2, none⟩ = some (.string y))))
      go_wp2_with fail
      rw [HV.out]
      refine (HM _).out.mono ?_
      rintro e w3 ⟨rfl, hb3⟩
      have HBX := hide (bb2 hb1 (below_box hb3))
      obtain ⟨y0, y1, y2⟩ := HR.out w3 hb3
      clear hb1 hb3 HD HM HR
      have HZ := hide (blk_below K0.out HBX.out)
      have BB := hide (bb2 HB1.out HBX.out)
      have lz := liveN HZ.out
      obtain ⟨z0, z1, z2⟩ : _ ∧ _ ∧ _ := ⟨cellN HZ.out (i := 0) rfl, cellN HZ.out (i := 1) rfl, cellN HZ.out (i := 2) rfl⟩
      go_wp2_with fail
      have S1 := setL_below (w := w) (B := w.heap.size) (g := w.heap.size) (Nat.le_refl _) [.int .i64 ((s[0].toNat : Int) - 48), .string x, .string y] _ 0 BB.out
      have K4 := setL_all [.int .i64 ((s[0].toNat : Int) - 48), .string x, .string y] HZ.out rfl
      change bodyPost _ _ _ _ _ (setL w3 w.heap.size 0 [.int .i64 ((s[0].toNat : Int) - 48), .string x, .string y])
      generalize setL w3 w.heap.size 0 [.int .i64 ((s[0].toNat : Int) - 48), .string x, .string y] = W9 at *
      obtain ⟨e0, e1, e2⟩ : _ ∧ _ ∧ _ := ⟨cellN K4 (i := 0) rfl, cellN K4 (i := 1) rfl, cellN K4 (i := 2) rfl⟩
      exact bodyPost_ret (v := .tuple #[.agg #[.int .i64 ((s[0].toNat : Int) - 48), .string x, .string y], .bool true]) (by simp [results, Tryz.f30, go_sem, e0, e1, e2]) rfl ⟨rfl, S1⟩

end Go.Proofs.YtphinklnbjpohaaGreatDoor
namespace Go.Proofs.YtphinklnbjpohaaGreatDoor
set_option maxRecDepth 20000
open Go Go.RowKit Go.Shelf Go.ChangeShapes Go.WideShapes Go.Deep

theorem Tryz.cellsR3 : Tryz.prog.cellsOf 3 = 1 := by kernel_rfl
theorem Tryz.cellsR9 : Tryz.prog.cellsOf 9 = 1 := by kernel_rfl
theorem array3 {α : Type} {cs : Array α} (h : cs.size = 3) : ∃ c0 c1 c2, cs = #[c0, c1, c2] := by
  obtain ⟨l⟩ := cs
  match l, h with
  | [c0, c1, c2], _ => exact ⟨c0, c1, c2, rfl⟩
theorem ref_trod {H : Type} {enc : TypeId × Value → H} {W : World} {fuel : Nat} {c0 c1 c2 : Value} {y : DataW H × List MemPlace} (h : DataW.trod enc Tryz.prog W 0 (fun _ => true) true fuel 47 [c0, c1, c2] = some y) :
    ∃ r : RfB, c0 = .int .i64 r.kind ∧ c1 = .string r.space ∧ c2 = .string r.name ∧ RawRf r := by
  obtain ⟨xs, n, hn, _, _, hxl, hp⟩ := DataW.trod_struct Tryz.underlying47 h
  match xs, hxl with
  | [y0, y1, y2], _ =>
    have h0 := hp 0 _ rfl
    have h1 := hp 1 _ rfl
    have h2 := hp 2 _ rfl
    simp [Tryz.cellsR3, Tryz.cellsR9] at h0 h1 h2
    obtain ⟨k, e0, _, _⟩ := DataW.trod_int Tryz.underlying3 h0
    obtain ⟨s1, e1, _, z1⟩ := DataW.trod_string Tryz.underlying9 h1
    obtain ⟨s2, e2, _, z2⟩ := DataW.trod_string Tryz.underlying9 h2
    simp only [List.cons.injEq, and_true] at e0 e1 e2
    subst e0 e1 e2
    exact ⟨⟨k, s1, s2⟩, rfl, rfl, rfl, ⟨z1, z2⟩⟩
/-- a ref that came in -/
def ArgRf (_ : World) (v : Value) : Prop := ∃ r : RfB, v = rfV r ∧ RawRf r
theorem argRf_open {H : Type} {enc : TypeId × Value → H} {W : World} {base : Nat} {v : Value} {d : DataW H} {ps : List MemPlace} (hval : Value.okWide Tryz.prog W .any base 47 v)
    (h : DataW.Trod enc Tryz.prog W 0 (fun _ => true) true 47 v d ps) : ArgRf W v := by
  obtain ⟨cs, rfl, hsz⟩ := okWide_struct Tryz.underlying47 hval
  obtain ⟨c0, c1, c2, rfl⟩ := array3 (hsz.trans (by kernel_rfl))
  obtain ⟨fuel, hf⟩ := h
  obtain ⟨r, rfl, rfl, rfl, hr⟩ := ref_trod hf
  exact ⟨r, rfl, hr⟩

end Go.Proofs.YtphinklnbjpohaaGreatDoor
namespace Go.Proofs.YtphinklnbjpohaaGreatDoor
set_option maxRecDepth 20000
open Go Go.RowKit Go.Shelf
attribute [local go_sem] gb_const

theorem at_list (s : ByteArray) (i : Nat) (h : i < s.size) : s[i] = s.data.toList[i]'(by rw [Array.length_toList]; exact h) := rfl
theorem idx_one {l : List UInt8} : Lib.indexByte l 32 = 1 ↔ ∃ a t, l = a :: 32 :: t ∧ a ≠ 32 := by
  constructor
  · intro h
    rcases idx_cases 32 l with ⟨h1, _⟩ | ⟨i, hi, h1, h2, h3⟩
    · omega
    · have : i = 1 := by omega
      subst this
      match l, hi, h2, h3 with
      | a :: b :: t, _, h2, h3 =>
        simp at h2
        exact ⟨a, t, by rw [h2], by simpa using h3⟩
  · rintro ⟨a, t, rfl, ha⟩
    have := index_at (c := 32) (l := [a]) (r := t) (fun x hx => by rw [List.mem_singleton] at hx; rw [hx]; exact ha)
    simpa using this
theorem cut_both2 (s : ByteArray) (hs : s.size ≤ 100) : ∃ (x y : ByteArray) (err : Int) (ok : Bool),
    (∀ w, Calls Tryz.prog 86 #[.string s] w fun e w' => e = .returned (.tuple #[.string x, .string y, .int .i64 err]) ∧ Below w.heap.size w w') ∧
    (∀ w, Calls Tryz.prog 87 #[.string s] w fun e w' => e = .returned (.tuple #[.string x, .string y, .bool ok]) ∧ Below w.heap.size w w') ∧
    (err = 0 ∧ ok = true ∨ err = 2 ∧ ok = false) ∧ x.size ≤ 100 ∧ y.size ≤ 100 := by
  have ls : s.size ≤ maxLen := small_len (by omega)
  have z : (⟨#[]⟩ : ByteArray).size ≤ 100 := by decide
  rcases idx_cases 47 s.data.toList with ⟨hi, hno⟩ | ⟨i, hil, hi, hcut, hno⟩
  · exact ⟨⟨#[]⟩, ⟨#[]⟩, 2, false, fun w => dcut_none s w hi, fun w => rcut_len s w hs (by rw [parts_none hno]; simp), .inr ⟨rfl, rfl⟩, z, z⟩
  · have hil' : i < s.size := by simpa using hil
    have hps := parts_some hcut hno
    have l1 : (s.extract 0 i).size ≤ 100 := by rw [ByteArray.size_extract]; omega
    have l2 : (s.extract (i + 1) s.size).size ≤ 100 := by rw [ByteArray.size_extract]; omega
    cases h : (D.maySp (s.extract 0 i).data.toList && D.isName (s.extract (i + 1) s.size).data.toList)
    · refine ⟨⟨#[]⟩, ⟨#[]⟩, 2, false, fun w => dcut_no s i w ls hil' hi h, fun w => ?_, .inr ⟨rfl, rfl⟩, z, z⟩
      by_cases h2 : (parts 47 s).length = 2
      · have h1 : (parts 47 (s.extract (i + 1) s.size)).length = 1 := by rw [hps] at h2; simpa using h2
        rw [parts_one h1] at hps
        exact rcut_no s _ _ w hs hps l1 l2 h
      · exact rcut_len s w hs h2
    · rw [Bool.and_eq_true] at h
      rw [parts_none (name_octets h.2)] at hps
      exact ⟨_, _, 0, true, fun w => dcut_yes s i w ls hil' hi h.1 h.2, fun w => rcut_yes s _ _ w hs hps l1 l2 h.1 h.2, .inl ⟨rfl, rfl⟩, l1, l2⟩
/-- no blank stands second, behind what is none -/
theorem parse_none (s : ByteArray) (hs : s.size ≤ 100) (h : Lib.indexByte s.data.toList 32 ≠ 1) (w : World) :
    Calls Tryz.prog 29 #[.string s] w fun e w' => e = .returned (.tuple #[rfV Ob.zR, .int .i64 2]) ∧ Below w.heap.size w w' := by
  rcases idx_cases 32 s.data.toList with ⟨hi, _⟩ | ⟨i, hil, hi, _, _⟩
  · exact parse_fall s s ⟨#[]⟩ false w (fun W => cut_none s 32 W hi) (.inl rfl)
  · have hil' : i < s.size := by simpa using hil
    refine parse_fall s _ _ true w (fun W => cut_some s 32 i W (sm hs) hil' hi) (.inr ⟨rfl, ?_⟩)
    rw [bne_iff_ne, ByteArray.size_extract]
    omega
theorem head_one (s : ByteArray) (h : 1 ≤ s.size) : s.extract 0 1 = ⟨#[s[0]]⟩ := by
  apply bytes_ext
  rw [Lib.extract_data]
  match hl : s.data.toList with
  | [] =>
    have : s.data.toList.length = 0 := by rw [hl]; rfl
    rw [Array.length_toList] at this
    exact absurd this (by show s.size ≠ 0; omega)
  | a :: t =>
    have : s[0] = a := by rw [at_list s 0 h]; simp [hl]
    rw [this]
    simp
/-- what both Parse say -/
theorem parse_both (s : ByteArray) (hs : s.size ≤ 100) : ∃ (r : RfB) (err : Int) (ok : Bool),
    (∀ w, Calls Tryz.prog 29 #[.string s] w fun e w' => e = .returned (.tuple #[rfV r, .int .i64 err]) ∧ Below w.heap.size w w') ∧
    (∀ w, Calls Tryz.prog 30 #[.string s] w fun e w' => e = .returned (.tuple #[rfV r, .bool ok]) ∧ Below w.heap.size w w') ∧
    (err = 0 ∧ ok = true ∨ err = 2 ∧ ok = false) := by
  by_cases h2 : 2 ≤ s.size
  · have hl : ∃ a b t, s.data.toList = a :: b :: t := by
      have : 2 ≤ s.data.toList.length := by rw [Array.length_toList]; exact h2
      match s.data.toList, this with
      | a :: b :: t, _ => exact ⟨a, b, t, rfl⟩
    obtain ⟨a, b, t, hl⟩ := hl
    have ha : s[0] = a := by rw [at_list s 0 (by omega)]; simp [hl]
    have hb : s[1] = b := by rw [at_list s 1 (by omega)]; simp [hl]
    by_cases h32 : b = 32
    · subst h32
      obtain ⟨x, y, err, ok, f1, f2, hko, zx, zy⟩ := cut_both2 (s.extract 2 s.size) (by rw [ByteArray.size_extract]; omega)
      have hrg := fun w => rparse_go s x y ok w h2 hs hb f2 ⟨zx, zy⟩
      by_cases h0 : a = 32
      · refine ⟨Ob.zR, 2, false, fun w => parse_none s hs (fun hi => ?_) w, fun w => ?_, .inr ⟨rfl, rfl⟩⟩
        · obtain ⟨a', t', e, hn⟩ := idx_one.1 hi
          rw [hl] at e
          injection e with e1 _
          exact hn (e1 ▸ h0)
        · have hm : Ob.mayRef ⟨(s[0].toNat : Int) - 48, x, y⟩ = false := by
            cases hq : Ob.mayRef ⟨(s[0].toNat : Int) - 48, x, y⟩
            · rfl
            · have := (Ob.mayRef_kind hq).1
              rw [ha, h0] at this
              have e : ((32 : UInt8).toNat : Int) = 32 := rfl
              dsimp only at this
              omega
          have := hrg w
          rw [if_neg (fun h => by rw [hm] at h; cases h.2)] at this
          exact this
      · have hi : Lib.indexByte s.data.toList 32 = ((1 : Nat) : Int) := idx_one.2 ⟨a, t, hl, h0⟩
        have hc := fun W => cut_some s 32 1 W (sm hs) (by omega) hi
        rw [head_one s (by omega)] at hc
        have hpg := fun w => parse_go s (s.extract (1 + 1) s.size) s[0] x y err w hc f1 ⟨zx, zy⟩ (hko.elim (fun h => .inl h.1) (fun h => .inr h.1))
        rcases hko with ⟨rfl, rfl⟩ | ⟨rfl, rfl⟩
        · cases hm : Ob.mayRef ⟨(s[0].toNat : Int) - 48, x, y⟩
          · rw [hm] at hpg hrg
            exact ⟨Ob.zR, 2, false, fun w => by have := hpg w; rwa [if_neg (fun h => by cases h.2)] at this, fun w => by have := hrg w; rwa [if_neg (fun h => by cases h.2)] at this, .inr ⟨rfl, rfl⟩⟩
          · rw [hm] at hpg hrg
            exact ⟨⟨(s[0].toNat : Int) - 48, x, y⟩, 0, true, fun w => by have := hpg w; rwa [if_pos ⟨rfl, rfl⟩] at this, fun w => by have := hrg w; rwa [if_pos ⟨rfl, rfl⟩] at this, .inl ⟨rfl, rfl⟩⟩
        · exact ⟨Ob.zR, 2, false, fun w => by have := hpg w; rwa [if_neg (fun h => by cases h.1)] at this, fun w => by have := hrg w; rwa [if_neg (fun h => by cases h.1)] at this, .inr ⟨rfl, rfl⟩⟩
    · refine ⟨Ob.zR, 2, false, fun w => parse_none s hs (fun hi => ?_) w, fun w => rparse_no s w (.inr ⟨h2, ?_⟩), .inr ⟨rfl, rfl⟩⟩
      · obtain ⟨a', t', e, _⟩ := idx_one.1 hi
        rw [hl] at e
        injection e with _ e2
        injection e2 with e2 _
        exact h32 e2
      · rw [bne_iff_ne, hb]
        intro e
        exact h32 (UInt8.toNat_inj.1 (by have : (32 : UInt8).toNat = 32 := rfl; omega))
  · refine ⟨Ob.zR, 2, false, fun w => parse_none s hs (fun hi => ?_) w, fun w => rparse_no s w (.inl (by omega)), .inr ⟨rfl, rfl⟩⟩
    obtain ⟨a', t', e, _⟩ := idx_one.1 hi
    have : s.data.toList.length = s.size := by rw [Array.length_toList]; rfl
    rw [e] at this
    simp at this
    omega
/-- what is written is read as it was -/
theorem parse_text (r : RfB) (ok : OkRf r) (h : Ob.mayRef r = true) (w : World) :
    Calls Tryz.prog 29 #[.string (textB r)] w fun e w' => e = .returned (.tuple #[rfV r, .int .i64 0]) ∧ Below w.heap.size w w' := by
  obtain ⟨hlo, hhi⟩ := Ob.mayRef_kind h
  obtain ⟨hk1, hk2⟩ := mayRef_key h
  have e4 : ((UInt8.ofNat (48 + r.kind.toNat)).toNat : Int) = 48 + r.kind := by
    have : (UInt8.ofNat (48 + r.kind.toNat)).toNat = (48 + r.kind.toNat) % 256 := by simp
    omega
  have hl : (textB r).data.toList = UInt8.ofNat (48 + r.kind.toNat) :: 32 :: (r.space.data.toList ++ 47 :: r.name.data.toList) := mkB_list _
  have hne : UInt8.ofNat (48 + r.kind.toNat) ≠ 32 := fun e => by
    rw [e] at e4
    have : ((32 : UInt8).toNat : Int) = 32 := rfl
    omega
  have hi : Lib.indexByte (textB r).data.toList 32 = ((1 : Nat) : Int) := idx_one.2 ⟨_, _, hl, hne⟩
  have hsz : (textB r).size = r.space.size + r.name.size + 3 := by
    have : (textB r).data.toList.length = (textB r).size := by rw [Array.length_toList]; rfl
    rw [← this, hl]
    have e1 : r.space.data.toList.length = r.space.size := by rw [Array.length_toList]; rfl
    have e2 : r.name.data.toList.length = r.name.size := by rw [Array.length_toList]; rfl
    simp only [List.length_cons, List.length_append, e1, e2]
    omega
  have o1 := ok.space
  have o2 := ok.name
  have hc := fun W => cut_some (textB r) 32 1 W (by unfold maxLen; omega) (by omega) hi
  have h0 : (textB r)[0]'(by omega) = UInt8.ofNat (48 + r.kind.toNat) := by rw [at_list (textB r) 0 (by omega)]; simp [hl]
  rw [head_one (textB r) (by omega), h0] at hc
  have hb : (textB r).extract (1 + 1) (textB r).size = r.space ++ ⟨#[47]⟩ ++ r.name := by
    apply bytes_ext
    rw [Lib.extract_to_end, key_data, hl]
    rfl
  rw [hb] at hc
  have ek : ((UInt8.ofNat (48 + r.kind.toNat)).toNat : Int) - 48 = r.kind := by omega
  have := parse_go (textB r) (r.space ++ ⟨#[47]⟩ ++ r.name) (UInt8.ofNat (48 + r.kind.toNat)) r.space r.name 0 w hc (fun W => dcut_key r.space r.name _ W rfl hk1 hk2) (by rw [ek]; exact ok) (.inl rfl)
  rw [ek] at this
  rw [if_pos ⟨rfl, h⟩] at this
  exact this

/-- two boxes of refs -/
structure Bx2 (w W : World) (a b : RfB) : Prop where
  below : Below w.heap.size w W
  a : W.heap[w.heap.size]? = some (.cells #[.int .i64 a.kind, .string a.space, .string a.name] 47)
  b : W.heap[w.heap.size + 1]? = some (.cells #[.int .i64 b.kind, .string b.space, .string b.name] 47)
theorem Bx2.grow {w W W2 : World} {a b : RfB} (h : Bx2 w W a b) (hb : Below W.heap.size W W2) : Bx2 w W2 a b := ⟨bb2 h.below hb, blk_below h.a hb, blk_below h.b hb⟩
theorem Bx2.cells {w W : World} {a b : RfB} (h : Bx2 w W a b) : W.cell? ⟨w.heap.size, 0, none⟩ = some (.int .i64 a.kind) ∧ W.cell? ⟨w.heap.size, 1, none⟩ = some (.string a.space) ∧ W.cell? ⟨w.heap.size, 2, none⟩ = some (.string a.name) ∧ W.cell? ⟨w.heap.size + 1, 0, none⟩ = some (.int .i64 b.kind) ∧ W.cell? ⟨w.heap.size + 1, 1, none⟩ = some (.string b.space) ∧ W.cell? ⟨w.heap.size + 1, 2, none⟩ = some (.string b.name) :=
  ⟨cellN h.a (i := 0) rfl, cellN h.a (i := 1) rfl, cellN h.a (i := 2) rfl, cellN h.b (i := 0) rfl, cellN h.b (i := 1) rfl, cellN h.b (i := 2) rfl⟩
set_option maxHeartbeats 12800000 in
theorem texts_law (va vb : Value) (s : ByteArray) (w : World) (hva : ArgRf w va) (hvb : ArgRf w vb) (hs : s.size ≤ maxLen) :
    Calls Tryz.prog 6 #[va, vb, .string s] w fun e w' => e = .returned (.bool true) ∧ Below w.heap.size w w' := by
  obtain ⟨a0, rfl, ra⟩ := hva
  obtain ⟨b0, rfl, rb⟩ := hvb
  have CA := fun W => hide (fewRef_any a0 W ra)
  have CB := fun W => hide (fewRef_any b0 W rb)
  have CS := fun W => hide (fewB_any s W hs)
  have oka := fewRf_ok a0
  have okb := fewRf_ok b0
  have oks := fewB_le s
  obtain ⟨r, err, is, p1, p2, hko⟩ := parse_both (fewB s) oks
  have P1 := fun W => hide (p1 W)
  have P2 := fun W => hide (p2 W)
  clear p1 p2 ra rb hs oks
  obtain ⟨X, hX⟩ : ∃ z, z = (w.alloc (.cells #[.int .i64 a0.kind, .string a0.space, .string a0.name] 47)).alloc (.cells #[.int .i64 b0.kind, .string b0.space, .string b0.name] 47) := ⟨_, rfl⟩
  have BX : Bx2 w X a0 b0 := by
    rw [hX]
    exact ⟨((Below.refl _ _).alloc (Nat.le_refl _) _).alloc (by simp) _, blk_below (alloc_new w _) ((Below.refl _ _).alloc (Nat.le_refl _) _), heap_new _ (by simp)⟩
  have HX := hide BX
  have c0 := fun W (h : Below X.heap.size X W) => (BX.grow h).cells.1
  have c1 := fun W (h : Below X.heap.size X W) => (BX.grow h).cells.2.1
  have c2 := fun W (h : Below X.heap.size X W) => (BX.grow h).cells.2.2.1
  have c3 := fun W (h : Below X.heap.size X W) => (BX.grow h).cells.2.2.2.1
  have c4 := fun W (h : Below X.heap.size X W) => (BX.grow h).cells.2.2.2.2.1
  have c5 := fun W (h : Below X.heap.size X W) => (BX.grow h).cells.2.2.2.2.2
  clear BX
  generalize hfa : fewRf a0 = a at *
  generalize hfb : fewRf b0 = b at *
  generalize fewB s = t at *
  clear hfa hfb
  obtain ⟨k0, s0, n0⟩ := a0
  obtain ⟨k1, s1, n1⟩ := b0
  dsimp only at *
  go_enter Tryz.func6, Tryz.ntmps6
  go_wp2_with fail
  rw [← hX]
  clear hX
  refine wp_region_G 6 (fun W => Below X.heap.size X W) (by kernel_rfl) ((Below.refl _ _).drew) ?_
  refine wpG_take (i := 0) 5 (v := .agg #[.int .i64 k0, .string s0, .string n0]) rfl (by kernel_rfl) (by kernel_rfl) (by kernel_rfl) (by decide) (by kernel_rfl) (by kernel_rfl) (fun _ _ _ h => h) (Or.inl ⟨by rfl, fun w1 hS => ?_⟩) ?_
  · (try dsimp only at hS)
    go_simp
  simp only [Act.put, List.setIfInBounds_toArray, List.set_cons_zero, List.set_cons_succ]
  refine wpG_take (i := 2) 5 (v := .agg #[.int .i64 k1, .string s1, .string n1]) rfl (by kernel_rfl) (by kernel_rfl) (by kernel_rfl) (by decide) (by kernel_rfl) (by kernel_rfl) (fun _ _ _ h => h) (Or.inl ⟨by rfl, fun w1 hS => ?_⟩) ?_
  · (try dsimp only at hS)
    go_simp
  simp only [Act.put, List.setIfInBounds_toArray, List.set_cons_zero, List.set_cons_succ]
  refine wpG_take (i := 4) 5 (v := .string s) rfl (by kernel_rfl) (by kernel_rfl) (by kernel_rfl) (by decide) (by kernel_rfl) (by kernel_rfl) (fun _ _ _ h => h) (Or.inl ⟨by rfl, fun w1 hS => ?_⟩) ?_
  · (try dsimp only at hS)
    go_simp
  simp only [Act.put, List.setIfInBounds_toArray, List.set_cons_zero, List.set_cons_succ]
  clear c0 c1 c2 c3 c4 c5
  refine wpG_take (i := 1) 5 (v := rfV a) rfl (by kernel_rfl) (by kernel_rfl) (by kernel_rfl) (by decide) (by kernel_rfl) (by kernel_rfl) (fun _ _ _ h => h) (Or.inl ⟨by rfl, fun w1 hS => ?_⟩) ?_
  · (try dsimp only at hS)
    go_simp
    exact calls_grow hS (Nat.le_refl _) (CA _).out
  simp only [Act.put, List.setIfInBounds_toArray, List.set_cons_zero, List.set_cons_succ]
  refine wpG_take (i := 3) 5 (v := rfV b) rfl (by kernel_rfl) (by kernel_rfl) (by kernel_rfl) (by decide) (by kernel_rfl) (by kernel_rfl) (fun _ _ _ h => h) (Or.inl ⟨by rfl, fun w1 hS => ?_⟩) ?_
  · (try dsimp only at hS)
    go_simp
    exact calls_grow hS (Nat.le_refl _) (CB _).out
  simp only [Act.put, List.setIfInBounds_toArray, List.set_cons_zero, List.set_cons_succ]
  refine wpG_take (i := 5) 5 (v := .string t) rfl (by kernel_rfl) (by kernel_rfl) (by kernel_rfl) (by decide) (by kernel_rfl) (by kernel_rfl) (fun _ _ _ h => h) (Or.inl ⟨by rfl, fun w1 hS => ?_⟩) ?_
  · (try dsimp only at hS)
    go_simp
    exact calls_grow_same hS (CS _).out
  simp only [Act.put, List.setIfInBounds_toArray, List.set_cons_zero, List.set_cons_succ]
  obtain ⟨ka, sa, na⟩ := a
  obtain ⟨kb, sb, nb⟩ := b
  refine wpG_ready (rs := [6]) (by kernel_rfl) (by simp) (fun W hG hS i hi => ?_)
  obtain rfl : i = 6 := by simpa using hi
  clear hi hG
  have BW := HX.out.grow hS
  have HBB := hide BW
  obtain ⟨z0, z1, z2, _, _, _⟩ := BW.cells
  have lz := liveN BW.a
  refine wpOp_step rfl (by rfl) (fun K' hK' => ?_)
  go_simp
  refine hK' _ _ (wpG_past (by decide) ?_)
  clear hK' K' z0 z1 z2 lz hS BW
  have kb1 : (setL W w.heap.size 0 [.int .i64 ka, .string sa, .string na]).heap[w.heap.size + 1]? = some (.cells #[.int .i64 k1, .string s1, .string n1] 47) := by
    rw [setL_far (by omega)]
    exact HBB.out.b
  change (((W.setCell ⟨w.heap.size, 0, none⟩ (.int .i64 ka)).setCell ⟨w.heap.size, 1, none⟩ (.string sa)).setCell ⟨w.heap.size, 2, none⟩ (.string na)).heap[_]? = _ at kb1
  have HK1 := hide kb1
  obtain ⟨z3, z4, z5⟩ : _ ∧ _ ∧ _ := ⟨cellN kb1 (i := 0) rfl, cellN kb1 (i := 1) rfl, cellN kb1 (i := 2) rfl⟩
  have lz := liveN kb1
  clear kb1
  refine wpAny_one (i := 7) (by kernel_rfl) ?_
  refine wpOp_step rfl (by rfl) (fun K' hK' => ?_)
  go_simp
  refine hK' _ _ ?_
  clear hK' K' z3 z4 z5 lz
  refine wpAny_one (i := 8) (by kernel_rfl) ?_
  refine wpOp_step rfl (by rfl) (fun K' hK' => ?_)
  go_simp
  refine hK' _ _ ?_
  clear hK' K'
  refine wpAny_end (by kernel_rfl) ?_
  have BX2 : Bx2 w (setL (setL W w.heap.size 0 [.int .i64 ka, .string sa, .string na]) (w.heap.size + 1) 0 [.int .i64 kb, .string sb, .string nb]) ⟨ka, sa, na⟩ ⟨kb, sb, nb⟩ := by
    refine ⟨setL_below (Nat.le_succ _) _ _ _ (setL_below (Nat.le_refl _) _ _ _ HBB.out.below), ?_, setL_all _ HK1.out rfl⟩
    rw [setL_far (by omega)]
    exact setL_all _ HBB.out.a rfl
  have HX2 := hide BX2
  clear BX2 HK1 HBB HX
  change Exit.then _ _ _ _ (setL (setL W w.heap.size 0 [.int .i64 ka, .string sa, .string na]) (w.heap.size + 1) 0 [.int .i64 kb, .string sb, .string nb])
  generalize setL (setL W w.heap.size 0 [.int .i64 ka, .string sa, .string na]) (w.heap.size + 1) 0 [.int .i64 kb, .string sb, .string nb] = W2 at *
  have HM1 := fun V => hide (mayRef_any ⟨ka, sa, na⟩ V oka)
  have HM2 := fun V => hide (rmayRef_any ⟨ka, sa, na⟩ V oka)
  have HO1 := fun V => hide (oorder_any ⟨ka, sa, na⟩ ⟨kb, sb, nb⟩ V)
  have HO2 := fun V => hide (dorder_any ⟨ka, sa, na⟩ ⟨kb, sb, nb⟩ V)
  have HAW := fun V => hide (oawake_any V)
  have EQ1 := fun V => eqRun r r V
  rw [Ob.eqR_iff.2 rfl] at EQ1
  obtain ⟨rk, rs, rn⟩ := r
  cases hm : Ob.mayRef ⟨ka, sa, na⟩
  · have HT := fun V => hide (text_no ⟨ka, sa, na⟩ V oka hm)
    rw [hm] at HM1 HM2
    generalize Ob.ordR ⟨ka, sa, na⟩ ⟨kb, sb, nb⟩ = z at *
    clear hm oka okb CA CB CS
    dsimp only at *
    rcases hko with ⟨rfl, rfl⟩ | ⟨rfl, rfl⟩
    all_goals
      obtain ⟨x0, x1, x2, _, _, _⟩ := HX2.out.cells
      go_wp2_with fail
      refine (HT _).out.mono ?_
      rintro e w3 ⟨rfl, hb3⟩
      have HX3 := hide (HX2.out.grow hb3)
      clear x0 x1 x2 hb3
      go_wp2_with fail
      refine (P1 _).out.mono ?_
      rintro e w4 ⟨rfl, hb4⟩
      have HX4 := hide (HX3.out.grow (bb2 hb4 ((Below.refl _ w4).alloc (Nat.le_refl _) (.cells #[.int .i64 rk, .string rs, .string rn] 47))))
      have HR4 := hide (alloc_new w4 (.cells #[.int .i64 rk, .string rs, .string rn] 47))
      clear hb4 HX3
      go_wp2_with fail
      refine (P2 _).out.mono ?_
      rintro e w5 ⟨rfl, hb5⟩
      obtain ⟨Y, hY⟩ : ∃ y, y = w5.alloc (.cells #[.int .i64 rk, .string rs, .string rn] 47) := ⟨_, rfl⟩
      have HY5 := hide (HX4.out.grow (bb2 hb5 ((Below.refl _ w5).alloc (Nat.le_refl _) (.cells #[.int .i64 rk, .string rs, .string rn] 47))))
      have HR5 := hide (blk_below HR4.out (bb2 hb5 ((Below.refl _ w5).alloc (Nat.le_refl _) (.cells #[.int .i64 rk, .string rs, .string rn] 47))))
      have HQ5 := hide (alloc_new w5 (.cells #[.int .i64 rk, .string rs, .string rn] 47))
      rw [← hY] at HY5 HR5 HQ5
      have g0 := fun q : GB Y => (HY5.out.grow q.h).cells.1
      have g1 := fun q : GB Y => (HY5.out.grow q.h).cells.2.1
      have g2 := fun q : GB Y => (HY5.out.grow q.h).cells.2.2.1
      have g3 := fun q : GB Y => (HY5.out.grow q.h).cells.2.2.2.1
      have g4 := fun q : GB Y => (HY5.out.grow q.h).cells.2.2.2.2.1
      have g5 := fun q : GB Y => (HY5.out.grow q.h).cells.2.2.2.2.2
      have g6 := fun q : GB Y => cellN (blk_below HR5.out q.h) (i := 0) rfl
      have g7 := fun q : GB Y => cellN (blk_below HR5.out q.h) (i := 1) rfl
      have g8 := fun q : GB Y => cellN (blk_below HR5.out q.h) (i := 2) rfl
      have g9 := fun q : GB Y => cellN (blk_below HQ5.out q.h) (i := 0) rfl
      have ga := fun q : GB Y => cellN (blk_below HQ5.out q.h) (i := 1) rfl
      have gb := fun q : GB Y => cellN (blk_below HQ5.out q.h) (i := 2) rfl
      dsimp only at g0 g1 g2 g3 g4 g5
      clear hb5 HX4 HR4 HR5 HQ5
      go_wp2_with fail
      rw [← hY]
      clear hY
      refine wp_region_below (by kernel_rfl) (by kernel_rfl) ?_
      repeat (first | go_big_quiet_step (first | (go_at_call 31; exact calls_gb (HM1 _).out) | (go_at_call 32; exact calls_gb (HM2 _).out) | (go_at_call 33; exact calls_gb (HO1 _).out) | (go_at_call 34; exact calls_gb (HO2 _).out)) | quiet_step (first | (go_at_call 31; exact calls_gb (HM1 _).out) | (go_at_call 32; exact calls_gb (HM2 _).out) | (go_at_call 33; exact calls_gb (HO1 _).out) | (go_at_call 34; exact calls_gb (HO2 _).out)))
      refine wpQuiet_nil ?_
      intro _ hw'
      obtain ⟨qq, hw2⟩ := hw'
      subst hw2
      have hq := qq.h
      obtain ⟨x0, x1, x2, _, _, _⟩ := (HY5.out.grow hq).cells
      clear g0 g1 g2 g3 g4 g5 g6 g7 g8 g9 ga gb
      go_wp2_with fail
      refine (HM2 _).out.mono ?_
      rintro e w6 ⟨rfl, hb6⟩
      clear x0 x1 x2
      go_wp2_with fail
      refine (HAW _).out.mono ?_
      rintro e w7 ⟨rfl, hb7⟩
      go_wp2_with fail
      go_ret
      exact ⟨rfl, bb2 HY5.out.below (bb2 hq (bb2 hb6 hb7))⟩
  · have HT := fun V => hide (text_yes ⟨ka, sa, na⟩ V oka hm)
    have HPT := fun V => hide (parse_text ⟨ka, sa, na⟩ oka hm V)
    have HRT := fun V => hide (rtext_any ⟨ka, sa, na⟩ V oka hm)
    have EQ2 := fun V => eqRun ⟨ka, sa, na⟩ ⟨ka, sa, na⟩ V
    rw [Ob.eqR_iff.2 rfl] at EQ2
    generalize textB ⟨ka, sa, na⟩ = tx at *
    rw [hm] at HM1 HM2
    generalize Ob.ordR ⟨ka, sa, na⟩ ⟨kb, sb, nb⟩ = z at *
    clear hm oka okb CA CB CS
    dsimp only at *
    rcases hko with ⟨rfl, rfl⟩ | ⟨rfl, rfl⟩
    all_goals
      obtain ⟨x0, x1, x2, _, _, _⟩ := HX2.out.cells
      go_wp2_with fail
      refine (HT _).out.mono ?_
      rintro e w3 ⟨rfl, hb3⟩
      have HX3 := hide (HX2.out.grow hb3)
      clear x0 x1 x2 hb3
      go_wp2_with fail
      refine (P1 _).out.mono ?_
      rintro e w4 ⟨rfl, hb4⟩
      have HX4 := hide (HX3.out.grow (bb2 hb4 ((Below.refl _ w4).alloc (Nat.le_refl _) (.cells #[.int .i64 rk, .string rs, .string rn] 47))))
      have HR4 := hide (alloc_new w4 (.cells #[.int .i64 rk, .string rs, .string rn] 47))
      clear hb4 HX3
      go_wp2_with fail
      refine (P2 _).out.mono ?_
      rintro e w5 ⟨rfl, hb5⟩
      obtain ⟨Y, hY⟩ : ∃ y, y = w5.alloc (.cells #[.int .i64 rk, .string rs, .string rn] 47) := ⟨_, rfl⟩
      have HY5 := hide (HX4.out.grow (bb2 hb5 ((Below.refl _ w5).alloc (Nat.le_refl _) (.cells #[.int .i64 rk, .string rs, .string rn] 47))))
      have HR5 := hide (blk_below HR4.out (bb2 hb5 ((Below.refl _ w5).alloc (Nat.le_refl _) (.cells #[.int .i64 rk, .string rs, .string rn] 47))))
      have HQ5 := hide (alloc_new w5 (.cells #[.int .i64 rk, .string rs, .string rn] 47))
      rw [← hY] at HY5 HR5 HQ5
      have g0 := fun q : GB Y => (HY5.out.grow q.h).cells.1
      have g1 := fun q : GB Y => (HY5.out.grow q.h).cells.2.1
      have g2 := fun q : GB Y => (HY5.out.grow q.h).cells.2.2.1
      have g3 := fun q : GB Y => (HY5.out.grow q.h).cells.2.2.2.1
      have g4 := fun q : GB Y => (HY5.out.grow q.h).cells.2.2.2.2.1
      have g5 := fun q : GB Y => (HY5.out.grow q.h).cells.2.2.2.2.2
      have g6 := fun q : GB Y => cellN (blk_below HR5.out q.h) (i := 0) rfl
      have g7 := fun q : GB Y => cellN (blk_below HR5.out q.h) (i := 1) rfl
      have g8 := fun q : GB Y => cellN (blk_below HR5.out q.h) (i := 2) rfl
      have g9 := fun q : GB Y => cellN (blk_below HQ5.out q.h) (i := 0) rfl
      have ga := fun q : GB Y => cellN (blk_below HQ5.out q.h) (i := 1) rfl
      have gb := fun q : GB Y => cellN (blk_below HQ5.out q.h) (i := 2) rfl
      dsimp only at g0 g1 g2 g3 g4 g5
      clear hb5 HX4 HR4 HR5 HQ5
      go_wp2_with fail
      rw [← hY]
      clear hY
      refine wp_region_below (by kernel_rfl) (by kernel_rfl) ?_
      repeat (first | go_big_quiet_step (first | (go_at_call 31; exact calls_gb (HM1 _).out) | (go_at_call 32; exact calls_gb (HM2 _).out) | (go_at_call 33; exact calls_gb (HO1 _).out) | (go_at_call 34; exact calls_gb (HO2 _).out)) | quiet_step (first | (go_at_call 31; exact calls_gb (HM1 _).out) | (go_at_call 32; exact calls_gb (HM2 _).out) | (go_at_call 33; exact calls_gb (HO1 _).out) | (go_at_call 34; exact calls_gb (HO2 _).out)))
      refine wpQuiet_nil ?_
      intro _ hw'
      obtain ⟨qq, hw2⟩ := hw'
      subst hw2
      have hq := qq.h
      obtain ⟨x0, x1, x2, _, _, _⟩ := (HY5.out.grow hq).cells
      clear g0 g1 g2 g3 g4 g5 g6 g7 g8 g9 ga gb
      go_wp2_with fail
      refine (HM2 _).out.mono ?_
      rintro e w6 ⟨rfl, hb6⟩
      clear x0 x1 x2
      go_wp2_with fail
      refine (HPT _).out.mono ?_
      rintro e w7 ⟨rfl, hb7⟩
      have ba := (Below.refl _ w7).alloc (Nat.le_refl _) (.cells #[.int .i64 ka, .string sa, .string na] 47)
      have hx := alloc_new w7 (.cells #[.int .i64 ka, .string sa, .string na] 47)
      have HY7 := hide ((HY5.out.grow hq).grow (bb2 hb6 (bb2 hb7 ba)))
      have HX7 := hide hx
      obtain ⟨x0, x1, x2, _, _, _⟩ := HY7.out.cells
      clear hb6 hb7 ba hx
      go_wp2_with fail
      refine (HRT _).out.mono ?_
      rintro e w8 ⟨rfl, hb8⟩
      clear x0 x1 x2
      obtain ⟨x0, x1, x2, _, _, _⟩ := (HY7.out.grow hb8).cells
      have y := blk_below HX7.out hb8
      obtain ⟨y0, y1, y2⟩ : _ ∧ _ ∧ _ := ⟨cellN y (i := 0) rfl, cellN y (i := 1) rfl, cellN y (i := 2) rfl⟩
      clear y
      go_wp2_with fail
      refine (HAW _).out.mono ?_
      rintro e w9 ⟨rfl, hb9⟩
      go_wp2_with fail
      go_ret
      exact ⟨rfl, bb2 HY7.out.below (bb2 hb8 hb9)⟩

end Go.Proofs.YtphinklnbjpohaaGreatDoor
