/-
  The law QueryOctets.
-/
import Derived.Test.YtmjjjlanafiilaaDoorQuLawC
import Derived.Test.YtmjjjlanafiilaaDoorQuLawE
import Derived.Test.YtmjjjlanafiilaaDoorGrow
import Derived.Deep.RegionHeld3
namespace Go.Proofs.YtmjjjlanafiilaaDoor
open Go Go.RowKit Go.Shelf Go.ChangeShapes Go.WideShapes Go.Deep

/-- 'string([]byte{..})', the block's number told apart -/
theorem bytes_at (W : World) (n : Nat) (h : W.heap.size = n) (l : List UInt8) (k cap : Nat) (hk : k = l.length) (cs : Array Value) (hcs : cs = (oc l).toArray) :
    (convert 40 9 (.slice (some ⟨n, 0, none⟩) k cap)).run Tryd.prog (W.alloc (.cells cs 5)) = .ok (.string (mkB l)) (W.alloc (.cells cs 5)) := by
  subst h hk hcs
  exact some_bytes W l cap

theorem oct_parse (c : UInt8) : Qu.parse (mkB (tx [(mkB [c], mkB [c, c])])).data.toList = some (([(mkB [c], mkB [c, c])] : List PairB).map pl) := by
  rw [mkB_list]
  have : ([(mkB [c], mkB [c, c])] : List PairB).map pl = [([c], [c, c])] := by simp [pl, mkB]
  unfold tx
  rw [this]
  exact Qu.parse_txt (Qu.oct_may c)
theorem oct_mayB (c : UInt8) : Qu.may (([(mkB [c], mkB [c, c])] : List PairB).map pl) = true := by
  have : ([(mkB [c], mkB [c, c])] : List PairB).map pl = [([c], [c, c])] := by simp [pl, mkB]
  rw [this]
  exact Qu.oct_may c
theorem oct_plainB (c : UInt8) : Qu.plainO c = ((mkB (tx [(mkB [c], mkB [c, c])])).toList == (mkB [c, 61, c, c]).toList) := by
  have : ([(mkB [c], mkB [c, c])] : List PairB).map pl = [([c], [c, c])] := by simp [pl, mkB]
  rw [mkB_toList, mkB_toList]
  unfold tx
  rw [this]
  exact Qu.oct_plain c

/-- what Text answers, whether they may be or not: an octet of it is plain, or one of four -/
theorem text_all (A : List PairB) (hok : ∀ p ∈ A, p.1.size ≤ 41 ∧ p.2.size ≤ 41) (hl : A.length ≤ 21) : ∃ (s : ByteArray) (en : Int), s.size ≤ 100000 ∧ (∀ k (h : k < s.size), Qu.plainO s[k] = true ∨ s[k] = 43 ∨ s[k] = 37 ∨ s[k] = 61 ∨ s[k] = 38) ∧
    ∀ v W, Prs W v A → Hid (Calls Tryd.prog 11 #[v] W fun e w' => e = .returned (.tuple #[.string s, .int .i64 en]) ∧ Below W.heap.size W w') := by
  cases h : Qu.may (A.map pl)
  · exact ⟨⟨#[]⟩, 1, Nat.zero_le _, fun k hk => absurd hk (by show ¬ k < 0; omega), fun v W hv => text_no v A W hv hok h⟩
  · refine ⟨mkB (tx A), 0, by rw [mkB_size]; have := tx_len hok hl; omega, fun k hk => ?_, fun v W hv => text_yes v A W hv hok h⟩
    have hm : (mkB (tx A))[k] ∈ tx A := by
      have h1 : (mkB (tx A))[k] ∈ (mkB (tx A)).data.toList := by
        show (mkB (tx A)).data[k] ∈ _
        exact Array.getElem_mem_toList _
      rwa [mkB_list] at h1
    exact Qu.txt_all _ _ hm

set_option maxRecDepth 100000 in
set_option maxHeartbeats 3200000 in
theorem queryOctets_any (v0 : Value) (n1 : Int) (w : World) (h0 : ArgPrs w v0) (h1 : (Lit.int .u8 n1).wf = true) :
    Calls Tryd.prog 6 #[v0, .int .u8 n1] w fun e w' => e = .returned (.bool true) ∧ Below w.heap.size w w' := by
  obtain ⟨l, p0, ok0⟩ := h0
  obtain ⟨c, rfl⟩ := u8_lit h1
  clear h1
  have hc8 := c.toNat_lt
  have CA := fun W (h : Prs W v0 l) => hide (few_any v0 l W h ok0)
  obtain ⟨s, en, hsz, hall, CTA⟩ := text_all (fewP l) (fewP_ok l) (fewP_len l)
  have HALL := hide hall
  clear hall ok0
  generalize fewP l = A at *
  have HP := hide (oct_parse c)
  have HQ := hide (oct_plainB c)
  have okO : ∀ p ∈ ([(mkB [c], mkB [c, c])] : List PairB), p.1.size ≤ 41 ∧ p.2.size ≤ 41 := fun p hp => by
    have : p = (mkB [c], mkB [c, c]) := by simpa using hp
    subst this
    show 1 ≤ 41 ∧ 2 ≤ 41
    omega
  have CT := fun v W h => hide (text_yes v [(mkB [c], mkB [c, c])] W h okO (oct_mayB c))
  have zO : (mkB (tx [(mkB [c], mkB [c, c])])).size ≤ 100000 := by rw [mkB_size]; have := tx_len okO (by simp); omega
  have CP := fun W => hide (qparse_yes _ _ W zO (oct_parse c))
  clear okO HP
  have e1 := bytes_at w w.heap.size rfl [c] 1 1 rfl #[.int .u8 (c.toNat : Int)] rfl
  have e2 := bytes_at (w.alloc (.cells #[.int .u8 (c.toNat : Int)] 5)) (w.heap.size + 1) (by simp) [c, c] 2 2 rfl #[.int .u8 (c.toNat : Int), .int .u8 (c.toNat : Int)] rfl
  go_enter Tryd.func6, Tryd.ntmps6
  go_wp2_with fail
  refine (CT _ _ (Prs.at1 ((w.alloc (.cells #[.int .u8 (c.toNat : Int)] 5)).alloc (.cells #[.int .u8 (c.toNat : Int), .int .u8 (c.toNat : Int)] 5)) (w.heap.size + 1 + 1) (by simp) (mkB [c]) (mkB [c, c]))).out.mono ?_
  rintro e w1 ⟨rfl, hb1⟩
  have B1 : Below w.heap.size w w1 := (((Below.refl _ w).alloc (Nat.le_refl _) _).alloc (by simp) _).trans ((below_box hb1).mono (by simp; omega))
  clear e1 e2 hb1
  generalize mkB (tx [(mkB [c], mkB [c, c])]) = s1 at *
  go_wp2_with fail
  refine (CP w1).out.mono ?_
  rintro e w2 ⟨vx, rfl, qx, hb2⟩
  obtain ⟨ax, cx, rfl, _, _, hcx⟩ := qx
  obtain ⟨gx, ox, rfl, hgx, x1, x2⟩ := hcx 0 (by simp)
  have B2 := bb2 B1 hb2
  clear hcx hb2 B1 CP CT
  simp only [List.getElem_cons_zero, Nat.zero_mul, Nat.add_zero] at x1 x2
  have f1 : (convert 40 9 (.slice (some ⟨w2.heap.size, 0, none⟩) 1 1)).run Tryd.prog (w2.alloc (.cells #[.int .u8 (c.toNat : Int)] 5)).drew = .ok (.string (mkB [c])) (w2.alloc (.cells #[.int .u8 (c.toNat : Int)] 5)).drew := bytes_at w2.drew (w2.heap.size) rfl [c] 1 1 rfl #[.int .u8 (c.toNat : Int)] rfl
  have f2 : (convert 40 9 (.slice (some ⟨w2.heap.size + 1, 0, none⟩) 2 2)).run Tryd.prog ((w2.alloc (.cells #[.int .u8 (c.toNat : Int)] 5)).alloc (.cells #[.int .u8 (c.toNat : Int), .int .u8 (c.toNat : Int)] 5)).drew = .ok (.string (mkB [c, c])) ((w2.alloc (.cells #[.int .u8 (c.toNat : Int)] 5)).alloc (.cells #[.int .u8 (c.toNat : Int), .int .u8 (c.toNat : Int)] 5)).drew := bytes_at (w2.alloc (.cells #[.int .u8 (c.toNat : Int)] 5)).drew (w2.heap.size + 1) (show (w2.alloc (.cells #[.int .u8 (c.toNat : Int)] 5)).heap.size = _ by simp) [c, c] 2 2 rfl #[.int .u8 (c.toNat : Int), .int .u8 (c.toNat : Int)] rfl
  have f3 : (convert 40 9 (.slice (some ⟨w2.heap.size + 1 + 1, 0, none⟩) 4 4)).run Tryd.prog (((w2.alloc (.cells #[.int .u8 (c.toNat : Int)] 5)).alloc (.cells #[.int .u8 (c.toNat : Int), .int .u8 (c.toNat : Int)] 5)).alloc (.cells #[.int .u8 (c.toNat : Int), .int .u8 61, .int .u8 (c.toNat : Int), .int .u8 (c.toNat : Int)] 5)).drew = .ok (.string (mkB [c, 61, c, c])) (((w2.alloc (.cells #[.int .u8 (c.toNat : Int)] 5)).alloc (.cells #[.int .u8 (c.toNat : Int), .int .u8 (c.toNat : Int)] 5)).alloc (.cells #[.int .u8 (c.toNat : Int), .int .u8 61, .int .u8 (c.toNat : Int), .int .u8 (c.toNat : Int)] 5)).drew := bytes_at ((w2.alloc (.cells #[.int .u8 (c.toNat : Int)] 5)).alloc (.cells #[.int .u8 (c.toNat : Int), .int .u8 (c.toNat : Int)] 5)).drew (w2.heap.size + 1 + 1) (show ((w2.alloc (.cells #[.int .u8 (c.toNat : Int)] 5)).alloc (.cells #[.int .u8 (c.toNat : Int), .int .u8 (c.toNat : Int)] 5)).heap.size = _ by simp) [c, 61, c, c] 4 4 rfl #[.int .u8 (c.toNat : Int), .int .u8 61, .int .u8 (c.toNat : Int), .int .u8 (c.toNat : Int)] rfl
  have x3 : (w2.alloc (.cells #[.int .u8 (c.toNat : Int)] 5)).cell? ⟨gx, ox + 1, none⟩ = some (.string (mkB [c, c])) := (((Below.refl _ w2).alloc (Nat.le_refl _) _).cell (p := ⟨gx, ox + 1, none⟩) hgx).trans x2
  go_wp2_with fail
  have X1 : ∀ W, Below w2.heap.size w2 W → W.cell? ⟨gx, ox, none⟩ = some (.string (mkB [c])) := fun W h => (h.cell (p := ⟨gx, ox, none⟩) hgx).trans x1
  have X2 : ∀ W, Below w2.heap.size w2 W → W.cell? ⟨gx, ox + 1, none⟩ = some (.string (mkB [c, c])) := fun W h => (h.cell (p := ⟨gx, ox + 1, none⟩) hgx).trans x2
  have CPl := fun W => hide (qplain_any c W)
  have hqb := HQ.out.symm
  generalize Qu.plainO c = b at *
  clear HQ
  refine wp_region_noPanic ?_
  refine wp_region_held_drew (S := fun W => Below w2.heap.size w2 W) (by kernel_rfl) ((Below.refl _ _).drew) (fun hHeld => ?_)
  refine wpAnyH_take (i := 0) (v := ?_) (op_at (rest := _) rfl) (by kernel_rfl) (by kernel_rfl) (by kernel_rfl) (fun _ _ _ h => h) (Or.inl ⟨by rfl, ?_⟩) (by assumption) ?_
  rotate_left 1
  · (intro W hSw; (try dsimp only at hSw); have y1 := X1 W hSw; have y2 := X2 W hSw; go_simp; (try with_reducible rfl))
  try simp only [Act.put, List.setIfInBounds_toArray, List.set_cons_zero, List.set_cons_succ]
  refine wpAnyH_take (i := 1) (v := ?_) (op_at (rest := _) rfl) (by kernel_rfl) (by kernel_rfl) (by kernel_rfl) (fun _ _ _ h => h) (Or.inl ⟨by rfl, ?_⟩) (by assumption) ?_
  rotate_left 1
  · (intro W hSw; (try dsimp only at hSw); have y1 := X1 W hSw; have y2 := X2 W hSw; go_simp; (try with_reducible rfl))
  try simp only [Act.put, List.setIfInBounds_toArray, List.set_cons_zero, List.set_cons_succ]
  refine wpAnyH_take (i := 2) (v := ?_) (op_at (rest := _) rfl) (by kernel_rfl) (by kernel_rfl) (by kernel_rfl) (fun _ _ _ h => h) (Or.inl ⟨by rfl, ?_⟩) (by assumption) ?_
  rotate_left 1
  · (intro W hSw; (try dsimp only at hSw); have y1 := X1 W hSw; have y2 := X2 W hSw; go_simp; (try with_reducible rfl))
  try simp only [Act.put, List.setIfInBounds_toArray, List.set_cons_zero, List.set_cons_succ]
  refine wpAnyH_take (i := 3) (v := ?_) (op_at (rest := _) rfl) (by kernel_rfl) (by kernel_rfl) (by kernel_rfl) (fun _ _ _ h => h) (Or.inl ⟨by rfl, ?_⟩) (by assumption) ?_
  rotate_left 1
  · (intro W hSw; (try dsimp only at hSw); have y1 := X1 W hSw; have y2 := X2 W hSw; go_simp; (try with_reducible rfl))
  try simp only [Act.put, List.setIfInBounds_toArray, List.set_cons_zero, List.set_cons_succ]
  refine wpAnyH_take (i := 4) (v := ?_) (op_at (rest := _) rfl) (by kernel_rfl) (by kernel_rfl) (by kernel_rfl) (fun _ _ _ h => h) (Or.inl ⟨by rfl, ?_⟩) (by assumption) ?_
  rotate_left 1
  · (intro W hSw; (try dsimp only at hSw); have y1 := X1 W hSw; have y2 := X2 W hSw; go_simp; (try with_reducible rfl))
  try simp only [Act.put, List.setIfInBounds_toArray, List.set_cons_zero, List.set_cons_succ]
  refine wpAnyH_take (i := 5) (v := ?_) (op_at (rest := _) rfl) (by kernel_rfl) (by kernel_rfl) (by kernel_rfl) (fun _ _ _ h => h) (Or.inl ⟨by rfl, ?_⟩) (by assumption) ?_
  rotate_left 1
  · (intro W hSw; (try dsimp only at hSw); have y1 := X1 W hSw; have y2 := X2 W hSw; go_simp; (try with_reducible rfl))
  try simp only [Act.put, List.setIfInBounds_toArray, List.set_cons_zero, List.set_cons_succ]
  refine wpAnyH_take (i := 6) (v := ?_) (op_at (rest := _) rfl) (by kernel_rfl) (by kernel_rfl) (by kernel_rfl) (fun _ _ _ h => h) (Or.inl ⟨by rfl, ?_⟩) (by assumption) ?_
  rotate_left 1
  · (intro W hSw; (try dsimp only at hSw); have y1 := X1 W hSw; have y2 := X2 W hSw; go_simp; (try with_reducible rfl))
  try simp only [Act.put, List.setIfInBounds_toArray, List.set_cons_zero, List.set_cons_succ]
  refine wpAnyH_take (i := 7) (v := ?_) (op_at (rest := _) rfl) (by kernel_rfl) (by kernel_rfl) (by kernel_rfl) (fun _ _ _ h => h) (Or.inl ⟨by rfl, ?_⟩) (by assumption) ?_
  rotate_left 1
  · (intro W hSw; (try dsimp only at hSw); have y1 := X1 W hSw; have y2 := X2 W hSw; go_simp; (try with_reducible rfl))
  try simp only [Act.put, List.setIfInBounds_toArray, List.set_cons_zero, List.set_cons_succ]
  refine wpAnyH_take (i := 8) (v := ?_) (op_at (rest := _) rfl) (by kernel_rfl) (by kernel_rfl) (by kernel_rfl) (fun _ _ _ h => h) (Or.inl ⟨by rfl, ?_⟩) (by assumption) ?_
  rotate_left 1
  · (intro W hSw; (try dsimp only at hSw); have y1 := X1 W hSw; have y2 := X2 W hSw; go_simp; (try with_reducible rfl))
  try simp only [Act.put, List.setIfInBounds_toArray, List.set_cons_zero, List.set_cons_succ]
  refine wpAnyH_take (i := 9) (v := ?_) (op_at (rest := _) rfl) (by kernel_rfl) (by kernel_rfl) (by kernel_rfl) (fun _ _ _ h => h) (Or.inl ⟨by rfl, ?_⟩) (by assumption) ?_
  rotate_left 1
  · (intro W hSw; (try dsimp only at hSw); have y1 := X1 W hSw; have y2 := X2 W hSw; go_simp; (try with_reducible rfl))
  try simp only [Act.put, List.setIfInBounds_toArray, List.set_cons_zero, List.set_cons_succ]
  refine wpAnyH_take (i := 10) (v := ?_) (op_at (rest := _) rfl) (by kernel_rfl) (by kernel_rfl) (by kernel_rfl) (fun _ _ _ h => h) (Or.inl ⟨by rfl, ?_⟩) (by assumption) ?_
  rotate_left 1
  · (intro W hSw; (try dsimp only at hSw); have y1 := X1 W hSw; have y2 := X2 W hSw; go_simp; (try with_reducible rfl))
  try simp only [Act.put, List.setIfInBounds_toArray, List.set_cons_zero, List.set_cons_succ]
  refine wpAnyH_take (i := 11) (v := ?_) (op_at (rest := _) rfl) (by kernel_rfl) (by kernel_rfl) (by kernel_rfl) (fun _ _ _ h => h) (Or.inl ⟨by rfl, ?_⟩) (by assumption) ?_
  rotate_left 1
  · (intro W hSw; (try dsimp only at hSw); have y1 := X1 W hSw; have y2 := X2 W hSw; go_simp; (try with_reducible rfl))
  try simp only [Act.put, List.setIfInBounds_toArray, List.set_cons_zero, List.set_cons_succ]
  refine wpAnyH_take (i := 12) (v := ?_) (op_at (rest := _) rfl) (by kernel_rfl) (by kernel_rfl) (by kernel_rfl) (fun _ _ _ h => h) (Or.inl ⟨by rfl, ?_⟩) (by assumption) ?_
  rotate_left 1
  · (intro W hSw; (try dsimp only at hSw); have y1 := X1 W hSw; have y2 := X2 W hSw; go_simp; (try with_reducible rfl))
  try simp only [Act.put, List.setIfInBounds_toArray, List.set_cons_zero, List.set_cons_succ]
  refine wpAnyH_take (i := 13) (v := ?_) (op_at (rest := _) rfl) (by kernel_rfl) (by kernel_rfl) (by kernel_rfl) (fun _ _ _ h => h) (Or.inl ⟨by rfl, ?_⟩) (by assumption) ?_
  rotate_left 1
  · (intro W hSw; (try dsimp only at hSw); have y1 := X1 W hSw; have y2 := X2 W hSw; go_simp; (try with_reducible rfl))
  try simp only [Act.put, List.setIfInBounds_toArray, List.set_cons_zero, List.set_cons_succ]
  refine wpAnyH_take (i := 14) (v := ?_) (op_at (rest := _) rfl) (by kernel_rfl) (by kernel_rfl) (by kernel_rfl) (fun _ _ _ h => h) (Or.inl ⟨by rfl, ?_⟩) (by assumption) ?_
  rotate_left 1
  · (intro W hSw; (try dsimp only at hSw); have y1 := X1 W hSw; have y2 := X2 W hSw; go_simp; (try with_reducible rfl))
  try simp only [Act.put, List.setIfInBounds_toArray, List.set_cons_zero, List.set_cons_succ]
  refine wpAnyH_take (i := 15) (v := ?_) (op_at (rest := _) rfl) (by kernel_rfl) (by kernel_rfl) (by kernel_rfl) (fun _ _ _ h => h) (Or.inl ⟨by rfl, ?_⟩) (by assumption) ?_
  rotate_left 1
  · (intro W hSw; (try dsimp only at hSw); have y1 := X1 W hSw; have y2 := X2 W hSw; go_simp; (try with_reducible rfl))
  try simp only [Act.put, List.setIfInBounds_toArray, List.set_cons_zero, List.set_cons_succ]
  refine wpAnyH_take (i := 16) (v := ?_) (op_at (rest := _) rfl) (by kernel_rfl) (by kernel_rfl) (by kernel_rfl) (fun _ _ _ h => h) (Or.inl ⟨by rfl, ?_⟩) (by assumption) ?_
  rotate_left 1
  · (intro W hSw; (try dsimp only at hSw); have y1 := X1 W hSw; have y2 := X2 W hSw; go_simp; (try with_reducible rfl))
  try simp only [Act.put, List.setIfInBounds_toArray, List.set_cons_zero, List.set_cons_succ]
  refine wpAnyH_ready (rs := [17]) (by kernel_rfl) (by simp) ?_
  refine AllReadyH.cons (op_at (rest := _) rfl) (fun K hK => ?_) AllReadyH.nil
  go_simp
  refine hK.out _ _ ?_ (fun hHeld => ?_)
  · exact hHeld.alloc hHeld.size _
  clear hK K
  try simp only [Act.put, List.setIfInBounds_toArray, List.set_cons_zero, List.set_cons_succ]
  refine wpAnyH_ready (rs := [18]) (by kernel_rfl) (by simp) ?_
  refine AllReadyH.cons (op_at (rest := _) rfl) (fun K hK => ?_) AllReadyH.nil
  go_simp
  refine hK.out _ _ ?_ (fun hHeld => ?_)
  · exact hHeld
  clear hK K
  try simp only [Act.put, List.setIfInBounds_toArray, List.set_cons_zero, List.set_cons_succ]
  refine wpAnyH_take (i := 19) (v := ?_) (op_at (rest := _) rfl) (by kernel_rfl) (by kernel_rfl) (by kernel_rfl) (fun _ _ _ h => h) (Or.inl ⟨by rfl, ?_⟩) (by assumption) ?_
  rotate_left 1
  · (intro W hSw; (try dsimp only at hSw); have y1 := X1 W hSw; have y2 := X2 W hSw; go_simp; (try with_reducible rfl))
  try simp only [Act.put, List.setIfInBounds_toArray, List.set_cons_zero, List.set_cons_succ]
  refine wpAnyH_take (i := 20) (v := ?_) (op_at (rest := _) rfl) (by kernel_rfl) (by kernel_rfl) (by kernel_rfl) (fun _ _ _ h => h) (Or.inl ⟨by rfl, ?_⟩) (by assumption) ?_
  rotate_left 1
  · (intro W hSw; (try dsimp only at hSw); have y1 := X1 W hSw; have y2 := X2 W hSw; go_simp; (try with_reducible rfl))
  try simp only [Act.put, List.setIfInBounds_toArray, List.set_cons_zero, List.set_cons_succ]
  refine wpAnyH_take (i := 21) (v := ?_) (op_at (rest := _) rfl) (by kernel_rfl) (by kernel_rfl) (by kernel_rfl) (fun _ _ _ h => h) (Or.inl ⟨by rfl, ?_⟩) (by assumption) ?_
  rotate_left 1
  · (intro W hSw; (try dsimp only at hSw); have y1 := X1 W hSw; have y2 := X2 W hSw; go_simp; (try with_reducible rfl))
  try simp only [Act.put, List.setIfInBounds_toArray, List.set_cons_zero, List.set_cons_succ]
  refine wpAnyH_take (i := 22) (v := ?_) (op_at (rest := _) rfl) (by kernel_rfl) (by kernel_rfl) (by kernel_rfl) (fun _ _ _ h => h) (Or.inl ⟨by rfl, ?_⟩) (by assumption) ?_
  rotate_left 1
  · (intro W hSw; (try dsimp only at hSw); have y1 := X1 W hSw; have y2 := X2 W hSw; go_simp; (try with_reducible rfl))
  try simp only [Act.put, List.setIfInBounds_toArray, List.set_cons_zero, List.set_cons_succ]
  refine wpAnyH_take (i := 23) (v := ?_) (op_at (rest := _) rfl) (by kernel_rfl) (by kernel_rfl) (by kernel_rfl) (fun _ _ _ h => h) (Or.inl ⟨by rfl, ?_⟩) (by assumption) ?_
  rotate_left 1
  · (intro W hSw; (try dsimp only at hSw); have y1 := X1 W hSw; have y2 := X2 W hSw; go_simp; (try with_reducible rfl))
  try simp only [Act.put, List.setIfInBounds_toArray, List.set_cons_zero, List.set_cons_succ]
  refine wpAnyH_take (i := 24) (v := ?_) (op_at (rest := _) rfl) (by kernel_rfl) (by kernel_rfl) (by kernel_rfl) (fun _ _ _ h => h) (Or.inl ⟨by rfl, ?_⟩) (by assumption) ?_
  rotate_left 1
  · (intro W hSw; (try dsimp only at hSw); have y1 := X1 W hSw; have y2 := X2 W hSw; go_simp; (try with_reducible rfl))
  try simp only [Act.put, List.setIfInBounds_toArray, List.set_cons_zero, List.set_cons_succ]
  refine wpAnyH_take (i := 25) (v := ?_) (op_at (rest := _) rfl) (by kernel_rfl) (by kernel_rfl) (by kernel_rfl) (fun _ _ _ h => h) (Or.inl ⟨by rfl, ?_⟩) (by assumption) ?_
  rotate_left 1
  · (intro W hSw; (try dsimp only at hSw); have y1 := X1 W hSw; have y2 := X2 W hSw; go_simp; (try with_reducible rfl))
  try simp only [Act.put, List.setIfInBounds_toArray, List.set_cons_zero, List.set_cons_succ]
  refine wpAnyH_take (i := 26) (v := ?_) (op_at (rest := _) rfl) (by kernel_rfl) (by kernel_rfl) (by kernel_rfl) (fun _ _ _ h => h) (Or.inl ⟨by rfl, ?_⟩) (by assumption) ?_
  rotate_left 1
  · (intro W hSw; (try dsimp only at hSw); have y1 := X1 W hSw; have y2 := X2 W hSw; go_simp; (try with_reducible rfl))
  try simp only [Act.put, List.setIfInBounds_toArray, List.set_cons_zero, List.set_cons_succ]
  refine wpAnyH_take (i := 27) (v := ?_) (op_at (rest := _) rfl) (by kernel_rfl) (by kernel_rfl) (by kernel_rfl) (fun _ _ _ h => h) (Or.inl ⟨by rfl, ?_⟩) (by assumption) ?_
  rotate_left 1
  · (intro W hSw; (try dsimp only at hSw); have y1 := X1 W hSw; have y2 := X2 W hSw; go_simp; (try with_reducible rfl))
  try simp only [Act.put, List.setIfInBounds_toArray, List.set_cons_zero, List.set_cons_succ]
  refine wpAnyH_ready (rs := [28]) (by kernel_rfl) (by simp) ?_
  refine AllReadyH.cons (op_at (rest := _) rfl) (fun K hK => ?_) AllReadyH.nil
  go_simp
  refine hK.out _ _ ?_ (fun hHeld => ?_)
  · exact hHeld.alloc hHeld.size _
  clear hK K
  try simp only [Act.put, List.setIfInBounds_toArray, List.set_cons_zero, List.set_cons_succ]
  refine wpAnyH_ready (rs := [29]) (by kernel_rfl) (by simp) ?_
  refine AllReadyH.cons (op_at (rest := _) rfl) (fun K hK => ?_) AllReadyH.nil
  go_simp
  refine hK.out _ _ ?_ (fun hHeld => ?_)
  · exact hHeld
  clear hK K
  try simp only [Act.put, List.setIfInBounds_toArray, List.set_cons_zero, List.set_cons_succ]
  refine wpAnyH_take (i := 30) (v := ?_) (op_at (rest := _) rfl) (by kernel_rfl) (by kernel_rfl) (by kernel_rfl) (fun _ _ _ h => h) (Or.inl ⟨by rfl, ?_⟩) (by assumption) ?_
  rotate_left 1
  · (intro W hSw; (try dsimp only at hSw); have y1 := X1 W hSw; have y2 := X2 W hSw; go_simp; (try with_reducible rfl))
  try simp only [Act.put, List.setIfInBounds_toArray, List.set_cons_zero, List.set_cons_succ]
  refine wpAnyH_take (i := 31) (v := ?_) (op_at (rest := _) rfl) (by kernel_rfl) (by kernel_rfl) (by kernel_rfl) (fun _ _ _ h => h) (Or.inl ⟨by rfl, ?_⟩) (by assumption) ?_
  rotate_left 1
  · (intro W hSw; (try dsimp only at hSw); have y1 := X1 W hSw; have y2 := X2 W hSw; go_simp; (try with_reducible rfl))
  try simp only [Act.put, List.setIfInBounds_toArray, List.set_cons_zero, List.set_cons_succ]
  refine wpAnyH_take (i := 32) (v := ?_) (op_at (rest := _) rfl) (by kernel_rfl) (by kernel_rfl) (by kernel_rfl) (fun _ _ _ h => h) (Or.inl ⟨by rfl, ?_⟩) (by assumption) ?_
  rotate_left 1
  · (intro W hSw; (try dsimp only at hSw); have y1 := X1 W hSw; have y2 := X2 W hSw; go_simp; (try with_reducible rfl))
  try simp only [Act.put, List.setIfInBounds_toArray, List.set_cons_zero, List.set_cons_succ]
  refine wpAnyH_take (i := 33) (v := ?_) (op_at (rest := _) rfl) (by kernel_rfl) (by kernel_rfl) (by kernel_rfl) (fun _ _ _ h => h) (Or.inl ⟨by rfl, ?_⟩) (by assumption) ?_
  rotate_left 1
  · (intro W hSw; (try dsimp only at hSw); have y1 := X1 W hSw; have y2 := X2 W hSw; go_simp; (try with_reducible rfl))
  try simp only [Act.put, List.setIfInBounds_toArray, List.set_cons_zero, List.set_cons_succ]
  refine wpAnyH_take (i := 35) (v := ?_) (op_at (rest := _) rfl) (by kernel_rfl) (by kernel_rfl) (by kernel_rfl) (fun _ _ _ h => h) (Or.inl ⟨by rfl, ?_⟩) (by assumption) ?_
  rotate_left 1
  · (intro W hSw; (try dsimp only at hSw); have y1 := X1 W hSw; have y2 := X2 W hSw; go_simp; (try with_reducible rfl))
  try simp only [Act.put, List.setIfInBounds_toArray, List.set_cons_zero, List.set_cons_succ]
  refine wpAnyH_take (i := 36) (v := ?_) (op_at (rest := _) rfl) (by kernel_rfl) (by kernel_rfl) (by kernel_rfl) (fun _ _ _ h => h) (Or.inl ⟨by rfl, ?_⟩) (by assumption) ?_
  rotate_left 1
  · (intro W hSw; (try dsimp only at hSw); have y1 := X1 W hSw; have y2 := X2 W hSw; go_simp; (try with_reducible rfl))
  try simp only [Act.put, List.setIfInBounds_toArray, List.set_cons_zero, List.set_cons_succ]
  refine wpAnyH_take (i := 37) (v := ?_) (op_at (rest := _) rfl) (by kernel_rfl) (by kernel_rfl) (by kernel_rfl) (fun _ _ _ h => h) (Or.inl ⟨by rfl, ?_⟩) (by assumption) ?_
  rotate_left 1
  · (intro W hSw; (try dsimp only at hSw); have y1 := X1 W hSw; have y2 := X2 W hSw; go_simp; (try with_reducible rfl))
  try simp only [Act.put, List.setIfInBounds_toArray, List.set_cons_zero, List.set_cons_succ]
  refine wpAnyH_take (i := 38) (v := ?_) (op_at (rest := _) rfl) (by kernel_rfl) (by kernel_rfl) (by kernel_rfl) (fun _ _ _ h => h) (Or.inl ⟨by rfl, ?_⟩) (by assumption) ?_
  rotate_left 1
  · (intro W hSw; (try dsimp only at hSw); have y1 := X1 W hSw; have y2 := X2 W hSw; go_simp; (try with_reducible rfl))
  try simp only [Act.put, List.setIfInBounds_toArray, List.set_cons_zero, List.set_cons_succ]
  refine wpAnyH_ready (rs := [34, 39]) (by kernel_rfl) (by simp) ?_
  refine AllReadyH.cons (op_at (rest := _) rfl) (fun K hK => ?_) (AllReadyH.cons (op_at (rest := _) rfl) (fun K hK => ?_) AllReadyH.nil)
  · go_simp
    refine (CPl _).out.mono ?_
    rintro e w3 ⟨rfl, rfl⟩
    go_wp2_with fail
    refine hK.out _ _ ?_ (fun hHeld => ?_)
    · exact hHeld
    clear hK K
    try simp only [Act.put, List.setIfInBounds_toArray, List.set_cons_zero, List.set_cons_succ]
    refine wpAnyH_ready (rs := [39]) (by kernel_rfl) (by simp) ?_
    refine AllReadyH.cons (op_at (rest := _) rfl) (fun K hK => ?_) AllReadyH.nil
    go_simp
    refine hK.out _ _ ?_ (fun hHeld => ?_)
    · exact hHeld.alloc hHeld.size _
    clear hK K
    try simp only [Act.put, List.setIfInBounds_toArray, List.set_cons_zero, List.set_cons_succ]
    refine wpAnyH_ready (rs := [40]) (by kernel_rfl) (by simp) ?_
    refine AllReadyH.cons (op_at (rest := _) rfl) (fun K hK => ?_) AllReadyH.nil
    go_simp
    refine hK.out _ _ ?_ (fun hHeld => ?_)
    · exact hHeld
    clear hK K
    try simp only [Act.put, List.setIfInBounds_toArray, List.set_cons_zero, List.set_cons_succ]
    refine wpAnyH_take (i := 41) (v := ?_) (op_at (rest := _) rfl) (by kernel_rfl) (by kernel_rfl) (by kernel_rfl) (fun _ _ _ h => h) (Or.inl ⟨by rfl, ?_⟩) (by assumption) ?_
    rotate_left 1
    · (intro W hSw; (try dsimp only at hSw); go_simp; (try with_reducible rfl))
    try simp only [Act.put, List.setIfInBounds_toArray, List.set_cons_zero, List.set_cons_succ]
    refine wpAnyH_take (i := 42) (v := ?_) (op_at (rest := _) rfl) (by kernel_rfl) (by kernel_rfl) (by kernel_rfl) (fun _ _ _ h => h) (Or.inl ⟨by rfl, ?_⟩) (by assumption) ?_
    rotate_left 1
    · (intro W hSw; (try dsimp only at hSw); go_simp; (try with_reducible rfl))
    try simp only [Act.put, List.setIfInBounds_toArray, List.set_cons_zero, List.set_cons_succ]
    refine wpAnyH_take (i := 43) (v := ?_) (op_at (rest := _) rfl) (by kernel_rfl) (by kernel_rfl) (by kernel_rfl) (fun _ _ _ h => h) (Or.inl ⟨by rfl, ?_⟩) (by assumption) ?_
    rotate_left 1
    · (intro W hSw; (try dsimp only at hSw); go_simp; (try with_reducible rfl))
    try simp only [Act.put, List.setIfInBounds_toArray, List.set_cons_zero, List.set_cons_succ]
    refine wpAnyH_done (by kernel_rfl) ?_ _
    refine NoPanic.normal ?_
    clear X1 X2 x1 x2 x3 f1 f2 f3 hqb CPl
    replace hHeld := bb2 B2 hHeld
    clear B2
    generalize ((((w2.alloc (.cells #[.int .u8 (c.toNat : Int)] 5)).alloc (.cells #[.int .u8 (c.toNat : Int), .int .u8 (c.toNat : Int)] 5)).alloc (.cells #[.int .u8 (c.toNat : Int), .int .u8 61, .int .u8 (c.toNat : Int), .int .u8 (c.toNat : Int)] 5)).drew) = W at *
    go_wp2_with fail
    refine (CA W (p0.below hHeld)).out.mono ?_
    rintro e w4 ⟨va, rfl, qa, b4⟩
    go_wp2_with fail
    refine (CTA va w4 qa).out.mono ?_
    rintro e w5 ⟨rfl, b5⟩
    have B5 := bb2 (bb2 hHeld b4) b5
    clear hHeld b4 b5 qa CTA CA
    go_wp2_with fail
    go_loopw [11] (fun i wr => ∃ k : Nat, k ≤ s.size ∧ i = .int .i64 k ∧ Below w.heap.size w wr) (fun i _ => s.size - (intOf i).toNat)
    case atStart => exact ⟨0, Nat.zero_le _, rfl, B5⟩
    case round =>
      obtain ⟨k, hk, rfl, hB⟩ := hrel
      by_cases hlt : k < s.size
      · have hlt' : (k : Int) < (s.size : Int) := by omega
        have hx := HALL.out k hlt
        generalize hsx : s[k] = x at *
        cases hp : Qu.plainO x
        · rcases hx with hx | rfl | rfl | rfl | rfl
          · rw [hp] at hx; cases hx
          · have PX : ∀ W, Hid (Calls Tryd.prog 14 #[.int .u8 43] W fun e w' => e = .returned (.bool false) ∧ w' = W) := fun W => qplain_any 43 W
            clear hp
            go_wp2_with fail
            refine (PX wr).out.mono ?_
            rintro e w6 ⟨rfl, rfl⟩
            go_wp2_with fail
            exact ⟨⟨k + 1, by omega, by go_num, hB⟩, by simp [intOf]; omega⟩
          · have PX : ∀ W, Hid (Calls Tryd.prog 14 #[.int .u8 37] W fun e w' => e = .returned (.bool false) ∧ w' = W) := fun W => qplain_any 37 W
            clear hp
            go_wp2_with fail
            refine (PX wr).out.mono ?_
            rintro e w6 ⟨rfl, rfl⟩
            go_wp2_with fail
            exact ⟨⟨k + 1, by omega, by go_num, hB⟩, by simp [intOf]; omega⟩
          · have PX : ∀ W, Hid (Calls Tryd.prog 14 #[.int .u8 61] W fun e w' => e = .returned (.bool false) ∧ w' = W) := fun W => qplain_any 61 W
            clear hp
            go_wp2_with fail
            refine (PX wr).out.mono ?_
            rintro e w6 ⟨rfl, rfl⟩
            go_wp2_with fail
            exact ⟨⟨k + 1, by omega, by go_num, hB⟩, by simp [intOf]; omega⟩
          · have PX : ∀ W, Hid (Calls Tryd.prog 14 #[.int .u8 38] W fun e w' => e = .returned (.bool false) ∧ w' = W) := fun W => qplain_any 38 W
            clear hp
            go_wp2_with fail
            refine (PX wr).out.mono ?_
            rintro e w6 ⟨rfl, rfl⟩
            go_wp2_with fail
            exact ⟨⟨k + 1, by omega, by go_num, hB⟩, by simp [intOf]; omega⟩
        · have PX := fun W => hide (qplain_any x W)
          rw [hp] at PX
          clear hx hp
          go_wp2_with fail
          refine (PX wr).out.mono ?_
          rintro e w6 ⟨rfl, rfl⟩
          go_wp2_with fail
          exact ⟨⟨k + 1, by omega, by go_num, hB⟩, by simp [intOf]; omega⟩
      · have hlt' : ¬ (k : Int) < (s.size : Int) := by omega
        go_wp2_with fail
        refine (awake_any wr).mono ?_
        rintro e w6 ⟨rfl, b6⟩
        go_wp2_with fail
        go_ret
        exact ⟨rfl, bb2 hB b6⟩
  · go_simp
    refine hK.out _ _ ?_ (fun hHeld => ?_)
    · exact hHeld.alloc hHeld.size _
    clear hK K
    try simp only [Act.put, List.setIfInBounds_toArray, List.set_cons_zero, List.set_cons_succ]
    refine wpAnyH_ready (rs := [34, 40]) (by kernel_rfl) (by simp) ?_
    refine AllReadyH.cons (op_at (rest := _) rfl) (fun K hK => ?_) (AllReadyH.cons (op_at (rest := _) rfl) (fun K hK => ?_) AllReadyH.nil)
    · go_simp
      refine (CPl _).out.mono ?_
      rintro e w3 ⟨rfl, rfl⟩
      go_wp2_with fail
      refine hK.out _ _ ?_ (fun hHeld => ?_)
      · exact hHeld
      clear hK K
      try simp only [Act.put, List.setIfInBounds_toArray, List.set_cons_zero, List.set_cons_succ]
      refine wpAnyH_ready (rs := [40]) (by kernel_rfl) (by simp) ?_
      refine AllReadyH.cons (op_at (rest := _) rfl) (fun K hK => ?_) AllReadyH.nil
      go_simp
      refine hK.out _ _ ?_ (fun hHeld => ?_)
      · exact hHeld
      clear hK K
      try simp only [Act.put, List.setIfInBounds_toArray, List.set_cons_zero, List.set_cons_succ]
      refine wpAnyH_take (i := 41) (v := ?_) (op_at (rest := _) rfl) (by kernel_rfl) (by kernel_rfl) (by kernel_rfl) (fun _ _ _ h => h) (Or.inl ⟨by rfl, ?_⟩) (by assumption) ?_
      rotate_left 1
      · (intro W hSw; (try dsimp only at hSw); go_simp; (try with_reducible rfl))
      try simp only [Act.put, List.setIfInBounds_toArray, List.set_cons_zero, List.set_cons_succ]
      refine wpAnyH_take (i := 42) (v := ?_) (op_at (rest := _) rfl) (by kernel_rfl) (by kernel_rfl) (by kernel_rfl) (fun _ _ _ h => h) (Or.inl ⟨by rfl, ?_⟩) (by assumption) ?_
      rotate_left 1
      · (intro W hSw; (try dsimp only at hSw); go_simp; (try with_reducible rfl))
      try simp only [Act.put, List.setIfInBounds_toArray, List.set_cons_zero, List.set_cons_succ]
      refine wpAnyH_take (i := 43) (v := ?_) (op_at (rest := _) rfl) (by kernel_rfl) (by kernel_rfl) (by kernel_rfl) (fun _ _ _ h => h) (Or.inl ⟨by rfl, ?_⟩) (by assumption) ?_
      rotate_left 1
      · (intro W hSw; (try dsimp only at hSw); go_simp; (try with_reducible rfl))
      try simp only [Act.put, List.setIfInBounds_toArray, List.set_cons_zero, List.set_cons_succ]
      refine wpAnyH_done (by kernel_rfl) ?_ _
      refine NoPanic.normal ?_
      clear X1 X2 x1 x2 x3 f1 f2 f3 hqb CPl
      replace hHeld := bb2 B2 hHeld
      clear B2
      generalize ((((w2.alloc (.cells #[.int .u8 (c.toNat : Int)] 5)).alloc (.cells #[.int .u8 (c.toNat : Int), .int .u8 (c.toNat : Int)] 5)).alloc (.cells #[.int .u8 (c.toNat : Int), .int .u8 61, .int .u8 (c.toNat : Int), .int .u8 (c.toNat : Int)] 5)).drew) = W at *
      go_wp2_with fail
      refine (CA W (p0.below hHeld)).out.mono ?_
      rintro e w4 ⟨va, rfl, qa, b4⟩
      go_wp2_with fail
      refine (CTA va w4 qa).out.mono ?_
      rintro e w5 ⟨rfl, b5⟩
      have B5 := bb2 (bb2 hHeld b4) b5
      clear hHeld b4 b5 qa CTA CA
      go_wp2_with fail
      go_loopw [11] (fun i wr => ∃ k : Nat, k ≤ s.size ∧ i = .int .i64 k ∧ Below w.heap.size w wr) (fun i _ => s.size - (intOf i).toNat)
      case atStart => exact ⟨0, Nat.zero_le _, rfl, B5⟩
      case round =>
        obtain ⟨k, hk, rfl, hB⟩ := hrel
        by_cases hlt : k < s.size
        · have hlt' : (k : Int) < (s.size : Int) := by omega
          have hx := HALL.out k hlt
          generalize hsx : s[k] = x at *
          cases hp : Qu.plainO x
          · rcases hx with hx | rfl | rfl | rfl | rfl
            · rw [hp] at hx; cases hx
            · have PX : ∀ W, Hid (Calls Tryd.prog 14 #[.int .u8 43] W fun e w' => e = .returned (.bool false) ∧ w' = W) := fun W => qplain_any 43 W
              clear hp
              go_wp2_with fail
              refine (PX wr).out.mono ?_
              rintro e w6 ⟨rfl, rfl⟩
              go_wp2_with fail
              exact ⟨⟨k + 1, by omega, by go_num, hB⟩, by simp [intOf]; omega⟩
            · have PX : ∀ W, Hid (Calls Tryd.prog 14 #[.int .u8 37] W fun e w' => e = .returned (.bool false) ∧ w' = W) := fun W => qplain_any 37 W
              clear hp
              go_wp2_with fail
              refine (PX wr).out.mono ?_
              rintro e w6 ⟨rfl, rfl⟩
              go_wp2_with fail
              exact ⟨⟨k + 1, by omega, by go_num, hB⟩, by simp [intOf]; omega⟩
            · have PX : ∀ W, Hid (Calls Tryd.prog 14 #[.int .u8 61] W fun e w' => e = .returned (.bool false) ∧ w' = W) := fun W => qplain_any 61 W
              clear hp
              go_wp2_with fail
              refine (PX wr).out.mono ?_
              rintro e w6 ⟨rfl, rfl⟩
              go_wp2_with fail
              exact ⟨⟨k + 1, by omega, by go_num, hB⟩, by simp [intOf]; omega⟩
            · have PX : ∀ W, Hid (Calls Tryd.prog 14 #[.int .u8 38] W fun e w' => e = .returned (.bool false) ∧ w' = W) := fun W => qplain_any 38 W
              clear hp
              go_wp2_with fail
              refine (PX wr).out.mono ?_
              rintro e w6 ⟨rfl, rfl⟩
              go_wp2_with fail
              exact ⟨⟨k + 1, by omega, by go_num, hB⟩, by simp [intOf]; omega⟩
          · have PX := fun W => hide (qplain_any x W)
            rw [hp] at PX
            clear hx hp
            go_wp2_with fail
            refine (PX wr).out.mono ?_
            rintro e w6 ⟨rfl, rfl⟩
            go_wp2_with fail
            exact ⟨⟨k + 1, by omega, by go_num, hB⟩, by simp [intOf]; omega⟩
        · have hlt' : ¬ (k : Int) < (s.size : Int) := by omega
          go_wp2_with fail
          refine (awake_any wr).mono ?_
          rintro e w6 ⟨rfl, b6⟩
          go_wp2_with fail
          go_ret
          exact ⟨rfl, bb2 hB b6⟩
    · go_simp
      refine hK.out _ _ ?_ (fun hHeld => ?_)
      · exact hHeld
      clear hK K
      try simp only [Act.put, List.setIfInBounds_toArray, List.set_cons_zero, List.set_cons_succ]
      refine wpAnyH_take (i := 41) (v := ?_) (op_at (rest := _) rfl) (by kernel_rfl) (by kernel_rfl) (by kernel_rfl) (fun _ _ _ h => h) (Or.inl ⟨by rfl, ?_⟩) (by assumption) ?_
      rotate_left 1
      · (intro W hSw; (try dsimp only at hSw); go_simp; (try with_reducible rfl))
      try simp only [Act.put, List.setIfInBounds_toArray, List.set_cons_zero, List.set_cons_succ]
      refine wpAnyH_ready (rs := [34]) (by kernel_rfl) (by simp) ?_
      refine AllReadyH.cons (op_at (rest := _) rfl) (fun K hK => ?_) AllReadyH.nil
      go_simp
      refine (CPl _).out.mono ?_
      rintro e w3 ⟨rfl, rfl⟩
      go_wp2_with fail
      refine hK.out _ _ ?_ (fun hHeld => ?_)
      · exact hHeld
      clear hK K
      try simp only [Act.put, List.setIfInBounds_toArray, List.set_cons_zero, List.set_cons_succ]
      refine wpAnyH_take (i := 42) (v := ?_) (op_at (rest := _) rfl) (by kernel_rfl) (by kernel_rfl) (by kernel_rfl) (fun _ _ _ h => h) (Or.inl ⟨by rfl, ?_⟩) (by assumption) ?_
      rotate_left 1
      · (intro W hSw; (try dsimp only at hSw); go_simp; (try with_reducible rfl))
      try simp only [Act.put, List.setIfInBounds_toArray, List.set_cons_zero, List.set_cons_succ]
      refine wpAnyH_take (i := 43) (v := ?_) (op_at (rest := _) rfl) (by kernel_rfl) (by kernel_rfl) (by kernel_rfl) (fun _ _ _ h => h) (Or.inl ⟨by rfl, ?_⟩) (by assumption) ?_
      rotate_left 1
      · (intro W hSw; (try dsimp only at hSw); go_simp; (try with_reducible rfl))
      try simp only [Act.put, List.setIfInBounds_toArray, List.set_cons_zero, List.set_cons_succ]
      refine wpAnyH_done (by kernel_rfl) ?_ _
      refine NoPanic.normal ?_
      clear X1 X2 x1 x2 x3 f1 f2 f3 hqb CPl
      replace hHeld := bb2 B2 hHeld
      clear B2
      generalize ((((w2.alloc (.cells #[.int .u8 (c.toNat : Int)] 5)).alloc (.cells #[.int .u8 (c.toNat : Int), .int .u8 (c.toNat : Int)] 5)).alloc (.cells #[.int .u8 (c.toNat : Int), .int .u8 61, .int .u8 (c.toNat : Int), .int .u8 (c.toNat : Int)] 5)).drew) = W at *
      go_wp2_with fail
      refine (CA W (p0.below hHeld)).out.mono ?_
      rintro e w4 ⟨va, rfl, qa, b4⟩
      go_wp2_with fail
      refine (CTA va w4 qa).out.mono ?_
      rintro e w5 ⟨rfl, b5⟩
      have B5 := bb2 (bb2 hHeld b4) b5
      clear hHeld b4 b5 qa CTA CA
      go_wp2_with fail
      go_loopw [11] (fun i wr => ∃ k : Nat, k ≤ s.size ∧ i = .int .i64 k ∧ Below w.heap.size w wr) (fun i _ => s.size - (intOf i).toNat)
      case atStart => exact ⟨0, Nat.zero_le _, rfl, B5⟩
      case round =>
        obtain ⟨k, hk, rfl, hB⟩ := hrel
        by_cases hlt : k < s.size
        · have hlt' : (k : Int) < (s.size : Int) := by omega
          have hx := HALL.out k hlt
          generalize hsx : s[k] = x at *
          cases hp : Qu.plainO x
          · rcases hx with hx | rfl | rfl | rfl | rfl
            · rw [hp] at hx; cases hx
            · have PX : ∀ W, Hid (Calls Tryd.prog 14 #[.int .u8 43] W fun e w' => e = .returned (.bool false) ∧ w' = W) := fun W => qplain_any 43 W
              clear hp
              go_wp2_with fail
              refine (PX wr).out.mono ?_
              rintro e w6 ⟨rfl, rfl⟩
              go_wp2_with fail
              exact ⟨⟨k + 1, by omega, by go_num, hB⟩, by simp [intOf]; omega⟩
            · have PX : ∀ W, Hid (Calls Tryd.prog 14 #[.int .u8 37] W fun e w' => e = .returned (.bool false) ∧ w' = W) := fun W => qplain_any 37 W
              clear hp
              go_wp2_with fail
              refine (PX wr).out.mono ?_
              rintro e w6 ⟨rfl, rfl⟩
              go_wp2_with fail
              exact ⟨⟨k + 1, by omega, by go_num, hB⟩, by simp [intOf]; omega⟩
            · have PX : ∀ W, Hid (Calls Tryd.prog 14 #[.int .u8 61] W fun e w' => e = .returned (.bool false) ∧ w' = W) := fun W => qplain_any 61 W
              clear hp
              go_wp2_with fail
              refine (PX wr).out.mono ?_
              rintro e w6 ⟨rfl, rfl⟩
              go_wp2_with fail
              exact ⟨⟨k + 1, by omega, by go_num, hB⟩, by simp [intOf]; omega⟩
            · have PX : ∀ W, Hid (Calls Tryd.prog 14 #[.int .u8 38] W fun e w' => e = .returned (.bool false) ∧ w' = W) := fun W => qplain_any 38 W
              clear hp
              go_wp2_with fail
              refine (PX wr).out.mono ?_
              rintro e w6 ⟨rfl, rfl⟩
              go_wp2_with fail
              exact ⟨⟨k + 1, by omega, by go_num, hB⟩, by simp [intOf]; omega⟩
          · have PX := fun W => hide (qplain_any x W)
            rw [hp] at PX
            clear hx hp
            go_wp2_with fail
            refine (PX wr).out.mono ?_
            rintro e w6 ⟨rfl, rfl⟩
            go_wp2_with fail
            exact ⟨⟨k + 1, by omega, by go_num, hB⟩, by simp [intOf]; omega⟩
        · have hlt' : ¬ (k : Int) < (s.size : Int) := by omega
          go_wp2_with fail
          refine (awake_any wr).mono ?_
          rintro e w6 ⟨rfl, b6⟩
          go_wp2_with fail
          go_ret
          exact ⟨rfl, bb2 hB b6⟩

end Go.Proofs.YtmjjjlanafiilaaDoor
