/-
  Walks: address, Away.
-/
import Derived.Test.YtejmcemgjpcobaaDoorFiWalkD
namespace Go.Proofs.YtejmcemgjpcobaaDoor
set_option maxRecDepth 20000
open Go Go.RowKit Go.Shelf Fi

/-- is the port told? -/
def needD (port : Int) (tls : Bool) : Prop := port ≠ 0 ∧ ¬ (port = 80 ∧ tls = false) ∧ ¬ (port = 443 ∧ tls = true)
/-- strconv.Itoa at a port, from here on -/
def ItoaAt (w : World) (n : Int) : Prop := ∀ W, Below w.heap.size w W → Calls Tryd.prog 44 #[.int .i64 n] W fun e w' => e = .returned (.string (mkB (digs 8 n.toNat))) ∧ Below W.heap.size W w'
theorem ItoaAt.below {w W : World} {n : Int} (h : ItoaAt w n) (hb : Below w.heap.size w W) : ItoaAt W n := fun V hV => h V (bb2 hb hV)
theorem digs_len : ∀ (k n : Nat), (digs k n).length ≤ k
  | 0, _ => Nat.zero_le _
  | k + 1, n => by
    unfold digs
    split
    · simp
    · have := digs_len k (n / 10)
      simp
      omega

set_option maxHeartbeats 1600000 in
theorem address_any (host : ByteArray) (port : Int) (to : ByteArray) (tls : Bool) (w : World) (hh : host.size ≤ 1000) (ht : to.size ≤ 1000) (CI : needD port tls → ItoaAt w port) :
    Calls Tryd.prog 31 #[.string host, .int .i64 port, .string to, .bool tls] w fun e w' => e = .returned (.string (mkB (scheme tls ++ (dl host ++ portT port tls ++ dl to)))) ∧ Below w.heap.size w w' := by
  by_cases hn : needD port tls
  · have hp : portT port tls = 58 :: digs 8 port.toNat := if_pos hn
    have C1 := hide (CI hn w (Below.refl _ _))
    have HL := digs_len 8 port.toNat
    obtain ⟨h0, h1, h2⟩ := hn
    have t0 : (port == 0) = false := by simpa using h0
    have hsz := mkB_size (digs 8 port.toNat)
    have HT : Hid ((((mkB (scheme tls) ++ host) ++ ⟨#[58]⟩) ++ mkB (digs 8 port.toNat)) ++ to = mkB (scheme tls ++ (dl host ++ portT port tls ++ dl to))) := by
      refine mkB_eq ?_
      rw [app_data, app_data, app_data, app_data, mkB_list, mkB_list, hp]
      simp [dl]
    clear hp CI
    generalize mkB (scheme tls ++ (dl host ++ portT port tls ++ dl to)) = r at *
    generalize mkB (digs 8 port.toNat) = ds at *
    cases tls
    · have t1 : (port == 80) = false := by
        rw [beq_eq_false_iff_ne]
        exact fun e => h1 ⟨e, rfl⟩
      go_enter Tryd.func31, Tryd.ntmps31
      go_wp2_with fail
      refine C1.out.mono ?_
      rintro e w1 ⟨rfl, hb1⟩
      go_wp2_with fail
      go_ret
      exact ⟨ret_str HT.out, hb1⟩
    · have t1 : (port == 443) = false := by
        rw [beq_eq_false_iff_ne]
        exact fun e => h2 ⟨e, rfl⟩
      go_enter Tryd.func31, Tryd.ntmps31
      go_wp2_with fail
      refine C1.out.mono ?_
      rintro e w1 ⟨rfl, hb1⟩
      go_wp2_with fail
      go_ret
      exact ⟨ret_str HT.out, hb1⟩
  · have hp : portT port tls = [] := if_neg hn
    have HT : Hid ((mkB (scheme tls) ++ host) ++ to = mkB (scheme tls ++ (dl host ++ portT port tls ++ dl to))) := by
      refine mkB_eq ?_
      rw [app_data, app_data, mkB_list, hp]
      simp [dl]
    clear hp CI
    generalize mkB (scheme tls ++ (dl host ++ portT port tls ++ dl to)) = r at *
    unfold needD at hn
    cases h0 : (port == 0)
    · have h0' : port ≠ 0 := by simpa using h0
      cases tls
      · have t1 : (port == 80) = true := by
          rw [beq_iff_eq]
          exact Classical.not_not.1 fun e => hn ⟨h0', fun h => e h.1, fun h => by cases h.2⟩
        clear hn h0'
        go_enter Tryd.func31, Tryd.ntmps31
        go_wp2_with fail
        go_ret
        exact ⟨ret_str HT.out, Below.refl _ _⟩
      · have t1 : (port == 443) = true := by
          rw [beq_iff_eq]
          exact Classical.not_not.1 fun e => hn ⟨h0', fun h => (by cases h.2), fun h => e h.1⟩
        clear hn h0'
        go_enter Tryd.func31, Tryd.ntmps31
        go_wp2_with fail
        go_ret
        exact ⟨ret_str HT.out, Below.refl _ _⟩
    · clear hn
      cases tls
      · go_enter Tryd.func31, Tryd.ntmps31
        go_wp2_with fail
        go_ret
        exact ⟨ret_str HT.out, Below.refl _ _⟩
      · go_enter Tryd.func31, Tryd.ntmps31
        go_wp2_with fail
        go_ret
        exact ⟨ret_str HT.out, Below.refl _ _⟩

set_option maxHeartbeats 800000 in
theorem awayClosure_any (f : FB) (w : World) :
    Calls Tryd.prog 29 #[fV f] w fun e w' => e = .returned (.bool (f.kind == 4)) ∧ Below w.heap.size w w' := by
  obtain ⟨k, n, v, h, p, t, b, c⟩ := f
  dsimp only
  go_enter Tryd.func29, Tryd.ntmps29
  go_wp2_with fail
  go_ret
  exact ⟨rfl, (Below.refl _ _).alloc (Nat.le_refl _) _⟩

theorem find_idx {P : FB → Bool} {l : List FB} {f : FB} (h : l.find? P = some f) : ∃ k, ∃ hk : k < l.length, l[k] = f ∧ idxP P l = (k : Int) := by
  obtain ⟨hp, i, hi, he, hj⟩ := List.find?_eq_some_iff_getElem.1 h
  refine ⟨i, hi, he, idxP_yes hi (fun j h1 h2 => ?_) (by rw [he]; exact hp)⟩
  have := hj j h2
  simpa using this
theorem find_none {P : FB → Bool} {l : List FB} (h : l.find? P = none) : idxP P l = -1 :=
  idxP_no fun j hj => by
    have := List.find?_eq_none.1 h _ (List.getElem_mem hj)
    simpa using this

set_option maxHeartbeats 6400000 in
theorem away_any (vl : Value) (l : List FB) (pk : Int) (pv : ByteArray) (x : RV) (tls : Bool) (w : World) (hv : Sl EF w vl l) (ok : ∀ f ∈ l, OkFi f) (hpv : pv.size ≤ 100) (rp100 : x.r.path.size ≤ 100) (rh100 : x.r.host.size ≤ 100) (CI : ∀ f ∈ l, mayF f = true → f.kind = 4 → needD f.port tls → ItoaAt w f.port) :
    Calls Tryd.prog 16 #[vl, .agg #[.int .i64 pk, .string pv], rV x.r x.vq x.vh, .bool tls] w fun e w' => e = .returned (.tuple #[.agg #[.int .i64 (awayF l pk pv x.r.host x.r.path tls).1.1, .string (awayF l pk pv x.r.host x.r.path tls).1.2], .int .i64 (awayF l pk pv x.r.host x.r.path tls).2]) ∧ Below w.heap.size w w' := by
  have C1 := fun W (h : Below w.heap.size w W) => hide (fits_any vl l pk pv x W (hv.below h) ok (small_len (by omega)) (small_len (by omega)))
  have C2 := fun W (h : Below w.heap.size w W) => hide (idxAway_any (fun f => f.kind == 4) vl l W (hv.below h) (fun f _ V _ => awayClosure_any f V))
  obtain ⟨⟨rm, rho, rp, qu, hd⟩, aq, cq, ah, ch⟩ := x
  dsimp only at *
  have HOK := hide ok
  have HCI := hide CI
  have hlen := hv.len
  obtain ⟨a, cap, rfl, hcap, hmax, hc⟩ := hv
  have HC := hide hc
  clear hc ok CI
  have B3 := below_3 (w := w) (.cells #[.int .i64 pk, .string pv] 24) (.cells #[.string rm, .string rho, .string rp, .slice aq qu.length cq, .slice ah hd.length ch] 27) (.cells #[.int .i64 0, .string ⟨#[]⟩] 54)
  cases hfit : (allF l && holdP pk (dl pv) (dl rp))
  · have HR : Hid (awayF l pk pv rho rp tls = ((0, ⟨#[]⟩), 1)) := by
      show awayF _ _ _ _ _ _ = _
      unfold awayF
      rw [if_neg (by rw [hfit]; decide)]
    rw [hfit] at C1
    go_enter Tryd.func16, Tryd.ntmps16
    go_wp2_with fail
    refine (C1 _ B3).out.mono ?_
    rintro e w1 ⟨rfl, hb1⟩
    have HZ := hide (bx3 hb1).2.2
    have BB := hide (bb2 B3 hb1)
    have lz := liveN HZ.out
    obtain ⟨z0, z1⟩ : _ ∧ _ := ⟨cellN HZ.out (i := 0) rfl, cellN HZ.out (i := 1) rfl⟩
    clear C1 C2
    go_wp2_with fail
    have S1 := setL_below (w := w) (B := w.heap.size) (g := w.heap.size + 1 + 1) (by omega) [.int .i64 0, .string ⟨#[]⟩] _ 0 BB.out
    have K4 := setL_all [.int .i64 0, .string ⟨#[]⟩] HZ.out rfl
    change bodyPost _ _ _ _ _ (setL w1 (w.heap.size + 1 + 1) 0 [.int .i64 0, .string ⟨#[]⟩])
    generalize setL w1 (w.heap.size + 1 + 1) 0 [.int .i64 0, .string ⟨#[]⟩] = W9 at *
    obtain ⟨e0, e1⟩ : _ ∧ _ := ⟨cellN K4 (i := 0) rfl, cellN K4 (i := 1) rfl⟩
    exact bodyPost_ret (v := .tuple #[.agg #[.int .i64 0, .string ⟨#[]⟩], .int .i64 1]) (by simp [results, Tryd.f16, go_sem, e0, e1]) rfl ⟨by rw [HR.out], S1⟩
  rw [hfit] at C1
  have hall : allF l = true := by
    rw [Bool.and_eq_true] at hfit
    exact hfit.1
  cases hfd : l.find? fun f => f.kind == 4 with
  | none =>
    have HR : Hid (awayF l pk pv rho rp tls = ((0, ⟨#[]⟩), 3)) := by
      show awayF _ _ _ _ _ _ = _
      unfold awayF
      rw [if_pos hfit, hfd]
    rw [find_none hfd] at C2
    clear hfd hfit
    go_enter Tryd.func16, Tryd.ntmps16
    go_wp2_with fail
    refine (C1 _ B3).out.mono ?_
    rintro e w1 ⟨rfl, hb1⟩
    go_wp2_with fail
    refine (C2 _ (bb2 B3 hb1)).out.mono ?_
    rintro e w2 ⟨rfl, hb2⟩
    have HZ := hide (bx3 (bb2 hb1 hb2)).2.2
    have BB := hide (bb2 B3 (bb2 hb1 hb2))
    have lz := liveN HZ.out
    obtain ⟨z0, z1⟩ : _ ∧ _ := ⟨cellN HZ.out (i := 0) rfl, cellN HZ.out (i := 1) rfl⟩
    clear C1 C2
    go_wp2_with fail
    have S1 := setL_below (w := w) (B := w.heap.size) (g := w.heap.size + 1 + 1) (by omega) [.int .i64 0, .string ⟨#[]⟩] _ 0 BB.out
    have K4 := setL_all [.int .i64 0, .string ⟨#[]⟩] HZ.out rfl
    change bodyPost _ _ _ _ _ (setL w2 (w.heap.size + 1 + 1) 0 [.int .i64 0, .string ⟨#[]⟩])
    generalize setL w2 (w.heap.size + 1 + 1) 0 [.int .i64 0, .string ⟨#[]⟩] = W9 at *
    obtain ⟨e0, e1⟩ : _ ∧ _ := ⟨cellN K4 (i := 0) rfl, cellN K4 (i := 1) rfl⟩
    exact bodyPost_ret (v := .tuple #[.agg #[.int .i64 0, .string ⟨#[]⟩], .int .i64 3]) (by simp [results, Tryd.f16, go_sem, e0, e1]) rfl ⟨by rw [HR.out], S1⟩
  | some f =>
    obtain ⟨k, hk, rfl, hidx⟩ := find_idx hfd
    have hk4 : l[k].kind = 4 := by
      have := List.find?_some hfd
      simpa using this
    have hmk := may_one hall (List.getElem_mem hk)
    have CIk := hide (HCI.out _ (List.getElem_mem hk) hmk hk4)
    have HD : Hid (awayF l pk pv rho rp tls = if becE l[k] pk pv rp = 0 then ((l[k].code, mkB (addrF l[k] pk pv rho rp tls)), 0) else ((0, ⟨#[]⟩), becE l[k] pk pv rp)) := by
      show awayF _ _ _ _ _ _ = _
      unfold awayF
      rw [if_pos hfit, hfd]
    rw [hidx] at C2
    have hk' : (k : Int) < (l.length : Int) := by omega
    have okk := HOK.out _ (List.getElem_mem hk)
    have C3 := fun W => hide (becomes_any l[k] pk pv rp W okk (small_len (by omega)) (small_len (by omega)))
    have hbt : (becT l[k] pk pv rp).size ≤ 100 := becT_le okk.path rp100
    have HA : Hid (addrF l[k] pk pv rho rp tls = scheme tls ++ (dl (hostOf l[k] rho) ++ portT l[k].port tls ++ dl (becT l[k] pk pv rp))) := rfl
    have hho : (hostOf l[k] rho).size ≤ 100 := by
      unfold hostOf
      split
      · exact rh100
      · exact okk.host
    have C4 := fun W => hide (host_any l[k] rho W)
    have C5 := fun W (h : Below w.heap.size w W) => hide (address_any (hostOf l[k] rho) l[k].port (becT l[k] pk pv rp) tls W (by omega) (by omega) (fun hn => (CIk.out hn).below h))
    rw [← HA.out] at C5
    obtain ⟨_, gg, off, rfl, hgg, hat⟩ := HC.out k hk
    have EL := fun W (h : Below w.heap.size w W) => EF_at (show EF.At W gg (off + k * 8) l[k] from fun j u hu => (h.cell (p := ⟨gg, off + k * 8 + j, none⟩) hgg).trans (hat j u hu))
    have HEL := hide EL
    clear hat hfd hidx hfit EL HA hbt hho okk hk4 hmk CIk HCI HC HOK hall
    generalize addrF l[k] pk pv rho rp tls = ad at *
    generalize becE l[k] pk pv rp = be at *
    generalize becT l[k] pk pv rp = bt at *
    generalize hostOf l[k] rho = ho at *
    generalize l[k] = fk at *
    obtain ⟨k0, n0, v0, h0, p0, t0, b0, z0⟩ := fk
    dsimp only at *
    by_cases he : be = 0
    · have HR : Hid (awayF l pk pv rho rp tls = ((z0, mkB ad), 0)) := by
        show _ = _
        rw [HD.out, if_pos he]
      subst he
      clear HD
      go_enter Tryd.func16, Tryd.ntmps16
      go_wp2_with fail
      refine (C1 _ B3).out.mono ?_
      rintro e w1 ⟨rfl, hb1⟩
      go_wp2_with fail
      refine (C2 _ (bb2 B3 hb1)).out.mono ?_
      rintro e w2 ⟨rfl, hb2⟩
      obtain ⟨c0, c1, c2, c3, c4, c5, c6, c7⟩ := HEL.out w2 (bb2 B3 (bb2 hb1 hb2))
      obtain ⟨b0', b1', b2'⟩ := bx3 (bb2 hb1 hb2)
      have B5 : Below w2.heap.size w2 (w2.alloc (.cells #[.int .i64 k0, .string n0, .string v0, .string h0, .int .i64 p0, .string t0, .bool b0, .int .i64 z0] 52)) := (Below.refl _ w2).alloc (Nat.le_refl _) _
      have q0 := cellN (blk_below b0' B5) (i := 0) rfl
      have q1 := cellN (blk_below b0' B5) (i := 1) rfl
      have q2 := cellN (blk_below b1' B5) (i := 2) rfl
      go_wp2_with fail
      refine (C3 _).out.mono ?_
      rintro e w3 ⟨rfl, hb3⟩
      clear c0 c1 c2 c3 c4 c5 c6 c7 q0 q1 q2
      have HB3 := fun W (h : Below w3.heap.size w3 W) => bx3 (bb2 (bb2 hb1 hb2) (bb2 (below_box hb3) h))
      have HF3 := fun W (h : Below w3.heap.size w3 W) => EF_at (boxF (f := ⟨k0, n0, v0, h0, p0, t0, b0, z0⟩) (w := w2) (bb2 hb3 h))
      have B6 := bb2 B3 (bb2 (bb2 hb1 hb2) (below_box hb3))
      have r1 := fun W h => cellN (HB3 W h).2.1 (i := 1) rfl
      have g0 := fun W h => (HF3 W h).1
      have g1 := fun W h => (HF3 W h).2.1
      have g2 := fun W h => (HF3 W h).2.2.1
      have g3 := fun W h => (HF3 W h).2.2.2.1
      have g4 := fun W h => (HF3 W h).2.2.2.2.1
      have g5 := fun W h => (HF3 W h).2.2.2.2.2.1
      have g6 := fun W h => (HF3 W h).2.2.2.2.2.2.1
      have g7 := fun W h => (HF3 W h).2.2.2.2.2.2.2
      simp only [Nat.zero_add] at g0 g1 g2 g3 g4 g5 g6 g7
      have HBH := hide HB3
      clear HB3 HF3 hb1 hb2 hb3 C1 C2 C3 b0' b1' b2' B5
      go_wp2_with fail
      refine wp_region_G 12 (fun w' => Below w3.heap.size w3 w') (by kernel_rfl) ((Below.refl _ _).drew) ?_
      refine wpG_take (i := 0) 5 (v := .pointer (some ⟨w2.heap.size, 7, none⟩)) rfl (by kernel_rfl) (by kernel_rfl) (by kernel_rfl) (by decide) (by kernel_rfl) (by kernel_rfl) (fun _ _ _ h => h) (Or.inl ⟨by rfl, fun w1 hS => ?_⟩) ?_
      · (try dsimp only at hS)
        go_simp
      simp only [Act.put, List.setIfInBounds_toArray, List.set_cons_zero, List.set_cons_succ]
      refine wpG_take (i := 1) 5 (v := .int .i64 z0) rfl (by kernel_rfl) (by kernel_rfl) (by kernel_rfl) (by decide) (by kernel_rfl) (by kernel_rfl) (fun _ _ _ h => h) (Or.inl ⟨by rfl, fun w1 hS => ?_⟩) ?_
      · (try dsimp only at hS)
        go_simp
      simp only [Act.put, List.setIfInBounds_toArray, List.set_cons_zero, List.set_cons_succ]
      refine wpG_take (i := 2) 5 (v := .agg #[.int .i64 k0, .string n0, .string v0, .string h0, .int .i64 p0, .string t0, .bool b0, .int .i64 z0]) rfl (by kernel_rfl) (by kernel_rfl) (by kernel_rfl) (by decide) (by kernel_rfl) (by kernel_rfl) (fun _ _ _ h => h) (Or.inl ⟨by rfl, fun w1 hS => ?_⟩) ?_
      · (try dsimp only at hS)
        go_simp
      simp only [Act.put, List.setIfInBounds_toArray, List.set_cons_zero, List.set_cons_succ]
      refine wpG_take (i := 3) 5 (v := .pointer (some ⟨w.heap.size + 1, 1, none⟩)) rfl (by kernel_rfl) (by kernel_rfl) (by kernel_rfl) (by decide) (by kernel_rfl) (by kernel_rfl) (fun _ _ _ h => h) (Or.inl ⟨by rfl, fun w1 hS => ?_⟩) ?_
      · (try dsimp only at hS)
        go_simp
      simp only [Act.put, List.setIfInBounds_toArray, List.set_cons_zero, List.set_cons_succ]
      refine wpG_take (i := 4) 5 (v := .string rho) rfl (by kernel_rfl) (by kernel_rfl) (by kernel_rfl) (by decide) (by kernel_rfl) (by kernel_rfl) (fun _ _ _ h => h) (Or.inl ⟨by rfl, fun w1 hS => ?_⟩) ?_
      · (try dsimp only at hS)
        go_simp
      simp only [Act.put, List.setIfInBounds_toArray, List.set_cons_zero, List.set_cons_succ]
      refine wpG_take (i := 6) 5 (v := .pointer (some ⟨w2.heap.size, 4, none⟩)) rfl (by kernel_rfl) (by kernel_rfl) (by kernel_rfl) (by decide) (by kernel_rfl) (by kernel_rfl) (fun _ _ _ h => h) (Or.inl ⟨by rfl, fun w1 hS => ?_⟩) ?_
      · (try dsimp only at hS)
        go_simp
      simp only [Act.put, List.setIfInBounds_toArray, List.set_cons_zero, List.set_cons_succ]
      refine wpG_take (i := 7) 5 (v := .int .i64 p0) rfl (by kernel_rfl) (by kernel_rfl) (by kernel_rfl) (by decide) (by kernel_rfl) (by kernel_rfl) (fun _ _ _ h => h) (Or.inl ⟨by rfl, fun w1 hS => ?_⟩) ?_
      · (try dsimp only at hS)
        go_simp
      simp only [Act.put, List.setIfInBounds_toArray, List.set_cons_zero, List.set_cons_succ]
      refine wpG_take (i := 8) 5 (v := .string bt) rfl (by kernel_rfl) (by kernel_rfl) (by kernel_rfl) (by decide) (by kernel_rfl) (by kernel_rfl) (fun _ _ _ h => h) (Or.inl ⟨by rfl, fun w1 hS => ?_⟩) ?_
      · (try dsimp only at hS)
        go_simp
      simp only [Act.put, List.setIfInBounds_toArray, List.set_cons_zero, List.set_cons_succ]
      refine wpG_take (i := 9) 5 (v := .bool tls) rfl (by kernel_rfl) (by kernel_rfl) (by kernel_rfl) (by decide) (by kernel_rfl) (by kernel_rfl) (fun _ _ _ h => h) (Or.inl ⟨by rfl, fun w1 hS => ?_⟩) ?_
      · (try dsimp only at hS)
        go_simp
      simp only [Act.put, List.setIfInBounds_toArray, List.set_cons_zero, List.set_cons_succ]
      clear r1 g0 g1 g2 g3 g4 g5 g6 g7
      refine wpG_take (i := 5) 5 (v := .string ho) rfl (by kernel_rfl) (by kernel_rfl) (by kernel_rfl) (by decide) (by kernel_rfl) (by kernel_rfl) (fun _ _ _ h => h) (Or.inl ⟨by rfl, fun w1 hS => ?_⟩) ?_
      · (try dsimp only at hS)
        go_simp
        exact calls_grow hS (Nat.le_refl _) (C4 _).out
      simp only [Act.put, List.setIfInBounds_toArray, List.set_cons_zero, List.set_cons_succ]
      refine wpG_take (i := 10) 5 (v := .string (mkB ad)) rfl (by kernel_rfl) (by kernel_rfl) (by kernel_rfl) (by decide) (by kernel_rfl) (by kernel_rfl) (fun _ _ _ h => h) (Or.inl ⟨by rfl, fun w1 hS => ?_⟩) ?_
      · (try dsimp only at hS)
        go_simp
        exact calls_grow hS (Nat.le_refl _) (C5 _ (bb2 B6 hS)).out
      simp only [Act.put, List.setIfInBounds_toArray, List.set_cons_zero, List.set_cons_succ]
      refine wpG_take (i := 11) 5 (v := .agg #[.int .i64 z0, .string (mkB ad)]) rfl (by kernel_rfl) (by kernel_rfl) (by kernel_rfl) (by decide) (by kernel_rfl) (by kernel_rfl) (fun _ _ _ h => h) (Or.inl ⟨by rfl, fun w1 hS => ?_⟩) ?_
      · (try dsimp only at hS)
        go_simp
      simp only [Act.put, List.setIfInBounds_toArray, List.set_cons_zero, List.set_cons_succ]
      refine wpG_ready (rs := [12]) (by kernel_rfl) (by simp) (fun W hG hS i hi => ?_)
      obtain rfl : i = 12 := by simpa using hi
      clear hi
      have HZ := hide (HBH.out W hS).2.2
      have BB := hide (bb2 B6 hS)
      have lz := liveN HZ.out
      obtain ⟨x0, x1⟩ : _ ∧ _ := ⟨cellN HZ.out (i := 0) rfl, cellN HZ.out (i := 1) rfl⟩
      refine wpOp_step rfl (by rfl) (fun K' hK' => ?_)
      go_simp
      refine hK' _ _ (wpG_past (by decide) ?_)
      clear hK' K' x0 x1 lz hG hS HBH
      refine wpAny_one (i := 13) (by kernel_rfl) ?_
      refine wpOp_step rfl (by rfl) (fun K' hK' => ?_)
      go_simp
      refine hK' _ _ ?_
      clear hK' K'
      refine wpAny_end (by kernel_rfl) ?_
      have S1 := setL_below (w := w) (B := w.heap.size) (g := w.heap.size + 1 + 1) (by omega) [.int .i64 z0, .string (mkB ad)] _ 0 BB.out
      have K4 := setL_all [.int .i64 z0, .string (mkB ad)] HZ.out rfl
      change Exit.then _ _ _ _ (setL W (w.heap.size + 1 + 1) 0 [.int .i64 z0, .string (mkB ad)])
      generalize setL W (w.heap.size + 1 + 1) 0 [.int .i64 z0, .string (mkB ad)] = W9 at *
      obtain ⟨e0, e1⟩ : _ ∧ _ := ⟨cellN K4 (i := 0) rfl, cellN K4 (i := 1) rfl⟩
      go_wp2_with fail
      exact bodyPost_ret (v := .tuple #[.agg #[.int .i64 z0, .string (mkB ad)], .int .i64 0]) (by simp [results, Tryd.f16, go_sem, e0, e1]) rfl ⟨by rw [HR.out], S1⟩
    · have HR : Hid (awayF l pk pv rho rp tls = ((0, ⟨#[]⟩), be)) := by
        show _ = _
        rw [HD.out, if_neg he]
      have he' : (be != 0) = true := by simpa using he
      clear HD
      go_enter Tryd.func16, Tryd.ntmps16
      go_wp2_with fail
      refine (C1 _ B3).out.mono ?_
      rintro e w1 ⟨rfl, hb1⟩
      go_wp2_with fail
      refine (C2 _ (bb2 B3 hb1)).out.mono ?_
      rintro e w2 ⟨rfl, hb2⟩
      obtain ⟨c0, c1, c2, c3, c4, c5, c6, c7⟩ := HEL.out w2 (bb2 B3 (bb2 hb1 hb2))
      obtain ⟨b0', b1', b2'⟩ := bx3 (bb2 hb1 hb2)
      have B5 : Below w2.heap.size w2 (w2.alloc (.cells #[.int .i64 k0, .string n0, .string v0, .string h0, .int .i64 p0, .string t0, .bool b0, .int .i64 z0] 52)) := (Below.refl _ w2).alloc (Nat.le_refl _) _
      have q0 := cellN (blk_below b0' B5) (i := 0) rfl
      have q1 := cellN (blk_below b0' B5) (i := 1) rfl
      have q2 := cellN (blk_below b1' B5) (i := 2) rfl
      go_wp2_with fail
      refine (C3 _).out.mono ?_
      rintro e w3 ⟨rfl, hb3⟩
      have HZ := hide (blk_below b2' (below_box hb3))
      have BB := hide (bb2 B3 (bb2 (bb2 hb1 hb2) (below_box hb3)))
      have lz := liveN HZ.out
      obtain ⟨x0, x1⟩ : _ ∧ _ := ⟨cellN HZ.out (i := 0) rfl, cellN HZ.out (i := 1) rfl⟩
      clear C1 C2 C3 c0 c1 c2 c3 c4 c5 c6 c7 q0 q1 q2
      go_wp2_with fail
      have S1 := setL_below (w := w) (B := w.heap.size) (g := w.heap.size + 1 + 1) (by omega) [.int .i64 0, .string ⟨#[]⟩] _ 0 BB.out
      have K4 := setL_all [.int .i64 0, .string ⟨#[]⟩] HZ.out rfl
      change bodyPost _ _ _ _ _ (setL w3 (w.heap.size + 1 + 1) 0 [.int .i64 0, .string ⟨#[]⟩])
      generalize setL w3 (w.heap.size + 1 + 1) 0 [.int .i64 0, .string ⟨#[]⟩] = W9 at *
      obtain ⟨e0, e1⟩ : _ ∧ _ := ⟨cellN K4 (i := 0) rfl, cellN K4 (i := 1) rfl⟩
      exact bodyPost_ret (v := .tuple #[.agg #[.int .i64 0, .string ⟨#[]⟩], .int .i64 be]) (by simp [results, Tryd.f16, go_sem, e0, e1]) rfl ⟨by rw [HR.out], S1⟩

end Go.Proofs.YtejmcemgjpcobaaDoor
