/-
  Walks: the document's becomes (of filters), Digits.
-/
import Derived.Test.YtblmdcpcekoogaaGreatDoorJ5
import Derived.Test.YtblmdcpcekoogaaGreatDoorJ4
import Derived.Test.YtblmdcpcekoogaaGreatDoorJ3
namespace Go.Proofs.YtblmdcpcekoogaaGreatDoor
set_option maxRecDepth 20000
open Go Go.RowKit Go.Shelf Fi

set_option maxHeartbeats 1600000 in
theorem rbecomes_any (f : FB) (pk : Int) (pv s : ByteArray) (w : World) (ok : OkFi f) (hv : pv.size ≤ maxLen) (hs : s.size ≤ maxLen) :
    Calls Tryz.prog 40 #[fV f, .agg #[.int .i64 pk, .string pv], .string s] w fun e w' => e = .returned (.tuple #[.string (becT f pk pv s), .int .i64 (becE f pk pv s)]) ∧ Below w.heap.size w w' := by
  have HE := @tl_emp f.path
  have HT : Hid (becT f pk pv s = if f.path.toList.isEmpty then s else if f.whole || pk == 1 then f.path else mkB (swapT pk (dl pv) (dl f.path) (dl s))) := by rw [HE]; rfl
  have HN : Hid (becE f pk pv s = if f.path.toList.isEmpty then 0 else if f.whole || pk == 1 then 0 else swapE pk (dl pv) (dl f.path) (dl s)) := by rw [HE]; rfl
  have C1 := fun W => hide (rswap_any pk pv f.path s W hv (small_len (by have := ok.path; omega)) hs)
  clear HE ok
  generalize becT f pk pv s = x at *
  generalize becE f pk pv s = y at *
  obtain ⟨k, n, v, h, p, t, b, c⟩ := f
  dsimp only at *
  generalize swapT pk (dl pv) (dl t) (dl s) = x1 at *
  generalize swapE pk (dl pv) (dl t) (dl s) = y1 at *
  cases he : t.toList.isEmpty
  · rw [he] at HT HN
    cases b
    · cases hk : (pk == 1)
      · rw [hk] at HT HN
        go_enter Tryz.func40, Tryz.ntmps40
        go_wp2_with fail
        refine ((C1 _).out).mono ?_
        rintro e w1 ⟨rfl, hb1⟩
        go_wp2_with fail
        go_ret2
        exact ⟨ret_two HT.out.symm HN.out.symm, below_b2 hb1⟩
      · rw [hk] at HT HN
        go_enter Tryz.func40, Tryz.ntmps40
        go_wp2_with fail
        go_ret2
        exact ⟨ret_two HT.out.symm HN.out.symm, ((Below.refl _ _).alloc (Nat.le_refl _) _).alloc (by simp) _⟩
    · go_enter Tryz.func40, Tryz.ntmps40
      go_wp2_with fail
      go_ret2
      exact ⟨ret_two HT.out.symm HN.out.symm, ((Below.refl _ _).alloc (Nat.le_refl _) _).alloc (by simp) _⟩
  · rw [he] at HT HN
    go_enter Tryz.func40, Tryz.ntmps40
    go_wp2_with fail
    go_ret2
    exact ⟨ret_two HT.out.symm HN.out.symm, ((Below.refl _ _).alloc (Nat.le_refl _) _).alloc (by simp) _⟩

theorem rdigs_zero : ∀ fuel, digs fuel 0 = []
  | 0 => rfl
  | _ + 1 => rfl
theorem digs_step {fuel n : Nat} (h : 0 < n) : digs (fuel + 1) n = digs fuel (n / 10) ++ [UInt8.ofNat (48 + n % 10)] := by
  show (if n = 0 then [] else _) = _
  rw [if_neg (by omega)]
theorem mkB_cons (c : UInt8) (l : List UInt8) : mkB [c] ++ mkB l = mkB (c :: l) := by
  apply ByteArray.ext
  simp [mkB]

set_option maxHeartbeats 1600000 in
theorem rdigits_any (N : Nat) (w : World) (hN : N < 100000000) :
    Calls Tryz.prog 46 #[.int .i64 N] w fun e w' => e = .returned (.string (mkB (digs 8 N))) ∧ Below w.heap.size w w' := by
  go_enter Tryz.func46, Tryz.ntmps46
  go_wp2_with fail
  go_loopw [0, 3] (fun i s wr => ∃ (m fuel : Nat) (tl : List UInt8), i = .int .i64 m ∧ s = .string (mkB tl) ∧ Hid (digs 8 N = digs fuel m ++ tl) ∧ Hid (m < 10 ^ fuel) ∧ fuel ≤ 8 ∧ Hid (tl.length = 8 - fuel) ∧ Below w.heap.size w wr) (fun i _ _ => (intOf i).toNat)
  case atStart => exact ⟨N, 8, [], rfl, rfl, by simp [Hid], by simpa [Hid] using hN, by omega, by simp [Hid], Below.refl _ _⟩
  case round =>
    obtain ⟨m, fuel, tl, rfl, rfl, hd, hlt, hf8, htl, hB⟩ := hrel
    by_cases hm : 0 < m
    · have hm' : (0 : Int) < (m : Int) := by omega
      have hfu : fuel ≠ 0 := fun e => by
        have := hlt.out
        rw [e] at this
        simp at this
        omega
      obtain ⟨fu, rfl⟩ : ∃ z, fuel = z + 1 := ⟨fuel - 1, by omega⟩
      have hlt2 : Hid (m / 10 < 10 ^ fu) := by
        have := hlt.out
        unfold Hid
        rw [Nat.pow_succ] at this
        exact Nat.div_lt_of_lt_mul (by omega)
      have hd2 : Hid (digs 8 N = digs fu (m / 10) ++ (UInt8.ofNat (48 + m % 10) :: tl)) := by
        unfold Hid
        rw [hd.out, digs_step hm, List.append_assoc]
        rfl
      have hm8 : m < 100000000 := by
        have h1 := hlt.out
        have h2 : 10 ^ (fu + 1) ≤ 10 ^ 8 := Nat.pow_le_pow_right (by omega) hf8
        have h3 : (10 : Nat) ^ 8 = 100000000 := by decide
        omega
      have e2 : (m : Int) % 10 = ((m % 10 : Nat) : Int) := by omega
      have e3 : IntKind.i64.wrap (48 + ((m % 10 : Nat) : Int)) = ((48 + m % 10 : Nat) : Int) := by rw [IntKind.wrap_i64]; omega
      have e4 : ((UInt8.ofNat (48 + m % 10)).toNat : Int) = 48 + ((m % 10 : Nat) : Int) := by
        have : (UInt8.ofNat (48 + m % 10)).toNat = (48 + m % 10) % 256 := by simp
        omega
      have e6 : (m : Int) / 10 = ((m / 10 : Nat) : Int) := by omega
      have hdl : (m / 10) < m := Nat.div_lt_self hm (by omega)
      generalize UInt8.ofNat (48 + m % 10) = c at *
      have hcv : (convert 144 9 (.slice (some ⟨wr.heap.size, 0, none⟩) 1 1)).run Tryz.prog (wr.alloc (.cells #[.int .u8 (48 + ((m % 10 : Nat) : Int))] 5)) = .ok (.string (mkB [c])) (wr.alloc (.cells #[.int .u8 (48 + ((m % 10 : Nat) : Int))] 5)) := by
        rw [← e4]
        exact some_bytes wr [c] 1
      have hsz : ¬ 9223372036854775807 < (mkB [c]).size + (mkB tl).size := by
        have h1 := htl.out
        have h2 : (mkB tl).size = tl.length := by simp [mkB, ByteArray.size]
        have h3 : (mkB [c]).size = 1 := by simp [mkB, ByteArray.size]
        omega
      have HC := hide (mkB_cons c tl)
      have htl2 : Hid ((c :: tl).length = 8 - fu) := by
        have := htl.out
        unfold Hid
        rw [List.length_cons]
        omega
      clear hd hlt htl e4
      generalize m % 10 = r at *
      generalize m / 10 = q at *
      go_wp2_with fail
      exact ⟨⟨q, fu, c :: tl, rfl, by rw [← HC.out], hd2, hlt2, by omega, htl2, hB.alloc hB.size _⟩, by simp [intOf]; omega⟩
    · have hm' : ¬ (0 : Int) < (m : Int) := by omega
      obtain rfl : m = 0 := by omega
      have he : Hid (digs 8 N = tl) := by
        unfold Hid
        rw [hd.out, rdigs_zero]
        rfl
      go_wp2_with fail
      go_ret
      exact ⟨ret_str (by rw [he.out]), hB⟩

end Go.Proofs.YtblmdcpcekoogaaGreatDoor
namespace Go.Proofs.YtblmdcpcekoogaaGreatDoor
set_option maxRecDepth 20000
open Go Go.RowKit Go.Shelf Go.Deep

set_option maxHeartbeats 800000 in
theorem rdrop_own (n : ByteArray) (v : Value) (l : List PairB) (w : World) (hn : n.size ≤ 100) (hv : Prs w v l) (hok : ∀ p ∈ l, okF p) (hl : l.length ≤ 1000) :
    Calls Tryz.prog 39 #[v, .string n] w fun e w' => ∃ v', e = .returned v' ∧ RowP w' v' (dropQ l n) ∧ Below w.heap.size w w' := by
  obtain ⟨a, cap, rfl, _, _, hc⟩ := hv
  have HC := hide hc
  have HOK := hide hok
  clear hc hok
  go_enter Tryz.func39, Tryz.ntmps39
  go_wp2_with fail
  go_loopw [5, 6] (fun o i wr => ∃ k : Nat, k ≤ l.length ∧ i = .int .i64 k ∧ wr.ownsRow w.heap.size 83 2 o (dropQ (l.take k) n).length (flat (dropQ (l.take k) n)) ∧ Below w.heap.size w wr) (fun _ i _ => l.length - (intOf i).toNat)
  case atStart => exact ⟨0, Nat.zero_le _, rfl, World.ownsRow_nil _ _ _ _, Below.refl _ _⟩
  case round =>
    obtain ⟨k, hk, rfl, hr, hB⟩ := hrel
    have HR := hide hr
    clear hr
    by_cases hlt : k < l.length
    · have hlt' : (k : Int) < (l.length : Int) := by omega
      obtain ⟨g, off, rfl, hg, c1, c2⟩ := HC.out k hlt
      replace c1 := fun W (h : Below w.heap.size w W) => (h.cell (p := ⟨g, off + k * 2, none⟩) hg).trans c1
      replace c2 := fun W (h : Below w.heap.size w W) => (h.cell (p := ⟨g, off + k * 2 + 1, none⟩) hg).trans c2
      obtain ⟨o1, o2⟩ := HOK.out _ (List.getElem_mem hlt)
      have CS := fun W => hide (rprSame_any l[k].1 n W o1 hn)
      cases hs : sameF l[k].1 n
      · have HN := hide (drop_not l n k hlt (same_turn hs))
        have hle := drop_le l n k
        rw [hs] at CS
        clear hs
        generalize l[k].1 = p1 at *
        generalize l[k].2 = p2 at *
        have d1 := c1 _ hB
        go_wp2_with fail
        refine (CS _).out.mono ?_
        rintro e w2 ⟨rfl, hb2⟩
        have hB2 := bb2 hB hb2
        clear d1
        have d1 := c1 _ hB2
        have d2 := c2 _ hB2
        have hbs := hB2.size
        go_wp2_with (at_builtin; refine wpList_append_prs _ _ _ rfl (by rfl) w.heap.size _ _ _ rfl (ownsRow_below (ownsRow_below HR.out hb2) ((Below.refl _ _).alloc (Nat.le_refl _) _)) _ _ rfl (Prs.at1 w2 _ rfl p1 p2) (by simp; omega) (by simp; omega) ?_; intro v' w3 hown' hgrow)
        refine ⟨⟨k + 1, by omega, by go_num, by rw [HN.out, List.length_append]; exact hown', ?_⟩, by simp [intOf]; omega⟩
        exact (hB2.alloc hB2.size _).grown hgrow (by simp; omega) (fun j e => ownBlock_ge HR.out e)
      · have HN := hide (drop_yes l n k hlt (same_turn hs))
        rw [hs] at CS
        clear hs
        generalize l[k].1 = p1 at *
        generalize l[k].2 = p2 at *
        have d1 := c1 _ hB
        go_wp2_with fail
        refine ((CS _).out).mono ?_
        rintro e w2 ⟨rfl, hb2⟩
        go_wp2_with fail
        exact ⟨⟨k + 1, by omega, by go_num, by rw [HN.out]; exact ownsRow_below HR.out hb2, bb2 hB hb2⟩, by simp [intOf]; omega⟩
    · have hlt' : ¬ (k : Int) < (l.length : Int) := by omega
      have hp : RowP wr u5 (dropQ l n) := by
        have := RowP.mk rfl HR.out
        rwa [List.take_of_length_le (by omega)] at this
      go_wp2_with fail
      go_ret
      exact ⟨_, rfl, hp, hB⟩

set_option maxHeartbeats 1600000 in
theorem rset_own (n x : ByteArray) (v : Value) (l : List PairB) (w : World) (hn : n.size ≤ 100) (hv : Prs w v l) (hok : ∀ p ∈ l, okF p) (hl : l.length ≤ 1000) :
    Calls Tryz.prog 38 #[v, .string n, .string x] w fun e w' => ∃ v', e = .returned v' ∧ RowP w' v' (setQ l n x) ∧ Below w.heap.size w w' := by
  obtain ⟨a, cap, rfl, _, _, hc⟩ := hv
  have HC := hide hc
  have HOK := hide hok
  clear hc hok
  go_enter Tryz.func38, Tryz.ntmps38
  go_wp2_with fail
  go_loopw [7, 8, 9] (fun o d i wr => ∃ k : Nat, k ≤ l.length ∧ i = .int .i64 k ∧ d = .bool (hasQ l n k) ∧ wr.ownsRow w.heap.size 83 2 o (setT l n x k).length (flat (setT l n x k)) ∧ Below w.heap.size w wr) (fun _ _ i _ => l.length - (intOf i).toNat)
  case atStart => exact ⟨0, Nat.zero_le _, rfl, rfl, World.ownsRow_nil _ _ _ _, Below.refl _ _⟩
  case round =>
    obtain ⟨k, hk, rfl, rfl, hr, hB⟩ := hrel
    have HR := hide hr
    clear hr
    have hle := setT_le l n x k hk
    by_cases hlt : k < l.length
    · have hlt' : (k : Int) < (l.length : Int) := by omega
      obtain ⟨g, off, rfl, hg, c1, c2⟩ := HC.out k hlt
      replace c1 := fun W (h : Below w.heap.size w W) => (h.cell (p := ⟨g, off + k * 2, none⟩) hg).trans c1
      replace c2 := fun W (h : Below w.heap.size w W) => (h.cell (p := ⟨g, off + k * 2 + 1, none⟩) hg).trans c2
      obtain ⟨o1, o2⟩ := HOK.out _ (List.getElem_mem hlt)
      have CS := fun W => hide (rprSame_any l[k].1 n W o1 hn)
      cases hs : sameF l[k].1 n
      · have HN := hide (setT_other l n x k hlt hs)
        have HD := hide (hasQ_other l n k hlt hs)
        rw [hs] at CS
        clear hs
        generalize l[k].1 = p1 at *
        generalize l[k].2 = p2 at *
        generalize hasQ l n k = dn at *
        have d1 := c1 _ hB
        go_wp2_with fail
        refine (CS _).out.mono ?_
        rintro e w2 ⟨rfl, hb2⟩
        have hB2 := bb2 hB hb2
        clear d1
        have d1 := c1 _ hB2
        have d2 := c2 _ hB2
        have hbs := hB2.size
        go_wp2_with (at_builtin; refine wpList_append_prs _ _ _ rfl (by rfl) w.heap.size _ _ _ rfl (ownsRow_below (ownsRow_below HR.out hb2) ((Below.refl _ _).alloc (Nat.le_refl _) _)) _ _ rfl (Prs.at1 w2 _ rfl p1 p2) (by simp; omega) (by simp; omega) ?_; intro v' w3 hown' hgrow)
        refine ⟨⟨k + 1, by omega, by go_num, by rw [HD.out], by rw [HN.out, List.length_append]; exact hown', ?_⟩, by simp [intOf]; omega⟩
        exact (hB2.alloc hB2.size _).grown hgrow (by simp; omega) (fun j e => ownBlock_ge HR.out e)
      · have HD := hide (hasQ_same l n k hlt hs)
        cases hd : hasQ l n k
        · have HN := hide (setT_first l n x k hlt hs hd)
          rw [hs] at CS
          clear hs hd
          generalize l[k].1 = p1 at *
          generalize l[k].2 = p2 at *
          have d1 := c1 _ hB
          go_wp2_with fail
          refine (CS _).out.mono ?_
          rintro e w2 ⟨rfl, hb2⟩
          have hB2 := bb2 hB hb2
          clear d1
          have hbs := hB2.size
          go_wp2_with (at_builtin; refine wpList_append_prs _ _ _ rfl (by rfl) w.heap.size _ _ _ rfl (ownsRow_below (ownsRow_below HR.out hb2) ((Below.refl _ _).alloc (Nat.le_refl _) _)) _ _ rfl (Prs.at1 w2 _ rfl n x) (by simp; omega) (by simp; omega) ?_; intro v' w3 hown' hgrow)
          refine ⟨⟨k + 1, by omega, by go_num, by rw [HD.out], by rw [HN.out, List.length_append]; exact hown', ?_⟩, by simp [intOf]; omega⟩
          exact (hB2.alloc hB2.size _).grown hgrow (by simp; omega) (fun j e => ownBlock_ge HR.out e)
        · have HN := hide (setT_again l n x k hlt hs hd)
          rw [hs] at CS
          clear hs hd
          generalize l[k].1 = p1 at *
          generalize l[k].2 = p2 at *
          have d1 := c1 _ hB
          go_wp2_with fail
          refine ((CS _).out).mono ?_
          rintro e w2 ⟨rfl, hb2⟩
          go_wp2_with fail
          exact ⟨⟨k + 1, by omega, by go_num, by rw [HD.out], by rw [HN.out]; exact ownsRow_below HR.out hb2, bb2 hB hb2⟩, by simp [intOf]; omega⟩
    · have hlt' : ¬ (k : Int) < (l.length : Int) := by omega
      obtain rfl : k = l.length := by omega
      cases hd : hasQ l n l.length
      · have HS := hide (setT_undone l n x hd)
        clear hd
        have hbs := hB.size
        go_wp2_with (at_builtin; refine wpList_append_prs _ _ _ rfl (by rfl) w.heap.size _ _ _ rfl (ownsRow_below HR.out ((Below.refl _ _).alloc (Nat.le_refl _) _)) _ _ rfl (Prs.at1 wr _ rfl n x) (by simp; omega) (by simp; omega) ?_; intro v' w3 hown' hgrow)
        go_ret
        exact ⟨_, rfl, by rw [HS.out]; exact RowP.mk (by simp) hown', (hB.alloc hB.size _).grown hgrow (by simp; omega) (fun j e => ownBlock_ge HR.out e)⟩
      · have HS := hide (setT_done l n x hd)
        clear hd
        go_wp2_with fail
        go_ret
        exact ⟨_, rfl, by rw [HS.out]; exact RowP.mk rfl HR.out, hB⟩

end Go.Proofs.YtblmdcpcekoogaaGreatDoor
namespace Go.Proofs.YtblmdcpcekoogaaGreatDoor
set_option maxRecDepth 20000
open Go Go.RowKit Go.Shelf Fi

/-- what holds at each round of the document's Do -/
structure RDo (w : World) (pk : Int) (pv : ByteArray) (y : RV) (W : World) : Prop where
  own : y.own W
  pth : W.heap[w.heap.size]? = some (.cells #[.int .i64 pk, .string pv] 24)
  req : W.heap[w.heap.size + 1]? = some (.cells #[.string y.r.meth, .string y.r.host, .string y.r.path, .slice y.aq y.r.query.length y.cq, .slice y.ah y.r.head.length y.ch] 27)
  res : W.heap[w.heap.size + 1 + 1]? = some (.cells #[.string ⟨#[]⟩, .string ⟨#[]⟩, .string ⟨#[]⟩, .slice none 0 0, .slice none 0 0] 27)
  below : Below w.heap.size w W
theorem RDo.grow {w : World} {pk : Int} {pv : ByteArray} {y : RV} {W W2 : World} (h : RDo w pk pv y W) (hb : Below W.heap.size W W2) : RDo w pk pv y W2 :=
  ⟨h.own.below hb, blk_below h.pth hb, blk_below h.req hb, blk_below h.res hb, bb2 h.below hb⟩

/-- its head is stored anew -/
theorem RDo.head {w : World} {pk : Int} {pv : ByteArray} {y : RV} {W : World} (h : RDo w pk pv y W) {nl : List PairB} {a' : Option Addr} {c' : Nat} (hr : RowP W (.slice a' nl.length c') nl) :
    RDo w pk pv ⟨{ y.r with head := nl }, y.aq, y.cq, a', c'⟩ (setL W (w.heap.size + 1) 4 [.slice a' nl.length c']) := by
  obtain ⟨b, hr⟩ := hr
  obtain ⟨⟨bq, hq⟩, _⟩ := h.own
  have K := setL_at (g := w.heap.size + 1) (t := 27) [.slice a' nl.length c'] [.string y.r.meth, .string y.r.host, .string y.r.path, .slice y.aq y.r.query.length y.cq] [.slice y.ah y.r.head.length y.ch] W h.req rfl
  exact ⟨⟨⟨bq, row_setL hq h.req (by decide)⟩, b, row_setL hr h.req (by decide)⟩, (setL_far (by omega) _ _ _).trans h.pth, K, (setL_far (by omega) _ _ _).trans h.res, setL_below (by omega) _ _ _ h.below⟩
/-- its host is stored anew -/
theorem RDo.host {w : World} {pk : Int} {pv : ByteArray} {y : RV} {W : World} (h : RDo w pk pv y W) (s : ByteArray) :
    RDo w pk pv ⟨{ y.r with host := s }, y.aq, y.cq, y.ah, y.ch⟩ (W.setCell ⟨w.heap.size + 1, 1, none⟩ (.string s)) := by
  have K := set_blk (i := 1) (.string s) h.req
  exact ⟨RV.own.setL (k := 1) (cs := [.string s]) h.own h.req (by decide), (setL_far (g := w.heap.size + 1) (by omega) [.string s] W 1).trans h.pth, K, (setL_far (g := w.heap.size + 1) (by omega) [.string s] W 1).trans h.res, setL_below (g := w.heap.size + 1) (by omega) [.string s] W 1 h.below⟩
/-- its path is stored anew -/
theorem RDo.path {w : World} {pk : Int} {pv : ByteArray} {y : RV} {W : World} (h : RDo w pk pv y W) (s : ByteArray) :
    RDo w pk pv ⟨{ y.r with path := s }, y.aq, y.cq, y.ah, y.ch⟩ (W.setCell ⟨w.heap.size + 1, 2, none⟩ (.string s)) := by
  have K := set_blk (i := 2) (.string s) h.req
  exact ⟨RV.own.setL (k := 2) (cs := [.string s]) h.own h.req (by decide), (setL_far (g := w.heap.size + 1) (by omega) [.string s] W 2).trans h.pth, K, (setL_far (g := w.heap.size + 1) (by omega) [.string s] W 2).trans h.res, setL_below (g := w.heap.size + 1) (by omega) [.string s] W 2 h.below⟩

set_option maxHeartbeats 3200000 in
theorem rdo_no (vl : Value) (l : List FB) (pk : Int) (pv : ByteArray) (x : RV) (w : World) (hv : Sl EF w vl l) (ok : ∀ f ∈ l, OkFi f) (hl : l.length ≤ 1000) (hpv : pv.size ≤ 100) (okr : OkR x.r) (hfit : (allF l && holdP pk (dl pv) (dl x.r.path)) = false) :
    Calls Tryz.prog 13 #[vl, .agg #[.int .i64 pk, .string pv], rV x.r x.vq x.vh] w fun e w' => ∃ y : RV, e = rqE y (doF l pk pv x.r).2 ∧ y.r = (doF l pk pv x.r).1 ∧ y.own w' ∧ Below w.heap.size w w' := by
  have C1 := fun W (h : Below w.heap.size w W) => hide (frall_any vl l W (hv.below h) ok hl)
  have C2 := fun W => hide (prholds_any pk pv x.r.path W (small_len (by omega)) (small_len (by have := okr.path; omega)))
  obtain ⟨⟨rm, rho, rp, qu, hd⟩, aq, cq, ah, ch⟩ := x
  dsimp only at *
  obtain ⟨a, cap, rfl⟩ := hv.form
  clear hv ok okr hpv
  have B3 := below_3 (w := w) (.cells #[.int .i64 pk, .string pv] 24) (.cells #[.string rm, .string rho, .string rp, .slice aq qu.length cq, .slice ah hd.length ch] 27) (.cells #[.string ⟨#[]⟩, .string ⟨#[]⟩, .string ⟨#[]⟩, .slice none 0 0, .slice none 0 0] 27)
  have HR : Hid (doF l pk pv ⟨rm, rho, rp, qu, hd⟩ = (zeroR, 1)) := by
    show doF _ _ _ _ = _
    unfold doF
    rw [if_neg (by rw [hfit]; decide)]
  cases h1 : allF l
  · rw [h1] at C1
    clear hfit h1
    go_enter Tryz.func13, Tryz.ntmps13
    go_wp2_with fail
    refine (C1 _ B3).out.mono ?_
    rintro e w1 ⟨rfl, hb1⟩
    have HZ := hide (bx3 hb1).2.2
    have BB := hide (bb2 B3 hb1)
    have lz := liveN HZ.out
    obtain ⟨z0, z1, z2, z3, z4⟩ : _ ∧ _ ∧ _ ∧ _ ∧ _ := ⟨cellN HZ.out (i := 0) rfl, cellN HZ.out (i := 1) rfl, cellN HZ.out (i := 2) rfl, cellN HZ.out (i := 3) rfl, cellN HZ.out (i := 4) rfl⟩
    clear C1 C2
    go_wp2_with fail
    have S1 := setL_below (w := w) (B := w.heap.size) (g := w.heap.size + 1 + 1) (by omega) [.string ⟨#[]⟩, .string ⟨#[]⟩, .string ⟨#[]⟩, .slice none 0 0, .slice none 0 0] _ 0 BB.out
    have K4 := setL_all [.string ⟨#[]⟩, .string ⟨#[]⟩, .string ⟨#[]⟩, .slice none 0 0, .slice none 0 0] HZ.out rfl
    change bodyPost _ _ _ _ _ (setL w1 (w.heap.size + 1 + 1) 0 [.string ⟨#[]⟩, .string ⟨#[]⟩, .string ⟨#[]⟩, .slice none 0 0, .slice none 0 0])
    generalize setL w1 (w.heap.size + 1 + 1) 0 [.string ⟨#[]⟩, .string ⟨#[]⟩, .string ⟨#[]⟩, .slice none 0 0, .slice none 0 0] = W9 at *
    obtain ⟨e0, e1, e2, e3, e4⟩ : _ ∧ _ ∧ _ ∧ _ ∧ _ := ⟨cellN K4 (i := 0) rfl, cellN K4 (i := 1) rfl, cellN K4 (i := 2) rfl, cellN K4 (i := 3) rfl, cellN K4 (i := 4) rfl⟩
    exact bodyPost_ret (v := .tuple #[.agg #[.string ⟨#[]⟩, .string ⟨#[]⟩, .string ⟨#[]⟩, .slice none 0 0, .slice none 0 0], .int .i64 1]) (by simp [results, Tryz.f13, go_sem, e0, e1, e2, e3, e4]) rfl ⟨zeroRV, by rw [HR.out]; rfl, by rw [HR.out]; rfl, zeroRV_own _, S1⟩
  · rw [h1, Bool.true_and] at hfit
    rw [h1] at C1
    rw [show holdP pk pv.data.toList rp.data.toList = false from hfit] at C2
    clear hfit h1
    go_enter Tryz.func13, Tryz.ntmps13
    go_wp2_with fail
    refine (C1 _ B3).out.mono ?_
    rintro e w1 ⟨rfl, hb1⟩
    obtain ⟨k0, k1, k2⟩ := bx3 hb1
    have p0 := cellN k0 (i := 0) rfl
    have p1 := cellN k0 (i := 1) rfl
    have r2 := cellN k1 (i := 2) rfl
    have BB1 := hide (bb2 B3 hb1)
    go_wp2_with fail
    refine (C2 _).out.mono ?_
    rintro e w2 ⟨rfl, hb2⟩
    have HZ := hide (blk_below k2 hb2)
    have BB := hide (bb2 BB1.out hb2)
    clear p0 p1 r2 k0 k1 k2
    have lz := liveN HZ.out
    obtain ⟨z0, z1, z2, z3, z4⟩ : _ ∧ _ ∧ _ ∧ _ ∧ _ := ⟨cellN HZ.out (i := 0) rfl, cellN HZ.out (i := 1) rfl, cellN HZ.out (i := 2) rfl, cellN HZ.out (i := 3) rfl, cellN HZ.out (i := 4) rfl⟩
    clear C1 C2
    go_wp2_with fail
    have S1 := setL_below (w := w) (B := w.heap.size) (g := w.heap.size + 1 + 1) (by omega) [.string ⟨#[]⟩, .string ⟨#[]⟩, .string ⟨#[]⟩, .slice none 0 0, .slice none 0 0] _ 0 BB.out
    have K4 := setL_all [.string ⟨#[]⟩, .string ⟨#[]⟩, .string ⟨#[]⟩, .slice none 0 0, .slice none 0 0] HZ.out rfl
    change bodyPost _ _ _ _ _ (setL w2 (w.heap.size + 1 + 1) 0 [.string ⟨#[]⟩, .string ⟨#[]⟩, .string ⟨#[]⟩, .slice none 0 0, .slice none 0 0])
    generalize setL w2 (w.heap.size + 1 + 1) 0 [.string ⟨#[]⟩, .string ⟨#[]⟩, .string ⟨#[]⟩, .slice none 0 0, .slice none 0 0] = W9 at *
    obtain ⟨e0, e1, e2, e3, e4⟩ : _ ∧ _ ∧ _ ∧ _ ∧ _ := ⟨cellN K4 (i := 0) rfl, cellN K4 (i := 1) rfl, cellN K4 (i := 2) rfl, cellN K4 (i := 3) rfl, cellN K4 (i := 4) rfl⟩
    exact bodyPost_ret (v := .tuple #[.agg #[.string ⟨#[]⟩, .string ⟨#[]⟩, .string ⟨#[]⟩, .slice none 0 0, .slice none 0 0], .int .i64 1]) (by simp [results, Tryz.f13, go_sem, e0, e1, e2, e3, e4]) rfl ⟨zeroRV, by rw [HR.out]; rfl, by rw [HR.out]; rfl, zeroRV_own _, S1⟩

end Go.Proofs.YtblmdcpcekoogaaGreatDoor
namespace Go.Proofs.YtblmdcpcekoogaaGreatDoor
set_option maxRecDepth 20000
open Go Go.RowKit Go.Shelf Fi

theorem prs_blk {w : World} {p : Nat} {a b : ByteArray} (h : w.heap[p]? = some (.cells #[.string a, .string b] 83)) : Prs w (.slice (some ⟨p, 0, none⟩) 1 1) [(a, b)] := by
  refine ⟨_, 1, rfl, Nat.le_refl _, by decide, fun i hi => ⟨p, 0, rfl, lt_blk h, ?_, ?_⟩⟩
  · obtain rfl : i = 0 := by simpa using hi
    exact cellN h rfl
  · obtain rfl : i = 0 := by simpa using hi
    exact cellN h rfl
theorem wp_append_prs {o : Oper} {a : Act} {Q : Exit → Act → World → Prop} {K : Act → World → Prop} (w : World) (s x : Operand)
    (ho : o.op = .call { callee := .builtin .append, args := #[s, x], argTypes := #[25, 25] })
    (base : Nat) (v : Value) (n : Nat) (xs : List PairB) (hs : a.eval s = v) (hown : w.ownsRow base 83 2 v n (flat xs))
    (y : Value) (l : List PairB) (hy : a.eval x = y) (hl : Prs w y l) (hn : n + l.length ≤ 100000) (hbase : base ≤ w.heap.size)
    (h : ∀ v' w', w'.ownsRow base 83 2 v' (n + l.length) (flat (xs ++ l)) → w.grownBy w' v.ownBlock → K (a.put o.dst v') w') : o.wp Tryz.prog a w K Q := by
  obtain ⟨i0, hi, hz0, hz1, hz2⟩ := info_parts Tryz.infoPair
  exact wp_append_any w s x _ ho base _ i0 _ 2 32 Tryz.underlying25 hi hz0 hz1 hz2 rfl (by decide) v n (flat xs) hs hown y l.length (flat l) hy hl.lies (flat_len l) (flat_one l) (by unfold maxLen; omega) (by omega) hbase (fun v' w' h2 h3 => h v' w' (by rw [flat_append]; exact h2) h3)

set_option maxHeartbeats 12800000 in
theorem rdo_yes (vl : Value) (l : List FB) (pk : Int) (pv : ByteArray) (x : RV) (w : World) (hv : Sl EF w vl l) (ok : ∀ f ∈ l, OkFi f) (hpv : pv.size ≤ 100) (hx : x.own w) (okr : OkR x.r) (hfit : (allF l && holdP pk (dl pv) (dl x.r.path)) = true) :
    Calls Tryz.prog 13 #[vl, .agg #[.int .i64 pk, .string pv], rV x.r x.vq x.vh] w fun e w' => ∃ y : RV, e = rqE y (doF l pk pv x.r).2 ∧ y.r = (doF l pk pv x.r).1 ∧ y.own w' ∧ Below w.heap.size w w' := by
  obtain ⟨hall, hhold⟩ := Bool.and_eq_true _ _ ▸ hfit
  have l8 : l.length ≤ 8 := (allF_iff.1 hall).1
  have C1 := fun W (h : Below w.heap.size w W) => hide (frall_any vl l W (hv.below h) ok (by omega))
  have C2 := fun W => hide (prholds_any pk pv x.r.path W (small_len (by omega)) (small_len (by have := okr.path; omega)))
  rw [hall] at C1
  rw [show holdP pk pv.data.toList x.r.path.data.toList = true from hhold] at C2
  have HST : Hid (StOk x.r 0) := ⟨by have := okr.hlen; omega, okr.head, okr.path⟩
  have HKD := hide (fun k (hk : k < l.length) => may_kind (may_one hall (List.getElem_mem hk)))
  have HOK := hide ok
  have hlen := hv.len
  have HX0 := hide hx
  have HDO : Hid (doF l pk pv x.r = match runF pk pv l x.r with
    | .error e => (zeroR, e)
    | .ok a => if 30 < a.head.length then (zeroR, 5) else (a, 0)) := by
    show doF _ _ _ _ = _
    unfold doF
    rw [if_pos hfit]
    rfl
  obtain ⟨a, cap, rfl, hcap, hmax, hc⟩ := hv
  have HC := hide hc
  clear hc ok okr hfit hall hhold hx
  have HR0 : Hid (runF pk pv (l.take 0) x.r = .ok x.r) := rfl
  obtain ⟨⟨rm, rho, rp, qu, hd⟩, aq, cq, ah, ch⟩ := x
  dsimp only at *
  have B3 := below_3 (w := w) (.cells #[.int .i64 pk, .string pv] 24) (.cells #[.string rm, .string rho, .string rp, .slice aq qu.length cq, .slice ah hd.length ch] 27) (.cells #[.string ⟨#[]⟩, .string ⟨#[]⟩, .string ⟨#[]⟩, .slice none 0 0, .slice none 0 0] 27)
  go_enter Tryz.func13, Tryz.ntmps13
  go_wp2_with fail
  refine (C1 _ B3).out.mono ?_
  rintro e w1 ⟨rfl, hb1⟩
  obtain ⟨k0, k1, k2⟩ := bx3 hb1
  have q0 := cellN k0 (i := 0) rfl
  have q1 := cellN k0 (i := 1) rfl
  have q2 := cellN k1 (i := 2) rfl
  go_wp2_with fail
  refine (C2 _).out.mono ?_
  rintro e w2 ⟨rfl, hb2⟩
  have R2 : RDo w pk pv ⟨⟨rm, rho, rp, qu, hd⟩, aq, cq, ah, ch⟩ w2 := ⟨(HX0.out.below (bb2 B3 hb1)).below hb2, blk_below k0 hb2, blk_below k1 hb2, blk_below k2 hb2, bb2 (bb2 B3 hb1) hb2⟩
  clear q0 q1 q2 k0 k1 k2 hb1 hb2 C1 C2 B3 HX0
  have R2H := hide R2
  clear R2
  go_wp2_with fail
  go_loopw [8] (fun i wr => ∃ (k : Nat) (y : RV), k ≤ l.length ∧ i = .int .i64 k ∧ Hid (runF pk pv (l.take k) ⟨rm, rho, rp, qu, hd⟩ = .ok y.r) ∧ Hid (StOk y.r k) ∧ RDo w pk pv y wr) (fun i _ => l.length - (intOf i).toNat)
  case atStart => exact ⟨0, ⟨⟨rm, rho, rp, qu, hd⟩, aq, cq, ah, ch⟩, Nat.zero_le _, rfl, HR0, HST, R2H.out⟩
  case round =>
    clear HR0 HST R2H
    obtain ⟨k, y, hk, rfl, hrun, hst, hR⟩ := hrel
    have hyl := hst.out.len
    by_cases hlt : k < l.length
    · have hlt' : (k : Int) < (l.length : Int) := by omega
      obtain ⟨_, g, off, rfl, hg, hat⟩ := HC.out k hlt
      obtain ⟨c0, c1, c2, c3, c4, c5, c6, c7⟩ := EF_at (show EF.At wr g (off + k * 8) l[k] from hat.below hg hR.below)
      have okk := HOK.out _ (List.getElem_mem hlt)
      have hkd := HKD.out k hlt
      have HS : Hid (∀ y', stepF pk pv y.r l[k] = .ok y' → Hid (runF pk pv (l.take (k + 1)) ⟨rm, rho, rp, qu, hd⟩ = .ok y') ∧ Hid (StOk y' (k + 1))) := fun y' h => ⟨by unfold Hid; rw [run_take hlt, hrun.out]; exact h, step_ok okk hst.out h⟩
      have HER : Hid (∀ e, stepF pk pv y.r l[k] = .error e → doF l pk pv ⟨rm, rho, rp, qu, hd⟩ = (zeroR, e)) := fun e h => by
        rw [HDO.out, run_stop (n := k + 1) (by rw [run_take hlt, hrun.out]; exact h)]
      clear hat HKD
      generalize l[k] = f at *
      obtain ⟨kf, n0, v0, h0, p0, t0, b0, z0⟩ := f
      dsimp only at *
      have hn0 := okk.name
      rcases hkd with rfl | rfl | rfl | rfl | rfl
      · have RF := hide (hR.grow ((Below.refl wr.heap.size wr).alloc (Nat.le_refl _) (.cells #[.int .i64 1, .string n0, .string v0, .string h0, .int .i64 p0, .string t0, .bool b0, .int .i64 z0] 87)))
        have r4 := cellN RF.out.req (i := 4) rfl
        have CS := hide (rset_own n0 v0 (.slice y.ah y.r.head.length y.ch) y.r.head (wr.alloc (.cells #[.int .i64 1, .string n0, .string v0, .string h0, .int .i64 p0, .string t0, .bool b0, .int .i64 z0] 87)) hn0 RF.out.own.at_.2 hst.out.head (by omega))
        obtain ⟨S1, S2⟩ := HS.out { y.r with head := (setQ y.r.head n0 v0) } rfl
        clear HS HER
        go_wp2_with fail
        refine CS.out.mono ?_
        rintro e w5 ⟨v5, rfl, ⟨b5, hr5⟩, hb5⟩
        obtain ⟨a5, c5, hv5⟩ := row_form hr5
        subst hv5
        have R5 := RF.out.grow hb5
        have lz := liveN R5.req
        have z4 := cellN R5.req (i := 4) rfl
        have R6 := hide (R5.head ⟨b5, hr5⟩)
        clear r4 CS RF
        go_wp2_with fail
        exact ⟨⟨k + 1, ⟨{ y.r with head := (setQ y.r.head n0 v0) }, y.aq, y.cq, a5, c5⟩, by omega, by go_num, S1, S2, R6.out⟩, by simp [intOf]; omega⟩
      · have RF := hide (hR.grow ((Below.refl wr.heap.size wr).alloc (Nat.le_refl _) (.cells #[.int .i64 2, .string n0, .string v0, .string h0, .int .i64 p0, .string t0, .bool b0, .int .i64 z0] 87)))
        have KF := hide (alloc_new wr (.cells #[.int .i64 2, .string n0, .string v0, .string h0, .int .i64 p0, .string t0, .bool b0, .int .i64 z0] 87))
        obtain ⟨nl, hnl⟩ : ∃ z, z = y.r.head ++ [(n0, v0)] := ⟨_, rfl⟩
        have HNL := hide hnl
        obtain ⟨S1, S2⟩ := HS.out { y.r with head := nl } (by rw [hnl]; rfl)
        clear HS HER hnl
        go_wp2_with fail
        generalize wr.alloc (.cells #[.int .i64 2, .string n0, .string v0, .string h0, .int .i64 p0, .string t0, .bool b0, .int .i64 z0] 87) = wf at *
        generalize wr.heap.size = gf at *
        have m1 : ∀ W, Below wf.heap.size wf W → W.cell? ⟨w.heap.size + 1, 4, none⟩ = some (.slice y.ah y.r.head.length y.ch) := fun W hW => cellN (blk_below RF.out.req hW) rfl
        have m2 : ∀ W, Below wf.heap.size wf W → W.cell? ⟨gf, 1, none⟩ = some (.string n0) := fun W hW => cellN (blk_below KF.out hW) rfl
        have m3 : ∀ W, Below wf.heap.size wf W → W.cell? ⟨gf, 2, none⟩ = some (.string v0) := fun W hW => cellN (blk_below KF.out hW) rfl
        refine wp_region_G 12 (fun W => Below wf.heap.size wf W) (by kernel_rfl) ((Below.refl _ _).drew) ?_
        refine wpG_take (i := 1) 5 (v := .pointer (some ⟨w.heap.size + 1, 4, none⟩)) rfl (by kernel_rfl) (by kernel_rfl) (by kernel_rfl) (by decide) (by kernel_rfl) (by kernel_rfl) (fun _ _ _ h => h) (Or.inl ⟨by rfl, fun w1 hS => ?_⟩) ?_
        · (try dsimp only at hS)
          go_simp
        simp only [Act.put, List.setIfInBounds_toArray, List.set_cons_zero, List.set_cons_succ]
        refine wpG_take (i := 2) 5 (v := .slice y.ah y.r.head.length y.ch) rfl (by kernel_rfl) (by kernel_rfl) (by kernel_rfl) (by decide) (by kernel_rfl) (by kernel_rfl) (fun _ _ _ h => h) (Or.inl ⟨by rfl, fun w1 hS => ?_⟩) ?_
        · (try dsimp only at hS)
          go_simp
        simp only [Act.put, List.setIfInBounds_toArray, List.set_cons_zero, List.set_cons_succ]
        refine wpG_take (i := 4) 5 (v := .pointer (some ⟨gf, 1, none⟩)) rfl (by kernel_rfl) (by kernel_rfl) (by kernel_rfl) (by decide) (by kernel_rfl) (by kernel_rfl) (fun _ _ _ h => h) (Or.inl ⟨by rfl, fun w1 hS => ?_⟩) ?_
        · (try dsimp only at hS)
          go_simp
        simp only [Act.put, List.setIfInBounds_toArray, List.set_cons_zero, List.set_cons_succ]
        refine wpG_take (i := 5) 5 (v := .string n0) rfl (by kernel_rfl) (by kernel_rfl) (by kernel_rfl) (by decide) (by kernel_rfl) (by kernel_rfl) (fun _ _ _ h => h) (Or.inl ⟨by rfl, fun w1 hS => ?_⟩) ?_
        · (try dsimp only at hS)
          go_simp
        simp only [Act.put, List.setIfInBounds_toArray, List.set_cons_zero, List.set_cons_succ]
        refine wpG_take (i := 6) 5 (v := .pointer (some ⟨gf, 2, none⟩)) rfl (by kernel_rfl) (by kernel_rfl) (by kernel_rfl) (by decide) (by kernel_rfl) (by kernel_rfl) (fun _ _ _ h => h) (Or.inl ⟨by rfl, fun w1 hS => ?_⟩) ?_
        · (try dsimp only at hS)
          go_simp
        simp only [Act.put, List.setIfInBounds_toArray, List.set_cons_zero, List.set_cons_succ]
        refine wpG_take (i := 7) 5 (v := .string v0) rfl (by kernel_rfl) (by kernel_rfl) (by kernel_rfl) (by decide) (by kernel_rfl) (by kernel_rfl) (fun _ _ _ h => h) (Or.inl ⟨by rfl, fun w1 hS => ?_⟩) ?_
        · (try dsimp only at hS)
          go_simp
        simp only [Act.put, List.setIfInBounds_toArray, List.set_cons_zero, List.set_cons_succ]
        refine wpG_take (i := 8) 5 (v := .agg #[.string n0, .string v0]) rfl (by kernel_rfl) (by kernel_rfl) (by kernel_rfl) (by decide) (by kernel_rfl) (by kernel_rfl) (fun _ _ _ h => h) (Or.inl ⟨by rfl, fun w1 hS => ?_⟩) ?_
        · (try dsimp only at hS)
          go_simp
        simp only [Act.put, List.setIfInBounds_toArray, List.set_cons_zero, List.set_cons_succ]
        have HD0 := hide RF.out.own.at_.2
        clear m1 m2 m3
        refine wpG_ready (rs := [0, 9]) (by kernel_rfl) (by simp) (fun wA hGwA hSwA i hi => ?_)
        rcases (show i = 0 ∨ i = 9 by simpa using hi) with rfl | rfl
        · clear hi
          refine wpOp_step rfl (by rfl) (fun K' hK' => ?_)
          replace hK' := hide hK'
          go_simp
          have R0 := owns_emptyT 83 2 wA _ rfl
          refine hK'.out _ _ (wpG_kept (by decide) (hSwA.alloc hSwA.size _) ?_)
          clear hK' K'
          refine wpG_ready (rs := [3, 9]) (by kernel_rfl) (by simp) (fun wB hGwB hSwB i hi => ?_)
          rcases (show i = 3 ∨ i = 9 by simpa using hi) with rfl | rfl
          · clear hi
            have BSZ := show wA.heap.size ≤ wB.heap.size from Nat.le_trans (by simp) hGwB.size
            refine wpOp_step rfl (by rfl) (fun K' hK' => ?_)
            replace hK' := hide hK'
            have RW := ownsRow_below R0 hGwB
            refine wp_append_prs _ _ _ rfl wA.heap.size _ 0 [] rfl RW _ _ rfl (HD0.out.below hSwB) (by omega) (by have := BSZ; omega) ?_
            intro v3 w4 r4 g4
            have hS4 := hSwB.grown g4 hSwB.size (fun j e => Nat.le_trans hSwA.size (ownBlock_ge RW e))
            refine hK'.out _ _ (wpG_kept (by decide) hS4 ?_)
            clear hK' K'
            try simp only [Act.put, List.setIfInBounds_toArray, List.set_cons_zero, List.set_cons_succ]
            refine wpG_ready (rs := [9]) (by kernel_rfl) (by simp) (fun wC hGwC hSwC i hi => ?_)
            obtain rfl : i = 9 := by simpa using hi
            clear hi
            refine wpOp_step rfl (by rfl) (fun K' hK' => ?_)
            replace hK' := hide hK'
            go_simp
            refine hK'.out _ _ (wpG_kept (by decide) (hSwC.alloc hSwC.size _) ?_)
            clear hK' K'
            refine wpG_ready (rs := [10]) (by kernel_rfl) (by simp) (fun wD hGwD hSwD i hi => ?_)
            obtain rfl : i = 10 := by simpa using hi
            clear hi
            have BSZ := Nat.le_trans (show wA.heap.size ≤ wB.heap.size from Nat.le_trans (by simp) hGwB.size) (Nat.le_trans g4.size (Nat.le_trans hGwC.size (Nat.le_trans (by simp) hGwD.size)))
            refine wpOp_step rfl (by rfl) (fun K' hK' => ?_)
            replace hK' := hide hK'
            have RW2 := ownsRow_below (ownsRow_below r4 hGwC) (below_box hGwD)
            refine wp_append_prs _ _ _ rfl wA.heap.size _ _ _ rfl RW2 _ _ rfl (prs_blk (box_block hGwD)) (by simp; omega) (by have := BSZ; omega) ?_
            intro v5 w6 r6 g6
            have hS6 := hSwD.grown g6 hSwD.size (fun j e => Nat.le_trans hSwA.size (ownBlock_ge RW2 e))
            have r7 : w6.ownsRow wA.heap.size 83 2 v5 nl.length (flat nl) := by rw [HNL.out]; simpa using r6
            obtain ⟨a5, c5, hv5⟩ := row_form r7
            subst hv5
            refine hK'.out _ _ (wpG_kept (by decide) hS6 ?_)
            clear hK' K'
            try simp only [Act.put, List.setIfInBounds_toArray, List.set_cons_zero, List.set_cons_succ]
            refine wpG_take (i := 11) 5 (v := .pointer (some ⟨w.heap.size + 1, 4, none⟩)) rfl (by kernel_rfl) (by kernel_rfl) (by kernel_rfl) (by decide) (by kernel_rfl) (by kernel_rfl) (fun _ _ _ h => h) (Or.inl ⟨by rfl, fun w1 hS => ?_⟩) ?_
            · (try dsimp only at hS)
              go_simp
            simp only [Act.put, List.setIfInBounds_toArray, List.set_cons_zero, List.set_cons_succ]
            refine wpG_ready (rs := [12]) (by kernel_rfl) (by simp) (fun w12 hGw12 hSw12 i hi => ?_)
            obtain rfl : i = 12 := by simpa using hi
            clear hi
            have R5 := RF.out.grow hSw12
            have lz := liveN R5.req
            have z4 := cellN R5.req (i := 4) rfl
            have R6 := hide (R5.head ⟨_, ownsRow_below r7 hGw12⟩)
            refine wpOp_step rfl (by rfl) (fun K' hK' => ?_)
            go_simp
            refine hK' _ _ (wpG_past (by decide) ?_)
            clear hK' K'
            refine wpAny_end (by kernel_rfl) ?_
            go_wp2_with fail
            exact ⟨⟨k + 1, ⟨{ y.r with head := nl }, y.aq, y.cq, a5, c5⟩, by omega, by go_num, S1, S2, R6.out⟩, by simp [intOf]; omega⟩
          · clear hi
            refine wpOp_step rfl (by rfl) (fun K' hK' => ?_)
            replace hK' := hide hK'
            go_simp
            refine hK'.out _ _ (wpG_kept (by decide) (hSwB.alloc hSwB.size _) ?_)
            clear hK' K'
            refine wpG_ready (rs := [3]) (by kernel_rfl) (by simp) (fun wC hGwC hSwC i hi => ?_)
            obtain rfl : i = 3 := by simpa using hi
            clear hi
            have SZ1 : wA.heap.size < wB.heap.size := Nat.lt_of_lt_of_le (by simp) hGwB.size
            have BSZ : wA.heap.size ≤ wC.heap.size := Nat.le_trans (Nat.le_of_lt SZ1) (Nat.le_trans (by simp) hGwC.size)
            have KP := box_block hGwC
            refine wpOp_step rfl (by rfl) (fun K' hK' => ?_)
            replace hK' := hide hK'
            have RW := ownsRow_below (ownsRow_below R0 hGwB) (below_box hGwC)
            refine wp_append_prs _ _ _ rfl wA.heap.size _ 0 [] rfl RW _ _ rfl (HD0.out.below hSwC) (by omega) (by have := BSZ; omega) ?_
            intro v3 w4 r4 g4
            have hS4 := hSwC.grown g4 hSwC.size (fun j e => Nat.le_trans hSwA.size (ownBlock_ge RW e))
            have KQ := (g4.block wB.heap.size (lt_blk KP) (fun e => by have e2 : (some wB.heap.size : Option Nat) = some wA.heap.size := e; have e3 := Option.some.inj e2; have := SZ1; omega)).trans KP
            refine hK'.out _ _ (wpG_kept (by decide) hS4 ?_)
            clear hK' K'
            try simp only [Act.put, List.setIfInBounds_toArray, List.set_cons_zero, List.set_cons_succ]
            refine wpG_ready (rs := [10]) (by kernel_rfl) (by simp) (fun wD hGwD hSwD i hi => ?_)
            obtain rfl : i = 10 := by simpa using hi
            clear hi
            replace BSZ := Nat.le_trans BSZ (Nat.le_trans g4.size hGwD.size)
            refine wpOp_step rfl (by rfl) (fun K' hK' => ?_)
            replace hK' := hide hK'
            have RW2 := ownsRow_below r4 hGwD
            refine wp_append_prs _ _ _ rfl wA.heap.size _ _ _ rfl RW2 _ _ rfl (prs_blk (blk_below KQ hGwD)) (by simp; omega) (by have := BSZ; omega) ?_
            intro v5 w6 r6 g6
            have hS6 := hSwD.grown g6 hSwD.size (fun j e => Nat.le_trans hSwA.size (ownBlock_ge RW2 e))
            have r7 : w6.ownsRow wA.heap.size 83 2 v5 nl.length (flat nl) := by rw [HNL.out]; simpa using r6
            obtain ⟨a5, c5, hv5⟩ := row_form r7
            subst hv5
            refine hK'.out _ _ (wpG_kept (by decide) hS6 ?_)
            clear hK' K'
            try simp only [Act.put, List.setIfInBounds_toArray, List.set_cons_zero, List.set_cons_succ]
            refine wpG_take (i := 11) 5 (v := .pointer (some ⟨w.heap.size + 1, 4, none⟩)) rfl (by kernel_rfl) (by kernel_rfl) (by kernel_rfl) (by decide) (by kernel_rfl) (by kernel_rfl) (fun _ _ _ h => h) (Or.inl ⟨by rfl, fun w1 hS => ?_⟩) ?_
            · (try dsimp only at hS)
              go_simp
            simp only [Act.put, List.setIfInBounds_toArray, List.set_cons_zero, List.set_cons_succ]
            refine wpG_ready (rs := [12]) (by kernel_rfl) (by simp) (fun w12 hGw12 hSw12 i hi => ?_)
            obtain rfl : i = 12 := by simpa using hi
            clear hi
            have R5 := RF.out.grow hSw12
            have lz := liveN R5.req
            have z4 := cellN R5.req (i := 4) rfl
            have R6 := hide (R5.head ⟨_, ownsRow_below r7 hGw12⟩)
            refine wpOp_step rfl (by rfl) (fun K' hK' => ?_)
            go_simp
            refine hK' _ _ (wpG_past (by decide) ?_)
            clear hK' K'
            refine wpAny_end (by kernel_rfl) ?_
            go_wp2_with fail
            exact ⟨⟨k + 1, ⟨{ y.r with head := nl }, y.aq, y.cq, a5, c5⟩, by omega, by go_num, S1, S2, R6.out⟩, by simp [intOf]; omega⟩
        · clear hi
          refine wpOp_step rfl (by rfl) (fun K' hK' => ?_)
          replace hK' := hide hK'
          go_simp
          refine hK'.out _ _ (wpG_kept (by decide) (hSwA.alloc hSwA.size _) ?_)
          clear hK' K'
          refine wpG_ready (rs := [0]) (by kernel_rfl) (by simp) (fun wB hGwB hSwB i hi => ?_)
          obtain rfl : i = 0 := by simpa using hi
          clear hi
          refine wpOp_step rfl (by rfl) (fun K' hK' => ?_)
          replace hK' := hide hK'
          go_simp
          have R0 := owns_emptyT 83 2 wB _ rfl
          refine hK'.out _ _ (wpG_kept (by decide) (hSwB.alloc hSwB.size _) ?_)
          clear hK' K'
          refine wpG_ready (rs := [3]) (by kernel_rfl) (by simp) (fun wC hGwC hSwC i hi => ?_)
          obtain rfl : i = 3 := by simpa using hi
          clear hi
          have SZ1 : wA.heap.size < wB.heap.size := Nat.lt_of_lt_of_le (by simp) hGwB.size
          have BSZ : wB.heap.size ≤ wC.heap.size := Nat.le_trans (by simp) hGwC.size
          have KP := blk_below (box_block hGwB) (below_box hGwC)
          refine wpOp_step rfl (by rfl) (fun K' hK' => ?_)
          replace hK' := hide hK'
          have RW := ownsRow_below R0 hGwC
          refine wp_append_prs _ _ _ rfl wB.heap.size _ 0 [] rfl RW _ _ rfl (HD0.out.below hSwC) (by omega) (by have := BSZ; omega) ?_
          intro v3 w4 r4 g4
          have hS4 := hSwC.grown g4 hSwC.size (fun j e => Nat.le_trans hSwB.size (ownBlock_ge RW e))
          have KQ := (g4.block wA.heap.size (lt_blk KP) (fun e => by have e2 : (some wA.heap.size : Option Nat) = some wB.heap.size := e; have e3 := Option.some.inj e2; have := SZ1; omega)).trans KP
          refine hK'.out _ _ (wpG_kept (by decide) hS4 ?_)
          clear hK' K'
          try simp only [Act.put, List.setIfInBounds_toArray, List.set_cons_zero, List.set_cons_succ]
          refine wpG_ready (rs := [10]) (by kernel_rfl) (by simp) (fun wD hGwD hSwD i hi => ?_)
          obtain rfl : i = 10 := by simpa using hi
          clear hi
          replace BSZ := Nat.le_trans BSZ (Nat.le_trans g4.size hGwD.size)
          refine wpOp_step rfl (by rfl) (fun K' hK' => ?_)
          replace hK' := hide hK'
          have RW2 := ownsRow_below r4 hGwD
          refine wp_append_prs _ _ _ rfl wB.heap.size _ _ _ rfl RW2 _ _ rfl (prs_blk (blk_below KQ hGwD)) (by simp; omega) (by have := BSZ; omega) ?_
          intro v5 w6 r6 g6
          have hS6 := hSwD.grown g6 hSwD.size (fun j e => Nat.le_trans hSwB.size (ownBlock_ge RW2 e))
          have r7 : w6.ownsRow wB.heap.size 83 2 v5 nl.length (flat nl) := by rw [HNL.out]; simpa using r6
          obtain ⟨a5, c5, hv5⟩ := row_form r7
          subst hv5
          refine hK'.out _ _ (wpG_kept (by decide) hS6 ?_)
          clear hK' K'
          try simp only [Act.put, List.setIfInBounds_toArray, List.set_cons_zero, List.set_cons_succ]
          refine wpG_take (i := 11) 5 (v := .pointer (some ⟨w.heap.size + 1, 4, none⟩)) rfl (by kernel_rfl) (by kernel_rfl) (by kernel_rfl) (by decide) (by kernel_rfl) (by kernel_rfl) (fun _ _ _ h => h) (Or.inl ⟨by rfl, fun w1 hS => ?_⟩) ?_
          · (try dsimp only at hS)
            go_simp
          simp only [Act.put, List.setIfInBounds_toArray, List.set_cons_zero, List.set_cons_succ]
          refine wpG_ready (rs := [12]) (by kernel_rfl) (by simp) (fun w12 hGw12 hSw12 i hi => ?_)
          obtain rfl : i = 12 := by simpa using hi
          clear hi
          have R5 := RF.out.grow hSw12
          have lz := liveN R5.req
          have z4 := cellN R5.req (i := 4) rfl
          have R6 := hide (R5.head ⟨_, ownsRow_below r7 hGw12⟩)
          refine wpOp_step rfl (by rfl) (fun K' hK' => ?_)
          go_simp
          refine hK' _ _ (wpG_past (by decide) ?_)
          clear hK' K'
          refine wpAny_end (by kernel_rfl) ?_
          go_wp2_with fail
          exact ⟨⟨k + 1, ⟨{ y.r with head := nl }, y.aq, y.cq, a5, c5⟩, by omega, by go_num, S1, S2, R6.out⟩, by simp [intOf]; omega⟩
      · have RF := hide (hR.grow ((Below.refl wr.heap.size wr).alloc (Nat.le_refl _) (.cells #[.int .i64 3, .string n0, .string v0, .string h0, .int .i64 p0, .string t0, .bool b0, .int .i64 z0] 87)))
        have r4 := cellN RF.out.req (i := 4) rfl
        have CS := hide (rdrop_own n0 (.slice y.ah y.r.head.length y.ch) y.r.head (wr.alloc (.cells #[.int .i64 3, .string n0, .string v0, .string h0, .int .i64 p0, .string t0, .bool b0, .int .i64 z0] 87)) hn0 RF.out.own.at_.2 hst.out.head (by omega))
        obtain ⟨S1, S2⟩ := HS.out { y.r with head := (dropQ y.r.head n0) } rfl
        clear HS HER
        go_wp2_with fail
        refine CS.out.mono ?_
        rintro e w5 ⟨v5, rfl, ⟨b5, hr5⟩, hb5⟩
        obtain ⟨a5, c5, hv5⟩ := row_form hr5
        subst hv5
        have R5 := RF.out.grow hb5
        have lz := liveN R5.req
        have z4 := cellN R5.req (i := 4) rfl
        have R6 := hide (R5.head ⟨b5, hr5⟩)
        clear r4 CS RF
        go_wp2_with fail
        exact ⟨⟨k + 1, ⟨{ y.r with head := (dropQ y.r.head n0) }, y.aq, y.cq, a5, c5⟩, by omega, by go_num, S1, S2, R6.out⟩, by simp [intOf]; omega⟩
      · have RF := hide (hR.grow ((Below.refl wr.heap.size wr).alloc (Nat.le_refl _) (.cells #[.int .i64 4, .string n0, .string v0, .string h0, .int .i64 p0, .string t0, .bool b0, .int .i64 z0] 87)))
        obtain ⟨S1, S2⟩ := HS.out y.r rfl
        clear HS HER
        go_wp2_with fail
        exact ⟨⟨k + 1, y, by omega, by go_num, S1, S2, RF.out⟩, by simp [intOf]; omega⟩
      · have RF := hide (hR.grow ((Below.refl wr.heap.size wr).alloc (Nat.le_refl _) (.cells #[.int .i64 5, .string n0, .string v0, .string h0, .int .i64 p0, .string t0, .bool b0, .int .i64 z0] 87)))
        have hyp := hst.out.path
        have hpv9 := hpv
        cases he : h0.toList.isEmpty
        · have HEH : Hid ((if e0 h0 then y.r.host else h0) = h0) := by
            unfold Hid
            rw [← tl_emp, he]
            rfl
          have r1 := cellN RF.out.req (i := 1) rfl
          have l1 := liveN RF.out.req
          have RH : RDo w pk pv ⟨{ y.r with host := h0 }, y.aq, y.cq, y.ah, y.ch⟩ ((wr.alloc (.cells #[.int .i64 5, .string n0, .string v0, .string h0, .int .i64 p0, .string t0, .bool b0, .int .i64 z0] 87)).setCell ⟨w.heap.size + 1, 1, none⟩ (.string h0)) := RF.out.host h0
          have RHH := hide RH
          have q1 := cellN RH.pth (i := 1) rfl
          have q0 := cellN RH.pth (i := 0) rfl
          have q2 := cellN RH.req (i := 2) rfl
          have fq : (((wr.alloc (.cells #[.int .i64 5, .string n0, .string v0, .string h0, .int .i64 p0, .string t0, .bool b0, .int .i64 z0] 87)).setCell ⟨w.heap.size + 1, 1, none⟩ (.string h0))).heap[wr.heap.size]? = some (.cells #[.int .i64 5, .string n0, .string v0, .string h0, .int .i64 p0, .string t0, .bool b0, .int .i64 z0] 87) := (setL_far (g := w.heap.size + 1) (m := wr.heap.size) (by have := lt_blk hR.req; omega) [.string h0] (wr.alloc (.cells #[.int .i64 5, .string n0, .string v0, .string h0, .int .i64 p0, .string t0, .bool b0, .int .i64 z0] 87)) 1).trans (alloc_new wr (.cells #[.int .i64 5, .string n0, .string v0, .string h0, .int .i64 p0, .string t0, .bool b0, .int .i64 z0] 87))
          obtain ⟨f0, f1, f2, f3, f4, f5, f6, f7⟩ : _ ∧ _ ∧ _ ∧ _ ∧ _ ∧ _ ∧ _ ∧ _ := ⟨cellN fq (i := 0) rfl, cellN fq (i := 1) rfl, cellN fq (i := 2) rfl, cellN fq (i := 3) rfl, cellN fq (i := 4) rfl, cellN fq (i := 5) rfl, cellN fq (i := 6) rfl, cellN fq (i := 7) rfl⟩
          have CB := hide (rbecomes_any ⟨5, n0, v0, h0, p0, t0, b0, z0⟩ pk pv y.r.path ((wr.alloc (.cells #[.int .i64 5, .string n0, .string v0, .string h0, .int .i64 p0, .string t0, .bool b0, .int .i64 z0] 87)).setCell ⟨w.heap.size + 1, 1, none⟩ (.string h0)) okk (small_len (by omega)) (small_len (by omega)))
          clear RH
          generalize hT : becT ⟨5, n0, v0, h0, p0, t0, b0, z0⟩ pk pv y.r.path = bt at *
          generalize hE : becE ⟨5, n0, v0, h0, p0, t0, b0, z0⟩ pk pv y.r.path = be at *
          have HT := hide hT
          have HE := hide hE
          clear hT hE
          by_cases hbe : be = 0
          · have hb' : (be != 0) = false := by rw [hbe]; rfl
            obtain ⟨S1, S2⟩ := HS.out { y.r with host := h0, path := bt } (by
              show (if becE _ _ _ _ = 0 then _ else _) = _
              rw [HE.out, HT.out, if_pos hbe, HEH.out])
            clear HS HER
            go_wp2_with fail
            refine CB.out.mono ?_
            rintro e w5 ⟨rfl, hb5⟩
            have R5 := RHH.out.grow hb5
            have lz := liveN R5.req
            have z2 := cellN R5.req (i := 2) rfl
            have R6 := hide (R5.path bt)
            clear q0 q1 q2 CB RHH
            go_wp2_with fail
            exact ⟨⟨k + 1, _, by omega, by go_num, S1, S2, R6.out⟩, by simp [intOf]; omega⟩
          · have hb' : (be != 0) = true := by rw [bne_iff_ne]; exact hbe
            have HQ := hide (HER.out be (by
              show (if becE _ _ _ _ = 0 then _ else _) = _
              rw [HE.out, if_neg hbe]))
            clear HS HER
            go_wp2_with fail
            refine CB.out.mono ?_
            rintro e w5 ⟨rfl, hb5⟩
            have R5 := RHH.out.grow hb5
            have HZ := hide R5.res
            have BB := hide R5.below
            clear q0 q1 q2 CB RHH
            have lz := liveN HZ.out
            obtain ⟨z0, z1, z2, z3, z4⟩ : _ ∧ _ ∧ _ ∧ _ ∧ _ := ⟨cellN HZ.out (i := 0) rfl, cellN HZ.out (i := 1) rfl, cellN HZ.out (i := 2) rfl, cellN HZ.out (i := 3) rfl, cellN HZ.out (i := 4) rfl⟩
            go_wp2_with fail
            have S1 := setL_below (w := w) (B := w.heap.size) (g := w.heap.size + 1 + 1) (by omega) [.string ⟨#[]⟩, .string ⟨#[]⟩, .string ⟨#[]⟩, .slice none 0 0, .slice none 0 0] _ 0 BB.out
            have K4 := setL_all [.string ⟨#[]⟩, .string ⟨#[]⟩, .string ⟨#[]⟩, .slice none 0 0, .slice none 0 0] HZ.out rfl
            change bodyPost _ _ _ _ _ (setL w5 (w.heap.size + 1 + 1) 0 [.string ⟨#[]⟩, .string ⟨#[]⟩, .string ⟨#[]⟩, .slice none 0 0, .slice none 0 0])
            generalize setL w5 (w.heap.size + 1 + 1) 0 [.string ⟨#[]⟩, .string ⟨#[]⟩, .string ⟨#[]⟩, .slice none 0 0, .slice none 0 0] = W9 at *
            obtain ⟨e0, e1, e2, e3, e4⟩ : _ ∧ _ ∧ _ ∧ _ ∧ _ := ⟨cellN K4 (i := 0) rfl, cellN K4 (i := 1) rfl, cellN K4 (i := 2) rfl, cellN K4 (i := 3) rfl, cellN K4 (i := 4) rfl⟩
            exact bodyPost_ret (v := .tuple #[.agg #[.string ⟨#[]⟩, .string ⟨#[]⟩, .string ⟨#[]⟩, .slice none 0 0, .slice none 0 0], .int .i64 be]) (by simp [results, Tryz.f13, go_sem, e0, e1, e2, e3, e4]) rfl ⟨zeroRV, by rw [HQ.out]; rfl, by rw [HQ.out]; rfl, zeroRV_own _, S1⟩
        · have HEH : Hid ((if e0 h0 then y.r.host else h0) = y.r.host) := by
            unfold Hid
            rw [← tl_emp, he]
            rfl
          have RH : RDo w pk pv y (wr.alloc (.cells #[.int .i64 5, .string n0, .string v0, .string h0, .int .i64 p0, .string t0, .bool b0, .int .i64 z0] 87)) := RF.out
          have RHH := hide RH
          have q1 := cellN RH.pth (i := 1) rfl
          have q0 := cellN RH.pth (i := 0) rfl
          have q2 := cellN RH.req (i := 2) rfl
          skip
          have CB := hide (rbecomes_any ⟨5, n0, v0, h0, p0, t0, b0, z0⟩ pk pv y.r.path (wr.alloc (.cells #[.int .i64 5, .string n0, .string v0, .string h0, .int .i64 p0, .string t0, .bool b0, .int .i64 z0] 87)) okk (small_len (by omega)) (small_len (by omega)))
          clear RH
          generalize hT : becT ⟨5, n0, v0, h0, p0, t0, b0, z0⟩ pk pv y.r.path = bt at *
          generalize hE : becE ⟨5, n0, v0, h0, p0, t0, b0, z0⟩ pk pv y.r.path = be at *
          have HT := hide hT
          have HE := hide hE
          clear hT hE
          by_cases hbe : be = 0
          · have hb' : (be != 0) = false := by rw [hbe]; rfl
            obtain ⟨S1, S2⟩ := HS.out { y.r with host := y.r.host, path := bt } (by
              show (if becE _ _ _ _ = 0 then _ else _) = _
              rw [HE.out, HT.out, if_pos hbe, HEH.out])
            clear HS HER
            go_wp2_with fail
            refine CB.out.mono ?_
            rintro e w5 ⟨rfl, hb5⟩
            have R5 := RHH.out.grow hb5
            have lz := liveN R5.req
            have z2 := cellN R5.req (i := 2) rfl
            have R6 := hide (R5.path bt)
            clear q0 q1 q2 CB RHH
            go_wp2_with fail
            exact ⟨⟨k + 1, _, by omega, by go_num, S1, S2, R6.out⟩, by simp [intOf]; omega⟩
          · have hb' : (be != 0) = true := by rw [bne_iff_ne]; exact hbe
            have HQ := hide (HER.out be (by
              show (if becE _ _ _ _ = 0 then _ else _) = _
              rw [HE.out, if_neg hbe]))
            clear HS HER
            go_wp2_with fail
            refine CB.out.mono ?_
            rintro e w5 ⟨rfl, hb5⟩
            have R5 := RHH.out.grow hb5
            have HZ := hide R5.res
            have BB := hide R5.below
            clear q0 q1 q2 CB RHH
            have lz := liveN HZ.out
            obtain ⟨z0, z1, z2, z3, z4⟩ : _ ∧ _ ∧ _ ∧ _ ∧ _ := ⟨cellN HZ.out (i := 0) rfl, cellN HZ.out (i := 1) rfl, cellN HZ.out (i := 2) rfl, cellN HZ.out (i := 3) rfl, cellN HZ.out (i := 4) rfl⟩
            go_wp2_with fail
            have S1 := setL_below (w := w) (B := w.heap.size) (g := w.heap.size + 1 + 1) (by omega) [.string ⟨#[]⟩, .string ⟨#[]⟩, .string ⟨#[]⟩, .slice none 0 0, .slice none 0 0] _ 0 BB.out
            have K4 := setL_all [.string ⟨#[]⟩, .string ⟨#[]⟩, .string ⟨#[]⟩, .slice none 0 0, .slice none 0 0] HZ.out rfl
            change bodyPost _ _ _ _ _ (setL w5 (w.heap.size + 1 + 1) 0 [.string ⟨#[]⟩, .string ⟨#[]⟩, .string ⟨#[]⟩, .slice none 0 0, .slice none 0 0])
            generalize setL w5 (w.heap.size + 1 + 1) 0 [.string ⟨#[]⟩, .string ⟨#[]⟩, .string ⟨#[]⟩, .slice none 0 0, .slice none 0 0] = W9 at *
            obtain ⟨e0, e1, e2, e3, e4⟩ : _ ∧ _ ∧ _ ∧ _ ∧ _ := ⟨cellN K4 (i := 0) rfl, cellN K4 (i := 1) rfl, cellN K4 (i := 2) rfl, cellN K4 (i := 3) rfl, cellN K4 (i := 4) rfl⟩
            exact bodyPost_ret (v := .tuple #[.agg #[.string ⟨#[]⟩, .string ⟨#[]⟩, .string ⟨#[]⟩, .slice none 0 0, .slice none 0 0], .int .i64 be]) (by simp [results, Tryz.f13, go_sem, e0, e1, e2, e3, e4]) rfl ⟨zeroRV, by rw [HQ.out]; rfl, by rw [HQ.out]; rfl, zeroRV_own _, S1⟩
    · have hlt' : ¬ (k : Int) < (l.length : Int) := by omega
      have hfull : l.take k = l := List.take_of_length_le (by omega)
      rw [hfull] at hrun
      clear hfull
      obtain ⟨r0, r1, r2, r3, r4⟩ : _ ∧ _ ∧ _ ∧ _ ∧ _ := ⟨cellN hR.req (i := 0) rfl, cellN hR.req (i := 1) rfl, cellN hR.req (i := 2) rfl, cellN hR.req (i := 3) rfl, cellN hR.req (i := 4) rfl⟩
      have HZ := hide hR.res
      have BB := hide hR.below
      by_cases h30 : 30 < y.r.head.length
      · have h30' : (30 : Int) < (y.r.head.length : Int) := by omega
        have HQ : Hid (doF l pk pv ⟨rm, rho, rp, qu, hd⟩ = (zeroR, 5)) := by
          unfold Hid
          rw [HDO.out, hrun.out]
          exact if_pos h30
        have lz := liveN HZ.out
        obtain ⟨z0, z1, z2, z3, z4⟩ : _ ∧ _ ∧ _ ∧ _ ∧ _ := ⟨cellN HZ.out (i := 0) rfl, cellN HZ.out (i := 1) rfl, cellN HZ.out (i := 2) rfl, cellN HZ.out (i := 3) rfl, cellN HZ.out (i := 4) rfl⟩
        go_wp2_with fail
        have S1 := setL_below (w := w) (B := w.heap.size) (g := w.heap.size + 1 + 1) (by omega) [.string ⟨#[]⟩, .string ⟨#[]⟩, .string ⟨#[]⟩, .slice none 0 0, .slice none 0 0] _ 0 BB.out
        have K4 := setL_all [.string ⟨#[]⟩, .string ⟨#[]⟩, .string ⟨#[]⟩, .slice none 0 0, .slice none 0 0] HZ.out rfl
        change bodyPost _ _ _ _ _ (setL wr (w.heap.size + 1 + 1) 0 [.string ⟨#[]⟩, .string ⟨#[]⟩, .string ⟨#[]⟩, .slice none 0 0, .slice none 0 0])
        generalize setL wr (w.heap.size + 1 + 1) 0 [.string ⟨#[]⟩, .string ⟨#[]⟩, .string ⟨#[]⟩, .slice none 0 0, .slice none 0 0] = W9 at *
        obtain ⟨e0, e1, e2, e3, e4⟩ : _ ∧ _ ∧ _ ∧ _ ∧ _ := ⟨cellN K4 (i := 0) rfl, cellN K4 (i := 1) rfl, cellN K4 (i := 2) rfl, cellN K4 (i := 3) rfl, cellN K4 (i := 4) rfl⟩
        exact bodyPost_ret (v := .tuple #[.agg #[.string ⟨#[]⟩, .string ⟨#[]⟩, .string ⟨#[]⟩, .slice none 0 0, .slice none 0 0], .int .i64 5]) (by simp [results, Tryz.f13, go_sem, e0, e1, e2, e3, e4]) rfl ⟨zeroRV, by rw [HQ.out]; rfl, by rw [HQ.out]; rfl, zeroRV_own _, S1⟩
      · have h30' : ¬ (30 : Int) < (y.r.head.length : Int) := by omega
        have HQ : Hid (doF l pk pv ⟨rm, rho, rp, qu, hd⟩ = (y.r, 0)) := by
          unfold Hid
          rw [HDO.out, hrun.out]
          exact if_neg h30
        have lz := liveN HZ.out
        obtain ⟨z0, z1, z2, z3, z4⟩ : _ ∧ _ ∧ _ ∧ _ ∧ _ := ⟨cellN HZ.out (i := 0) rfl, cellN HZ.out (i := 1) rfl, cellN HZ.out (i := 2) rfl, cellN HZ.out (i := 3) rfl, cellN HZ.out (i := 4) rfl⟩
        go_wp2_with fail
        have S1 := setL_below (w := w) (B := w.heap.size) (g := w.heap.size + 1 + 1) (by omega) [.string y.r.meth, .string y.r.host, .string y.r.path, .slice y.aq y.r.query.length y.cq, .slice y.ah y.r.head.length y.ch] _ 0 BB.out
        have K4 := setL_all [.string y.r.meth, .string y.r.host, .string y.r.path, .slice y.aq y.r.query.length y.cq, .slice y.ah y.r.head.length y.ch] HZ.out rfl
        have OW := RV.own.setL (k := 0) (cs := [.string y.r.meth, .string y.r.host, .string y.r.path, .slice y.aq y.r.query.length y.cq, .slice y.ah y.r.head.length y.ch]) hR.own HZ.out (by decide)
        change bodyPost _ _ _ _ _ (setL wr (w.heap.size + 1 + 1) 0 [.string y.r.meth, .string y.r.host, .string y.r.path, .slice y.aq y.r.query.length y.cq, .slice y.ah y.r.head.length y.ch])
        generalize setL wr (w.heap.size + 1 + 1) 0 [.string y.r.meth, .string y.r.host, .string y.r.path, .slice y.aq y.r.query.length y.cq, .slice y.ah y.r.head.length y.ch] = W9 at *
        obtain ⟨e0, e1, e2, e3, e4⟩ : _ ∧ _ ∧ _ ∧ _ ∧ _ := ⟨cellN K4 (i := 0) rfl, cellN K4 (i := 1) rfl, cellN K4 (i := 2) rfl, cellN K4 (i := 3) rfl, cellN K4 (i := 4) rfl⟩
        exact bodyPost_ret (v := .tuple #[.agg #[.string y.r.meth, .string y.r.host, .string y.r.path, .slice y.aq y.r.query.length y.cq, .slice y.ah y.r.head.length y.ch], .int .i64 0]) (by simp [results, Tryz.f13, go_sem, e0, e1, e2, e3, e4]) rfl ⟨y, by rw [HQ.out], by rw [HQ.out], OW, S1⟩

end Go.Proofs.YtblmdcpcekoogaaGreatDoor
namespace Go.Proofs.YtblmdcpcekoogaaGreatDoor
set_option maxRecDepth 20000
open Go Go.RowKit Go.Shelf Fi

/-- what holds at each round -/
structure RAw (w : World) (pk : Int) (pv : ByteArray) (cs : Array Value) (W : World) : Prop where
  pth : W.heap[w.heap.size]? = some (.cells #[.int .i64 pk, .string pv] 24)
  req : W.heap[w.heap.size + 1]? = some (.cells cs 27)
  res : W.heap[w.heap.size + 1 + 1]? = some (.cells #[.int .i64 0, .string ⟨#[]⟩] 38)
  below : Below w.heap.size w W
theorem RAw.grow {w : World} {pk : Int} {pv : ByteArray} {cs : Array Value} {W W2 : World} (h : RAw w pk pv cs W) (hb : Below W.heap.size W W2) : RAw w pk pv cs W2 :=
  ⟨blk_below h.pth hb, blk_below h.req hb, blk_below h.res hb, bb2 h.below hb⟩
theorem find_at {P : FB → Bool} {l : List FB} {k : Nat} (hk : k < l.length) (hb : ∀ j (h : j < l.length), j < k → P l[j] = false) (hp : P l[k] = true) : l.find? P = some l[k] := by
  rw [List.find?_eq_some_iff_getElem]
  exact ⟨hp, k, hk, rfl, fun j hj => by rw [hb j (by omega) hj]; rfl⟩
theorem find_no {P : FB → Bool} {l : List FB} (hb : ∀ j (h : j < l.length), P l[j] = false) : l.find? P = none := by
  rw [List.find?_eq_none]
  intro f hf
  obtain ⟨j, hj, rfl⟩ := List.getElem_of_mem hf
  rw [hb j hj]
  decide
theorem mayF4 {f : FB} (hm : mayF f = true) (hk : f.kind = 4) : 0 ≤ f.port ∧ f.port ≤ 65535 := by
  unfold mayF at hm
  rw [if_neg (by omega), if_neg (by omega), if_pos hk] at hm
  simp only [Bool.and_eq_true, decide_eq_true_eq] at hm
  exact hm.2.2.2.1

set_option maxHeartbeats 12800000 in
theorem raway_any (vl : Value) (l : List FB) (pk : Int) (pv : ByteArray) (x : RV) (tls : Bool) (w : World) (hv : Sl EF w vl l) (ok : ∀ f ∈ l, OkFi f) (hl : l.length ≤ 1000) (hpv : pv.size ≤ 100) (rp100 : x.r.path.size ≤ 100) (rh100 : x.r.host.size ≤ 100) :
    Calls Tryz.prog 15 #[vl, .agg #[.int .i64 pk, .string pv], rV x.r x.vq x.vh, .bool tls] w fun e w' => e = .returned (.tuple #[.agg #[.int .i64 (awayF l pk pv x.r.host x.r.path tls).1.1, .string (awayF l pk pv x.r.host x.r.path tls).1.2], .int .i64 (awayF l pk pv x.r.host x.r.path tls).2]) ∧ Below w.heap.size w w' := by
  have C1 := fun W (h : Below w.heap.size w W) => hide (frall_any vl l W (hv.below h) ok hl)
  have C2 := fun W => hide (prholds_any pk pv x.r.path W (small_len (by omega)) (small_len (by omega)))
  obtain ⟨⟨rm, rho, rp, qu, hd⟩, aq, cq, ah, ch⟩ := x
  dsimp only at *
  have HOK := hide ok
  have hlen := hv.len
  obtain ⟨a, cap, rfl, hcap, hmax, hc⟩ := hv
  have HC := hide hc
  clear hc ok
  have B3 := below_3 (w := w) (.cells #[.int .i64 pk, .string pv] 24) (.cells #[.string rm, .string rho, .string rp, .slice aq qu.length cq, .slice ah hd.length ch] 27) (.cells #[.int .i64 0, .string ⟨#[]⟩] 38)
  cases hfit : (allF l && holdP pk (dl pv) (dl rp))
  · have HR : Hid (awayF l pk pv rho rp tls = ((0, ⟨#[]⟩), 1)) := by
      show awayF _ _ _ _ _ _ = _
      unfold awayF
      rw [if_neg (by rw [hfit]; decide)]
    cases h1 : allF l
    · rw [h1] at C1
      clear hfit h1
      go_enter Tryz.func15, Tryz.ntmps15
      go_wp2_with fail
      refine (C1 _ B3).out.mono ?_
      rintro e w1 ⟨rfl, hb1⟩
      clear C1 C2
      have HZ := hide ((bx3 hb1).2.2)
      have BB := hide (bb2 B3 hb1)
      have lz := liveN HZ.out
      obtain ⟨y0, y1⟩ : _ ∧ _ := ⟨cellN HZ.out (i := 0) rfl, cellN HZ.out (i := 1) rfl⟩
      go_wp2_with fail
      have S1 := setL_below (w := w) (B := w.heap.size) (g := w.heap.size + 1 + 1) (by omega) [.int .i64 0, .string ⟨#[]⟩] _ 0 BB.out
      have K4 := setL_all [.int .i64 0, .string ⟨#[]⟩] HZ.out rfl
      change bodyPost _ _ _ _ _ (setL w1 (w.heap.size + 1 + 1) 0 [.int .i64 0, .string ⟨#[]⟩])
      generalize setL w1 (w.heap.size + 1 + 1) 0 [.int .i64 0, .string ⟨#[]⟩] = W9 at *
      obtain ⟨e0, e1⟩ : _ ∧ _ := ⟨cellN K4 (i := 0) rfl, cellN K4 (i := 1) rfl⟩
      exact bodyPost_ret (v := .tuple #[.agg #[.int .i64 0, .string ⟨#[]⟩], .int .i64 1]) (by simp [results, Tryz.f15, go_sem, e0, e1]) rfl ⟨by rw [HR.out], S1⟩
    · rw [h1, Bool.true_and] at hfit
      rw [h1] at C1
      rw [show holdP pk pv.data.toList rp.data.toList = false from hfit] at C2
      clear hfit h1
      go_enter Tryz.func15, Tryz.ntmps15
      go_wp2_with fail
      refine (C1 _ B3).out.mono ?_
      rintro e w1 ⟨rfl, hb1⟩
      obtain ⟨k0, k1, k2⟩ := bx3 hb1
      have p0 := cellN k0 (i := 0) rfl
      have p1 := cellN k0 (i := 1) rfl
      have r2 := cellN k1 (i := 2) rfl
      have BB1 := hide (bb2 B3 hb1)
      go_wp2_with fail
      refine (C2 _).out.mono ?_
      rintro e w2 ⟨rfl, hb2⟩
      clear p0 p1 r2 k0 k1 C1 C2
      have HZ := hide (blk_below k2 hb2)
      have BB := hide (bb2 BB1.out hb2)
      have lz := liveN HZ.out
      obtain ⟨y0, y1⟩ : _ ∧ _ := ⟨cellN HZ.out (i := 0) rfl, cellN HZ.out (i := 1) rfl⟩
      go_wp2_with fail
      have S1 := setL_below (w := w) (B := w.heap.size) (g := w.heap.size + 1 + 1) (by omega) [.int .i64 0, .string ⟨#[]⟩] _ 0 BB.out
      have K4 := setL_all [.int .i64 0, .string ⟨#[]⟩] HZ.out rfl
      change bodyPost _ _ _ _ _ (setL w2 (w.heap.size + 1 + 1) 0 [.int .i64 0, .string ⟨#[]⟩])
      generalize setL w2 (w.heap.size + 1 + 1) 0 [.int .i64 0, .string ⟨#[]⟩] = W9 at *
      obtain ⟨e0, e1⟩ : _ ∧ _ := ⟨cellN K4 (i := 0) rfl, cellN K4 (i := 1) rfl⟩
      exact bodyPost_ret (v := .tuple #[.agg #[.int .i64 0, .string ⟨#[]⟩], .int .i64 1]) (by simp [results, Tryz.f15, go_sem, e0, e1]) rfl ⟨by rw [HR.out], S1⟩
  obtain ⟨hall, hhold⟩ := Bool.and_eq_true _ _ ▸ hfit
  rw [hall] at C1
  rw [show holdP pk pv.data.toList rp.data.toList = true from hhold] at C2
  have HAW : Hid (∀ k (hk : k < l.length), (∀ j (h : j < l.length), j < k → (l[j].kind == 4) = false) → l[k].kind = 4 → awayF l pk pv rho rp tls = if becE l[k] pk pv rp = 0 then ((l[k].code, mkB (addrF l[k] pk pv rho rp tls)), 0) else ((0, ⟨#[]⟩), becE l[k] pk pv rp)) := fun k hk hb h4 => by
    unfold awayF
    rw [if_pos hfit, find_at hk hb (by rw [h4]; rfl)]
  have HAN : Hid ((∀ j (h : j < l.length), (l[j].kind == 4) = false) → awayF l pk pv rho rp tls = ((0, ⟨#[]⟩), 3)) := fun hb => by
    unfold awayF
    rw [if_pos hfit, find_no hb]
  have HM := hide (fun k (hk : k < l.length) => may_one hall (List.getElem_mem hk))
  generalize awayF l pk pv rho rp tls = AR at *
  clear hfit hall hhold
  go_enter Tryz.func15, Tryz.ntmps15
  go_wp2_with fail
  refine (C1 _ B3).out.mono ?_
  rintro e w1 ⟨rfl, hb1⟩
  obtain ⟨k0, k1, k2⟩ := bx3 hb1
  have q0 := cellN k0 (i := 0) rfl
  have q1 := cellN k0 (i := 1) rfl
  have q2 := cellN k1 (i := 2) rfl
  go_wp2_with fail
  refine (C2 _).out.mono ?_
  rintro e w2 ⟨rfl, hb2⟩
  have R2 : RAw w pk pv #[.string rm, .string rho, .string rp, .slice aq qu.length cq, .slice ah hd.length ch] w2 := ⟨blk_below k0 hb2, blk_below k1 hb2, blk_below k2 hb2, bb2 (bb2 B3 hb1) hb2⟩
  clear q0 q1 q2 k0 k1 k2 hb1 hb2 C1 C2 B3
  have R2H := hide R2
  clear R2
  go_wp2_with fail
  go_loopw [10] (fun i wr => ∃ k : Nat, k ≤ l.length ∧ i = .int .i64 k ∧ Hid (∀ j (h : j < l.length), j < k → (l[j].kind == 4) = false) ∧ RAw w pk pv #[.string rm, .string rho, .string rp, .slice aq qu.length cq, .slice ah hd.length ch] wr) (fun i _ => l.length - (intOf i).toNat)
  case atStart => exact ⟨0, Nat.zero_le _, rfl, fun j _ h => absurd h (by omega), R2H.out⟩
  case round =>
    clear R2H
    obtain ⟨k, hk, rfl, hno, hR⟩ := hrel
    by_cases hlt : k < l.length
    · have hlt' : (k : Int) < (l.length : Int) := by omega
      obtain ⟨_, g, off, rfl, hg, hat⟩ := HC.out k hlt
      obtain ⟨c0, c1, c2, c3, c4, c5, c6, c7⟩ := EF_at (show EF.At wr g (off + k * 8) l[k] from hat.below hg hR.below)
      have okk := HOK.out _ (List.getElem_mem hlt)
      have HN1 : Hid ((l[k].kind == 4) = false → ∀ j (h : j < l.length), j < k + 1 → (l[j].kind == 4) = false) := fun h4 j hj hjk => by
        rcases Nat.lt_or_ge j k with h | h
        · exact hno.out j hj h
        · obtain rfl : j = k := by omega
          exact h4
      have HD4 := hide (fun h4 => HAW.out k hlt hno.out h4)
      have hpr0 := fun h4 => mayF4 (HM.out k hlt) h4
      have C3 := fun W => hide (rbecomes_any l[k] pk pv rp W okk (small_len (by omega)) (small_len (by omega)))
      have hbt : (becT l[k] pk pv rp).size ≤ 100 := becT_le okk.path rp100
      have hho := okk.host
      have hA : addrF l[k] pk pv rho rp tls = scheme tls ++ (dl (hostOf l[k] rho) ++ portT l[k].port tls ++ dl (becT l[k] pk pv rp)) := rfl
      rw [hA] at HD4
      have hH : hostOf l[k] rho = if l[k].host.toList.isEmpty then rho else l[k].host := by rw [tl_emp]; rfl
      rw [hH] at HD4
      clear hat HAW HAN HM HC HOK okk hA hH
      generalize becE l[k] pk pv rp = be at *
      generalize becT l[k] pk pv rp = bt at *
      generalize l[k] = f at *
      obtain ⟨k0, n0, v0, h0, p0, t0, b0, z0⟩ := f
      dsimp only at *
      have RF := hR.grow ((Below.refl wr.heap.size wr).alloc (Nat.le_refl _) (.cells #[.int .i64 k0, .string n0, .string v0, .string h0, .int .i64 p0, .string t0, .bool b0, .int .i64 z0] 87))
      have KF := alloc_new wr (.cells #[.int .i64 k0, .string n0, .string v0, .string h0, .int .i64 p0, .string t0, .bool b0, .int .i64 z0] 87)
      cases h4 : (k0 == 4)
      · have h4' : (k0 != 4) = true := by simpa using h4
        have HE := hide (HN1.out h4)
        have RFH := hide RF
        clear HN1 HD4 hpr0 C3 RF KF
        go_wp2_with fail
        exact ⟨⟨k + 1, by omega, by go_num, HE.out, RFH.out⟩, by simp [intOf]; omega⟩
      · have h4e : k0 = 4 := by simpa using h4
        subst h4e
        have hpr := hpr0 rfl
        have HD := hide (HD4.out rfl)
        clear HN1 HD4 hpr0 h4
        obtain ⟨j0, j1, j2, j3, j4, j5, j6, j7⟩ : _ ∧ _ ∧ _ ∧ _ ∧ _ ∧ _ ∧ _ ∧ _ := ⟨cellN KF (i := 0) rfl, cellN KF (i := 1) rfl, cellN KF (i := 2) rfl, cellN KF (i := 3) rfl, cellN KF (i := 4) rfl, cellN KF (i := 5) rfl, cellN KF (i := 6) rfl, cellN KF (i := 7) rfl⟩
        obtain ⟨q0, q1, r1, r2⟩ : _ ∧ _ ∧ _ ∧ _ := ⟨cellN RF.pth (i := 0) rfl, cellN RF.pth (i := 1) rfl, cellN RF.req (i := 1) rfl, cellN RF.req (i := 2) rfl⟩
        cases hem : h0.toList.isEmpty
        · rw [hem] at HD
          replace HD := hide (show AR = _ from HD.out)
          simp only [Bool.false_eq_true, if_false] at HD
          cases tls
          · by_cases hp0 : p0 = 0
            · subst hp0
              have pn : portT 0 false = [] := if_neg (fun h => h.1 rfl)
              have HT : Hid ((mkB (scheme false) ++ h0) ++ bt = mkB (scheme false ++ (dl h0 ++ portT 0 false ++ dl bt))) := by
                refine mkB_eq ?_
                rw [app_data, app_data, mkB_list, pn]
                simp [dl]
              clear pn hpr
              go_wp2_with fail
              refine (C3 _).out.mono ?_
              rintro e w6 ⟨rfl, hb6⟩
              replace RF := hide (RF.grow hb6)
              replace KF := blk_below KF hb6
              clear c0 c1 c2 c3 c4 c5 c6 c7 j0 j1 j2 j3 j4 j5 j6 j7 q0 q1 r1 r2
              have c7 := cellN KF (i := 7) rfl
              clear KF
              by_cases he : be = 0
              · have HR := hide (HD.out.trans (if_pos he))
                subst he
                clear HD
                have HZ := hide (RF.out.res)
                have BB := hide (RF.out.below)
                have lz := liveN HZ.out
                obtain ⟨y0, y1⟩ : _ ∧ _ := ⟨cellN HZ.out (i := 0) rfl, cellN HZ.out (i := 1) rfl⟩
                go_wp2_with fail
                have S1 := setL_below (w := w) (B := w.heap.size) (g := w.heap.size + 1 + 1) (by omega) [.int .i64 z0, .string ((⟨#[104, 116, 116, 112, 58, 47, 47]⟩ ++ h0) ++ bt)] _ 0 BB.out
                have K4 := setL_all [.int .i64 z0, .string ((⟨#[104, 116, 116, 112, 58, 47, 47]⟩ ++ h0) ++ bt)] HZ.out rfl
                change bodyPost _ _ _ _ _ (setL w6 (w.heap.size + 1 + 1) 0 [.int .i64 z0, .string ((⟨#[104, 116, 116, 112, 58, 47, 47]⟩ ++ h0) ++ bt)])
                generalize setL w6 (w.heap.size + 1 + 1) 0 [.int .i64 z0, .string ((⟨#[104, 116, 116, 112, 58, 47, 47]⟩ ++ h0) ++ bt)] = W9 at *
                obtain ⟨e0, e1⟩ : _ ∧ _ := ⟨cellN K4 (i := 0) rfl, cellN K4 (i := 1) rfl⟩
                exact bodyPost_ret (v := .tuple #[.agg #[.int .i64 z0, .string ((⟨#[104, 116, 116, 112, 58, 47, 47]⟩ ++ h0) ++ bt)], .int .i64 0]) (by simp [results, Tryz.f15, go_sem, e0, e1]) rfl ⟨by rw [HR.out, ← HT.out]; rfl, S1⟩
              · have he' : (be != 0) = true := by simpa using he
                have HZ := hide (RF.out.res)
                have BB := hide (RF.out.below)
                have lz := liveN HZ.out
                obtain ⟨y0, y1⟩ : _ ∧ _ := ⟨cellN HZ.out (i := 0) rfl, cellN HZ.out (i := 1) rfl⟩
                go_wp2_with fail
                have S1 := setL_below (w := w) (B := w.heap.size) (g := w.heap.size + 1 + 1) (by omega) [.int .i64 0, .string ⟨#[]⟩] _ 0 BB.out
                have K4 := setL_all [.int .i64 0, .string ⟨#[]⟩] HZ.out rfl
                change bodyPost _ _ _ _ _ (setL w6 (w.heap.size + 1 + 1) 0 [.int .i64 0, .string ⟨#[]⟩])
                generalize setL w6 (w.heap.size + 1 + 1) 0 [.int .i64 0, .string ⟨#[]⟩] = W9 at *
                obtain ⟨e0, e1⟩ : _ ∧ _ := ⟨cellN K4 (i := 0) rfl, cellN K4 (i := 1) rfl⟩
                exact bodyPost_ret (v := .tuple #[.agg #[.int .i64 0, .string ⟨#[]⟩], .int .i64 be]) (by simp [results, Tryz.f15, go_sem, e0, e1]) rfl ⟨by rw [HD.out, if_neg he], S1⟩
            · by_cases hps : p0 = 80
              · subst hps
                have pn : portT 80 false = [] := if_neg (fun h => h.2.1 ⟨rfl, rfl⟩)
                have HT : Hid ((mkB (scheme false) ++ h0) ++ bt = mkB (scheme false ++ (dl h0 ++ portT 80 false ++ dl bt))) := by
                  refine mkB_eq ?_
                  rw [app_data, app_data, mkB_list, pn]
                  simp [dl]
                clear pn hpr
                go_wp2_with fail
                refine (C3 _).out.mono ?_
                rintro e w6 ⟨rfl, hb6⟩
                replace RF := hide (RF.grow hb6)
                replace KF := blk_below KF hb6
                clear c0 c1 c2 c3 c4 c5 c6 c7 j0 j1 j2 j3 j4 j5 j6 j7 q0 q1 r1 r2
                have c7 := cellN KF (i := 7) rfl
                clear KF
                by_cases he : be = 0
                · have HR := hide (HD.out.trans (if_pos he))
                  subst he
                  clear HD
                  have HZ := hide (RF.out.res)
                  have BB := hide (RF.out.below)
                  have lz := liveN HZ.out
                  obtain ⟨y0, y1⟩ : _ ∧ _ := ⟨cellN HZ.out (i := 0) rfl, cellN HZ.out (i := 1) rfl⟩
                  go_wp2_with fail
                  have S1 := setL_below (w := w) (B := w.heap.size) (g := w.heap.size + 1 + 1) (by omega) [.int .i64 z0, .string ((⟨#[104, 116, 116, 112, 58, 47, 47]⟩ ++ h0) ++ bt)] _ 0 BB.out
                  have K4 := setL_all [.int .i64 z0, .string ((⟨#[104, 116, 116, 112, 58, 47, 47]⟩ ++ h0) ++ bt)] HZ.out rfl
                  change bodyPost _ _ _ _ _ (setL w6 (w.heap.size + 1 + 1) 0 [.int .i64 z0, .string ((⟨#[104, 116, 116, 112, 58, 47, 47]⟩ ++ h0) ++ bt)])
                  generalize setL w6 (w.heap.size + 1 + 1) 0 [.int .i64 z0, .string ((⟨#[104, 116, 116, 112, 58, 47, 47]⟩ ++ h0) ++ bt)] = W9 at *
                  obtain ⟨e0, e1⟩ : _ ∧ _ := ⟨cellN K4 (i := 0) rfl, cellN K4 (i := 1) rfl⟩
                  exact bodyPost_ret (v := .tuple #[.agg #[.int .i64 z0, .string ((⟨#[104, 116, 116, 112, 58, 47, 47]⟩ ++ h0) ++ bt)], .int .i64 0]) (by simp [results, Tryz.f15, go_sem, e0, e1]) rfl ⟨by rw [HR.out, ← HT.out]; rfl, S1⟩
                · have he' : (be != 0) = true := by simpa using he
                  have HZ := hide (RF.out.res)
                  have BB := hide (RF.out.below)
                  have lz := liveN HZ.out
                  obtain ⟨y0, y1⟩ : _ ∧ _ := ⟨cellN HZ.out (i := 0) rfl, cellN HZ.out (i := 1) rfl⟩
                  go_wp2_with fail
                  have S1 := setL_below (w := w) (B := w.heap.size) (g := w.heap.size + 1 + 1) (by omega) [.int .i64 0, .string ⟨#[]⟩] _ 0 BB.out
                  have K4 := setL_all [.int .i64 0, .string ⟨#[]⟩] HZ.out rfl
                  change bodyPost _ _ _ _ _ (setL w6 (w.heap.size + 1 + 1) 0 [.int .i64 0, .string ⟨#[]⟩])
                  generalize setL w6 (w.heap.size + 1 + 1) 0 [.int .i64 0, .string ⟨#[]⟩] = W9 at *
                  obtain ⟨e0, e1⟩ : _ ∧ _ := ⟨cellN K4 (i := 0) rfl, cellN K4 (i := 1) rfl⟩
                  exact bodyPost_ret (v := .tuple #[.agg #[.int .i64 0, .string ⟨#[]⟩], .int .i64 be]) (by simp [results, Tryz.f15, go_sem, e0, e1]) rfl ⟨by rw [HD.out, if_neg he], S1⟩
              · by_cases hpo : p0 = 443
                · subst hpo
                  have pn : portT 443 false = 58 :: digs 8 (443 : Int).toNat := if_pos ⟨by decide, by decide, by decide⟩
                  have HT : Hid ((mkB (scheme false) ++ (h0 ++ (⟨#[58]⟩ ++ mkB (digs 8 (443 : Int).toNat)))) ++ bt = mkB (scheme false ++ (dl h0 ++ portT 443 false ++ dl bt))) := by
                    refine mkB_eq ?_
                    rw [app_data, app_data, app_data, app_data, mkB_list, mkB_list, pn]
                    simp [dl]
                  have CD := fun W => hide (rdigits_any (443 : Int).toNat W (by omega))
                  rw [show ((((443 : Int).toNat : Nat)) : Int) = 443 by omega] at CD
                  have HL := digs_len 8 (443 : Int).toNat
                  have hsz := mkB_size (digs 8 (443 : Int).toNat)
                  have hds : (mkB (digs 8 (443 : Int).toNat)).size ≤ 8 := by rw [hsz]; exact HL
                  generalize mkB (digs 8 (443 : Int).toNat) = ds at *
                  clear HL hsz
                  clear pn hpr
                  go_wp2_with fail
                  refine (CD _).out.mono ?_
                  rintro e w5 ⟨rfl, hb5⟩
                  replace RF := RF.grow hb5
                  replace KF := blk_below KF hb5
                  clear c0 c1 c2 c3 c4 c5 c6 c7 j0 j1 j2 j3 j4 j5 j6 j7 q0 q1 r1 r2
                  obtain ⟨j0, j1, j2, j3, j4, j5, j6, j7⟩ : _ ∧ _ ∧ _ ∧ _ ∧ _ ∧ _ ∧ _ ∧ _ := ⟨cellN KF (i := 0) rfl, cellN KF (i := 1) rfl, cellN KF (i := 2) rfl, cellN KF (i := 3) rfl, cellN KF (i := 4) rfl, cellN KF (i := 5) rfl, cellN KF (i := 6) rfl, cellN KF (i := 7) rfl⟩
                  obtain ⟨q0, q1, r1, r2⟩ : _ ∧ _ ∧ _ ∧ _ := ⟨cellN RF.pth (i := 0) rfl, cellN RF.pth (i := 1) rfl, cellN RF.req (i := 1) rfl, cellN RF.req (i := 2) rfl⟩
                  go_wp2_with fail
                  refine (C3 _).out.mono ?_
                  rintro e w6 ⟨rfl, hb6⟩
                  replace RF := hide (RF.grow hb6)
                  replace KF := blk_below KF hb6
                  clear j0 j1 j2 j3 j4 j5 j6 j7 q0 q1 r1 r2
                  have c7 := cellN KF (i := 7) rfl
                  clear KF
                  by_cases he : be = 0
                  · have HR := hide (HD.out.trans (if_pos he))
                    subst he
                    clear HD
                    have HZ := hide (RF.out.res)
                    have BB := hide (RF.out.below)
                    have lz := liveN HZ.out
                    obtain ⟨y0, y1⟩ : _ ∧ _ := ⟨cellN HZ.out (i := 0) rfl, cellN HZ.out (i := 1) rfl⟩
                    go_wp2_with fail
                    have S1 := setL_below (w := w) (B := w.heap.size) (g := w.heap.size + 1 + 1) (by omega) [.int .i64 z0, .string ((⟨#[104, 116, 116, 112, 58, 47, 47]⟩ ++ (h0 ++ (⟨#[58]⟩ ++ ds))) ++ bt)] _ 0 BB.out
                    have K4 := setL_all [.int .i64 z0, .string ((⟨#[104, 116, 116, 112, 58, 47, 47]⟩ ++ (h0 ++ (⟨#[58]⟩ ++ ds))) ++ bt)] HZ.out rfl
                    change bodyPost _ _ _ _ _ (setL w6 (w.heap.size + 1 + 1) 0 [.int .i64 z0, .string ((⟨#[104, 116, 116, 112, 58, 47, 47]⟩ ++ (h0 ++ (⟨#[58]⟩ ++ ds))) ++ bt)])
                    generalize setL w6 (w.heap.size + 1 + 1) 0 [.int .i64 z0, .string ((⟨#[104, 116, 116, 112, 58, 47, 47]⟩ ++ (h0 ++ (⟨#[58]⟩ ++ ds))) ++ bt)] = W9 at *
                    obtain ⟨e0, e1⟩ : _ ∧ _ := ⟨cellN K4 (i := 0) rfl, cellN K4 (i := 1) rfl⟩
                    exact bodyPost_ret (v := .tuple #[.agg #[.int .i64 z0, .string ((⟨#[104, 116, 116, 112, 58, 47, 47]⟩ ++ (h0 ++ (⟨#[58]⟩ ++ ds))) ++ bt)], .int .i64 0]) (by simp [results, Tryz.f15, go_sem, e0, e1]) rfl ⟨by rw [HR.out, ← HT.out]; rfl, S1⟩
                  · have he' : (be != 0) = true := by simpa using he
                    have HZ := hide (RF.out.res)
                    have BB := hide (RF.out.below)
                    have lz := liveN HZ.out
                    obtain ⟨y0, y1⟩ : _ ∧ _ := ⟨cellN HZ.out (i := 0) rfl, cellN HZ.out (i := 1) rfl⟩
                    go_wp2_with fail
                    have S1 := setL_below (w := w) (B := w.heap.size) (g := w.heap.size + 1 + 1) (by omega) [.int .i64 0, .string ⟨#[]⟩] _ 0 BB.out
                    have K4 := setL_all [.int .i64 0, .string ⟨#[]⟩] HZ.out rfl
                    change bodyPost _ _ _ _ _ (setL w6 (w.heap.size + 1 + 1) 0 [.int .i64 0, .string ⟨#[]⟩])
                    generalize setL w6 (w.heap.size + 1 + 1) 0 [.int .i64 0, .string ⟨#[]⟩] = W9 at *
                    obtain ⟨e0, e1⟩ : _ ∧ _ := ⟨cellN K4 (i := 0) rfl, cellN K4 (i := 1) rfl⟩
                    exact bodyPost_ret (v := .tuple #[.agg #[.int .i64 0, .string ⟨#[]⟩], .int .i64 be]) (by simp [results, Tryz.f15, go_sem, e0, e1]) rfl ⟨by rw [HD.out, if_neg he], S1⟩
                · have pn : portT p0 false = 58 :: digs 8 p0.toNat := if_pos ⟨hp0, fun h => hps h.1, fun h => absurd h.2 (by decide)⟩
                  have t0 : (p0 != 0) = true := by simpa using hp0
                  have t1 : (p0 == 80) = false := by simpa using hps
                  have t2 : (p0 == 443) = false := by simpa using hpo
                  have HT : Hid ((mkB (scheme false) ++ (h0 ++ (⟨#[58]⟩ ++ mkB (digs 8 p0.toNat)))) ++ bt = mkB (scheme false ++ (dl h0 ++ portT p0 false ++ dl bt))) := by
                    refine mkB_eq ?_
                    rw [app_data, app_data, app_data, app_data, mkB_list, mkB_list, pn]
                    simp [dl]
                  have CD := fun W => hide (rdigits_any p0.toNat W (by omega))
                  rw [show (((p0.toNat : Nat)) : Int) = p0 by omega] at CD
                  have HL := digs_len 8 p0.toNat
                  have hsz := mkB_size (digs 8 p0.toNat)
                  have hds : (mkB (digs 8 p0.toNat)).size ≤ 8 := by rw [hsz]; exact HL
                  generalize mkB (digs 8 p0.toNat) = ds at *
                  clear HL hsz
                  clear pn hpr
                  go_wp2_with fail
                  refine (CD _).out.mono ?_
                  rintro e w5 ⟨rfl, hb5⟩
                  replace RF := RF.grow hb5
                  replace KF := blk_below KF hb5
                  clear c0 c1 c2 c3 c4 c5 c6 c7 j0 j1 j2 j3 j4 j5 j6 j7 q0 q1 r1 r2
                  obtain ⟨j0, j1, j2, j3, j4, j5, j6, j7⟩ : _ ∧ _ ∧ _ ∧ _ ∧ _ ∧ _ ∧ _ ∧ _ := ⟨cellN KF (i := 0) rfl, cellN KF (i := 1) rfl, cellN KF (i := 2) rfl, cellN KF (i := 3) rfl, cellN KF (i := 4) rfl, cellN KF (i := 5) rfl, cellN KF (i := 6) rfl, cellN KF (i := 7) rfl⟩
                  obtain ⟨q0, q1, r1, r2⟩ : _ ∧ _ ∧ _ ∧ _ := ⟨cellN RF.pth (i := 0) rfl, cellN RF.pth (i := 1) rfl, cellN RF.req (i := 1) rfl, cellN RF.req (i := 2) rfl⟩
                  go_wp2_with fail
                  refine (C3 _).out.mono ?_
                  rintro e w6 ⟨rfl, hb6⟩
                  replace RF := hide (RF.grow hb6)
                  replace KF := blk_below KF hb6
                  clear j0 j1 j2 j3 j4 j5 j6 j7 q0 q1 r1 r2
                  have c7 := cellN KF (i := 7) rfl
                  clear KF
                  by_cases he : be = 0
                  · have HR := hide (HD.out.trans (if_pos he))
                    subst he
                    clear HD
                    have HZ := hide (RF.out.res)
                    have BB := hide (RF.out.below)
                    have lz := liveN HZ.out
                    obtain ⟨y0, y1⟩ : _ ∧ _ := ⟨cellN HZ.out (i := 0) rfl, cellN HZ.out (i := 1) rfl⟩
                    go_wp2_with fail
                    have S1 := setL_below (w := w) (B := w.heap.size) (g := w.heap.size + 1 + 1) (by omega) [.int .i64 z0, .string ((⟨#[104, 116, 116, 112, 58, 47, 47]⟩ ++ (h0 ++ (⟨#[58]⟩ ++ ds))) ++ bt)] _ 0 BB.out
                    have K4 := setL_all [.int .i64 z0, .string ((⟨#[104, 116, 116, 112, 58, 47, 47]⟩ ++ (h0 ++ (⟨#[58]⟩ ++ ds))) ++ bt)] HZ.out rfl
                    change bodyPost _ _ _ _ _ (setL w6 (w.heap.size + 1 + 1) 0 [.int .i64 z0, .string ((⟨#[104, 116, 116, 112, 58, 47, 47]⟩ ++ (h0 ++ (⟨#[58]⟩ ++ ds))) ++ bt)])
                    generalize setL w6 (w.heap.size + 1 + 1) 0 [.int .i64 z0, .string ((⟨#[104, 116, 116, 112, 58, 47, 47]⟩ ++ (h0 ++ (⟨#[58]⟩ ++ ds))) ++ bt)] = W9 at *
                    obtain ⟨e0, e1⟩ : _ ∧ _ := ⟨cellN K4 (i := 0) rfl, cellN K4 (i := 1) rfl⟩
                    exact bodyPost_ret (v := .tuple #[.agg #[.int .i64 z0, .string ((⟨#[104, 116, 116, 112, 58, 47, 47]⟩ ++ (h0 ++ (⟨#[58]⟩ ++ ds))) ++ bt)], .int .i64 0]) (by simp [results, Tryz.f15, go_sem, e0, e1]) rfl ⟨by rw [HR.out, ← HT.out]; rfl, S1⟩
                  · have he' : (be != 0) = true := by simpa using he
                    have HZ := hide (RF.out.res)
                    have BB := hide (RF.out.below)
                    have lz := liveN HZ.out
                    obtain ⟨y0, y1⟩ : _ ∧ _ := ⟨cellN HZ.out (i := 0) rfl, cellN HZ.out (i := 1) rfl⟩
                    go_wp2_with fail
                    have S1 := setL_below (w := w) (B := w.heap.size) (g := w.heap.size + 1 + 1) (by omega) [.int .i64 0, .string ⟨#[]⟩] _ 0 BB.out
                    have K4 := setL_all [.int .i64 0, .string ⟨#[]⟩] HZ.out rfl
                    change bodyPost _ _ _ _ _ (setL w6 (w.heap.size + 1 + 1) 0 [.int .i64 0, .string ⟨#[]⟩])
                    generalize setL w6 (w.heap.size + 1 + 1) 0 [.int .i64 0, .string ⟨#[]⟩] = W9 at *
                    obtain ⟨e0, e1⟩ : _ ∧ _ := ⟨cellN K4 (i := 0) rfl, cellN K4 (i := 1) rfl⟩
                    exact bodyPost_ret (v := .tuple #[.agg #[.int .i64 0, .string ⟨#[]⟩], .int .i64 be]) (by simp [results, Tryz.f15, go_sem, e0, e1]) rfl ⟨by rw [HD.out, if_neg he], S1⟩
          · by_cases hp0 : p0 = 0
            · subst hp0
              have pn : portT 0 true = [] := if_neg (fun h => h.1 rfl)
              have HT : Hid ((mkB (scheme true) ++ h0) ++ bt = mkB (scheme true ++ (dl h0 ++ portT 0 true ++ dl bt))) := by
                refine mkB_eq ?_
                rw [app_data, app_data, mkB_list, pn]
                simp [dl]
              clear pn hpr
              go_wp2_with fail
              refine (C3 _).out.mono ?_
              rintro e w6 ⟨rfl, hb6⟩
              replace RF := hide (RF.grow hb6)
              replace KF := blk_below KF hb6
              clear c0 c1 c2 c3 c4 c5 c6 c7 j0 j1 j2 j3 j4 j5 j6 j7 q0 q1 r1 r2
              have c7 := cellN KF (i := 7) rfl
              clear KF
              by_cases he : be = 0
              · have HR := hide (HD.out.trans (if_pos he))
                subst he
                clear HD
                have HZ := hide (RF.out.res)
                have BB := hide (RF.out.below)
                have lz := liveN HZ.out
                obtain ⟨y0, y1⟩ : _ ∧ _ := ⟨cellN HZ.out (i := 0) rfl, cellN HZ.out (i := 1) rfl⟩
                go_wp2_with fail
                have S1 := setL_below (w := w) (B := w.heap.size) (g := w.heap.size + 1 + 1) (by omega) [.int .i64 z0, .string ((⟨#[104, 116, 116, 112, 115, 58, 47, 47]⟩ ++ h0) ++ bt)] _ 0 BB.out
                have K4 := setL_all [.int .i64 z0, .string ((⟨#[104, 116, 116, 112, 115, 58, 47, 47]⟩ ++ h0) ++ bt)] HZ.out rfl
                change bodyPost _ _ _ _ _ (setL w6 (w.heap.size + 1 + 1) 0 [.int .i64 z0, .string ((⟨#[104, 116, 116, 112, 115, 58, 47, 47]⟩ ++ h0) ++ bt)])
                generalize setL w6 (w.heap.size + 1 + 1) 0 [.int .i64 z0, .string ((⟨#[104, 116, 116, 112, 115, 58, 47, 47]⟩ ++ h0) ++ bt)] = W9 at *
                obtain ⟨e0, e1⟩ : _ ∧ _ := ⟨cellN K4 (i := 0) rfl, cellN K4 (i := 1) rfl⟩
                exact bodyPost_ret (v := .tuple #[.agg #[.int .i64 z0, .string ((⟨#[104, 116, 116, 112, 115, 58, 47, 47]⟩ ++ h0) ++ bt)], .int .i64 0]) (by simp [results, Tryz.f15, go_sem, e0, e1]) rfl ⟨by rw [HR.out, ← HT.out]; rfl, S1⟩
              · have he' : (be != 0) = true := by simpa using he
                have HZ := hide (RF.out.res)
                have BB := hide (RF.out.below)
                have lz := liveN HZ.out
                obtain ⟨y0, y1⟩ : _ ∧ _ := ⟨cellN HZ.out (i := 0) rfl, cellN HZ.out (i := 1) rfl⟩
                go_wp2_with fail
                have S1 := setL_below (w := w) (B := w.heap.size) (g := w.heap.size + 1 + 1) (by omega) [.int .i64 0, .string ⟨#[]⟩] _ 0 BB.out
                have K4 := setL_all [.int .i64 0, .string ⟨#[]⟩] HZ.out rfl
                change bodyPost _ _ _ _ _ (setL w6 (w.heap.size + 1 + 1) 0 [.int .i64 0, .string ⟨#[]⟩])
                generalize setL w6 (w.heap.size + 1 + 1) 0 [.int .i64 0, .string ⟨#[]⟩] = W9 at *
                obtain ⟨e0, e1⟩ : _ ∧ _ := ⟨cellN K4 (i := 0) rfl, cellN K4 (i := 1) rfl⟩
                exact bodyPost_ret (v := .tuple #[.agg #[.int .i64 0, .string ⟨#[]⟩], .int .i64 be]) (by simp [results, Tryz.f15, go_sem, e0, e1]) rfl ⟨by rw [HD.out, if_neg he], S1⟩
            · by_cases hps : p0 = 443
              · subst hps
                have pn : portT 443 true = [] := if_neg (fun h => h.2.2 ⟨rfl, rfl⟩)
                have HT : Hid ((mkB (scheme true) ++ h0) ++ bt = mkB (scheme true ++ (dl h0 ++ portT 443 true ++ dl bt))) := by
                  refine mkB_eq ?_
                  rw [app_data, app_data, mkB_list, pn]
                  simp [dl]
                clear pn hpr
                go_wp2_with fail
                refine (C3 _).out.mono ?_
                rintro e w6 ⟨rfl, hb6⟩
                replace RF := hide (RF.grow hb6)
                replace KF := blk_below KF hb6
                clear c0 c1 c2 c3 c4 c5 c6 c7 j0 j1 j2 j3 j4 j5 j6 j7 q0 q1 r1 r2
                have c7 := cellN KF (i := 7) rfl
                clear KF
                by_cases he : be = 0
                · have HR := hide (HD.out.trans (if_pos he))
                  subst he
                  clear HD
                  have HZ := hide (RF.out.res)
                  have BB := hide (RF.out.below)
                  have lz := liveN HZ.out
                  obtain ⟨y0, y1⟩ : _ ∧ _ := ⟨cellN HZ.out (i := 0) rfl, cellN HZ.out (i := 1) rfl⟩
                  go_wp2_with fail
                  have S1 := setL_below (w := w) (B := w.heap.size) (g := w.heap.size + 1 + 1) (by omega) [.int .i64 z0, .string ((⟨#[104, 116, 116, 112, 115, 58, 47, 47]⟩ ++ h0) ++ bt)] _ 0 BB.out
                  have K4 := setL_all [.int .i64 z0, .string ((⟨#[104, 116, 116, 112, 115, 58, 47, 47]⟩ ++ h0) ++ bt)] HZ.out rfl
                  change bodyPost _ _ _ _ _ (setL w6 (w.heap.size + 1 + 1) 0 [.int .i64 z0, .string ((⟨#[104, 116, 116, 112, 115, 58, 47, 47]⟩ ++ h0) ++ bt)])
                  generalize setL w6 (w.heap.size + 1 + 1) 0 [.int .i64 z0, .string ((⟨#[104, 116, 116, 112, 115, 58, 47, 47]⟩ ++ h0) ++ bt)] = W9 at *
                  obtain ⟨e0, e1⟩ : _ ∧ _ := ⟨cellN K4 (i := 0) rfl, cellN K4 (i := 1) rfl⟩
                  exact bodyPost_ret (v := .tuple #[.agg #[.int .i64 z0, .string ((⟨#[104, 116, 116, 112, 115, 58, 47, 47]⟩ ++ h0) ++ bt)], .int .i64 0]) (by simp [results, Tryz.f15, go_sem, e0, e1]) rfl ⟨by rw [HR.out, ← HT.out]; rfl, S1⟩
                · have he' : (be != 0) = true := by simpa using he
                  have HZ := hide (RF.out.res)
                  have BB := hide (RF.out.below)
                  have lz := liveN HZ.out
                  obtain ⟨y0, y1⟩ : _ ∧ _ := ⟨cellN HZ.out (i := 0) rfl, cellN HZ.out (i := 1) rfl⟩
                  go_wp2_with fail
                  have S1 := setL_below (w := w) (B := w.heap.size) (g := w.heap.size + 1 + 1) (by omega) [.int .i64 0, .string ⟨#[]⟩] _ 0 BB.out
                  have K4 := setL_all [.int .i64 0, .string ⟨#[]⟩] HZ.out rfl
                  change bodyPost _ _ _ _ _ (setL w6 (w.heap.size + 1 + 1) 0 [.int .i64 0, .string ⟨#[]⟩])
                  generalize setL w6 (w.heap.size + 1 + 1) 0 [.int .i64 0, .string ⟨#[]⟩] = W9 at *
                  obtain ⟨e0, e1⟩ : _ ∧ _ := ⟨cellN K4 (i := 0) rfl, cellN K4 (i := 1) rfl⟩
                  exact bodyPost_ret (v := .tuple #[.agg #[.int .i64 0, .string ⟨#[]⟩], .int .i64 be]) (by simp [results, Tryz.f15, go_sem, e0, e1]) rfl ⟨by rw [HD.out, if_neg he], S1⟩
              · by_cases hpo : p0 = 80
                · subst hpo
                  have pn : portT 80 true = 58 :: digs 8 (80 : Int).toNat := if_pos ⟨by decide, by decide, by decide⟩
                  have HT : Hid ((mkB (scheme true) ++ (h0 ++ (⟨#[58]⟩ ++ mkB (digs 8 (80 : Int).toNat)))) ++ bt = mkB (scheme true ++ (dl h0 ++ portT 80 true ++ dl bt))) := by
                    refine mkB_eq ?_
                    rw [app_data, app_data, app_data, app_data, mkB_list, mkB_list, pn]
                    simp [dl]
                  have CD := fun W => hide (rdigits_any (80 : Int).toNat W (by omega))
                  rw [show ((((80 : Int).toNat : Nat)) : Int) = 80 by omega] at CD
                  have HL := digs_len 8 (80 : Int).toNat
                  have hsz := mkB_size (digs 8 (80 : Int).toNat)
                  have hds : (mkB (digs 8 (80 : Int).toNat)).size ≤ 8 := by rw [hsz]; exact HL
                  generalize mkB (digs 8 (80 : Int).toNat) = ds at *
                  clear HL hsz
                  clear pn hpr
                  go_wp2_with fail
                  refine (CD _).out.mono ?_
                  rintro e w5 ⟨rfl, hb5⟩
                  replace RF := RF.grow hb5
                  replace KF := blk_below KF hb5
                  clear c0 c1 c2 c3 c4 c5 c6 c7 j0 j1 j2 j3 j4 j5 j6 j7 q0 q1 r1 r2
                  obtain ⟨j0, j1, j2, j3, j4, j5, j6, j7⟩ : _ ∧ _ ∧ _ ∧ _ ∧ _ ∧ _ ∧ _ ∧ _ := ⟨cellN KF (i := 0) rfl, cellN KF (i := 1) rfl, cellN KF (i := 2) rfl, cellN KF (i := 3) rfl, cellN KF (i := 4) rfl, cellN KF (i := 5) rfl, cellN KF (i := 6) rfl, cellN KF (i := 7) rfl⟩
                  obtain ⟨q0, q1, r1, r2⟩ : _ ∧ _ ∧ _ ∧ _ := ⟨cellN RF.pth (i := 0) rfl, cellN RF.pth (i := 1) rfl, cellN RF.req (i := 1) rfl, cellN RF.req (i := 2) rfl⟩
                  go_wp2_with fail
                  refine (C3 _).out.mono ?_
                  rintro e w6 ⟨rfl, hb6⟩
                  replace RF := hide (RF.grow hb6)
                  replace KF := blk_below KF hb6
                  clear j0 j1 j2 j3 j4 j5 j6 j7 q0 q1 r1 r2
                  have c7 := cellN KF (i := 7) rfl
                  clear KF
                  by_cases he : be = 0
                  · have HR := hide (HD.out.trans (if_pos he))
                    subst he
                    clear HD
                    have HZ := hide (RF.out.res)
                    have BB := hide (RF.out.below)
                    have lz := liveN HZ.out
                    obtain ⟨y0, y1⟩ : _ ∧ _ := ⟨cellN HZ.out (i := 0) rfl, cellN HZ.out (i := 1) rfl⟩
                    go_wp2_with fail
                    have S1 := setL_below (w := w) (B := w.heap.size) (g := w.heap.size + 1 + 1) (by omega) [.int .i64 z0, .string ((⟨#[104, 116, 116, 112, 115, 58, 47, 47]⟩ ++ (h0 ++ (⟨#[58]⟩ ++ ds))) ++ bt)] _ 0 BB.out
                    have K4 := setL_all [.int .i64 z0, .string ((⟨#[104, 116, 116, 112, 115, 58, 47, 47]⟩ ++ (h0 ++ (⟨#[58]⟩ ++ ds))) ++ bt)] HZ.out rfl
                    change bodyPost _ _ _ _ _ (setL w6 (w.heap.size + 1 + 1) 0 [.int .i64 z0, .string ((⟨#[104, 116, 116, 112, 115, 58, 47, 47]⟩ ++ (h0 ++ (⟨#[58]⟩ ++ ds))) ++ bt)])
                    generalize setL w6 (w.heap.size + 1 + 1) 0 [.int .i64 z0, .string ((⟨#[104, 116, 116, 112, 115, 58, 47, 47]⟩ ++ (h0 ++ (⟨#[58]⟩ ++ ds))) ++ bt)] = W9 at *
                    obtain ⟨e0, e1⟩ : _ ∧ _ := ⟨cellN K4 (i := 0) rfl, cellN K4 (i := 1) rfl⟩
                    exact bodyPost_ret (v := .tuple #[.agg #[.int .i64 z0, .string ((⟨#[104, 116, 116, 112, 115, 58, 47, 47]⟩ ++ (h0 ++ (⟨#[58]⟩ ++ ds))) ++ bt)], .int .i64 0]) (by simp [results, Tryz.f15, go_sem, e0, e1]) rfl ⟨by rw [HR.out, ← HT.out]; rfl, S1⟩
                  · have he' : (be != 0) = true := by simpa using he
                    have HZ := hide (RF.out.res)
                    have BB := hide (RF.out.below)
                    have lz := liveN HZ.out
                    obtain ⟨y0, y1⟩ : _ ∧ _ := ⟨cellN HZ.out (i := 0) rfl, cellN HZ.out (i := 1) rfl⟩
                    go_wp2_with fail
                    have S1 := setL_below (w := w) (B := w.heap.size) (g := w.heap.size + 1 + 1) (by omega) [.int .i64 0, .string ⟨#[]⟩] _ 0 BB.out
                    have K4 := setL_all [.int .i64 0, .string ⟨#[]⟩] HZ.out rfl
                    change bodyPost _ _ _ _ _ (setL w6 (w.heap.size + 1 + 1) 0 [.int .i64 0, .string ⟨#[]⟩])
                    generalize setL w6 (w.heap.size + 1 + 1) 0 [.int .i64 0, .string ⟨#[]⟩] = W9 at *
                    obtain ⟨e0, e1⟩ : _ ∧ _ := ⟨cellN K4 (i := 0) rfl, cellN K4 (i := 1) rfl⟩
                    exact bodyPost_ret (v := .tuple #[.agg #[.int .i64 0, .string ⟨#[]⟩], .int .i64 be]) (by simp [results, Tryz.f15, go_sem, e0, e1]) rfl ⟨by rw [HD.out, if_neg he], S1⟩
                · have pn : portT p0 true = 58 :: digs 8 p0.toNat := if_pos ⟨hp0, fun h => absurd h.2 (by decide), fun h => hps h.1⟩
                  have t0 : (p0 != 0) = true := by simpa using hp0
                  have t1 : (p0 == 443) = false := by simpa using hps
                  have t2 : (p0 == 80) = false := by simpa using hpo
                  have HT : Hid ((mkB (scheme true) ++ (h0 ++ (⟨#[58]⟩ ++ mkB (digs 8 p0.toNat)))) ++ bt = mkB (scheme true ++ (dl h0 ++ portT p0 true ++ dl bt))) := by
                    refine mkB_eq ?_
                    rw [app_data, app_data, app_data, app_data, mkB_list, mkB_list, pn]
                    simp [dl]
                  have CD := fun W => hide (rdigits_any p0.toNat W (by omega))
                  rw [show (((p0.toNat : Nat)) : Int) = p0 by omega] at CD
                  have HL := digs_len 8 p0.toNat
                  have hsz := mkB_size (digs 8 p0.toNat)
                  have hds : (mkB (digs 8 p0.toNat)).size ≤ 8 := by rw [hsz]; exact HL
                  generalize mkB (digs 8 p0.toNat) = ds at *
                  clear HL hsz
                  clear pn hpr
                  go_wp2_with fail
                  refine (CD _).out.mono ?_
                  rintro e w5 ⟨rfl, hb5⟩
                  replace RF := RF.grow hb5
                  replace KF := blk_below KF hb5
                  clear c0 c1 c2 c3 c4 c5 c6 c7 j0 j1 j2 j3 j4 j5 j6 j7 q0 q1 r1 r2
                  obtain ⟨j0, j1, j2, j3, j4, j5, j6, j7⟩ : _ ∧ _ ∧ _ ∧ _ ∧ _ ∧ _ ∧ _ ∧ _ := ⟨cellN KF (i := 0) rfl, cellN KF (i := 1) rfl, cellN KF (i := 2) rfl, cellN KF (i := 3) rfl, cellN KF (i := 4) rfl, cellN KF (i := 5) rfl, cellN KF (i := 6) rfl, cellN KF (i := 7) rfl⟩
                  obtain ⟨q0, q1, r1, r2⟩ : _ ∧ _ ∧ _ ∧ _ := ⟨cellN RF.pth (i := 0) rfl, cellN RF.pth (i := 1) rfl, cellN RF.req (i := 1) rfl, cellN RF.req (i := 2) rfl⟩
                  go_wp2_with fail
                  refine (C3 _).out.mono ?_
                  rintro e w6 ⟨rfl, hb6⟩
                  replace RF := hide (RF.grow hb6)
                  replace KF := blk_below KF hb6
                  clear j0 j1 j2 j3 j4 j5 j6 j7 q0 q1 r1 r2
                  have c7 := cellN KF (i := 7) rfl
                  clear KF
                  by_cases he : be = 0
                  · have HR := hide (HD.out.trans (if_pos he))
                    subst he
                    clear HD
                    have HZ := hide (RF.out.res)
                    have BB := hide (RF.out.below)
                    have lz := liveN HZ.out
                    obtain ⟨y0, y1⟩ : _ ∧ _ := ⟨cellN HZ.out (i := 0) rfl, cellN HZ.out (i := 1) rfl⟩
                    go_wp2_with fail
                    have S1 := setL_below (w := w) (B := w.heap.size) (g := w.heap.size + 1 + 1) (by omega) [.int .i64 z0, .string ((⟨#[104, 116, 116, 112, 115, 58, 47, 47]⟩ ++ (h0 ++ (⟨#[58]⟩ ++ ds))) ++ bt)] _ 0 BB.out
                    have K4 := setL_all [.int .i64 z0, .string ((⟨#[104, 116, 116, 112, 115, 58, 47, 47]⟩ ++ (h0 ++ (⟨#[58]⟩ ++ ds))) ++ bt)] HZ.out rfl
                    change bodyPost _ _ _ _ _ (setL w6 (w.heap.size + 1 + 1) 0 [.int .i64 z0, .string ((⟨#[104, 116, 116, 112, 115, 58, 47, 47]⟩ ++ (h0 ++ (⟨#[58]⟩ ++ ds))) ++ bt)])
                    generalize setL w6 (w.heap.size + 1 + 1) 0 [.int .i64 z0, .string ((⟨#[104, 116, 116, 112, 115, 58, 47, 47]⟩ ++ (h0 ++ (⟨#[58]⟩ ++ ds))) ++ bt)] = W9 at *
                    obtain ⟨e0, e1⟩ : _ ∧ _ := ⟨cellN K4 (i := 0) rfl, cellN K4 (i := 1) rfl⟩
                    exact bodyPost_ret (v := .tuple #[.agg #[.int .i64 z0, .string ((⟨#[104, 116, 116, 112, 115, 58, 47, 47]⟩ ++ (h0 ++ (⟨#[58]⟩ ++ ds))) ++ bt)], .int .i64 0]) (by simp [results, Tryz.f15, go_sem, e0, e1]) rfl ⟨by rw [HR.out, ← HT.out]; rfl, S1⟩
                  · have he' : (be != 0) = true := by simpa using he
                    have HZ := hide (RF.out.res)
                    have BB := hide (RF.out.below)
                    have lz := liveN HZ.out
                    obtain ⟨y0, y1⟩ : _ ∧ _ := ⟨cellN HZ.out (i := 0) rfl, cellN HZ.out (i := 1) rfl⟩
                    go_wp2_with fail
                    have S1 := setL_below (w := w) (B := w.heap.size) (g := w.heap.size + 1 + 1) (by omega) [.int .i64 0, .string ⟨#[]⟩] _ 0 BB.out
                    have K4 := setL_all [.int .i64 0, .string ⟨#[]⟩] HZ.out rfl
                    change bodyPost _ _ _ _ _ (setL w6 (w.heap.size + 1 + 1) 0 [.int .i64 0, .string ⟨#[]⟩])
                    generalize setL w6 (w.heap.size + 1 + 1) 0 [.int .i64 0, .string ⟨#[]⟩] = W9 at *
                    obtain ⟨e0, e1⟩ : _ ∧ _ := ⟨cellN K4 (i := 0) rfl, cellN K4 (i := 1) rfl⟩
                    exact bodyPost_ret (v := .tuple #[.agg #[.int .i64 0, .string ⟨#[]⟩], .int .i64 be]) (by simp [results, Tryz.f15, go_sem, e0, e1]) rfl ⟨by rw [HD.out, if_neg he], S1⟩
        · rw [hem] at HD
          simp only [if_true] at HD
          cases tls
          · by_cases hp0 : p0 = 0
            · subst hp0
              have pn : portT 0 false = [] := if_neg (fun h => h.1 rfl)
              have HT : Hid ((mkB (scheme false) ++ rho) ++ bt = mkB (scheme false ++ (dl rho ++ portT 0 false ++ dl bt))) := by
                refine mkB_eq ?_
                rw [app_data, app_data, mkB_list, pn]
                simp [dl]
              clear pn hpr
              go_wp2_with fail
              refine (C3 _).out.mono ?_
              rintro e w6 ⟨rfl, hb6⟩
              replace RF := hide (RF.grow hb6)
              replace KF := blk_below KF hb6
              clear c0 c1 c2 c3 c4 c5 c6 c7 j0 j1 j2 j3 j4 j5 j6 j7 q0 q1 r1 r2
              have c7 := cellN KF (i := 7) rfl
              clear KF
              by_cases he : be = 0
              · have HR := hide (HD.out.trans (if_pos he))
                subst he
                clear HD
                have HZ := hide (RF.out.res)
                have BB := hide (RF.out.below)
                have lz := liveN HZ.out
                obtain ⟨y0, y1⟩ : _ ∧ _ := ⟨cellN HZ.out (i := 0) rfl, cellN HZ.out (i := 1) rfl⟩
                go_wp2_with fail
                have S1 := setL_below (w := w) (B := w.heap.size) (g := w.heap.size + 1 + 1) (by omega) [.int .i64 z0, .string ((⟨#[104, 116, 116, 112, 58, 47, 47]⟩ ++ rho) ++ bt)] _ 0 BB.out
                have K4 := setL_all [.int .i64 z0, .string ((⟨#[104, 116, 116, 112, 58, 47, 47]⟩ ++ rho) ++ bt)] HZ.out rfl
                change bodyPost _ _ _ _ _ (setL w6 (w.heap.size + 1 + 1) 0 [.int .i64 z0, .string ((⟨#[104, 116, 116, 112, 58, 47, 47]⟩ ++ rho) ++ bt)])
                generalize setL w6 (w.heap.size + 1 + 1) 0 [.int .i64 z0, .string ((⟨#[104, 116, 116, 112, 58, 47, 47]⟩ ++ rho) ++ bt)] = W9 at *
                obtain ⟨e0, e1⟩ : _ ∧ _ := ⟨cellN K4 (i := 0) rfl, cellN K4 (i := 1) rfl⟩
                exact bodyPost_ret (v := .tuple #[.agg #[.int .i64 z0, .string ((⟨#[104, 116, 116, 112, 58, 47, 47]⟩ ++ rho) ++ bt)], .int .i64 0]) (by simp [results, Tryz.f15, go_sem, e0, e1]) rfl ⟨by rw [HR.out, ← HT.out]; rfl, S1⟩
              · have he' : (be != 0) = true := by simpa using he
                have HZ := hide (RF.out.res)
                have BB := hide (RF.out.below)
                have lz := liveN HZ.out
                obtain ⟨y0, y1⟩ : _ ∧ _ := ⟨cellN HZ.out (i := 0) rfl, cellN HZ.out (i := 1) rfl⟩
                go_wp2_with fail
                have S1 := setL_below (w := w) (B := w.heap.size) (g := w.heap.size + 1 + 1) (by omega) [.int .i64 0, .string ⟨#[]⟩] _ 0 BB.out
                have K4 := setL_all [.int .i64 0, .string ⟨#[]⟩] HZ.out rfl
                change bodyPost _ _ _ _ _ (setL w6 (w.heap.size + 1 + 1) 0 [.int .i64 0, .string ⟨#[]⟩])
                generalize setL w6 (w.heap.size + 1 + 1) 0 [.int .i64 0, .string ⟨#[]⟩] = W9 at *
                obtain ⟨e0, e1⟩ : _ ∧ _ := ⟨cellN K4 (i := 0) rfl, cellN K4 (i := 1) rfl⟩
                exact bodyPost_ret (v := .tuple #[.agg #[.int .i64 0, .string ⟨#[]⟩], .int .i64 be]) (by simp [results, Tryz.f15, go_sem, e0, e1]) rfl ⟨by rw [HD.out, if_neg he], S1⟩
            · by_cases hps : p0 = 80
              · subst hps
                have pn : portT 80 false = [] := if_neg (fun h => h.2.1 ⟨rfl, rfl⟩)
                have HT : Hid ((mkB (scheme false) ++ rho) ++ bt = mkB (scheme false ++ (dl rho ++ portT 80 false ++ dl bt))) := by
                  refine mkB_eq ?_
                  rw [app_data, app_data, mkB_list, pn]
                  simp [dl]
                clear pn hpr
                go_wp2_with fail
                refine (C3 _).out.mono ?_
                rintro e w6 ⟨rfl, hb6⟩
                replace RF := hide (RF.grow hb6)
                replace KF := blk_below KF hb6
                clear c0 c1 c2 c3 c4 c5 c6 c7 j0 j1 j2 j3 j4 j5 j6 j7 q0 q1 r1 r2
                have c7 := cellN KF (i := 7) rfl
                clear KF
                by_cases he : be = 0
                · have HR := hide (HD.out.trans (if_pos he))
                  subst he
                  clear HD
                  have HZ := hide (RF.out.res)
                  have BB := hide (RF.out.below)
                  have lz := liveN HZ.out
                  obtain ⟨y0, y1⟩ : _ ∧ _ := ⟨cellN HZ.out (i := 0) rfl, cellN HZ.out (i := 1) rfl⟩
                  go_wp2_with fail
                  have S1 := setL_below (w := w) (B := w.heap.size) (g := w.heap.size + 1 + 1) (by omega) [.int .i64 z0, .string ((⟨#[104, 116, 116, 112, 58, 47, 47]⟩ ++ rho) ++ bt)] _ 0 BB.out
                  have K4 := setL_all [.int .i64 z0, .string ((⟨#[104, 116, 116, 112, 58, 47, 47]⟩ ++ rho) ++ bt)] HZ.out rfl
                  change bodyPost _ _ _ _ _ (setL w6 (w.heap.size + 1 + 1) 0 [.int .i64 z0, .string ((⟨#[104, 116, 116, 112, 58, 47, 47]⟩ ++ rho) ++ bt)])
                  generalize setL w6 (w.heap.size + 1 + 1) 0 [.int .i64 z0, .string ((⟨#[104, 116, 116, 112, 58, 47, 47]⟩ ++ rho) ++ bt)] = W9 at *
                  obtain ⟨e0, e1⟩ : _ ∧ _ := ⟨cellN K4 (i := 0) rfl, cellN K4 (i := 1) rfl⟩
                  exact bodyPost_ret (v := .tuple #[.agg #[.int .i64 z0, .string ((⟨#[104, 116, 116, 112, 58, 47, 47]⟩ ++ rho) ++ bt)], .int .i64 0]) (by simp [results, Tryz.f15, go_sem, e0, e1]) rfl ⟨by rw [HR.out, ← HT.out]; rfl, S1⟩
                · have he' : (be != 0) = true := by simpa using he
                  have HZ := hide (RF.out.res)
                  have BB := hide (RF.out.below)
                  have lz := liveN HZ.out
                  obtain ⟨y0, y1⟩ : _ ∧ _ := ⟨cellN HZ.out (i := 0) rfl, cellN HZ.out (i := 1) rfl⟩
                  go_wp2_with fail
                  have S1 := setL_below (w := w) (B := w.heap.size) (g := w.heap.size + 1 + 1) (by omega) [.int .i64 0, .string ⟨#[]⟩] _ 0 BB.out
                  have K4 := setL_all [.int .i64 0, .string ⟨#[]⟩] HZ.out rfl
                  change bodyPost _ _ _ _ _ (setL w6 (w.heap.size + 1 + 1) 0 [.int .i64 0, .string ⟨#[]⟩])
                  generalize setL w6 (w.heap.size + 1 + 1) 0 [.int .i64 0, .string ⟨#[]⟩] = W9 at *
                  obtain ⟨e0, e1⟩ : _ ∧ _ := ⟨cellN K4 (i := 0) rfl, cellN K4 (i := 1) rfl⟩
                  exact bodyPost_ret (v := .tuple #[.agg #[.int .i64 0, .string ⟨#[]⟩], .int .i64 be]) (by simp [results, Tryz.f15, go_sem, e0, e1]) rfl ⟨by rw [HD.out, if_neg he], S1⟩
              · by_cases hpo : p0 = 443
                · subst hpo
                  have pn : portT 443 false = 58 :: digs 8 (443 : Int).toNat := if_pos ⟨by decide, by decide, by decide⟩
                  have HT : Hid ((mkB (scheme false) ++ (rho ++ (⟨#[58]⟩ ++ mkB (digs 8 (443 : Int).toNat)))) ++ bt = mkB (scheme false ++ (dl rho ++ portT 443 false ++ dl bt))) := by
                    refine mkB_eq ?_
                    rw [app_data, app_data, app_data, app_data, mkB_list, mkB_list, pn]
                    simp [dl]
                  have CD := fun W => hide (rdigits_any (443 : Int).toNat W (by omega))
                  rw [show ((((443 : Int).toNat : Nat)) : Int) = 443 by omega] at CD
                  have HL := digs_len 8 (443 : Int).toNat
                  have hsz := mkB_size (digs 8 (443 : Int).toNat)
                  have hds : (mkB (digs 8 (443 : Int).toNat)).size ≤ 8 := by rw [hsz]; exact HL
                  generalize mkB (digs 8 (443 : Int).toNat) = ds at *
                  clear HL hsz
                  clear pn hpr
                  go_wp2_with fail
                  refine (CD _).out.mono ?_
                  rintro e w5 ⟨rfl, hb5⟩
                  replace RF := RF.grow hb5
                  replace KF := blk_below KF hb5
                  clear c0 c1 c2 c3 c4 c5 c6 c7 j0 j1 j2 j3 j4 j5 j6 j7 q0 q1 r1 r2
                  obtain ⟨j0, j1, j2, j3, j4, j5, j6, j7⟩ : _ ∧ _ ∧ _ ∧ _ ∧ _ ∧ _ ∧ _ ∧ _ := ⟨cellN KF (i := 0) rfl, cellN KF (i := 1) rfl, cellN KF (i := 2) rfl, cellN KF (i := 3) rfl, cellN KF (i := 4) rfl, cellN KF (i := 5) rfl, cellN KF (i := 6) rfl, cellN KF (i := 7) rfl⟩
                  obtain ⟨q0, q1, r1, r2⟩ : _ ∧ _ ∧ _ ∧ _ := ⟨cellN RF.pth (i := 0) rfl, cellN RF.pth (i := 1) rfl, cellN RF.req (i := 1) rfl, cellN RF.req (i := 2) rfl⟩
                  go_wp2_with fail
                  refine (C3 _).out.mono ?_
                  rintro e w6 ⟨rfl, hb6⟩
                  replace RF := hide (RF.grow hb6)
                  replace KF := blk_below KF hb6
                  clear j0 j1 j2 j3 j4 j5 j6 j7 q0 q1 r1 r2
                  have c7 := cellN KF (i := 7) rfl
                  clear KF
                  by_cases he : be = 0
                  · have HR := hide (HD.out.trans (if_pos he))
                    subst he
                    clear HD
                    have HZ := hide (RF.out.res)
                    have BB := hide (RF.out.below)
                    have lz := liveN HZ.out
                    obtain ⟨y0, y1⟩ : _ ∧ _ := ⟨cellN HZ.out (i := 0) rfl, cellN HZ.out (i := 1) rfl⟩
                    go_wp2_with fail
                    have S1 := setL_below (w := w) (B := w.heap.size) (g := w.heap.size + 1 + 1) (by omega) [.int .i64 z0, .string ((⟨#[104, 116, 116, 112, 58, 47, 47]⟩ ++ (rho ++ (⟨#[58]⟩ ++ ds))) ++ bt)] _ 0 BB.out
                    have K4 := setL_all [.int .i64 z0, .string ((⟨#[104, 116, 116, 112, 58, 47, 47]⟩ ++ (rho ++ (⟨#[58]⟩ ++ ds))) ++ bt)] HZ.out rfl
                    change bodyPost _ _ _ _ _ (setL w6 (w.heap.size + 1 + 1) 0 [.int .i64 z0, .string ((⟨#[104, 116, 116, 112, 58, 47, 47]⟩ ++ (rho ++ (⟨#[58]⟩ ++ ds))) ++ bt)])
                    generalize setL w6 (w.heap.size + 1 + 1) 0 [.int .i64 z0, .string ((⟨#[104, 116, 116, 112, 58, 47, 47]⟩ ++ (rho ++ (⟨#[58]⟩ ++ ds))) ++ bt)] = W9 at *
                    obtain ⟨e0, e1⟩ : _ ∧ _ := ⟨cellN K4 (i := 0) rfl, cellN K4 (i := 1) rfl⟩
                    exact bodyPost_ret (v := .tuple #[.agg #[.int .i64 z0, .string ((⟨#[104, 116, 116, 112, 58, 47, 47]⟩ ++ (rho ++ (⟨#[58]⟩ ++ ds))) ++ bt)], .int .i64 0]) (by simp [results, Tryz.f15, go_sem, e0, e1]) rfl ⟨by rw [HR.out, ← HT.out]; rfl, S1⟩
                  · have he' : (be != 0) = true := by simpa using he
                    have HZ := hide (RF.out.res)
                    have BB := hide (RF.out.below)
                    have lz := liveN HZ.out
                    obtain ⟨y0, y1⟩ : _ ∧ _ := ⟨cellN HZ.out (i := 0) rfl, cellN HZ.out (i := 1) rfl⟩
                    go_wp2_with fail
                    have S1 := setL_below (w := w) (B := w.heap.size) (g := w.heap.size + 1 + 1) (by omega) [.int .i64 0, .string ⟨#[]⟩] _ 0 BB.out
                    have K4 := setL_all [.int .i64 0, .string ⟨#[]⟩] HZ.out rfl
                    change bodyPost _ _ _ _ _ (setL w6 (w.heap.size + 1 + 1) 0 [.int .i64 0, .string ⟨#[]⟩])
                    generalize setL w6 (w.heap.size + 1 + 1) 0 [.int .i64 0, .string ⟨#[]⟩] = W9 at *
                    obtain ⟨e0, e1⟩ : _ ∧ _ := ⟨cellN K4 (i := 0) rfl, cellN K4 (i := 1) rfl⟩
                    exact bodyPost_ret (v := .tuple #[.agg #[.int .i64 0, .string ⟨#[]⟩], .int .i64 be]) (by simp [results, Tryz.f15, go_sem, e0, e1]) rfl ⟨by rw [HD.out, if_neg he], S1⟩
                · have pn : portT p0 false = 58 :: digs 8 p0.toNat := if_pos ⟨hp0, fun h => hps h.1, fun h => absurd h.2 (by decide)⟩
                  have t0 : (p0 != 0) = true := by simpa using hp0
                  have t1 : (p0 == 80) = false := by simpa using hps
                  have t2 : (p0 == 443) = false := by simpa using hpo
                  have HT : Hid ((mkB (scheme false) ++ (rho ++ (⟨#[58]⟩ ++ mkB (digs 8 p0.toNat)))) ++ bt = mkB (scheme false ++ (dl rho ++ portT p0 false ++ dl bt))) := by
                    refine mkB_eq ?_
                    rw [app_data, app_data, app_data, app_data, mkB_list, mkB_list, pn]
                    simp [dl]
                  have CD := fun W => hide (rdigits_any p0.toNat W (by omega))
                  rw [show (((p0.toNat : Nat)) : Int) = p0 by omega] at CD
                  have HL := digs_len 8 p0.toNat
                  have hsz := mkB_size (digs 8 p0.toNat)
                  have hds : (mkB (digs 8 p0.toNat)).size ≤ 8 := by rw [hsz]; exact HL
                  generalize mkB (digs 8 p0.toNat) = ds at *
                  clear HL hsz
                  clear pn hpr
                  go_wp2_with fail
                  refine (CD _).out.mono ?_
                  rintro e w5 ⟨rfl, hb5⟩
                  replace RF := RF.grow hb5
                  replace KF := blk_below KF hb5
                  clear c0 c1 c2 c3 c4 c5 c6 c7 j0 j1 j2 j3 j4 j5 j6 j7 q0 q1 r1 r2
                  obtain ⟨j0, j1, j2, j3, j4, j5, j6, j7⟩ : _ ∧ _ ∧ _ ∧ _ ∧ _ ∧ _ ∧ _ ∧ _ := ⟨cellN KF (i := 0) rfl, cellN KF (i := 1) rfl, cellN KF (i := 2) rfl, cellN KF (i := 3) rfl, cellN KF (i := 4) rfl, cellN KF (i := 5) rfl, cellN KF (i := 6) rfl, cellN KF (i := 7) rfl⟩
                  obtain ⟨q0, q1, r1, r2⟩ : _ ∧ _ ∧ _ ∧ _ := ⟨cellN RF.pth (i := 0) rfl, cellN RF.pth (i := 1) rfl, cellN RF.req (i := 1) rfl, cellN RF.req (i := 2) rfl⟩
                  go_wp2_with fail
                  refine (C3 _).out.mono ?_
                  rintro e w6 ⟨rfl, hb6⟩
                  replace RF := hide (RF.grow hb6)
                  replace KF := blk_below KF hb6
                  clear j0 j1 j2 j3 j4 j5 j6 j7 q0 q1 r1 r2
                  have c7 := cellN KF (i := 7) rfl
                  clear KF
                  by_cases he : be = 0
                  · have HR := hide (HD.out.trans (if_pos he))
                    subst he
                    clear HD
                    have HZ := hide (RF.out.res)
                    have BB := hide (RF.out.below)
                    have lz := liveN HZ.out
                    obtain ⟨y0, y1⟩ : _ ∧ _ := ⟨cellN HZ.out (i := 0) rfl, cellN HZ.out (i := 1) rfl⟩
                    go_wp2_with fail
                    have S1 := setL_below (w := w) (B := w.heap.size) (g := w.heap.size + 1 + 1) (by omega) [.int .i64 z0, .string ((⟨#[104, 116, 116, 112, 58, 47, 47]⟩ ++ (rho ++ (⟨#[58]⟩ ++ ds))) ++ bt)] _ 0 BB.out
                    have K4 := setL_all [.int .i64 z0, .string ((⟨#[104, 116, 116, 112, 58, 47, 47]⟩ ++ (rho ++ (⟨#[58]⟩ ++ ds))) ++ bt)] HZ.out rfl
                    change bodyPost _ _ _ _ _ (setL w6 (w.heap.size + 1 + 1) 0 [.int .i64 z0, .string ((⟨#[104, 116, 116, 112, 58, 47, 47]⟩ ++ (rho ++ (⟨#[58]⟩ ++ ds))) ++ bt)])
                    generalize setL w6 (w.heap.size + 1 + 1) 0 [.int .i64 z0, .string ((⟨#[104, 116, 116, 112, 58, 47, 47]⟩ ++ (rho ++ (⟨#[58]⟩ ++ ds))) ++ bt)] = W9 at *
                    obtain ⟨e0, e1⟩ : _ ∧ _ := ⟨cellN K4 (i := 0) rfl, cellN K4 (i := 1) rfl⟩
                    exact bodyPost_ret (v := .tuple #[.agg #[.int .i64 z0, .string ((⟨#[104, 116, 116, 112, 58, 47, 47]⟩ ++ (rho ++ (⟨#[58]⟩ ++ ds))) ++ bt)], .int .i64 0]) (by simp [results, Tryz.f15, go_sem, e0, e1]) rfl ⟨by rw [HR.out, ← HT.out]; rfl, S1⟩
                  · have he' : (be != 0) = true := by simpa using he
                    have HZ := hide (RF.out.res)
                    have BB := hide (RF.out.below)
                    have lz := liveN HZ.out
                    obtain ⟨y0, y1⟩ : _ ∧ _ := ⟨cellN HZ.out (i := 0) rfl, cellN HZ.out (i := 1) rfl⟩
                    go_wp2_with fail
                    have S1 := setL_below (w := w) (B := w.heap.size) (g := w.heap.size + 1 + 1) (by omega) [.int .i64 0, .string ⟨#[]⟩] _ 0 BB.out
                    have K4 := setL_all [.int .i64 0, .string ⟨#[]⟩] HZ.out rfl
                    change bodyPost _ _ _ _ _ (setL w6 (w.heap.size + 1 + 1) 0 [.int .i64 0, .string ⟨#[]⟩])
                    generalize setL w6 (w.heap.size + 1 + 1) 0 [.int .i64 0, .string ⟨#[]⟩] = W9 at *
                    obtain ⟨e0, e1⟩ : _ ∧ _ := ⟨cellN K4 (i := 0) rfl, cellN K4 (i := 1) rfl⟩
                    exact bodyPost_ret (v := .tuple #[.agg #[.int .i64 0, .string ⟨#[]⟩], .int .i64 be]) (by simp [results, Tryz.f15, go_sem, e0, e1]) rfl ⟨by rw [HD.out, if_neg he], S1⟩
          · by_cases hp0 : p0 = 0
            · subst hp0
              have pn : portT 0 true = [] := if_neg (fun h => h.1 rfl)
              have HT : Hid ((mkB (scheme true) ++ rho) ++ bt = mkB (scheme true ++ (dl rho ++ portT 0 true ++ dl bt))) := by
                refine mkB_eq ?_
                rw [app_data, app_data, mkB_list, pn]
                simp [dl]
              clear pn hpr
              go_wp2_with fail
              refine (C3 _).out.mono ?_
              rintro e w6 ⟨rfl, hb6⟩
              replace RF := hide (RF.grow hb6)
              replace KF := blk_below KF hb6
              clear c0 c1 c2 c3 c4 c5 c6 c7 j0 j1 j2 j3 j4 j5 j6 j7 q0 q1 r1 r2
              have c7 := cellN KF (i := 7) rfl
              clear KF
              by_cases he : be = 0
              · have HR := hide (HD.out.trans (if_pos he))
                subst he
                clear HD
                have HZ := hide (RF.out.res)
                have BB := hide (RF.out.below)
                have lz := liveN HZ.out
                obtain ⟨y0, y1⟩ : _ ∧ _ := ⟨cellN HZ.out (i := 0) rfl, cellN HZ.out (i := 1) rfl⟩
                go_wp2_with fail
                have S1 := setL_below (w := w) (B := w.heap.size) (g := w.heap.size + 1 + 1) (by omega) [.int .i64 z0, .string ((⟨#[104, 116, 116, 112, 115, 58, 47, 47]⟩ ++ rho) ++ bt)] _ 0 BB.out
                have K4 := setL_all [.int .i64 z0, .string ((⟨#[104, 116, 116, 112, 115, 58, 47, 47]⟩ ++ rho) ++ bt)] HZ.out rfl
                change bodyPost _ _ _ _ _ (setL w6 (w.heap.size + 1 + 1) 0 [.int .i64 z0, .string ((⟨#[104, 116, 116, 112, 115, 58, 47, 47]⟩ ++ rho) ++ bt)])
                generalize setL w6 (w.heap.size + 1 + 1) 0 [.int .i64 z0, .string ((⟨#[104, 116, 116, 112, 115, 58, 47, 47]⟩ ++ rho) ++ bt)] = W9 at *
                obtain ⟨e0, e1⟩ : _ ∧ _ := ⟨cellN K4 (i := 0) rfl, cellN K4 (i := 1) rfl⟩
                exact bodyPost_ret (v := .tuple #[.agg #[.int .i64 z0, .string ((⟨#[104, 116, 116, 112, 115, 58, 47, 47]⟩ ++ rho) ++ bt)], .int .i64 0]) (by simp [results, Tryz.f15, go_sem, e0, e1]) rfl ⟨by rw [HR.out, ← HT.out]; rfl, S1⟩
              · have he' : (be != 0) = true := by simpa using he
                have HZ := hide (RF.out.res)
                have BB := hide (RF.out.below)
                have lz := liveN HZ.out
                obtain ⟨y0, y1⟩ : _ ∧ _ := ⟨cellN HZ.out (i := 0) rfl, cellN HZ.out (i := 1) rfl⟩
                go_wp2_with fail
                have S1 := setL_below (w := w) (B := w.heap.size) (g := w.heap.size + 1 + 1) (by omega) [.int .i64 0, .string ⟨#[]⟩] _ 0 BB.out
                have K4 := setL_all [.int .i64 0, .string ⟨#[]⟩] HZ.out rfl
                change bodyPost _ _ _ _ _ (setL w6 (w.heap.size + 1 + 1) 0 [.int .i64 0, .string ⟨#[]⟩])
                generalize setL w6 (w.heap.size + 1 + 1) 0 [.int .i64 0, .string ⟨#[]⟩] = W9 at *
                obtain ⟨e0, e1⟩ : _ ∧ _ := ⟨cellN K4 (i := 0) rfl, cellN K4 (i := 1) rfl⟩
                exact bodyPost_ret (v := .tuple #[.agg #[.int .i64 0, .string ⟨#[]⟩], .int .i64 be]) (by simp [results, Tryz.f15, go_sem, e0, e1]) rfl ⟨by rw [HD.out, if_neg he], S1⟩
            · by_cases hps : p0 = 443
              · subst hps
                have pn : portT 443 true = [] := if_neg (fun h => h.2.2 ⟨rfl, rfl⟩)
                have HT : Hid ((mkB (scheme true) ++ rho) ++ bt = mkB (scheme true ++ (dl rho ++ portT 443 true ++ dl bt))) := by
                  refine mkB_eq ?_
                  rw [app_data, app_data, mkB_list, pn]
                  simp [dl]
                clear pn hpr
                go_wp2_with fail
                refine (C3 _).out.mono ?_
                rintro e w6 ⟨rfl, hb6⟩
                replace RF := hide (RF.grow hb6)
                replace KF := blk_below KF hb6
                clear c0 c1 c2 c3 c4 c5 c6 c7 j0 j1 j2 j3 j4 j5 j6 j7 q0 q1 r1 r2
                have c7 := cellN KF (i := 7) rfl
                clear KF
                by_cases he : be = 0
                · have HR := hide (HD.out.trans (if_pos he))
                  subst he
                  clear HD
                  have HZ := hide (RF.out.res)
                  have BB := hide (RF.out.below)
                  have lz := liveN HZ.out
                  obtain ⟨y0, y1⟩ : _ ∧ _ := ⟨cellN HZ.out (i := 0) rfl, cellN HZ.out (i := 1) rfl⟩
                  go_wp2_with fail
                  have S1 := setL_below (w := w) (B := w.heap.size) (g := w.heap.size + 1 + 1) (by omega) [.int .i64 z0, .string ((⟨#[104, 116, 116, 112, 115, 58, 47, 47]⟩ ++ rho) ++ bt)] _ 0 BB.out
                  have K4 := setL_all [.int .i64 z0, .string ((⟨#[104, 116, 116, 112, 115, 58, 47, 47]⟩ ++ rho) ++ bt)] HZ.out rfl
                  change bodyPost _ _ _ _ _ (setL w6 (w.heap.size + 1 + 1) 0 [.int .i64 z0, .string ((⟨#[104, 116, 116, 112, 115, 58, 47, 47]⟩ ++ rho) ++ bt)])
                  generalize setL w6 (w.heap.size + 1 + 1) 0 [.int .i64 z0, .string ((⟨#[104, 116, 116, 112, 115, 58, 47, 47]⟩ ++ rho) ++ bt)] = W9 at *
                  obtain ⟨e0, e1⟩ : _ ∧ _ := ⟨cellN K4 (i := 0) rfl, cellN K4 (i := 1) rfl⟩
                  exact bodyPost_ret (v := .tuple #[.agg #[.int .i64 z0, .string ((⟨#[104, 116, 116, 112, 115, 58, 47, 47]⟩ ++ rho) ++ bt)], .int .i64 0]) (by simp [results, Tryz.f15, go_sem, e0, e1]) rfl ⟨by rw [HR.out, ← HT.out]; rfl, S1⟩
                · have he' : (be != 0) = true := by simpa using he
                  have HZ := hide (RF.out.res)
                  have BB := hide (RF.out.below)
                  have lz := liveN HZ.out
                  obtain ⟨y0, y1⟩ : _ ∧ _ := ⟨cellN HZ.out (i := 0) rfl, cellN HZ.out (i := 1) rfl⟩
                  go_wp2_with fail
                  have S1 := setL_below (w := w) (B := w.heap.size) (g := w.heap.size + 1 + 1) (by omega) [.int .i64 0, .string ⟨#[]⟩] _ 0 BB.out
                  have K4 := setL_all [.int .i64 0, .string ⟨#[]⟩] HZ.out rfl
                  change bodyPost _ _ _ _ _ (setL w6 (w.heap.size + 1 + 1) 0 [.int .i64 0, .string ⟨#[]⟩])
                  generalize setL w6 (w.heap.size + 1 + 1) 0 [.int .i64 0, .string ⟨#[]⟩] = W9 at *
                  obtain ⟨e0, e1⟩ : _ ∧ _ := ⟨cellN K4 (i := 0) rfl, cellN K4 (i := 1) rfl⟩
                  exact bodyPost_ret (v := .tuple #[.agg #[.int .i64 0, .string ⟨#[]⟩], .int .i64 be]) (by simp [results, Tryz.f15, go_sem, e0, e1]) rfl ⟨by rw [HD.out, if_neg he], S1⟩
              · by_cases hpo : p0 = 80
                · subst hpo
                  have pn : portT 80 true = 58 :: digs 8 (80 : Int).toNat := if_pos ⟨by decide, by decide, by decide⟩
                  have HT : Hid ((mkB (scheme true) ++ (rho ++ (⟨#[58]⟩ ++ mkB (digs 8 (80 : Int).toNat)))) ++ bt = mkB (scheme true ++ (dl rho ++ portT 80 true ++ dl bt))) := by
                    refine mkB_eq ?_
                    rw [app_data, app_data, app_data, app_data, mkB_list, mkB_list, pn]
                    simp [dl]
                  have CD := fun W => hide (rdigits_any (80 : Int).toNat W (by omega))
                  rw [show ((((80 : Int).toNat : Nat)) : Int) = 80 by omega] at CD
                  have HL := digs_len 8 (80 : Int).toNat
                  have hsz := mkB_size (digs 8 (80 : Int).toNat)
                  have hds : (mkB (digs 8 (80 : Int).toNat)).size ≤ 8 := by rw [hsz]; exact HL
                  generalize mkB (digs 8 (80 : Int).toNat) = ds at *
                  clear HL hsz
                  clear pn hpr
                  go_wp2_with fail
                  refine (CD _).out.mono ?_
                  rintro e w5 ⟨rfl, hb5⟩
                  replace RF := RF.grow hb5
                  replace KF := blk_below KF hb5
                  clear c0 c1 c2 c3 c4 c5 c6 c7 j0 j1 j2 j3 j4 j5 j6 j7 q0 q1 r1 r2
                  obtain ⟨j0, j1, j2, j3, j4, j5, j6, j7⟩ : _ ∧ _ ∧ _ ∧ _ ∧ _ ∧ _ ∧ _ ∧ _ := ⟨cellN KF (i := 0) rfl, cellN KF (i := 1) rfl, cellN KF (i := 2) rfl, cellN KF (i := 3) rfl, cellN KF (i := 4) rfl, cellN KF (i := 5) rfl, cellN KF (i := 6) rfl, cellN KF (i := 7) rfl⟩
                  obtain ⟨q0, q1, r1, r2⟩ : _ ∧ _ ∧ _ ∧ _ := ⟨cellN RF.pth (i := 0) rfl, cellN RF.pth (i := 1) rfl, cellN RF.req (i := 1) rfl, cellN RF.req (i := 2) rfl⟩
                  go_wp2_with fail
                  refine (C3 _).out.mono ?_
                  rintro e w6 ⟨rfl, hb6⟩
                  replace RF := hide (RF.grow hb6)
                  replace KF := blk_below KF hb6
                  clear j0 j1 j2 j3 j4 j5 j6 j7 q0 q1 r1 r2
                  have c7 := cellN KF (i := 7) rfl
                  clear KF
                  by_cases he : be = 0
                  · have HR := hide (HD.out.trans (if_pos he))
                    subst he
                    clear HD
                    have HZ := hide (RF.out.res)
                    have BB := hide (RF.out.below)
                    have lz := liveN HZ.out
                    obtain ⟨y0, y1⟩ : _ ∧ _ := ⟨cellN HZ.out (i := 0) rfl, cellN HZ.out (i := 1) rfl⟩
                    go_wp2_with fail
                    have S1 := setL_below (w := w) (B := w.heap.size) (g := w.heap.size + 1 + 1) (by omega) [.int .i64 z0, .string ((⟨#[104, 116, 116, 112, 115, 58, 47, 47]⟩ ++ (rho ++ (⟨#[58]⟩ ++ ds))) ++ bt)] _ 0 BB.out
                    have K4 := setL_all [.int .i64 z0, .string ((⟨#[104, 116, 116, 112, 115, 58, 47, 47]⟩ ++ (rho ++ (⟨#[58]⟩ ++ ds))) ++ bt)] HZ.out rfl
                    change bodyPost _ _ _ _ _ (setL w6 (w.heap.size + 1 + 1) 0 [.int .i64 z0, .string ((⟨#[104, 116, 116, 112, 115, 58, 47, 47]⟩ ++ (rho ++ (⟨#[58]⟩ ++ ds))) ++ bt)])
                    generalize setL w6 (w.heap.size + 1 + 1) 0 [.int .i64 z0, .string ((⟨#[104, 116, 116, 112, 115, 58, 47, 47]⟩ ++ (rho ++ (⟨#[58]⟩ ++ ds))) ++ bt)] = W9 at *
                    obtain ⟨e0, e1⟩ : _ ∧ _ := ⟨cellN K4 (i := 0) rfl, cellN K4 (i := 1) rfl⟩
                    exact bodyPost_ret (v := .tuple #[.agg #[.int .i64 z0, .string ((⟨#[104, 116, 116, 112, 115, 58, 47, 47]⟩ ++ (rho ++ (⟨#[58]⟩ ++ ds))) ++ bt)], .int .i64 0]) (by simp [results, Tryz.f15, go_sem, e0, e1]) rfl ⟨by rw [HR.out, ← HT.out]; rfl, S1⟩
                  · have he' : (be != 0) = true := by simpa using he
                    have HZ := hide (RF.out.res)
                    have BB := hide (RF.out.below)
                    have lz := liveN HZ.out
                    obtain ⟨y0, y1⟩ : _ ∧ _ := ⟨cellN HZ.out (i := 0) rfl, cellN HZ.out (i := 1) rfl⟩
                    go_wp2_with fail
                    have S1 := setL_below (w := w) (B := w.heap.size) (g := w.heap.size + 1 + 1) (by omega) [.int .i64 0, .string ⟨#[]⟩] _ 0 BB.out
                    have K4 := setL_all [.int .i64 0, .string ⟨#[]⟩] HZ.out rfl
                    change bodyPost _ _ _ _ _ (setL w6 (w.heap.size + 1 + 1) 0 [.int .i64 0, .string ⟨#[]⟩])
                    generalize setL w6 (w.heap.size + 1 + 1) 0 [.int .i64 0, .string ⟨#[]⟩] = W9 at *
                    obtain ⟨e0, e1⟩ : _ ∧ _ := ⟨cellN K4 (i := 0) rfl, cellN K4 (i := 1) rfl⟩
                    exact bodyPost_ret (v := .tuple #[.agg #[.int .i64 0, .string ⟨#[]⟩], .int .i64 be]) (by simp [results, Tryz.f15, go_sem, e0, e1]) rfl ⟨by rw [HD.out, if_neg he], S1⟩
                · have pn : portT p0 true = 58 :: digs 8 p0.toNat := if_pos ⟨hp0, fun h => absurd h.2 (by decide), fun h => hps h.1⟩
                  have t0 : (p0 != 0) = true := by simpa using hp0
                  have t1 : (p0 == 443) = false := by simpa using hps
                  have t2 : (p0 == 80) = false := by simpa using hpo
                  have HT : Hid ((mkB (scheme true) ++ (rho ++ (⟨#[58]⟩ ++ mkB (digs 8 p0.toNat)))) ++ bt = mkB (scheme true ++ (dl rho ++ portT p0 true ++ dl bt))) := by
                    refine mkB_eq ?_
                    rw [app_data, app_data, app_data, app_data, mkB_list, mkB_list, pn]
                    simp [dl]
                  have CD := fun W => hide (rdigits_any p0.toNat W (by omega))
                  rw [show (((p0.toNat : Nat)) : Int) = p0 by omega] at CD
                  have HL := digs_len 8 p0.toNat
                  have hsz := mkB_size (digs 8 p0.toNat)
                  have hds : (mkB (digs 8 p0.toNat)).size ≤ 8 := by rw [hsz]; exact HL
                  generalize mkB (digs 8 p0.toNat) = ds at *
                  clear HL hsz
                  clear pn hpr
                  go_wp2_with fail
                  refine (CD _).out.mono ?_
                  rintro e w5 ⟨rfl, hb5⟩
                  replace RF := RF.grow hb5
                  replace KF := blk_below KF hb5
                  clear c0 c1 c2 c3 c4 c5 c6 c7 j0 j1 j2 j3 j4 j5 j6 j7 q0 q1 r1 r2
                  obtain ⟨j0, j1, j2, j3, j4, j5, j6, j7⟩ : _ ∧ _ ∧ _ ∧ _ ∧ _ ∧ _ ∧ _ ∧ _ := ⟨cellN KF (i := 0) rfl, cellN KF (i := 1) rfl, cellN KF (i := 2) rfl, cellN KF (i := 3) rfl, cellN KF (i := 4) rfl, cellN KF (i := 5) rfl, cellN KF (i := 6) rfl, cellN KF (i := 7) rfl⟩
                  obtain ⟨q0, q1, r1, r2⟩ : _ ∧ _ ∧ _ ∧ _ := ⟨cellN RF.pth (i := 0) rfl, cellN RF.pth (i := 1) rfl, cellN RF.req (i := 1) rfl, cellN RF.req (i := 2) rfl⟩
                  go_wp2_with fail
                  refine (C3 _).out.mono ?_
                  rintro e w6 ⟨rfl, hb6⟩
                  replace RF := hide (RF.grow hb6)
                  replace KF := blk_below KF hb6
                  clear j0 j1 j2 j3 j4 j5 j6 j7 q0 q1 r1 r2
                  have c7 := cellN KF (i := 7) rfl
                  clear KF
                  by_cases he : be = 0
                  · have HR := hide (HD.out.trans (if_pos he))
                    subst he
                    clear HD
                    have HZ := hide (RF.out.res)
                    have BB := hide (RF.out.below)
                    have lz := liveN HZ.out
                    obtain ⟨y0, y1⟩ : _ ∧ _ := ⟨cellN HZ.out (i := 0) rfl, cellN HZ.out (i := 1) rfl⟩
                    go_wp2_with fail
                    have S1 := setL_below (w := w) (B := w.heap.size) (g := w.heap.size + 1 + 1) (by omega) [.int .i64 z0, .string ((⟨#[104, 116, 116, 112, 115, 58, 47, 47]⟩ ++ (rho ++ (⟨#[58]⟩ ++ ds))) ++ bt)] _ 0 BB.out
                    have K4 := setL_all [.int .i64 z0, .string ((⟨#[104, 116, 116, 112, 115, 58, 47, 47]⟩ ++ (rho ++ (⟨#[58]⟩ ++ ds))) ++ bt)] HZ.out rfl
                    change bodyPost _ _ _ _ _ (setL w6 (w.heap.size + 1 + 1) 0 [.int .i64 z0, .string ((⟨#[104, 116, 116, 112, 115, 58, 47, 47]⟩ ++ (rho ++ (⟨#[58]⟩ ++ ds))) ++ bt)])
                    generalize setL w6 (w.heap.size + 1 + 1) 0 [.int .i64 z0, .string ((⟨#[104, 116, 116, 112, 115, 58, 47, 47]⟩ ++ (rho ++ (⟨#[58]⟩ ++ ds))) ++ bt)] = W9 at *
                    obtain ⟨e0, e1⟩ : _ ∧ _ := ⟨cellN K4 (i := 0) rfl, cellN K4 (i := 1) rfl⟩
                    exact bodyPost_ret (v := .tuple #[.agg #[.int .i64 z0, .string ((⟨#[104, 116, 116, 112, 115, 58, 47, 47]⟩ ++ (rho ++ (⟨#[58]⟩ ++ ds))) ++ bt)], .int .i64 0]) (by simp [results, Tryz.f15, go_sem, e0, e1]) rfl ⟨by rw [HR.out, ← HT.out]; rfl, S1⟩
                  · have he' : (be != 0) = true := by simpa using he
                    have HZ := hide (RF.out.res)
                    have BB := hide (RF.out.below)
                    have lz := liveN HZ.out
                    obtain ⟨y0, y1⟩ : _ ∧ _ := ⟨cellN HZ.out (i := 0) rfl, cellN HZ.out (i := 1) rfl⟩
                    go_wp2_with fail
                    have S1 := setL_below (w := w) (B := w.heap.size) (g := w.heap.size + 1 + 1) (by omega) [.int .i64 0, .string ⟨#[]⟩] _ 0 BB.out
                    have K4 := setL_all [.int .i64 0, .string ⟨#[]⟩] HZ.out rfl
                    change bodyPost _ _ _ _ _ (setL w6 (w.heap.size + 1 + 1) 0 [.int .i64 0, .string ⟨#[]⟩])
                    generalize setL w6 (w.heap.size + 1 + 1) 0 [.int .i64 0, .string ⟨#[]⟩] = W9 at *
                    obtain ⟨e0, e1⟩ : _ ∧ _ := ⟨cellN K4 (i := 0) rfl, cellN K4 (i := 1) rfl⟩
                    exact bodyPost_ret (v := .tuple #[.agg #[.int .i64 0, .string ⟨#[]⟩], .int .i64 be]) (by simp [results, Tryz.f15, go_sem, e0, e1]) rfl ⟨by rw [HD.out, if_neg he], S1⟩
    · obtain rfl : k = l.length := by omega
      have HE := hide (HAN.out (fun j hj => hno.out j hj hj))
      have hlt' : ¬ (l.length : Int) < (l.length : Int) := by omega
      have HRR := hide hR
      clear hno HAN HAW hR
      have HZ := hide (HRR.out.res)
      have BB := hide (HRR.out.below)
      have lz := liveN HZ.out
      obtain ⟨y0, y1⟩ : _ ∧ _ := ⟨cellN HZ.out (i := 0) rfl, cellN HZ.out (i := 1) rfl⟩
      go_wp2_with fail
      have S1 := setL_below (w := w) (B := w.heap.size) (g := w.heap.size + 1 + 1) (by omega) [.int .i64 0, .string ⟨#[]⟩] _ 0 BB.out
      have K4 := setL_all [.int .i64 0, .string ⟨#[]⟩] HZ.out rfl
      change bodyPost _ _ _ _ _ (setL wr (w.heap.size + 1 + 1) 0 [.int .i64 0, .string ⟨#[]⟩])
      generalize setL wr (w.heap.size + 1 + 1) 0 [.int .i64 0, .string ⟨#[]⟩] = W9 at *
      obtain ⟨e0, e1⟩ : _ ∧ _ := ⟨cellN K4 (i := 0) rfl, cellN K4 (i := 1) rfl⟩
      exact bodyPost_ret (v := .tuple #[.agg #[.int .i64 0, .string ⟨#[]⟩], .int .i64 3]) (by simp [results, Tryz.f15, go_sem, e0, e1]) rfl ⟨by rw [HE.out], S1⟩

end Go.Proofs.YtblmdcpcekoogaaGreatDoor
