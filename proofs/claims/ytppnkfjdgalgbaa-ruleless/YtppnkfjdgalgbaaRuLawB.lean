/-
  Walks: awake, the chapter's examples.
-/
import Derived.Test.YtppnkfjdgalgbaaRuLawA
import Derived.Test.YtppnkfjdgalgbaaRuWalkE
namespace Go.Proofs.Ytppnkfjdgalgbaa
open Go Go.RowKit Go.Shelf

attribute [local go_sem] gb_const

/-- matches that are laid down at once -/
theorem Mts.lit (w : World) (L : List MV) (cs : Array Value) (hcs : cs = (flatM L).toArray) (n : Nat) (hn : n = L.length) (h100 : n ≤ 1000) (hl : ∀ x ∈ L, x.at_ (w.alloc (.cells cs 26))) :
    Mts (w.alloc (.cells cs 26)) (.slice (some ⟨w.heap.size, 0, none⟩) n n) L := by
  subst hn hcs
  refine Mts.of_row (base := w.heap.size) rfl ⟨flatM_len L, .inr ⟨w.heap.size, L.length, (flatM L).toArray, rfl, Nat.le_refl _, alloc_new w _, Nat.le_refl _, by unfold maxLen; omega, ?_, ?_⟩⟩ hl
  · simp [flatM_len]
  · rw [List.take_of_length_le]
    simp [flatM_len]

def tA : ByteArray := ⟨#[47, 97]⟩
def tAB : ByteArray := ⟨#[47, 97, 47, 98]⟩
def tR : ByteArray := ⟨#[47]⟩
def tG : ByteArray := ⟨#[71, 69, 84]⟩
def tP : ByteArray := ⟨#[80, 79, 83, 84]⟩
def t0 : ByteArray := ⟨#[]⟩
/-- a match with no lists -/
def bare (k : Int) (s t : ByteArray) : MV := ⟨⟨k, s, t, [], []⟩, none, 0, none, 0⟩
theorem bare_at (k : Int) (s t : ByteArray) (w : World) : (bare k s t).at_ w := ⟨Prs.nil w, Prs.nil w⟩
theorem bare_ok (k : Int) (s t : ByteArray) (hs : s.size ≤ 100) (ht : t.size ≤ 100) : OkM (bare k s t).m := ⟨hs, ht, by simp [bare], by simp [bare], fun p hp => absurd hp (by simp [bare]), fun p hp => absurd hp (by simp [bare])⟩
def L4 : List MV := [bare 1 tA t0, bare 2 tAB t0, bare 2 tA tG, bare 2 tA t0]
def L2 : List MV := [bare 2 tR t0, bare 2 tA t0]
theorem L4_ok : ∀ x ∈ L4, OkM x.m := by
  intro x hx
  simp [L4] at hx
  rcases hx with rfl | rfl | rfl | rfl
  · exact bare_ok _ _ _ (by decide) (by decide)
  · exact bare_ok _ _ _ (by decide) (by decide)
  · exact bare_ok _ _ _ (by decide) (by decide)
  · exact bare_ok _ _ _ (by decide) (by decide)
theorem L2_ok : ∀ x ∈ L2, OkM x.m := by
  intro x hx
  simp [L2] at hx
  rcases hx with rfl | rfl
  · exact bare_ok _ _ _ (by decide) (by decide)
  · exact bare_ok _ _ _ (by decide) (by decide)
theorem L4_len : L4.length = 4 := rfl
theorem L4_ord : ∀ i, ∀ (hi : i < 4), ∀ j, ∀ (hj : j < 4), i < j → ordM (L4[i]'hi).m (L4[j]'hj).m = -1 ∧ ordM (L4[j]'hj).m (L4[i]'hi).m = 1 := by decide +kernel
def reqP (m p : ByteArray) : RB := ⟨m, t0, p, [], []⟩
theorem req_ok (m p : ByteArray) (hm : m.size ≤ 100) (hp : p.size ≤ 100) : OkR (reqP m p) := ⟨hm, by show t0.size ≤ 100; decide, hp, by simp [reqP], by simp [reqP], fun p hp => absurd hp (by simp [reqP]), fun p hp => absurd hp (by simp [reqP])⟩
theorem L2_at : atI (bestM (reqP t0 tAB) (L2.map MV.m)) = 1 := by decide +kernel
theorem L2_is : (bestM (reqP t0 tAB) (L2.map MV.m)).isSome = true := by decide +kernel
theorem hold_get : holdM (bare 2 tA tG).m (reqP tG tA) = true := by decide +kernel
theorem hold_post : holdM (bare 2 tA tG).m (reqP tP tA) = false := by decide +kernel

theorem first_two (w W : World) (h : Mts W (.slice (some ⟨w.heap.size, 0, none⟩) 2 2) L2) :
    Calls Try.prog 21 #[.slice (some ⟨w.heap.size, 0, none⟩) 2 2, .agg #[.string ⟨#[]⟩, .string ⟨#[]⟩, .string ⟨#[47, 97, 47, 98]⟩, .slice none 0 0, .slice none 0 0]] W fun e w' => e = .returned (.tuple #[.int .i64 1, .bool true]) ∧ Below W.heap.size W w' := by
  have := first_m _ L2 (reqP t0 tAB) (.slice none 0 0) (.slice none 0 0) W h L2_ok (Prs.nil W) (Prs.nil W) (req_ok _ _ (by decide) (by decide))
  rw [L2_at, L2_is] at this
  exact this
theorem holds_get (W : World) :
    Calls Try.prog 15 #[.agg #[.int .i64 2, .string ⟨#[47, 97]⟩, .string ⟨#[71, 69, 84]⟩, .slice none 0 0, .slice none 0 0], .agg #[.string ⟨#[71, 69, 84]⟩, .string ⟨#[]⟩, .string ⟨#[47, 97]⟩, .slice none 0 0, .slice none 0 0]] W fun e w' => e = .returned (.bool true) ∧ Below W.heap.size W w' := by
  have := holds_m (bare 2 tA tG).m (.slice none 0 0) (.slice none 0 0) (reqP tG tA) (.slice none 0 0) (.slice none 0 0) W (Prs.nil W) (Prs.nil W) (bare_ok _ _ _ (by decide) (by decide)) (Prs.nil W) (Prs.nil W) (req_ok _ _ (by decide) (by decide))
  rw [hold_get] at this
  exact this
theorem holds_post (W : World) :
    Calls Try.prog 15 #[.agg #[.int .i64 2, .string ⟨#[47, 97]⟩, .string ⟨#[71, 69, 84]⟩, .slice none 0 0, .slice none 0 0], .agg #[.string ⟨#[80, 79, 83, 84]⟩, .string ⟨#[]⟩, .string ⟨#[47, 97]⟩, .slice none 0 0, .slice none 0 0]] W fun e w' => e = .returned (.bool false) ∧ Below W.heap.size W w' := by
  have := holds_m (bare 2 tA tG).m (.slice none 0 0) (.slice none 0 0) (reqP tP tA) (.slice none 0 0) (.slice none 0 0) W (Prs.nil W) (Prs.nil W) (bare_ok _ _ _ (by decide) (by decide)) (Prs.nil W) (Prs.nil W) (req_ok _ _ (by decide) (by decide))
  rw [hold_post] at this
  exact this

set_option maxHeartbeats 3200000 in
theorem ruawake_any (w : World) :
    Calls Try.prog 19 #[] w fun e w' => e = .returned (.bool true) ∧ Below w.heap.size w w' := by
  go_enter Try.func19, Try.ntmps19
  go_wp2_with fail
  refine (on_any _ _ _).mono ?_
  rintro e w1 ⟨rfl, hb1⟩
  go_wp2_with fail
  refine (on_any _ _ _).mono ?_
  rintro e w2 ⟨rfl, hb2⟩
  go_wp2_with fail
  refine (on_any _ _ _).mono ?_
  rintro e w3 ⟨rfl, hb3⟩
  go_wp2_with fail
  obtain ⟨W0, hW0⟩ : ∃ z, z = w3.alloc (.cells (flatM L4).toArray 26) := ⟨_, rfl⟩
  change Code.wp _ _ _ _ (w3.alloc (.cells (flatM L4).toArray 26))
  have M4 : Mts W0 (.slice (some ⟨w3.heap.size, 0, none⟩) 4 4) L4 := by
    rw [hW0]
    refine Mts.lit w3 L4 _ rfl 4 rfl (by decide) (fun x hx => ?_)
    simp [L4] at hx
    rcases hx with rfl | rfl | rfl | rfl <;> exact bare_at _ _ _ _
  have S0 : Below w.heap.size w W0 := by
    rw [hW0]
    exact bb2 (bb2 (bb2 hb1 hb2) hb3) ((Below.refl _ _).alloc (Nat.le_refl _) _)
  rw [← hW0]
  clear hW0 hb1 hb2 hb3
  have HM : Hid (∀ i (hi : i < 4), (L4[i]'hi).at_ W0 ∧ w3.heap.size < W0.heap.size ∧ Five5 W0 w3.heap.size (i * 5) (L4[i]'hi)) := fun i hi => by
    obtain ⟨a, cap, hv, _, _, hc⟩ := M4
    obtain ⟨h1, g, off, ha, hg, F⟩ := hc i hi
    subst ha
    injection hv with e1 e2
    injection e1 with e1
    injection e1 with e3 e4
    subst e3 e4
    rw [Nat.zero_add] at F
    exact ⟨h1, hg, F⟩
  clear M4
  generalize w3.heap.size = g at *
  go_loopw [2] (fun i wr => ∃ k : Nat, k ≤ 4 ∧ i = .int .i64 k ∧ Below W0.heap.size W0 wr) (fun i _ => 4 - (intOf i).toNat)
  case atStart => exact ⟨0, by omega, rfl, Below.refl _ _⟩
  case round =>
    obtain ⟨wo, rfl⟩ : ∃ x, x = wr := ⟨wr, rfl⟩
    obtain ⟨k, hk, rfl, hB⟩ := hrel
    by_cases hlt : k < 4
    · have hlt' : (k : Int) < 4 := by omega
      go_wp2_with fail
      go_loopw [3] (fun j wi => ∃ n : Nat, k + 1 ≤ n ∧ n ≤ 4 ∧ j = .int .i64 n ∧ Below W0.heap.size W0 wi) (fun j _ => 4 - (intOf j).toNat)
      case atStart => exact ⟨k + 1, by omega, by omega, by go_num, hB⟩
      case round =>
        clear hB wo
        obtain ⟨wi, rfl⟩ : ∃ x, x = wr := ⟨wr, rfl⟩
        obtain ⟨n, hkn, hn, rfl, hB⟩ := hrel
        by_cases hnl : n < 4
        · have hnl' : (n : Int) < 4 := by omega
          obtain ⟨h1, hg, F⟩ := HM.out k hlt
          obtain ⟨h2, _, G⟩ := HM.out n hnl
          obtain ⟨o1, o2⟩ := L4_ord k hlt n hnl (by omega)
          have ok1 := L4_ok _ (List.getElem_mem (show k < L4.length from hlt))
          have ok2 := L4_ok _ (List.getElem_mem (show n < L4.length from hnl))
          generalize L4[k]'hlt = x at *
          generalize L4[n]'hnl = y at *
          have C1 := fun q : GB wi => hide (rorder_m x.m y.m x.vh x.vq y.vh y.vq q.W (h1.below (bb2 hB q.h)).1 (h1.below (bb2 hB q.h)).2 (h2.below (bb2 hB q.h)).1 (h2.below (bb2 hB q.h)).2 ok1.order ok2.order)
          have C2 := fun q : GB wi => hide (rorder_m y.m x.m y.vh y.vq x.vh x.vq q.W (h2.below (bb2 hB q.h)).1 (h2.below (bb2 hB q.h)).2 (h1.below (bb2 hB q.h)).1 (h1.below (bb2 hB q.h)).2 ok2.order ok1.order)
          rw [o1] at C1
          rw [o2] at C2
          clear o1 o2
          have b0 := fun q : GB wi => (F.below hg (bb2 hB q.h)).1
          have b1 := fun q : GB wi => (F.below hg (bb2 hB q.h)).2.1
          have b2 := fun q : GB wi => (F.below hg (bb2 hB q.h)).2.2.1
          have b3 := fun q : GB wi => (F.below hg (bb2 hB q.h)).2.2.2.1
          have b4 := fun q : GB wi => (F.below hg (bb2 hB q.h)).2.2.2.2
          have c0 := fun q : GB wi => (G.below hg (bb2 hB q.h)).1
          have c1 := fun q : GB wi => (G.below hg (bb2 hB q.h)).2.1
          have c2 := fun q : GB wi => (G.below hg (bb2 hB q.h)).2.2.1
          have c3 := fun q : GB wi => (G.below hg (bb2 hB q.h)).2.2.2.1
          have c4 := fun q : GB wi => (G.below hg (bb2 hB q.h)).2.2.2.2
          go_wp2_with fail
          refine wp_region_below (by kernel_rfl) (by kernel_rfl) ?_
          repeat (first | go_big_quiet_step ((first | (go_at_call 23; with_reducible exact calls_gb (C1 _).out) | (go_at_call 23; with_reducible exact calls_gb (C2 _).out))) | quiet_step ((first | (go_at_call 23; with_reducible exact calls_gb (C1 _).out) | (go_at_call 23; with_reducible exact calls_gb (C2 _).out))))
          refine wpQuiet_nil ?_
          intro _ hw'
          obtain ⟨qq, hw2⟩ := hw'
          subst hw2
          have hq := bb2 hB qq.h
          go_wp2_with fail
          exact ⟨⟨n + 1, by omega, by omega, by go_num, hq⟩, by simp [intOf]; omega⟩
        · have hnl' : ¬ (n : Int) < 4 := by omega
          go_wp2_with fail
          exact ⟨⟨k + 1, by omega, by go_num, hB⟩, by simp [intOf]; omega⟩
    · have hlt' : ¬ (k : Int) < 4 := by omega
      clear HM
      have S1 := bb2 S0 hB
      go_wp2_with fail
      refine (on_any _ _ _).mono ?_
      rintro e w5 ⟨rfl, hb5⟩
      go_wp2_with fail
      refine (on_any _ _ _).mono ?_
      rintro e w6 ⟨rfl, hb6⟩
      go_wp2_with fail
      refine (first_two w6 _ (Mts.lit w6 L2 _ rfl 2 rfl (by decide) (fun x hx => ?_))).mono ?_
      · simp [L2] at hx
        rcases hx with rfl | rfl <;> exact bare_at _ _ _ _
      rintro e w7 ⟨rfl, hb7⟩
      have S7 := bb2 (bb2 (bb2 S1 hb5) hb6) (below_box hb7)
      go_wp2_with fail
      refine (on_any _ _ _).mono ?_
      rintro e w8 ⟨rfl, hb8⟩
      go_wp2_with fail
      refine (holds_get _).mono ?_
      rintro e w9 ⟨rfl, hb9⟩
      go_wp2_with fail
      refine (on_any _ _ _).mono ?_
      rintro e w10 ⟨rfl, hb10⟩
      go_wp2_with fail
      refine (holds_post _).mono ?_
      rintro e w11 ⟨rfl, hb11⟩
      go_wp2_with fail
      go_ret
      exact ⟨rfl, bb2 (bb2 (bb2 (bb2 S7 hb8) hb9) hb10) hb11⟩

end Go.Proofs.Ytppnkfjdgalgbaa
