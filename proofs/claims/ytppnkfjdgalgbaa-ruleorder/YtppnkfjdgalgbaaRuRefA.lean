/-
  Walks: the document's May, Holds.
-/
import Derived.Test.YtppnkfjdgalgbaaRuWalkD
import Derived.Test.YtppnkfjdgalgbaaPaRefA
import Derived.Test.YtppnkfjdgalgbaaQuRefM
import Derived.Test.YtppnkfjdgalgbaaPbRefB
import Derived.Test.YtppnkfjdgalgbaaPbRefC
namespace Go.Proofs.Ytppnkfjdgalgbaa
open Go Go.RowKit Go.Shelf

attribute [local go_sem] gb_const

theorem rtoken_k (s : ByteArray) (w : World) (hs : s.size ≤ 100) :
    Calls Try.prog 34 #[.string s] w fun e w' => e = .returned (.bool (tokenB s)) ∧ w' = w :=
  (rtoken_any s w hs).mono fun _ _ ⟨h, hw⟩ => ⟨h.is tokenB_iff, hw⟩
theorem rvalue_k (s : ByteArray) (w : World) (hs : s.size ≤ 100) :
    Calls Try.prog 35 #[.string s] w fun e w' => e = .returned (.bool (valueB s)) ∧ w' = w :=
  (rvalue_any s w hs).mono fun _ _ ⟨h, hw⟩ => ⟨h.is valueB_iff, hw⟩
theorem qrmay_b (v : Value) (l : List PairB) (w : World) (hv : Prs w v l) (hok : ∀ p ∈ l, okP p) :
    Calls Try.prog 33 #[v] w fun e w' => e = .returned (.bool (Qu.may (l.map pl))) ∧ Below w.heap.size w w' :=
  (qrmay_any v l w hv hok).mono fun _ _ ⟨h, hw⟩ => ⟨h, by rw [hw]; exact Below.refl _ _⟩

section
variable {same : ByteArray → ByteArray → Bool} {l : List PairB}
/-- no name of the first k like one ahead of it -/
def FarR (same : ByteArray → ByteArray → Bool) (l : List PairB) (k : Nat) : Prop := ∀ x y (hx : x < l.length) (hy : y < l.length), x < k → y < x → same l[x].1 l[y].1 = false
theorem farR_next {k : Nat} (h : FarR same l k) (hn : ∀ y (hy : y < l.length) (hk : k < l.length), y < k → same l[k].1 l[y].1 = false) : FarR same l (k + 1) := by
  intro x y hx hy hxk hyx
  rcases Nat.lt_or_ge x k with h1 | h1
  · exact h x y hx hy h1 hyx
  · obtain rfl : x = k := by omega
    exact hn y hy hx hyx
theorem farR_done (h : FarR same l l.length) : farB same l = true := by
  rw [farB_iff]
  intro x y hx hy hyx
  exact h x y hx hy hx hyx
theorem farR_not {k j : Nat} (hk : k < l.length) (hj : j < l.length) (hjk : j < k) (hn : same l[k].1 l[j].1 = true) : farB same l = false := by
  cases hf : farB same l
  · rfl
  · rw [farB_iff] at hf
    rw [hf k j hk hj hjk] at hn
    cases hn
end
theorem head_far {l : List PairB} (h : farB sameF l = false) : headB l = false := by
  unfold headB
  rw [h, Bool.and_false, Bool.and_false]
theorem query_far {l : List PairB} (h : farB sameE l = false) : queryB l = false := by
  unfold queryB
  rw [h, Bool.and_false, Bool.and_false]
theorem head_yes {l : List PairB} (h8 : ¬ 8 < l.length) (h : ∀ j (hj : j < l.length), j < l.length → (tokenB l[j].1 && valueB l[j].2) = true) (hf : farB sameF l = true) : headB l = true := by
  have h1 : l.all (fun p => tokenB p.1 && valueB p.2) = true := by
    rw [List.all_eq_true]
    intro p hp
    obtain ⟨j, hj, rfl⟩ := List.getElem_of_mem hp
    exact h j hj hj
  unfold headB
  rw [h1, hf, decide_eq_true (by omega)]
  rfl
theorem query_yes {l : List PairB} (h8 : ¬ 8 < l.length) (h : Qu.may (l.map pl) = true) (hf : farB sameE l = true) : queryB l = true := by
  unfold queryB
  rw [h, hf, decide_eq_true (by omega)]
  rfl

set_option maxHeartbeats 6400000 in
theorem rmay_m (m : MB) (vh vq : Value) (w : World) (hh : Prs w vh m.head) (hq : Prs w vq m.query) (ok : OkM m) :
    Calls Try.prog 14 #[mV m vh vq] w fun e w' => e = .returned (.bool (mayM m)) ∧ Below w.heap.size w w' := by
  have HP := hide (mayM_walk m)
  have C1 := fun W => hide (prmay_any m.kind m.val W (small_len (by have := ok.val; omega)))
  have C2 := fun W => hide (rmethod_b m.meth W (small_len (by have := ok.meth; omega)))
  have C4 := fun W (h : Below w.heap.size w W) => hide (qrmay_b vq m.query W (hq.below h) (okF_okP ok.query))
  have HOK := hide ok.head
  have HOKQ := hide ok.query
  have lh := ok.hlen
  have lq := ok.qlen
  clear ok
  generalize mayM m = r at *
  obtain ⟨k, v, t, hd, qu⟩ := m
  dsimp only at *
  obtain ⟨a, ca, rfl, _, _, hc⟩ := hh
  obtain ⟨b, cb, rfl, _, _, hc2⟩ := hq
  have HC := hide hc
  have HC2 := hide hc2
  clear hc hc2
  obtain ⟨base, hbase⟩ : ∃ z, z = (w.alloc (.cells #[.int .i64 k, .string v, .string t, .slice a hd.length ca, .slice b qu.length cb] 26)) := ⟨_, rfl⟩
  have B0 : Below w.heap.size w base := by rw [hbase]; exact (Below.refl _ _).alloc (Nat.le_refl _) _
  have HB : ∀ W, Below base.heap.size base W → (W.cell? ⟨w.heap.size, 0, none⟩ = some (.int .i64 k) ∧ W.cell? ⟨w.heap.size, 1, none⟩ = some (.string v) ∧ W.cell? ⟨w.heap.size, 2, none⟩ = some (.string t) ∧ W.cell? ⟨w.heap.size, 3, none⟩ = some (.slice a hd.length ca) ∧ W.cell? ⟨w.heap.size, 4, none⟩ = some (.slice b qu.length cb)) := fun W h => box5 (by rw [← hbase]; exact h)
  have m0 := fun q : GB base => (HB q.W q.h).1
  have m1 := fun q : GB base => (HB q.W q.h).2.1
  have m2 := fun q : GB base => (HB q.W q.h).2.2.1
  have m3 := fun q : GB base => (HB q.W q.h).2.2.2.1
  have m4 := fun q : GB base => (HB q.W q.h).2.2.2.2
  have HBH := hide HB
  clear HB
  have HFH : Hid (headB hd = false → r = false) := fun h => by rw [HP.out, h]; simp
  have HFQ : Hid (queryB qu = false → r = false) := fun h => by rw [HP.out, h]; simp
  have e0 := (⟨base, Below.refl _ _⟩ : GB base)
  have z0 := m0 ⟨base, Below.refl _ _⟩
  have z1 := m1 ⟨base, Below.refl _ _⟩
  dsimp only at z0 z1
  cases hx1 : mayP k v.data.toList
  · have HE : Hid (false = r) := by unfold Hid; rw [HP.out, hx1]; rfl
    rw [hx1] at C1
    clear hx1
    go_enter Try.func14, Try.ntmps14
    go_wp2_with fail
    rw [← hbase]
    refine (calls_gb0 ((C1 _).out)).mono ?_
    rintro e x ⟨rfl, q, rfl⟩
    go_wp2_with fail
    go_ret
    exact ⟨ret_bool HE.out, bb2 B0 q.h⟩
  rw [hx1] at C1
  have HP1 : Hid (r = ((t.toList.isEmpty || methB t) && (headB hd && queryB qu))) := by unfold Hid; rw [HP.out, hx1]; rfl
  clear HP hx1
  by_cases h8 : 8 < hd.length
  · have t8 : (8 : Int) < (hd.length : Int) := by omega
    have HE : Hid (false = r) := (HFH.out (head_long h8)).symm
    cases he : t.toList.isEmpty
    · cases hm : methB t
      · rw [hm] at C2
        clear hm
        go_enter Try.func14, Try.ntmps14
        go_wp2_with fail
        rw [← hbase]
        refine (calls_gb0 ((C1 _).out)).mono ?_
        rintro e x ⟨rfl, q, rfl⟩
        go_wp2_with fail
        refine (calls_gb ((C2 _).out)).mono ?_
        rintro e x ⟨rfl, q, rfl⟩
        go_wp2_with fail
        go_ret
        exact ⟨ret_bool HE.out, bb2 B0 q.h⟩
      · rw [hm] at C2
        clear hm
        go_enter Try.func14, Try.ntmps14
        go_wp2_with fail
        rw [← hbase]
        refine (calls_gb0 ((C1 _).out)).mono ?_
        rintro e x ⟨rfl, q, rfl⟩
        go_wp2_with fail
        refine (calls_gb ((C2 _).out)).mono ?_
        rintro e x ⟨rfl, q, rfl⟩
        go_wp2_with fail
        go_ret
        exact ⟨ret_bool HE.out, bb2 B0 q.h⟩
    · go_enter Try.func14, Try.ntmps14
      go_wp2_with fail
      rw [← hbase]
      refine (calls_gb0 ((C1 _).out)).mono ?_
      rintro e x ⟨rfl, q, rfl⟩
      go_wp2_with fail
      go_ret
      exact ⟨ret_bool HE.out, bb2 B0 q.h⟩
  have t8 : ¬ (8 : Int) < (hd.length : Int) := by omega
  by_cases h9 : 8 < qu.length
  · have t9 : (8 : Int) < (qu.length : Int) := by omega
    have HE : Hid (false = r) := (HFQ.out (query_long h9)).symm
    cases he : t.toList.isEmpty
    · cases hm : methB t
      · rw [hm] at C2
        clear hm
        go_enter Try.func14, Try.ntmps14
        go_wp2_with fail
        rw [← hbase]
        refine (calls_gb0 ((C1 _).out)).mono ?_
        rintro e x ⟨rfl, q, rfl⟩
        go_wp2_with fail
        refine (calls_gb ((C2 _).out)).mono ?_
        rintro e x ⟨rfl, q, rfl⟩
        go_wp2_with fail
        go_ret
        exact ⟨ret_bool HE.out, bb2 B0 q.h⟩
      · rw [hm] at C2
        clear hm
        go_enter Try.func14, Try.ntmps14
        go_wp2_with fail
        rw [← hbase]
        refine (calls_gb0 ((C1 _).out)).mono ?_
        rintro e x ⟨rfl, q, rfl⟩
        go_wp2_with fail
        refine (calls_gb ((C2 _).out)).mono ?_
        rintro e x ⟨rfl, q, rfl⟩
        go_wp2_with fail
        go_ret
        exact ⟨ret_bool HE.out, bb2 B0 q.h⟩
    · go_enter Try.func14, Try.ntmps14
      go_wp2_with fail
      rw [← hbase]
      refine (calls_gb0 ((C1 _).out)).mono ?_
      rintro e x ⟨rfl, q, rfl⟩
      go_wp2_with fail
      go_ret
      exact ⟨ret_bool HE.out, bb2 B0 q.h⟩
  have t9 : ¬ (8 : Int) < (qu.length : Int) := by omega
  cases hqm : Qu.may (qu.map pl)
  · have HE : Hid (false = r) := (HFQ.out (query_not hqm)).symm
    rw [hqm] at C4
    clear hqm
    cases he : t.toList.isEmpty
    · cases hm : methB t
      · rw [hm] at C2
        clear hm
        go_enter Try.func14, Try.ntmps14
        go_wp2_with fail
        rw [← hbase]
        refine (calls_gb0 ((C1 _).out)).mono ?_
        rintro e x ⟨rfl, q, rfl⟩
        go_wp2_with fail
        refine (calls_gb ((C2 _).out)).mono ?_
        rintro e x ⟨rfl, q, rfl⟩
        go_wp2_with fail
        go_ret
        exact ⟨ret_bool HE.out, bb2 B0 q.h⟩
      · rw [hm] at C2
        clear hm
        go_enter Try.func14, Try.ntmps14
        go_wp2_with fail
        rw [← hbase]
        refine (calls_gb0 ((C1 _).out)).mono ?_
        rintro e x ⟨rfl, q, rfl⟩
        go_wp2_with fail
        refine (calls_gb ((C2 _).out)).mono ?_
        rintro e x ⟨rfl, q, rfl⟩
        go_wp2_with fail
        refine (calls_gb ((C4 _ (bb2 B0 q.h)).out)).mono ?_
        rintro e x ⟨rfl, q, rfl⟩
        go_wp2_with fail
        go_ret
        exact ⟨ret_bool HE.out, bb2 B0 q.h⟩
    · go_enter Try.func14, Try.ntmps14
      go_wp2_with fail
      rw [← hbase]
      refine (calls_gb0 ((C1 _).out)).mono ?_
      rintro e x ⟨rfl, q, rfl⟩
      go_wp2_with fail
      refine (calls_gb ((C4 _ (bb2 B0 q.h)).out)).mono ?_
      rintro e x ⟨rfl, q, rfl⟩
      go_wp2_with fail
      go_ret
      exact ⟨ret_bool HE.out, bb2 B0 q.h⟩
  have HQM := hide hqm
  rw [hqm] at C4
  clear hqm
  cases he : t.toList.isEmpty
  · cases hm : methB t
    · have HE : Hid (false = r) := by unfold Hid; rw [HP1.out, he, hm]; rfl
      rw [hm] at C2
      clear hm
      go_enter Try.func14, Try.ntmps14
      go_wp2_with fail
      rw [← hbase]
      refine (calls_gb0 ((C1 _).out)).mono ?_
      rintro e x ⟨rfl, q, rfl⟩
      go_wp2_with fail
      refine (calls_gb ((C2 _).out)).mono ?_
      rintro e x ⟨rfl, q, rfl⟩
      go_wp2_with fail
      go_ret
      exact ⟨ret_bool HE.out, bb2 B0 q.h⟩
    · have HY : Hid (headB hd = true → queryB qu = true → r = true) := fun h1 h2 => by rw [HP1.out, he, hm, h1, h2]; rfl
      rw [hm] at C2
      clear hm HP1
      go_enter Try.func14, Try.ntmps14
      go_wp2_with fail
      rw [← hbase]
      refine (calls_gb0 ((C1 _).out)).mono ?_
      rintro e x ⟨rfl, q, rfl⟩
      go_wp2_with fail
      refine (calls_gb ((C2 _).out)).mono ?_
      rintro e x ⟨rfl, q, rfl⟩
      go_wp2_with fail
      refine (calls_gb ((C4 _ (bb2 B0 q.h)).out)).mono ?_
      rintro e x ⟨rfl, q, rfl⟩
      go_wp2_with fail
      have hBq := q.h
      clear hbase C1 C2 C4 z0 z1 e0
      obtain ⟨wq, hwq⟩ : ∃ z, z = q.W := ⟨_, rfl⟩
      rw [← hwq] at hBq ⊢
      clear hwq q
      go_loopw [3] (fun i wr => ∃ k : Nat, k ≤ hd.length ∧ i = .int .i64 k ∧ Hid (∀ j (hj : j < hd.length), j < k → (tokenB hd[j].1 && valueB hd[j].2) = true) ∧ Hid (FarR sameF hd k) ∧ Below base.heap.size base wr) (fun i _ => hd.length - (intOf i).toNat)
      case atStart => exact ⟨0, Nat.zero_le _, rfl, fun _ _ h => absurd h (by omega), fun _ _ _ _ h => absurd h (by omega), hBq⟩
      case round =>
        clear hBq wq
        obtain ⟨wo, rfl⟩ : ∃ x, x = wr := ⟨wr, rfl⟩
        obtain ⟨i, hi, rfl, hall, hfar, hB⟩ := hrel
        have c3 := m3 ⟨wo, hB⟩
        dsimp only at c3
        by_cases hlt : i < hd.length
        · have hlt' : (i : Int) < (hd.length : Int) := by omega
          obtain ⟨g, off, rfl, hg, D1, D2⟩ := HC.out i hlt
          replace D1 := fun W (h : Below w.heap.size w W) => (h.cell (p := ⟨g, off + i * 2, none⟩) hg).trans D1
          replace D2 := fun W (h : Below w.heap.size w W) => (h.cell (p := ⟨g, off + i * 2 + 1, none⟩) hg).trans D2
          obtain ⟨o1, o2⟩ := HOK.out _ (List.getElem_mem hlt)
          have HBAD := hide (head_bad hlt)
          have HAN : Hid ((tokenB hd[i].1 && valueB hd[i].2) = true → ∀ j (hj : j < hd.length), j < i + 1 → (tokenB hd[j].1 && valueB hd[j].2) = true) := fun h j hj hjk => by
            rcases Nat.lt_or_ge j i with h1 | h1
            · exact hall.out j hj h1
            · obtain rfl : j = i := by omega
              exact h
          have HFN : Hid ((∀ y (hy : y < hd.length), y < i → sameF hd[i].1 hd[y].1 = false) → FarR sameF hd (i + 1)) := fun h => farR_next hfar.out (fun y hy _ hyk => h y hy hyk)
          have HNOT : Hid (∀ j (hj : j < hd.length), j < i → sameF hd[i].1 hd[j].1 = true → farB sameF hd = false) := fun j hj hjk h => farR_not hlt hj hjk h
          clear hall hfar
          generalize hp1 : hd[i].1 = p1 at *
          generalize hp2 : hd[i].2 = p2 at *
          clear hp1 hp2
          have CT := fun W => hide (rtoken_k p1 W o1)
          have CV := fun W => hide (rvalue_k p2 W o2)
          have d1 := D1 wo (bb2 B0 hB)
          have d2 := D2 wo (bb2 B0 hB)
          cases ht : tokenB p1
          · have HE : Hid (false = r) := (HFH.out (HBAD.out (by rw [ht]; rfl))).symm
            rw [ht] at CT
            clear ht HBAD HAN HFN HNOT
            go_wp2_with fail
            refine ((CT _).out).mono ?_
            rintro e x ⟨rfl, hx⟩
            subst x
            go_wp2_with fail
            go_ret
            exact ⟨ret_bool HE.out, bb2 B0 hB⟩
          rw [ht] at CT
          cases hvv : valueB p2
          · have HE : Hid (false = r) := (HFH.out (HBAD.out (by rw [ht, hvv]; rfl))).symm
            rw [hvv] at CV
            clear ht hvv HBAD HAN HFN HNOT
            go_wp2_with fail
            refine ((CT _).out).mono ?_
            rintro e x ⟨rfl, hx⟩
            subst x
            go_wp2_with fail
            refine ((CV _).out).mono ?_
            rintro e x ⟨rfl, hx⟩
            subst x
            go_wp2_with fail
            go_ret
            exact ⟨ret_bool HE.out, bb2 B0 hB⟩
          have HAN' := hide (HAN.out (by rw [ht, hvv]; rfl))
          rw [hvv] at CV
          clear ht hvv HBAD HAN
          go_wp2_with fail
          refine ((CT _).out).mono ?_
          rintro e x ⟨rfl, hx⟩
          subst x
          go_wp2_with fail
          refine ((CV _).out).mono ?_
          rintro e x ⟨rfl, hx⟩
          subst x
          go_wp2_with fail
          clear CT CV
          go_loopw [4] (fun j wi => ∃ n : Nat, n ≤ i ∧ j = .int .i64 n ∧ Hid (∀ y (hy : y < hd.length), y < n → sameF p1 hd[y].1 = false) ∧ Below base.heap.size base wi) (fun j _ => i - (intOf j).toNat)
          case atStart => exact ⟨0, Nat.zero_le _, rfl, fun y _ h => absurd h (by omega), hB⟩
          case round =>
            clear hB c3 d1 d2 wo
            obtain ⟨wi, rfl⟩ : ∃ x, x = wr := ⟨wr, rfl⟩
            obtain ⟨n, hn, rfl, hno, hI⟩ := hrel
            by_cases hni : n < i
            · have hni' : (n : Int) < (i : Int) := by omega
              have hnl : n < hd.length := by omega
              have hnl' : (n : Int) < (hd.length : Int) := by omega
              obtain ⟨g', off', he', _, E1, _⟩ := HC.out n hnl
              injection he' with he'
              injection he' with he1 he2
              subst he1 he2
              replace E1 := fun W (h : Below w.heap.size w W) => (h.cell (p := ⟨g, off + n * 2, none⟩) hg).trans E1
              obtain ⟨o3, _⟩ := HOK.out _ (List.getElem_mem hnl)
              have CS := fun W => hide (rprSame_any p1 hd[n].1 W o1 o3)
              have HNX : Hid (sameF p1 hd[n].1 = false → ∀ y (hy : y < hd.length), y < n + 1 → sameF p1 hd[y].1 = false) := fun h y hy hyn => by
                rcases Nat.lt_or_ge y n with h1 | h1
                · exact hno.out y hy h1
                · obtain rfl : y = n := by omega
                  exact h
              have HF := hide (HNOT.out n hnl hni)
              have f1 := fun q : GB wi => D1 q.W (bb2 B0 (hI.trans (q.h.mono hI.size)))
              have f2 := fun q : GB wi => E1 q.W (bb2 B0 (hI.trans (q.h.mono hI.size)))
              have f3 := fun q : GB wi => m3 ⟨q.W, hI.trans (q.h.mono hI.size)⟩
              dsimp only at f3
              cases hs : sameF p1 hd[n].1
              · have HN := hide (HNX.out hs)
                rw [hs] at CS
                clear hs HNX HF
                generalize hd[n].1 = p3 at *
                go_wp2_with fail
                refine wp_region_below (by kernel_rfl) (by kernel_rfl) ?_
                repeat (first | go_big_quiet_step ((go_at_call 36; exact calls_gb (CS _).out)) | quiet_step ((go_at_call 36; exact calls_gb (CS _).out)))
                refine wpQuiet_nil ?_
                intro _ hw'
                obtain ⟨qq, hw2⟩ := hw'
                subst hw2
                have hq := hI.trans (qq.h.mono hI.size)
                go_wp2_with fail
                exact ⟨⟨n + 1, by omega, by go_num, HN.out, hq⟩, by simp [intOf]; omega⟩
              · have HE : Hid (false = r) := (HFH.out (head_far (HF.out hs))).symm
                rw [hs] at CS
                clear hs HNX HF
                generalize hd[n].1 = p3 at *
                go_wp2_with fail
                refine wp_region_below (by kernel_rfl) (by kernel_rfl) ?_
                repeat (first | go_big_quiet_step ((go_at_call 36; exact calls_gb (CS _).out)) | quiet_step ((go_at_call 36; exact calls_gb (CS _).out)))
                refine wpQuiet_nil ?_
                intro _ hw'
                obtain ⟨qq, hw2⟩ := hw'
                subst hw2
                have hq := hI.trans (qq.h.mono hI.size)
                go_wp2_with fail
                go_ret
                exact ⟨ret_bool HE.out, bb2 B0 hq⟩
            · have hni' : ¬ (n : Int) < (i : Int) := by omega
              have HN := hide (HFN.out (fun y hy hyi => hno.out y hy (by omega)))
              go_wp2_with fail
              exact ⟨⟨i + 1, by omega, by go_num, HAN'.out, HN.out, hI⟩, by simp [intOf]; omega⟩
        · have hlt' : ¬ (i : Int) < (hd.length : Int) := by omega
          obtain rfl : i = hd.length := by omega
          have HHY := hide (head_yes h8 hall.out (farR_done hfar.out))
          clear hall hfar
          go_wp2_with fail
          go_loopw [5] (fun i wr => ∃ k : Nat, k ≤ qu.length ∧ i = .int .i64 k ∧ Hid (FarR sameE qu k) ∧ Below base.heap.size base wr) (fun i _ => qu.length - (intOf i).toNat)
          case atStart => exact ⟨0, Nat.zero_le _, rfl, fun _ _ _ _ h => absurd h (by omega), hB⟩
          case round =>
            clear hB c3 wo
            obtain ⟨wo, rfl⟩ : ∃ x, x = wr := ⟨wr, rfl⟩
            obtain ⟨i, hi, rfl, hfar, hB⟩ := hrel
            have c4 := m4 ⟨wo, hB⟩
            dsimp only at c4
            by_cases hlt : i < qu.length
            · have hlt' : (i : Int) < (qu.length : Int) := by omega
              obtain ⟨g, off, rfl, hg, D1, D2⟩ := HC2.out i hlt
              replace D1 := fun W (h : Below w.heap.size w W) => (h.cell (p := ⟨g, off + i * 2, none⟩) hg).trans D1
              have HFN : Hid ((∀ y (hy : y < qu.length), y < i → sameE qu[i].1 qu[y].1 = false) → FarR sameE qu (i + 1)) := fun h => farR_next hfar.out (fun y hy _ hyk => h y hy hyk)
              have HNOT : Hid (∀ j (hj : j < qu.length), j < i → sameE qu[i].1 qu[j].1 = true → farB sameE qu = false) := fun j hj hjk h => farR_not hlt hj hjk h
              clear hfar D2
              generalize hp1 : qu[i].1 = p1 at *
              clear hp1
              go_wp2_with fail
              go_loopw [6] (fun j wi => ∃ n : Nat, n ≤ i ∧ j = .int .i64 n ∧ Hid (∀ y (hy : y < qu.length), y < n → sameE p1 qu[y].1 = false) ∧ Below base.heap.size base wi) (fun j _ => i - (intOf j).toNat)
              case atStart => exact ⟨0, Nat.zero_le _, rfl, fun y _ h => absurd h (by omega), hB⟩
              case round =>
                clear hB c4 wo
                obtain ⟨wi, rfl⟩ : ∃ x, x = wr := ⟨wr, rfl⟩
                obtain ⟨n, hn, rfl, hno, hI⟩ := hrel
                by_cases hni : n < i
                · have hni' : (n : Int) < (i : Int) := by omega
                  have hnl : n < qu.length := by omega
                  have hnl' : (n : Int) < (qu.length : Int) := by omega
                  obtain ⟨g', off', he', _, E1, _⟩ := HC2.out n hnl
                  injection he' with he'
                  injection he' with he1 he2
                  subst he1 he2
                  replace E1 := fun W (h : Below w.heap.size w W) => (h.cell (p := ⟨g, off + n * 2, none⟩) hg).trans E1
                  have HNX : Hid (sameE p1 qu[n].1 = false → ∀ y (hy : y < qu.length), y < n + 1 → sameE p1 qu[y].1 = false) := fun h y hy hyn => by
                    rcases Nat.lt_or_ge y n with h1 | h1
                    · exact hno.out y hy h1
                    · obtain rfl : y = n := by omega
                      exact h
                  have HF := hide (HNOT.out n hnl hni)
                  have f1 := fun q : GB wi => D1 q.W (bb2 B0 (hI.trans (q.h.mono hI.size)))
                  have f2 := fun q : GB wi => E1 q.W (bb2 B0 (hI.trans (q.h.mono hI.size)))
                  have f4 := fun q : GB wi => m4 ⟨q.W, hI.trans (q.h.mono hI.size)⟩
                  dsimp only at f4
                  have HBD := hide (beq_dec p1 qu[n].1)
                  cases hs : sameE p1 qu[n].1
                  · have HN := hide (HNX.out hs)
                    have hbe : (p1.toList == qu[n].1.toList) = false := HBD.out.trans hs
                    clear hs HNX HF HBD
                    generalize qu[n].1 = p3 at *
                    go_wp2_with fail
                    refine wp_region_below (by kernel_rfl) (by kernel_rfl) ?_
                    repeat (first | go_big_quiet_step (fail) | quiet_step (fail))
                    refine wpQuiet_nil ?_
                    intro _ hw'
                    obtain ⟨qq, hw2⟩ := hw'
                    subst hw2
                    have hq := hI.trans (qq.h.mono hI.size)
                    go_wp2_with fail
                    exact ⟨⟨n + 1, by omega, by go_num, HN.out, hq⟩, by simp [intOf]; omega⟩
                  · have HE : Hid (false = r) := (HFQ.out (query_far (HF.out hs))).symm
                    have hbe : (p1.toList == qu[n].1.toList) = true := HBD.out.trans hs
                    clear hs HNX HF HBD
                    generalize qu[n].1 = p3 at *
                    go_wp2_with fail
                    refine wp_region_below (by kernel_rfl) (by kernel_rfl) ?_
                    repeat (first | go_big_quiet_step (fail) | quiet_step (fail))
                    refine wpQuiet_nil ?_
                    intro _ hw'
                    obtain ⟨qq, hw2⟩ := hw'
                    subst hw2
                    have hq := hI.trans (qq.h.mono hI.size)
                    go_wp2_with fail
                    go_ret
                    exact ⟨ret_bool HE.out, bb2 B0 hq⟩
                · have hni' : ¬ (n : Int) < (i : Int) := by omega
                  have HN := hide (HFN.out (fun y hy hyi => hno.out y hy (by omega)))
                  go_wp2_with fail
                  exact ⟨⟨i + 1, by omega, by go_num, HN.out, hI⟩, by simp [intOf]; omega⟩
            · have hlt' : ¬ (i : Int) < (qu.length : Int) := by omega
              obtain rfl : i = qu.length := by omega
              have HE : Hid (true = r) := (HY.out HHY.out (query_yes h9 HQM.out (farR_done hfar.out))).symm
              go_wp2_with fail
              go_ret
              exact ⟨ret_bool HE.out, bb2 B0 hB⟩
  · have HY : Hid (headB hd = true → queryB qu = true → r = true) := fun h1 h2 => by rw [HP1.out, he, h1, h2]; rfl
    clear HP1
    go_enter Try.func14, Try.ntmps14
    go_wp2_with fail
    rw [← hbase]
    refine (calls_gb0 ((C1 _).out)).mono ?_
    rintro e x ⟨rfl, q, rfl⟩
    go_wp2_with fail
    refine (calls_gb ((C4 _ (bb2 B0 q.h)).out)).mono ?_
    rintro e x ⟨rfl, q, rfl⟩
    go_wp2_with fail
    have hBq := q.h
    clear hbase C1 C2 C4 z0 z1 e0
    obtain ⟨wq, hwq⟩ : ∃ z, z = q.W := ⟨_, rfl⟩
    rw [← hwq] at hBq ⊢
    clear hwq q
    go_loopw [3] (fun i wr => ∃ k : Nat, k ≤ hd.length ∧ i = .int .i64 k ∧ Hid (∀ j (hj : j < hd.length), j < k → (tokenB hd[j].1 && valueB hd[j].2) = true) ∧ Hid (FarR sameF hd k) ∧ Below base.heap.size base wr) (fun i _ => hd.length - (intOf i).toNat)
    case atStart => exact ⟨0, Nat.zero_le _, rfl, fun _ _ h => absurd h (by omega), fun _ _ _ _ h => absurd h (by omega), hBq⟩
    case round =>
      clear hBq wq
      obtain ⟨wo, rfl⟩ : ∃ x, x = wr := ⟨wr, rfl⟩
      obtain ⟨i, hi, rfl, hall, hfar, hB⟩ := hrel
      have c3 := m3 ⟨wo, hB⟩
      dsimp only at c3
      by_cases hlt : i < hd.length
      · have hlt' : (i : Int) < (hd.length : Int) := by omega
        obtain ⟨g, off, rfl, hg, D1, D2⟩ := HC.out i hlt
        replace D1 := fun W (h : Below w.heap.size w W) => (h.cell (p := ⟨g, off + i * 2, none⟩) hg).trans D1
        replace D2 := fun W (h : Below w.heap.size w W) => (h.cell (p := ⟨g, off + i * 2 + 1, none⟩) hg).trans D2
        obtain ⟨o1, o2⟩ := HOK.out _ (List.getElem_mem hlt)
        have HBAD := hide (head_bad hlt)
        have HAN : Hid ((tokenB hd[i].1 && valueB hd[i].2) = true → ∀ j (hj : j < hd.length), j < i + 1 → (tokenB hd[j].1 && valueB hd[j].2) = true) := fun h j hj hjk => by
          rcases Nat.lt_or_ge j i with h1 | h1
          · exact hall.out j hj h1
          · obtain rfl : j = i := by omega
            exact h
        have HFN : Hid ((∀ y (hy : y < hd.length), y < i → sameF hd[i].1 hd[y].1 = false) → FarR sameF hd (i + 1)) := fun h => farR_next hfar.out (fun y hy _ hyk => h y hy hyk)
        have HNOT : Hid (∀ j (hj : j < hd.length), j < i → sameF hd[i].1 hd[j].1 = true → farB sameF hd = false) := fun j hj hjk h => farR_not hlt hj hjk h
        clear hall hfar
        generalize hp1 : hd[i].1 = p1 at *
        generalize hp2 : hd[i].2 = p2 at *
        clear hp1 hp2
        have CT := fun W => hide (rtoken_k p1 W o1)
        have CV := fun W => hide (rvalue_k p2 W o2)
        have d1 := D1 wo (bb2 B0 hB)
        have d2 := D2 wo (bb2 B0 hB)
        cases ht : tokenB p1
        · have HE : Hid (false = r) := (HFH.out (HBAD.out (by rw [ht]; rfl))).symm
          rw [ht] at CT
          clear ht HBAD HAN HFN HNOT
          go_wp2_with fail
          refine ((CT _).out).mono ?_
          rintro e x ⟨rfl, hx⟩
          subst x
          go_wp2_with fail
          go_ret
          exact ⟨ret_bool HE.out, bb2 B0 hB⟩
        rw [ht] at CT
        cases hvv : valueB p2
        · have HE : Hid (false = r) := (HFH.out (HBAD.out (by rw [ht, hvv]; rfl))).symm
          rw [hvv] at CV
          clear ht hvv HBAD HAN HFN HNOT
          go_wp2_with fail
          refine ((CT _).out).mono ?_
          rintro e x ⟨rfl, hx⟩
          subst x
          go_wp2_with fail
          refine ((CV _).out).mono ?_
          rintro e x ⟨rfl, hx⟩
          subst x
          go_wp2_with fail
          go_ret
          exact ⟨ret_bool HE.out, bb2 B0 hB⟩
        have HAN' := hide (HAN.out (by rw [ht, hvv]; rfl))
        rw [hvv] at CV
        clear ht hvv HBAD HAN
        go_wp2_with fail
        refine ((CT _).out).mono ?_
        rintro e x ⟨rfl, hx⟩
        subst x
        go_wp2_with fail
        refine ((CV _).out).mono ?_
        rintro e x ⟨rfl, hx⟩
        subst x
        go_wp2_with fail
        clear CT CV
        go_loopw [4] (fun j wi => ∃ n : Nat, n ≤ i ∧ j = .int .i64 n ∧ Hid (∀ y (hy : y < hd.length), y < n → sameF p1 hd[y].1 = false) ∧ Below base.heap.size base wi) (fun j _ => i - (intOf j).toNat)
        case atStart => exact ⟨0, Nat.zero_le _, rfl, fun y _ h => absurd h (by omega), hB⟩
        case round =>
          clear hB c3 d1 d2 wo
          obtain ⟨wi, rfl⟩ : ∃ x, x = wr := ⟨wr, rfl⟩
          obtain ⟨n, hn, rfl, hno, hI⟩ := hrel
          by_cases hni : n < i
          · have hni' : (n : Int) < (i : Int) := by omega
            have hnl : n < hd.length := by omega
            have hnl' : (n : Int) < (hd.length : Int) := by omega
            obtain ⟨g', off', he', _, E1, _⟩ := HC.out n hnl
            injection he' with he'
            injection he' with he1 he2
            subst he1 he2
            replace E1 := fun W (h : Below w.heap.size w W) => (h.cell (p := ⟨g, off + n * 2, none⟩) hg).trans E1
            obtain ⟨o3, _⟩ := HOK.out _ (List.getElem_mem hnl)
            have CS := fun W => hide (rprSame_any p1 hd[n].1 W o1 o3)
            have HNX : Hid (sameF p1 hd[n].1 = false → ∀ y (hy : y < hd.length), y < n + 1 → sameF p1 hd[y].1 = false) := fun h y hy hyn => by
              rcases Nat.lt_or_ge y n with h1 | h1
              · exact hno.out y hy h1
              · obtain rfl : y = n := by omega
                exact h
            have HF := hide (HNOT.out n hnl hni)
            have f1 := fun q : GB wi => D1 q.W (bb2 B0 (hI.trans (q.h.mono hI.size)))
            have f2 := fun q : GB wi => E1 q.W (bb2 B0 (hI.trans (q.h.mono hI.size)))
            have f3 := fun q : GB wi => m3 ⟨q.W, hI.trans (q.h.mono hI.size)⟩
            dsimp only at f3
            cases hs : sameF p1 hd[n].1
            · have HN := hide (HNX.out hs)
              rw [hs] at CS
              clear hs HNX HF
              generalize hd[n].1 = p3 at *
              go_wp2_with fail
              refine wp_region_below (by kernel_rfl) (by kernel_rfl) ?_
              repeat (first | go_big_quiet_step ((go_at_call 36; exact calls_gb (CS _).out)) | quiet_step ((go_at_call 36; exact calls_gb (CS _).out)))
              refine wpQuiet_nil ?_
              intro _ hw'
              obtain ⟨qq, hw2⟩ := hw'
              subst hw2
              have hq := hI.trans (qq.h.mono hI.size)
              go_wp2_with fail
              exact ⟨⟨n + 1, by omega, by go_num, HN.out, hq⟩, by simp [intOf]; omega⟩
            · have HE : Hid (false = r) := (HFH.out (head_far (HF.out hs))).symm
              rw [hs] at CS
              clear hs HNX HF
              generalize hd[n].1 = p3 at *
              go_wp2_with fail
              refine wp_region_below (by kernel_rfl) (by kernel_rfl) ?_
              repeat (first | go_big_quiet_step ((go_at_call 36; exact calls_gb (CS _).out)) | quiet_step ((go_at_call 36; exact calls_gb (CS _).out)))
              refine wpQuiet_nil ?_
              intro _ hw'
              obtain ⟨qq, hw2⟩ := hw'
              subst hw2
              have hq := hI.trans (qq.h.mono hI.size)
              go_wp2_with fail
              go_ret
              exact ⟨ret_bool HE.out, bb2 B0 hq⟩
          · have hni' : ¬ (n : Int) < (i : Int) := by omega
            have HN := hide (HFN.out (fun y hy hyi => hno.out y hy (by omega)))
            go_wp2_with fail
            exact ⟨⟨i + 1, by omega, by go_num, HAN'.out, HN.out, hI⟩, by simp [intOf]; omega⟩
      · have hlt' : ¬ (i : Int) < (hd.length : Int) := by omega
        obtain rfl : i = hd.length := by omega
        have HHY := hide (head_yes h8 hall.out (farR_done hfar.out))
        clear hall hfar
        go_wp2_with fail
        go_loopw [5] (fun i wr => ∃ k : Nat, k ≤ qu.length ∧ i = .int .i64 k ∧ Hid (FarR sameE qu k) ∧ Below base.heap.size base wr) (fun i _ => qu.length - (intOf i).toNat)
        case atStart => exact ⟨0, Nat.zero_le _, rfl, fun _ _ _ _ h => absurd h (by omega), hB⟩
        case round =>
          clear hB c3 wo
          obtain ⟨wo, rfl⟩ : ∃ x, x = wr := ⟨wr, rfl⟩
          obtain ⟨i, hi, rfl, hfar, hB⟩ := hrel
          have c4 := m4 ⟨wo, hB⟩
          dsimp only at c4
          by_cases hlt : i < qu.length
          · have hlt' : (i : Int) < (qu.length : Int) := by omega
            obtain ⟨g, off, rfl, hg, D1, D2⟩ := HC2.out i hlt
            replace D1 := fun W (h : Below w.heap.size w W) => (h.cell (p := ⟨g, off + i * 2, none⟩) hg).trans D1
            have HFN : Hid ((∀ y (hy : y < qu.length), y < i → sameE qu[i].1 qu[y].1 = false) → FarR sameE qu (i + 1)) := fun h => farR_next hfar.out (fun y hy _ hyk => h y hy hyk)
            have HNOT : Hid (∀ j (hj : j < qu.length), j < i → sameE qu[i].1 qu[j].1 = true → farB sameE qu = false) := fun j hj hjk h => farR_not hlt hj hjk h
            clear hfar D2
            generalize hp1 : qu[i].1 = p1 at *
            clear hp1
            go_wp2_with fail
            go_loopw [6] (fun j wi => ∃ n : Nat, n ≤ i ∧ j = .int .i64 n ∧ Hid (∀ y (hy : y < qu.length), y < n → sameE p1 qu[y].1 = false) ∧ Below base.heap.size base wi) (fun j _ => i - (intOf j).toNat)
            case atStart => exact ⟨0, Nat.zero_le _, rfl, fun y _ h => absurd h (by omega), hB⟩
            case round =>
              clear hB c4 wo
              obtain ⟨wi, rfl⟩ : ∃ x, x = wr := ⟨wr, rfl⟩
              obtain ⟨n, hn, rfl, hno, hI⟩ := hrel
              by_cases hni : n < i
              · have hni' : (n : Int) < (i : Int) := by omega
                have hnl : n < qu.length := by omega
                have hnl' : (n : Int) < (qu.length : Int) := by omega
                obtain ⟨g', off', he', _, E1, _⟩ := HC2.out n hnl
                injection he' with he'
                injection he' with he1 he2
                subst he1 he2
                replace E1 := fun W (h : Below w.heap.size w W) => (h.cell (p := ⟨g, off + n * 2, none⟩) hg).trans E1
                have HNX : Hid (sameE p1 qu[n].1 = false → ∀ y (hy : y < qu.length), y < n + 1 → sameE p1 qu[y].1 = false) := fun h y hy hyn => by
                  rcases Nat.lt_or_ge y n with h1 | h1
                  · exact hno.out y hy h1
                  · obtain rfl : y = n := by omega
                    exact h
                have HF := hide (HNOT.out n hnl hni)
                have f1 := fun q : GB wi => D1 q.W (bb2 B0 (hI.trans (q.h.mono hI.size)))
                have f2 := fun q : GB wi => E1 q.W (bb2 B0 (hI.trans (q.h.mono hI.size)))
                have f4 := fun q : GB wi => m4 ⟨q.W, hI.trans (q.h.mono hI.size)⟩
                dsimp only at f4
                have HBD := hide (beq_dec p1 qu[n].1)
                cases hs : sameE p1 qu[n].1
                · have HN := hide (HNX.out hs)
                  have hbe : (p1.toList == qu[n].1.toList) = false := HBD.out.trans hs
                  clear hs HNX HF HBD
                  generalize qu[n].1 = p3 at *
                  go_wp2_with fail
                  refine wp_region_below (by kernel_rfl) (by kernel_rfl) ?_
                  repeat (first | go_big_quiet_step (fail) | quiet_step (fail))
                  refine wpQuiet_nil ?_
                  intro _ hw'
                  obtain ⟨qq, hw2⟩ := hw'
                  subst hw2
                  have hq := hI.trans (qq.h.mono hI.size)
                  go_wp2_with fail
                  exact ⟨⟨n + 1, by omega, by go_num, HN.out, hq⟩, by simp [intOf]; omega⟩
                · have HE : Hid (false = r) := (HFQ.out (query_far (HF.out hs))).symm
                  have hbe : (p1.toList == qu[n].1.toList) = true := HBD.out.trans hs
                  clear hs HNX HF HBD
                  generalize qu[n].1 = p3 at *
                  go_wp2_with fail
                  refine wp_region_below (by kernel_rfl) (by kernel_rfl) ?_
                  repeat (first | go_big_quiet_step (fail) | quiet_step (fail))
                  refine wpQuiet_nil ?_
                  intro _ hw'
                  obtain ⟨qq, hw2⟩ := hw'
                  subst hw2
                  have hq := hI.trans (qq.h.mono hI.size)
                  go_wp2_with fail
                  go_ret
                  exact ⟨ret_bool HE.out, bb2 B0 hq⟩
              · have hni' : ¬ (n : Int) < (i : Int) := by omega
                have HN := hide (HFN.out (fun y hy hyi => hno.out y hy (by omega)))
                go_wp2_with fail
                exact ⟨⟨i + 1, by omega, by go_num, HN.out, hI⟩, by simp [intOf]; omega⟩
          · have hlt' : ¬ (i : Int) < (qu.length : Int) := by omega
            obtain rfl : i = qu.length := by omega
            have HE : Hid (true = r) := (HY.out HHY.out (query_yes h9 HQM.out (farR_done hfar.out))).symm
            go_wp2_with fail
            go_ret
            exact ⟨ret_bool HE.out, bb2 B0 hB⟩

theorem rholdM_walk (m : MB) (r : RB) : holdM m r = (mayM m && (holdP m.kind m.val.data.toList r.path.data.toList && ((m.meth.toList.isEmpty || (m.meth.toList == r.meth.toList)) && (holdsQ true m.head r.head && holdsQ false m.query r.query)))) := holdM_walk m r

set_option maxHeartbeats 1600000 in
theorem rholds_m (m : MB) (vh vq : Value) (r : RB) (vr vs : Value) (w : World) (hh : Prs w vh m.head) (hq : Prs w vq m.query) (ok : OkM m) (hr : Prs w vr r.query) (hs : Prs w vs r.head) (okr : OkR r) :
    Calls Try.prog 16 #[mV m vh vq, rV r vr vs] w fun e w' => e = .returned (.bool (holdM m r)) ∧ Below w.heap.size w w' := by
  have HP := hide (holdM_walk m r)
  have C1 := fun W (h : Below w.heap.size w W) => hide (rmay_m m vh vq W (hh.below h) (hq.below h) ok)
  have C2 := fun W => hide (prholds_any m.kind m.val r.path W (small_len (by have := ok.val; omega)) (small_len (by have := okr.path; omega)))
  have C3 := fun W (h : Below w.heap.size w W) => hide (rholds_any vh vs m.head r.head true W (hh.below h) ok.head (hs.below h) okr.head)
  have C4 := fun W (h : Below w.heap.size w W) => hide (rholds_any vq vr m.query r.query false W (hq.below h) ok.query (hr.below h) okr.query)
  clear hh hq ok hr hs okr
  generalize holdM m r = z at *
  generalize holdsQ true m.head r.head = x3 at *
  generalize holdsQ false m.query r.query = x4 at *
  generalize mayM m = x0 at *
  obtain ⟨k, v, t, hd, qu⟩ := m
  obtain ⟨rt, ho, rp, rq, rh⟩ := r
  dsimp only at *
  generalize holdP k v.data.toList rp.data.toList = x1 at *
  have m0 := fun q : GB ((w.alloc (.cells #[.int .i64 k, .string v, .string t, vh, vq] 26)).alloc (.cells #[.string rt, .string ho, .string rp, vr, vs] 28)) => (box55 q.h).1.1
  have m1 := fun q : GB ((w.alloc (.cells #[.int .i64 k, .string v, .string t, vh, vq] 26)).alloc (.cells #[.string rt, .string ho, .string rp, vr, vs] 28)) => (box55 q.h).1.2.1
  have m2 := fun q : GB ((w.alloc (.cells #[.int .i64 k, .string v, .string t, vh, vq] 26)).alloc (.cells #[.string rt, .string ho, .string rp, vr, vs] 28)) => (box55 q.h).1.2.2.1
  have m3 := fun q : GB ((w.alloc (.cells #[.int .i64 k, .string v, .string t, vh, vq] 26)).alloc (.cells #[.string rt, .string ho, .string rp, vr, vs] 28)) => (box55 q.h).1.2.2.2.1
  have m4 := fun q : GB ((w.alloc (.cells #[.int .i64 k, .string v, .string t, vh, vq] 26)).alloc (.cells #[.string rt, .string ho, .string rp, vr, vs] 28)) => (box55 q.h).1.2.2.2.2
  have m5 := fun q : GB ((w.alloc (.cells #[.int .i64 k, .string v, .string t, vh, vq] 26)).alloc (.cells #[.string rt, .string ho, .string rp, vr, vs] 28)) => (box55 q.h).2.1
  have m6 := fun q : GB ((w.alloc (.cells #[.int .i64 k, .string v, .string t, vh, vq] 26)).alloc (.cells #[.string rt, .string ho, .string rp, vr, vs] 28)) => (box55 q.h).2.2.1
  have m7 := fun q : GB ((w.alloc (.cells #[.int .i64 k, .string v, .string t, vh, vq] 26)).alloc (.cells #[.string rt, .string ho, .string rp, vr, vs] 28)) => (box55 q.h).2.2.2.1
  have m8 := fun q : GB ((w.alloc (.cells #[.int .i64 k, .string v, .string t, vh, vq] 26)).alloc (.cells #[.string rt, .string ho, .string rp, vr, vs] 28)) => (box55 q.h).2.2.2.2.1
  have m9 := fun q : GB ((w.alloc (.cells #[.int .i64 k, .string v, .string t, vh, vq] 26)).alloc (.cells #[.string rt, .string ho, .string rp, vr, vs] 28)) => (box55 q.h).2.2.2.2.2
  have B2 : Below w.heap.size w ((w.alloc (.cells #[.int .i64 k, .string v, .string t, vh, vq] 26)).alloc (.cells #[.string rt, .string ho, .string rp, vr, vs] 28)) := ((Below.refl _ _).alloc (Nat.le_refl _) _).alloc (by simp) _
  cases x0
  · go_enter Try.func16, Try.ntmps16
    go_wp2_with fail
    refine (calls_gb0 ((C1 _ B2).out)).mono ?_
    rintro e x ⟨rfl, q, rfl⟩
    go_wp2_with fail
    go_ret
    exact ⟨ret_bool HP.out.symm, below_2 q.h⟩
  cases x1
  · go_enter Try.func16, Try.ntmps16
    go_wp2_with fail
    refine (calls_gb0 ((C1 _ B2).out)).mono ?_
    rintro e x ⟨rfl, q, rfl⟩
    go_wp2_with fail
    refine (calls_gb ((C2 _).out)).mono ?_
    rintro e x ⟨rfl, q, rfl⟩
    go_wp2_with fail
    go_ret
    exact ⟨ret_bool HP.out.symm, below_2 q.h⟩
  cases he : t.toList.isEmpty
  · cases hm : (t.toList == rt.toList)
    · rw [he, hm] at HP
      go_enter Try.func16, Try.ntmps16
      go_wp2_with fail
      refine (calls_gb0 ((C1 _ B2).out)).mono ?_
      rintro e x ⟨rfl, q, rfl⟩
      go_wp2_with fail
      refine (calls_gb ((C2 _).out)).mono ?_
      rintro e x ⟨rfl, q, rfl⟩
      go_wp2_with fail
      go_ret
      exact ⟨ret_bool HP.out.symm, below_2 q.h⟩
    · rw [he, hm] at HP
      cases x3
      · go_enter Try.func16, Try.ntmps16
        go_wp2_with fail
        refine (calls_gb0 ((C1 _ B2).out)).mono ?_
        rintro e x ⟨rfl, q, rfl⟩
        go_wp2_with fail
        refine (calls_gb ((C2 _).out)).mono ?_
        rintro e x ⟨rfl, q, rfl⟩
        go_wp2_with fail
        refine (calls_gb ((C3 _ (below_2 q.h)).out)).mono ?_
        rintro e x ⟨rfl, q, rfl⟩
        go_wp2_with fail
        go_ret
        exact ⟨ret_bool HP.out.symm, below_2 q.h⟩
      · go_enter Try.func16, Try.ntmps16
        go_wp2_with fail
        refine (calls_gb0 ((C1 _ B2).out)).mono ?_
        rintro e x ⟨rfl, q, rfl⟩
        go_wp2_with fail
        refine (calls_gb ((C2 _).out)).mono ?_
        rintro e x ⟨rfl, q, rfl⟩
        go_wp2_with fail
        refine (calls_gb ((C3 _ (below_2 q.h)).out)).mono ?_
        rintro e x ⟨rfl, q, rfl⟩
        go_wp2_with fail
        refine (calls_gb ((C4 _ (below_2 q.h)).out)).mono ?_
        rintro e x ⟨rfl, q, rfl⟩
        go_wp2_with fail
        go_ret
        exact ⟨ret_bool HP.out.symm, below_2 q.h⟩
  · rw [he] at HP
    cases x3
    · go_enter Try.func16, Try.ntmps16
      go_wp2_with fail
      refine (calls_gb0 ((C1 _ B2).out)).mono ?_
      rintro e x ⟨rfl, q, rfl⟩
      go_wp2_with fail
      refine (calls_gb ((C2 _).out)).mono ?_
      rintro e x ⟨rfl, q, rfl⟩
      go_wp2_with fail
      refine (calls_gb ((C3 _ (below_2 q.h)).out)).mono ?_
      rintro e x ⟨rfl, q, rfl⟩
      go_wp2_with fail
      go_ret
      exact ⟨ret_bool HP.out.symm, below_2 q.h⟩
    · go_enter Try.func16, Try.ntmps16
      go_wp2_with fail
      refine (calls_gb0 ((C1 _ B2).out)).mono ?_
      rintro e x ⟨rfl, q, rfl⟩
      go_wp2_with fail
      refine (calls_gb ((C2 _).out)).mono ?_
      rintro e x ⟨rfl, q, rfl⟩
      go_wp2_with fail
      refine (calls_gb ((C3 _ (below_2 q.h)).out)).mono ?_
      rintro e x ⟨rfl, q, rfl⟩
      go_wp2_with fail
      refine (calls_gb ((C4 _ (below_2 q.h)).out)).mono ?_
      rintro e x ⟨rfl, q, rfl⟩
      go_wp2_with fail
      go_ret
      exact ⟨ret_bool HP.out.symm, below_2 q.h⟩

end Go.Proofs.Ytppnkfjdgalgbaa
