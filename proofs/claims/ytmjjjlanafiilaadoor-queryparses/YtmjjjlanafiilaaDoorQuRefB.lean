/-
  Walks of the document's own answers: Text; the law QueryTexts.
-/
import Derived.Test.YtmjjjlanafiilaaDoorQuRefA
namespace Go.Proofs.YtmjjjlanafiilaaDoor
open Go Go.RowKit Go.Shelf

attribute [local go_sem] gb_const

set_option maxRecDepth 100000 in
set_option maxHeartbeats 1600000 in
theorem rtext_any (v : Value) (l : List PairB) (w : World) (hv : Prs w v l) (hok : ∀ p ∈ l, p.1.size ≤ 41 ∧ p.2.size ≤ 41) (hl : l.length ≤ 21) :
    Calls Tryd.prog 18 #[v] w fun e w' => e = .returned (.string (mkB (tx l))) ∧ Below w.heap.size w w' := by
  obtain ⟨a, cap, rfl, _, _, hc⟩ := hv
  have HC := hide hc
  have HS := hide hok
  clear hc hok
  go_enter Tryd.func18, Tryd.ntmps18
  go_wp2_with fail
  go_loopw [3, 4] (fun o i wr => ∃ (k : Nat) (t : ByteArray), k ≤ l.length ∧ i = .int .i64 k ∧ o = .string t ∧ Hid (t.data.toList = tx (l.take k)) ∧ t.size ≤ 5300 ∧ Below w.heap.size w wr) (fun _ i _ => l.length - (intOf i).toNat)
  case atStart => exact ⟨0, ⟨#[]⟩, Nat.zero_le _, rfl, rfl, rfl, Nat.zero_le _, Below.refl _ _⟩
  case round =>
    obtain ⟨k, t, hk, rfl, rfl, ht, htl, hB⟩ := hrel
    by_cases hlt : k < l.length
    · have hlt' : (k : Int) < (l.length : Int) := by omega
      obtain ⟨g, off, rfl, hg, c1, c2⟩ := HC.out k hlt
      have hbs := hB.size
      replace c1 : ∀ q : GB wr, q.W.cell? ⟨g, off + k * 2, none⟩ = some (.string l[k].1) := fun q => (q.h.cell (p := ⟨g, off + k * 2, none⟩) (by show g < _; omega)).trans ((hB.cell (p := ⟨g, off + k * 2, none⟩) hg).trans c1)
      replace c2 : ∀ q : GB wr, q.W.cell? ⟨g, off + k * 2 + 1, none⟩ = some (.string l[k].2) := fun q => (q.h.cell (p := ⟨g, off + k * 2 + 1, none⟩) (by show g < _; omega)).trans ((hB.cell (p := ⟨g, off + k * 2 + 1, none⟩) hg).trans c2)
      obtain ⟨o1, o2⟩ := HS.out _ (List.getElem_mem hlt)
      have HT := hide (tx_succ l k hlt)
      have htl2 : (tx (l.take (k + 1))).length ≤ 5300 := tx_len (fun p hp => HS.out p (List.mem_of_mem_take hp)) (by simp; omega)
      generalize hp1 : l[k].1 = p1 at *
      generalize hp2 : l[k].2 = p2 at *
      have y1 : (mkB (Qu.wr p1.data.toList)).size ≤ 123 := by
        have h := Qu.wr_len p1.data.toList
        have e : p1.data.toList.length = p1.size := Array.length_toList
        rw [mkB_size]
        omega
      have l1 : p1.size ≤ 1000 := by omega
      have y2 : (mkB (Qu.wr p2.data.toList)).size ≤ 123 := by
        have h := Qu.wr_len p2.data.toList
        have e : p2.data.toList.length = p2.size := Array.length_toList
        rw [mkB_size]
        omega
      have l2 : p2.size ≤ 1000 := by omega
      have hfin : ∀ (X : ByteArray), X.data.toList = (if k = 0 then [] else tx (l.take k) ++ [38]) → Hid ((X ++ (mkB (Qu.wr p1.data.toList) ++ (⟨#[61]⟩ : ByteArray) ++ mkB (Qu.wr p2.data.toList))).data.toList = tx (l.take (k + 1))) ∧ (X ++ (mkB (Qu.wr p1.data.toList) ++ (⟨#[61]⟩ : ByteArray) ++ mkB (Qu.wr p2.data.toList))).size ≤ 5300 := by
        intro X hX
        have e : (X ++ (mkB (Qu.wr p1.data.toList) ++ (⟨#[61]⟩ : ByteArray) ++ mkB (Qu.wr p2.data.toList))).data.toList = tx (l.take (k + 1)) := by
          rw [HT.out, app_data, app_data, app_data, mkB_list, mkB_list, hX]
          simp
        refine ⟨e, ?_⟩
        rw [← e, Array.length_toList] at htl2
        exact htl2
      have HF := hide hfin
      clear hfin
      by_cases hk0 : k = 0
      · have hk0' : ¬ (0 : Int) < (k : Int) := by omega
        obtain ⟨z1, z2⟩ := HF.out t (by rw [if_pos hk0, ht.out, hk0]; rfl)
        clear hk0
        go_wp2_with fail
        refine wp_region_below (by kernel_rfl) (by kernel_rfl) ?_
        repeat (first | go_big_quiet_step ((go_at_call 27; exact calls_gb (rwritten_any _ _ (by first | exact l1 | exact l2)))) | quiet_step ((go_at_call 27; exact calls_gb (rwritten_any _ _ (by first | exact l1 | exact l2)))))
        refine wpQuiet_nil ?_
        intro _ hw'
        obtain ⟨q, hw2⟩ := hw'
        subst hw2
        have B2 := hB.trans (q.h.mono hbs)
        generalize mkB (Qu.wr p1.data.toList) = a1 at *
        generalize mkB (Qu.wr p2.data.toList) = a2 at *
        go_wp2_with fail
        exact ⟨⟨k + 1, _, by omega, by go_num, rfl, z1, z2, B2⟩, by simp [intOf]; omega⟩
      · have hk0' : (0 : Int) < (k : Int) := by omega
        obtain ⟨z1, z2⟩ := HF.out (t ++ ⟨#[38]⟩) (by rw [if_neg hk0, app_data, ht.out])
        have z3 : (t ++ (⟨#[38]⟩ : ByteArray)).size ≤ 5301 := by rw [ByteArray.size_append]; show t.size + 1 ≤ _; omega
        clear hk0
        go_wp2_with fail
        refine wp_region_below (by kernel_rfl) (by kernel_rfl) ?_
        repeat (first | go_big_quiet_step ((go_at_call 27; exact calls_gb (rwritten_any _ _ (by first | exact l1 | exact l2)))) | quiet_step ((go_at_call 27; exact calls_gb (rwritten_any _ _ (by first | exact l1 | exact l2)))))
        refine wpQuiet_nil ?_
        intro _ hw'
        obtain ⟨q, hw2⟩ := hw'
        subst hw2
        have B2 := hB.trans (q.h.mono hbs)
        generalize mkB (Qu.wr p1.data.toList) = a1 at *
        generalize mkB (Qu.wr p2.data.toList) = a2 at *
        go_wp2_with fail
        exact ⟨⟨k + 1, _, by omega, by go_num, rfl, z1, z2, B2⟩, by simp [intOf]; omega⟩
    · have hlt' : ¬ (k : Int) < (l.length : Int) := by omega
      have HE : Hid (t = mkB (tx l)) := by
        apply bytes_ext
        rw [mkB_list, ht.out, List.take_of_length_le (by omega)]
      go_wp2_with fail
      go_ret
      exact ⟨ret_str HE.out, hB⟩

end Go.Proofs.YtmjjjlanafiilaaDoor
