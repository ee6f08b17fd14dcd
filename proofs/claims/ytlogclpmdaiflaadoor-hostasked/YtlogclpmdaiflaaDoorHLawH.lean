/-
  The law HostAsked: plain facts, and its walk.
-/
import Derived.Test.YtlogclpmdaiflaaDoorHRefC
import Derived.ProofKit
import Derived.Deep.Grids
namespace Go.Proofs.YtlogclpmdaiflaaDoor
open Go Go.RowKit Go.Shelf

theorem foldL_append (a b : List UInt8) : foldL (a ++ b) = foldL a ++ foldL b := by simp [foldL]
theorem foldc_back {c : UInt8} (h1 : 97 ≤ c.toNat) (h2 : c.toNat ≤ 122) : foldc (c - 32) = c ∧ ((c - 32).toNat : Int) = (c.toNat : Int) - 32 := by
  have h3 : (c - 32).toNat = c.toNat - 32 := by
    rw [UInt8.toNat_sub_of_le]
    · rfl
    · rw [UInt8.le_iff_toNat_le]; show 32 ≤ c.toNat; omega
  refine ⟨UInt8.toNat_inj.1 ?_, by omega⟩
  have := foldc_yes (c := c - 32) (by omega) (by omega)
  omega
theorem foldL_set {l : List UInt8} {k : Nat} {c : UInt8} (hk : k < l.length) (h : foldc c = foldc l[k]) : foldL (l.set k c) = foldL l := by
  unfold foldL
  rw [List.map_set, h, ← List.getElem_map foldc (h := by simpa using hk), List.set_getElem_self]
theorem foldL_digs {d : List UInt8} (h : ∀ x ∈ d, isDig x = true) : foldL d = d := by
  unfold foldL
  conv => rhs; rw [← List.map_id d]
  refine List.map_congr_left (fun c hc => foldc_no ?_)
  have := h c hc
  simp only [isDig, Bool.and_eq_true, decide_eq_true_eq] at this
  omega
theorem name_no_colon {l : List UInt8} (h : D.isName l = true) : ∀ x ∈ l, x ≠ 58 := by
  rintro x hx rfl
  have := name_octs h 58 hx
  revert this; decide
theorem name_end {l : List UInt8} (h : D.isName l = true) : Lib.hasSuffix l [46] = false := by
  cases hs : Lib.hasSuffix l [46]
  · rfl
  · exfalso
    obtain ⟨t, ht⟩ := List.isSuffixOf_iff_suffix.1 (show [46].isSuffixOf l = true from hs)
    have h2 := (isName_iff.1 h).2 [] (by rw [← ht, spl_snoc_at]; simp)
    revert h2; decide
theorem no_port {l : List UInt8} (h : ∀ x ∈ l, x ≠ 58) : Ported l l := .inr ⟨rfl, fun a d _ e => h 58 (by rw [e]; simp) rfl⟩

variable {t h d : ByteArray}
theorem trimS_name (hn : D.isName h.data.toList = true) : h = trimS h ⟨#[46]⟩ := trimS_miss (p := ⟨#[46]⟩) (name_end hn)
theorem trimS_dot : h = trimS (h ++ ⟨#[46]⟩) ⟨#[46]⟩ := by
  have hs : Lib.hasSuffix (h ++ ⟨#[46]⟩).data.toList (⟨#[46]⟩ : ByteArray).data.toList = true := by
    rw [cat_data]
    exact List.isSuffixOf_iff_suffix.2 ⟨_, rfl⟩
  rw [← trimS_hit hs]
  apply bytes_ext
  rw [take_data, cat_data]
  have hz : (h ++ ⟨#[46]⟩).size - (⟨#[46]⟩ : ByteArray).size = h.data.toList.length := by
    rw [ByteArray.size_append, ← Lib.size_eq]
    show h.size + 1 - 1 = h.size
    omega
  rw [hz, List.take_left]
theorem asked_plain (hf : foldL t.data.toList = h.data.toList) (hn : D.isName h.data.toList = true) : Asked t h :=
  ⟨h, by rw [foldB_data, hf]; exact no_port (name_no_colon hn), trimS_name hn⟩
theorem asked_dot (hf : foldL t.data.toList = h.data.toList) (hn : D.isName h.data.toList = true) : Asked (t ++ ⟨#[46]⟩) h :=
  ⟨h ++ ⟨#[46]⟩, by
    have e : (foldB (t ++ ⟨#[46]⟩)).data.toList = (h ++ ⟨#[46]⟩).data.toList := by
      rw [foldB_data, cat_data, cat_data, foldL_append, hf]; rfl
    rw [e]
    refine no_port (fun x hx => ?_)
    rw [cat_data] at hx
    rcases List.mem_append.1 hx with hx | hx
    · exact name_no_colon hn x hx
    · rw [List.mem_singleton.1 hx]; decide, trimS_dot⟩
theorem asked_port (hf : foldL t.data.toList = h.data.toList) (hn : D.isName h.data.toList = true) (hd : portD d.data.toList = true) : Asked (t ++ ⟨#[58]⟩ ++ d) h :=
  ⟨h, .inl ⟨d.data.toList, hd, by
    rw [foldB_data, cat_data, cat_data, foldL_append, foldL_append, hf, foldL_digs (portD_iff.1 hd).2.2, List.append_assoc]; rfl⟩, trimS_name hn⟩
theorem asked_dot_port (hf : foldL t.data.toList = h.data.toList) (hn : D.isName h.data.toList = true) (hd : portD d.data.toList = true) : Asked (t ++ ⟨#[46, 58]⟩ ++ d) h :=
  have _ := hn
  ⟨h ++ ⟨#[46]⟩, .inl ⟨d.data.toList, hd, by
    rw [foldB_data, cat_data, cat_data, cat_data, foldL_append, foldL_append, hf, foldL_digs (portD_iff.1 hd).2.2, List.append_assoc, List.append_assoc]; rfl⟩, trimS_dot⟩

/-- an argument that is a list of bools -/
def ArgBools (w : World) (v : Value) : Prop := ∃ (a : Option Addr) (len cap : Nat), v = .slice a len cap ∧ len ≤ maxLen ∧
  ∀ i, i < len → ∃ (b o : Nat) (q : Bool), a = some ⟨b, o, none⟩ ∧ b < w.heap.size ∧ w.cell? ⟨b, o + i, none⟩ = some (.bool q)

theorem Tryd.cells4 : Tryd.prog.cellsOf 4 = 1 := by kernel_rfl
theorem Tryd.laidOut : laidOutB Tryd.prog = true := by kernel_rfl

section
open Go.ChangeShapes Go.WideShapes Go.Deep
theorem argBools_open {H : Type} {enc : TypeId × Value → H} {W : World} {base : Nat} {v : Value} {d : DataW H} {ps : List MemPlace} (hval : Value.okWide Tryd.prog W .any base 41 v)
    (h : DataW.Trod enc Tryd.prog W 0 (fun _ => true) true 41 v d ps) : ArgBools W v := by
  obtain ⟨a0, len, cap, rfl⟩ := okWide_slice Tryd.underlying41 hval
  obtain ⟨fuel, hf⟩ := h
  rcases open_bools Tryd.underlying41 Tryd.underlying4 Tryd.cells4 hf with ⟨hcs, _⟩ | ⟨a, len', cap', B, hcs, _, hl, hm, _, hcell⟩
  · simp [Value.cells] at hcs
    obtain ⟨rfl, rfl, rfl⟩ := hcs
    exact ⟨none, 0, 0, rfl, Nat.zero_le _, fun i hi => absurd hi (Nat.not_lt_zero _)⟩
  · simp [Value.cells] at hcs
    obtain ⟨rfl, rfl, rfl⟩ := hcs
    refine ⟨some a, len, cap, rfl, Nat.le_trans hl hm, fun i hi => ?_⟩
    obtain ⟨b, off, spot⟩ := a
    have hspot : spot = none := by simpa [Addr.add] using World.cell?_spot (hcell 0 (by omega))
    subst hspot
    have hc := hcell i (by omega)
    rw [add_plain] at hc
    exact ⟨b, off, B i, rfl, World.block_lt_of_cell? _ _ hc, hc⟩
end

theorem BytesAt.below {W W' : World} {g : Nat} {l : List UInt8} (h : BytesAt W g l) (hg : g < W.heap.size) (hb : Below W.heap.size W W') : BytesAt W' g l := fun j hj =>
  ⟨(hb.cell (p := ⟨g, j, none⟩) hg).trans (h j hj).1, (hb.frozen (p := ⟨g, j, none⟩) hg).trans (h j hj).2⟩

/-- is a text empty, as a measure -/
def strE : Value → Nat
  | .string s => if s.size = 0 then 1 else 0
  | _ => 0
theorem strE_no {s : ByteArray} (h : s.size ≠ 0) : strE (.string s) = 0 := by simp [strE, h]
theorem strE_yes {s : ByteArray} (h : s.size = 0) : strE (.string s) = 1 := by simp [strE, h]
theorem pow_step {n j : Nat} (h : n < 10 ^ (5 - j)) (h0 : 0 < n) : j < 5 ∧ n / 10 < 10 ^ (5 - (j + 1)) := by
  have hj : j < 5 := by
    by_cases hj : j < 5
    · exact hj
    · have : 5 - j = 0 := by omega
      rw [this] at h
      simp at h
      omega
  refine ⟨hj, ?_⟩
  have e : 5 - j = (5 - (j + 1)) + 1 := by omega
  rw [e, Nat.pow_succ] at h
  exact Nat.div_lt_of_lt_mul (by rw [Nat.mul_comm]; exact h)

theorem dig_of (n : Nat) : ∃ c : UInt8, (c.toNat : Int) = 48 + (n : Int) % 10 ∧ isDig c = true := by
  have h : 48 + n % 10 < 256 := by omega
  refine ⟨UInt8.ofNat (48 + n % 10), ?_, ?_⟩
  · rw [UInt8.toNat_ofNat_of_lt' h]; omega
  · simp only [isDig, Bool.and_eq_true, decide_eq_true_eq]
    rw [UInt8.toNat_ofNat_of_lt' h]; omega

set_option maxHeartbeats 3200000 in
theorem asked_law (s1 : ByteArray) (port : Int) (v : Value) (w : World) (hs1 : s1.size ≤ maxLen) (hp : (Lit.int .u16 port).wf = true) (hv : ArgBools w v) :
    Calls Tryd.prog 10 #[.string s1, .int .u16 port, v] w fun e w' => e = .returned (.bool true) ∧ Below w.heap.size w w' := by
  obtain ⟨n0, rfl, hn0⟩ : ∃ n0 : Nat, port = (n0 : Int) ∧ n0 < 65536 := by
    simp [Lit.wf] at hp
    have hp' : (0 : Int) ≤ port ∧ port ≤ 65535 := hp
    exact ⟨port.toNat, by omega, by omega⟩
  obtain ⟨a, len, cap, rfl, hlm, hc⟩ := hv
  unfold maxLen at hlm
  have HC := hide hc
  clear hc hp
  go_enter Tryd.func10, Tryd.ntmps10
  go_wp2_with fail
  refine (few_any _ _ hs1).mono ?_
  rintro e w ⟨h, rfl, hh, rfl⟩
  have lh : h.size ≤ maxLen := small_len (by omega)
  cases hn : D.isName h.data.toList
  · have HN := hide hn
    clear hn
    go_wp2_with fail
    refine (rname_any _ _ (by omega)).mono ?_
    rintro e w1 ⟨rfl, hb1⟩
    rw [HN.out]
    go_wp2_with fail
    refine (hawake_any _).mono ?_
    rintro e w2 ⟨rfl, hb2⟩
    go_wp2_with fail
    go_ret
    have bb2 := hb1.trans (hb2.mono hb1.size)
    have bb := bb2
    exact ⟨rfl, bb⟩
  · have HN := hide hn
    clear hn
    go_wp2_with fail
    refine (rname_any _ _ (by omega)).mono ?_
    rintro e w1 ⟨rfl, hb1⟩
    rw [HN.out]
    have hsl : h.data.toList.length = h.size := Array.length_toList
    obtain ⟨cap1, W1, hconv, hB1, hbW⟩ := bytes_made h w1
    have HB1 := hide hB1
    have HSL := hide hsl
    clear hB1 hsl
    have hgW : w1.heap.size < W1.heap.size := by
      by_cases h0 : 0 < h.size
      · exact lt_of_cell (HB1.out 0 (by rw [HSL.out]; exact h0)).1
      · exfalso
        have hn := HN.out
        have e : h.data.toList = [] := List.eq_nil_of_length_eq_zero (by rw [HSL.out]; omega)
        rw [e, name_nil] at hn
        cases hn
    have hpow : n0 < 10 ^ (5 - 0) := by simp; omega
    have HPOW := hide hpow
    clear hpow
    go_wp2_with fail
    go_loopw [8] (fun i wr => ∃ (k : Nat) (l : List UInt8), k ≤ h.size ∧ i = .int .i64 k ∧ Hid (BytesAt wr w1.heap.size l ∧ l.length = h.size ∧ foldL l = h.data.toList) ∧ Below w1.heap.size w1 wr ∧ w1.heap.size < wr.heap.size) (fun i _ => h.size - (intOf i).toNat)
    case atStart =>
      refine ⟨0, h.data.toList, Nat.zero_le _, rfl, ⟨HB1.out, HSL.out, ?_⟩, hbW, hgW⟩
      unfold foldL
      conv => rhs; rw [← List.map_id h.data.toList]
      refine List.map_congr_left (fun c hc => foldc_no ?_)
      rcases name_octs HN.out c hc with h' | rfl
      · simp only [D.inLab, decide_eq_true_eq] at h'
        omega
      · decide
    case round =>
      clear hconv
      obtain ⟨k, l, hk, rfl, hl, hbr, hgr⟩ := hrel
      by_cases hboth : k < h.size ∧ k < len
      · obtain ⟨hlt, hkb⟩ := hboth
        have hlt' : (k : Int) < (h.size : Int) := by omega
        have hkb' : (k : Int) < (len : Int) := by omega
        obtain ⟨b, o, q, rfl, hb, hcell⟩ := HC.out k hkb
        have hlk : k < l.length := by rw [hl.out.2.1]; exact hlt
        have cq := (hbr.cell (p := ⟨b, o + k, none⟩) (Nat.lt_of_lt_of_le hb hb1.size)).trans ((hb1.cell (p := ⟨b, o + k, none⟩) hb).trans hcell)
        obtain ⟨c1, c2⟩ := hl.out.1 k hlk
        have hset := hide (fun c (hc : foldc c = foldc l[k]) => foldL_set hlk hc)
        generalize hck : l[k] = c at *
        have HCK := hide hck
        have hc8 := c.toNat_lt
        clear hcell hck
        cases q
        · go_wp2_with fail
          exact ⟨⟨k + 1, l, by omega, by go_num, hl, hbr, hgr⟩, by simp [intOf]; omega⟩
        · by_cases r1 : (97 : Int) ≤ (c.toNat : Int)
          · by_cases r2 : (c.toNat : Int) ≤ 122
            · obtain ⟨f1, f2⟩ := foldc_back (c := c) (by omega) (by omega)
              have HF1 := hide f1
              have HF2 := hide f2
              have HCC : Hid (foldc c = c) := foldc_no (by omega)
              clear f1 f2
              go_wp2_with fail
              rw [← HF2.out]
              refine ⟨⟨k + 1, l.set k (c - 32), by omega, by go_num, ⟨hl.out.1.set _, by rw [List.length_set]; exact hl.out.2.1, ?_⟩, hbr.setCell (p := ⟨w1.heap.size, k, none⟩) (Nat.le_refl _) _, ?_⟩, by simp [intOf]; omega⟩
              · rw [hset.out _ (by rw [HF1.out, HCC.out])]
                exact hl.out.2.2
              · exact Nat.lt_of_lt_of_le hgr (KeepsOthers.setCell wr ⟨w1.heap.size, k, none⟩ _).size
            · have r2' : decide ((c.toNat : Int) ≤ 122) = false := decide_eq_false r2
              go_wp2_with fail
              exact ⟨⟨k + 1, l, by omega, by go_num, hl, hbr, hgr⟩, by simp [intOf]; omega⟩
          · have r1' : decide ((97 : Int) ≤ (c.toNat : Int)) = false := decide_eq_false r1
            go_wp2_with fail
            exact ⟨⟨k + 1, l, by omega, by go_num, hl, hbr, hgr⟩, by simp [intOf]; omega⟩
      · rcases (show ((k : Int) < (h.size : Int) ∧ ¬ (k : Int) < (len : Int)) ∨ ¬ (k : Int) < (h.size : Int) by omega) with ⟨e1, e2⟩ | e1
        all_goals
          clear hboth hk
          obtain ⟨wA, hwA⟩ : ∃ x, x = wr := ⟨_, rfl⟩
          subst hwA
          go_wp2_with fail
          go_loopw [9, 10] (fun dg i w2 => ∃ (n : Nat) (d : ByteArray), i = .int .i64 n ∧ dg = .string d ∧ n < 65536 ∧ d.size ≤ 5 ∧ Hid (n < 10 ^ (5 - d.size) ∧ ∀ x ∈ d.data.toList, isDig x = true) ∧ Below wA.heap.size wA w2) (fun dg i _ => (intOf i).toNat + strE dg)
          case atStart => exact ⟨n0, ⟨#[]⟩, rfl, rfl, hn0, by decide, ⟨HPOW.out, fun x hx => by simp at hx⟩, Below.refl _ _⟩
          case round =>
            obtain ⟨n, d, rfl, rfl, hn16, hd5, hd, hb2⟩ := hrel
            by_cases hpos : 0 < n
            · have hpos' : (0 : Int) < (n : Int) := by omega
              obtain ⟨hj, hq⟩ := pow_step hd.out.1 hpos
              obtain ⟨c, hcv, hcd⟩ := dig_of n
              have hone := one_byte wr c
              rw [hcv] at hone
              have hsz : (⟨#[c]⟩ ++ d : ByteArray).size = d.size + 1 := by rw [ByteArray.size_append]; show 1 + d.size = _; omega
              have HNX : Hid (n / 10 < 10 ^ (5 - (⟨#[c]⟩ ++ d : ByteArray).size) ∧ ∀ x ∈ (⟨#[c]⟩ ++ d : ByteArray).data.toList, isDig x = true) := by
                refine ⟨by rw [hsz]; exact hq, fun x hx => ?_⟩
                rw [cat_data] at hx
                rcases List.mem_append.1 hx with hx | hx
                · rw [List.mem_singleton.1 hx]; exact hcd
                · exact hd.out.2 x hx
              have HSZ := hide hsz
              have HME : Hid (strE (.string (⟨#[c]⟩ ++ d)) = 0 ∧ True) := ⟨strE_no (by rw [hsz]; omega), trivial⟩
              clear hsz hcv hcd
              go_wp2_with fail
              refine ⟨⟨n / 10, ⟨#[c]⟩ ++ d, by go_num, rfl, by omega, by rw [HSZ.out]; omega, HNX, hb2.alloc hb2.size _⟩, ?_⟩
              rw [HME.out.1]
              have hme := HME.out.2
              simp only [intOf]
              omega
            · have hpos' : ¬ (0 : Int) < (n : Int) := by omega
              cases hde : d.toList.isEmpty
              · have hd1 : 1 ≤ d.size := by
                  rw [← empty_iff] at hde
                  rw [Lib.size_eq]
                  cases hl' : d.data.toList
                  · rw [hl'] at hde; cases hde
                  · simp
                have HPD : Hid (portD d.data.toList = true) := portD_iff.2 ⟨by rw [← Lib.size_eq]; exact hd1, by rw [← Lib.size_eq]; exact hd5, hd.out.2⟩
                have hback : ∀ W', Below wr.heap.size wr W' → (convert 42 9 (.slice (some ⟨w1.heap.size, 0, none⟩) h.size cap1)).run Tryd.prog W' = .ok (.string ⟨l.toArray⟩) W' := fun W' hW' => by
                  have hB' := (hl.out.1.below hgr (hb2.trans (hW'.mono hb2.size)))
                  have := run_convert_bytes_back (P := Tryd.prog) W' 42 9 5 ⟨w1.heap.size, 0, none⟩ cap1 l Tryd.underlying42 Tryd.underlying5 Tryd.underlying9 (fun j hj => by
                    rw [addr_add]
                    exact (hB' j hj).1)
                  rw [hl.out.2.1] at this
                  exact this
                have HBK := hide hback
                have hfold : Hid (foldL (⟨l.toArray⟩ : ByteArray).data.toList = h.data.toList) := by unfold Hid; rw [mk_data']; exact hl.out.2.2
                have ht100 : (⟨l.toArray⟩ : ByteArray).size ≤ 100 := by rw [ba_size, hl.out.2.1]; exact hh
                clear hback hl
                generalize (⟨l.toArray⟩ : ByteArray) = t at *
                have lt : t.size ≤ maxLen := small_len (by omega)
                have l2 : (t ++ ⟨#[46]⟩).size ≤ maxLen := by rw [ByteArray.size_append]; show t.size + 1 ≤ _; unfold maxLen; omega
                have l3 : (t ++ ⟨#[58]⟩ ++ d).size ≤ maxLen := by rw [ByteArray.size_append, ByteArray.size_append]; show t.size + 1 + d.size ≤ _; unfold maxLen; omega
                have l4 : (t ++ ⟨#[46, 58]⟩ ++ d).size ≤ maxLen := by rw [ByteArray.size_append, ByteArray.size_append]; show t.size + 2 + d.size ≤ _; unfold maxLen; omega
                have k0 := HBK.out wr (Below.refl _ _)
                go_wp2_with fail
                refine (hof_yes t h _ lt (asked_plain hfold.out HN.out) HN.out).mono ?_
                rintro e x1 ⟨rfl, hx1⟩
                have k1 := HBK.out x1 hx1
                go_wp2_with fail
                refine (hof_yes _ h _ l2 (asked_dot hfold.out HN.out) HN.out).mono ?_
                rintro e x2 ⟨rfl, hx2⟩
                have y2 := hx1.trans (hx2.mono hx1.size)
                have k2 := HBK.out x2 y2
                go_wp2_with fail
                refine (hof_yes _ h _ l3 (asked_port hfold.out HN.out HPD.out) HN.out).mono ?_
                rintro e x3 ⟨rfl, hx3⟩
                have y3 := y2.trans (hx3.mono y2.size)
                have k3 := HBK.out x3 y3
                go_wp2_with fail
                refine (hof_yes _ h _ l4 (asked_dot_port hfold.out HN.out HPD.out) HN.out).mono ?_
                rintro e x4 ⟨rfl, hx4⟩
                have y4 := y3.trans (hx4.mono y3.size)
                go_wp2_with fail
                refine (hawake_any _).mono ?_
                rintro e x5 ⟨rfl, hx5⟩
                have y5 := y4.trans (hx5.mono y4.size)
                go_wp2_with fail
                go_ret
                have z1 := hb1.trans (hbr.mono hb1.size)
                have z2 := z1.trans (hb2.mono z1.size)
                exact ⟨rfl, z2.trans (y5.mono z2.size)⟩
              · have hd0 : d.size = 0 := by
                  rw [← empty_iff] at hde
                  rw [Lib.size_eq, List.isEmpty_iff.1 hde]
                  rfl
                have HD0 := hide hd0
                have hn00 : n / 10 = 0 := by omega
                have hpp : n / 10 < 10 ^ (5 - (d.size + 1)) := by rw [hn00]; exact Nat.pow_pos (by omega)
                have hj : d.size < 5 := by omega
                clear hd0 hn00
                obtain ⟨c, hcv, hcd⟩ := dig_of n
                have hone := one_byte wr c
                rw [hcv] at hone
                have hsz : (⟨#[c]⟩ ++ d : ByteArray).size = d.size + 1 := by rw [ByteArray.size_append]; show 1 + d.size = _; omega
                have HNX : Hid (n / 10 < 10 ^ (5 - (⟨#[c]⟩ ++ d : ByteArray).size) ∧ ∀ x ∈ (⟨#[c]⟩ ++ d : ByteArray).data.toList, isDig x = true) := by
                  refine ⟨by rw [hsz]; exact hpp, fun x hx => ?_⟩
                  rw [cat_data] at hx
                  rcases List.mem_append.1 hx with hx | hx
                  · rw [List.mem_singleton.1 hx]; exact hcd
                  · exact hd.out.2 x hx
                have HSZ := hide hsz
                have HME : Hid (strE (.string (⟨#[c]⟩ ++ d)) = 0 ∧ strE (.string d) = 1) := ⟨strE_no (by rw [hsz]; omega), strE_yes HD0.out⟩
                clear hsz hcv hcd
                go_wp2_with fail
                refine ⟨⟨n / 10, ⟨#[c]⟩ ++ d, by go_num, rfl, by omega, by rw [HSZ.out]; omega, HNX, hb2.alloc hb2.size _⟩, ?_⟩
                rw [HME.out.1]
                have hme := HME.out.2
                simp only [intOf]
                omega

end Go.Proofs.YtlogclpmdaiflaaDoor
