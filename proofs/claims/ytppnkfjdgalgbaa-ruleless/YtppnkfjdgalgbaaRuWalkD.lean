/-
  Walks: rule's May, Holds.
-/
import Derived.Test.YtppnkfjdgalgbaaRuMem
import Derived.Test.YtppnkfjdgalgbaaPaWalkB
namespace Go.Proofs.Ytppnkfjdgalgbaa
open Go Go.RowKit Go.Shelf

theorem method_b (s : ByteArray) (w : World) (hs : s.size ≤ maxLen) :
    Calls Try.prog 17 #[.string s] w fun e w' => e = .returned (.bool (methB s)) ∧ Below w.heap.size w w' :=
  (method_any s w hs).mono fun _ _ ⟨h, hw⟩ => ⟨h, by rw [hw]; exact Below.refl _ _⟩
theorem rmethod_b (s : ByteArray) (w : World) (hs : s.size ≤ maxLen) :
    Calls Try.prog 18 #[.string s] w fun e w' => e = .returned (.bool (methB s)) ∧ Below w.heap.size w w' :=
  (rmethod_any s w hs).mono fun _ _ ⟨h, hw⟩ => ⟨h, by rw [hw]; exact Below.refl _ _⟩
theorem mayM_walk (m : MB) : mayM m = (mayP m.kind m.val.data.toList && ((m.meth.toList.isEmpty || methB m.meth) && (headB m.head && queryB m.query))) := by
  rw [mayM_parts, empty_size]

set_option maxHeartbeats 1600000 in
theorem may_m (m : MB) (vh vq : Value) (w : World) (hh : Prs w vh m.head) (hq : Prs w vq m.query) (ok : OkM m) :
    Calls Try.prog 13 #[mV m vh vq] w fun e w' => e = .returned (.bool (mayM m)) ∧ Below w.heap.size w w' := by
  have HP := hide (mayM_walk m)
  have C1 := fun W => hide (may_any m.kind m.val W (small_len (by have := ok.val; omega)))
  have C2 := fun W => hide (method_b m.meth W (small_len (by have := ok.meth; omega)))
  have C3 := fun W (h : Below w.heap.size w W) => hide (mayHead_any vh m.head W (hh.below h) (okF_okP ok.head))
  have C4 := fun W (h : Below w.heap.size w W) => hide (mayQuery_any vq m.query W (hq.below h) (okF_okP ok.query))
  clear hh hq ok
  generalize mayM m = r at *
  obtain ⟨k, v, t, hd, qu⟩ := m
  dsimp only at *
  generalize headB hd = x3 at *
  generalize queryB qu = x4 at *
  generalize methB t = x2 at *
  generalize mayP k v.data.toList = x1 at *
  have m0 := fun q : GB (w.alloc (.cells #[.int .i64 k, .string v, .string t, vh, vq] 26)) => (box5 q.h).1
  have m1 := fun q : GB (w.alloc (.cells #[.int .i64 k, .string v, .string t, vh, vq] 26)) => (box5 q.h).2.1
  have m2 := fun q : GB (w.alloc (.cells #[.int .i64 k, .string v, .string t, vh, vq] 26)) => (box5 q.h).2.2.1
  have m3 := fun q : GB (w.alloc (.cells #[.int .i64 k, .string v, .string t, vh, vq] 26)) => (box5 q.h).2.2.2.1
  have m4 := fun q : GB (w.alloc (.cells #[.int .i64 k, .string v, .string t, vh, vq] 26)) => (box5 q.h).2.2.2.2
  cases x1
  · go_enter Try.func13, Try.ntmps13
    go_wp2_with fail
    refine (calls_gb0 ((C1 _).out)).mono ?_
    rintro e x ⟨rfl, q, rfl⟩
    go_wp2_with fail
    go_ret
    exact ⟨ret_bool HP.out.symm, below_box q.h⟩
  cases he : t.toList.isEmpty
  · rw [he] at HP
    cases x2
    · go_enter Try.func13, Try.ntmps13
      go_wp2_with fail
      refine (calls_gb0 ((C1 _).out)).mono ?_
      rintro e x ⟨rfl, q, rfl⟩
      go_wp2_with fail
      refine (calls_gb ((C2 _).out)).mono ?_
      rintro e x ⟨rfl, q, rfl⟩
      go_wp2_with fail
      go_ret
      exact ⟨ret_bool HP.out.symm, below_box q.h⟩
    cases x3
    · go_enter Try.func13, Try.ntmps13
      go_wp2_with fail
      refine (calls_gb0 ((C1 _).out)).mono ?_
      rintro e x ⟨rfl, q, rfl⟩
      go_wp2_with fail
      refine (calls_gb ((C2 _).out)).mono ?_
      rintro e x ⟨rfl, q, rfl⟩
      go_wp2_with fail
      refine (calls_gb ((C3 _ (below_box q.h)).out)).mono ?_
      rintro e x ⟨rfl, q, rfl⟩
      go_wp2_with fail
      go_ret
      exact ⟨ret_bool HP.out.symm, below_box q.h⟩
    · go_enter Try.func13, Try.ntmps13
      go_wp2_with fail
      refine (calls_gb0 ((C1 _).out)).mono ?_
      rintro e x ⟨rfl, q, rfl⟩
      go_wp2_with fail
      refine (calls_gb ((C2 _).out)).mono ?_
      rintro e x ⟨rfl, q, rfl⟩
      go_wp2_with fail
      refine (calls_gb ((C3 _ (below_box q.h)).out)).mono ?_
      rintro e x ⟨rfl, q, rfl⟩
      go_wp2_with fail
      refine (calls_gb ((C4 _ (below_box q.h)).out)).mono ?_
      rintro e x ⟨rfl, q, rfl⟩
      go_wp2_with fail
      go_ret
      exact ⟨ret_bool HP.out.symm, below_box q.h⟩
  · rw [he] at HP
    cases x3
    · go_enter Try.func13, Try.ntmps13
      go_wp2_with fail
      refine (calls_gb0 ((C1 _).out)).mono ?_
      rintro e x ⟨rfl, q, rfl⟩
      go_wp2_with fail
      refine (calls_gb ((C3 _ (below_box q.h)).out)).mono ?_
      rintro e x ⟨rfl, q, rfl⟩
      go_wp2_with fail
      go_ret
      exact ⟨ret_bool HP.out.symm, below_box q.h⟩
    · go_enter Try.func13, Try.ntmps13
      go_wp2_with fail
      refine (calls_gb0 ((C1 _).out)).mono ?_
      rintro e x ⟨rfl, q, rfl⟩
      go_wp2_with fail
      refine (calls_gb ((C3 _ (below_box q.h)).out)).mono ?_
      rintro e x ⟨rfl, q, rfl⟩
      go_wp2_with fail
      refine (calls_gb ((C4 _ (below_box q.h)).out)).mono ?_
      rintro e x ⟨rfl, q, rfl⟩
      go_wp2_with fail
      go_ret
      exact ⟨ret_bool HP.out.symm, below_box q.h⟩

theorem holdM_walk (m : MB) (r : RB) : holdM m r = (mayM m && (holdP m.kind m.val.data.toList r.path.data.toList && ((m.meth.toList.isEmpty || (m.meth.toList == r.meth.toList)) && (holdsQ true m.head r.head && holdsQ false m.query r.query)))) := by
  unfold holdM
  rw [empty_size, beq_dec]

set_option maxHeartbeats 1600000 in
theorem holds_m (m : MB) (vh vq : Value) (r : RB) (vr vs : Value) (w : World) (hh : Prs w vh m.head) (hq : Prs w vq m.query) (ok : OkM m) (hr : Prs w vr r.query) (hs : Prs w vs r.head) (okr : OkR r) :
    Calls Try.prog 15 #[mV m vh vq, rV r vr vs] w fun e w' => e = .returned (.bool (holdM m r)) ∧ Below w.heap.size w w' := by
  have HP := hide (holdM_walk m r)
  have C1 := fun W (h : Below w.heap.size w W) => hide (may_m m vh vq W (hh.below h) (hq.below h) ok)
  have C2 := fun W => hide (pholds_any m.kind m.val r.path W (small_len (by have := ok.val; omega)) (small_len (by have := okr.path; omega)))
  have C3 := fun W (h : Below w.heap.size w W) => hide (holds_any vh vs m.head r.head true W (hh.below h) (okF_okP ok.head) (hs.below h) (okF_okP okr.head))
  have C4 := fun W (h : Below w.heap.size w W) => hide (holds_any vq vr m.query r.query false W (hq.below h) (okF_okP ok.query) (hr.below h) (okF_okP okr.query))
  clear hh hq ok hr hs okr
  generalize holdM m r = z at *
  generalize holdsQ true m.head r.head = x3 at *
  generalize holdsQ false m.query r.query = x4 at *
  generalize mayM m = x0 at *
  obtain ⟨k, v, t, hd, qu⟩ := m
  obtain ⟨rt, ho, rp, rq, rh⟩ := r
  dsimp only at *
  generalize holdP k v.data.toList rp.data.toList = x1 at *
  have m0 := fun q : GB ((w.alloc (.cells #[.int .i64 k, .string v, .string t, vh, vq] 26)).alloc (.cells #[.string rt, .string ho, .string rp, vr, vs] 28)) => (box55 q.h).1.1
  have m1 := fun q : GB ((w.alloc (.cells #[.int .i64 k, .string v, .string t, vh, vq] 26)).alloc (.cells #[.string rt, .string ho, .string rp, vr, vs] 28)) => (box55 q.h).1.2.1
  have m2 := fun q : GB ((w.alloc (.cells #[.int .i64 k, .string v, .string t, vh, vq] 26)).alloc (.cells #[.string rt, .string ho, .string rp, vr, vs] 28)) => (box55 q.h).1.2.2.1
  have m3 := fun q : GB ((w.alloc (.cells #[.int .i64 k, .string v, .string t, vh, vq] 26)).alloc (.cells #[.string rt, .string ho, .string rp, vr, vs] 28)) => (box55 q.h).1.2.2.2.1
  have m4 := fun q : GB ((w.alloc (.cells #[.int .i64 k, .string v, .string t, vh, vq] 26)).alloc (.cells #[.string rt, .string ho, .string rp, vr, vs] 28)) => (box55 q.h).1.2.2.2.2
  have n0 := fun q : GB ((w.alloc (.cells #[.int .i64 k, .string v, .string t, vh, vq] 26)).alloc (.cells #[.string rt, .string ho, .string rp, vr, vs] 28)) => (box55 q.h).2.1
  have n1 := fun q : GB ((w.alloc (.cells #[.int .i64 k, .string v, .string t, vh, vq] 26)).alloc (.cells #[.string rt, .string ho, .string rp, vr, vs] 28)) => (box55 q.h).2.2.1
  have n2 := fun q : GB ((w.alloc (.cells #[.int .i64 k, .string v, .string t, vh, vq] 26)).alloc (.cells #[.string rt, .string ho, .string rp, vr, vs] 28)) => (box55 q.h).2.2.2.1
  have n3 := fun q : GB ((w.alloc (.cells #[.int .i64 k, .string v, .string t, vh, vq] 26)).alloc (.cells #[.string rt, .string ho, .string rp, vr, vs] 28)) => (box55 q.h).2.2.2.2.1
  have n4 := fun q : GB ((w.alloc (.cells #[.int .i64 k, .string v, .string t, vh, vq] 26)).alloc (.cells #[.string rt, .string ho, .string rp, vr, vs] 28)) => (box55 q.h).2.2.2.2.2
  have B2 : Below w.heap.size w ((w.alloc (.cells #[.int .i64 k, .string v, .string t, vh, vq] 26)).alloc (.cells #[.string rt, .string ho, .string rp, vr, vs] 28)) := ((Below.refl _ _).alloc (Nat.le_refl _) _).alloc (by simp) _
  cases x0
  · go_enter Try.func15, Try.ntmps15
    go_wp2_with fail
    refine (calls_gb0 ((C1 _ B2).out)).mono ?_
    rintro e x ⟨rfl, q, rfl⟩
    go_wp2_with fail
    go_ret
    exact ⟨ret_bool HP.out.symm, below_2 q.h⟩
  cases x1
  · go_enter Try.func15, Try.ntmps15
    go_wp2_with fail
    refine (calls_gb0 ((C1 _ B2).out)).mono ?_
    rintro e x ⟨rfl, q, rfl⟩
    go_wp2_with fail
    refine (calls_gb ((C2 _).out)).mono ?_
    rintro e x ⟨rfl, q, rfl⟩
    go_wp2_with fail
    go_ret
    exact ⟨ret_bool HP.out.symm, below_2 q.h⟩
  cases he : t.toList.isEmpty
  · cases hm : (t.toList == rt.toList)
    · rw [he, hm] at HP
      go_enter Try.func15, Try.ntmps15
      go_wp2_with fail
      refine (calls_gb0 ((C1 _ B2).out)).mono ?_
      rintro e x ⟨rfl, q, rfl⟩
      go_wp2_with fail
      refine (calls_gb ((C2 _).out)).mono ?_
      rintro e x ⟨rfl, q, rfl⟩
      go_wp2_with fail
      go_ret
      exact ⟨ret_bool HP.out.symm, below_2 q.h⟩
    · rw [he, hm] at HP
      cases x3
      · go_enter Try.func15, Try.ntmps15
        go_wp2_with fail
        refine (calls_gb0 ((C1 _ B2).out)).mono ?_
        rintro e x ⟨rfl, q, rfl⟩
        go_wp2_with fail
        refine (calls_gb ((C2 _).out)).mono ?_
        rintro e x ⟨rfl, q, rfl⟩
        go_wp2_with fail
        refine (calls_gb ((C3 _ (below_2 q.h)).out)).mono ?_
        rintro e x ⟨rfl, q, rfl⟩
        go_wp2_with fail
        go_ret
        exact ⟨ret_bool HP.out.symm, below_2 q.h⟩
      · go_enter Try.func15, Try.ntmps15
        go_wp2_with fail
        refine (calls_gb0 ((C1 _ B2).out)).mono ?_
        rintro e x ⟨rfl, q, rfl⟩
        go_wp2_with fail
        refine (calls_gb ((C2 _).out)).mono ?_
        rintro e x ⟨rfl, q, rfl⟩
        go_wp2_with fail
        refine (calls_gb ((C3 _ (below_2 q.h)).out)).mono ?_
        rintro e x ⟨rfl, q, rfl⟩
        go_wp2_with fail
        refine (calls_gb ((C4 _ (below_2 q.h)).out)).mono ?_
        rintro e x ⟨rfl, q, rfl⟩
        go_wp2_with fail
        go_ret
        exact ⟨ret_bool HP.out.symm, below_2 q.h⟩
  · rw [he] at HP
    cases x3
    · go_enter Try.func15, Try.ntmps15
      go_wp2_with fail
      refine (calls_gb0 ((C1 _ B2).out)).mono ?_
      rintro e x ⟨rfl, q, rfl⟩
      go_wp2_with fail
      refine (calls_gb ((C2 _).out)).mono ?_
      rintro e x ⟨rfl, q, rfl⟩
      go_wp2_with fail
      refine (calls_gb ((C3 _ (below_2 q.h)).out)).mono ?_
      rintro e x ⟨rfl, q, rfl⟩
      go_wp2_with fail
      go_ret
      exact ⟨ret_bool HP.out.symm, below_2 q.h⟩
    · go_enter Try.func15, Try.ntmps15
      go_wp2_with fail
      refine (calls_gb0 ((C1 _ B2).out)).mono ?_
      rintro e x ⟨rfl, q, rfl⟩
      go_wp2_with fail
      refine (calls_gb ((C2 _).out)).mono ?_
      rintro e x ⟨rfl, q, rfl⟩
      go_wp2_with fail
      refine (calls_gb ((C3 _ (below_2 q.h)).out)).mono ?_
      rintro e x ⟨rfl, q, rfl⟩
      go_wp2_with fail
      refine (calls_gb ((C4 _ (below_2 q.h)).out)).mono ?_
      rintro e x ⟨rfl, q, rfl⟩
      go_wp2_with fail
      go_ret
      exact ⟨ret_bool HP.out.symm, below_2 q.h⟩

end Go.Proofs.Ytppnkfjdgalgbaa
