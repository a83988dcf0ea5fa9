/- Walks of package task: New, where it may be; the chapter's example. -/
import Derived.Test.YthbppojglhimnaaZ7
namespace Go.Proofs.Ythbppojglhimnaa
open Go.RowKit

set_option maxHeartbeats 4000000 in
set_option maxRecDepth 100000 in
theorem tnew_any (id ec et ex em ek ee p now : Int) (w : World) (h : tmB ⟨id, ⟨ec, et, ex, em, ek, ee⟩, p, p, now, 0, ⟨false, 0, 0, 0, false, 0, 0, 0⟩, 0, 0, true⟩ now = true) :
    Calls Try.prog 13 #[.int .i64 id, .agg #[.int .i64 ec, .int .i64 et, .int .i64 ex, .int .i64 em, .int .i64 ek, .int .i64 ee], .int .i64 p, .int .i64 now] w fun e w' => e = .returned (.tuple #[tkV ⟨id, ⟨ec, et, ex, em, ek, ee⟩, p, p, now, 0, ⟨false, 0, 0, 0, false, 0, 0, 0⟩, 0, 0, true⟩, .bool true]) ∧ Below w.heap.size w w' := by
  have hS : Bk ((w.alloc (.cells #[.int .i64 ec, .int .i64 et, .int .i64 ex, .int .i64 em, .int .i64 ek, .int .i64 ee] 23)).alloc (.cells #[.int .i64 0, .int .i64 0, .int .i64 0, .int .i64 0, .int .i64 0, .int .i64 0, .int .i64 0, .int .i64 0, .int .i64 0, .int .i64 0, .int .i64 0, .bool false, .int .i64 0, .int .i64 0, .int .i64 0, .bool false, .int .i64 0, .int .i64 0, .int .i64 0, .int .i64 0, .int .u64 0, .bool false] 30)) w.heap.size [.int .i64 ec, .int .i64 et, .int .i64 ex, .int .i64 em, .int .i64 ek, .int .i64 ee] := (Bk.new w _ _).later (below_b1 _ _)
  have hZ : Bk ((w.alloc (.cells #[.int .i64 ec, .int .i64 et, .int .i64 ex, .int .i64 em, .int .i64 ek, .int .i64 ee] 23)).alloc (.cells #[.int .i64 0, .int .i64 0, .int .i64 0, .int .i64 0, .int .i64 0, .int .i64 0, .int .i64 0, .int .i64 0, .int .i64 0, .int .i64 0, .int .i64 0, .bool false, .int .i64 0, .int .i64 0, .int .i64 0, .bool false, .int .i64 0, .int .i64 0, .int .i64 0, .int .i64 0, .int .u64 0, .bool false] 30)) (w.heap.size + 1) [.int .i64 0, .int .i64 0, .int .i64 0, .int .i64 0, .int .i64 0, .int .i64 0, .int .i64 0, .int .i64 0, .int .i64 0, .int .i64 0, .int .i64 0, .bool false, .int .i64 0, .int .i64 0, .int .i64 0, .bool false, .int .i64 0, .int .i64 0, .int .i64 0, .int .i64 0, .int .u64 0, .bool false] := by have := Bk.new (w.alloc (.cells #[.int .i64 ec, .int .i64 et, .int .i64 ex, .int .i64 em, .int .i64 ek, .int .i64 ee] 23)) [.int .i64 0, .int .i64 0, .int .i64 0, .int .i64 0, .int .i64 0, .int .i64 0, .int .i64 0, .int .i64 0, .int .i64 0, .int .i64 0, .int .i64 0, .bool false, .int .i64 0, .int .i64 0, .int .i64 0, .bool false, .int .i64 0, .int .i64 0, .int .i64 0, .int .i64 0, .int .u64 0, .bool false] 30; simp only [World.size_alloc] at this; exact this
  have hW : Below w.heap.size w ((w.alloc (.cells #[.int .i64 ec, .int .i64 et, .int .i64 ex, .int .i64 em, .int .i64 ek, .int .i64 ee] 23)).alloc (.cells #[.int .i64 0, .int .i64 0, .int .i64 0, .int .i64 0, .int .i64 0, .int .i64 0, .int .i64 0, .int .i64 0, .int .i64 0, .int .i64 0, .int .i64 0, .bool false, .int .i64 0, .int .i64 0, .int .i64 0, .bool false, .int .i64 0, .int .i64 0, .int .i64 0, .int .i64 0, .int .u64 0, .bool false] 30)) := below_b2 w _ _
  have HM : Hid (tmB ⟨id, ⟨ec, et, ex, em, ek, ee⟩, p, p, now, 0, ⟨false, 0, 0, 0, false, 0, 0, 0⟩, 0, 0, true⟩ now = true) := h
  clear h
  go_enter Try.func13, Try.ntmps13
  go_upto_region 1 with fail
  generalize ((w.alloc (.cells #[.int .i64 ec, .int .i64 et, .int .i64 ex, .int .i64 em, .int .i64 ek, .int .i64 ee] 23)).alloc (.cells #[.int .i64 0, .int .i64 0, .int .i64 0, .int .i64 0, .int .i64 0, .int .i64 0, .int .i64 0, .int .i64 0, .int .i64 0, .int .i64 0, .int .i64 0, .bool false, .int .i64 0, .int .i64 0, .int .i64 0, .bool false, .int .i64 0, .int .i64 0, .int .i64 0, .int .i64 0, .int .u64 0, .bool false] 30)) = W at *
  have hl1 := hS.lt
  have hl2 := hZ.lt
  have HG : Hid (Bk W w.heap.size [.int .i64 ec, .int .i64 et, .int .i64 ex, .int .i64 em, .int .i64 ek, .int .i64 ee] ∧ Bk W (w.heap.size + 1) [.int .i64 0, .int .i64 0, .int .i64 0, .int .i64 0, .int .i64 0, .int .i64 0, .int .i64 0, .int .i64 0, .int .i64 0, .int .i64 0, .int .i64 0, .bool false, .int .i64 0, .int .i64 0, .int .i64 0, .bool false, .int .i64 0, .int .i64 0, .int .i64 0, .int .i64 0, .int .u64 0, .bool false] ∧ Below w.heap.size w W) := ⟨hS, hZ, hW⟩
  clear hS hZ hW
  go_upto_region 2 with (first | (refine load_bk rfl 23 _ rfl _ 0 [.int .i64 ec, .int .i64 et, .int .i64 ex, .int .i64 em, .int .i64 ek, .int .i64 ee] [.int .i64 ec, .int .i64 et, .int .i64 ex, .int .i64 em, .int .i64 ek, .int .i64 ee] rfl HG.out.1 rfl _ Try.underlying23 rfl (by kernel_rfl) ?_) | (refine store_bk rfl 30 _ _ rfl _ 0 _ [.int .i64 id, .int .i64 ec, .int .i64 et, .int .i64 ex, .int .i64 em, .int .i64 ek, .int .i64 ee, .int .i64 p, .int .i64 p, .int .i64 now, .int .i64 0, .bool false, .int .i64 0, .int .i64 0, .int .i64 0, .bool false, .int .i64 0, .int .i64 0, .int .i64 0, .int .i64 0, .int .u64 0, .bool true] [.int .i64 id, .int .i64 ec, .int .i64 et, .int .i64 ex, .int .i64 em, .int .i64 ek, .int .i64 ee, .int .i64 p, .int .i64 p, .int .i64 now, .int .i64 0, .bool false, .int .i64 0, .int .i64 0, .int .i64 0, .bool false, .int .i64 0, .int .i64 0, .int .i64 0, .int .i64 0, .int .u64 0, .bool true] rfl rfl 22 rfl (Bk.new _ _ _) (by simp) rfl (by kernel_rfl) (one22b (by simp)) ?_; intro W2 hk1 hk2 hk3 hk4))
  have HX : Hid (Bk W2 W.heap.size [.int .i64 id, .int .i64 ec, .int .i64 et, .int .i64 ex, .int .i64 em, .int .i64 ek, .int .i64 ee, .int .i64 p, .int .i64 p, .int .i64 now, .int .i64 0, .bool false, .int .i64 0, .int .i64 0, .int .i64 0, .bool false, .int .i64 0, .int .i64 0, .int .i64 0, .int .i64 0, .int .u64 0, .bool true] ∧ Bk W2 (w.heap.size + 1) [.int .i64 0, .int .i64 0, .int .i64 0, .int .i64 0, .int .i64 0, .int .i64 0, .int .i64 0, .int .i64 0, .int .i64 0, .int .i64 0, .int .i64 0, .bool false, .int .i64 0, .int .i64 0, .int .i64 0, .bool false, .int .i64 0, .int .i64 0, .int .i64 0, .int .i64 0, .int .u64 0, .bool false] ∧ Below w.heap.size w W2) := ⟨hk1, hk2 _ _ (by omega) (HG.out.2.1.later (below_b1 _ _)), hk3 _ _ HG.out.2.2.size (HG.out.2.2.alloc HG.out.2.2.size _)⟩
  have hw := HG.out.2.2.size
  clear hk1 hk2 hk3 hk4 HG hl1
  generalize W.heap.size = qn at *
  have hl1 := HX.out.1.lt
  go_wp2_with (refine load_bk rfl 30 _ rfl _ 0 [.int .i64 id, .int .i64 ec, .int .i64 et, .int .i64 ex, .int .i64 em, .int .i64 ek, .int .i64 ee, .int .i64 p, .int .i64 p, .int .i64 now, .int .i64 0, .bool false, .int .i64 0, .int .i64 0, .int .i64 0, .bool false, .int .i64 0, .int .i64 0, .int .i64 0, .int .i64 0, .int .u64 0, .bool true] [.int .i64 id, .int .i64 ec, .int .i64 et, .int .i64 ex, .int .i64 em, .int .i64 ek, .int .i64 ee, .int .i64 p, .int .i64 p, .int .i64 now, .int .i64 0, .bool false, .int .i64 0, .int .i64 0, .int .i64 0, .bool false, .int .i64 0, .int .i64 0, .int .i64 0, .int .i64 0, .int .u64 0, .bool true] rfl HX.out.1 rfl _ Try.underlying30 rfl (by kernel_rfl) ?_)
  refine (tmay_any id ec et ex em ek ee p p now 0 false 0 0 0 false 0 0 0 0 0 true now _).mono ?_
  rintro e W3 ⟨rfl, hbw⟩
  rw [HM.out]
  have HY : Hid (Bk W3 qn [.int .i64 id, .int .i64 ec, .int .i64 et, .int .i64 ex, .int .i64 em, .int .i64 ek, .int .i64 ee, .int .i64 p, .int .i64 p, .int .i64 now, .int .i64 0, .bool false, .int .i64 0, .int .i64 0, .int .i64 0, .bool false, .int .i64 0, .int .i64 0, .int .i64 0, .int .i64 0, .int .u64 0, .bool true] ∧ Bk W3 (w.heap.size + 1) [.int .i64 0, .int .i64 0, .int .i64 0, .int .i64 0, .int .i64 0, .int .i64 0, .int .i64 0, .int .i64 0, .int .i64 0, .int .i64 0, .int .i64 0, .bool false, .int .i64 0, .int .i64 0, .int .i64 0, .bool false, .int .i64 0, .int .i64 0, .int .i64 0, .int .i64 0, .int .u64 0, .bool false] ∧ Below w.heap.size w W3) := ⟨HX.out.1.later hbw, HX.out.2.1.later hbw, HX.out.2.2.trans (hbw.mono HX.out.2.2.size)⟩
  clear hbw HX hl1 hl2
  have hl1 := HY.out.1.lt
  have hl2 := HY.out.2.1.lt
  go_wp2_with (first | (refine load_bk rfl 30 _ rfl _ 0 [.int .i64 id, .int .i64 ec, .int .i64 et, .int .i64 ex, .int .i64 em, .int .i64 ek, .int .i64 ee, .int .i64 p, .int .i64 p, .int .i64 now, .int .i64 0, .bool false, .int .i64 0, .int .i64 0, .int .i64 0, .bool false, .int .i64 0, .int .i64 0, .int .i64 0, .int .i64 0, .int .u64 0, .bool true] [.int .i64 id, .int .i64 ec, .int .i64 et, .int .i64 ex, .int .i64 em, .int .i64 ek, .int .i64 ee, .int .i64 p, .int .i64 p, .int .i64 now, .int .i64 0, .bool false, .int .i64 0, .int .i64 0, .int .i64 0, .bool false, .int .i64 0, .int .i64 0, .int .i64 0, .int .i64 0, .int .u64 0, .bool true] rfl HY.out.1 rfl _ Try.underlying30 rfl (by kernel_rfl) ?_) | (refine store_bk rfl 30 _ _ rfl _ 0 _ [.int .i64 id, .int .i64 ec, .int .i64 et, .int .i64 ex, .int .i64 em, .int .i64 ek, .int .i64 ee, .int .i64 p, .int .i64 p, .int .i64 now, .int .i64 0, .bool false, .int .i64 0, .int .i64 0, .int .i64 0, .bool false, .int .i64 0, .int .i64 0, .int .i64 0, .int .i64 0, .int .u64 0, .bool true] [.int .i64 id, .int .i64 ec, .int .i64 et, .int .i64 ex, .int .i64 em, .int .i64 ek, .int .i64 ee, .int .i64 p, .int .i64 p, .int .i64 now, .int .i64 0, .bool false, .int .i64 0, .int .i64 0, .int .i64 0, .bool false, .int .i64 0, .int .i64 0, .int .i64 0, .int .i64 0, .int .u64 0, .bool true] rfl rfl 22 rfl HY.out.2.1 (by simp) rfl (by kernel_rfl) (one22b (by simp)) ?_; intro W9 hk1 hk2 hk3 hk4))
  have HP : Hid (Bk W9 (w.heap.size + 1) [.int .i64 id, .int .i64 ec, .int .i64 et, .int .i64 ex, .int .i64 em, .int .i64 ek, .int .i64 ee, .int .i64 p, .int .i64 p, .int .i64 now, .int .i64 0, .bool false, .int .i64 0, .int .i64 0, .int .i64 0, .bool false, .int .i64 0, .int .i64 0, .int .i64 0, .int .i64 0, .int .u64 0, .bool true] ∧ Below w.heap.size w W9) := ⟨hk1, hk3 _ _ (by omega) HY.out.2.2⟩
  clear hk1 hk2 hk3 hk4
  refine ret_ct (ty := 30) rfl _ [.int .i64 id, .int .i64 ec, .int .i64 et, .int .i64 ex, .int .i64 em, .int .i64 ek, .int .i64 ee, .int .i64 p, .int .i64 p, .int .i64 now, .int .i64 0, .bool false, .int .i64 0, .int .i64 0, .int .i64 0, .bool false, .int .i64 0, .int .i64 0, .int .i64 0, .int .i64 0, .int .u64 0, .bool true] (.bool true) rfl HP.out.1 _ Try.underlying30 rfl (by kernel_rfl) rfl rfl ⟨rfl, HP.out.2⟩
set_option maxHeartbeats 4000000 in
set_option maxRecDepth 100000 in
theorem awake15_any (w : World) : Calls Try.prog 6 #[] w fun e w' => e = .returned (.bool true) ∧ Below w.heap.size w w' := by
  have HM : Hid (tmB ⟨3, ⟨2, 10, 20, 1, 2, 3⟩, 10, 10, 5, 0, ⟨false, 0, 0, 0, false, 0, 0, 0⟩, 0, 0, true⟩ 5 = true) := by show _ = _; decide
  have HB : Hid (beT ⟨3, ⟨2, 10, 20, 1, 2, 3⟩, 10, 10, 5, 0, ⟨false, 0, 0, 0, false, 0, 0, 0⟩, 0, 0, true⟩ 5 2 = ⟨3, ⟨2, 10, 20, 1, 2, 3⟩, 10, 10, 15, 1, ⟨true, 0, 5, 15, true, 2, 2, 0⟩, 0, 0, true⟩ ∧ beB ⟨3, ⟨2, 10, 20, 1, 2, 3⟩, 10, 10, 5, 0, ⟨false, 0, 0, 0, false, 0, 0, 0⟩, 0, 0, true⟩ 5 2 = true) := ⟨by rfl, by decide⟩
  go_enter Try.func6, Try.ntmps6
  go_wp2_with fail
  refine (spone_any _).mono ?_
  rintro e w1 ⟨rfl, hb1⟩
  have H1 : Hid (Below w.heap.size w w1) := hb1
  clear hb1
  unfold spV
  go_wp2_with fail
  refine (tnew_any 3 2 10 20 1 2 3 10 5 _ HM.out).mono ?_
  rintro e w2 ⟨rfl, hb2⟩
  have H2 : Hid (Below w.heap.size w w2) := H1.out.trans (hb2.mono H1.out.size)
  clear hb2
  unfold tkV
  go_upto_region 2 with (refine store_bk rfl 30 _ _ rfl _ 0 _ [.int .i64 3, .int .i64 2, .int .i64 10, .int .i64 20, .int .i64 1, .int .i64 2, .int .i64 3, .int .i64 10, .int .i64 10, .int .i64 5, .int .i64 0, .bool false, .int .i64 0, .int .i64 0, .int .i64 0, .bool false, .int .i64 0, .int .i64 0, .int .i64 0, .int .i64 0, .int .u64 0, .bool true] [.int .i64 3, .int .i64 2, .int .i64 10, .int .i64 20, .int .i64 1, .int .i64 2, .int .i64 3, .int .i64 10, .int .i64 10, .int .i64 5, .int .i64 0, .bool false, .int .i64 0, .int .i64 0, .int .i64 0, .bool false, .int .i64 0, .int .i64 0, .int .i64 0, .int .i64 0, .int .u64 0, .bool true] rfl rfl 22 rfl (Bk.new _ _ _) (by simp) rfl (by kernel_rfl) (one22b (by simp)) ?_; intro W3 hk1 hk2 hk3 hk4)
  have HA : Hid (Bk W3 w2.heap.size [.int .i64 3, .int .i64 2, .int .i64 10, .int .i64 20, .int .i64 1, .int .i64 2, .int .i64 3, .int .i64 10, .int .i64 10, .int .i64 5, .int .i64 0, .bool false, .int .i64 0, .int .i64 0, .int .i64 0, .bool false, .int .i64 0, .int .i64 0, .int .i64 0, .int .i64 0, .int .u64 0, .bool true] ∧ Below w.heap.size w W3) := ⟨hk1, hk3 _ _ H2.out.size (H2.out.alloc H2.out.size _)⟩
  clear hk1 hk2 hk3 hk4
  generalize w2.heap.size = qa at *
  have hl1 := HA.out.1.lt
  go_wp2_with (refine load_bk rfl 30 _ rfl _ 0 [.int .i64 3, .int .i64 2, .int .i64 10, .int .i64 20, .int .i64 1, .int .i64 2, .int .i64 3, .int .i64 10, .int .i64 10, .int .i64 5, .int .i64 0, .bool false, .int .i64 0, .int .i64 0, .int .i64 0, .bool false, .int .i64 0, .int .i64 0, .int .i64 0, .int .i64 0, .int .u64 0, .bool true] [.int .i64 3, .int .i64 2, .int .i64 10, .int .i64 20, .int .i64 1, .int .i64 2, .int .i64 3, .int .i64 10, .int .i64 10, .int .i64 5, .int .i64 0, .bool false, .int .i64 0, .int .i64 0, .int .i64 0, .bool false, .int .i64 0, .int .i64 0, .int .i64 0, .int .i64 0, .int .u64 0, .bool true] rfl HA.out.1 rfl _ Try.underlying30 rfl (by kernel_rfl) ?_)
  refine (begin_any 3 2 10 20 1 2 3 10 10 5 0 false 0 0 0 false 0 0 0 0 0 true 5 2 _ (by decide) (by decide)).mono ?_
  rintro e w4 ⟨rfl, hb4⟩
  rw [HB.out.1, HB.out.2]
  unfold tkV
  have HA4 : Hid (Bk w4 qa [.int .i64 3, .int .i64 2, .int .i64 10, .int .i64 20, .int .i64 1, .int .i64 2, .int .i64 3, .int .i64 10, .int .i64 10, .int .i64 5, .int .i64 0, .bool false, .int .i64 0, .int .i64 0, .int .i64 0, .bool false, .int .i64 0, .int .i64 0, .int .i64 0, .int .i64 0, .int .u64 0, .bool true] ∧ Below w.heap.size w w4) := ⟨HA.out.1.later hb4, HA.out.2.trans (hb4.mono HA.out.2.size)⟩
  clear hb4 hl1
  have hl1 := HA4.out.1.lt
  go_upto_region 3 with (refine store_bk rfl 30 _ _ rfl _ 0 _ [.int .i64 3, .int .i64 2, .int .i64 10, .int .i64 20, .int .i64 1, .int .i64 2, .int .i64 3, .int .i64 10, .int .i64 10, .int .i64 15, .int .i64 1, .bool true, .int .i64 0, .int .i64 5, .int .i64 15, .bool true, .int .i64 2, .int .i64 2, .int .i64 0, .int .i64 0, .int .u64 0, .bool true] [.int .i64 3, .int .i64 2, .int .i64 10, .int .i64 20, .int .i64 1, .int .i64 2, .int .i64 3, .int .i64 10, .int .i64 10, .int .i64 15, .int .i64 1, .bool true, .int .i64 0, .int .i64 5, .int .i64 15, .bool true, .int .i64 2, .int .i64 2, .int .i64 0, .int .i64 0, .int .u64 0, .bool true] rfl rfl 22 rfl (Bk.new _ _ _) (by simp) rfl (by kernel_rfl) (one22b (by simp)) ?_; intro W5 hk1 hk2 hk3 hk4)
  have HC : Hid (Bk W5 w4.heap.size [.int .i64 3, .int .i64 2, .int .i64 10, .int .i64 20, .int .i64 1, .int .i64 2, .int .i64 3, .int .i64 10, .int .i64 10, .int .i64 15, .int .i64 1, .bool true, .int .i64 0, .int .i64 5, .int .i64 15, .bool true, .int .i64 2, .int .i64 2, .int .i64 0, .int .i64 0, .int .u64 0, .bool true] ∧ Bk W5 qa [.int .i64 3, .int .i64 2, .int .i64 10, .int .i64 20, .int .i64 1, .int .i64 2, .int .i64 3, .int .i64 10, .int .i64 10, .int .i64 5, .int .i64 0, .bool false, .int .i64 0, .int .i64 0, .int .i64 0, .bool false, .int .i64 0, .int .i64 0, .int .i64 0, .int .i64 0, .int .u64 0, .bool true] ∧ Below w.heap.size w W5) := ⟨hk1, hk2 _ _ (by omega) (HA4.out.1.later (below_b1 _ _)), hk3 _ _ HA4.out.2.size (HA4.out.2.alloc HA4.out.2.size _)⟩
  clear hk1 hk2 hk3 hk4 hl1
  generalize w4.heap.size = qc at *
  have hl1 := HC.out.2.1.lt
  go_wp2_with (refine load_bkG rfl 30 _ rfl _ 0 [.int .i64 3, .int .i64 2, .int .i64 10, .int .i64 20, .int .i64 1, .int .i64 2, .int .i64 3, .int .i64 10, .int .i64 10, .int .i64 5, .int .i64 0, .bool false, .int .i64 0, .int .i64 0, .int .i64 0, .bool false, .int .i64 0, .int .i64 0, .int .i64 0, .int .i64 0, .int .u64 0, .bool true] [.int .i64 3, .int .i64 2, .int .i64 10, .int .i64 20, .int .i64 1, .int .i64 2, .int .i64 3, .int .i64 10, .int .i64 10, .int .i64 5, .int .i64 0, .bool false, .int .i64 0, .int .i64 0, .int .i64 0, .bool false, .int .i64 0, .int .i64 0, .int .i64 0, .int .i64 0, .int .u64 0, .bool true] rfl HC.out.2.1 rfl _ Try.underlying30 rfl (by kernel_rfl) ?_)
  refine (tmay_any 3 2 10 20 1 2 3 10 10 5 0 false 0 0 0 false 0 0 0 0 0 true 5 _).mono ?_
  rintro e w6 ⟨rfl, hb6⟩
  rw [HM.out]
  have HD : Hid (Bk w6 qc [.int .i64 3, .int .i64 2, .int .i64 10, .int .i64 20, .int .i64 1, .int .i64 2, .int .i64 3, .int .i64 10, .int .i64 10, .int .i64 15, .int .i64 1, .bool true, .int .i64 0, .int .i64 5, .int .i64 15, .bool true, .int .i64 2, .int .i64 2, .int .i64 0, .int .i64 0, .int .u64 0, .bool true] ∧ Below w.heap.size w w6) := ⟨HC.out.1.later hb6, HC.out.2.2.trans (hb6.mono HC.out.2.2.size)⟩
  clear hb6 hl1
  obtain ⟨z0, z1, z2, z3, z4, z5, z6, z7, z8, z9, z10, z11, z12, z13, z14, z15, z16, z17, z18, z19, z20, z21⟩ := HD.out.1.c22
  go_wp2
  go_ret
  exact ⟨rfl, HD.out.2⟩
end Go.Proofs.Ythbppojglhimnaa
