/- Walks of package task: live, remembers, May. -/
import Derived.Test.YthbppojglhimnaaZ3
namespace Go.Proofs.Ythbppojglhimnaa
open Go.RowKit

set_option maxHeartbeats 4000000 in
set_option maxRecDepth 100000 in
theorem wlive_any (id ec et ex em ek ee p nx a n : Int) (o : Bool) (jn r u : Int) (b : Bool) (c d x hn hb : Int) (kp : Bool) (w : World) :
    Calls Try.prog 16 #[.agg #[.int .i64 id, .int .i64 ec, .int .i64 et, .int .i64 ex, .int .i64 em, .int .i64 ek, .int .i64 ee, .int .i64 p, .int .i64 nx, .int .i64 a, .int .i64 n, .bool o, .int .i64 jn, .int .i64 r, .int .i64 u, .bool b, .int .i64 c, .int .i64 d, .int .i64 x, .int .i64 hn, .int .u64 hb, .bool kp]] w fun e w' => e = .returned (lvV ⟨ec, et, ex, em, ek, ee⟩ ⟨o, jn, r, u, b, c, d, x⟩ nx a n) ∧ Below w.heap.size w w' := by
  have hB : Bk ((w.alloc (.cells #[.int .i64 id, .int .i64 ec, .int .i64 et, .int .i64 ex, .int .i64 em, .int .i64 ek, .int .i64 ee, .int .i64 p, .int .i64 nx, .int .i64 a, .int .i64 n, .bool o, .int .i64 jn, .int .i64 r, .int .i64 u, .bool b, .int .i64 c, .int .i64 d, .int .i64 x, .int .i64 hn, .int .u64 hb, .bool kp] 47)).alloc (.cells #[.int .i64 0, .int .i64 0, .int .i64 0, .int .i64 0, .int .i64 0, .int .i64 0, .bool false, .int .i64 0, .int .i64 0, .int .i64 0, .bool false, .int .i64 0, .int .i64 0, .int .i64 0, .int .i64 0, .int .i64 0, .int .i64 0] 39)) w.heap.size [.int .i64 id, .int .i64 ec, .int .i64 et, .int .i64 ex, .int .i64 em, .int .i64 ek, .int .i64 ee, .int .i64 p, .int .i64 nx, .int .i64 a, .int .i64 n, .bool o, .int .i64 jn, .int .i64 r, .int .i64 u, .bool b, .int .i64 c, .int .i64 d, .int .i64 x, .int .i64 hn, .int .u64 hb, .bool kp] := (Bk.new w _ _).later ((Below.refl _ _).alloc (Nat.le_refl _) _)
  have hZ : Bk ((w.alloc (.cells #[.int .i64 id, .int .i64 ec, .int .i64 et, .int .i64 ex, .int .i64 em, .int .i64 ek, .int .i64 ee, .int .i64 p, .int .i64 nx, .int .i64 a, .int .i64 n, .bool o, .int .i64 jn, .int .i64 r, .int .i64 u, .bool b, .int .i64 c, .int .i64 d, .int .i64 x, .int .i64 hn, .int .u64 hb, .bool kp] 47)).alloc (.cells #[.int .i64 0, .int .i64 0, .int .i64 0, .int .i64 0, .int .i64 0, .int .i64 0, .bool false, .int .i64 0, .int .i64 0, .int .i64 0, .bool false, .int .i64 0, .int .i64 0, .int .i64 0, .int .i64 0, .int .i64 0, .int .i64 0] 39)) (w.heap.size + 1) [.int .i64 0, .int .i64 0, .int .i64 0, .int .i64 0, .int .i64 0, .int .i64 0, .bool false, .int .i64 0, .int .i64 0, .int .i64 0, .bool false, .int .i64 0, .int .i64 0, .int .i64 0, .int .i64 0, .int .i64 0, .int .i64 0] := by have := Bk.new (w.alloc (.cells #[.int .i64 id, .int .i64 ec, .int .i64 et, .int .i64 ex, .int .i64 em, .int .i64 ek, .int .i64 ee, .int .i64 p, .int .i64 nx, .int .i64 a, .int .i64 n, .bool o, .int .i64 jn, .int .i64 r, .int .i64 u, .bool b, .int .i64 c, .int .i64 d, .int .i64 x, .int .i64 hn, .int .u64 hb, .bool kp] 47)) [.int .i64 0, .int .i64 0, .int .i64 0, .int .i64 0, .int .i64 0, .int .i64 0, .bool false, .int .i64 0, .int .i64 0, .int .i64 0, .bool false, .int .i64 0, .int .i64 0, .int .i64 0, .int .i64 0, .int .i64 0, .int .i64 0] 39; simp only [World.size_alloc] at this; exact this
  have hW : Below w.heap.size w ((w.alloc (.cells #[.int .i64 id, .int .i64 ec, .int .i64 et, .int .i64 ex, .int .i64 em, .int .i64 ek, .int .i64 ee, .int .i64 p, .int .i64 nx, .int .i64 a, .int .i64 n, .bool o, .int .i64 jn, .int .i64 r, .int .i64 u, .bool b, .int .i64 c, .int .i64 d, .int .i64 x, .int .i64 hn, .int .u64 hb, .bool kp] 47)).alloc (.cells #[.int .i64 0, .int .i64 0, .int .i64 0, .int .i64 0, .int .i64 0, .int .i64 0, .bool false, .int .i64 0, .int .i64 0, .int .i64 0, .bool false, .int .i64 0, .int .i64 0, .int .i64 0, .int .i64 0, .int .i64 0, .int .i64 0] 39)) := ((Below.refl _ _).alloc (Nat.le_refl _) _).alloc (by simp) _
  go_enter Try.func16, Try.ntmps16
  go_upto_region 1 with fail
  generalize ((w.alloc (.cells #[.int .i64 id, .int .i64 ec, .int .i64 et, .int .i64 ex, .int .i64 em, .int .i64 ek, .int .i64 ee, .int .i64 p, .int .i64 nx, .int .i64 a, .int .i64 n, .bool o, .int .i64 jn, .int .i64 r, .int .i64 u, .bool b, .int .i64 c, .int .i64 d, .int .i64 x, .int .i64 hn, .int .u64 hb, .bool kp] 47)).alloc (.cells #[.int .i64 0, .int .i64 0, .int .i64 0, .int .i64 0, .int .i64 0, .int .i64 0, .bool false, .int .i64 0, .int .i64 0, .int .i64 0, .bool false, .int .i64 0, .int .i64 0, .int .i64 0, .int .i64 0, .int .i64 0, .int .i64 0] 39)) = W at *
  have hlt := hZ.lt
  have HB : Hid (Bk W w.heap.size [.int .i64 id, .int .i64 ec, .int .i64 et, .int .i64 ex, .int .i64 em, .int .i64 ek, .int .i64 ee, .int .i64 p, .int .i64 nx, .int .i64 a, .int .i64 n, .bool o, .int .i64 jn, .int .i64 r, .int .i64 u, .bool b, .int .i64 c, .int .i64 d, .int .i64 x, .int .i64 hn, .int .u64 hb, .bool kp]) := hB
  have HZ : Hid (Bk W (w.heap.size + 1) [.int .i64 0, .int .i64 0, .int .i64 0, .int .i64 0, .int .i64 0, .int .i64 0, .bool false, .int .i64 0, .int .i64 0, .int .i64 0, .bool false, .int .i64 0, .int .i64 0, .int .i64 0, .int .i64 0, .int .i64 0, .int .i64 0]) := hZ
  have HW : Hid (Below w.heap.size w W) := hW
  clear hB hZ hW
  have e8 : W.cell? ⟨w.heap.size, 8, none⟩ = some (.int .i64 nx) := HB.out.cell rfl
  have e9 : W.cell? ⟨w.heap.size, 9, none⟩ = some (.int .i64 a) := HB.out.cell rfl
  have e10 : W.cell? ⟨w.heap.size, 10, none⟩ = some (.int .i64 n) := HB.out.cell rfl
  go_wp2_with (first | (refine load_bk rfl 23 _ rfl _ 1 [.int .i64 id, .int .i64 ec, .int .i64 et, .int .i64 ex, .int .i64 em, .int .i64 ek, .int .i64 ee, .int .i64 p, .int .i64 nx, .int .i64 a, .int .i64 n, .bool o, .int .i64 jn, .int .i64 r, .int .i64 u, .bool b, .int .i64 c, .int .i64 d, .int .i64 x, .int .i64 hn, .int .u64 hb, .bool kp] [.int .i64 ec, .int .i64 et, .int .i64 ex, .int .i64 em, .int .i64 ek, .int .i64 ee] rfl HB.out rfl _ Try.underlying23 rfl (by kernel_rfl) ?_) | (refine load_bk rfl 25 _ rfl _ 11 [.int .i64 id, .int .i64 ec, .int .i64 et, .int .i64 ex, .int .i64 em, .int .i64 ek, .int .i64 ee, .int .i64 p, .int .i64 nx, .int .i64 a, .int .i64 n, .bool o, .int .i64 jn, .int .i64 r, .int .i64 u, .bool b, .int .i64 c, .int .i64 d, .int .i64 x, .int .i64 hn, .int .u64 hb, .bool kp] [.bool o, .int .i64 jn, .int .i64 r, .int .i64 u, .bool b, .int .i64 c, .int .i64 d, .int .i64 x] rfl HB.out rfl _ Try.underlying25 rfl (by kernel_rfl) ?_) | (refine store_bk rfl 39 _ _ rfl _ 0 _ [.int .i64 ec, .int .i64 et, .int .i64 ex, .int .i64 em, .int .i64 ek, .int .i64 ee, .bool o, .int .i64 jn, .int .i64 r, .int .i64 u, .bool b, .int .i64 c, .int .i64 d, .int .i64 x, .int .i64 nx, .int .i64 a, .int .i64 n] [.int .i64 ec, .int .i64 et, .int .i64 ex, .int .i64 em, .int .i64 ek, .int .i64 ee, .bool o, .int .i64 jn, .int .i64 r, .int .i64 u, .bool b, .int .i64 c, .int .i64 d, .int .i64 x, .int .i64 nx, .int .i64 a, .int .i64 n] rfl rfl 17 rfl HZ.out (by decide) rfl (by kernel_rfl) (one17 ec et ex em ek ee o jn r u b c d x nx a n) ?_; intro W2 hk1 hk2 hk3 hk4))
  have HP : Hid (Bk W2 (w.heap.size + 1) [.int .i64 ec, .int .i64 et, .int .i64 ex, .int .i64 em, .int .i64 ek, .int .i64 ee, .bool o, .int .i64 jn, .int .i64 r, .int .i64 u, .bool b, .int .i64 c, .int .i64 d, .int .i64 x, .int .i64 nx, .int .i64 a, .int .i64 n] ∧ Below w.heap.size w W2) := ⟨hk1, hk3 _ _ (by omega) HW.out⟩
  clear hk1 hk2 hk3 hk4
  clear e8 e9 e10
  obtain ⟨z0, z1, z2, z3, z4, z5, z6, z7, z8, z9, z10, z11, z12, z13, z14, z15, z16⟩ := HP.out.1.c17
  refine bodyPost_ret (v := lvV ⟨ec, et, ex, em, ek, ee⟩ ⟨o, jn, r, u, b, c, d, x⟩ nx a n) ?_ rfl ⟨rfl, HP.out.2⟩
  unfold lvV
  simp [results, Try.results16, go_sem, z0, z1, z2, z3, z4, z5, z6, z7, z8, z9, z10, z11, z12, z13, z14, z15, z16]
set_option maxHeartbeats 4000000 in
set_option maxRecDepth 100000 in
theorem wrem_any (id ec et ex em ek ee p nx a n : Int) (o : Bool) (jn r u : Int) (b : Bool) (c d x hn hb : Int) (kp : Bool) (w : World) (hw : o = true → IntKind.i64.wrap (n - 1) = n - 1) :
    Calls Try.prog 17 #[.agg #[.int .i64 id, .int .i64 ec, .int .i64 et, .int .i64 ex, .int .i64 em, .int .i64 ek, .int .i64 ee, .int .i64 p, .int .i64 nx, .int .i64 a, .int .i64 n, .bool o, .int .i64 jn, .int .i64 r, .int .i64 u, .bool b, .int .i64 c, .int .i64 d, .int .i64 x, .int .i64 hn, .int .u64 hb, .bool kp]] w fun e w' => e = .returned (.bool (reB o n hn hb)) ∧ Below w.heap.size w w' := by
  have HB : Hid (Bk (w.alloc (.cells #[.int .i64 id, .int .i64 ec, .int .i64 et, .int .i64 ex, .int .i64 em, .int .i64 ek, .int .i64 ee, .int .i64 p, .int .i64 nx, .int .i64 a, .int .i64 n, .bool o, .int .i64 jn, .int .i64 r, .int .i64 u, .bool b, .int .i64 c, .int .i64 d, .int .i64 x, .int .i64 hn, .int .u64 hb, .bool kp] 47)) w.heap.size [.int .i64 id, .int .i64 ec, .int .i64 et, .int .i64 ex, .int .i64 em, .int .i64 ek, .int .i64 ee, .int .i64 p, .int .i64 nx, .int .i64 a, .int .i64 n, .bool o, .int .i64 jn, .int .i64 r, .int .i64 u, .bool b, .int .i64 c, .int .i64 d, .int .i64 x, .int .i64 hn, .int .u64 hb, .bool kp]) := Bk.new w _ _
  have HW : Hid (Below w.heap.size w (w.alloc (.cells #[.int .i64 id, .int .i64 ec, .int .i64 et, .int .i64 ex, .int .i64 em, .int .i64 ek, .int .i64 ee, .int .i64 p, .int .i64 nx, .int .i64 a, .int .i64 n, .bool o, .int .i64 jn, .int .i64 r, .int .i64 u, .bool b, .int .i64 c, .int .i64 d, .int .i64 x, .int .i64 hn, .int .u64 hb, .bool kp] 47))) := (Below.refl _ _).alloc (Nat.le_refl _) _
  obtain ⟨q, hq⟩ : ∃ q, mayR hn hb = q := ⟨_, rfl⟩
  have H1 : Hid (mayR hn hb = q) := hq
  have HR : Hid (reB o n hn hb = (q && decide (hn = min (ovI o n) 60))) := by show _ = _; unfold reB; rw [hq]
  clear hq
  have e10 : (w.alloc (.cells #[.int .i64 id, .int .i64 ec, .int .i64 et, .int .i64 ex, .int .i64 em, .int .i64 ek, .int .i64 ee, .int .i64 p, .int .i64 nx, .int .i64 a, .int .i64 n, .bool o, .int .i64 jn, .int .i64 r, .int .i64 u, .bool b, .int .i64 c, .int .i64 d, .int .i64 x, .int .i64 hn, .int .u64 hb, .bool kp] 47)).cell? ⟨w.heap.size, 10, none⟩ = some (.int .i64 n) := HB.out.cell rfl
  have e11 : (w.alloc (.cells #[.int .i64 id, .int .i64 ec, .int .i64 et, .int .i64 ex, .int .i64 em, .int .i64 ek, .int .i64 ee, .int .i64 p, .int .i64 nx, .int .i64 a, .int .i64 n, .bool o, .int .i64 jn, .int .i64 r, .int .i64 u, .bool b, .int .i64 c, .int .i64 d, .int .i64 x, .int .i64 hn, .int .u64 hb, .bool kp] 47)).cell? ⟨w.heap.size, 11, none⟩ = some (.bool o) := HB.out.cell rfl
  have e19 : (w.alloc (.cells #[.int .i64 id, .int .i64 ec, .int .i64 et, .int .i64 ex, .int .i64 em, .int .i64 ek, .int .i64 ee, .int .i64 p, .int .i64 nx, .int .i64 a, .int .i64 n, .bool o, .int .i64 jn, .int .i64 r, .int .i64 u, .bool b, .int .i64 c, .int .i64 d, .int .i64 x, .int .i64 hn, .int .u64 hb, .bool kp] 47)).cell? ⟨w.heap.size, 19, none⟩ = some (.int .i64 hn) := HB.out.cell rfl
  have e20 : (w.alloc (.cells #[.int .i64 id, .int .i64 ec, .int .i64 et, .int .i64 ex, .int .i64 em, .int .i64 ek, .int .i64 ee, .int .i64 p, .int .i64 nx, .int .i64 a, .int .i64 n, .bool o, .int .i64 jn, .int .i64 r, .int .i64 u, .bool b, .int .i64 c, .int .i64 d, .int .i64 x, .int .i64 hn, .int .u64 hb, .bool kp] 47)).cell? ⟨w.heap.size, 20, none⟩ = some (.int .u64 hb) := HB.out.cell rfl
  go_enter Try.func17, Try.ntmps17
  cases o with
  | true =>
    have hw1 := hw rfl
    clear hw
    go_wp2_with fail
    generalize w.alloc (.cells #[.int .i64 id, .int .i64 ec, .int .i64 et, .int .i64 ex, .int .i64 em, .int .i64 ek, .int .i64 ee, .int .i64 p, .int .i64 nx, .int .i64 a, .int .i64 n, .bool true, .int .i64 jn, .int .i64 r, .int .i64 u, .bool b, .int .i64 c, .int .i64 d, .int .i64 x, .int .i64 hn, .int .u64 hb, .bool kp] 47) = W at *
    refine (rmay_any hn hb _).mono ?_
    rintro e w1 ⟨rfl, hb1⟩
    rw [H1.out]
    have HB1 : Hid (Below w.heap.size w w1) := HW.out.trans (hb1.mono HW.out.size)
    clear e10 e11 e19 e20
    have e19 : w1.cell? ⟨w.heap.size, 19, none⟩ = some (.int .i64 hn) := (HB.out.later hb1).cell rfl
    have hlt := World.block_lt_of_cell? _ _ e19
    clear hb1
    cases q
    · go_wp2; go_ret; exact ⟨ret_b HR.out.symm, HB1.out⟩
    · have hm : ovI true n = n - 1 := rfl
      by_cases c1 : n - 1 ≤ 60
      · have HM : Hid (min (ovI true n) 60 = n - 1) := by show _ = _; rw [hm]; omega
        go_wp2
        all_goals (go_ret; exact ⟨ret_b (by rw [HR.out, HM.out]; first | rfl | (rw [Bool.eq_iff_iff]; simp <;> omega)), HB1.out⟩)
      · have HM : Hid (min (ovI true n) 60 = 60) := by show _ = _; rw [hm]; omega
        go_wp2
        all_goals (go_ret; exact ⟨ret_b (by rw [HR.out, HM.out]; first | rfl | (rw [Bool.eq_iff_iff]; simp <;> omega)), HB1.out⟩)
  | false =>
    clear hw
    go_wp2_with fail
    generalize w.alloc (.cells #[.int .i64 id, .int .i64 ec, .int .i64 et, .int .i64 ex, .int .i64 em, .int .i64 ek, .int .i64 ee, .int .i64 p, .int .i64 nx, .int .i64 a, .int .i64 n, .bool false, .int .i64 jn, .int .i64 r, .int .i64 u, .bool b, .int .i64 c, .int .i64 d, .int .i64 x, .int .i64 hn, .int .u64 hb, .bool kp] 47) = W at *
    refine (rmay_any hn hb _).mono ?_
    rintro e w1 ⟨rfl, hb1⟩
    rw [H1.out]
    have HB1 : Hid (Below w.heap.size w w1) := HW.out.trans (hb1.mono HW.out.size)
    clear e10 e11 e19 e20
    have e19 : w1.cell? ⟨w.heap.size, 19, none⟩ = some (.int .i64 hn) := (HB.out.later hb1).cell rfl
    have hlt := World.block_lt_of_cell? _ _ e19
    clear hb1
    cases q
    · go_wp2; go_ret; exact ⟨ret_b HR.out.symm, HB1.out⟩
    · have hm : ovI false n = n := rfl
      by_cases c1 : n ≤ 60
      · have HM : Hid (min (ovI false n) 60 = n) := by show _ = _; rw [hm]; omega
        go_wp2
        all_goals (go_ret; exact ⟨ret_b (by rw [HR.out, HM.out]; first | rfl | (rw [Bool.eq_iff_iff]; simp <;> omega)), HB1.out⟩)
      · have HM : Hid (min (ovI false n) 60 = 60) := by show _ = _; rw [hm]; omega
        go_wp2
        all_goals (go_ret; exact ⟨ret_b (by rw [HR.out, HM.out]; first | rfl | (rw [Bool.eq_iff_iff]; simp <;> omega)), HB1.out⟩)
theorem lm_facts {s : Sp} {j : Jb} {p a n now : Int} (h : lmB s j p a n now = true) : (0 ≤ now ∧ now ≤ 549755813888) ∧ maySp s = true ∧ (s.t ≤ p ∧ p ≤ s.x) ∧ (now ≤ a ∧ a ≤ now + 48) ∧ (0 ≤ n ∧ n ≤ 549755813888) ∧ jmB s j = true ∧ (j.on = true → ldB j a n now = true) := by
  unfold lmB mvB at h
  simp only [Bool.and_eq_true] at h
  obtain ⟨h1, h2, h3, h4, h5, h6, h7⟩ := h
  refine ⟨of_decide_eq_true h1, h2, of_decide_eq_true h3, of_decide_eq_true h4, of_decide_eq_true h5, h6, fun e => ?_⟩
  rw [e] at h7
  exact h7
theorem lm_wrap {s : Sp} {j : Jb} {p a n now : Int} (h : lmB s j p a n now = true) : IntKind.i64.wrap (n - 1) = n - 1 := by
  obtain ⟨_, _, _, _, h5, _⟩ := lm_facts h
  rw [IntKind.wrap_i64]
  omega
set_option maxHeartbeats 4000000 in
set_option maxRecDepth 100000 in
theorem tmay_any (id ec et ex em ek ee p nx a n : Int) (o : Bool) (jn r u : Int) (b : Bool) (c d x hn hb : Int) (kp : Bool) (now : Int) (w : World) :
    Calls Try.prog 7 #[.agg #[.int .i64 id, .int .i64 ec, .int .i64 et, .int .i64 ex, .int .i64 em, .int .i64 ek, .int .i64 ee, .int .i64 p, .int .i64 nx, .int .i64 a, .int .i64 n, .bool o, .int .i64 jn, .int .i64 r, .int .i64 u, .bool b, .int .i64 c, .int .i64 d, .int .i64 x, .int .i64 hn, .int .u64 hb, .bool kp], .int .i64 now] w fun e w' => e = .returned (.bool (tmB ⟨id, ⟨ec, et, ex, em, ek, ee⟩, p, nx, a, n, ⟨o, jn, r, u, b, c, d, x⟩, hn, hb, kp⟩ now)) ∧ Below w.heap.size w w' := by
  have HB0 : Hid (Bk (w.alloc (.cells #[.int .i64 id, .int .i64 ec, .int .i64 et, .int .i64 ex, .int .i64 em, .int .i64 ek, .int .i64 ee, .int .i64 p, .int .i64 nx, .int .i64 a, .int .i64 n, .bool o, .int .i64 jn, .int .i64 r, .int .i64 u, .bool b, .int .i64 c, .int .i64 d, .int .i64 x, .int .i64 hn, .int .u64 hb, .bool kp] 30)) w.heap.size [.int .i64 id, .int .i64 ec, .int .i64 et, .int .i64 ex, .int .i64 em, .int .i64 ek, .int .i64 ee, .int .i64 p, .int .i64 nx, .int .i64 a, .int .i64 n, .bool o, .int .i64 jn, .int .i64 r, .int .i64 u, .bool b, .int .i64 c, .int .i64 d, .int .i64 x, .int .i64 hn, .int .u64 hb, .bool kp]) := Bk.new w _ _
  have HW0 : Hid (Below w.heap.size w (w.alloc (.cells #[.int .i64 id, .int .i64 ec, .int .i64 et, .int .i64 ex, .int .i64 em, .int .i64 ek, .int .i64 ee, .int .i64 p, .int .i64 nx, .int .i64 a, .int .i64 n, .bool o, .int .i64 jn, .int .i64 r, .int .i64 u, .bool b, .int .i64 c, .int .i64 d, .int .i64 x, .int .i64 hn, .int .u64 hb, .bool kp] 30))) := (Below.refl _ _).alloc (Nat.le_refl _) _
  obtain ⟨q1, h1⟩ : ∃ q, wiB id 0 549755813888 = q := ⟨_, rfl⟩
  obtain ⟨q2, h2⟩ : ∃ q, wiB p 1 48 = q := ⟨_, rfl⟩
  obtain ⟨q3, h3⟩ : ∃ q, lmB ⟨ec, et, ex, em, ek, ee⟩ ⟨o, jn, r, u, b, c, d, x⟩ nx a n now = q := ⟨_, rfl⟩
  obtain ⟨q4, h4⟩ : ∃ q, reB o n hn hb = q := ⟨_, rfl⟩
  have HR : Hid (tmB ⟨id, ⟨ec, et, ex, em, ek, ee⟩, p, nx, a, n, ⟨o, jn, r, u, b, c, d, x⟩, hn, hb, kp⟩ now = (q1 && (q2 && (q3 && q4)))) := by show _ = _; unfold tmB; simp only [h1, h2, h3, h4]
  have H1 : Hid (wiB id 0 549755813888 = q1) := h1
  have H2 : Hid (wiB p 1 48 = q2) := h2
  have H3 : Hid (lmB ⟨ec, et, ex, em, ek, ee⟩ ⟨o, jn, r, u, b, c, d, x⟩ nx a n now = q3) := h3
  have H4 : Hid (reB o n hn hb = q4) := h4
  clear h1 h2 h3 h4
  go_enter Try.func7, Try.ntmps7
  go_upto_region 1 with fail
  generalize (w.alloc (.cells #[.int .i64 id, .int .i64 ec, .int .i64 et, .int .i64 ex, .int .i64 em, .int .i64 ek, .int .i64 ee, .int .i64 p, .int .i64 nx, .int .i64 a, .int .i64 n, .bool o, .int .i64 jn, .int .i64 r, .int .i64 u, .bool b, .int .i64 c, .int .i64 d, .int .i64 x, .int .i64 hn, .int .u64 hb, .bool kp] 30)) = W0 at *
  have hlt0 := HB0.out.lt
  go_upto_region 2 with (first | (refine load_bk rfl 30 _ rfl _ 0 [.int .i64 id, .int .i64 ec, .int .i64 et, .int .i64 ex, .int .i64 em, .int .i64 ek, .int .i64 ee, .int .i64 p, .int .i64 nx, .int .i64 a, .int .i64 n, .bool o, .int .i64 jn, .int .i64 r, .int .i64 u, .bool b, .int .i64 c, .int .i64 d, .int .i64 x, .int .i64 hn, .int .u64 hb, .bool kp] [.int .i64 id, .int .i64 ec, .int .i64 et, .int .i64 ex, .int .i64 em, .int .i64 ek, .int .i64 ee, .int .i64 p, .int .i64 nx, .int .i64 a, .int .i64 n, .bool o, .int .i64 jn, .int .i64 r, .int .i64 u, .bool b, .int .i64 c, .int .i64 d, .int .i64 x, .int .i64 hn, .int .u64 hb, .bool kp] rfl HB0.out rfl _ Try.underlying30 rfl (by kernel_rfl) ?_) | (refine store_bk rfl 47 _ _ rfl _ 0 _ [.int .i64 id, .int .i64 ec, .int .i64 et, .int .i64 ex, .int .i64 em, .int .i64 ek, .int .i64 ee, .int .i64 p, .int .i64 nx, .int .i64 a, .int .i64 n, .bool o, .int .i64 jn, .int .i64 r, .int .i64 u, .bool b, .int .i64 c, .int .i64 d, .int .i64 x, .int .i64 hn, .int .u64 hb, .bool kp] [.int .i64 id, .int .i64 ec, .int .i64 et, .int .i64 ex, .int .i64 em, .int .i64 ek, .int .i64 ee, .int .i64 p, .int .i64 nx, .int .i64 a, .int .i64 n, .bool o, .int .i64 jn, .int .i64 r, .int .i64 u, .bool b, .int .i64 c, .int .i64 d, .int .i64 x, .int .i64 hn, .int .u64 hb, .bool kp] rfl rfl 22 rfl (Bk.new _ _ _) (by decide) rfl (by kernel_rfl) (one22 id ec et ex em ek ee p nx a n o jn r u b c d x hn hb kp) ?_; intro W hk1 hk2 hk3 hk4))
  have HB : Hid (Bk W W0.heap.size [.int .i64 id, .int .i64 ec, .int .i64 et, .int .i64 ex, .int .i64 em, .int .i64 ek, .int .i64 ee, .int .i64 p, .int .i64 nx, .int .i64 a, .int .i64 n, .bool o, .int .i64 jn, .int .i64 r, .int .i64 u, .bool b, .int .i64 c, .int .i64 d, .int .i64 x, .int .i64 hn, .int .u64 hb, .bool kp]) := hk1
  have HW : Hid (Below w.heap.size w W) := hk3 _ _ HW0.out.size (HW0.out.alloc HW0.out.size _)
  clear hk1 hk2 hk3 hk4 HB0 HW0 hlt0
  generalize W0.heap.size = qb at *
  have hlt := HB.out.lt
  have e0 : W.cell? ⟨qb, 0, none⟩ = some (.int .i64 id) := HB.out.cell rfl
  have e7 : W.cell? ⟨qb, 7, none⟩ = some (.int .i64 p) := HB.out.cell rfl
  go_wp2_with fail
  refine (twi_any id 0 549755813888 _).mono ?_
  rintro e w1 ⟨rfl, hw1⟩
  obtain rfl := hw1.symm
  rw [H1.out]
  cases q1
  · go_wp2; go_ret; exact ⟨ret_b HR.out.symm, HW.out⟩
  go_wp2_with fail
  refine (twi_any p 1 48 _).mono ?_
  rintro e w1 ⟨rfl, hw1⟩
  obtain rfl := hw1.symm
  rw [H2.out]
  cases q2
  · go_wp2; go_ret; exact ⟨ret_b HR.out.symm, HW.out⟩
  go_wp2_with (refine load_bkG rfl 47 _ rfl _ 0 [.int .i64 id, .int .i64 ec, .int .i64 et, .int .i64 ex, .int .i64 em, .int .i64 ek, .int .i64 ee, .int .i64 p, .int .i64 nx, .int .i64 a, .int .i64 n, .bool o, .int .i64 jn, .int .i64 r, .int .i64 u, .bool b, .int .i64 c, .int .i64 d, .int .i64 x, .int .i64 hn, .int .u64 hb, .bool kp] [.int .i64 id, .int .i64 ec, .int .i64 et, .int .i64 ex, .int .i64 em, .int .i64 ek, .int .i64 ee, .int .i64 p, .int .i64 nx, .int .i64 a, .int .i64 n, .bool o, .int .i64 jn, .int .i64 r, .int .i64 u, .bool b, .int .i64 c, .int .i64 d, .int .i64 x, .int .i64 hn, .int .u64 hb, .bool kp] rfl HB.out rfl _ Try.underlying47 rfl (by kernel_rfl) ?_)
  refine (wlive_any id ec et ex em ek ee p nx a n o jn r u b c d x hn hb kp _).mono ?_
  rintro e w2 ⟨rfl, hb2⟩
  unfold lvV
  have HX : Hid (Bk (w2.alloc (.cells #[.int .i64 ec, .int .i64 et, .int .i64 ex, .int .i64 em, .int .i64 ek, .int .i64 ee, .bool o, .int .i64 jn, .int .i64 r, .int .i64 u, .bool b, .int .i64 c, .int .i64 d, .int .i64 x, .int .i64 nx, .int .i64 a, .int .i64 n] 39)) w2.heap.size [.int .i64 ec, .int .i64 et, .int .i64 ex, .int .i64 em, .int .i64 ek, .int .i64 ee, .bool o, .int .i64 jn, .int .i64 r, .int .i64 u, .bool b, .int .i64 c, .int .i64 d, .int .i64 x, .int .i64 nx, .int .i64 a, .int .i64 n] ∧ Below W.heap.size W (w2.alloc (.cells #[.int .i64 ec, .int .i64 et, .int .i64 ex, .int .i64 em, .int .i64 ek, .int .i64 ee, .bool o, .int .i64 jn, .int .i64 r, .int .i64 u, .bool b, .int .i64 c, .int .i64 d, .int .i64 x, .int .i64 nx, .int .i64 a, .int .i64 n] 39))) := ⟨Bk.new _ _ _, hb2.alloc hb2.size _⟩
  clear hb2
  clear e0 e7
  go_wp2_with fail
  generalize w2.alloc (.cells #[.int .i64 ec, .int .i64 et, .int .i64 ex, .int .i64 em, .int .i64 ek, .int .i64 ee, .bool o, .int .i64 jn, .int .i64 r, .int .i64 u, .bool b, .int .i64 c, .int .i64 d, .int .i64 x, .int .i64 nx, .int .i64 a, .int .i64 n] 39) = W3 at *
  refine (lmay1_any ec et ex em ek ee o jn r u b c d x nx a n now _ _ HX.out.1).mono ?_
  rintro e w4 ⟨rfl, hb4⟩
  rw [H3.out]
  have HB4 : Hid (Below W.heap.size W w4) := HX.out.2.trans (hb4.mono HX.out.2.size)
  clear hb4 HX
  cases q3
  · go_wp2; go_ret; exact ⟨ret_b HR.out.symm, HW.out.trans (HB4.out.mono HW.out.size)⟩
  have HN : Hid (o = true → IntKind.i64.wrap (n - 1) = n - 1) := fun _ => lm_wrap H3.out
  have hlt4 := (HB.out.later HB4.out).lt
  go_wp2_with (refine load_bkG rfl 47 _ rfl _ 0 [.int .i64 id, .int .i64 ec, .int .i64 et, .int .i64 ex, .int .i64 em, .int .i64 ek, .int .i64 ee, .int .i64 p, .int .i64 nx, .int .i64 a, .int .i64 n, .bool o, .int .i64 jn, .int .i64 r, .int .i64 u, .bool b, .int .i64 c, .int .i64 d, .int .i64 x, .int .i64 hn, .int .u64 hb, .bool kp] [.int .i64 id, .int .i64 ec, .int .i64 et, .int .i64 ex, .int .i64 em, .int .i64 ek, .int .i64 ee, .int .i64 p, .int .i64 nx, .int .i64 a, .int .i64 n, .bool o, .int .i64 jn, .int .i64 r, .int .i64 u, .bool b, .int .i64 c, .int .i64 d, .int .i64 x, .int .i64 hn, .int .u64 hb, .bool kp] rfl (HB.out.later HB4.out) rfl _ Try.underlying47 rfl (by kernel_rfl) ?_)
  refine (wrem_any id ec et ex em ek ee p nx a n o jn r u b c d x hn hb kp _ HN.out).mono ?_
  rintro e w5 ⟨rfl, hb5⟩
  rw [H4.out]
  have HB5 : Hid (Below W.heap.size W w5) := HB4.out.trans (hb5.mono HB4.out.size)
  clear hb5
  go_wp2; go_ret; exact ⟨ret_b HR.out.symm, HW.out.trans (HB5.out.mono HW.out.size)⟩
end Go.Proofs.Ythbppojglhimnaa
