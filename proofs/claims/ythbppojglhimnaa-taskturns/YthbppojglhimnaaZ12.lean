/- TaskTurns: turned a task has other periods from its next job on; turned back it is the same. -/
import Derived.Test.YthbppojglhimnaaZ10
namespace Go.Proofs.Ythbppojglhimnaa
open Go.RowKit

theorem tu_yes {t : Tk} {s : Sp} {q : Int} (h : tuB t s q = true) : tuT t s q = { t with s := s, x := q } := by
  unfold tuT
  rw [h]
  rfl
theorem tu_no {t : Tk} {s : Sp} {q : Int} (h : tuB t s q = false) : tuT t s q = t := by
  unfold tuT
  rw [h]
  rfl
theorem tu_facts {t : Tk} {s : Sp} {q : Int} (h : tuB t s q = true) : maySp s = true ∧ (s.c = t.s.c ∧ s.m = t.s.m ∧ s.k = t.s.k) ∧ (s.t ≤ q ∧ q ≤ s.x) := by
  unfold tuB sjB at h
  simp only [Bool.and_eq_true, decide_eq_true_eq] at h
  exact ⟨h.1, h.2.1, of_decide_eq_true h.2.2⟩
/-- Turned it may be, as it may. -/
theorem tm_turn {t : Tk} {s : Sp} {q now : Int} (hm : tmB t now = true) (h : tuB t s q = true) : tmB { t with s := s, x := q } now = true := by
  obtain ⟨g1, g2, g3⟩ := tu_facts h
  obtain ⟨f1, f2, f3, f4⟩ := tm_facts hm
  have hs := (lm_facts f3).2.1
  unfold tmB
  simp only [Bool.and_eq_true]
  refine ⟨f1, f2, ?_, f4⟩
  unfold lmB mvB at f3 ⊢
  simp only [Bool.and_eq_true] at f3 ⊢
  obtain ⟨k1, k2, k3, k4, k5, k6, k7⟩ := f3
  exact ⟨k1, g1, decide_eq_true g3, k4, k5, (jm_same g1 hs g2).trans k6, k7⟩
/-- Turned back it is the same. -/
theorem tu_back {t : Tk} {s : Sp} {q now : Int} (hm : tmB t now = true) (h : tuB t s q = true) : tuB { t with s := s, x := q } t.s t.x = true := by
  obtain ⟨g1, g2, g3⟩ := tu_facts h
  obtain ⟨f1, f2, f3, f4⟩ := tm_facts hm
  obtain ⟨_, hs, hp, _⟩ := lm_facts f3
  unfold tuB sjB
  simp only [Bool.and_eq_true, decide_eq_true_eq]
  exact ⟨hs, ⟨g2.1.symm, g2.2.1.symm, g2.2.2.symm⟩, decide_eq_true hp⟩

set_option maxHeartbeats 8000000 in
set_option maxRecDepth 100000 in
theorem law_tturns15 (t : Tk) (fc ft fx fm fk fe q now : Int) (w : World) :
    Calls Try.prog 4 #[tkV t, .agg #[.int .i64 fc, .int .i64 ft, .int .i64 fx, .int .i64 fm, .int .i64 fk, .int .i64 fe], .int .i64 q, .int .i64 now] w fun e w' => e = .returned (.bool true) ∧ Below w.heap.size w w' := by
  obtain ⟨id, ⟨ec, et, ex, em, ek, ee⟩, p, nx, a, n, ⟨o, jn, r, u, b, c, d, x⟩, hn, hb, kp⟩ := t
  show Calls Try.prog 4 #[.agg #[.int .i64 id, .int .i64 ec, .int .i64 et, .int .i64 ex, .int .i64 em, .int .i64 ek, .int .i64 ee, .int .i64 p, .int .i64 nx, .int .i64 a, .int .i64 n, .bool o, .int .i64 jn, .int .i64 r, .int .i64 u, .bool b, .int .i64 c, .int .i64 d, .int .i64 x, .int .i64 hn, .int .u64 hb, .bool kp], .agg #[.int .i64 fc, .int .i64 ft, .int .i64 fx, .int .i64 fm, .int .i64 fk, .int .i64 fe], .int .i64 q, .int .i64 now] w _
  obtain ⟨z, hz⟩ : ∃ z, tmB ⟨id, ⟨ec, et, ex, em, ek, ee⟩, p, nx, a, n, ⟨o, jn, r, u, b, c, d, x⟩, hn, hb, kp⟩ now = z := ⟨_, rfl⟩
  have HM : Hid (tmB ⟨id, ⟨ec, et, ex, em, ek, ee⟩, p, nx, a, n, ⟨o, jn, r, u, b, c, d, x⟩, hn, hb, kp⟩ now = z) := hz
  clear hz
  have hS0 : Bk ((w.alloc (.cells #[.int .i64 id, .int .i64 ec, .int .i64 et, .int .i64 ex, .int .i64 em, .int .i64 ek, .int .i64 ee, .int .i64 p, .int .i64 nx, .int .i64 a, .int .i64 n, .bool o, .int .i64 jn, .int .i64 r, .int .i64 u, .bool b, .int .i64 c, .int .i64 d, .int .i64 x, .int .i64 hn, .int .u64 hb, .bool kp] 30)).alloc (.cells #[.int .i64 fc, .int .i64 ft, .int .i64 fx, .int .i64 fm, .int .i64 fk, .int .i64 fe] 23)) (w.heap.size + 1) [.int .i64 fc, .int .i64 ft, .int .i64 fx, .int .i64 fm, .int .i64 fk, .int .i64 fe] := by have := Bk.new (w.alloc (.cells #[.int .i64 id, .int .i64 ec, .int .i64 et, .int .i64 ex, .int .i64 em, .int .i64 ek, .int .i64 ee, .int .i64 p, .int .i64 nx, .int .i64 a, .int .i64 n, .bool o, .int .i64 jn, .int .i64 r, .int .i64 u, .bool b, .int .i64 c, .int .i64 d, .int .i64 x, .int .i64 hn, .int .u64 hb, .bool kp] 30)) [.int .i64 fc, .int .i64 ft, .int .i64 fx, .int .i64 fm, .int .i64 fk, .int .i64 fe] 23; simp only [World.size_alloc] at this; exact this
  have HB0 : Hid (Bk ((w.alloc (.cells #[.int .i64 id, .int .i64 ec, .int .i64 et, .int .i64 ex, .int .i64 em, .int .i64 ek, .int .i64 ee, .int .i64 p, .int .i64 nx, .int .i64 a, .int .i64 n, .bool o, .int .i64 jn, .int .i64 r, .int .i64 u, .bool b, .int .i64 c, .int .i64 d, .int .i64 x, .int .i64 hn, .int .u64 hb, .bool kp] 30)).alloc (.cells #[.int .i64 fc, .int .i64 ft, .int .i64 fx, .int .i64 fm, .int .i64 fk, .int .i64 fe] 23)) w.heap.size [.int .i64 id, .int .i64 ec, .int .i64 et, .int .i64 ex, .int .i64 em, .int .i64 ek, .int .i64 ee, .int .i64 p, .int .i64 nx, .int .i64 a, .int .i64 n, .bool o, .int .i64 jn, .int .i64 r, .int .i64 u, .bool b, .int .i64 c, .int .i64 d, .int .i64 x, .int .i64 hn, .int .u64 hb, .bool kp] ∧ Bk ((w.alloc (.cells #[.int .i64 id, .int .i64 ec, .int .i64 et, .int .i64 ex, .int .i64 em, .int .i64 ek, .int .i64 ee, .int .i64 p, .int .i64 nx, .int .i64 a, .int .i64 n, .bool o, .int .i64 jn, .int .i64 r, .int .i64 u, .bool b, .int .i64 c, .int .i64 d, .int .i64 x, .int .i64 hn, .int .u64 hb, .bool kp] 30)).alloc (.cells #[.int .i64 fc, .int .i64 ft, .int .i64 fx, .int .i64 fm, .int .i64 fk, .int .i64 fe] 23)) (w.heap.size + 1) [.int .i64 fc, .int .i64 ft, .int .i64 fx, .int .i64 fm, .int .i64 fk, .int .i64 fe] ∧ Below w.heap.size w ((w.alloc (.cells #[.int .i64 id, .int .i64 ec, .int .i64 et, .int .i64 ex, .int .i64 em, .int .i64 ek, .int .i64 ee, .int .i64 p, .int .i64 nx, .int .i64 a, .int .i64 n, .bool o, .int .i64 jn, .int .i64 r, .int .i64 u, .bool b, .int .i64 c, .int .i64 d, .int .i64 x, .int .i64 hn, .int .u64 hb, .bool kp] 30)).alloc (.cells #[.int .i64 fc, .int .i64 ft, .int .i64 fx, .int .i64 fm, .int .i64 fk, .int .i64 fe] 23))) := ⟨(Bk.new w _ _).later (below_b1 _ _), hS0, below_b2 w _ _⟩
  clear hS0
  go_enter Try.func4, Try.ntmps4
  go_wp2_with fail
  generalize ((w.alloc (.cells #[.int .i64 id, .int .i64 ec, .int .i64 et, .int .i64 ex, .int .i64 em, .int .i64 ek, .int .i64 ee, .int .i64 p, .int .i64 nx, .int .i64 a, .int .i64 n, .bool o, .int .i64 jn, .int .i64 r, .int .i64 u, .bool b, .int .i64 c, .int .i64 d, .int .i64 x, .int .i64 hn, .int .u64 hb, .bool kp] 30)).alloc (.cells #[.int .i64 fc, .int .i64 ft, .int .i64 fx, .int .i64 fm, .int .i64 fk, .int .i64 fe] 23)) = W at *
  refine (awake15_any _).mono ?_
  rintro e w1 ⟨rfl, hbw⟩
  have HB1 : Hid (Bk w1 w.heap.size [.int .i64 id, .int .i64 ec, .int .i64 et, .int .i64 ex, .int .i64 em, .int .i64 ek, .int .i64 ee, .int .i64 p, .int .i64 nx, .int .i64 a, .int .i64 n, .bool o, .int .i64 jn, .int .i64 r, .int .i64 u, .bool b, .int .i64 c, .int .i64 d, .int .i64 x, .int .i64 hn, .int .u64 hb, .bool kp] ∧ Bk w1 (w.heap.size + 1) [.int .i64 fc, .int .i64 ft, .int .i64 fx, .int .i64 fm, .int .i64 fk, .int .i64 fe] ∧ Below w.heap.size w w1) := ⟨HB0.out.1.later hbw, HB0.out.2.1.later hbw, HB0.out.2.2.trans (hbw.mono HB0.out.2.2.size)⟩
  clear hbw HB0
  have hl1 := HB1.out.1.lt
  go_wp2_with (refine load_bkG rfl 30 _ rfl _ 0 [.int .i64 id, .int .i64 ec, .int .i64 et, .int .i64 ex, .int .i64 em, .int .i64 ek, .int .i64 ee, .int .i64 p, .int .i64 nx, .int .i64 a, .int .i64 n, .bool o, .int .i64 jn, .int .i64 r, .int .i64 u, .bool b, .int .i64 c, .int .i64 d, .int .i64 x, .int .i64 hn, .int .u64 hb, .bool kp] [.int .i64 id, .int .i64 ec, .int .i64 et, .int .i64 ex, .int .i64 em, .int .i64 ek, .int .i64 ee, .int .i64 p, .int .i64 nx, .int .i64 a, .int .i64 n, .bool o, .int .i64 jn, .int .i64 r, .int .i64 u, .bool b, .int .i64 c, .int .i64 d, .int .i64 x, .int .i64 hn, .int .u64 hb, .bool kp] rfl HB1.out.1 rfl _ Try.underlying30 rfl (by kernel_rfl) ?_)
  refine (tmay_any id ec et ex em ek ee p nx a n o jn r u b c d x hn hb kp now _).mono ?_
  rintro e w2 ⟨rfl, hbw⟩
  rw [HM.out]
  have HB2 : Hid (Bk w2 w.heap.size [.int .i64 id, .int .i64 ec, .int .i64 et, .int .i64 ex, .int .i64 em, .int .i64 ek, .int .i64 ee, .int .i64 p, .int .i64 nx, .int .i64 a, .int .i64 n, .bool o, .int .i64 jn, .int .i64 r, .int .i64 u, .bool b, .int .i64 c, .int .i64 d, .int .i64 x, .int .i64 hn, .int .u64 hb, .bool kp] ∧ Bk w2 (w.heap.size + 1) [.int .i64 fc, .int .i64 ft, .int .i64 fx, .int .i64 fm, .int .i64 fk, .int .i64 fe] ∧ Below w.heap.size w w2) := ⟨HB1.out.1.later hbw, HB1.out.2.1.later hbw, HB1.out.2.2.trans (hbw.mono HB1.out.2.2.size)⟩
  clear hbw HB1 hl1
  have hl1 := HB2.out.1.lt
  have hl2 := HB2.out.2.1.lt
  cases z
  · go_wp2; go_ret; exact ⟨rfl, HB2.out.2.2⟩
  obtain ⟨y, hy⟩ : ∃ y, tuB ⟨id, ⟨ec, et, ex, em, ek, ee⟩, p, nx, a, n, ⟨o, jn, r, u, b, c, d, x⟩, hn, hb, kp⟩ ⟨fc, ft, fx, fm, fk, fe⟩ q = y := ⟨_, rfl⟩
  have HTU : Hid (tuB ⟨id, ⟨ec, et, ex, em, ek, ee⟩, p, nx, a, n, ⟨o, jn, r, u, b, c, d, x⟩, hn, hb, kp⟩ ⟨fc, ft, fx, fm, fk, fe⟩ q = y) := hy
  clear hy
  go_wp2_with (first | (refine load_bk rfl 30 _ rfl _ 0 [.int .i64 id, .int .i64 ec, .int .i64 et, .int .i64 ex, .int .i64 em, .int .i64 ek, .int .i64 ee, .int .i64 p, .int .i64 nx, .int .i64 a, .int .i64 n, .bool o, .int .i64 jn, .int .i64 r, .int .i64 u, .bool b, .int .i64 c, .int .i64 d, .int .i64 x, .int .i64 hn, .int .u64 hb, .bool kp] [.int .i64 id, .int .i64 ec, .int .i64 et, .int .i64 ex, .int .i64 em, .int .i64 ek, .int .i64 ee, .int .i64 p, .int .i64 nx, .int .i64 a, .int .i64 n, .bool o, .int .i64 jn, .int .i64 r, .int .i64 u, .bool b, .int .i64 c, .int .i64 d, .int .i64 x, .int .i64 hn, .int .u64 hb, .bool kp] rfl HB2.out.1 rfl _ Try.underlying30 rfl (by kernel_rfl) ?_) | (refine load_bk rfl 23 _ rfl _ 0 [.int .i64 fc, .int .i64 ft, .int .i64 fx, .int .i64 fm, .int .i64 fk, .int .i64 fe] [.int .i64 fc, .int .i64 ft, .int .i64 fx, .int .i64 fm, .int .i64 fk, .int .i64 fe] rfl HB2.out.2.1 rfl _ Try.underlying23 rfl (by kernel_rfl) ?_))
  refine (turn_any id ec et ex em ek ee p nx a n o jn r u b c d x hn hb kp fc ft fx fm fk fe q _).mono ?_
  rintro e w3 ⟨rfl, hbw⟩
  rw [HTU.out]
  have HB3 : Hid (Bk w3 w.heap.size [.int .i64 id, .int .i64 ec, .int .i64 et, .int .i64 ex, .int .i64 em, .int .i64 ek, .int .i64 ee, .int .i64 p, .int .i64 nx, .int .i64 a, .int .i64 n, .bool o, .int .i64 jn, .int .i64 r, .int .i64 u, .bool b, .int .i64 c, .int .i64 d, .int .i64 x, .int .i64 hn, .int .u64 hb, .bool kp] ∧ Bk w3 (w.heap.size + 1) [.int .i64 fc, .int .i64 ft, .int .i64 fx, .int .i64 fm, .int .i64 fk, .int .i64 fe] ∧ Below w.heap.size w w3) := ⟨HB2.out.1.later hbw, HB2.out.2.1.later hbw, HB2.out.2.2.trans (hbw.mono HB2.out.2.2.size)⟩
  clear hbw HB2 hl1 hl2
  have hl1 := HB3.out.1.lt
  have hl2 := HB3.out.2.1.lt
  cases y with
  | false =>
    rw [tu_no HTU.out]
    unfold tkV
    go_upto_region 5 with (refine store_bk rfl 30 _ _ rfl _ 0 _ [.int .i64 id, .int .i64 ec, .int .i64 et, .int .i64 ex, .int .i64 em, .int .i64 ek, .int .i64 ee, .int .i64 p, .int .i64 nx, .int .i64 a, .int .i64 n, .bool o, .int .i64 jn, .int .i64 r, .int .i64 u, .bool b, .int .i64 c, .int .i64 d, .int .i64 x, .int .i64 hn, .int .u64 hb, .bool kp] [.int .i64 id, .int .i64 ec, .int .i64 et, .int .i64 ex, .int .i64 em, .int .i64 ek, .int .i64 ee, .int .i64 p, .int .i64 nx, .int .i64 a, .int .i64 n, .bool o, .int .i64 jn, .int .i64 r, .int .i64 u, .bool b, .int .i64 c, .int .i64 d, .int .i64 x, .int .i64 hn, .int .u64 hb, .bool kp] rfl rfl 22 rfl (Bk.new _ _ _) (by simp) rfl (by kernel_rfl) (one22 id ec et ex em ek ee p nx a n o jn r u b c d x hn hb kp) ?_; intro W4 hk1 hk2 hk3 hk4)
    have HX : Hid (Bk W4 w3.heap.size [.int .i64 id, .int .i64 ec, .int .i64 et, .int .i64 ex, .int .i64 em, .int .i64 ek, .int .i64 ee, .int .i64 p, .int .i64 nx, .int .i64 a, .int .i64 n, .bool o, .int .i64 jn, .int .i64 r, .int .i64 u, .bool b, .int .i64 c, .int .i64 d, .int .i64 x, .int .i64 hn, .int .u64 hb, .bool kp] ∧ Bk W4 w.heap.size [.int .i64 id, .int .i64 ec, .int .i64 et, .int .i64 ex, .int .i64 em, .int .i64 ek, .int .i64 ee, .int .i64 p, .int .i64 nx, .int .i64 a, .int .i64 n, .bool o, .int .i64 jn, .int .i64 r, .int .i64 u, .bool b, .int .i64 c, .int .i64 d, .int .i64 x, .int .i64 hn, .int .u64 hb, .bool kp] ∧ Below w.heap.size w W4) := ⟨hk1, hk2 _ _ (by omega) (HB3.out.1.later (below_b1 _ _)), hk3 _ _ HB3.out.2.2.size (HB3.out.2.2.alloc HB3.out.2.2.size _)⟩
    clear hk1 hk2 hk3 hk4 HB3 hl1 hl2
    generalize w3.heap.size = qu at *
    have hl1 := HX.out.1.lt
    have hl2 := HX.out.2.1.lt
    have hE := fun w => tk_self id ec et ex em ek ee p nx a n o jn r u b c d x hn hb kp w
    go_wp2_with (first | (refine load_bk rfl 30 _ rfl qu 0 [.int .i64 id, .int .i64 ec, .int .i64 et, .int .i64 ex, .int .i64 em, .int .i64 ek, .int .i64 ee, .int .i64 p, .int .i64 nx, .int .i64 a, .int .i64 n, .bool o, .int .i64 jn, .int .i64 r, .int .i64 u, .bool b, .int .i64 c, .int .i64 d, .int .i64 x, .int .i64 hn, .int .u64 hb, .bool kp] [.int .i64 id, .int .i64 ec, .int .i64 et, .int .i64 ex, .int .i64 em, .int .i64 ek, .int .i64 ee, .int .i64 p, .int .i64 nx, .int .i64 a, .int .i64 n, .bool o, .int .i64 jn, .int .i64 r, .int .i64 u, .bool b, .int .i64 c, .int .i64 d, .int .i64 x, .int .i64 hn, .int .u64 hb, .bool kp] rfl HX.out.1 rfl _ Try.underlying30 rfl (by kernel_rfl) ?_) | (refine load_bk rfl 30 _ rfl w.heap.size 0 [.int .i64 id, .int .i64 ec, .int .i64 et, .int .i64 ex, .int .i64 em, .int .i64 ek, .int .i64 ee, .int .i64 p, .int .i64 nx, .int .i64 a, .int .i64 n, .bool o, .int .i64 jn, .int .i64 r, .int .i64 u, .bool b, .int .i64 c, .int .i64 d, .int .i64 x, .int .i64 hn, .int .u64 hb, .bool kp] [.int .i64 id, .int .i64 ec, .int .i64 et, .int .i64 ex, .int .i64 em, .int .i64 ek, .int .i64 ee, .int .i64 p, .int .i64 nx, .int .i64 a, .int .i64 n, .bool o, .int .i64 jn, .int .i64 r, .int .i64 u, .bool b, .int .i64 c, .int .i64 d, .int .i64 x, .int .i64 hn, .int .u64 hb, .bool kp] rfl HX.out.2.1 rfl _ Try.underlying30 rfl (by kernel_rfl) ?_))
    go_ret
    exact ⟨rfl, HX.out.2.2⟩
  | true =>
    have HU : Hid (tuT ⟨id, ⟨ec, et, ex, em, ek, ee⟩, p, nx, a, n, ⟨o, jn, r, u, b, c, d, x⟩, hn, hb, kp⟩ ⟨fc, ft, fx, fm, fk, fe⟩ q = ⟨id, ⟨fc, ft, fx, fm, fk, fe⟩, p, q, a, n, ⟨o, jn, r, u, b, c, d, x⟩, hn, hb, kp⟩) := tu_yes HTU.out
    have HMU : Hid (tmB ⟨id, ⟨fc, ft, fx, fm, fk, fe⟩, p, q, a, n, ⟨o, jn, r, u, b, c, d, x⟩, hn, hb, kp⟩ now = true) := tm_turn HM.out HTU.out
    have HBK : Hid (tuB ⟨id, ⟨fc, ft, fx, fm, fk, fe⟩, p, q, a, n, ⟨o, jn, r, u, b, c, d, x⟩, hn, hb, kp⟩ ⟨ec, et, ex, em, ek, ee⟩ nx = true) := tu_back HM.out HTU.out
    have HUB : Hid (tuT ⟨id, ⟨fc, ft, fx, fm, fk, fe⟩, p, q, a, n, ⟨o, jn, r, u, b, c, d, x⟩, hn, hb, kp⟩ ⟨ec, et, ex, em, ek, ee⟩ nx = ⟨id, ⟨ec, et, ex, em, ek, ee⟩, p, nx, a, n, ⟨o, jn, r, u, b, c, d, x⟩, hn, hb, kp⟩) := tu_yes HBK.out
    have HLV : Hid (lmB ⟨fc, ft, fx, fm, fk, fe⟩ ⟨o, jn, r, u, b, c, c, x⟩ q a n now = true) := lm_long (tm_facts HMU.out).2.2.1
    rw [HU.out]
    unfold tkV
    go_upto_region 7 with (refine store_bk rfl 30 _ _ rfl _ 0 _ [.int .i64 id, .int .i64 fc, .int .i64 ft, .int .i64 fx, .int .i64 fm, .int .i64 fk, .int .i64 fe, .int .i64 p, .int .i64 q, .int .i64 a, .int .i64 n, .bool o, .int .i64 jn, .int .i64 r, .int .i64 u, .bool b, .int .i64 c, .int .i64 d, .int .i64 x, .int .i64 hn, .int .u64 hb, .bool kp] [.int .i64 id, .int .i64 fc, .int .i64 ft, .int .i64 fx, .int .i64 fm, .int .i64 fk, .int .i64 fe, .int .i64 p, .int .i64 q, .int .i64 a, .int .i64 n, .bool o, .int .i64 jn, .int .i64 r, .int .i64 u, .bool b, .int .i64 c, .int .i64 d, .int .i64 x, .int .i64 hn, .int .u64 hb, .bool kp] rfl rfl 22 rfl (Bk.new _ _ _) (by simp) rfl (by kernel_rfl) (one22 id fc ft fx fm fk fe p q a n o jn r u b c d x hn hb kp) ?_; intro W4 hk1 hk2 hk3 hk4)
    have HX : Hid (Bk W4 w3.heap.size [.int .i64 id, .int .i64 fc, .int .i64 ft, .int .i64 fx, .int .i64 fm, .int .i64 fk, .int .i64 fe, .int .i64 p, .int .i64 q, .int .i64 a, .int .i64 n, .bool o, .int .i64 jn, .int .i64 r, .int .i64 u, .bool b, .int .i64 c, .int .i64 d, .int .i64 x, .int .i64 hn, .int .u64 hb, .bool kp] ∧ Bk W4 w.heap.size [.int .i64 id, .int .i64 ec, .int .i64 et, .int .i64 ex, .int .i64 em, .int .i64 ek, .int .i64 ee, .int .i64 p, .int .i64 nx, .int .i64 a, .int .i64 n, .bool o, .int .i64 jn, .int .i64 r, .int .i64 u, .bool b, .int .i64 c, .int .i64 d, .int .i64 x, .int .i64 hn, .int .u64 hb, .bool kp] ∧ Bk W4 (w.heap.size + 1) [.int .i64 fc, .int .i64 ft, .int .i64 fx, .int .i64 fm, .int .i64 fk, .int .i64 fe] ∧ Below w.heap.size w W4) := ⟨hk1, hk2 _ _ (by omega) (HB3.out.1.later (below_b1 _ _)), hk2 _ _ (by omega) (HB3.out.2.1.later (below_b1 _ _)), hk3 _ _ HB3.out.2.2.size (HB3.out.2.2.alloc HB3.out.2.2.size _)⟩
    clear hk1 hk2 hk3 hk4 HB3 hl1 hl2
    generalize w3.heap.size = qu at *
    have hl1 := HX.out.1.lt
    have hl2 := HX.out.2.1.lt
    have e8 : W4.cell? ⟨w.heap.size, 8, none⟩ = some (.int .i64 nx) := HX.out.2.1.cell rfl
    go_wp2_with (first | (refine load_bk rfl 30 _ rfl qu 0 [.int .i64 id, .int .i64 fc, .int .i64 ft, .int .i64 fx, .int .i64 fm, .int .i64 fk, .int .i64 fe, .int .i64 p, .int .i64 q, .int .i64 a, .int .i64 n, .bool o, .int .i64 jn, .int .i64 r, .int .i64 u, .bool b, .int .i64 c, .int .i64 d, .int .i64 x, .int .i64 hn, .int .u64 hb, .bool kp] [.int .i64 id, .int .i64 fc, .int .i64 ft, .int .i64 fx, .int .i64 fm, .int .i64 fk, .int .i64 fe, .int .i64 p, .int .i64 q, .int .i64 a, .int .i64 n, .bool o, .int .i64 jn, .int .i64 r, .int .i64 u, .bool b, .int .i64 c, .int .i64 d, .int .i64 x, .int .i64 hn, .int .u64 hb, .bool kp] rfl HX.out.1 rfl _ Try.underlying30 rfl (by kernel_rfl) ?_) | (refine load_bk rfl 23 _ rfl w.heap.size 1 [.int .i64 id, .int .i64 ec, .int .i64 et, .int .i64 ex, .int .i64 em, .int .i64 ek, .int .i64 ee, .int .i64 p, .int .i64 nx, .int .i64 a, .int .i64 n, .bool o, .int .i64 jn, .int .i64 r, .int .i64 u, .bool b, .int .i64 c, .int .i64 d, .int .i64 x, .int .i64 hn, .int .u64 hb, .bool kp] [.int .i64 ec, .int .i64 et, .int .i64 ex, .int .i64 em, .int .i64 ek, .int .i64 ee] rfl HX.out.2.1 rfl _ Try.underlying23 rfl (by kernel_rfl) ?_))
    refine (turn_any id fc ft fx fm fk fe p q a n o jn r u b c d x hn hb kp ec et ex em ek ee nx _).mono ?_
    rintro e w5 ⟨rfl, hbw⟩
    rw [HBK.out, HUB.out]
    unfold tkV
    have HB5 : Hid (Bk w5 qu [.int .i64 id, .int .i64 fc, .int .i64 ft, .int .i64 fx, .int .i64 fm, .int .i64 fk, .int .i64 fe, .int .i64 p, .int .i64 q, .int .i64 a, .int .i64 n, .bool o, .int .i64 jn, .int .i64 r, .int .i64 u, .bool b, .int .i64 c, .int .i64 d, .int .i64 x, .int .i64 hn, .int .u64 hb, .bool kp] ∧ Bk w5 w.heap.size [.int .i64 id, .int .i64 ec, .int .i64 et, .int .i64 ex, .int .i64 em, .int .i64 ek, .int .i64 ee, .int .i64 p, .int .i64 nx, .int .i64 a, .int .i64 n, .bool o, .int .i64 jn, .int .i64 r, .int .i64 u, .bool b, .int .i64 c, .int .i64 d, .int .i64 x, .int .i64 hn, .int .u64 hb, .bool kp] ∧ Bk w5 (w.heap.size + 1) [.int .i64 fc, .int .i64 ft, .int .i64 fx, .int .i64 fm, .int .i64 fk, .int .i64 fe] ∧ Below w.heap.size w w5) := ⟨HX.out.1.later hbw, HX.out.2.1.later hbw, HX.out.2.2.1.later hbw, HX.out.2.2.2.trans (hbw.mono HX.out.2.2.2.size)⟩
    clear hbw HX hl1 hl2 e8
    have hl1 := HB5.out.1.lt
    have hl2 := HB5.out.2.1.lt
    have hl3 := HB5.out.2.2.1.lt
    go_upto_region 8 with (refine store_bk rfl 30 _ _ rfl _ 0 _ [.int .i64 id, .int .i64 ec, .int .i64 et, .int .i64 ex, .int .i64 em, .int .i64 ek, .int .i64 ee, .int .i64 p, .int .i64 nx, .int .i64 a, .int .i64 n, .bool o, .int .i64 jn, .int .i64 r, .int .i64 u, .bool b, .int .i64 c, .int .i64 d, .int .i64 x, .int .i64 hn, .int .u64 hb, .bool kp] [.int .i64 id, .int .i64 ec, .int .i64 et, .int .i64 ex, .int .i64 em, .int .i64 ek, .int .i64 ee, .int .i64 p, .int .i64 nx, .int .i64 a, .int .i64 n, .bool o, .int .i64 jn, .int .i64 r, .int .i64 u, .bool b, .int .i64 c, .int .i64 d, .int .i64 x, .int .i64 hn, .int .u64 hb, .bool kp] rfl rfl 22 rfl (Bk.new _ _ _) (by simp) rfl (by kernel_rfl) (one22 id ec et ex em ek ee p nx a n o jn r u b c d x hn hb kp) ?_; intro W6 hk1 hk2 hk3 hk4)
    have HV : Hid (Bk W6 w5.heap.size [.int .i64 id, .int .i64 ec, .int .i64 et, .int .i64 ex, .int .i64 em, .int .i64 ek, .int .i64 ee, .int .i64 p, .int .i64 nx, .int .i64 a, .int .i64 n, .bool o, .int .i64 jn, .int .i64 r, .int .i64 u, .bool b, .int .i64 c, .int .i64 d, .int .i64 x, .int .i64 hn, .int .u64 hb, .bool kp] ∧ Bk W6 qu [.int .i64 id, .int .i64 fc, .int .i64 ft, .int .i64 fx, .int .i64 fm, .int .i64 fk, .int .i64 fe, .int .i64 p, .int .i64 q, .int .i64 a, .int .i64 n, .bool o, .int .i64 jn, .int .i64 r, .int .i64 u, .bool b, .int .i64 c, .int .i64 d, .int .i64 x, .int .i64 hn, .int .u64 hb, .bool kp] ∧ Bk W6 w.heap.size [.int .i64 id, .int .i64 ec, .int .i64 et, .int .i64 ex, .int .i64 em, .int .i64 ek, .int .i64 ee, .int .i64 p, .int .i64 nx, .int .i64 a, .int .i64 n, .bool o, .int .i64 jn, .int .i64 r, .int .i64 u, .bool b, .int .i64 c, .int .i64 d, .int .i64 x, .int .i64 hn, .int .u64 hb, .bool kp] ∧ Bk W6 (w.heap.size + 1) [.int .i64 fc, .int .i64 ft, .int .i64 fx, .int .i64 fm, .int .i64 fk, .int .i64 fe] ∧ Below w.heap.size w W6) := ⟨hk1, hk2 _ _ (by omega) (HB5.out.1.later (below_b1 _ _)), hk2 _ _ (by omega) (HB5.out.2.1.later (below_b1 _ _)), hk2 _ _ (by omega) (HB5.out.2.2.1.later (below_b1 _ _)), hk3 _ _ HB5.out.2.2.2.size (HB5.out.2.2.2.alloc HB5.out.2.2.2.size _)⟩
    clear hk1 hk2 hk3 hk4 HB5 hl1 hl2 hl3
    generalize w5.heap.size = qv at *
    have hl1 := HV.out.2.1.lt
    go_wp2_with (refine load_bk rfl 30 _ rfl qu 0 [.int .i64 id, .int .i64 fc, .int .i64 ft, .int .i64 fx, .int .i64 fm, .int .i64 fk, .int .i64 fe, .int .i64 p, .int .i64 q, .int .i64 a, .int .i64 n, .bool o, .int .i64 jn, .int .i64 r, .int .i64 u, .bool b, .int .i64 c, .int .i64 d, .int .i64 x, .int .i64 hn, .int .u64 hb, .bool kp] [.int .i64 id, .int .i64 fc, .int .i64 ft, .int .i64 fx, .int .i64 fm, .int .i64 fk, .int .i64 fe, .int .i64 p, .int .i64 q, .int .i64 a, .int .i64 n, .bool o, .int .i64 jn, .int .i64 r, .int .i64 u, .bool b, .int .i64 c, .int .i64 d, .int .i64 x, .int .i64 hn, .int .u64 hb, .bool kp] rfl HV.out.2.1 rfl _ Try.underlying30 rfl (by kernel_rfl) ?_)
    refine (tlive_any id fc ft fx fm fk fe p q a n o jn r u b c d x hn hb kp _).mono ?_
    rintro e w7 ⟨rfl, hbw⟩
    unfold lvV
    have HB7 : Hid (Bk w7 qv [.int .i64 id, .int .i64 ec, .int .i64 et, .int .i64 ex, .int .i64 em, .int .i64 ek, .int .i64 ee, .int .i64 p, .int .i64 nx, .int .i64 a, .int .i64 n, .bool o, .int .i64 jn, .int .i64 r, .int .i64 u, .bool b, .int .i64 c, .int .i64 d, .int .i64 x, .int .i64 hn, .int .u64 hb, .bool kp] ∧ Bk w7 qu [.int .i64 id, .int .i64 fc, .int .i64 ft, .int .i64 fx, .int .i64 fm, .int .i64 fk, .int .i64 fe, .int .i64 p, .int .i64 q, .int .i64 a, .int .i64 n, .bool o, .int .i64 jn, .int .i64 r, .int .i64 u, .bool b, .int .i64 c, .int .i64 d, .int .i64 x, .int .i64 hn, .int .u64 hb, .bool kp] ∧ Bk w7 w.heap.size [.int .i64 id, .int .i64 ec, .int .i64 et, .int .i64 ex, .int .i64 em, .int .i64 ek, .int .i64 ee, .int .i64 p, .int .i64 nx, .int .i64 a, .int .i64 n, .bool o, .int .i64 jn, .int .i64 r, .int .i64 u, .bool b, .int .i64 c, .int .i64 d, .int .i64 x, .int .i64 hn, .int .u64 hb, .bool kp] ∧ Bk w7 (w.heap.size + 1) [.int .i64 fc, .int .i64 ft, .int .i64 fx, .int .i64 fm, .int .i64 fk, .int .i64 fe] ∧ Below w.heap.size w w7) := ⟨HV.out.1.later hbw, HV.out.2.1.later hbw, HV.out.2.2.1.later hbw, HV.out.2.2.2.1.later hbw, HV.out.2.2.2.2.trans (hbw.mono HV.out.2.2.2.2.size)⟩
    clear hbw HV hl1
    have hl0 := HB7.out.1.lt
    have hl1 := HB7.out.2.1.lt
    have hl2 := HB7.out.2.2.1.lt
    have hl3 := HB7.out.2.2.2.1.lt
    go_upto_region 9 with (refine store_bk rfl 39 _ _ rfl _ 0 _ [.int .i64 fc, .int .i64 ft, .int .i64 fx, .int .i64 fm, .int .i64 fk, .int .i64 fe, .bool o, .int .i64 jn, .int .i64 r, .int .i64 u, .bool b, .int .i64 c, .int .i64 c, .int .i64 x, .int .i64 q, .int .i64 a, .int .i64 n] [.int .i64 fc, .int .i64 ft, .int .i64 fx, .int .i64 fm, .int .i64 fk, .int .i64 fe, .bool o, .int .i64 jn, .int .i64 r, .int .i64 u, .bool b, .int .i64 c, .int .i64 c, .int .i64 x, .int .i64 q, .int .i64 a, .int .i64 n] rfl rfl 17 rfl (Bk.new _ _ _) (by simp) rfl (by kernel_rfl) (one17 fc ft fx fm fk fe o jn r u b c c x q a n) ?_; intro W8 hk1 hk2 hk3 hk4)
    have HG : Hid ((Bk W8 w7.heap.size [.int .i64 fc, .int .i64 ft, .int .i64 fx, .int .i64 fm, .int .i64 fk, .int .i64 fe, .bool o, .int .i64 jn, .int .i64 r, .int .i64 u, .bool b, .int .i64 c, .int .i64 c, .int .i64 x, .int .i64 q, .int .i64 a, .int .i64 n] ∧ Bk W8 qv [.int .i64 id, .int .i64 ec, .int .i64 et, .int .i64 ex, .int .i64 em, .int .i64 ek, .int .i64 ee, .int .i64 p, .int .i64 nx, .int .i64 a, .int .i64 n, .bool o, .int .i64 jn, .int .i64 r, .int .i64 u, .bool b, .int .i64 c, .int .i64 d, .int .i64 x, .int .i64 hn, .int .u64 hb, .bool kp]) ∧ Bk W8 qu [.int .i64 id, .int .i64 fc, .int .i64 ft, .int .i64 fx, .int .i64 fm, .int .i64 fk, .int .i64 fe, .int .i64 p, .int .i64 q, .int .i64 a, .int .i64 n, .bool o, .int .i64 jn, .int .i64 r, .int .i64 u, .bool b, .int .i64 c, .int .i64 d, .int .i64 x, .int .i64 hn, .int .u64 hb, .bool kp] ∧ Bk W8 w.heap.size [.int .i64 id, .int .i64 ec, .int .i64 et, .int .i64 ex, .int .i64 em, .int .i64 ek, .int .i64 ee, .int .i64 p, .int .i64 nx, .int .i64 a, .int .i64 n, .bool o, .int .i64 jn, .int .i64 r, .int .i64 u, .bool b, .int .i64 c, .int .i64 d, .int .i64 x, .int .i64 hn, .int .u64 hb, .bool kp] ∧ Bk W8 (w.heap.size + 1) [.int .i64 fc, .int .i64 ft, .int .i64 fx, .int .i64 fm, .int .i64 fk, .int .i64 fe] ∧ Below w.heap.size w W8) := ⟨⟨hk1, hk2 _ _ (by omega) (HB7.out.1.later (below_b1 _ _))⟩, hk2 _ _ (by omega) (HB7.out.2.1.later (below_b1 _ _)), hk2 _ _ (by omega) (HB7.out.2.2.1.later (below_b1 _ _)), hk2 _ _ (by omega) (HB7.out.2.2.2.1.later (below_b1 _ _)), hk3 _ _ HB7.out.2.2.2.2.size (HB7.out.2.2.2.2.alloc HB7.out.2.2.2.2.size _)⟩
    clear hk1 hk2 hk3 hk4 HB7 hl0 hl1 hl2 hl3
    generalize w7.heap.size = qx at *
    have hl0 := HG.out.1.1.lt
    have hl1 := HG.out.2.1.lt
    have hl2 := HG.out.2.2.1.lt
    have hl3 := HG.out.1.2.lt
    have hE := fun w => tk_self id ec et ex em ek ee p nx a n o jn r u b c d x hn hb kp w
    go_wp2_with (first | (refine load_bkG rfl 30 _ rfl qv 0 [.int .i64 id, .int .i64 ec, .int .i64 et, .int .i64 ex, .int .i64 em, .int .i64 ek, .int .i64 ee, .int .i64 p, .int .i64 nx, .int .i64 a, .int .i64 n, .bool o, .int .i64 jn, .int .i64 r, .int .i64 u, .bool b, .int .i64 c, .int .i64 d, .int .i64 x, .int .i64 hn, .int .u64 hb, .bool kp] [.int .i64 id, .int .i64 ec, .int .i64 et, .int .i64 ex, .int .i64 em, .int .i64 ek, .int .i64 ee, .int .i64 p, .int .i64 nx, .int .i64 a, .int .i64 n, .bool o, .int .i64 jn, .int .i64 r, .int .i64 u, .bool b, .int .i64 c, .int .i64 d, .int .i64 x, .int .i64 hn, .int .u64 hb, .bool kp] rfl HG.out.1.2 rfl _ Try.underlying30 rfl (by kernel_rfl) ?_) | (refine load_bkG rfl 30 _ rfl w.heap.size 0 [.int .i64 id, .int .i64 ec, .int .i64 et, .int .i64 ex, .int .i64 em, .int .i64 ek, .int .i64 ee, .int .i64 p, .int .i64 nx, .int .i64 a, .int .i64 n, .bool o, .int .i64 jn, .int .i64 r, .int .i64 u, .bool b, .int .i64 c, .int .i64 d, .int .i64 x, .int .i64 hn, .int .u64 hb, .bool kp] [.int .i64 id, .int .i64 ec, .int .i64 et, .int .i64 ex, .int .i64 em, .int .i64 ek, .int .i64 ee, .int .i64 p, .int .i64 nx, .int .i64 a, .int .i64 n, .bool o, .int .i64 jn, .int .i64 r, .int .i64 u, .bool b, .int .i64 c, .int .i64 d, .int .i64 x, .int .i64 hn, .int .u64 hb, .bool kp] rfl HG.out.2.2.1 rfl _ Try.underlying30 rfl (by kernel_rfl) ?_) | (refine load_bkG rfl 30 _ rfl qu 0 [.int .i64 id, .int .i64 fc, .int .i64 ft, .int .i64 fx, .int .i64 fm, .int .i64 fk, .int .i64 fe, .int .i64 p, .int .i64 q, .int .i64 a, .int .i64 n, .bool o, .int .i64 jn, .int .i64 r, .int .i64 u, .bool b, .int .i64 c, .int .i64 d, .int .i64 x, .int .i64 hn, .int .u64 hb, .bool kp] [.int .i64 id, .int .i64 fc, .int .i64 ft, .int .i64 fx, .int .i64 fm, .int .i64 fk, .int .i64 fe, .int .i64 p, .int .i64 q, .int .i64 a, .int .i64 n, .bool o, .int .i64 jn, .int .i64 r, .int .i64 u, .bool b, .int .i64 c, .int .i64 d, .int .i64 x, .int .i64 hn, .int .u64 hb, .bool kp] rfl HG.out.2.1 rfl _ Try.underlying30 rfl (by kernel_rfl) ?_))
    refine (tmay_any id fc ft fx fm fk fe p q a n o jn r u b c d x hn hb kp now _).mono ?_
    rintro e w9 ⟨rfl, hbw⟩
    rw [HMU.out]
    have HH : Hid (Bk w9 qx [.int .i64 fc, .int .i64 ft, .int .i64 fx, .int .i64 fm, .int .i64 fk, .int .i64 fe, .bool o, .int .i64 jn, .int .i64 r, .int .i64 u, .bool b, .int .i64 c, .int .i64 c, .int .i64 x, .int .i64 q, .int .i64 a, .int .i64 n] ∧ Bk w9 qu [.int .i64 id, .int .i64 fc, .int .i64 ft, .int .i64 fx, .int .i64 fm, .int .i64 fk, .int .i64 fe, .int .i64 p, .int .i64 q, .int .i64 a, .int .i64 n, .bool o, .int .i64 jn, .int .i64 r, .int .i64 u, .bool b, .int .i64 c, .int .i64 d, .int .i64 x, .int .i64 hn, .int .u64 hb, .bool kp] ∧ Bk w9 w.heap.size [.int .i64 id, .int .i64 ec, .int .i64 et, .int .i64 ex, .int .i64 em, .int .i64 ek, .int .i64 ee, .int .i64 p, .int .i64 nx, .int .i64 a, .int .i64 n, .bool o, .int .i64 jn, .int .i64 r, .int .i64 u, .bool b, .int .i64 c, .int .i64 d, .int .i64 x, .int .i64 hn, .int .u64 hb, .bool kp] ∧ Bk w9 (w.heap.size + 1) [.int .i64 fc, .int .i64 ft, .int .i64 fx, .int .i64 fm, .int .i64 fk, .int .i64 fe] ∧ Below w.heap.size w w9) := ⟨HG.out.1.1.later hbw, HG.out.2.1.later hbw, HG.out.2.2.1.later hbw, HG.out.2.2.2.1.later hbw, HG.out.2.2.2.2.trans (hbw.mono HG.out.2.2.2.2.size)⟩
    clear hbw HG hl0 hl1 hl2 hl3 hE
    have hl0 := HH.out.1.lt
    have hl1 := HH.out.2.1.lt
    have hl2 := HH.out.2.2.1.lt
    have hl3 := HH.out.2.2.2.1.lt
    have hJ : ∀ w, (binOp .eql 25 (.agg #[.bool o, .int .i64 jn, .int .i64 r, .int .i64 u, .bool b, .int .i64 c, .int .i64 d, .int .i64 x]) (.agg #[.bool o, .int .i64 jn, .int .i64 r, .int .i64 u, .bool b, .int .i64 c, .int .i64 d, .int .i64 x])).run Try.prog w = .ok (.bool true) w := fun w => (job_eql o jn r u b c d x o jn r u b c d x w).trans (by rw [show eqJ _ _ = true from eqJ_self _])
    have hS : ∀ w, (binOp .eql 23 (.agg #[.int .i64 fc, .int .i64 ft, .int .i64 fx, .int .i64 fm, .int .i64 fk, .int .i64 fe]) (.agg #[.int .i64 fc, .int .i64 ft, .int .i64 fx, .int .i64 fm, .int .i64 fk, .int .i64 fe])).run Try.prog w = .ok (.bool true) w := fun w => (sp_eql fc ft fx fm fk fe fc ft fx fm fk fe w).trans (by rw [spB_self])
    have hR := fun w => ring_self hn hb w
    have u7 : w9.cell? ⟨qu, 7, none⟩ = some (.int .i64 p) := HH.out.2.1.cell rfl
    have u9 : w9.cell? ⟨qu, 9, none⟩ = some (.int .i64 a) := HH.out.2.1.cell rfl
    have u19 : w9.cell? ⟨qu, 19, none⟩ = some (.int .i64 hn) := HH.out.2.1.cell rfl
    have u20 : w9.cell? ⟨qu, 20, none⟩ = some (.int .u64 hb) := HH.out.2.1.cell rfl
    have e7 : w9.cell? ⟨w.heap.size, 7, none⟩ = some (.int .i64 p) := HH.out.2.2.1.cell rfl
    have e9 : w9.cell? ⟨w.heap.size, 9, none⟩ = some (.int .i64 a) := HH.out.2.2.1.cell rfl
    have e19 : w9.cell? ⟨w.heap.size, 19, none⟩ = some (.int .i64 hn) := HH.out.2.2.1.cell rfl
    have e20 : w9.cell? ⟨w.heap.size, 20, none⟩ = some (.int .u64 hb) := HH.out.2.2.1.cell rfl
    have x14 : w9.cell? ⟨qx, 14, none⟩ = some (.int .i64 q) := HH.out.1.cell rfl
    go_wp2_with (first | (refine load_bkG rfl 25 _ rfl qu 11 [.int .i64 id, .int .i64 fc, .int .i64 ft, .int .i64 fx, .int .i64 fm, .int .i64 fk, .int .i64 fe, .int .i64 p, .int .i64 q, .int .i64 a, .int .i64 n, .bool o, .int .i64 jn, .int .i64 r, .int .i64 u, .bool b, .int .i64 c, .int .i64 d, .int .i64 x, .int .i64 hn, .int .u64 hb, .bool kp] [.bool o, .int .i64 jn, .int .i64 r, .int .i64 u, .bool b, .int .i64 c, .int .i64 d, .int .i64 x] rfl HH.out.2.1 rfl _ Try.underlying25 rfl (by kernel_rfl) ?_) | (refine load_bkG rfl 25 _ rfl w.heap.size 11 [.int .i64 id, .int .i64 ec, .int .i64 et, .int .i64 ex, .int .i64 em, .int .i64 ek, .int .i64 ee, .int .i64 p, .int .i64 nx, .int .i64 a, .int .i64 n, .bool o, .int .i64 jn, .int .i64 r, .int .i64 u, .bool b, .int .i64 c, .int .i64 d, .int .i64 x, .int .i64 hn, .int .u64 hb, .bool kp] [.bool o, .int .i64 jn, .int .i64 r, .int .i64 u, .bool b, .int .i64 c, .int .i64 d, .int .i64 x] rfl HH.out.2.2.1 rfl _ Try.underlying25 rfl (by kernel_rfl) ?_) | (refine load_bkG rfl 23 _ rfl qx 0 [.int .i64 fc, .int .i64 ft, .int .i64 fx, .int .i64 fm, .int .i64 fk, .int .i64 fe, .bool o, .int .i64 jn, .int .i64 r, .int .i64 u, .bool b, .int .i64 c, .int .i64 c, .int .i64 x, .int .i64 q, .int .i64 a, .int .i64 n] [.int .i64 fc, .int .i64 ft, .int .i64 fx, .int .i64 fm, .int .i64 fk, .int .i64 fe] rfl HH.out.1 rfl _ Try.underlying23 rfl (by kernel_rfl) ?_) | (refine load_bkG rfl 23 _ rfl (w.heap.size + 1) 0 [.int .i64 fc, .int .i64 ft, .int .i64 fx, .int .i64 fm, .int .i64 fk, .int .i64 fe] [.int .i64 fc, .int .i64 ft, .int .i64 fx, .int .i64 fm, .int .i64 fk, .int .i64 fe] rfl HH.out.2.2.2.1 rfl _ Try.underlying23 rfl (by kernel_rfl) ?_) | (refine load_bkG rfl 39 _ rfl qx 0 [.int .i64 fc, .int .i64 ft, .int .i64 fx, .int .i64 fm, .int .i64 fk, .int .i64 fe, .bool o, .int .i64 jn, .int .i64 r, .int .i64 u, .bool b, .int .i64 c, .int .i64 c, .int .i64 x, .int .i64 q, .int .i64 a, .int .i64 n] [.int .i64 fc, .int .i64 ft, .int .i64 fx, .int .i64 fm, .int .i64 fk, .int .i64 fe, .bool o, .int .i64 jn, .int .i64 r, .int .i64 u, .bool b, .int .i64 c, .int .i64 c, .int .i64 x, .int .i64 q, .int .i64 a, .int .i64 n] rfl HH.out.1 rfl _ Try.underlying39 rfl (by kernel_rfl) ?_))
    have HK : Hid (Bk (w9.alloc (.cells #[.int .i64 fc, .int .i64 ft, .int .i64 fx, .int .i64 fm, .int .i64 fk, .int .i64 fe, .bool o, .int .i64 jn, .int .i64 r, .int .i64 u, .bool b, .int .i64 c, .int .i64 c, .int .i64 x, .int .i64 q, .int .i64 a, .int .i64 n] 39)) w9.heap.size [.int .i64 fc, .int .i64 ft, .int .i64 fx, .int .i64 fm, .int .i64 fk, .int .i64 fe, .bool o, .int .i64 jn, .int .i64 r, .int .i64 u, .bool b, .int .i64 c, .int .i64 c, .int .i64 x, .int .i64 q, .int .i64 a, .int .i64 n] ∧ Below w.heap.size w (w9.alloc (.cells #[.int .i64 fc, .int .i64 ft, .int .i64 fx, .int .i64 fm, .int .i64 fk, .int .i64 fe, .bool o, .int .i64 jn, .int .i64 r, .int .i64 u, .bool b, .int .i64 c, .int .i64 c, .int .i64 x, .int .i64 q, .int .i64 a, .int .i64 n] 39))) := ⟨Bk.new _ _ _, HH.out.2.2.2.2.alloc HH.out.2.2.2.2.size _⟩
    generalize w9.alloc (.cells #[.int .i64 fc, .int .i64 ft, .int .i64 fx, .int .i64 fm, .int .i64 fk, .int .i64 fe, .bool o, .int .i64 jn, .int .i64 r, .int .i64 u, .bool b, .int .i64 c, .int .i64 c, .int .i64 x, .int .i64 q, .int .i64 a, .int .i64 n] 39) = W10 at *
    generalize w9.heap.size = q10 at *
    refine (lmay1_any fc ft fx fm fk fe o jn r u b c c x q a n now _ _ HK.out.1).mono ?_
    rintro e w11 ⟨rfl, hbw⟩
    rw [HLV.out]
    have HF : Hid (Below w.heap.size w w11) := HK.out.2.trans (hbw.mono HK.out.2.size)
    clear hbw
    go_wp2
    go_ret
    exact ⟨by first | rfl | simp, HF.out⟩
end Go.Proofs.Ythbppojglhimnaa
