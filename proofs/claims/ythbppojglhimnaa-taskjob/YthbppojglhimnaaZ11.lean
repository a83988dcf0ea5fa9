/- TaskJob: a job that begins is the next one, mandatory just where its number is. -/
import Derived.Test.YthbppojglhimnaaZ10
namespace Go.Proofs.Ythbppojglhimnaa
open Go.RowKit

theorem be_yes {t : Tk} {now d : Int} (h : beB t now d = true) : beT t now d = { t with p := t.x, a := now + t.x, n := t.n + 1, j := newJ t.s t.n now (now + t.x) d, k := t.k && decide (d ≤ t.s.c) } := by
  have h2 := h
  unfold beB at h2
  simp only [Bool.and_eq_true] at h2
  unfold beT
  rw [h]
  unfold nwJ
  rw [h2.2]
  rfl
theorem be_no {t : Tk} {now d : Int} (h : beB t now d = false) : beT t now d = t := by
  unfold beT
  rw [h]
  rfl
theorem tj_wraps {t : Tk} {now : Int} (h : tmB t now = true) (h1 : now ≤ 274877906944) (h2 : t.n ≤ 274877906944) : IntKind.i64.wrap (now + t.x) = now + t.x ∧ IntKind.i64.wrap (t.n + 1) = t.n + 1 := by
  obtain ⟨f1, f2, f3, f4, f5, _⟩ := lm_facts (tm_facts h).2.2.1
  rw [maySp_eq15] at f2
  have := of_decide_eq_true f2
  rw [IntKind.wrap_i64, IntKind.wrap_i64]
  omega

set_option maxHeartbeats 8000000 in
set_option maxRecDepth 100000 in
theorem law_tjob15 (t : Tk) (now dd : Int) (w : World) :
    Calls Try.prog 3 #[tkV t, .int .i64 now, .int .i64 dd] w fun e w' => e = .returned (.bool true) ∧ Below w.heap.size w w' := by
  obtain ⟨id, ⟨ec, et, ex, em, ek, ee⟩, p, nx, a, n, ⟨o, jn, r, u, b, c, d, x⟩, hn, hb, kp⟩ := t
  show Calls Try.prog 3 #[.agg #[.int .i64 id, .int .i64 ec, .int .i64 et, .int .i64 ex, .int .i64 em, .int .i64 ek, .int .i64 ee, .int .i64 p, .int .i64 nx, .int .i64 a, .int .i64 n, .bool o, .int .i64 jn, .int .i64 r, .int .i64 u, .bool b, .int .i64 c, .int .i64 d, .int .i64 x, .int .i64 hn, .int .u64 hb, .bool kp], .int .i64 now, .int .i64 dd] w _
  obtain ⟨z, hz⟩ : ∃ z, tmB ⟨id, ⟨ec, et, ex, em, ek, ee⟩, p, nx, a, n, ⟨o, jn, r, u, b, c, d, x⟩, hn, hb, kp⟩ now = z := ⟨_, rfl⟩
  have HM : Hid (tmB ⟨id, ⟨ec, et, ex, em, ek, ee⟩, p, nx, a, n, ⟨o, jn, r, u, b, c, d, x⟩, hn, hb, kp⟩ now = z) := hz
  clear hz
  have HB0 : Hid (Bk (w.alloc (.cells #[.int .i64 id, .int .i64 ec, .int .i64 et, .int .i64 ex, .int .i64 em, .int .i64 ek, .int .i64 ee, .int .i64 p, .int .i64 nx, .int .i64 a, .int .i64 n, .bool o, .int .i64 jn, .int .i64 r, .int .i64 u, .bool b, .int .i64 c, .int .i64 d, .int .i64 x, .int .i64 hn, .int .u64 hb, .bool kp] 30)) w.heap.size [.int .i64 id, .int .i64 ec, .int .i64 et, .int .i64 ex, .int .i64 em, .int .i64 ek, .int .i64 ee, .int .i64 p, .int .i64 nx, .int .i64 a, .int .i64 n, .bool o, .int .i64 jn, .int .i64 r, .int .i64 u, .bool b, .int .i64 c, .int .i64 d, .int .i64 x, .int .i64 hn, .int .u64 hb, .bool kp] ∧ Below w.heap.size w (w.alloc (.cells #[.int .i64 id, .int .i64 ec, .int .i64 et, .int .i64 ex, .int .i64 em, .int .i64 ek, .int .i64 ee, .int .i64 p, .int .i64 nx, .int .i64 a, .int .i64 n, .bool o, .int .i64 jn, .int .i64 r, .int .i64 u, .bool b, .int .i64 c, .int .i64 d, .int .i64 x, .int .i64 hn, .int .u64 hb, .bool kp] 30))) := ⟨Bk.new w _ _, below_b1 _ _⟩
  go_enter Try.func3, Try.ntmps3
  go_wp2_with fail
  generalize (w.alloc (.cells #[.int .i64 id, .int .i64 ec, .int .i64 et, .int .i64 ex, .int .i64 em, .int .i64 ek, .int .i64 ee, .int .i64 p, .int .i64 nx, .int .i64 a, .int .i64 n, .bool o, .int .i64 jn, .int .i64 r, .int .i64 u, .bool b, .int .i64 c, .int .i64 d, .int .i64 x, .int .i64 hn, .int .u64 hb, .bool kp] 30)) = W at *
  refine (awake15_any _).mono ?_
  rintro e w1 ⟨rfl, hbw⟩
  have HB1 : Hid (Bk w1 w.heap.size [.int .i64 id, .int .i64 ec, .int .i64 et, .int .i64 ex, .int .i64 em, .int .i64 ek, .int .i64 ee, .int .i64 p, .int .i64 nx, .int .i64 a, .int .i64 n, .bool o, .int .i64 jn, .int .i64 r, .int .i64 u, .bool b, .int .i64 c, .int .i64 d, .int .i64 x, .int .i64 hn, .int .u64 hb, .bool kp] ∧ Below w.heap.size w w1) := ⟨HB0.out.1.later hbw, HB0.out.2.trans (hbw.mono HB0.out.2.size)⟩
  clear hbw HB0
  have hl1 := HB1.out.1.lt
  have e10 : w1.cell? ⟨w.heap.size, 10, none⟩ = some (.int .i64 n) := HB1.out.1.cell rfl
  by_cases c1 : (274877906944 : Int) < now
  · go_wp2; go_ret; exact ⟨rfl, HB1.out.2⟩
  by_cases c2 : (274877906944 : Int) < n
  · go_wp2; go_ret; exact ⟨rfl, HB1.out.2⟩
  have HCC : Hid (now ≤ 274877906944 ∧ n ≤ 274877906944) := ⟨by omega, by omega⟩
  have d1 : decide ((274877906944 : Int) < now) = false := decide_eq_false c1
  have d2 : decide ((274877906944 : Int) < n) = false := decide_eq_false c2
  clear c1 c2
  go_wp2_with (refine load_bkG rfl 30 _ rfl _ 0 [.int .i64 id, .int .i64 ec, .int .i64 et, .int .i64 ex, .int .i64 em, .int .i64 ek, .int .i64 ee, .int .i64 p, .int .i64 nx, .int .i64 a, .int .i64 n, .bool o, .int .i64 jn, .int .i64 r, .int .i64 u, .bool b, .int .i64 c, .int .i64 d, .int .i64 x, .int .i64 hn, .int .u64 hb, .bool kp] [.int .i64 id, .int .i64 ec, .int .i64 et, .int .i64 ex, .int .i64 em, .int .i64 ek, .int .i64 ee, .int .i64 p, .int .i64 nx, .int .i64 a, .int .i64 n, .bool o, .int .i64 jn, .int .i64 r, .int .i64 u, .bool b, .int .i64 c, .int .i64 d, .int .i64 x, .int .i64 hn, .int .u64 hb, .bool kp] rfl HB1.out.1 rfl _ Try.underlying30 rfl (by kernel_rfl) ?_)
  refine (tmay_any id ec et ex em ek ee p nx a n o jn r u b c d x hn hb kp now _).mono ?_
  rintro e w2 ⟨rfl, hbw⟩
  rw [HM.out]
  have HB2 : Hid (Bk w2 w.heap.size [.int .i64 id, .int .i64 ec, .int .i64 et, .int .i64 ex, .int .i64 em, .int .i64 ek, .int .i64 ee, .int .i64 p, .int .i64 nx, .int .i64 a, .int .i64 n, .bool o, .int .i64 jn, .int .i64 r, .int .i64 u, .bool b, .int .i64 c, .int .i64 d, .int .i64 x, .int .i64 hn, .int .u64 hb, .bool kp] ∧ Below w.heap.size w w2) := ⟨HB1.out.1.later hbw, HB1.out.2.trans (hbw.mono HB1.out.2.size)⟩
  clear hbw HB1 hl1 e10 d1 d2
  have hl1 := HB2.out.1.lt
  cases z
  · go_wp2; go_ret; exact ⟨rfl, HB2.out.2⟩
  have HWR : Hid (IntKind.i64.wrap (now + nx) = now + nx ∧ IntKind.i64.wrap (n + 1) = n + 1) := tj_wraps HM.out HCC.out.1 HCC.out.2
  obtain ⟨y, hy⟩ : ∃ y, beB ⟨id, ⟨ec, et, ex, em, ek, ee⟩, p, nx, a, n, ⟨o, jn, r, u, b, c, d, x⟩, hn, hb, kp⟩ now dd = y := ⟨_, rfl⟩
  have HBE : Hid (beB ⟨id, ⟨ec, et, ex, em, ek, ee⟩, p, nx, a, n, ⟨o, jn, r, u, b, c, d, x⟩, hn, hb, kp⟩ now dd = y) := hy
  clear hy HCC
  go_wp2_with (refine load_bk rfl 30 _ rfl _ 0 [.int .i64 id, .int .i64 ec, .int .i64 et, .int .i64 ex, .int .i64 em, .int .i64 ek, .int .i64 ee, .int .i64 p, .int .i64 nx, .int .i64 a, .int .i64 n, .bool o, .int .i64 jn, .int .i64 r, .int .i64 u, .bool b, .int .i64 c, .int .i64 d, .int .i64 x, .int .i64 hn, .int .u64 hb, .bool kp] [.int .i64 id, .int .i64 ec, .int .i64 et, .int .i64 ex, .int .i64 em, .int .i64 ek, .int .i64 ee, .int .i64 p, .int .i64 nx, .int .i64 a, .int .i64 n, .bool o, .int .i64 jn, .int .i64 r, .int .i64 u, .bool b, .int .i64 c, .int .i64 d, .int .i64 x, .int .i64 hn, .int .u64 hb, .bool kp] rfl HB2.out.1 rfl _ Try.underlying30 rfl (by kernel_rfl) ?_)
  refine (begin_any id ec et ex em ek ee p nx a n o jn r u b c d x hn hb kp now dd _ HWR.out.1 HWR.out.2).mono ?_
  rintro e w3 ⟨rfl, hbw⟩
  rw [HBE.out]
  have HB3 : Hid (Bk w3 w.heap.size [.int .i64 id, .int .i64 ec, .int .i64 et, .int .i64 ex, .int .i64 em, .int .i64 ek, .int .i64 ee, .int .i64 p, .int .i64 nx, .int .i64 a, .int .i64 n, .bool o, .int .i64 jn, .int .i64 r, .int .i64 u, .bool b, .int .i64 c, .int .i64 d, .int .i64 x, .int .i64 hn, .int .u64 hb, .bool kp] ∧ Below w.heap.size w w3) := ⟨HB2.out.1.later hbw, HB2.out.2.trans (hbw.mono HB2.out.2.size)⟩
  clear hbw HB2 hl1
  have hl1 := HB3.out.1.lt
  cases y with
  | false =>
    rw [be_no HBE.out]
    unfold tkV
    go_upto_region 5 with (refine store_bk rfl 30 _ _ rfl _ 0 _ [.int .i64 id, .int .i64 ec, .int .i64 et, .int .i64 ex, .int .i64 em, .int .i64 ek, .int .i64 ee, .int .i64 p, .int .i64 nx, .int .i64 a, .int .i64 n, .bool o, .int .i64 jn, .int .i64 r, .int .i64 u, .bool b, .int .i64 c, .int .i64 d, .int .i64 x, .int .i64 hn, .int .u64 hb, .bool kp] [.int .i64 id, .int .i64 ec, .int .i64 et, .int .i64 ex, .int .i64 em, .int .i64 ek, .int .i64 ee, .int .i64 p, .int .i64 nx, .int .i64 a, .int .i64 n, .bool o, .int .i64 jn, .int .i64 r, .int .i64 u, .bool b, .int .i64 c, .int .i64 d, .int .i64 x, .int .i64 hn, .int .u64 hb, .bool kp] rfl rfl 22 rfl (Bk.new _ _ _) (by simp) rfl (by kernel_rfl) (one22 id ec et ex em ek ee p nx a n o jn r u b c d x hn hb kp) ?_; intro W4 hk1 hk2 hk3 hk4)
    have HX : Hid (Bk W4 w3.heap.size [.int .i64 id, .int .i64 ec, .int .i64 et, .int .i64 ex, .int .i64 em, .int .i64 ek, .int .i64 ee, .int .i64 p, .int .i64 nx, .int .i64 a, .int .i64 n, .bool o, .int .i64 jn, .int .i64 r, .int .i64 u, .bool b, .int .i64 c, .int .i64 d, .int .i64 x, .int .i64 hn, .int .u64 hb, .bool kp] ∧ Bk W4 w.heap.size [.int .i64 id, .int .i64 ec, .int .i64 et, .int .i64 ex, .int .i64 em, .int .i64 ek, .int .i64 ee, .int .i64 p, .int .i64 nx, .int .i64 a, .int .i64 n, .bool o, .int .i64 jn, .int .i64 r, .int .i64 u, .bool b, .int .i64 c, .int .i64 d, .int .i64 x, .int .i64 hn, .int .u64 hb, .bool kp] ∧ Below w.heap.size w W4) := ⟨hk1, hk2 _ _ (by omega) (HB3.out.1.later (below_b1 _ _)), hk3 _ _ HB3.out.2.size (HB3.out.2.alloc HB3.out.2.size _)⟩
    clear hk1 hk2 hk3 hk4 HB3 hl1
    generalize w3.heap.size = qu at *
    have hl1 := HX.out.1.lt
    have hl2 := HX.out.2.1.lt
    have hE := fun w => tk_self id ec et ex em ek ee p nx a n o jn r u b c d x hn hb kp w
    go_wp2_with (first | (refine load_bk rfl 30 _ rfl qu 0 [.int .i64 id, .int .i64 ec, .int .i64 et, .int .i64 ex, .int .i64 em, .int .i64 ek, .int .i64 ee, .int .i64 p, .int .i64 nx, .int .i64 a, .int .i64 n, .bool o, .int .i64 jn, .int .i64 r, .int .i64 u, .bool b, .int .i64 c, .int .i64 d, .int .i64 x, .int .i64 hn, .int .u64 hb, .bool kp] [.int .i64 id, .int .i64 ec, .int .i64 et, .int .i64 ex, .int .i64 em, .int .i64 ek, .int .i64 ee, .int .i64 p, .int .i64 nx, .int .i64 a, .int .i64 n, .bool o, .int .i64 jn, .int .i64 r, .int .i64 u, .bool b, .int .i64 c, .int .i64 d, .int .i64 x, .int .i64 hn, .int .u64 hb, .bool kp] rfl HX.out.1 rfl _ Try.underlying30 rfl (by kernel_rfl) ?_) | (refine load_bk rfl 30 _ rfl w.heap.size 0 [.int .i64 id, .int .i64 ec, .int .i64 et, .int .i64 ex, .int .i64 em, .int .i64 ek, .int .i64 ee, .int .i64 p, .int .i64 nx, .int .i64 a, .int .i64 n, .bool o, .int .i64 jn, .int .i64 r, .int .i64 u, .bool b, .int .i64 c, .int .i64 d, .int .i64 x, .int .i64 hn, .int .u64 hb, .bool kp] [.int .i64 id, .int .i64 ec, .int .i64 et, .int .i64 ex, .int .i64 em, .int .i64 ek, .int .i64 ee, .int .i64 p, .int .i64 nx, .int .i64 a, .int .i64 n, .bool o, .int .i64 jn, .int .i64 r, .int .i64 u, .bool b, .int .i64 c, .int .i64 d, .int .i64 x, .int .i64 hn, .int .u64 hb, .bool kp] rfl HX.out.2.1 rfl _ Try.underlying30 rfl (by kernel_rfl) ?_))
    go_ret
    exact ⟨rfl, HX.out.2.2⟩
  | true =>
    obtain ⟨md, hmd⟩ : ∃ md, onB em ek n = md := ⟨_, rfl⟩
    obtain ⟨kq, hkq⟩ : ∃ kq, (kp && decide (dd ≤ ec)) = kq := ⟨_, rfl⟩
    have HMD : Hid (onB em ek n = md) := hmd
    have HU : Hid (beT ⟨id, ⟨ec, et, ex, em, ek, ee⟩, p, nx, a, n, ⟨o, jn, r, u, b, c, d, x⟩, hn, hb, kp⟩ now dd = ⟨id, ⟨ec, et, ex, em, ek, ee⟩, nx, nx, now + nx, n + 1, ⟨true, n, now, now + nx, md, ec, dd, 0⟩, hn, hb, kq⟩) := by show _ = _; rw [be_yes HBE.out]; unfold newJ; simp only [hmd, hkq]
    clear hmd hkq
    rw [HU.out]
    unfold tkV
    go_upto_region 5 with (refine store_bk rfl 30 _ _ rfl _ 0 _ [.int .i64 id, .int .i64 ec, .int .i64 et, .int .i64 ex, .int .i64 em, .int .i64 ek, .int .i64 ee, .int .i64 nx, .int .i64 nx, .int .i64 (now + nx), .int .i64 (n + 1), .bool true, .int .i64 n, .int .i64 now, .int .i64 (now + nx), .bool md, .int .i64 ec, .int .i64 dd, .int .i64 0, .int .i64 hn, .int .u64 hb, .bool kq] [.int .i64 id, .int .i64 ec, .int .i64 et, .int .i64 ex, .int .i64 em, .int .i64 ek, .int .i64 ee, .int .i64 nx, .int .i64 nx, .int .i64 (now + nx), .int .i64 (n + 1), .bool true, .int .i64 n, .int .i64 now, .int .i64 (now + nx), .bool md, .int .i64 ec, .int .i64 dd, .int .i64 0, .int .i64 hn, .int .u64 hb, .bool kq] rfl rfl 22 rfl (Bk.new _ _ _) (by simp) rfl (by kernel_rfl) (one22b (by simp)) ?_; intro W4 hk1 hk2 hk3 hk4)
    have HX : Hid (Bk W4 w3.heap.size [.int .i64 id, .int .i64 ec, .int .i64 et, .int .i64 ex, .int .i64 em, .int .i64 ek, .int .i64 ee, .int .i64 nx, .int .i64 nx, .int .i64 (now + nx), .int .i64 (n + 1), .bool true, .int .i64 n, .int .i64 now, .int .i64 (now + nx), .bool md, .int .i64 ec, .int .i64 dd, .int .i64 0, .int .i64 hn, .int .u64 hb, .bool kq] ∧ Bk W4 w.heap.size [.int .i64 id, .int .i64 ec, .int .i64 et, .int .i64 ex, .int .i64 em, .int .i64 ek, .int .i64 ee, .int .i64 p, .int .i64 nx, .int .i64 a, .int .i64 n, .bool o, .int .i64 jn, .int .i64 r, .int .i64 u, .bool b, .int .i64 c, .int .i64 d, .int .i64 x, .int .i64 hn, .int .u64 hb, .bool kp] ∧ Below w.heap.size w W4) := ⟨hk1, hk2 _ _ (by omega) (HB3.out.1.later (below_b1 _ _)), hk3 _ _ HB3.out.2.size (HB3.out.2.alloc HB3.out.2.size _)⟩
    clear hk1 hk2 hk3 hk4 HB3 hl1
    generalize w3.heap.size = qu at *
    have hl1 := HX.out.1.lt
    have hl2 := HX.out.2.1.lt
    go_upto_region 8 with (first | (refine load_bk rfl 25 _ rfl qu 11 [.int .i64 id, .int .i64 ec, .int .i64 et, .int .i64 ex, .int .i64 em, .int .i64 ek, .int .i64 ee, .int .i64 nx, .int .i64 nx, .int .i64 (now + nx), .int .i64 (n + 1), .bool true, .int .i64 n, .int .i64 now, .int .i64 (now + nx), .bool md, .int .i64 ec, .int .i64 dd, .int .i64 0, .int .i64 hn, .int .u64 hb, .bool kq] [.bool true, .int .i64 n, .int .i64 now, .int .i64 (now + nx), .bool md, .int .i64 ec, .int .i64 dd, .int .i64 0] rfl HX.out.1 rfl _ Try.underlying25 rfl (by kernel_rfl) ?_) | (refine store_bk rfl 25 _ _ rfl _ 0 _ [.bool true, .int .i64 n, .int .i64 now, .int .i64 (now + nx), .bool md, .int .i64 ec, .int .i64 dd, .int .i64 0] [.bool true, .int .i64 n, .int .i64 now, .int .i64 (now + nx), .bool md, .int .i64 ec, .int .i64 dd, .int .i64 0] rfl rfl 8 rfl (Bk.new _ _ _) (by simp) rfl (by kernel_rfl) (one8 true n now (now + nx) md ec dd 0) ?_; intro W5 hk1 hk2 hk3 hk4))
    have HY : Hid (Bk W5 W4.heap.size [.bool true, .int .i64 n, .int .i64 now, .int .i64 (now + nx), .bool md, .int .i64 ec, .int .i64 dd, .int .i64 0] ∧ Bk W5 qu [.int .i64 id, .int .i64 ec, .int .i64 et, .int .i64 ex, .int .i64 em, .int .i64 ek, .int .i64 ee, .int .i64 nx, .int .i64 nx, .int .i64 (now + nx), .int .i64 (n + 1), .bool true, .int .i64 n, .int .i64 now, .int .i64 (now + nx), .bool md, .int .i64 ec, .int .i64 dd, .int .i64 0, .int .i64 hn, .int .u64 hb, .bool kq] ∧ Bk W5 w.heap.size [.int .i64 id, .int .i64 ec, .int .i64 et, .int .i64 ex, .int .i64 em, .int .i64 ek, .int .i64 ee, .int .i64 p, .int .i64 nx, .int .i64 a, .int .i64 n, .bool o, .int .i64 jn, .int .i64 r, .int .i64 u, .bool b, .int .i64 c, .int .i64 d, .int .i64 x, .int .i64 hn, .int .u64 hb, .bool kp] ∧ Below w.heap.size w W5) := ⟨hk1, hk2 _ _ (by omega) (HX.out.1.later (below_b1 _ _)), hk2 _ _ (by omega) (HX.out.2.1.later (below_b1 _ _)), hk3 _ _ HX.out.2.2.size (HX.out.2.2.alloc HX.out.2.2.size _)⟩
    clear hk1 hk2 hk3 hk4 HX hl1 hl2
    generalize W4.heap.size = qj at *
    have e4 : W5.cell? ⟨w.heap.size, 4, none⟩ = some (.int .i64 em) := HY.out.2.2.1.cell rfl
    have e5 : W5.cell? ⟨w.heap.size, 5, none⟩ = some (.int .i64 ek) := HY.out.2.2.1.cell rfl
    have e10 : W5.cell? ⟨w.heap.size, 10, none⟩ = some (.int .i64 n) := HY.out.2.2.1.cell rfl
    go_wp2_with fail
    refine (on_any em ek n _).mono ?_
    rintro e w6 ⟨rfl, hbw⟩
    rw [HMD.out]
    have HZ : Hid (Bk w6 qj [.bool true, .int .i64 n, .int .i64 now, .int .i64 (now + nx), .bool md, .int .i64 ec, .int .i64 dd, .int .i64 0] ∧ Bk w6 qu [.int .i64 id, .int .i64 ec, .int .i64 et, .int .i64 ex, .int .i64 em, .int .i64 ek, .int .i64 ee, .int .i64 nx, .int .i64 nx, .int .i64 (now + nx), .int .i64 (n + 1), .bool true, .int .i64 n, .int .i64 now, .int .i64 (now + nx), .bool md, .int .i64 ec, .int .i64 dd, .int .i64 0, .int .i64 hn, .int .u64 hb, .bool kq] ∧ Bk w6 w.heap.size [.int .i64 id, .int .i64 ec, .int .i64 et, .int .i64 ex, .int .i64 em, .int .i64 ek, .int .i64 ee, .int .i64 p, .int .i64 nx, .int .i64 a, .int .i64 n, .bool o, .int .i64 jn, .int .i64 r, .int .i64 u, .bool b, .int .i64 c, .int .i64 d, .int .i64 x, .int .i64 hn, .int .u64 hb, .bool kp] ∧ Below w.heap.size w w6) := ⟨HY.out.1.later hbw, HY.out.2.1.later hbw, HY.out.2.2.1.later hbw, HY.out.2.2.2.trans (hbw.mono HY.out.2.2.2.size)⟩
    clear hbw HY e4 e5 e10
    have hw1 := HWR.out.1
    have hw2 := HWR.out.2
    have hl1 := HZ.out.1.lt
    have hl2 := HZ.out.2.1.lt
    have hl3 := HZ.out.2.2.1.lt
    have j0 : w6.cell? ⟨qj, 0, none⟩ = some (.bool true) := HZ.out.1.cell rfl
    have j1 : w6.cell? ⟨qj, 1, none⟩ = some (.int .i64 n) := HZ.out.1.cell rfl
    have j2 : w6.cell? ⟨qj, 2, none⟩ = some (.int .i64 now) := HZ.out.1.cell rfl
    have j3 : w6.cell? ⟨qj, 3, none⟩ = some (.int .i64 (now + nx)) := HZ.out.1.cell rfl
    have j4 : w6.cell? ⟨qj, 4, none⟩ = some (.bool md) := HZ.out.1.cell rfl
    have j5 : w6.cell? ⟨qj, 5, none⟩ = some (.int .i64 ec) := HZ.out.1.cell rfl
    have j6 : w6.cell? ⟨qj, 6, none⟩ = some (.int .i64 dd) := HZ.out.1.cell rfl
    have u7 : w6.cell? ⟨qu, 7, none⟩ = some (.int .i64 nx) := HZ.out.2.1.cell rfl
    have u9 : w6.cell? ⟨qu, 9, none⟩ = some (.int .i64 (now + nx)) := HZ.out.2.1.cell rfl
    have u10 : w6.cell? ⟨qu, 10, none⟩ = some (.int .i64 (n + 1)) := HZ.out.2.1.cell rfl
    have u19 : w6.cell? ⟨qu, 19, none⟩ = some (.int .i64 hn) := HZ.out.2.1.cell rfl
    have u20 : w6.cell? ⟨qu, 20, none⟩ = some (.int .u64 hb) := HZ.out.2.1.cell rfl
    have e1 : w6.cell? ⟨w.heap.size, 1, none⟩ = some (.int .i64 ec) := HZ.out.2.2.1.cell rfl
    have e8 : w6.cell? ⟨w.heap.size, 8, none⟩ = some (.int .i64 nx) := HZ.out.2.2.1.cell rfl
    have e10 : w6.cell? ⟨w.heap.size, 10, none⟩ = some (.int .i64 n) := HZ.out.2.2.1.cell rfl
    have e19 : w6.cell? ⟨w.heap.size, 19, none⟩ = some (.int .i64 hn) := HZ.out.2.2.1.cell rfl
    have e20 : w6.cell? ⟨w.heap.size, 20, none⟩ = some (.int .u64 hb) := HZ.out.2.2.1.cell rfl
    have hR := fun w => ring_self hn hb w
    go_wp2
    go_ret
    exact ⟨by first | rfl | simp, HZ.out.2.2.2⟩
end Go.Proofs.Ythbppojglhimnaa
