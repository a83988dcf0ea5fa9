/- TaskLive: it is looked on as it is; facts on tasks that may be. -/
import Derived.Test.YthbppojglhimnaaZ8
namespace Go.Proofs.Ythbppojglhimnaa
open Go.RowKit

theorem maySp_eq15 (s : Sp) : maySp s = decide (1 ≤ s.c ∧ s.c ≤ 6 ∧ s.c ≤ s.t ∧ s.t ≤ s.x ∧ s.x ≤ 48 ∧ (1 ≤ s.m ∧ s.m ≤ s.k ∧ s.k ≤ 6) ∧ 0 ≤ s.e ∧ s.e ≤ 8 ∧ (s.e ≠ 0 ∨ s.t = s.x)) := by
  have e : maySp s = (((((fitC s && fitT s) && fitX s) && fitW s) && fitW s) && fitE s) := by
    show ((((((true && fitC s) && fitT s) && fitX s) && fitW s) && fitW s) && fitE s) = _
    rw [Bool.true_and]
  rw [e]
  unfold fitC fitT fitX fitW fitE wiB leT mayB
  rw [Bool.eq_iff_iff]
  simp only [Bool.and_eq_true, decide_eq_true_eq]
  by_cases h : s.e = 0
  · simp only [h, if_true]; omega
  · simp only [h, if_false]; omega
theorem jm_case {s : Sp} {o : Bool} {n r u : Int} {b : Bool} {c d x : Int} (h : jmB s ⟨o, n, r, u, b, c, d, x⟩ = true) : (o = false ∧ (n = 0 ∧ r = 0 ∧ u = 0) ∧ b = false ∧ c = 0 ∧ d = 0 ∧ x = 0) ∨ (o = true ∧ jinB s ⟨true, n, r, u, b, c, d, x⟩ = true ∧ c = s.c) := by
  have hs := jm_spec h
  unfold jmB at h
  rw [hs, Bool.true_and] at h
  cases o with
  | false =>
    have h2 : zeB ⟨false, n, r, u, b, c, d, x⟩ = true := h
    simp [zeB] at h2
    exact .inl ⟨rfl, h2.1, h2.2.1, h2.2.2⟩
  | true =>
    have h2 : jinB s ⟨true, n, r, u, b, c, d, x⟩ = true := h
    obtain ⟨_, _, h1, _⟩ := jin_facts h2
    exact .inr ⟨rfl, h2, h1⟩
theorem jm_long {s : Sp} {o : Bool} {n r u : Int} {b : Bool} {c d x : Int} (h : jmB s ⟨o, n, r, u, b, c, d, x⟩ = true) : jmB s ⟨o, n, r, u, b, c, c, x⟩ = true := by
  have hs := jm_spec h
  rcases jm_case h with ⟨rfl, ⟨rfl, rfl, rfl⟩, rfl, rfl, rfl, rfl⟩ | ⟨rfl, h2, h3⟩
  · exact h
  · have hs2 := hs
    rw [maySp_eq15] at hs2
    obtain ⟨f1, f2, _⟩ := of_decide_eq_true hs2
    obtain ⟨hd, hmd, h4, h5, h6, h7, h8, h9⟩ := jin_facts h2
    refine jm_yes hs rfl ?_
    unfold jinB at h2 ⊢
    simp only [Bool.and_eq_true, decide_eq_true_eq] at h2 ⊢
    refine ⟨h2.1, h2.2.1, ?_⟩
    have := h2.2.2
    omega
theorem lm_long {s : Sp} {o : Bool} {jn r u : Int} {b : Bool} {c d x p a n now : Int} (h : lmB s ⟨o, jn, r, u, b, c, d, x⟩ p a n now = true) : lmB s ⟨o, jn, r, u, b, c, c, x⟩ p a n now = true := by
  unfold lmB mvB at h ⊢
  simp only [Bool.and_eq_true] at h ⊢
  obtain ⟨h1, h2, h3, h4, h5, h6, h7⟩ := h
  exact ⟨h1, h2, h3, h4, h5, jm_long h6, h7⟩
theorem tm_facts {t : Tk} {now : Int} (h : tmB t now = true) : wiB t.id 0 549755813888 = true ∧ wiB t.p 1 48 = true ∧ lmB t.s t.j t.x t.a t.n now = true ∧ reB t.j.on t.n t.hn t.hb = true := by
  unfold tmB at h
  simp only [Bool.and_eq_true] at h
  exact h
theorem eqJ_long {s : Sp} {o : Bool} {n r u : Int} {b : Bool} {c d x : Int} (h : jmB s ⟨o, n, r, u, b, c, d, x⟩ = true) (ho : o = true) : eqJ ⟨o, n, r, u, b, c, c, x⟩ ⟨o, n, r, u, b, c, s.c, x⟩ = true := by
  rcases jm_case h with ⟨rfl, _⟩ | ⟨rfl, _, h3⟩
  · cases ho
  · rw [h3]; exact eqJ_self _
theorem eqJ_zero {s : Sp} {n r u : Int} {b : Bool} {c d x : Int} (h : jmB s ⟨false, n, r, u, b, c, d, x⟩ = true) : eqJ ⟨false, n, r, u, b, c, c, x⟩ ⟨false, n, r, u, b, c, d, x⟩ = true := by
  rcases jm_case h with ⟨_, _, _, h1, h2, _⟩ | ⟨h0, _⟩
  · rw [h1, h2]; exact eqJ_self _
  · cases h0

set_option maxHeartbeats 8000000 in
set_option maxRecDepth 100000 in
theorem law_tlive15 (t : Tk) (now : Int) (w : World) :
    Calls Try.prog 5 #[tkV t, .int .i64 now] w fun e w' => e = .returned (.bool true) ∧ Below w.heap.size w w' := by
  obtain ⟨id, ⟨ec, et, ex, em, ek, ee⟩, p, nx, a, n, ⟨o, jn, r, u, b, c, d, x⟩, hn, hb, kp⟩ := t
  show Calls Try.prog 5 #[.agg #[.int .i64 id, .int .i64 ec, .int .i64 et, .int .i64 ex, .int .i64 em, .int .i64 ek, .int .i64 ee, .int .i64 p, .int .i64 nx, .int .i64 a, .int .i64 n, .bool o, .int .i64 jn, .int .i64 r, .int .i64 u, .bool b, .int .i64 c, .int .i64 d, .int .i64 x, .int .i64 hn, .int .u64 hb, .bool kp], .int .i64 now] w _
  obtain ⟨z, hz⟩ : ∃ z, tmB ⟨id, ⟨ec, et, ex, em, ek, ee⟩, p, nx, a, n, ⟨o, jn, r, u, b, c, d, x⟩, hn, hb, kp⟩ now = z := ⟨_, rfl⟩
  have HM : Hid (tmB ⟨id, ⟨ec, et, ex, em, ek, ee⟩, p, nx, a, n, ⟨o, jn, r, u, b, c, d, x⟩, hn, hb, kp⟩ now = z) := hz
  clear hz
  have HB0 : Hid (Bk (w.alloc (.cells #[.int .i64 id, .int .i64 ec, .int .i64 et, .int .i64 ex, .int .i64 em, .int .i64 ek, .int .i64 ee, .int .i64 p, .int .i64 nx, .int .i64 a, .int .i64 n, .bool o, .int .i64 jn, .int .i64 r, .int .i64 u, .bool b, .int .i64 c, .int .i64 d, .int .i64 x, .int .i64 hn, .int .u64 hb, .bool kp] 30)) w.heap.size [.int .i64 id, .int .i64 ec, .int .i64 et, .int .i64 ex, .int .i64 em, .int .i64 ek, .int .i64 ee, .int .i64 p, .int .i64 nx, .int .i64 a, .int .i64 n, .bool o, .int .i64 jn, .int .i64 r, .int .i64 u, .bool b, .int .i64 c, .int .i64 d, .int .i64 x, .int .i64 hn, .int .u64 hb, .bool kp] ∧ Below w.heap.size w (w.alloc (.cells #[.int .i64 id, .int .i64 ec, .int .i64 et, .int .i64 ex, .int .i64 em, .int .i64 ek, .int .i64 ee, .int .i64 p, .int .i64 nx, .int .i64 a, .int .i64 n, .bool o, .int .i64 jn, .int .i64 r, .int .i64 u, .bool b, .int .i64 c, .int .i64 d, .int .i64 x, .int .i64 hn, .int .u64 hb, .bool kp] 30))) := ⟨Bk.new w _ _, below_b1 _ _⟩
  go_enter Try.func5, Try.ntmps5
  go_wp2_with fail
  generalize (w.alloc (.cells #[.int .i64 id, .int .i64 ec, .int .i64 et, .int .i64 ex, .int .i64 em, .int .i64 ek, .int .i64 ee, .int .i64 p, .int .i64 nx, .int .i64 a, .int .i64 n, .bool o, .int .i64 jn, .int .i64 r, .int .i64 u, .bool b, .int .i64 c, .int .i64 d, .int .i64 x, .int .i64 hn, .int .u64 hb, .bool kp] 30)) = W at *
  refine (awake15_any _).mono ?_
  rintro e w1 ⟨rfl, hbw⟩
  have HB1 : Hid (Bk w1 w.heap.size [.int .i64 id, .int .i64 ec, .int .i64 et, .int .i64 ex, .int .i64 em, .int .i64 ek, .int .i64 ee, .int .i64 p, .int .i64 nx, .int .i64 a, .int .i64 n, .bool o, .int .i64 jn, .int .i64 r, .int .i64 u, .bool b, .int .i64 c, .int .i64 d, .int .i64 x, .int .i64 hn, .int .u64 hb, .bool kp] ∧ Below w.heap.size w w1) := ⟨HB0.out.1.later hbw, HB0.out.2.trans (hbw.mono HB0.out.2.size)⟩
  clear hbw HB0
  have hl1 := HB1.out.1.lt
  go_wp2_with (refine load_bk rfl 30 _ rfl _ 0 [.int .i64 id, .int .i64 ec, .int .i64 et, .int .i64 ex, .int .i64 em, .int .i64 ek, .int .i64 ee, .int .i64 p, .int .i64 nx, .int .i64 a, .int .i64 n, .bool o, .int .i64 jn, .int .i64 r, .int .i64 u, .bool b, .int .i64 c, .int .i64 d, .int .i64 x, .int .i64 hn, .int .u64 hb, .bool kp] [.int .i64 id, .int .i64 ec, .int .i64 et, .int .i64 ex, .int .i64 em, .int .i64 ek, .int .i64 ee, .int .i64 p, .int .i64 nx, .int .i64 a, .int .i64 n, .bool o, .int .i64 jn, .int .i64 r, .int .i64 u, .bool b, .int .i64 c, .int .i64 d, .int .i64 x, .int .i64 hn, .int .u64 hb, .bool kp] rfl HB1.out.1 rfl _ Try.underlying30 rfl (by kernel_rfl) ?_)
  refine (tlive_any id ec et ex em ek ee p nx a n o jn r u b c d x hn hb kp _).mono ?_
  rintro e w2 ⟨rfl, hbw⟩
  unfold lvV
  have HB2 : Hid (Bk w2 w.heap.size [.int .i64 id, .int .i64 ec, .int .i64 et, .int .i64 ex, .int .i64 em, .int .i64 ek, .int .i64 ee, .int .i64 p, .int .i64 nx, .int .i64 a, .int .i64 n, .bool o, .int .i64 jn, .int .i64 r, .int .i64 u, .bool b, .int .i64 c, .int .i64 d, .int .i64 x, .int .i64 hn, .int .u64 hb, .bool kp] ∧ Below w.heap.size w w2) := ⟨HB1.out.1.later hbw, HB1.out.2.trans (hbw.mono HB1.out.2.size)⟩
  clear hbw HB1 hl1
  have hl1 := HB2.out.1.lt
  go_upto_region 3 with (refine store_bk rfl 39 _ _ rfl _ 0 _ [.int .i64 ec, .int .i64 et, .int .i64 ex, .int .i64 em, .int .i64 ek, .int .i64 ee, .bool o, .int .i64 jn, .int .i64 r, .int .i64 u, .bool b, .int .i64 c, .int .i64 c, .int .i64 x, .int .i64 nx, .int .i64 a, .int .i64 n] [.int .i64 ec, .int .i64 et, .int .i64 ex, .int .i64 em, .int .i64 ek, .int .i64 ee, .bool o, .int .i64 jn, .int .i64 r, .int .i64 u, .bool b, .int .i64 c, .int .i64 c, .int .i64 x, .int .i64 nx, .int .i64 a, .int .i64 n] rfl rfl 17 rfl (Bk.new _ _ _) (by simp) rfl (by kernel_rfl) (one17 ec et ex em ek ee o jn r u b c c x nx a n) ?_; intro W3 hk1 hk2 hk3 hk4)
  have HX : Hid (Bk W3 w2.heap.size [.int .i64 ec, .int .i64 et, .int .i64 ex, .int .i64 em, .int .i64 ek, .int .i64 ee, .bool o, .int .i64 jn, .int .i64 r, .int .i64 u, .bool b, .int .i64 c, .int .i64 c, .int .i64 x, .int .i64 nx, .int .i64 a, .int .i64 n] ∧ Bk W3 w.heap.size [.int .i64 id, .int .i64 ec, .int .i64 et, .int .i64 ex, .int .i64 em, .int .i64 ek, .int .i64 ee, .int .i64 p, .int .i64 nx, .int .i64 a, .int .i64 n, .bool o, .int .i64 jn, .int .i64 r, .int .i64 u, .bool b, .int .i64 c, .int .i64 d, .int .i64 x, .int .i64 hn, .int .u64 hb, .bool kp] ∧ Below w.heap.size w W3) := ⟨hk1, hk2 _ _ (by omega) (HB2.out.1.later (below_b1 _ _)), hk3 _ _ HB2.out.2.size (HB2.out.2.alloc HB2.out.2.size _)⟩
  clear hk1 hk2 hk3 hk4 HB2 hl1
  generalize w2.heap.size = ql at *
  have hl1 := HX.out.2.1.lt
  go_wp2_with (refine load_bkG rfl 30 _ rfl _ 0 [.int .i64 id, .int .i64 ec, .int .i64 et, .int .i64 ex, .int .i64 em, .int .i64 ek, .int .i64 ee, .int .i64 p, .int .i64 nx, .int .i64 a, .int .i64 n, .bool o, .int .i64 jn, .int .i64 r, .int .i64 u, .bool b, .int .i64 c, .int .i64 d, .int .i64 x, .int .i64 hn, .int .u64 hb, .bool kp] [.int .i64 id, .int .i64 ec, .int .i64 et, .int .i64 ex, .int .i64 em, .int .i64 ek, .int .i64 ee, .int .i64 p, .int .i64 nx, .int .i64 a, .int .i64 n, .bool o, .int .i64 jn, .int .i64 r, .int .i64 u, .bool b, .int .i64 c, .int .i64 d, .int .i64 x, .int .i64 hn, .int .u64 hb, .bool kp] rfl HX.out.2.1 rfl _ Try.underlying30 rfl (by kernel_rfl) ?_)
  refine (tmay_any id ec et ex em ek ee p nx a n o jn r u b c d x hn hb kp now _).mono ?_
  rintro e w4 ⟨rfl, hbw⟩
  rw [HM.out]
  have HY : Hid (Bk w4 ql [.int .i64 ec, .int .i64 et, .int .i64 ex, .int .i64 em, .int .i64 ek, .int .i64 ee, .bool o, .int .i64 jn, .int .i64 r, .int .i64 u, .bool b, .int .i64 c, .int .i64 c, .int .i64 x, .int .i64 nx, .int .i64 a, .int .i64 n] ∧ Bk w4 w.heap.size [.int .i64 id, .int .i64 ec, .int .i64 et, .int .i64 ex, .int .i64 em, .int .i64 ek, .int .i64 ee, .int .i64 p, .int .i64 nx, .int .i64 a, .int .i64 n, .bool o, .int .i64 jn, .int .i64 r, .int .i64 u, .bool b, .int .i64 c, .int .i64 d, .int .i64 x, .int .i64 hn, .int .u64 hb, .bool kp] ∧ Below w.heap.size w w4) := ⟨HX.out.1.later hbw, HX.out.2.1.later hbw, HX.out.2.2.trans (hbw.mono HX.out.2.2.size)⟩
  clear hbw HX hl1
  cases z
  · go_wp2; go_ret; exact ⟨rfl, HY.out.2.2⟩
  have HLM0 := (tm_facts HM.out).2.2.1
  have HLM : Hid (lmB ⟨ec, et, ex, em, ek, ee⟩ ⟨o, jn, r, u, b, c, c, x⟩ nx a n now = true) := lm_long HLM0
  have HJM : Hid (jmB ⟨ec, et, ex, em, ek, ee⟩ ⟨o, jn, r, u, b, c, d, x⟩ = true) := (lm_facts HLM0).2.2.2.2.2.1
  clear HLM0 HM
  have hl1 := HY.out.1.lt
  have hl2 := HY.out.2.1.lt
  go_upto_region 6 with (first | (refine load_bk rfl 25 _ rfl _ 11 [.int .i64 id, .int .i64 ec, .int .i64 et, .int .i64 ex, .int .i64 em, .int .i64 ek, .int .i64 ee, .int .i64 p, .int .i64 nx, .int .i64 a, .int .i64 n, .bool o, .int .i64 jn, .int .i64 r, .int .i64 u, .bool b, .int .i64 c, .int .i64 d, .int .i64 x, .int .i64 hn, .int .u64 hb, .bool kp] [.bool o, .int .i64 jn, .int .i64 r, .int .i64 u, .bool b, .int .i64 c, .int .i64 d, .int .i64 x] rfl HY.out.2.1 rfl _ Try.underlying25 rfl (by kernel_rfl) ?_) | (refine store_bk rfl 25 _ _ rfl _ 0 _ [.bool o, .int .i64 jn, .int .i64 r, .int .i64 u, .bool b, .int .i64 c, .int .i64 d, .int .i64 x] [.bool o, .int .i64 jn, .int .i64 r, .int .i64 u, .bool b, .int .i64 c, .int .i64 d, .int .i64 x] rfl rfl 8 rfl (Bk.new _ _ _) (by simp) rfl (by kernel_rfl) (one8 o jn r u b c d x) ?_; intro W5 hk1 hk2 hk3 hk4))
  have HG : Hid (Bk W5 w4.heap.size [.bool o, .int .i64 jn, .int .i64 r, .int .i64 u, .bool b, .int .i64 c, .int .i64 d, .int .i64 x] ∧ Bk W5 ql [.int .i64 ec, .int .i64 et, .int .i64 ex, .int .i64 em, .int .i64 ek, .int .i64 ee, .bool o, .int .i64 jn, .int .i64 r, .int .i64 u, .bool b, .int .i64 c, .int .i64 c, .int .i64 x, .int .i64 nx, .int .i64 a, .int .i64 n] ∧ Bk W5 w.heap.size [.int .i64 id, .int .i64 ec, .int .i64 et, .int .i64 ex, .int .i64 em, .int .i64 ek, .int .i64 ee, .int .i64 p, .int .i64 nx, .int .i64 a, .int .i64 n, .bool o, .int .i64 jn, .int .i64 r, .int .i64 u, .bool b, .int .i64 c, .int .i64 d, .int .i64 x, .int .i64 hn, .int .u64 hb, .bool kp] ∧ Below w.heap.size w W5) := ⟨hk1, hk2 _ _ (by omega) (HY.out.1.later (below_b1 _ _)), hk2 _ _ (by omega) (HY.out.2.1.later (below_b1 _ _)), hk3 _ _ HY.out.2.2.size (HY.out.2.2.alloc HY.out.2.2.size _)⟩
  have hne : ql ≠ w4.heap.size ∧ w.heap.size ≠ w4.heap.size ∧ w.heap.size ≤ w4.heap.size := ⟨by omega, by omega, by omega⟩
  clear hk1 hk2 hk3 hk4 HY hl1 hl2
  generalize w4.heap.size = qj at *
  have HNE : Hid (ql ≠ qj ∧ w.heap.size ≠ qj ∧ w.heap.size ≤ qj) := hne
  clear hne
  have j0 : W5.cell? ⟨qj, 0, none⟩ = some (.bool o) := HG.out.1.cell rfl
  cases o with
  | true =>
    have e1 : W5.cell? ⟨w.heap.size, 1, none⟩ = some (.int .i64 ec) := HG.out.2.2.1.cell rfl
    have j6 : W5.cell? ⟨qj, 6, none⟩ = some (.int .i64 d) := HG.out.1.cell rfl
    have f6 : W5.frozen? ⟨qj, 6, none⟩ = false := HG.out.1.frz (by simp)
    go_upto_region 8 with fail
    have HH : Hid (Bk (W5.setCell ⟨qj, 6, none⟩ (.int .i64 ec)) qj [.bool true, .int .i64 jn, .int .i64 r, .int .i64 u, .bool b, .int .i64 c, .int .i64 ec, .int .i64 x] ∧ Bk (W5.setCell ⟨qj, 6, none⟩ (.int .i64 ec)) ql [.int .i64 ec, .int .i64 et, .int .i64 ex, .int .i64 em, .int .i64 ek, .int .i64 ee, .bool true, .int .i64 jn, .int .i64 r, .int .i64 u, .bool b, .int .i64 c, .int .i64 c, .int .i64 x, .int .i64 nx, .int .i64 a, .int .i64 n] ∧ Bk (W5.setCell ⟨qj, 6, none⟩ (.int .i64 ec)) w.heap.size [.int .i64 id, .int .i64 ec, .int .i64 et, .int .i64 ex, .int .i64 em, .int .i64 ek, .int .i64 ee, .int .i64 p, .int .i64 nx, .int .i64 a, .int .i64 n, .bool true, .int .i64 jn, .int .i64 r, .int .i64 u, .bool b, .int .i64 c, .int .i64 d, .int .i64 x, .int .i64 hn, .int .u64 hb, .bool kp] ∧ Below w.heap.size w (W5.setCell ⟨qj, 6, none⟩ (.int .i64 ec))) := ⟨HG.out.1.set 6 _, HG.out.2.1.other (fun e => HNE.out.1 e.symm) _, HG.out.2.2.1.other (fun e => HNE.out.2.1 e.symm) _, HG.out.2.2.2.setCell (p := ⟨qj, 6, none⟩) HNE.out.2.2 _⟩
    clear j0 j6 f6 e1
    generalize (W5.setCell ⟨qj, 6, none⟩ (.int .i64 ec)) = W6 at *
    clear HG
    have HG := HH
    clear HH
    have hl1 := HG.out.1.lt
    have hl2 := HG.out.2.1.lt
    have hl3 := HG.out.2.2.1.lt
    have hE : ∀ w, (binOp .eql 25 (.agg #[.bool true, .int .i64 jn, .int .i64 r, .int .i64 u, .bool b, .int .i64 c, .int .i64 c, .int .i64 x]) (.agg #[.bool true, .int .i64 jn, .int .i64 r, .int .i64 u, .bool b, .int .i64 c, .int .i64 ec, .int .i64 x])).run Try.prog w = .ok (.bool true) w := fun w => (job_eql true jn r u b c c x true jn r u b c ec x w).trans (by rw [show eqJ _ _ = true from eqJ_long HJM.out rfl])
    have hS : ∀ w, (binOp .eql 23 (.agg #[.int .i64 ec, .int .i64 et, .int .i64 ex, .int .i64 em, .int .i64 ek, .int .i64 ee]) (.agg #[.int .i64 ec, .int .i64 et, .int .i64 ex, .int .i64 em, .int .i64 ek, .int .i64 ee])).run Try.prog w = .ok (.bool true) w := fun w => (sp_eql ec et ex em ek ee ec et ex em ek ee w).trans (by rw [spB_self])
    go_wp2_with (refine load_bk rfl 39 _ rfl ql 0 [.int .i64 ec, .int .i64 et, .int .i64 ex, .int .i64 em, .int .i64 ek, .int .i64 ee, .bool true, .int .i64 jn, .int .i64 r, .int .i64 u, .bool b, .int .i64 c, .int .i64 c, .int .i64 x, .int .i64 nx, .int .i64 a, .int .i64 n] [.int .i64 ec, .int .i64 et, .int .i64 ex, .int .i64 em, .int .i64 ek, .int .i64 ee, .bool true, .int .i64 jn, .int .i64 r, .int .i64 u, .bool b, .int .i64 c, .int .i64 c, .int .i64 x, .int .i64 nx, .int .i64 a, .int .i64 n] rfl HG.out.2.1 rfl _ Try.underlying39 rfl (by kernel_rfl) ?_)
    have HX : Hid (Bk (W6.alloc (.cells #[.int .i64 ec, .int .i64 et, .int .i64 ex, .int .i64 em, .int .i64 ek, .int .i64 ee, .bool true, .int .i64 jn, .int .i64 r, .int .i64 u, .bool b, .int .i64 c, .int .i64 c, .int .i64 x, .int .i64 nx, .int .i64 a, .int .i64 n] 39)) W6.heap.size [.int .i64 ec, .int .i64 et, .int .i64 ex, .int .i64 em, .int .i64 ek, .int .i64 ee, .bool true, .int .i64 jn, .int .i64 r, .int .i64 u, .bool b, .int .i64 c, .int .i64 c, .int .i64 x, .int .i64 nx, .int .i64 a, .int .i64 n] ∧ Bk (W6.alloc (.cells #[.int .i64 ec, .int .i64 et, .int .i64 ex, .int .i64 em, .int .i64 ek, .int .i64 ee, .bool true, .int .i64 jn, .int .i64 r, .int .i64 u, .bool b, .int .i64 c, .int .i64 c, .int .i64 x, .int .i64 nx, .int .i64 a, .int .i64 n] 39)) qj [.bool true, .int .i64 jn, .int .i64 r, .int .i64 u, .bool b, .int .i64 c, .int .i64 ec, .int .i64 x] ∧ Bk (W6.alloc (.cells #[.int .i64 ec, .int .i64 et, .int .i64 ex, .int .i64 em, .int .i64 ek, .int .i64 ee, .bool true, .int .i64 jn, .int .i64 r, .int .i64 u, .bool b, .int .i64 c, .int .i64 c, .int .i64 x, .int .i64 nx, .int .i64 a, .int .i64 n] 39)) ql [.int .i64 ec, .int .i64 et, .int .i64 ex, .int .i64 em, .int .i64 ek, .int .i64 ee, .bool true, .int .i64 jn, .int .i64 r, .int .i64 u, .bool b, .int .i64 c, .int .i64 c, .int .i64 x, .int .i64 nx, .int .i64 a, .int .i64 n] ∧ Bk (W6.alloc (.cells #[.int .i64 ec, .int .i64 et, .int .i64 ex, .int .i64 em, .int .i64 ek, .int .i64 ee, .bool true, .int .i64 jn, .int .i64 r, .int .i64 u, .bool b, .int .i64 c, .int .i64 c, .int .i64 x, .int .i64 nx, .int .i64 a, .int .i64 n] 39)) w.heap.size [.int .i64 id, .int .i64 ec, .int .i64 et, .int .i64 ex, .int .i64 em, .int .i64 ek, .int .i64 ee, .int .i64 p, .int .i64 nx, .int .i64 a, .int .i64 n, .bool true, .int .i64 jn, .int .i64 r, .int .i64 u, .bool b, .int .i64 c, .int .i64 d, .int .i64 x, .int .i64 hn, .int .u64 hb, .bool kp] ∧ Below w.heap.size w (W6.alloc (.cells #[.int .i64 ec, .int .i64 et, .int .i64 ex, .int .i64 em, .int .i64 ek, .int .i64 ee, .bool true, .int .i64 jn, .int .i64 r, .int .i64 u, .bool b, .int .i64 c, .int .i64 c, .int .i64 x, .int .i64 nx, .int .i64 a, .int .i64 n] 39))) := ⟨Bk.new _ _ _, HG.out.1.later (below_b1 _ _), HG.out.2.1.later (below_b1 _ _), HG.out.2.2.1.later (below_b1 _ _), HG.out.2.2.2.alloc HG.out.2.2.2.size _⟩
    generalize W6.alloc (.cells #[.int .i64 ec, .int .i64 et, .int .i64 ex, .int .i64 em, .int .i64 ek, .int .i64 ee, .bool true, .int .i64 jn, .int .i64 r, .int .i64 u, .bool b, .int .i64 c, .int .i64 c, .int .i64 x, .int .i64 nx, .int .i64 a, .int .i64 n] 39) = W7 at *
    generalize W6.heap.size = q7 at *
    refine (lmay1_any ec et ex em ek ee true jn r u b c c x nx a n now _ _ HX.out.1).mono ?_
    rintro e w8 ⟨rfl, hbw⟩
    rw [HLM.out]
    have HY : Hid (Bk w8 qj [.bool true, .int .i64 jn, .int .i64 r, .int .i64 u, .bool b, .int .i64 c, .int .i64 ec, .int .i64 x] ∧ Bk w8 ql [.int .i64 ec, .int .i64 et, .int .i64 ex, .int .i64 em, .int .i64 ek, .int .i64 ee, .bool true, .int .i64 jn, .int .i64 r, .int .i64 u, .bool b, .int .i64 c, .int .i64 c, .int .i64 x, .int .i64 nx, .int .i64 a, .int .i64 n] ∧ Bk w8 w.heap.size [.int .i64 id, .int .i64 ec, .int .i64 et, .int .i64 ex, .int .i64 em, .int .i64 ek, .int .i64 ee, .int .i64 p, .int .i64 nx, .int .i64 a, .int .i64 n, .bool true, .int .i64 jn, .int .i64 r, .int .i64 u, .bool b, .int .i64 c, .int .i64 d, .int .i64 x, .int .i64 hn, .int .u64 hb, .bool kp] ∧ Below w.heap.size w w8) := ⟨HX.out.2.1.later hbw, HX.out.2.2.1.later hbw, HX.out.2.2.2.1.later hbw, HX.out.2.2.2.2.trans (hbw.mono HX.out.2.2.2.2.size)⟩
    clear hbw HX HG hl1 hl2 hl3
    have hl1 := HY.out.1.lt
    have hl2 := HY.out.2.1.lt
    have hl3 := HY.out.2.2.1.lt
    have m14 : w8.cell? ⟨ql, 14, none⟩ = some (.int .i64 nx) := HY.out.2.1.cell rfl
    have m15 : w8.cell? ⟨ql, 15, none⟩ = some (.int .i64 a) := HY.out.2.1.cell rfl
    have m16 : w8.cell? ⟨ql, 16, none⟩ = some (.int .i64 n) := HY.out.2.1.cell rfl
    have e8 : w8.cell? ⟨w.heap.size, 8, none⟩ = some (.int .i64 nx) := HY.out.2.2.1.cell rfl
    have e9 : w8.cell? ⟨w.heap.size, 9, none⟩ = some (.int .i64 a) := HY.out.2.2.1.cell rfl
    have e10 : w8.cell? ⟨w.heap.size, 10, none⟩ = some (.int .i64 n) := HY.out.2.2.1.cell rfl
    go_wp2_with (first | (refine load_bkG rfl 25 _ rfl ql 6 [.int .i64 ec, .int .i64 et, .int .i64 ex, .int .i64 em, .int .i64 ek, .int .i64 ee, .bool true, .int .i64 jn, .int .i64 r, .int .i64 u, .bool b, .int .i64 c, .int .i64 c, .int .i64 x, .int .i64 nx, .int .i64 a, .int .i64 n] [.bool true, .int .i64 jn, .int .i64 r, .int .i64 u, .bool b, .int .i64 c, .int .i64 c, .int .i64 x] rfl HY.out.2.1 rfl _ Try.underlying25 rfl (by kernel_rfl) ?_) | (refine load_bkG rfl 25 _ rfl qj 0 [.bool true, .int .i64 jn, .int .i64 r, .int .i64 u, .bool b, .int .i64 c, .int .i64 ec, .int .i64 x] [.bool true, .int .i64 jn, .int .i64 r, .int .i64 u, .bool b, .int .i64 c, .int .i64 ec, .int .i64 x] rfl HY.out.1 rfl _ Try.underlying25 rfl (by kernel_rfl) ?_) | (refine load_bkG rfl 23 _ rfl ql 0 [.int .i64 ec, .int .i64 et, .int .i64 ex, .int .i64 em, .int .i64 ek, .int .i64 ee, .bool true, .int .i64 jn, .int .i64 r, .int .i64 u, .bool b, .int .i64 c, .int .i64 c, .int .i64 x, .int .i64 nx, .int .i64 a, .int .i64 n] [.int .i64 ec, .int .i64 et, .int .i64 ex, .int .i64 em, .int .i64 ek, .int .i64 ee] rfl HY.out.2.1 rfl _ Try.underlying23 rfl (by kernel_rfl) ?_) | (refine load_bkG rfl 23 _ rfl w.heap.size 1 [.int .i64 id, .int .i64 ec, .int .i64 et, .int .i64 ex, .int .i64 em, .int .i64 ek, .int .i64 ee, .int .i64 p, .int .i64 nx, .int .i64 a, .int .i64 n, .bool true, .int .i64 jn, .int .i64 r, .int .i64 u, .bool b, .int .i64 c, .int .i64 d, .int .i64 x, .int .i64 hn, .int .u64 hb, .bool kp] [.int .i64 ec, .int .i64 et, .int .i64 ex, .int .i64 em, .int .i64 ek, .int .i64 ee] rfl HY.out.2.2.1 rfl _ Try.underlying23 rfl (by kernel_rfl) ?_))
    go_ret
    exact ⟨by first | rfl | simp, HY.out.2.2.2⟩
  | false =>
    go_upto_region 8 with fail
    clear j0
    have hl1 := HG.out.1.lt
    have hl2 := HG.out.2.1.lt
    have hl3 := HG.out.2.2.1.lt
    have hE : ∀ w, (binOp .eql 25 (.agg #[.bool false, .int .i64 jn, .int .i64 r, .int .i64 u, .bool b, .int .i64 c, .int .i64 c, .int .i64 x]) (.agg #[.bool false, .int .i64 jn, .int .i64 r, .int .i64 u, .bool b, .int .i64 c, .int .i64 d, .int .i64 x])).run Try.prog w = .ok (.bool true) w := fun w => (job_eql false jn r u b c c x false jn r u b c d x w).trans (by rw [show eqJ _ _ = true from eqJ_zero HJM.out])
    have hS : ∀ w, (binOp .eql 23 (.agg #[.int .i64 ec, .int .i64 et, .int .i64 ex, .int .i64 em, .int .i64 ek, .int .i64 ee]) (.agg #[.int .i64 ec, .int .i64 et, .int .i64 ex, .int .i64 em, .int .i64 ek, .int .i64 ee])).run Try.prog w = .ok (.bool true) w := fun w => (sp_eql ec et ex em ek ee ec et ex em ek ee w).trans (by rw [spB_self])
    go_wp2_with (refine load_bk rfl 39 _ rfl ql 0 [.int .i64 ec, .int .i64 et, .int .i64 ex, .int .i64 em, .int .i64 ek, .int .i64 ee, .bool false, .int .i64 jn, .int .i64 r, .int .i64 u, .bool b, .int .i64 c, .int .i64 c, .int .i64 x, .int .i64 nx, .int .i64 a, .int .i64 n] [.int .i64 ec, .int .i64 et, .int .i64 ex, .int .i64 em, .int .i64 ek, .int .i64 ee, .bool false, .int .i64 jn, .int .i64 r, .int .i64 u, .bool b, .int .i64 c, .int .i64 c, .int .i64 x, .int .i64 nx, .int .i64 a, .int .i64 n] rfl HG.out.2.1 rfl _ Try.underlying39 rfl (by kernel_rfl) ?_)
    have HX : Hid (Bk (W5.alloc (.cells #[.int .i64 ec, .int .i64 et, .int .i64 ex, .int .i64 em, .int .i64 ek, .int .i64 ee, .bool false, .int .i64 jn, .int .i64 r, .int .i64 u, .bool b, .int .i64 c, .int .i64 c, .int .i64 x, .int .i64 nx, .int .i64 a, .int .i64 n] 39)) W5.heap.size [.int .i64 ec, .int .i64 et, .int .i64 ex, .int .i64 em, .int .i64 ek, .int .i64 ee, .bool false, .int .i64 jn, .int .i64 r, .int .i64 u, .bool b, .int .i64 c, .int .i64 c, .int .i64 x, .int .i64 nx, .int .i64 a, .int .i64 n] ∧ Bk (W5.alloc (.cells #[.int .i64 ec, .int .i64 et, .int .i64 ex, .int .i64 em, .int .i64 ek, .int .i64 ee, .bool false, .int .i64 jn, .int .i64 r, .int .i64 u, .bool b, .int .i64 c, .int .i64 c, .int .i64 x, .int .i64 nx, .int .i64 a, .int .i64 n] 39)) qj [.bool false, .int .i64 jn, .int .i64 r, .int .i64 u, .bool b, .int .i64 c, .int .i64 d, .int .i64 x] ∧ Bk (W5.alloc (.cells #[.int .i64 ec, .int .i64 et, .int .i64 ex, .int .i64 em, .int .i64 ek, .int .i64 ee, .bool false, .int .i64 jn, .int .i64 r, .int .i64 u, .bool b, .int .i64 c, .int .i64 c, .int .i64 x, .int .i64 nx, .int .i64 a, .int .i64 n] 39)) ql [.int .i64 ec, .int .i64 et, .int .i64 ex, .int .i64 em, .int .i64 ek, .int .i64 ee, .bool false, .int .i64 jn, .int .i64 r, .int .i64 u, .bool b, .int .i64 c, .int .i64 c, .int .i64 x, .int .i64 nx, .int .i64 a, .int .i64 n] ∧ Bk (W5.alloc (.cells #[.int .i64 ec, .int .i64 et, .int .i64 ex, .int .i64 em, .int .i64 ek, .int .i64 ee, .bool false, .int .i64 jn, .int .i64 r, .int .i64 u, .bool b, .int .i64 c, .int .i64 c, .int .i64 x, .int .i64 nx, .int .i64 a, .int .i64 n] 39)) w.heap.size [.int .i64 id, .int .i64 ec, .int .i64 et, .int .i64 ex, .int .i64 em, .int .i64 ek, .int .i64 ee, .int .i64 p, .int .i64 nx, .int .i64 a, .int .i64 n, .bool false, .int .i64 jn, .int .i64 r, .int .i64 u, .bool b, .int .i64 c, .int .i64 d, .int .i64 x, .int .i64 hn, .int .u64 hb, .bool kp] ∧ Below w.heap.size w (W5.alloc (.cells #[.int .i64 ec, .int .i64 et, .int .i64 ex, .int .i64 em, .int .i64 ek, .int .i64 ee, .bool false, .int .i64 jn, .int .i64 r, .int .i64 u, .bool b, .int .i64 c, .int .i64 c, .int .i64 x, .int .i64 nx, .int .i64 a, .int .i64 n] 39))) := ⟨Bk.new _ _ _, HG.out.1.later (below_b1 _ _), HG.out.2.1.later (below_b1 _ _), HG.out.2.2.1.later (below_b1 _ _), HG.out.2.2.2.alloc HG.out.2.2.2.size _⟩
    generalize W5.alloc (.cells #[.int .i64 ec, .int .i64 et, .int .i64 ex, .int .i64 em, .int .i64 ek, .int .i64 ee, .bool false, .int .i64 jn, .int .i64 r, .int .i64 u, .bool b, .int .i64 c, .int .i64 c, .int .i64 x, .int .i64 nx, .int .i64 a, .int .i64 n] 39) = W7 at *
    generalize W5.heap.size = q7 at *
    refine (lmay1_any ec et ex em ek ee false jn r u b c c x nx a n now _ _ HX.out.1).mono ?_
    rintro e w8 ⟨rfl, hbw⟩
    rw [HLM.out]
    have HY : Hid (Bk w8 qj [.bool false, .int .i64 jn, .int .i64 r, .int .i64 u, .bool b, .int .i64 c, .int .i64 d, .int .i64 x] ∧ Bk w8 ql [.int .i64 ec, .int .i64 et, .int .i64 ex, .int .i64 em, .int .i64 ek, .int .i64 ee, .bool false, .int .i64 jn, .int .i64 r, .int .i64 u, .bool b, .int .i64 c, .int .i64 c, .int .i64 x, .int .i64 nx, .int .i64 a, .int .i64 n] ∧ Bk w8 w.heap.size [.int .i64 id, .int .i64 ec, .int .i64 et, .int .i64 ex, .int .i64 em, .int .i64 ek, .int .i64 ee, .int .i64 p, .int .i64 nx, .int .i64 a, .int .i64 n, .bool false, .int .i64 jn, .int .i64 r, .int .i64 u, .bool b, .int .i64 c, .int .i64 d, .int .i64 x, .int .i64 hn, .int .u64 hb, .bool kp] ∧ Below w.heap.size w w8) := ⟨HX.out.2.1.later hbw, HX.out.2.2.1.later hbw, HX.out.2.2.2.1.later hbw, HX.out.2.2.2.2.trans (hbw.mono HX.out.2.2.2.2.size)⟩
    clear hbw HX HG hl1 hl2 hl3
    have hl1 := HY.out.1.lt
    have hl2 := HY.out.2.1.lt
    have hl3 := HY.out.2.2.1.lt
    have m14 : w8.cell? ⟨ql, 14, none⟩ = some (.int .i64 nx) := HY.out.2.1.cell rfl
    have m15 : w8.cell? ⟨ql, 15, none⟩ = some (.int .i64 a) := HY.out.2.1.cell rfl
    have m16 : w8.cell? ⟨ql, 16, none⟩ = some (.int .i64 n) := HY.out.2.1.cell rfl
    have e8 : w8.cell? ⟨w.heap.size, 8, none⟩ = some (.int .i64 nx) := HY.out.2.2.1.cell rfl
    have e9 : w8.cell? ⟨w.heap.size, 9, none⟩ = some (.int .i64 a) := HY.out.2.2.1.cell rfl
    have e10 : w8.cell? ⟨w.heap.size, 10, none⟩ = some (.int .i64 n) := HY.out.2.2.1.cell rfl
    go_wp2_with (first | (refine load_bkG rfl 25 _ rfl ql 6 [.int .i64 ec, .int .i64 et, .int .i64 ex, .int .i64 em, .int .i64 ek, .int .i64 ee, .bool false, .int .i64 jn, .int .i64 r, .int .i64 u, .bool b, .int .i64 c, .int .i64 c, .int .i64 x, .int .i64 nx, .int .i64 a, .int .i64 n] [.bool false, .int .i64 jn, .int .i64 r, .int .i64 u, .bool b, .int .i64 c, .int .i64 c, .int .i64 x] rfl HY.out.2.1 rfl _ Try.underlying25 rfl (by kernel_rfl) ?_) | (refine load_bkG rfl 25 _ rfl qj 0 [.bool false, .int .i64 jn, .int .i64 r, .int .i64 u, .bool b, .int .i64 c, .int .i64 d, .int .i64 x] [.bool false, .int .i64 jn, .int .i64 r, .int .i64 u, .bool b, .int .i64 c, .int .i64 d, .int .i64 x] rfl HY.out.1 rfl _ Try.underlying25 rfl (by kernel_rfl) ?_) | (refine load_bkG rfl 23 _ rfl ql 0 [.int .i64 ec, .int .i64 et, .int .i64 ex, .int .i64 em, .int .i64 ek, .int .i64 ee, .bool false, .int .i64 jn, .int .i64 r, .int .i64 u, .bool b, .int .i64 c, .int .i64 c, .int .i64 x, .int .i64 nx, .int .i64 a, .int .i64 n] [.int .i64 ec, .int .i64 et, .int .i64 ex, .int .i64 em, .int .i64 ek, .int .i64 ee] rfl HY.out.2.1 rfl _ Try.underlying23 rfl (by kernel_rfl) ?_) | (refine load_bkG rfl 23 _ rfl w.heap.size 1 [.int .i64 id, .int .i64 ec, .int .i64 et, .int .i64 ex, .int .i64 em, .int .i64 ek, .int .i64 ee, .int .i64 p, .int .i64 nx, .int .i64 a, .int .i64 n, .bool false, .int .i64 jn, .int .i64 r, .int .i64 u, .bool b, .int .i64 c, .int .i64 d, .int .i64 x, .int .i64 hn, .int .u64 hb, .bool kp] [.int .i64 ec, .int .i64 et, .int .i64 ex, .int .i64 em, .int .i64 ek, .int .i64 ee] rfl HY.out.2.2.1 rfl _ Try.underlying23 rfl (by kernel_rfl) ?_))
    go_ret
    exact ⟨by first | rfl | simp, HY.out.2.2.2⟩
end Go.Proofs.Ythbppojglhimnaa
