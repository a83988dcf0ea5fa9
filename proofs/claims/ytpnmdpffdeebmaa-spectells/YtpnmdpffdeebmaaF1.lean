/- What the statement SpecLess comes to. -/
import Derived.Test.YtpnmdpffdeebmaaE13
import Derived.Deep.RegionHeld3
namespace Go.Proofs.Ytpnmdpffdeebmaa
open Go.RowKit

theorem bstep {w5 w1 w2 : World} (hb : Below w1.heap.size w1 w2) (h : Below w5.heap.size w5 w1) : Below w5.heap.size w5 w2 := h.trans (hb.mono h.size)
theorem sBel {A : Prop} {w5 w1 : World} (h : A ∧ Below w5.heap.size w5 w1) : Below w5.heap.size w5 w1 := h.2

theorem less_facts {c t x m k e n : Int} (h : maySp ⟨c, t, x, m, k, e⟩ = true) (n0 : 0 ≤ n) (n1 : n ≤ 48) :
    maySp ⟨c - n, t, x, m, k, e⟩ = decide (1 ≤ c - n) ∧ maySp ⟨c, t, x, m - n, k, e⟩ = decide (1 ≤ m - n) ∧ maySp ⟨t + 1 + n, t, x, m, k, e⟩ = false ∧ (1 ≤ c ∧ c ≤ 6) ∧ (1 ≤ t ∧ t ≤ 48) ∧ (1 ≤ m ∧ m ≤ 6) := by
  rw [maySp_eq] at h
  have h' := of_decide_eq_true h
  simp only at h'
  refine ⟨?_, ?_, ?_, by omega, by omega, by omega⟩
  · rw [maySp_eq]; exact decide_eq_decide.2 (by simp only; omega)
  · rw [maySp_eq]; exact decide_eq_decide.2 (by simp only; omega)
  · rw [maySp_eq]; exact decide_eq_false (by simp only; omega)

set_option maxHeartbeats 1000000 in
set_option maxRecDepth 100000 in
theorem less_no (c t x m k e n : Int) (w : World) (h : maySp ⟨c, t, x, m, k, e⟩ = false) :
    Calls Try.prog 7 #[.agg #[.int .i64 c, .int .i64 t, .int .i64 x, .int .i64 m, .int .i64 k, .int .i64 e], .int .i64 n] w fun r w' => r = .returned (.bool true) ∧ Below w.heap.size w w' := by
  have hS : Six (w.alloc (.cells #[.int .i64 c, .int .i64 t, .int .i64 x, .int .i64 m, .int .i64 k, .int .i64 e] 23)) w.heap.size (Sp.at ⟨c, t, x, m, k, e⟩) := Six.new w ⟨c, t, x, m, k, e⟩
  have H : Hid (maySp ⟨c, t, x, m, k, e⟩ = false) := h
  clear h
  go_enter Try.func7, Try.ntmps7
  go_wp2_with fail
  refine (awake5_any _).mono ?_
  rintro r w1 ⟨rfl, hb1⟩
  have hS1 := hS.later hb1
  replace hb1 : Below w.heap.size w w1 := ((Below.refl _ _).alloc (by simp) _).trans (hb1.mono (by simp))
  have s1 := hS1.lt
  obtain ⟨a0, a1, a2, a3, a4, a5, b0, b1, b2, b3, b4, b5⟩ := hS1.sp
  clear hS
  go_wp2_with fail
  refine (spmay_any c t x m k e _).mono ?_
  rintro r w2 ⟨rfl, hb2⟩
  have hS2 := hS1.later hb2
  replace hb2 := hb1.trans (hb2.mono hb1.size)
  clear hS1 hb1 s1 a0 a1 a2 a3 a4 a5 b0 b1 b2 b3 b4 b5
  rw [H.out]
  go_wp2_with fail
  go_ret
  exact ⟨rfl, hb2⟩

set_option maxHeartbeats 1000000 in
set_option maxRecDepth 100000 in
theorem less_out (c t x m k e n : Int) (w : World) (h : maySp ⟨c, t, x, m, k, e⟩ = true) (hn : ¬ (0 ≤ n ∧ n ≤ 48)) :
    Calls Try.prog 7 #[.agg #[.int .i64 c, .int .i64 t, .int .i64 x, .int .i64 m, .int .i64 k, .int .i64 e], .int .i64 n] w fun r w' => r = .returned (.bool true) ∧ Below w.heap.size w w' := by
  have hS : Six (w.alloc (.cells #[.int .i64 c, .int .i64 t, .int .i64 x, .int .i64 m, .int .i64 k, .int .i64 e] 23)) w.heap.size (Sp.at ⟨c, t, x, m, k, e⟩) := Six.new w ⟨c, t, x, m, k, e⟩
  have H : Hid (maySp ⟨c, t, x, m, k, e⟩ = true) := h
  clear h
  by_cases n0 : 0 ≤ n
  · have n1 : ¬ n ≤ 48 := by omega
    clear hn
    go_enter Try.func7, Try.ntmps7
    go_wp2_with fail
    refine (awake5_any _).mono ?_
    rintro r w1 ⟨rfl, hb1⟩
    have hS1 := hS.later hb1
    replace hb1 : Below w.heap.size w w1 := ((Below.refl _ _).alloc (by simp) _).trans (hb1.mono (by simp))
    have s1 := hS1.lt
    obtain ⟨a0, a1, a2, a3, a4, a5, b0, b1, b2, b3, b4, b5⟩ := hS1.sp
    clear hS
    go_wp2_with fail
    refine (spmay_any c t x m k e _).mono ?_
    rintro r w2 ⟨rfl, hb2⟩
    have hS2 := hS1.later hb2
    replace hb2 := hb1.trans (hb2.mono hb1.size)
    clear hS1 hb1 s1 a0 a1 a2 a3 a4 a5 b0 b1 b2 b3 b4 b5
    rw [H.out]
    go_wp2_with fail
    go_ret
    exact ⟨rfl, hb2⟩
  · clear hn
    go_enter Try.func7, Try.ntmps7
    go_wp2_with fail
    refine (awake5_any _).mono ?_
    rintro r w1 ⟨rfl, hb1⟩
    have hS1 := hS.later hb1
    replace hb1 : Below w.heap.size w w1 := ((Below.refl _ _).alloc (by simp) _).trans (hb1.mono (by simp))
    have s1 := hS1.lt
    obtain ⟨a0, a1, a2, a3, a4, a5, b0, b1, b2, b3, b4, b5⟩ := hS1.sp
    clear hS
    go_wp2_with fail
    refine (spmay_any c t x m k e _).mono ?_
    rintro r w2 ⟨rfl, hb2⟩
    have hS2 := hS1.later hb2
    replace hb2 := hb1.trans (hb2.mono hb1.size)
    clear hS1 hb1 s1 a0 a1 a2 a3 a4 a5 b0 b1 b2 b3 b4 b5
    rw [H.out]
    go_wp2_with fail
    go_ret
    exact ⟨rfl, hb2⟩

set_option maxHeartbeats 1000000 in
set_option maxRecDepth 100000 in
theorem less_in (c t x m k e n : Int) (w : World) (h : maySp ⟨c, t, x, m, k, e⟩ = true) (n0 : 0 ≤ n) (n1 : n ≤ 48) :
    Calls Try.prog 7 #[.agg #[.int .i64 c, .int .i64 t, .int .i64 x, .int .i64 m, .int .i64 k, .int .i64 e], .int .i64 n] w fun r w' => r = .returned (.bool true) ∧ Below w.heap.size w w' := by
  have hS : Six (w.alloc (.cells #[.int .i64 c, .int .i64 t, .int .i64 x, .int .i64 m, .int .i64 k, .int .i64 e] 23)) w.heap.size (Sp.at ⟨c, t, x, m, k, e⟩) := Six.new w ⟨c, t, x, m, k, e⟩
  obtain ⟨f1, f2, f3, ⟨l1, u1⟩, ⟨l2, u2⟩, ⟨l3, u3⟩⟩ := less_facts h n0 n1
  have H : Hid (maySp ⟨c, t, x, m, k, e⟩ = true) := h
  have HF : Hid (maySp ⟨c - n, t, x, m, k, e⟩ = decide (1 ≤ c - n) ∧ maySp ⟨c, t, x, m - n, k, e⟩ = decide (1 ≤ m - n) ∧ maySp ⟨t + 1 + n, t, x, m, k, e⟩ = false) := ⟨f1, f2, f3⟩
  clear h f1 f2 f3
  have hn : 0 ≤ n ∧ n ≤ 48 := ⟨n0, n1⟩
  go_enter Try.func7, Try.ntmps7
  go_wp2_with fail
  refine (awake5_any _).mono ?_
  rintro r w1 ⟨rfl, hb1⟩
  have hS1 := hS.later hb1
  replace hb1 : Below w.heap.size w w1 := ((Below.refl _ _).alloc (by simp) _).trans (hb1.mono (by simp))
  have s1 := hS1.lt
  obtain ⟨a0, a1, a2, a3, a4, a5, b0, b1, b2, b3, b4, b5⟩ := hS1.sp
  clear hS
  go_wp2_with fail
  refine (spmay_any c t x m k e _).mono ?_
  rintro r w2 ⟨rfl, hb2⟩
  have hS2 := hS1.later hb2
  replace hb2 := hb1.trans (hb2.mono hb1.size)
  clear hS1 hb1 s1 a0 a1 a2 a3 a4 a5 b0 b1 b2 b3 b4 b5
  rw [H.out]
  have s2 := hS2.lt
  obtain ⟨a0, a1, a2, a3, a4, a5, b0, b1, b2, b3, b4, b5⟩ := hS2.sp
  clear b0 b1 b2 b3 b4 b5
  have s3 : w.heap.size < w2.heap.size + 1 := by omega
  have s4 : w.heap.size < w2.heap.size + 1 + 1 := by omega
  go_wp2_with fail
  have k1 : Six (((w2.alloc (.cells #[.int .i64 (c - n), .int .i64 t, .int .i64 x, .int .i64 m, .int .i64 k, .int .i64 e] 23)).alloc (.cells #[.int .i64 c, .int .i64 t, .int .i64 x, .int .i64 (m - n), .int .i64 k, .int .i64 e] 23)).alloc (.cells #[.int .i64 (t + 1 + n), .int .i64 t, .int .i64 x, .int .i64 m, .int .i64 k, .int .i64 e] 23)) (w2.heap.size) (Sp.at ⟨(c - n), t, x, m, k, e⟩) := (Six.new w2 ⟨(c - n), t, x, m, k, e⟩).later (((Below.refl _ _).alloc (Nat.le_refl _) _).alloc (by simp) _)
  have k2 : Six (((w2.alloc (.cells #[.int .i64 (c - n), .int .i64 t, .int .i64 x, .int .i64 m, .int .i64 k, .int .i64 e] 23)).alloc (.cells #[.int .i64 c, .int .i64 t, .int .i64 x, .int .i64 (m - n), .int .i64 k, .int .i64 e] 23)).alloc (.cells #[.int .i64 (t + 1 + n), .int .i64 t, .int .i64 x, .int .i64 m, .int .i64 k, .int .i64 e] 23)) (w2.heap.size + 1) (Sp.at ⟨c, t, x, (m - n), k, e⟩) := by have := (Six.new (w2.alloc (.cells #[.int .i64 (c - n), .int .i64 t, .int .i64 x, .int .i64 m, .int .i64 k, .int .i64 e] 23)) ⟨c, t, x, (m - n), k, e⟩).later ((Below.refl _ _).alloc (Nat.le_refl _) (.cells #[.int .i64 (t + 1 + n), .int .i64 t, .int .i64 x, .int .i64 m, .int .i64 k, .int .i64 e] 23)); simp only [World.size_alloc] at this; exact this
  have k3 : Six (((w2.alloc (.cells #[.int .i64 (c - n), .int .i64 t, .int .i64 x, .int .i64 m, .int .i64 k, .int .i64 e] 23)).alloc (.cells #[.int .i64 c, .int .i64 t, .int .i64 x, .int .i64 (m - n), .int .i64 k, .int .i64 e] 23)).alloc (.cells #[.int .i64 (t + 1 + n), .int .i64 t, .int .i64 x, .int .i64 m, .int .i64 k, .int .i64 e] 23)) (w2.heap.size + 1 + 1) (Sp.at ⟨(t + 1 + n), t, x, m, k, e⟩) := by have := Six.new ((w2.alloc (.cells #[.int .i64 (c - n), .int .i64 t, .int .i64 x, .int .i64 m, .int .i64 k, .int .i64 e] 23)).alloc (.cells #[.int .i64 c, .int .i64 t, .int .i64 x, .int .i64 (m - n), .int .i64 k, .int .i64 e] 23)) ⟨(t + 1 + n), t, x, m, k, e⟩; simp only [World.size_alloc] at this; exact this
  have hb3 : Below w.heap.size w (((w2.alloc (.cells #[.int .i64 (c - n), .int .i64 t, .int .i64 x, .int .i64 m, .int .i64 k, .int .i64 e] 23)).alloc (.cells #[.int .i64 c, .int .i64 t, .int .i64 x, .int .i64 (m - n), .int .i64 k, .int .i64 e] 23)).alloc (.cells #[.int .i64 (t + 1 + n), .int .i64 t, .int .i64 x, .int .i64 m, .int .i64 k, .int .i64 e] 23)) := ((hb2.alloc (by omega) _).alloc (by simp; omega) _).alloc (by simp; omega) _
  generalize (((w2.alloc (.cells #[.int .i64 (c - n), .int .i64 t, .int .i64 x, .int .i64 m, .int .i64 k, .int .i64 e] 23)).alloc (.cells #[.int .i64 c, .int .i64 t, .int .i64 x, .int .i64 (m - n), .int .i64 k, .int .i64 e] 23)).alloc (.cells #[.int .i64 (t + 1 + n), .int .i64 t, .int .i64 x, .int .i64 m, .int .i64 k, .int .i64 e] 23)) = W at *
  have MK : Hid (∀ w' : World, Below W.heap.size W w' → (w'.cell? ⟨w2.heap.size, 0, none⟩ = some (.int .i64 (c - n)) ∧ w'.cell? ⟨w2.heap.size, 1, none⟩ = some (.int .i64 t) ∧ w'.cell? ⟨w2.heap.size, 2, none⟩ = some (.int .i64 x) ∧ w'.cell? ⟨w2.heap.size, 3, none⟩ = some (.int .i64 m) ∧ w'.cell? ⟨w2.heap.size, 4, none⟩ = some (.int .i64 k) ∧ w'.cell? ⟨w2.heap.size, 5, none⟩ = some (.int .i64 e) ∧ w'.cell? ⟨w2.heap.size + 1, 0, none⟩ = some (.int .i64 c) ∧ w'.cell? ⟨w2.heap.size + 1, 1, none⟩ = some (.int .i64 t) ∧ w'.cell? ⟨w2.heap.size + 1, 2, none⟩ = some (.int .i64 x) ∧ w'.cell? ⟨w2.heap.size + 1, 3, none⟩ = some (.int .i64 (m - n)) ∧ w'.cell? ⟨w2.heap.size + 1, 4, none⟩ = some (.int .i64 k) ∧ w'.cell? ⟨w2.heap.size + 1, 5, none⟩ = some (.int .i64 e) ∧ w'.cell? ⟨w2.heap.size + 1 + 1, 0, none⟩ = some (.int .i64 (t + 1 + n)) ∧ w'.cell? ⟨w2.heap.size + 1 + 1, 1, none⟩ = some (.int .i64 t) ∧ w'.cell? ⟨w2.heap.size + 1 + 1, 2, none⟩ = some (.int .i64 x) ∧ w'.cell? ⟨w2.heap.size + 1 + 1, 3, none⟩ = some (.int .i64 m) ∧ w'.cell? ⟨w2.heap.size + 1 + 1, 4, none⟩ = some (.int .i64 k) ∧ w'.cell? ⟨w2.heap.size + 1 + 1, 5, none⟩ = some (.int .i64 e)) ∧ Below W.heap.size W w') := by
    intro w' hb
    obtain ⟨x0, x1, x2, x3, x4, x5, _⟩ := (k1.later hb).sp
    obtain ⟨y0, y1, y2, y3, y4, y5, _⟩ := (k2.later hb).sp
    obtain ⟨z0, z1, z2, z3, z4, z5, _⟩ := (k3.later hb).sp
    exact ⟨⟨x0, x1, x2, x3, x4, x5, y0, y1, y2, y3, y4, y5, z0, z1, z2, z3, z4, z5⟩, hb⟩
  clear k1 k2 k3 a0 a1 a2 a3 a4 a5 hS2 hb2
  have HE : Hid (Below w.heap.size w W) := hb3
  clear hb3
  have s5 := HE.out.size
  have HC : Hid (maySp ⟨(t + 1 + n), t, x, m, k, e⟩ = false) := HF.out.2.2
  by_cases p1 : 1 ≤ c - n <;> by_cases p2 : 1 ≤ m - n
  · have HA : Hid (maySp ⟨(c - n), t, x, m, k, e⟩ = true) := HF.out.1.trans (decide_eq_true p1)
    have HB : Hid (maySp ⟨c, t, x, (m - n), k, e⟩ = true) := HF.out.2.1.trans (decide_eq_true p2)
    have d1 : decide (1 ≤ c - n) = true := decide_eq_true p1
    have d2 : decide (1 ≤ m - n) = true := decide_eq_true p2
    clear p1 p2
    go_region_held3 (fun w' => (w'.cell? ⟨w2.heap.size, 0, none⟩ = some (.int .i64 (c - n)) ∧ w'.cell? ⟨w2.heap.size, 1, none⟩ = some (.int .i64 t) ∧ w'.cell? ⟨w2.heap.size, 2, none⟩ = some (.int .i64 x) ∧ w'.cell? ⟨w2.heap.size, 3, none⟩ = some (.int .i64 m) ∧ w'.cell? ⟨w2.heap.size, 4, none⟩ = some (.int .i64 k) ∧ w'.cell? ⟨w2.heap.size, 5, none⟩ = some (.int .i64 e) ∧ w'.cell? ⟨w2.heap.size + 1, 0, none⟩ = some (.int .i64 c) ∧ w'.cell? ⟨w2.heap.size + 1, 1, none⟩ = some (.int .i64 t) ∧ w'.cell? ⟨w2.heap.size + 1, 2, none⟩ = some (.int .i64 x) ∧ w'.cell? ⟨w2.heap.size + 1, 3, none⟩ = some (.int .i64 (m - n)) ∧ w'.cell? ⟨w2.heap.size + 1, 4, none⟩ = some (.int .i64 k) ∧ w'.cell? ⟨w2.heap.size + 1, 5, none⟩ = some (.int .i64 e) ∧ w'.cell? ⟨w2.heap.size + 1 + 1, 0, none⟩ = some (.int .i64 (t + 1 + n)) ∧ w'.cell? ⟨w2.heap.size + 1 + 1, 1, none⟩ = some (.int .i64 t) ∧ w'.cell? ⟨w2.heap.size + 1 + 1, 2, none⟩ = some (.int .i64 x) ∧ w'.cell? ⟨w2.heap.size + 1 + 1, 3, none⟩ = some (.int .i64 m) ∧ w'.cell? ⟨w2.heap.size + 1 + 1, 4, none⟩ = some (.int .i64 k) ∧ w'.cell? ⟨w2.heap.size + 1 + 1, 5, none⟩ = some (.int .i64 e)) ∧ Below W.heap.size W w')
      (first | exact MK.out _ (bstep (by assumption) (sBel (by assumption))) | exact MK.out _ (Below.refl _ _).drew)
      (first | (go_at_call 15; refine (spmay_any _ _ _ _ _ _ _).mono ?_; rintro r w3 ⟨rfl, hb3⟩; first | rw [HA.out] | rw [HB.out] | rw [HC.out]))
    all_goals
      go_wp2
      go_ret
      exact ⟨rfl, HE.out.trans ((sBel (by assumption)).mono s5)⟩
  · have HA : Hid (maySp ⟨(c - n), t, x, m, k, e⟩ = true) := HF.out.1.trans (decide_eq_true p1)
    have HB : Hid (maySp ⟨c, t, x, (m - n), k, e⟩ = false) := HF.out.2.1.trans (decide_eq_false p2)
    have d1 : decide (1 ≤ c - n) = true := decide_eq_true p1
    have d2 : decide (1 ≤ m - n) = false := decide_eq_false p2
    clear p1 p2
    go_region_held3 (fun w' => (w'.cell? ⟨w2.heap.size, 0, none⟩ = some (.int .i64 (c - n)) ∧ w'.cell? ⟨w2.heap.size, 1, none⟩ = some (.int .i64 t) ∧ w'.cell? ⟨w2.heap.size, 2, none⟩ = some (.int .i64 x) ∧ w'.cell? ⟨w2.heap.size, 3, none⟩ = some (.int .i64 m) ∧ w'.cell? ⟨w2.heap.size, 4, none⟩ = some (.int .i64 k) ∧ w'.cell? ⟨w2.heap.size, 5, none⟩ = some (.int .i64 e) ∧ w'.cell? ⟨w2.heap.size + 1, 0, none⟩ = some (.int .i64 c) ∧ w'.cell? ⟨w2.heap.size + 1, 1, none⟩ = some (.int .i64 t) ∧ w'.cell? ⟨w2.heap.size + 1, 2, none⟩ = some (.int .i64 x) ∧ w'.cell? ⟨w2.heap.size + 1, 3, none⟩ = some (.int .i64 (m - n)) ∧ w'.cell? ⟨w2.heap.size + 1, 4, none⟩ = some (.int .i64 k) ∧ w'.cell? ⟨w2.heap.size + 1, 5, none⟩ = some (.int .i64 e) ∧ w'.cell? ⟨w2.heap.size + 1 + 1, 0, none⟩ = some (.int .i64 (t + 1 + n)) ∧ w'.cell? ⟨w2.heap.size + 1 + 1, 1, none⟩ = some (.int .i64 t) ∧ w'.cell? ⟨w2.heap.size + 1 + 1, 2, none⟩ = some (.int .i64 x) ∧ w'.cell? ⟨w2.heap.size + 1 + 1, 3, none⟩ = some (.int .i64 m) ∧ w'.cell? ⟨w2.heap.size + 1 + 1, 4, none⟩ = some (.int .i64 k) ∧ w'.cell? ⟨w2.heap.size + 1 + 1, 5, none⟩ = some (.int .i64 e)) ∧ Below W.heap.size W w')
      (first | exact MK.out _ (bstep (by assumption) (sBel (by assumption))) | exact MK.out _ (Below.refl _ _).drew)
      (first | (go_at_call 15; refine (spmay_any _ _ _ _ _ _ _).mono ?_; rintro r w3 ⟨rfl, hb3⟩; first | rw [HA.out] | rw [HB.out] | rw [HC.out]))
    all_goals
      go_wp2
      go_ret
      exact ⟨rfl, HE.out.trans ((sBel (by assumption)).mono s5)⟩
  · have HA : Hid (maySp ⟨(c - n), t, x, m, k, e⟩ = false) := HF.out.1.trans (decide_eq_false p1)
    have HB : Hid (maySp ⟨c, t, x, (m - n), k, e⟩ = true) := HF.out.2.1.trans (decide_eq_true p2)
    have d1 : decide (1 ≤ c - n) = false := decide_eq_false p1
    have d2 : decide (1 ≤ m - n) = true := decide_eq_true p2
    clear p1 p2
    go_region_held3 (fun w' => (w'.cell? ⟨w2.heap.size, 0, none⟩ = some (.int .i64 (c - n)) ∧ w'.cell? ⟨w2.heap.size, 1, none⟩ = some (.int .i64 t) ∧ w'.cell? ⟨w2.heap.size, 2, none⟩ = some (.int .i64 x) ∧ w'.cell? ⟨w2.heap.size, 3, none⟩ = some (.int .i64 m) ∧ w'.cell? ⟨w2.heap.size, 4, none⟩ = some (.int .i64 k) ∧ w'.cell? ⟨w2.heap.size, 5, none⟩ = some (.int .i64 e) ∧ w'.cell? ⟨w2.heap.size + 1, 0, none⟩ = some (.int .i64 c) ∧ w'.cell? ⟨w2.heap.size + 1, 1, none⟩ = some (.int .i64 t) ∧ w'.cell? ⟨w2.heap.size + 1, 2, none⟩ = some (.int .i64 x) ∧ w'.cell? ⟨w2.heap.size + 1, 3, none⟩ = some (.int .i64 (m - n)) ∧ w'.cell? ⟨w2.heap.size + 1, 4, none⟩ = some (.int .i64 k) ∧ w'.cell? ⟨w2.heap.size + 1, 5, none⟩ = some (.int .i64 e) ∧ w'.cell? ⟨w2.heap.size + 1 + 1, 0, none⟩ = some (.int .i64 (t + 1 + n)) ∧ w'.cell? ⟨w2.heap.size + 1 + 1, 1, none⟩ = some (.int .i64 t) ∧ w'.cell? ⟨w2.heap.size + 1 + 1, 2, none⟩ = some (.int .i64 x) ∧ w'.cell? ⟨w2.heap.size + 1 + 1, 3, none⟩ = some (.int .i64 m) ∧ w'.cell? ⟨w2.heap.size + 1 + 1, 4, none⟩ = some (.int .i64 k) ∧ w'.cell? ⟨w2.heap.size + 1 + 1, 5, none⟩ = some (.int .i64 e)) ∧ Below W.heap.size W w')
      (first | exact MK.out _ (bstep (by assumption) (sBel (by assumption))) | exact MK.out _ (Below.refl _ _).drew)
      (first | (go_at_call 15; refine (spmay_any _ _ _ _ _ _ _).mono ?_; rintro r w3 ⟨rfl, hb3⟩; first | rw [HA.out] | rw [HB.out] | rw [HC.out]))
    all_goals
      go_wp2
      go_ret
      exact ⟨rfl, HE.out.trans ((sBel (by assumption)).mono s5)⟩
  · have HA : Hid (maySp ⟨(c - n), t, x, m, k, e⟩ = false) := HF.out.1.trans (decide_eq_false p1)
    have HB : Hid (maySp ⟨c, t, x, (m - n), k, e⟩ = false) := HF.out.2.1.trans (decide_eq_false p2)
    have d1 : decide (1 ≤ c - n) = false := decide_eq_false p1
    have d2 : decide (1 ≤ m - n) = false := decide_eq_false p2
    clear p1 p2
    go_region_held3 (fun w' => (w'.cell? ⟨w2.heap.size, 0, none⟩ = some (.int .i64 (c - n)) ∧ w'.cell? ⟨w2.heap.size, 1, none⟩ = some (.int .i64 t) ∧ w'.cell? ⟨w2.heap.size, 2, none⟩ = some (.int .i64 x) ∧ w'.cell? ⟨w2.heap.size, 3, none⟩ = some (.int .i64 m) ∧ w'.cell? ⟨w2.heap.size, 4, none⟩ = some (.int .i64 k) ∧ w'.cell? ⟨w2.heap.size, 5, none⟩ = some (.int .i64 e) ∧ w'.cell? ⟨w2.heap.size + 1, 0, none⟩ = some (.int .i64 c) ∧ w'.cell? ⟨w2.heap.size + 1, 1, none⟩ = some (.int .i64 t) ∧ w'.cell? ⟨w2.heap.size + 1, 2, none⟩ = some (.int .i64 x) ∧ w'.cell? ⟨w2.heap.size + 1, 3, none⟩ = some (.int .i64 (m - n)) ∧ w'.cell? ⟨w2.heap.size + 1, 4, none⟩ = some (.int .i64 k) ∧ w'.cell? ⟨w2.heap.size + 1, 5, none⟩ = some (.int .i64 e) ∧ w'.cell? ⟨w2.heap.size + 1 + 1, 0, none⟩ = some (.int .i64 (t + 1 + n)) ∧ w'.cell? ⟨w2.heap.size + 1 + 1, 1, none⟩ = some (.int .i64 t) ∧ w'.cell? ⟨w2.heap.size + 1 + 1, 2, none⟩ = some (.int .i64 x) ∧ w'.cell? ⟨w2.heap.size + 1 + 1, 3, none⟩ = some (.int .i64 m) ∧ w'.cell? ⟨w2.heap.size + 1 + 1, 4, none⟩ = some (.int .i64 k) ∧ w'.cell? ⟨w2.heap.size + 1 + 1, 5, none⟩ = some (.int .i64 e)) ∧ Below W.heap.size W w')
      (first | exact MK.out _ (bstep (by assumption) (sBel (by assumption))) | exact MK.out _ (Below.refl _ _).drew)
      (first | (go_at_call 15; refine (spmay_any _ _ _ _ _ _ _).mono ?_; rintro r w3 ⟨rfl, hb3⟩; first | rw [HA.out] | rw [HB.out] | rw [HC.out]))
    all_goals
      go_wp2
      go_ret
      exact ⟨rfl, HE.out.trans ((sBel (by assumption)).mono s5)⟩

theorem law_less (c t x m k e n : Int) (w : World) :
    Calls Try.prog 7 #[.agg #[.int .i64 c, .int .i64 t, .int .i64 x, .int .i64 m, .int .i64 k, .int .i64 e], .int .i64 n] w fun r w' => r = .returned (.bool true) ∧ Below w.heap.size w w' := by
  cases h : maySp ⟨c, t, x, m, k, e⟩
  · exact less_no c t x m k e n w h
  · by_cases hn : 0 ≤ n ∧ n ≤ 48
    · exact less_in c t x m k e n w h hn.1 hn.2
    · exact less_out c t x m k e n w h hn
end Go.Proofs.Ytpnmdpffdeebmaa
