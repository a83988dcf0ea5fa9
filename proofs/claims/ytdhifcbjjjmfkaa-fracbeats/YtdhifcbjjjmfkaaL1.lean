/- The walks of the statements FracCeil, FracRoot and FracBeats: each returns true, and writes nothing that was there. -/
import Derived.Test.YtdhifcbjjjmfkaaW8
namespace Go.Proofs.Ytdhifcbjjjmfkaa
open Go.RowKit

set_option maxHeartbeats 1000000 in
set_option maxRecDepth 100000 in
theorem law_ceil (a b : Int) (w : World) :
    Calls Try.prog 4 #[.int .i64 a, .int .i64 b] w fun e w' => e = .returned (.bool true) ∧ Below w.heap.size w w' := by
  by_cases h : okq a b
  · obtain ⟨ha0, ha, hb0, hb⟩ := h
    have q0 : 0 ≤ a / b := Int.ediv_nonneg ha0 (by omega)
    have q1 : a / b ≤ a := Int.ediv_le_self _ ha0
    have m0 : 0 ≤ a / b * b := Int.mul_nonneg q0 (by omega)
    have m1 : a / b * b ≤ a := Int.ediv_mul_le a (by omega)
    have m2 : a - a / b * b < b := by have := Int.ediv_mul_add_emod a b; have := Int.emod_lt_of_pos a (show 0 < b by omega); omega
    by_cases hl : a / b * b < a
    · have HC : Hid (cl a b = a / b + 1) := cl_mul hl
      have e1 : (a / b * b == a) = false := by simp; omega
      have e2 : (a / b + 1 == a / b) = false := by simp; omega
      go_enter Try.func4, Try.ntmps4
      go_wp2_with fail
      refine (awake_any _).mono ?_
      rintro e w1 ⟨rfl, hb1⟩
      go_wp2_with fail
      refine (floor_yes a b _ ha0 ha hb0 hb).mono ?_
      rintro e w2 ⟨rfl, hb2⟩
      go_wp2_with fail
      refine (ceil_yes a b _ ha0 ha hb0 hb).mono ?_
      rintro e w3 ⟨rfl, hb3⟩
      rw [HC.out]
      have s1 := hb1.size
      have s2 := hb2.size
      go_wp2
      go_ret
      exact ⟨ret_b (decide_eq_true (by omega)), hb1.trans ((hb2.mono (by omega)).trans (hb3.mono (by omega)))⟩
    · have HC : Hid (cl a b = a / b) := cl_mul0 hb0 hl
      have e1 : (a / b * b == a) = true := by simp; omega
      go_enter Try.func4, Try.ntmps4
      go_wp2_with fail
      refine (awake_any _).mono ?_
      rintro e w1 ⟨rfl, hb1⟩
      go_wp2_with fail
      refine (floor_yes a b _ ha0 ha hb0 hb).mono ?_
      rintro e w2 ⟨rfl, hb2⟩
      go_wp2_with fail
      refine (ceil_yes a b _ ha0 ha hb0 hb).mono ?_
      rintro e w3 ⟨rfl, hb3⟩
      rw [HC.out]
      have s1 := hb1.size
      have s2 := hb2.size
      go_wp2
      go_ret
      exact ⟨rfl, hb1.trans ((hb2.mono (by omega)).trans (hb3.mono (by omega)))⟩
  · have H : Hid (¬ okq a b) := h
    clear h
    go_enter Try.func4, Try.ntmps4
    go_wp2_with fail
    refine (awake_any _).mono ?_
    rintro e w1 ⟨rfl, hb1⟩
    go_wp2_with fail
    refine (floor_no a b _ H.out).mono ?_
    rintro e w2 ⟨rfl, hb2⟩
    go_wp2_with fail
    refine (ceil_no a b _ H.out).mono ?_
    rintro e w3 ⟨rfl, hb3⟩
    have s1 := hb1.size
    have s2 := hb2.size
    go_wp2
    go_ret
    exact ⟨rfl, hb1.trans ((hb2.mono (by omega)).trans (hb3.mono (by omega)))⟩

theorem root_top {n r : Int} (hn : n ≤ 4611686018427387904) (h : IsRoot n r) : r ≤ 2147483648 := by
  obtain ⟨r0, r1, _⟩ := h
  by_cases c : r ≤ 2147483648
  · exact c
  · have := big_sq (x := r) (n := n) (by omega) hn
    omega

theorem succ_sq {r : Int} (h0 : 0 ≤ r) (h : r ≤ 2147483648) : 0 ≤ (r + 1) * (r + 1) ∧ (r + 1) * (r + 1) ≤ 4611686022722355201 :=
  ⟨Int.mul_nonneg (by omega) (by omega), by have := sq_le (x := r + 1) (y := 2147483649) (by omega) (by omega); omega⟩

set_option maxHeartbeats 1000000 in
set_option maxRecDepth 100000 in
theorem law_root (n : Int) (w : World) :
    Calls Try.prog 6 #[.int .i64 n] w fun e w' => e = .returned (.bool true) ∧ Below w.heap.size w w' := by
  by_cases h : 0 ≤ n ∧ n ≤ 4611686018427387904
  · obtain ⟨h0, h1⟩ := h
    go_enter Try.func6, Try.ntmps6
    go_wp2_with fail
    refine (awake_any _).mono ?_
    rintro e w1 ⟨rfl, hb1⟩
    go_wp2_with fail
    refine (root_yes n _ h0 h1).mono ?_
    rintro e w2 ⟨⟨r, rfl, hr⟩, hb2⟩
    have r3 := root_top h1 hr
    obtain ⟨r0, r1, r2⟩ := hr
    have r4 := Int.mul_nonneg r0 r0
    obtain ⟨r5, r6⟩ := succ_sq r0 r3
    have s1 := hb1.size
    go_wp2
    go_ret
    exact ⟨rfl, hb1.trans (hb2.mono (by omega))⟩
  · have H : Hid (¬ (0 ≤ n ∧ n ≤ 4611686018427387904)) := h
    by_cases c : n < 0
    · clear h
      go_enter Try.func6, Try.ntmps6
      go_wp2_with fail
      refine (awake_any _).mono ?_
      rintro e w1 ⟨rfl, hb1⟩
      go_wp2_with fail
      refine (root_no n _ H.out).mono ?_
      rintro e w2 ⟨rfl, hb2⟩
      have s1 := hb1.size
      go_wp2
      go_ret
      exact ⟨rfl, hb1.trans (hb2.mono (by omega))⟩
    · have c1 : 4611686018427387904 < n := by omega
      clear h
      go_enter Try.func6, Try.ntmps6
      go_wp2_with fail
      refine (awake_any _).mono ?_
      rintro e w1 ⟨rfl, hb1⟩
      go_wp2_with fail
      refine (root_no n _ H.out).mono ?_
      rintro e w2 ⟨rfl, hb2⟩
      have s1 := hb1.size
      go_wp2
      go_ret
      exact ⟨rfl, hb1.trans (hb2.mono (by omega))⟩

theorem bt_lt {v s k : Int} (h : bt v s k = true) : s < v := by
  unfold bt at h
  exact (of_decide_eq_true h).2.2.2.2.2.2.1

theorem bt_less {v s k t l : Int} (h : bt v s k = true) (t0 : 0 ≤ t) (ts : t ≤ s) (l0 : 0 ≤ l) (lk : l ≤ k) : bt v t l = true := by
  unfold bt at *
  obtain ⟨a, b, c, d, e, f, g, i⟩ := of_decide_eq_true h
  refine decide_eq_true ⟨a, b, t0, by omega, l0, by omega, by omega, ?_⟩
  have h1 : t * t ≤ s * s := sq_le t0 ts
  have h2 : l * (t * t) ≤ k * (s * s) := Int.mul_le_mul lk h1 (Int.mul_nonneg t0 t0) e
  have h3 : (v - s) * (v - s) ≤ (v - t) * (v - t) := sq_le (by omega) (by omega)
  omega

set_option maxHeartbeats 1000000 in
set_option maxRecDepth 100000 in
theorem law_beats (v s k t l : Int) (w : World) :
    Calls Try.prog 7 #[.int .i64 v, .int .i64 s, .int .i64 k, .int .i64 t, .int .i64 l] w fun e w' => e = .returned (.bool true) ∧ Below w.heap.size w w' := by
  cases hB : bt v s k
  · have HB : Hid (bt v s k = false) := hB
    clear hB
    go_enter Try.func7, Try.ntmps7
    go_wp2_with fail
    refine (awake_any _).mono ?_
    rintro e w1 ⟨rfl, hb1⟩
    go_wp2_with fail
    refine (beats_any v s k _).mono ?_
    rintro e w2 ⟨rfl, hb2⟩
    rw [HB.out]
    have s1 := hb1.size
    go_wp2
    go_ret
    exact ⟨rfl, hb1.trans (hb2.mono (by omega))⟩
  · have HB : Hid (bt v s k = true) := hB
    have hlt : s < v := bt_lt hB
    clear hB
    by_cases c : 0 ≤ t ∧ t ≤ s ∧ 0 ≤ l ∧ l ≤ k
    · obtain ⟨c0, c1, c2, c3⟩ := c
      have HL : Hid (bt v t l = true) := bt_less HB.out c0 c1 c2 c3
      go_enter Try.func7, Try.ntmps7
      go_wp2_with fail
      refine (awake_any _).mono ?_
      rintro e w1 ⟨rfl, hb1⟩
      go_wp2_with fail
      refine (beats_any v s k _).mono ?_
      rintro e w2 ⟨rfl, hb2⟩
      rw [HB.out]
      go_wp2_with fail
      refine (beats_any v t l _).mono ?_
      rintro e w3 ⟨rfl, hb3⟩
      rw [HL.out]
      have s1 := hb1.size
      have s2 := hb2.size
      go_wp2
      go_ret
      exact ⟨rfl, hb1.trans ((hb2.mono (by omega)).trans (hb3.mono (by omega)))⟩
    · have C : Hid (¬ (0 ≤ t ∧ t ≤ s ∧ 0 ≤ l ∧ l ≤ k)) := c
      clear c
      go_enter Try.func7, Try.ntmps7
      go_wp2_with fail
      refine (awake_any _).mono ?_
      rintro e w1 ⟨rfl, hb1⟩
      go_wp2_with fail
      refine (beats_any v s k _).mono ?_
      rintro e w2 ⟨rfl, hb2⟩
      rw [HB.out]
      have s1 := hb1.size
      go_wp2_with fail
      all_goals first
        | (go_ret; exact ⟨rfl, hb1.trans (hb2.mono (by omega))⟩)
        | (exfalso; have := C.out; omega)
end Go.Proofs.Ytdhifcbjjjmfkaa
