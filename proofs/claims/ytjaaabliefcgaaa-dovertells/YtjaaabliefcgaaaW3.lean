/- Walks of frac's Cmp, Beats and Root, out of the contracts of products and their order. -/
import Derived.Test.YtjaaabliefcgaaaW2
namespace Go.Proofs.Ytjaaabliefcgaaa
open Go.RowKit
/-- Does v beat s by k? -/
def bt (v s k : Int) : Bool := decide (0 ≤ v ∧ v ≤ 1048576 ∧ 0 ≤ s ∧ s ≤ 1048576 ∧ 0 ≤ k ∧ k ≤ 1048576 ∧ s < v ∧ k * (s * s) < (v - s) * (v - s))

theorem sq_bd {x : Int} (h0 : 0 ≤ x) (h : x ≤ 1048576) : 0 ≤ x * x ∧ x * x ≤ 1099511627776 :=
  ⟨Int.mul_nonneg h0 h0, by have := Int.mul_le_mul h h h0 (by omega); omega⟩

set_option maxHeartbeats 1000000 in
set_option maxRecDepth 100000 in
theorem beats_in (v s k : Int) (w : World) (hv0 : 0 ≤ v) (hv : v ≤ 1048576) (hs0 : 0 ≤ s) (hs : s ≤ 1048576) (hk0 : 0 ≤ k) (hk : k ≤ 1048576) (hlt : s < v) :
    Calls Try.prog 24 #[.int .i64 v, .int .i64 s, .int .i64 k] w fun e w' => e = .returned (.bool (bt v s k)) ∧ Below w.heap.size w w' := by
  have q := sq_bd hs0 hs
  have q0 := q.1
  have q1 : s * s ≤ 4611686018427387904 := by omega
  have p0 : 0 ≤ v - s := by omega
  have p1 : v - s ≤ 4611686018427387904 := by omega
  have k1 : k ≤ 4611686018427387904 := by omega
  have HS : Hid _ := lex_words ((v - s) * (v - s)) (k * (s * s))
  have HB : Hid (decide (0 < sgn ((v - s) * (v - s)) (k * (s * s))) = bt v s k) := by
    show _ = _
    unfold bt sgn
    generalize (v - s) * (v - s) = x
    generalize k * (s * s) = y
    by_cases h1 : x = y
    · subst h1; simp
    · by_cases h2 : x < y
      · rw [if_neg h1, if_pos h2]; simp; omega
      · rw [if_neg h1, if_neg h2]; simp; omega
  clear q
  go_enter Try.func24, Try.ntmps24
  go_wp2_with (first | (go_at_call 36; go_in) | fail)
  refine (product_any (v - s) (v - s) _ p0 p1 p0 p1).mono ?_
  rintro e w1 ⟨rfl, hb1'⟩
  go_wp2_with fail
  refine (product_any k (s * s) _ hk0 k1 q0 q1).mono ?_
  rintro e w2 ⟨rfl, hb2'⟩
  go_wp2_with fail
  refine (order_any _ _ _ _ _).mono ?_
  rintro e w3 ⟨rfl, hb3'⟩
  rw [HS.out]
  go_wp2
  go_ret
  have s1 := hb1'.size
  have s2 := hb2'.size
  exact ⟨ret_b HB.out, hb1'.trans ((hb2'.mono (by omega)).trans (hb3'.mono (by omega)))⟩

theorem bt_no {v s k : Int} (h : ¬ (0 ≤ v ∧ v ≤ 1048576 ∧ 0 ≤ s ∧ s ≤ 1048576 ∧ 0 ≤ k ∧ k ≤ 1048576 ∧ s < v)) : bt v s k = false := by
  unfold bt
  exact decide_eq_false (fun g => h ⟨g.1, g.2.1, g.2.2.1, g.2.2.2.1, g.2.2.2.2.1, g.2.2.2.2.2.1, g.2.2.2.2.2.2.1⟩)

set_option maxHeartbeats 4000000 in
set_option maxRecDepth 100000 in
theorem beats_out (v s k : Int) (w : World) (h : ¬ (0 ≤ v ∧ v ≤ 1048576 ∧ 0 ≤ s ∧ s ≤ 1048576 ∧ 0 ≤ k ∧ k ≤ 1048576 ∧ s < v)) :
    Calls Try.prog 24 #[.int .i64 v, .int .i64 s, .int .i64 k] w fun e w' => e = .returned (.bool false) ∧ Below w.heap.size w w' := by
  by_cases c0 : 0 ≤ v
  · by_cases c1 : v ≤ 1048576
    · by_cases c2 : 0 ≤ s
      · by_cases c3 : s ≤ 1048576
        · by_cases c4 : 0 ≤ k
          · by_cases c5 : k ≤ 1048576
            · have c6 : ¬ s < v := by omega
              clear h
              go_enter Try.func24, Try.ntmps24
              go_wp2
              go_ret
              exact ⟨rfl, Below.refl _ _⟩
            · clear h
              go_enter Try.func24, Try.ntmps24
              go_wp2
              go_ret
              exact ⟨rfl, Below.refl _ _⟩
          · clear h
            go_enter Try.func24, Try.ntmps24
            go_wp2
            go_ret
            exact ⟨rfl, Below.refl _ _⟩
        · clear h
          go_enter Try.func24, Try.ntmps24
          go_wp2
          go_ret
          exact ⟨rfl, Below.refl _ _⟩
      · clear h
        go_enter Try.func24, Try.ntmps24
        go_wp2
        go_ret
        exact ⟨rfl, Below.refl _ _⟩
    · clear h
      go_enter Try.func24, Try.ntmps24
      go_wp2
      go_ret
      exact ⟨rfl, Below.refl _ _⟩
  · clear h
    go_enter Try.func24, Try.ntmps24
    go_wp2
    go_ret
    exact ⟨rfl, Below.refl _ _⟩

theorem beats_any (v s k : Int) (w : World) :
    Calls Try.prog 24 #[.int .i64 v, .int .i64 s, .int .i64 k] w fun e w' => e = .returned (.bool (bt v s k)) ∧ Below w.heap.size w w' := by
  by_cases h : 0 ≤ v ∧ v ≤ 1048576 ∧ 0 ≤ s ∧ s ≤ 1048576 ∧ 0 ≤ k ∧ k ≤ 1048576 ∧ s < v
  · obtain ⟨a, b, c, d, e, f, g⟩ := h
    exact beats_in v s k w a b c d e f g
  · rw [bt_no h]
    exact beats_out v s k w h
end Go.Proofs.Ytjaaabliefcgaaa
