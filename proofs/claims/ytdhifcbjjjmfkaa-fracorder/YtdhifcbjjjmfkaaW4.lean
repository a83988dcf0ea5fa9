/- Walks of frac's Root and of the document's own Root, one invariant for both. -/
import Derived.Test.YtdhifcbjjjmfkaaW2
import Derived.Deep.RegionWith
namespace Go.Proofs.Ytdhifcbjjjmfkaa
open Go.RowKit

/-- Bit by bit: with j bits still to come r's square is no more than n, and that of r and 2 to the j is above it. -/
structure Inv (n r b : Int) (j : Nat) : Prop where
  hb : b = 2 ^ j / 2
  r0 : 0 ≤ r
  lo : r * r ≤ n
  hi : n < (r + 2 ^ j) * (r + 2 ^ j)
  top : r + 2 ^ j ≤ 4294967296

/-- The root of n. -/
def IsRoot (n r : Int) : Prop := 0 ≤ r ∧ r * r ≤ n ∧ n < (r + 1) * (r + 1)

theorem sq_lt {x y : Int} (hx : 0 ≤ x) (h : x < y) : x * x < y * y := by
  have h1 : x * x ≤ x * y := Int.mul_le_mul_of_nonneg_left (by omega) hx
  have h2 : x * y < y * y := Int.mul_lt_mul_of_pos_right h (by omega)
  omega
theorem sq_le {x y : Int} (hx : 0 ≤ x) (h : x ≤ y) : x * x ≤ y * y := Int.mul_le_mul h h hx (by omega)

theorem IsRoot.unique {n r s : Int} (h : IsRoot n r) (k : IsRoot n s) : r = s := by
  obtain ⟨r0, r1, r2⟩ := h
  obtain ⟨s0, s1, s2⟩ := k
  rcases Int.lt_trichotomy r s with hlt | rfl | hgt
  · have := sq_le (x := r + 1) (y := s) (by omega) (by omega); omega
  · rfl
  · have := sq_le (x := s + 1) (y := r) (by omega) (by omega); omega

theorem Inv.start {n : Int} (h0 : 0 ≤ n) (h : n ≤ 4611686018427387904) : Inv n 0 2147483648 32 :=
  ⟨by decide, by omega, by omega, by simp; omega, by decide⟩

theorem two_pow_pos (j : Nat) : (0 : Int) < 2 ^ j := Int.pow_pos (by omega)

theorem Inv.done {n r : Int} {j : Nat} (h : Inv n r 0 j) : IsRoot n r := by
  have hj : j = 0 := by
    cases j with
    | zero => rfl
    | succ j =>
      have e := h.hb
      have p := two_pow_pos j
      rw [Int.pow_succ] at e
      omega
  subst hj
  exact ⟨h.r0, h.lo, by simpa using h.hi⟩

theorem Inv.bounds {n r b : Int} {j : Nat} (h : Inv n r b j) : 0 ≤ r ∧ 0 ≤ b ∧ r + b ≤ 4294967296 := by
  have p := two_pow_pos j
  have := h.hb; have := h.top; have := h.r0
  omega

theorem Inv.pos {n r b : Int} {j : Nat} (h : Inv n r b j) (hb : 0 < b) : ∃ i, j = i + 1 ∧ b = 2 ^ i := by
  cases j with
  | zero => have e := h.hb; simp at e; omega
  | succ i => exact ⟨i, rfl, by have e := h.hb; rw [Int.pow_succ] at e; omega⟩

theorem Inv.yes {n r b : Int} {j : Nat} (h : Inv n r b j) (hb : 0 < b) (hs : (r + b) * (r + b) ≤ n) : ∃ i, Inv n (r + b) (b / 2) i := by
  obtain ⟨i, rfl, rfl⟩ := h.pos hb
  have e : r + 2 ^ i + 2 ^ i = r + 2 ^ (i + 1) := by rw [Int.pow_succ]; omega
  exact ⟨i, rfl, by have := h.r0; omega, hs, by rw [e]; exact h.hi, by rw [e]; exact h.top⟩

theorem Inv.no {n r b : Int} {j : Nat} (h : Inv n r b j) (hb : 0 < b) (hs : n < (r + b) * (r + b)) : ∃ i, Inv n r (b / 2) i := by
  obtain ⟨i, rfl, rfl⟩ := h.pos hb
  have e := h.top
  rw [Int.pow_succ] at e
  exact ⟨i, rfl, h.r0, h.lo, hs, by omega⟩

theorem big_sq {x n : Int} (hx : 2147483648 < x) (hn : n ≤ 4611686018427387904) : n < x * x := by
  have := sq_lt (x := 2147483648) (y := x) (by omega) hx
  omega

set_option maxHeartbeats 4000000 in
set_option maxRecDepth 100000 in
theorem refRoot_yes (n : Int) (w : World) (h0 : 0 ≤ n) (h1 : n ≤ 4611686018427387904) :
    Calls Try.prog 19 #[.int .i64 n] w fun e w' => (∃ r, e = .returned (.tuple #[.int .i64 r, .bool true]) ∧ IsRoot n r) ∧ w' = w := by
  go_enter Try.func19, Try.ntmps19
  go_wp2
  go_loop [5, 6] (fun t u => ∃ (r b : Int) (j : Nat), Inv n r b j ∧ t = .int .i64 r ∧ u = .int .i64 b) (fun _ u => (intOf u).toNat)
  case atStart => exact ⟨0, 2147483648, 32, Inv.start h0 h1, rfl, rfl⟩
  case round =>
    obtain ⟨r, b, j, hI, rfl, rfl⟩ := hrel
    obtain ⟨r0, b0, rb⟩ := hI.bounds
    by_cases hb : 0 < b
    · by_cases hl : r + b ≤ 2147483648
      · have hq0 := Int.mul_nonneg (show 0 ≤ r + b by omega) (show 0 ≤ r + b by omega)
        have hq1 := sq_le (show 0 ≤ r + b by omega) hl
        have hq2 : (r + b) * (r + b) ≤ 4611686018427387904 := by omega
        clear hq1
        by_cases hs : (r + b) * (r + b) ≤ n
        · go_wp2
          go_round
          case rel => obtain ⟨i, hi⟩ := hI.yes hb hs; exact ⟨r + b, b / 2, i, hi, rfl, rfl⟩
          case measure => simp [intOf]; omega
        · go_wp2
          go_round
          case rel => obtain ⟨i, hi⟩ := hI.no hb (by omega); exact ⟨r, b / 2, i, hi, rfl, rfl⟩
          case measure => simp [intOf]; omega
      · go_wp2
        go_round
        case rel => obtain ⟨i, hi⟩ := hI.no hb (big_sq (by omega) h1); exact ⟨r, b / 2, i, hi, rfl, rfl⟩
        case measure => simp [intOf]; omega
    · have hbz : b = 0 := by omega
      subst hbz
      go_wp2
      go_ret2
      exact ⟨⟨r, rfl, hI.done⟩, rfl⟩

set_option maxHeartbeats 1000000 in
set_option maxRecDepth 100000 in
theorem refRoot_no (n : Int) (w : World) (h : ¬ (0 ≤ n ∧ n ≤ 4611686018427387904)) :
    Calls Try.prog 19 #[.int .i64 n] w fun e w' => e = .returned (.tuple #[.int .i64 0, .bool false]) ∧ w' = w := by
  by_cases c : 0 ≤ n
  · have c1 : ¬ n ≤ 4611686018427387904 := by omega
    clear h
    go_enter Try.func19, Try.ntmps19
    go_wp2
    go_ret2
    exact ⟨rfl, rfl⟩
  · clear h
    go_enter Try.func19, Try.ntmps19
    go_wp2
    go_ret2
    exact ⟨rfl, rfl⟩
end Go.Proofs.Ytdhifcbjjjmfkaa
