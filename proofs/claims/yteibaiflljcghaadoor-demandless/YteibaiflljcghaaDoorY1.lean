/- Texts that belong together, one behind the other: W1, W6, A1, A2, M1, A5, Q2, R8, V1, H2, V3, E1, E2, E3, E4, E7, E9, V5, F1. -/
import Derived.Test.YteibaiflljcghaaDoorRows
import Derived.WalkKit
import Derived.WalkSpells
import Derived.Below
import Derived.ChangeKeysEq
import Derived.Lib.Mul64
import Derived.Deep.RegionWith
import Derived.ProofKit
import Derived.OpenShut
import Derived.Carry
import Derived.Lib.SmallJoins
import Derived.Deep.Grids
import Derived.BigRegion
import Derived.Deep.SlicePairs
import Derived.Laws.EntriesVeiled
import Derived.Deep.RegionHeld3
import Derived.Deep.WholeRow
import Derived.Laws.StructEq
/- Walks of frac's quotients: Floor and Ceil answer as chapter 1 says, for all arguments; so do the document's own. -/
namespace Go.Proofs.YteibaiflljcghaaDoor
open Go.RowKit

/-- What is rounded up. -/
def cl (a b : Int) : Int := if a % b = 0 then a / b else a / b + 1

/-- Two numbers that have quotients. -/
def okq (a b : Int) : Prop := 0 ≤ a ∧ a ≤ 4611686018427387904 ∧ 1 ≤ b ∧ b ≤ 4611686018427387904

theorem ret_ib {k : IntKind} {a b : Int} {x y : Bool} (h : a = b) (h' : x = y) : Ending.returned (.tuple #[.int k a, .bool x]) = .returned (.tuple #[.int k b, .bool y]) := by rw [h, h']
theorem ret_i {k : IntKind} {a b : Int} (h : a = b) : Ending.returned (.int k a) = .returned (.int k b) := by rw [h]
theorem ret_b {a b : Bool} (h : a = b) : Ending.returned (.bool a) = .returned (.bool b) := by rw [h]
theorem cl_eq0 {a b : Int} (h : (a % b == 0) = true) : cl a b = a / b := by
  unfold cl; rw [if_pos (by simpa using h)]
theorem cl_eq1 {a b : Int} (h : (a % b == 0) = false) : cl a b = a / b + 1 := by
  unfold cl; rw [if_neg (by simpa using h)]

set_option maxHeartbeats 1000000 in
set_option maxRecDepth 100000 in
theorem floor_yes (a b : Int) (w : World) (ha0 : 0 ≤ a) (ha : a ≤ 4611686018427387904) (hb0 : 1 ≤ b) (hb : b ≤ 4611686018427387904) :
    Calls Tryd.prog 31 #[.int .i64 a, .int .i64 b] w fun e w' => e = .returned (.tuple #[.int .i64 (a / b), .bool true]) ∧ Below w.heap.size w w' := by
  go_enter Tryd.func31, Tryd.ntmps31
  go_wp2
  go_ret2
  exact ⟨rfl, by repeat (first | exact Below.refl _ _ | refine Below.alloc ?_ (by simp <;> omega) _)⟩

set_option maxHeartbeats 1000000 in
set_option maxRecDepth 100000 in
theorem ceil_yes (a b : Int) (w : World) (ha0 : 0 ≤ a) (ha : a ≤ 4611686018427387904) (hb0 : 1 ≤ b) (hb : b ≤ 4611686018427387904) :
    Calls Tryd.prog 34 #[.int .i64 a, .int .i64 b] w fun e w' => e = .returned (.tuple #[.int .i64 (cl a b), .bool true]) ∧ Below w.heap.size w w' := by
  have q0 : 0 ≤ a / b := Int.ediv_nonneg ha0 (by omega)
  have q1 : a / b ≤ a := Int.ediv_le_self _ ha0
  cases hm : (a % b == 0)
  · have HC : Hid (cl a b = a / b + 1) := cl_eq1 hm
    go_enter Tryd.func34, Tryd.ntmps34
    go_wp2
    go_ret2
    exact ⟨ret_ib HC.out.symm rfl, by repeat (first | exact Below.refl _ _ | refine Below.alloc ?_ (by simp <;> omega) _)⟩
  · have HC : Hid (cl a b = a / b) := cl_eq0 hm
    go_enter Tryd.func34, Tryd.ntmps34
    go_wp2
    go_ret2
    exact ⟨ret_ib HC.out.symm rfl, by repeat (first | exact Below.refl _ _ | refine Below.alloc ?_ (by simp <;> omega) _)⟩
end Go.Proofs.YteibaiflljcghaaDoor
/- Walks of the document's own Floor, Ceil, Cmp and Beats, and of the chapter's examples. -/
namespace Go.Proofs.YteibaiflljcghaaDoor
open Go.RowKit
theorem cl_mul {a b : Int} (h : a / b * b < a) : cl a b = a / b + 1 := by
  have e := Int.ediv_mul_add_emod a b
  unfold cl
  rw [if_neg (by omega)]
theorem cl_mul0 {a b : Int} (hb : 1 ≤ b) (h : ¬ a / b * b < a) : cl a b = a / b := by
  have e := Int.ediv_mul_add_emod a b
  have e1 := Int.emod_nonneg a (show b ≠ 0 by omega)
  unfold cl
  rw [if_pos (by omega)]
end Go.Proofs.YteibaiflljcghaaDoor
/- Walks of package pat, for all arguments: May, On, Count and Most. -/
namespace Go.Proofs.YteibaiflljcghaaDoor
open Go.RowKit

def mayB (m k : Int) : Bool := decide (1 ≤ m ∧ m ≤ k ∧ k ≤ 6)
def jobB (j : Int) : Bool := decide (0 ≤ j ∧ j ≤ 1099511627776)
/-- How many of the first n jobs are mandatory. -/
def du (m k n : Int) : Int := cl (n * m) k
def adB (m k j : Int) : Bool := decide (du m k j < du m k (j + 1))
def onB (m k j : Int) : Bool := mayB m k && jobB j && adB m k j
def mostV (m k n : Int) : Int := bif mayB m k && jobB n then du m k n else 0

theorem mul_bd {m n c : Int} (m0 : 1 ≤ m) (m6 : m ≤ 6) (n0 : 0 ≤ n) (n1 : n ≤ c) : 0 ≤ n * m ∧ n * m ≤ c * 6 :=
  ⟨Int.mul_nonneg n0 (by omega), by
    have h1 : n * m ≤ n * 6 := Int.mul_le_mul_of_nonneg_left m6 n0
    have h2 : n * 6 ≤ c * 6 := Int.mul_le_mul_of_nonneg_right n1 (by omega)
    omega⟩

set_option maxHeartbeats 1000000 in
set_option maxRecDepth 100000 in
theorem may_any (m k : Int) (w : World) :
    Calls Tryd.prog 35 #[.int .i64 m, .int .i64 k] w fun e w' => e = .returned (.bool (mayB m k)) ∧ w' = w := by
  by_cases c0 : 1 ≤ m
  · by_cases c1 : m ≤ k
    · have H : Hid (mayB m k = decide (k ≤ 6)) := by show _ = _; unfold mayB; simp [c0, c1]
      go_enter Tryd.func35, Tryd.ntmps35
      go_wp2
      go_ret
      exact ⟨ret_b H.out.symm, rfl⟩
    · have H : Hid (mayB m k = false) := by show _ = _; unfold mayB; simp [c1]
      go_enter Tryd.func35, Tryd.ntmps35
      go_wp2
      go_ret
      exact ⟨ret_b H.out.symm, rfl⟩
  · have H : Hid (mayB m k = false) := by show _ = _; unfold mayB; simp [c0]
    go_enter Tryd.func35, Tryd.ntmps35
    go_wp2
    go_ret
    exact ⟨ret_b H.out.symm, rfl⟩

set_option maxHeartbeats 1000000 in
set_option maxRecDepth 100000 in
theorem isJob_any (j : Int) (w : World) :
    Calls Tryd.prog 36 #[.int .i64 j] w fun e w' => e = .returned (.bool (jobB j)) ∧ w' = w := by
  by_cases c0 : 0 ≤ j
  · have H : Hid (jobB j = decide (j ≤ 1099511627776)) := by show _ = _; unfold jobB; simp [c0]
    go_enter Tryd.func36, Tryd.ntmps36
    go_wp2
    go_ret
    exact ⟨ret_b H.out.symm, rfl⟩
  · have H : Hid (jobB j = false) := by show _ = _; unfold jobB; simp [c0]
    go_enter Tryd.func36, Tryd.ntmps36
    go_wp2
    go_ret
    exact ⟨ret_b H.out.symm, rfl⟩

set_option maxHeartbeats 1000000 in
set_option maxRecDepth 100000 in
theorem due_in (m k n : Int) (w : World) (m0 : 1 ≤ m) (mk : m ≤ k) (k6 : k ≤ 6) (n0 : 0 ≤ n) (n1 : n ≤ 2199023255554) :
    Calls Tryd.prog 47 #[.int .i64 m, .int .i64 k, .int .i64 n] w fun e w' => e = .returned (.int .i64 (du m k n)) ∧ Below w.heap.size w w' := by
  obtain ⟨p0, p1⟩ := mul_bd m0 (show m ≤ 6 by omega) n0 n1
  go_enter Tryd.func47, Tryd.ntmps47
  go_wp2_with fail
  refine (ceil_yes (n * m) k _ p0 (by omega) (by omega) (by omega)).mono ?_
  rintro e w1 ⟨rfl, hb1⟩
  go_wp2
  go_ret
  exact ⟨rfl, hb1⟩

set_option maxHeartbeats 1000000 in
set_option maxRecDepth 100000 in
theorem adds_in (m k j : Int) (w : World) (m0 : 1 ≤ m) (mk : m ≤ k) (k6 : k ≤ 6) (n0 : 0 ≤ j) (n1 : j ≤ 1099511627776) :
    Calls Tryd.prog 37 #[.int .i64 m, .int .i64 k, .int .i64 j] w fun e w' => e = .returned (.bool (adB m k j)) ∧ Below w.heap.size w w' := by
  go_enter Tryd.func37, Tryd.ntmps37
  go_wp2_with fail
  refine (due_in m k (j + 1) _ m0 mk k6 (by omega) (by omega)).mono ?_
  rintro e w1 ⟨rfl, hb1⟩
  go_wp2_with fail
  refine (due_in m k j _ m0 mk k6 (by omega) (by omega)).mono ?_
  rintro e w2 ⟨rfl, hb2⟩
  have s1 := hb1.size
  go_wp2
  go_ret
  exact ⟨rfl, hb1.trans (hb2.mono (by omega))⟩

theorem mayB_of {m k : Int} (h : mayB m k = true) : 1 ≤ m ∧ m ≤ k ∧ k ≤ 6 := of_decide_eq_true h
theorem jobB_of {j : Int} (h : jobB j = true) : 0 ≤ j ∧ j ≤ 1099511627776 := of_decide_eq_true h

set_option maxHeartbeats 1000000 in
set_option maxRecDepth 100000 in
theorem on_any (m k j : Int) (w : World) :
    Calls Tryd.prog 23 #[.int .i64 m, .int .i64 k, .int .i64 j] w fun e w' => e = .returned (.bool (onB m k j)) ∧ Below w.heap.size w w' := by
  cases h1 : mayB m k
  · have H : Hid (onB m k j = false) := by show _ = _; unfold onB; rw [h1]; rfl
    have H1 : Hid (mayB m k = false) := h1
    clear h1
    go_enter Tryd.func23, Tryd.ntmps23
    go_wp2_with fail
    refine (may_any m k _).mono ?_
    rintro e w1 ⟨rfl, rfl⟩
    rw [H1.out]
    go_wp2
    go_ret
    exact ⟨ret_b H.out.symm, Below.refl _ _⟩
  · have H1 : Hid (mayB m k = true) := h1
    cases h2 : jobB j
    · have H : Hid (onB m k j = false) := by show _ = _; unfold onB; rw [h1, h2]; rfl
      have H2 : Hid (jobB j = false) := h2
      clear h1 h2
      go_enter Tryd.func23, Tryd.ntmps23
      go_wp2_with fail
      refine (may_any m k _).mono ?_
      rintro e w1 ⟨rfl, rfl⟩
      rw [H1.out]
      go_wp2_with fail
      refine (isJob_any j _).mono ?_
      rintro e w1 ⟨rfl, rfl⟩
      rw [H2.out]
      go_wp2
      go_ret
      exact ⟨ret_b H.out.symm, Below.refl _ _⟩
    · have H : Hid (onB m k j = adB m k j) := by show _ = _; unfold onB; rw [h1, h2]; rfl
      have H2 : Hid (jobB j = true) := h2
      obtain ⟨m0, mk, k6⟩ := mayB_of h1
      obtain ⟨j0, j1⟩ := jobB_of h2
      clear h1 h2
      go_enter Tryd.func23, Tryd.ntmps23
      go_wp2_with fail
      refine (may_any m k _).mono ?_
      rintro e w1 ⟨rfl, rfl⟩
      rw [H1.out]
      go_wp2_with fail
      refine (isJob_any j _).mono ?_
      rintro e w1 ⟨rfl, rfl⟩
      rw [H2.out]
      go_wp2_with fail
      refine (adds_in m k j _ m0 mk k6 j0 j1).mono ?_
      rintro e w1 ⟨rfl, hb1⟩
      go_wp2
      go_ret
      exact ⟨ret_b H.out.symm, hb1⟩
end Go.Proofs.YteibaiflljcghaaDoor
/- Walks of package pat, for all arguments: Count and Most; and the chapter's example. -/
namespace Go.Proofs.YteibaiflljcghaaDoor
open Go.RowKit
set_option maxHeartbeats 1000000 in
set_option maxRecDepth 100000 in
theorem most_any (m k n : Int) (w : World) :
    Calls Tryd.prog 32 #[.int .i64 m, .int .i64 k, .int .i64 n] w fun e w' => e = .returned (.int .i64 (mostV m k n)) ∧ Below w.heap.size w w' := by
  cases h1 : mayB m k
  · have H : Hid (mostV m k n = 0) := by show _ = _; unfold mostV; rw [h1]; rfl
    have H1 : Hid (mayB m k = false) := h1
    clear h1
    go_enter Tryd.func32, Tryd.ntmps32
    go_wp2_with fail
    refine (may_any m k _).mono ?_
    rintro e w1 ⟨rfl, rfl⟩
    rw [H1.out]
    go_wp2
    go_ret
    exact ⟨ret_i H.out.symm, Below.refl _ _⟩
  · have H1 : Hid (mayB m k = true) := h1
    cases h2 : jobB n
    · have H : Hid (mostV m k n = 0) := by show _ = _; unfold mostV; rw [h1, h2]; rfl
      have H2 : Hid (jobB n = false) := h2
      clear h1 h2
      go_enter Tryd.func32, Tryd.ntmps32
      go_wp2_with fail
      refine (may_any m k _).mono ?_
      rintro e w1 ⟨rfl, rfl⟩
      rw [H1.out]
      go_wp2_with fail
      refine (isJob_any n _).mono ?_
      rintro e w1 ⟨rfl, rfl⟩
      rw [H2.out]
      go_wp2
      go_ret
      exact ⟨ret_i H.out.symm, Below.refl _ _⟩
    · have H : Hid (mostV m k n = du m k n) := by show _ = _; unfold mostV; rw [h1, h2]; rfl
      have H2 : Hid (jobB n = true) := h2
      obtain ⟨m0, mk, k6⟩ := mayB_of h1
      obtain ⟨n0, n1⟩ := jobB_of h2
      clear h1 h2
      go_enter Tryd.func32, Tryd.ntmps32
      go_wp2_with fail
      refine (may_any m k _).mono ?_
      rintro e w1 ⟨rfl, rfl⟩
      rw [H1.out]
      go_wp2_with fail
      refine (isJob_any n _).mono ?_
      rintro e w1 ⟨rfl, rfl⟩
      rw [H2.out]
      go_wp2_with fail
      refine (due_in m k n _ m0 mk k6 (by omega) (by omega)).mono ?_
      rintro e w1 ⟨rfl, hb1⟩
      go_wp2
      go_ret
      exact ⟨ret_i H.out.symm, hb1⟩
end Go.Proofs.YteibaiflljcghaaDoor
/- What pat's numbers are to one another: plain arithmetic. -/
namespace Go.Proofs.YteibaiflljcghaaDoor
open Go.RowKit

theorem six {k : Int} (h : 1 ≤ k) (h' : k ≤ 6) : k = 1 ∨ k = 2 ∨ k = 3 ∨ k = 4 ∨ k = 5 ∨ k = 6 := by omega

theorem cl_add {x y k : Int} (h : 1 ≤ k) (h' : k ≤ 6) : cl x k + cl y k - 1 ≤ cl (x + y) k ∧ cl (x + y) k ≤ cl x k + cl y k := by
  rcases six h h' with rfl | rfl | rfl | rfl | rfl | rfl <;> unfold cl <;> constructor <;> split <;> split <;> split <;> omega

theorem cl_mono {x y k : Int} (h : 1 ≤ k) (h' : k ≤ 6) (l : x ≤ y) : cl x k ≤ cl y k := by
  rcases six h h' with rfl | rfl | rfl | rfl | rfl | rfl <;> unfold cl <;> split <;> split <;> omega

theorem du_zero (m k : Int) : du m k 0 = 0 := by unfold du cl; simp

theorem du_add {m k a b : Int} (m0 : 1 ≤ m) (mk : m ≤ k) (k6 : k ≤ 6) : du m k a + du m k b - 1 ≤ du m k (a + b) ∧ du m k (a + b) ≤ du m k a + du m k b := by
  unfold du; rw [Int.add_mul]; exact cl_add (by omega) k6

theorem du_mono {m k a b : Int} (m0 : 1 ≤ m) (mk : m ≤ k) (k6 : k ≤ 6) (h : a ≤ b) : du m k a ≤ du m k b := by
  unfold du
  exact cl_mono (by omega) k6 (Int.mul_le_mul_of_nonneg_right h (by omega))

theorem du_nonneg {m k n : Int} (m0 : 1 ≤ m) (mk : m ≤ k) (k6 : k ≤ 6) (h : 0 ≤ n) : 0 ≤ du m k n := by
  have := du_mono m0 mk k6 h; rw [du_zero] at this; exact this

/-- One job more: one mandatory one more, or none. -/
theorem du_step {m k n : Int} (m0 : 1 ≤ m) (mk : m ≤ k) (k6 : k ≤ 6) : du m k (n + 1) = du m k n + (if adB m k n = true then 1 else 0) := by
  have h1 := du_mono (a := n) (b := n + 1) m0 mk k6 (by omega)
  have h2 : du m k (n + 1) ≤ du m k n + 1 := by
    unfold du; rw [Int.add_mul]
    generalize n * m = x
    rcases six (show 1 ≤ k by omega) k6 with rfl | rfl | rfl | rfl | rfl | rfl <;> unfold cl <;> split <;> split <;> omega
  unfold adB
  by_cases h : du m k n < du m k (n + 1)
  · simp [h]; omega
  · simp [h]; omega

theorem mayB_mk {m k : Int} (m0 : 1 ≤ m) (mk : m ≤ k) (k6 : k ≤ 6) : mayB m k = true := decide_eq_true ⟨m0, mk, k6⟩
theorem jobB_mk {j : Int} (h : 0 ≤ j) (h' : j ≤ 1099511627776) : jobB j = true := decide_eq_true ⟨h, h'⟩
theorem onB_in {m k j : Int} (m0 : 1 ≤ m) (mk : m ≤ k) (k6 : k ≤ 6) (h : 0 ≤ j) (h' : j ≤ 1099511627776) : onB m k j = adB m k j := by
  unfold onB; rw [mayB_mk m0 mk k6, jobB_mk h h']; rfl
theorem mostV_in {m k n : Int} (m0 : 1 ≤ m) (mk : m ≤ k) (k6 : k ≤ 6) (g : 0 ≤ n) (g' : n ≤ 1099511627776) : mostV m k n = du m k n := by
  unfold mostV; rw [mayB_mk m0 mk k6, jobB_mk g g']; rfl
end Go.Proofs.YteibaiflljcghaaDoor
/- Walks of the document's own answers of chapter 2, but for the lists. -/
namespace Go.Proofs.YteibaiflljcghaaDoor
open Go.RowKit
set_option maxHeartbeats 1000000 in
set_option maxRecDepth 100000 in
theorem refMay_any (m k : Int) (w : World) :
    Calls Tryd.prog 48 #[.int .i64 m, .int .i64 k] w fun e w' => e = .returned (.bool (mayB m k)) ∧ w' = w := by
  by_cases c0 : 1 ≤ m
  · by_cases c1 : m ≤ k
    · have H : Hid (mayB m k = decide (k ≤ 6)) := by show _ = _; unfold mayB; simp [c0, c1]
      go_enter Tryd.func48, Tryd.ntmps48
      go_wp2
      go_ret
      exact ⟨ret_b H.out.symm, rfl⟩
    · have H : Hid (mayB m k = false) := by show _ = _; unfold mayB; simp [c1]
      go_enter Tryd.func48, Tryd.ntmps48
      go_wp2
      go_ret
      exact ⟨ret_b H.out.symm, rfl⟩
  · have H : Hid (mayB m k = false) := by show _ = _; unfold mayB; simp [c0]
    go_enter Tryd.func48, Tryd.ntmps48
    go_wp2
    go_ret
    exact ⟨ret_b H.out.symm, rfl⟩

set_option maxHeartbeats 1000000 in
set_option maxRecDepth 100000 in
theorem refIn_any (j : Int) (w : World) :
    Calls Tryd.prog 49 #[.int .i64 j] w fun e w' => e = .returned (.bool (jobB j)) ∧ w' = w := by
  by_cases c0 : 0 ≤ j
  · have H : Hid (jobB j = decide (j ≤ 1099511627776)) := by show _ = _; unfold jobB; simp [c0]
    go_enter Tryd.func49, Tryd.ntmps49
    go_wp2
    go_ret
    exact ⟨ret_b H.out.symm, rfl⟩
  · have H : Hid (jobB j = false) := by show _ = _; unfold jobB; simp [c0]
    go_enter Tryd.func49, Tryd.ntmps49
    go_wp2
    go_ret
    exact ⟨ret_b H.out.symm, rfl⟩

theorem du_quo {m k n : Int} (m0 : 1 ≤ m) (mk : m ≤ k) (k6 : k ≤ 6) : du m k n = (if n * m / k * k < n * m then n * m / k + 1 else n * m / k) := by
  unfold du
  generalize n * m = x
  rcases six (show 1 ≤ k by omega) k6 with rfl | rfl | rfl | rfl | rfl | rfl <;> unfold cl <;> split <;> split <;> omega

set_option maxHeartbeats 1000000 in
set_option maxRecDepth 100000 in
theorem refMost_any (m k n : Int) (w : World) :
    Calls Tryd.prog 33 #[.int .i64 m, .int .i64 k, .int .i64 n] w fun e w' => e = .returned (.int .i64 (mostV m k n)) ∧ w' = w := by
  cases h1 : mayB m k
  · have H : Hid (mostV m k n = 0) := by show _ = _; unfold mostV; rw [h1]; rfl
    have H1 : Hid (mayB m k = false) := h1
    clear h1
    go_enter Tryd.func33, Tryd.ntmps33
    go_wp2_with fail
    refine (refMay_any m k _).mono ?_
    rintro e w1 ⟨rfl, rfl⟩
    rw [H1.out]
    go_wp2_with fail
    refine (refIn_any n _).mono ?_
    rintro e w1 ⟨rfl, rfl⟩
    go_wp2
    go_ret
    exact ⟨ret_i H.out.symm, rfl⟩
  · have H1 : Hid (mayB m k = true) := h1
    cases h2 : jobB n
    · have H : Hid (mostV m k n = 0) := by show _ = _; unfold mostV; rw [h1, h2]; rfl
      have H2 : Hid (jobB n = false) := h2
      clear h1 h2
      go_enter Tryd.func33, Tryd.ntmps33
      go_wp2_with fail
      refine (refMay_any m k _).mono ?_
      rintro e w1 ⟨rfl, rfl⟩
      rw [H1.out]
      go_wp2_with fail
      refine (refIn_any n _).mono ?_
      rintro e w1 ⟨rfl, rfl⟩
      rw [H2.out]
      go_wp2
      go_ret
      exact ⟨ret_i H.out.symm, rfl⟩
    · have H : Hid (mostV m k n = du m k n) := by show _ = _; unfold mostV; rw [h1, h2]; rfl
      have H2 : Hid (jobB n = true) := h2
      obtain ⟨m0, mk, k6⟩ := mayB_of h1
      obtain ⟨n0, n1⟩ := jobB_of h2
      clear h1 h2
      have HQ : Hid _ := du_quo (n := n) m0 mk k6
      obtain ⟨p0, p1⟩ := mul_bd m0 (show m ≤ 6 by omega) n0 n1
      have q0 : 0 ≤ n * m / k := Int.ediv_nonneg p0 (by omega)
      have q1 : n * m / k ≤ n * m := Int.ediv_le_self _ p0
      have q2 : 0 ≤ n * m / k * k := Int.mul_nonneg q0 (by omega)
      have q3 : n * m / k * k ≤ n * m := Int.ediv_mul_le _ (by omega)
      by_cases hl : n * m / k * k < n * m
      · have HR : Hid (du m k n = n * m / k + 1) := by show _ = _; have := HQ.out; rw [if_pos hl] at this; exact this
        go_enter Tryd.func33, Tryd.ntmps33
        go_wp2_with fail
        refine (refMay_any m k _).mono ?_
        rintro e w1 ⟨rfl, rfl⟩
        rw [H1.out]
        go_wp2_with fail
        refine (refIn_any n _).mono ?_
        rintro e w1 ⟨rfl, rfl⟩
        rw [H2.out]
        go_wp2
        go_ret
        exact ⟨ret_i (H.out.trans HR.out).symm, rfl⟩
      · have HR : Hid (du m k n = n * m / k) := by show _ = _; have := HQ.out; rw [if_neg hl] at this; exact this
        go_enter Tryd.func33, Tryd.ntmps33
        go_wp2_with fail
        refine (refMay_any m k _).mono ?_
        rintro e w1 ⟨rfl, rfl⟩
        rw [H1.out]
        go_wp2_with fail
        refine (refIn_any n _).mono ?_
        rintro e w1 ⟨rfl, rfl⟩
        rw [H2.out]
        go_wp2
        go_ret
        exact ⟨ret_i (H.out.trans HR.out).symm, rfl⟩
end Go.Proofs.YteibaiflljcghaaDoor
/- The walks of the statements PatWindow and PatMost: each returns true, and writes nothing that was there. -/
namespace Go.Proofs.YteibaiflljcghaaDoor
open Go.RowKit

theorem du_yes {m k n : Int} (m0 : 1 ≤ m) (mk : m ≤ k) (k6 : k ≤ 6) (h : adB m k n = true) : du m k (n + 1) = du m k n + 1 := by
  have := du_step (n := n) m0 mk k6; rw [h] at this; simpa using this
theorem du_not {m k n : Int} (m0 : 1 ≤ m) (mk : m ≤ k) (k6 : k ≤ 6) (h : adB m k n = false) : du m k (n + 1) = du m k n := by
  have := du_step (n := n) m0 mk k6; rw [h] at this; simpa using this
end Go.Proofs.YteibaiflljcghaaDoor
/- Lists of outcomes as they are read; walks of Of and of Bools. -/
namespace Go.Proofs.YteibaiflljcghaaDoor
open Go.RowKit
/-- Two cells that may be written. -/
def Two (w : World) (b : Nat) (u v : Value) : Prop := w.cell? ⟨b, 0, none⟩ = some u ∧ w.cell? ⟨b, 1, none⟩ = some v ∧ w.frozen? ⟨b, 0, none⟩ = false ∧ w.frozen? ⟨b, 1, none⟩ = false
theorem Two.later {w w' : World} {b : Nat} {u v : Value} (h : Two w b u v) (hb : Below w.heap.size w w') : Two w' b u v := by
  obtain ⟨h0, h1, h2, h3⟩ := h
  have hl := World.block_lt_of_cell? _ _ h0
  exact ⟨cell_later hb h0, cell_later hb h1, (hb.frozen (p := ⟨b, 0, none⟩) hl).trans h2, (hb.frozen (p := ⟨b, 1, none⟩) hl).trans h3⟩
theorem Two.put {w : World} {b : Nat} {u v : Value} (h : Two w b u v) (u' v' : Value) : Two ((w.setCell ⟨b, 0, none⟩ u').setCell ⟨b, 1, none⟩ v') b u' v' := by
  obtain ⟨h0, h1, h2, h3⟩ := h
  refine ⟨?_, ?_, by simpa using h2, by simpa using h3⟩
  · rw [World.cell?_setCell_other _ _ _ _ (by simp)]; exact World.cell?_setCell_same _ _ _ h0
  · exact World.cell?_setCell_same (u := v) _ _ _ (by rw [World.cell?_setCell_other _ _ _ _ (by simp)]; exact h1)
end Go.Proofs.YteibaiflljcghaaDoor
/- What the arguments of a statement are, as the walks are told of them. -/
namespace Go.Proofs.YteibaiflljcghaaDoor
open Go.ChangeShapes Go.WideShapes Go.RowKit Go.Deep Go.Joins

theorem see_int {H : Type} {enc : TypeId × Value → H} {P : Program} {w : World} {base b0 : Nat} {spare : Nat → Bool} {held : Bool} {r : Reach} {t : TypeId} {k : IntKind} {v : Value} {d : DataW H} {p : List MemPlace}
    (ht : P.underlying t = some (.int k)) (hv : Value.okWide P w r b0 t v) (h : DataW.Trod enc P w base spare held t v d p) : ∃ a, v = .int k a ∧ (Lit.int k a).wf = true := by
  obtain ⟨a, h1, _, _, h2⟩ := open_int ht hv h
  exact ⟨a, h1, h2⟩
end Go.Proofs.YteibaiflljcghaaDoor
/- Items as they lie; walks of the methods that a heap has. -/
namespace Go.Proofs.YteibaiflljcghaaDoor
open Go.RowKit

theorem cell_later {w w' : World} {p : Addr} {v : Value} (hb : Below w.heap.size w w') (hc : w.cell? p = some v) : w'.cell? p = some v :=
  (hb.cell (World.block_lt_of_cell? _ _ hc)).trans hc
end Go.Proofs.YteibaiflljcghaaDoor
/- What the arguments of a statement are, as the walks are told of them: items. -/
namespace Go.Proofs.YteibaiflljcghaaDoor
open Go.ChangeShapes Go.WideShapes Go.RowKit Go.Deep Go.Joins
/-- A list of integers that is read. -/
def Nums (w : World) (v : Value) (ks : List Int) : Prop :=
  ∃ a cap, v = .slice a ks.length cap ∧ ks.length ≤ cap ∧ cap ≤ maxLen ∧ (ks ≠ [] → ∃ b o, a = some ⟨b, o, none⟩ ∧ ∀ i, i < ks.length → w.cell? ⟨b, o + i, none⟩ = some (.int .i64 (ks.getD i 0)))
theorem see_nums {H : Type} {enc : TypeId × Value → H} {P : Program} {w : World} {base b0 : Nat} {held : Bool} {r : Reach} {t e : TypeId} {v : Value} {d : DataW H} {p : List MemPlace}
    (ht : P.underlying t = some (.slice e)) (he : P.underlying e = some (.int .i64)) (hc : P.cellsOf e = 1) (hv : Value.okWide P w r b0 t v) (h : DataW.Trod enc P w base (fun _ => true) held t v d p) : ∃ ks, Nums w v ks := by
  obtain ⟨a, len, cap, rfl⟩ := okWide_slice ht hv
  obtain ⟨fuel, hf⟩ := h
  rcases open_ints ht he hc hf with ⟨hcs, _⟩ | ⟨x, l, c, zs, hcs, _, hl, hm, hz, _, hcell, _⟩
  · simp [Value.cells] at hcs
    obtain ⟨rfl, rfl, rfl⟩ := hcs
    exact ⟨[], none, 0, rfl, by simp, by simp, fun h => absurd rfl h⟩
  · simp [Value.cells] at hcs
    obtain ⟨rfl, rfl, rfl⟩ := hcs
    simp only [if_true] at hz
    have hlen : (zs.take len).length = len := by simp; omega
    refine ⟨zs.take len, some x, cap, by rw [hlen], by omega, hm, fun hne => ?_⟩
    have hp : 0 < len := by
      rcases Nat.eq_zero_or_pos len with h | h
      · subst h; simp at hne
      · exact h
    obtain ⟨b, off, spot⟩ := x
    have hspot : spot = none := by simpa [Addr.add] using World.cell?_spot (hcell 0 (by omega))
    subst hspot
    refine ⟨b, off, rfl, fun i hi => ?_⟩
    rw [hlen] at hi
    have := hcell i (by omega)
    rw [Go.WideShapes.add_plain] at this
    rw [this]
    simp [List.getD, hi]
end Go.Proofs.YteibaiflljcghaaDoor
/- Walks of package spec: the numbers of a description, and what each must be. -/
namespace Go.Proofs.YteibaiflljcghaaDoor
open Go.RowKit

/-- A description. -/
structure Sp where
  c : Int
  t : Int
  x : Int
  m : Int
  k : Int
  e : Int
def wiB (n a b : Int) : Bool := decide (a ≤ n ∧ n ≤ b)
def leT (s : Sp) : Int := if s.e = 0 then s.x else s.c
def fitC (s : Sp) : Bool := wiB s.c 1 6
def fitT (s : Sp) : Bool := wiB s.t (leT s) s.x
def fitX (s : Sp) : Bool := wiB s.x s.c 48
def fitW (s : Sp) : Bool := mayB s.m s.k
def fitE (s : Sp) : Bool := wiB s.e 0 8

set_option maxHeartbeats 1000000 in
set_option maxRecDepth 100000 in
theorem within_any (n a b : Int) (w : World) :
    Calls Tryd.prog 61 #[.int .i64 n, .int .i64 a, .int .i64 b] w fun e w' => e = .returned (.bool (wiB n a b)) ∧ w' = w := by
  by_cases c0 : a ≤ n
  · have H : Hid (wiB n a b = decide (n ≤ b)) := by show _ = _; unfold wiB; simp [c0]
    go_enter Tryd.func61, Tryd.ntmps61
    go_wp2
    go_ret
    exact ⟨ret_b H.out.symm, rfl⟩
  · have H : Hid (wiB n a b = false) := by show _ = _; unfold wiB; simp [c0]
    go_enter Tryd.func61, Tryd.ntmps61
    go_wp2
    go_ret
    exact ⟨ret_b H.out.symm, rfl⟩

set_option maxHeartbeats 1000000 in
set_option maxRecDepth 100000 in
theorem fitC_any (c t x m k e : Int) (w : World) :
    Calls Tryd.prog 60 #[.agg #[.int .i64 c, .int .i64 t, .int .i64 x, .int .i64 m, .int .i64 k, .int .i64 e]] w fun r w' => r = .returned (.bool (fitC ⟨c, t, x, m, k, e⟩)) ∧ Below w.heap.size w w' := by
  go_enter Tryd.func60, Tryd.ntmps60
  go_wp2_with fail
  refine (within_any _ _ _ _).mono ?_
  rintro r w1 ⟨rfl, rfl⟩
  go_wp2
  go_ret
  exact ⟨rfl, (Below.refl _ _).alloc (by simp) _⟩

set_option maxHeartbeats 1000000 in
set_option maxRecDepth 100000 in
theorem fitX_any (c t x m k e : Int) (w : World) :
    Calls Tryd.prog 68 #[.agg #[.int .i64 c, .int .i64 t, .int .i64 x, .int .i64 m, .int .i64 k, .int .i64 e]] w fun r w' => r = .returned (.bool (fitX ⟨c, t, x, m, k, e⟩)) ∧ Below w.heap.size w w' := by
  go_enter Tryd.func68, Tryd.ntmps68
  go_wp2_with fail
  refine (within_any _ _ _ _).mono ?_
  rintro r w1 ⟨rfl, rfl⟩
  go_wp2
  go_ret
  exact ⟨rfl, (Below.refl _ _).alloc (by simp) _⟩

set_option maxHeartbeats 1000000 in
set_option maxRecDepth 100000 in
theorem fitE_any (c t x m k e : Int) (w : World) :
    Calls Tryd.prog 76 #[.agg #[.int .i64 c, .int .i64 t, .int .i64 x, .int .i64 m, .int .i64 k, .int .i64 e]] w fun r w' => r = .returned (.bool (fitE ⟨c, t, x, m, k, e⟩)) ∧ Below w.heap.size w w' := by
  go_enter Tryd.func76, Tryd.ntmps76
  go_wp2_with fail
  refine (within_any _ _ _ _).mono ?_
  rintro r w1 ⟨rfl, rfl⟩
  go_wp2
  go_ret
  exact ⟨rfl, (Below.refl _ _).alloc (by simp) _⟩

set_option maxHeartbeats 1000000 in
set_option maxRecDepth 100000 in
theorem fitW_any (c t x m k e : Int) (w : World) :
    Calls Tryd.prog 71 #[.agg #[.int .i64 c, .int .i64 t, .int .i64 x, .int .i64 m, .int .i64 k, .int .i64 e]] w fun r w' => r = .returned (.bool (fitW ⟨c, t, x, m, k, e⟩)) ∧ Below w.heap.size w w' := by
  go_enter Tryd.func71, Tryd.ntmps71
  go_wp2_with fail
  refine (may_any _ _ _).mono ?_
  rintro r w1 ⟨rfl, rfl⟩
  go_wp2
  go_ret
  exact ⟨rfl, (Below.refl _ _).alloc (by simp) _⟩

set_option maxHeartbeats 1000000 in
set_option maxRecDepth 100000 in
theorem leastT_any (c t x m k e : Int) (w : World) :
    Calls Tryd.prog 65 #[.agg #[.int .i64 c, .int .i64 t, .int .i64 x, .int .i64 m, .int .i64 k, .int .i64 e]] w fun r w' => r = .returned (.int .i64 (leT ⟨c, t, x, m, k, e⟩)) ∧ Below w.heap.size w w' := by
  by_cases h : e = 0
  · subst h
    have H : Hid (leT ⟨c, t, x, m, k, 0⟩ = x) := by show _ = _; unfold leT; simp
    go_enter Tryd.func65, Tryd.ntmps65
    go_wp2
    go_ret
    exact ⟨ret_i H.out.symm, (Below.refl _ _).alloc (by simp) _⟩
  · have H : Hid (leT ⟨c, t, x, m, k, e⟩ = c) := by show _ = _; unfold leT; simp [h]
    have h' : (e == 0) = false := by simpa using h
    go_enter Tryd.func65, Tryd.ntmps65
    go_wp2
    go_ret
    exact ⟨ret_i H.out.symm, (Below.refl _ _).alloc (by simp) _⟩

set_option maxHeartbeats 1000000 in
set_option maxRecDepth 100000 in
theorem fitT_any (c t x m k e : Int) (w : World) :
    Calls Tryd.prog 64 #[.agg #[.int .i64 c, .int .i64 t, .int .i64 x, .int .i64 m, .int .i64 k, .int .i64 e]] w fun r w' => r = .returned (.bool (fitT ⟨c, t, x, m, k, e⟩)) ∧ Below w.heap.size w w' := by
  have H : Hid (fitT ⟨c, t, x, m, k, e⟩ = wiB t (leT ⟨c, t, x, m, k, e⟩) x) := rfl
  go_enter Tryd.func64, Tryd.ntmps64
  go_wp2_with fail
  have k0 : (w.alloc (.cells #[.int .i64 c, .int .i64 t, .int .i64 x, .int .i64 m, .int .i64 k, .int .i64 e] 24)).cell? ⟨w.heap.size, 0, none⟩ = some (.int .i64 c) := by simp
  have k1 : (w.alloc (.cells #[.int .i64 c, .int .i64 t, .int .i64 x, .int .i64 m, .int .i64 k, .int .i64 e] 24)).cell? ⟨w.heap.size, 1, none⟩ = some (.int .i64 t) := by simp
  have k2 : (w.alloc (.cells #[.int .i64 c, .int .i64 t, .int .i64 x, .int .i64 m, .int .i64 k, .int .i64 e] 24)).cell? ⟨w.heap.size, 2, none⟩ = some (.int .i64 x) := by simp
  have k3 : (w.alloc (.cells #[.int .i64 c, .int .i64 t, .int .i64 x, .int .i64 m, .int .i64 k, .int .i64 e] 24)).cell? ⟨w.heap.size, 3, none⟩ = some (.int .i64 m) := by simp
  have k4 : (w.alloc (.cells #[.int .i64 c, .int .i64 t, .int .i64 x, .int .i64 m, .int .i64 k, .int .i64 e] 24)).cell? ⟨w.heap.size, 4, none⟩ = some (.int .i64 k) := by simp
  have k5 : (w.alloc (.cells #[.int .i64 c, .int .i64 t, .int .i64 x, .int .i64 m, .int .i64 k, .int .i64 e] 24)).cell? ⟨w.heap.size, 5, none⟩ = some (.int .i64 e) := by simp
  have HE : Hid (Below w.heap.size w (w.alloc (.cells #[.int .i64 c, .int .i64 t, .int .i64 x, .int .i64 m, .int .i64 k, .int .i64 e] 24))) := (Below.refl _ _).alloc (by simp) _
  generalize w.alloc (.cells #[.int .i64 c, .int .i64 t, .int .i64 x, .int .i64 m, .int .i64 k, .int .i64 e] 24) = W at *
  have s1 := HE.out.size
  go_region_held3 (fun w' => w'.cell? ⟨w.heap.size, 0, none⟩ = some (.int .i64 c) ∧ w'.cell? ⟨w.heap.size, 1, none⟩ = some (.int .i64 t) ∧ w'.cell? ⟨w.heap.size, 2, none⟩ = some (.int .i64 x) ∧ w'.cell? ⟨w.heap.size, 3, none⟩ = some (.int .i64 m) ∧ w'.cell? ⟨w.heap.size, 4, none⟩ = some (.int .i64 k) ∧ w'.cell? ⟨w.heap.size, 5, none⟩ = some (.int .i64 e))
    (first | exact ⟨k0, k1, k2, k3, k4, k5⟩ | exact ⟨cell_later hb2 k0, cell_later hb2 k1, cell_later hb2 k2, cell_later hb2 k3, cell_later hb2 k4, cell_later hb2 k5⟩)
    (first
    | (go_at_call 65; refine (leastT_any c t x m k e W.drew).mono ?_; rintro r w2 ⟨rfl, hb2⟩)
    | (go_at_call 61; refine (within_any _ _ _ _).mono ?_; rintro r w3 ⟨rfl, hw3⟩; obtain rfl := hw3.symm))
  all_goals
    go_wp2_with fail
    go_ret
    exact ⟨ret_b H.out.symm, HE.out.drew.trans (hb2.mono s1)⟩
end Go.Proofs.YteibaiflljcghaaDoor
/- Walks of package spec: the array of a description's numbers. -/
namespace Go.Proofs.YteibaiflljcghaaDoor
open Go.RowKit

/-- A description's numbers: what reads each, what sets it, and what tells whether it fits. -/
def partsA : Array Value := #[.func (.func 58) #[] #[], .func (.func 59) #[] #[], .func (.func 60) #[] #[], .func (.func 62) #[] #[], .func (.func 63) #[] #[], .func (.func 64) #[] #[], .func (.func 66) #[] #[], .func (.func 67) #[] #[], .func (.func 68) #[] #[], .func (.func 69) #[] #[], .func (.func 70) #[] #[], .func (.func 71) #[] #[], .func (.func 72) #[] #[], .func (.func 73) #[] #[], .func (.func 71) #[] #[], .func (.func 74) #[] #[], .func (.func 75) #[] #[], .func (.func 76) #[] #[]]

set_option maxHeartbeats 1000000 in
set_option maxRecDepth 100000 in
theorem parts_any (w : World) :
    Calls Tryd.prog 54 #[] w fun e w' => e = .returned (.agg partsA) ∧ Below w.heap.size w w' := by
  go_enter Tryd.func54, Tryd.ntmps54
  go_wp2_with fail
  refine bodyPost_ret (v := .agg partsA) ?_ rfl ⟨rfl, (Below.refl _ _).alloc (by simp) _⟩
  exact results_cell_row rfl _ _ _ 69 partsA (0, 0) _ rfl (heap_alloc_last w _) Tryd.underlying69 rfl (by kernel_rfl)
end Go.Proofs.YteibaiflljcghaaDoor
/- Walks of package spec: May. -/
namespace Go.Proofs.YteibaiflljcghaaDoor
open Go.RowKit

/-- Does the number at a place fit? -/
def fitB (s : Sp) (j : Nat) : Bool := match j with
  | 0 => fitC s
  | 1 => fitT s
  | 2 => fitX s
  | 3 => fitW s
  | 4 => fitW s
  | _ => fitE s
/-- Do the first ones fit? -/
def fitN (s : Sp) : Nat → Bool
  | 0 => true
  | j + 1 => fitN s j && fitB s j
def maySp (s : Sp) : Bool := fitN s 6
theorem fit_on {s : Sp} {j : Nat} (h : fitN s j = true) (h' : fitB s j = true) : fitN s (j + 1) = true := by
  show (fitN s j && fitB s j) = true; rw [h, h']; rfl
theorem fitN_no {s : Sp} {i : Nat} (h : fitB s i = false) : ∀ j, i < j → fitN s j = false
  | 0, hj => by omega
  | j + 1, hj => by
    show (fitN s j && fitB s j) = false
    rcases Nat.lt_or_ge i j with h1 | h1
    · rw [fitN_no h j h1]; rfl
    · rw [show j = i by omega, h]; simp
theorem spfit_no {s : Sp} (i : Nat) (hi : i < 6) (h : fitB s i = false) : maySp s = false := fitN_no h 6 hi

theorem idx0 (w : World) : (Instr.index 69 (.agg partsA) (.int .i64 0)).run Tryd.prog w = .ok (.agg #[.func (.func 58) #[] #[], .func (.func 59) #[] #[], .func (.func 60) #[] #[]]) w := by kernel_rfl
theorem idx1 (w : World) : (Instr.index 69 (.agg partsA) (.int .i64 1)).run Tryd.prog w = .ok (.agg #[.func (.func 62) #[] #[], .func (.func 63) #[] #[], .func (.func 64) #[] #[]]) w := by kernel_rfl
theorem idx2 (w : World) : (Instr.index 69 (.agg partsA) (.int .i64 2)).run Tryd.prog w = .ok (.agg #[.func (.func 66) #[] #[], .func (.func 67) #[] #[], .func (.func 68) #[] #[]]) w := by kernel_rfl
theorem idx3 (w : World) : (Instr.index 69 (.agg partsA) (.int .i64 3)).run Tryd.prog w = .ok (.agg #[.func (.func 69) #[] #[], .func (.func 70) #[] #[], .func (.func 71) #[] #[]]) w := by kernel_rfl
theorem idx4 (w : World) : (Instr.index 69 (.agg partsA) (.int .i64 4)).run Tryd.prog w = .ok (.agg #[.func (.func 72) #[] #[], .func (.func 73) #[] #[], .func (.func 71) #[] #[]]) w := by kernel_rfl
theorem idx5 (w : World) : (Instr.index 69 (.agg partsA) (.int .i64 5)).run Tryd.prog w = .ok (.agg #[.func (.func 74) #[] #[], .func (.func 75) #[] #[], .func (.func 76) #[] #[]]) w := by kernel_rfl

set_option maxHeartbeats 1000000 in
set_option maxRecDepth 100000 in
theorem spmay_any (c t x m k e : Int) (w : World) :
    Calls Tryd.prog 40 #[.agg #[.int .i64 c, .int .i64 t, .int .i64 x, .int .i64 m, .int .i64 k, .int .i64 e]] w fun r w' => r = .returned (.bool (maySp ⟨c, t, x, m, k, e⟩)) ∧ Below w.heap.size w w' := by
  go_enter Tryd.func40, Tryd.ntmps40
  go_wp2_with fail
  refine (parts_any _).mono ?_
  rintro r w1 ⟨rfl, hb1⟩
  have hb : Below w.heap.size w w1 := ((Below.refl _ _).alloc (by simp) _).trans (hb1.mono (by simp))
  have c0 : w1.cell? ⟨w.heap.size, 0, none⟩ = some (.int .i64 c) := (hb1.cell (p := ⟨w.heap.size, 0, none⟩) (by simp)).trans (by simp)
  have c1 : w1.cell? ⟨w.heap.size, 1, none⟩ = some (.int .i64 t) := (hb1.cell (p := ⟨w.heap.size, 1, none⟩) (by simp)).trans (by simp)
  have c2 : w1.cell? ⟨w.heap.size, 2, none⟩ = some (.int .i64 x) := (hb1.cell (p := ⟨w.heap.size, 2, none⟩) (by simp)).trans (by simp)
  have c3 : w1.cell? ⟨w.heap.size, 3, none⟩ = some (.int .i64 m) := (hb1.cell (p := ⟨w.heap.size, 3, none⟩) (by simp)).trans (by simp)
  have c4 : w1.cell? ⟨w.heap.size, 4, none⟩ = some (.int .i64 k) := (hb1.cell (p := ⟨w.heap.size, 4, none⟩) (by simp)).trans (by simp)
  have c5 : w1.cell? ⟨w.heap.size, 5, none⟩ = some (.int .i64 e) := (hb1.cell (p := ⟨w.heap.size, 5, none⟩) (by simp)).trans (by simp)
  clear hb1
  go_wp2_with fail
  go_loopw [6] (fun i wr => ∃ (j : Nat), j ≤ 6 ∧ i = .int .i64 j ∧ Below w1.heap.size w1 wr ∧ Hid (fitN ⟨c, t, x, m, k, e⟩ j = true)) (fun i _ => ((6 : Int) - intOf i).toNat)
  case atStart => exact ⟨0, by omega, rfl, Below.refl _ _, rfl⟩
  case round =>
    obtain ⟨j, hj, rfl, hbw, HF⟩ := hrel
    have s1 := hbw.size
    have e0 := cell_later hbw c0
    have e1 := cell_later hbw c1
    have e2 := cell_later hbw c2
    have e3 := cell_later hbw c3
    have e4 := cell_later hbw c4
    have e5 := cell_later hbw c5
    have s2 : w.heap.size < wr.heap.size := World.block_lt_of_cell? _ _ e0
    rcases (show j = 0 ∨ j = 1 ∨ j = 2 ∨ j = 3 ∨ j = 4 ∨ j = 5 ∨ j = 6 by omega) with rfl | rfl | rfl | rfl | rfl | rfl | rfl
    · have hix := idx0
      cases hg : fitC ⟨c, t, x, m, k, e⟩
      · have HG : Hid (fitC ⟨c, t, x, m, k, e⟩ = false) := hg
        clear hg
        go_wp2_with fail
        refine (fitC_any c t x m k e _).mono ?_
        rintro r w3 ⟨rfl, hb3⟩
        rw [HG.out]
        go_wp2_with fail
        go_ret
        exact ⟨ret_b (spfit_no 0 (by omega) HG.out).symm, (hb.trans ((hbw.mono hb.size).alloc (by have := hb.size; omega) _)).trans (hb3.mono (by have := hb.size; simp; omega))⟩
      · have HG : Hid (fitC ⟨c, t, x, m, k, e⟩ = true) := hg
        clear hg
        go_wp2_with fail
        refine (fitC_any c t x m k e _).mono ?_
        rintro r w3 ⟨rfl, hb3⟩
        rw [HG.out]
        go_wp2_with fail
        go_roundw
        case rel => exact ⟨1, by omega, by go_num, (hbw.alloc s1 _).trans (hb3.mono (by simp; omega)), fit_on HF.out HG.out⟩
        case measure => simp [intOf]
    · have hix := idx1
      cases hg : fitT ⟨c, t, x, m, k, e⟩
      · have HG : Hid (fitT ⟨c, t, x, m, k, e⟩ = false) := hg
        clear hg
        go_wp2_with fail
        refine (fitT_any c t x m k e _).mono ?_
        rintro r w3 ⟨rfl, hb3⟩
        rw [HG.out]
        go_wp2_with fail
        go_ret
        exact ⟨ret_b (spfit_no 1 (by omega) HG.out).symm, (hb.trans ((hbw.mono hb.size).alloc (by have := hb.size; omega) _)).trans (hb3.mono (by have := hb.size; simp; omega))⟩
      · have HG : Hid (fitT ⟨c, t, x, m, k, e⟩ = true) := hg
        clear hg
        go_wp2_with fail
        refine (fitT_any c t x m k e _).mono ?_
        rintro r w3 ⟨rfl, hb3⟩
        rw [HG.out]
        go_wp2_with fail
        go_roundw
        case rel => exact ⟨2, by omega, by go_num, (hbw.alloc s1 _).trans (hb3.mono (by simp; omega)), fit_on HF.out HG.out⟩
        case measure => simp [intOf]
    · have hix := idx2
      cases hg : fitX ⟨c, t, x, m, k, e⟩
      · have HG : Hid (fitX ⟨c, t, x, m, k, e⟩ = false) := hg
        clear hg
        go_wp2_with fail
        refine (fitX_any c t x m k e _).mono ?_
        rintro r w3 ⟨rfl, hb3⟩
        rw [HG.out]
        go_wp2_with fail
        go_ret
        exact ⟨ret_b (spfit_no 2 (by omega) HG.out).symm, (hb.trans ((hbw.mono hb.size).alloc (by have := hb.size; omega) _)).trans (hb3.mono (by have := hb.size; simp; omega))⟩
      · have HG : Hid (fitX ⟨c, t, x, m, k, e⟩ = true) := hg
        clear hg
        go_wp2_with fail
        refine (fitX_any c t x m k e _).mono ?_
        rintro r w3 ⟨rfl, hb3⟩
        rw [HG.out]
        go_wp2_with fail
        go_roundw
        case rel => exact ⟨3, by omega, by go_num, (hbw.alloc s1 _).trans (hb3.mono (by simp; omega)), fit_on HF.out HG.out⟩
        case measure => simp [intOf]
    · have hix := idx3
      cases hg : fitW ⟨c, t, x, m, k, e⟩
      · have HG : Hid (fitW ⟨c, t, x, m, k, e⟩ = false) := hg
        clear hg
        go_wp2_with fail
        refine (fitW_any c t x m k e _).mono ?_
        rintro r w3 ⟨rfl, hb3⟩
        rw [HG.out]
        go_wp2_with fail
        go_ret
        exact ⟨ret_b (spfit_no 3 (by omega) HG.out).symm, (hb.trans ((hbw.mono hb.size).alloc (by have := hb.size; omega) _)).trans (hb3.mono (by have := hb.size; simp; omega))⟩
      · have HG : Hid (fitW ⟨c, t, x, m, k, e⟩ = true) := hg
        clear hg
        go_wp2_with fail
        refine (fitW_any c t x m k e _).mono ?_
        rintro r w3 ⟨rfl, hb3⟩
        rw [HG.out]
        go_wp2_with fail
        go_roundw
        case rel => exact ⟨4, by omega, by go_num, (hbw.alloc s1 _).trans (hb3.mono (by simp; omega)), fit_on HF.out HG.out⟩
        case measure => simp [intOf]
    · have hix := idx4
      cases hg : fitW ⟨c, t, x, m, k, e⟩
      · have HG : Hid (fitW ⟨c, t, x, m, k, e⟩ = false) := hg
        clear hg
        go_wp2_with fail
        refine (fitW_any c t x m k e _).mono ?_
        rintro r w3 ⟨rfl, hb3⟩
        rw [HG.out]
        go_wp2_with fail
        go_ret
        exact ⟨ret_b (spfit_no 4 (by omega) HG.out).symm, (hb.trans ((hbw.mono hb.size).alloc (by have := hb.size; omega) _)).trans (hb3.mono (by have := hb.size; simp; omega))⟩
      · have HG : Hid (fitW ⟨c, t, x, m, k, e⟩ = true) := hg
        clear hg
        go_wp2_with fail
        refine (fitW_any c t x m k e _).mono ?_
        rintro r w3 ⟨rfl, hb3⟩
        rw [HG.out]
        go_wp2_with fail
        go_roundw
        case rel => exact ⟨5, by omega, by go_num, (hbw.alloc s1 _).trans (hb3.mono (by simp; omega)), fit_on HF.out HG.out⟩
        case measure => simp [intOf]
    · have hix := idx5
      cases hg : fitE ⟨c, t, x, m, k, e⟩
      · have HG : Hid (fitE ⟨c, t, x, m, k, e⟩ = false) := hg
        clear hg
        go_wp2_with fail
        refine (fitE_any c t x m k e _).mono ?_
        rintro r w3 ⟨rfl, hb3⟩
        rw [HG.out]
        go_wp2_with fail
        go_ret
        exact ⟨ret_b (spfit_no 5 (by omega) HG.out).symm, (hb.trans ((hbw.mono hb.size).alloc (by have := hb.size; omega) _)).trans (hb3.mono (by have := hb.size; simp; omega))⟩
      · have HG : Hid (fitE ⟨c, t, x, m, k, e⟩ = true) := hg
        clear hg
        go_wp2_with fail
        refine (fitE_any c t x m k e _).mono ?_
        rintro r w3 ⟨rfl, hb3⟩
        rw [HG.out]
        go_wp2_with fail
        go_roundw
        case rel => exact ⟨6, by omega, by go_num, (hbw.alloc s1 _).trans (hb3.mono (by simp; omega)), fit_on HF.out HG.out⟩
        case measure => simp [intOf]
    · go_wp2_with fail
      go_ret
      exact ⟨ret_b HF.out.symm, hb.trans (hbw.mono hb.size)⟩
end Go.Proofs.YteibaiflljcghaaDoor
/- A description's cells; walks of package spec: known, Stretch. -/
namespace Go.Proofs.YteibaiflljcghaaDoor
open Go.RowKit

def Sp.at (s : Sp) (i : Nat) : Int := match i with
  | 0 => s.c
  | 1 => s.t
  | 2 => s.x
  | 3 => s.m
  | 4 => s.k
  | _ => s.e
def spV (s : Sp) : Value := .agg #[.int .i64 s.c, .int .i64 s.t, .int .i64 s.x, .int .i64 s.m, .int .i64 s.k, .int .i64 s.e]
theorem maySp_eq (s : Sp) : maySp s = decide (1 ≤ s.c ∧ s.c ≤ 6 ∧ s.c ≤ s.t ∧ s.t ≤ s.x ∧ s.x ≤ 48 ∧ (1 ≤ s.m ∧ s.m ≤ s.k ∧ s.k ≤ 6) ∧ 0 ≤ s.e ∧ s.e ≤ 8 ∧ (s.e ≠ 0 ∨ s.t = s.x)) := by
  have e : maySp s = (((((fitC s && fitT s) && fitX s) && fitW s) && fitW s) && fitE s) := by
    show ((((((true && fitC s) && fitT s) && fitX s) && fitW s) && fitW s) && fitE s) = _
    rw [Bool.true_and]
  rw [e]
  unfold fitC fitT fitX fitW fitE wiB leT mayB
  rw [Bool.eq_iff_iff]
  simp only [Bool.and_eq_true, decide_eq_true_eq]
  by_cases h : s.e = 0
  · simp only [h, if_true]; omega
  · simp only [h, if_false]; omega

/-- Six numbers that lie in a block, and may be written. -/
def Six (w : World) (b : Nat) (f : Nat → Int) : Prop := ∀ i, i < 6 → w.cell? ⟨b, i, none⟩ = some (.int .i64 (f i)) ∧ w.frozen? ⟨b, i, none⟩ = false
theorem Six.new (w : World) (s : Sp) : Six (w.alloc (.cells #[.int .i64 s.c, .int .i64 s.t, .int .i64 s.x, .int .i64 s.m, .int .i64 s.k, .int .i64 s.e] 24)) w.heap.size s.at := by
  intro i hi
  rcases (show i = 0 ∨ i = 1 ∨ i = 2 ∨ i = 3 ∨ i = 4 ∨ i = 5 by omega) with rfl | rfl | rfl | rfl | rfl | rfl <;> exact ⟨by simp [Sp.at], by simp⟩
theorem Six.later {w w' : World} {b : Nat} {f : Nat → Int} (h : Six w b f) (hb : Below w.heap.size w w') : Six w' b f := by
  intro i hi
  obtain ⟨h1, h2⟩ := h i hi
  exact ⟨cell_later hb h1, (hb.frozen (p := ⟨b, i, none⟩) (World.block_lt_of_cell? _ _ h1)).trans h2⟩
theorem Six.lt {w : World} {b : Nat} {f : Nat → Int} (h : Six w b f) : b < w.heap.size := World.block_lt_of_cell? _ _ (h 0 (by omega)).1
theorem Six.set {w : World} {b : Nat} {f g : Nat → Int} (h : Six w b f) (j : Nat) (hj : j < 6) (v : Int) (hv : g j = v) (hg : ∀ i, i < 6 → i ≠ j → g i = f i) : Six (w.setCell ⟨b, j, none⟩ (.int .i64 v)) b g := by
  intro i hi
  obtain ⟨h1, h2⟩ := h i hi
  refine ⟨?_, by simpa using h2⟩
  by_cases e : i = j
  · subst e; rw [hv]; exact World.cell?_setCell_same _ _ _ h1
  · rw [World.cell?_setCell_other _ _ _ _ (by intro he; exact e (Addr.mk.injEq .. ▸ he).2.1.symm), hg i hi e]; exact h1

theorem Six.sp {w : World} {b : Nat} {c t x m k e : Int} (h : Six w b (Sp.at ⟨c, t, x, m, k, e⟩)) :
    w.cell? ⟨b, 0, none⟩ = some (.int .i64 c) ∧ w.cell? ⟨b, 1, none⟩ = some (.int .i64 t) ∧ w.cell? ⟨b, 2, none⟩ = some (.int .i64 x) ∧ w.cell? ⟨b, 3, none⟩ = some (.int .i64 m) ∧ w.cell? ⟨b, 4, none⟩ = some (.int .i64 k) ∧ w.cell? ⟨b, 5, none⟩ = some (.int .i64 e) ∧
    w.frozen? ⟨b, 0, none⟩ = false ∧ w.frozen? ⟨b, 1, none⟩ = false ∧ w.frozen? ⟨b, 2, none⟩ = false ∧ w.frozen? ⟨b, 3, none⟩ = false ∧ w.frozen? ⟨b, 4, none⟩ = false ∧ w.frozen? ⟨b, 5, none⟩ = false :=
  ⟨(h 0 (by omega)).1, (h 1 (by omega)).1, (h 2 (by omega)).1, (h 3 (by omega)).1, (h 4 (by omega)).1, (h 5 (by omega)).1, (h 0 (by omega)).2, (h 1 (by omega)).2, (h 2 (by omega)).2, (h 3 (by omega)).2, (h 4 (by omega)).2, (h 5 (by omega)).2⟩
set_option maxHeartbeats 1000000 in
set_option maxRecDepth 100000 in
theorem spone_any (w : World) :
    Calls Tryd.prog 24 #[] w fun r w' => r = .returned (spV ⟨2, 10, 20, 1, 2, 3⟩) ∧ Below w.heap.size w w' := by
  go_enter Tryd.func24, Tryd.ntmps24
  go_wp2_with fail
  refine bodyPost_ret (v := spV ⟨2, 10, 20, 1, 2, 3⟩) ?_ rfl ⟨rfl, ?_⟩
  · simp [results, Tryd.results24, go_sem, spV]
  · exact (Below.refl _ _).alloc (by simp) _
end Go.Proofs.YteibaiflljcghaaDoor
/- Walks of package spec: what sets a description's numbers. -/
namespace Go.Proofs.YteibaiflljcghaaDoor
open Go.RowKit
/-- Of a description the first numbers, else zeros. -/
def gN (s : Sp) (j i : Nat) : Int := if i < j then s.at i else 0
theorem Six.all {w : World} {b : Nat} {s : Sp} (h : Six w b (gN s 6)) : Six w b s.at := by
  intro i hi
  have := h i hi
  unfold gN at this
  rwa [if_pos hi] at this
theorem Six.zero {w : World} {b : Nat} (s : Sp) (h : Six w b (Sp.at ⟨0, 0, 0, 0, 0, 0⟩)) : Six w b (gN s 0) := by
  intro i hi
  have := h i hi
  rcases (show i = 0 ∨ i = 1 ∨ i = 2 ∨ i = 3 ∨ i = 4 ∨ i = 5 by omega) with rfl | rfl | rfl | rfl | rfl | rfl <;> exact this
end Go.Proofs.YteibaiflljcghaaDoor
/- Walks of the document's own answers of chapter 5: May. -/
namespace Go.Proofs.YteibaiflljcghaaDoor
open Go.RowKit

set_option maxHeartbeats 1000000 in
set_option maxRecDepth 100000 in
theorem refSp_any (c t x m k e : Int) (w : World) :
    Calls Tryd.prog 44 #[.agg #[.int .i64 c, .int .i64 t, .int .i64 x, .int .i64 m, .int .i64 k, .int .i64 e]] w fun r w' => r = .returned (.bool (maySp ⟨c, t, x, m, k, e⟩)) ∧ Below w.heap.size w w' := by
  have E := maySp_eq ⟨c, t, x, m, k, e⟩
  simp only at E
  by_cases c1 : 1 ≤ c
  rotate_left
  · have H : Hid (maySp ⟨c, t, x, m, k, e⟩ = false) := by show _ = _; rw [E]; exact decide_eq_false (by omega)
    clear E
    go_enter Tryd.func44, Tryd.ntmps44
    go_wp2_with fail
    refine (refMay_any m k _).mono ?_
    rintro r w1 ⟨rfl, rfl⟩
    go_wp2
    go_ret
    exact ⟨ret_b H.out.symm, (Below.refl _ _).alloc (by simp) _⟩
  by_cases c2 : c ≤ 6
  rotate_left
  · have H : Hid (maySp ⟨c, t, x, m, k, e⟩ = false) := by show _ = _; rw [E]; exact decide_eq_false (by omega)
    clear E
    go_enter Tryd.func44, Tryd.ntmps44
    go_wp2_with fail
    refine (refMay_any m k _).mono ?_
    rintro r w1 ⟨rfl, rfl⟩
    go_wp2
    go_ret
    exact ⟨ret_b H.out.symm, (Below.refl _ _).alloc (by simp) _⟩
  by_cases c3 : c ≤ t
  rotate_left
  · have H : Hid (maySp ⟨c, t, x, m, k, e⟩ = false) := by show _ = _; rw [E]; exact decide_eq_false (by omega)
    clear E
    go_enter Tryd.func44, Tryd.ntmps44
    go_wp2_with fail
    refine (refMay_any m k _).mono ?_
    rintro r w1 ⟨rfl, rfl⟩
    go_wp2
    go_ret
    exact ⟨ret_b H.out.symm, (Below.refl _ _).alloc (by simp) _⟩
  by_cases c4 : t ≤ x
  rotate_left
  · have H : Hid (maySp ⟨c, t, x, m, k, e⟩ = false) := by show _ = _; rw [E]; exact decide_eq_false (by omega)
    clear E
    go_enter Tryd.func44, Tryd.ntmps44
    go_wp2_with fail
    refine (refMay_any m k _).mono ?_
    rintro r w1 ⟨rfl, rfl⟩
    go_wp2
    go_ret
    exact ⟨ret_b H.out.symm, (Below.refl _ _).alloc (by simp) _⟩
  by_cases c5 : x ≤ 48
  rotate_left
  · have H : Hid (maySp ⟨c, t, x, m, k, e⟩ = false) := by show _ = _; rw [E]; exact decide_eq_false (by omega)
    clear E
    go_enter Tryd.func44, Tryd.ntmps44
    go_wp2_with fail
    refine (refMay_any m k _).mono ?_
    rintro r w1 ⟨rfl, rfl⟩
    go_wp2
    go_ret
    exact ⟨ret_b H.out.symm, (Below.refl _ _).alloc (by simp) _⟩
  cases hW : mayB m k
  · have H : Hid (maySp ⟨c, t, x, m, k, e⟩ = false) := by
      show _ = _; rw [E]; refine decide_eq_false fun h => ?_
      have := decide_eq_true (p := 1 ≤ m ∧ m ≤ k ∧ k ≤ 6) h.2.2.2.2.2.1
      unfold mayB at hW; rw [this] at hW; cases hW
    clear E
    go_enter Tryd.func44, Tryd.ntmps44
    go_wp2_with fail
    refine (refMay_any m k _).mono ?_
    rintro r w1 ⟨rfl, rfl⟩
    go_wp2
    go_ret
    exact ⟨ret_b H.out.symm, (Below.refl _ _).alloc (by simp) _⟩
  have hm := mayB_of hW
  by_cases c7 : 0 ≤ e
  rotate_left
  · have H : Hid (maySp ⟨c, t, x, m, k, e⟩ = false) := by show _ = _; rw [E]; exact decide_eq_false (by omega)
    clear E hm
    go_enter Tryd.func44, Tryd.ntmps44
    go_wp2_with fail
    refine (refMay_any m k _).mono ?_
    rintro r w1 ⟨rfl, rfl⟩
    go_wp2
    go_ret
    exact ⟨ret_b H.out.symm, (Below.refl _ _).alloc (by simp) _⟩
  by_cases c8 : e ≤ 8
  rotate_left
  · have H : Hid (maySp ⟨c, t, x, m, k, e⟩ = false) := by show _ = _; rw [E]; exact decide_eq_false (by omega)
    clear E hm
    go_enter Tryd.func44, Tryd.ntmps44
    go_wp2_with fail
    refine (refMay_any m k _).mono ?_
    rintro r w1 ⟨rfl, rfl⟩
    go_wp2
    go_ret
    exact ⟨ret_b H.out.symm, (Below.refl _ _).alloc (by simp) _⟩
  by_cases c9 : e = 0
  · subst c9
    by_cases c10 : t = x
    · have H : Hid (maySp ⟨c, t, x, m, k, 0⟩ = true) := by show _ = _; rw [E]; exact decide_eq_true (by omega)
      subst c10
      clear E hm
      go_enter Tryd.func44, Tryd.ntmps44
      go_wp2_with fail
      refine (refMay_any m k _).mono ?_
      rintro r w1 ⟨rfl, rfl⟩
      go_wp2
      go_ret
      exact ⟨ret_b H.out.symm, (Below.refl _ _).alloc (by simp) _⟩
    · have H : Hid (maySp ⟨c, t, x, m, k, 0⟩ = false) := by show _ = _; rw [E]; exact decide_eq_false (by omega)
      have c11 : (t == x) = false := by simpa using c10
      clear E hm
      go_enter Tryd.func44, Tryd.ntmps44
      go_wp2_with fail
      refine (refMay_any m k _).mono ?_
      rintro r w1 ⟨rfl, rfl⟩
      go_wp2
      go_ret
      exact ⟨ret_b H.out.symm, (Below.refl _ _).alloc (by simp) _⟩
  · have H : Hid (maySp ⟨c, t, x, m, k, e⟩ = true) := by show _ = _; rw [E]; exact decide_eq_true (by omega)
    have c10 : (e == 0) = false := by simpa using c9
    clear E hm
    go_enter Tryd.func44, Tryd.ntmps44
    go_wp2_with fail
    refine (refMay_any m k _).mono ?_
    rintro r w1 ⟨rfl, rfl⟩
    go_wp2
    go_ret
    exact ⟨ret_b H.out.symm, (Below.refl _ _).alloc (by simp) _⟩
end Go.Proofs.YteibaiflljcghaaDoor
/- What the arguments of a statement are, as the walks are told of them: descriptions, bytes. -/
namespace Go.Proofs.YteibaiflljcghaaDoor
open Go.ChangeShapes Go.WideShapes Go.RowKit Go.Deep Go.Joins
/-- One of a struct's fields, an integer. -/
theorem see_field {H : Type} {enc : TypeId × Value → H} {P : Program} {w : World} {base n : Nat} {spare : Nat → Bool} {held : Bool} {t : TypeId} {k : IntKind} {c : Value} {y : DataW H × List MemPlace} (ht : P.underlying t = some (.int k))
    (h : DataW.trod enc P w base spare held n t [c] = some y) : ∃ a, c = .int k a ∧ (Lit.int k a).wf = true := by
  obtain ⟨a, e, _, wa⟩ := DataW.trod_int ht h
  simp at e
  exact ⟨a, e, wa⟩
end Go.Proofs.YteibaiflljcghaaDoor
/- What the statement SpecLess comes to. -/
namespace Go.Proofs.YteibaiflljcghaaDoor
open Go.RowKit

theorem bstep {w5 w1 w2 : World} (hb : Below w1.heap.size w1 w2) (h : Below w5.heap.size w5 w1) : Below w5.heap.size w5 w2 := h.trans (hb.mono h.size)
theorem sBel {A : Prop} {w5 w1 : World} (h : A ∧ Below w5.heap.size w5 w1) : Below w5.heap.size w5 w1 := h.2
end Go.Proofs.YteibaiflljcghaaDoor
