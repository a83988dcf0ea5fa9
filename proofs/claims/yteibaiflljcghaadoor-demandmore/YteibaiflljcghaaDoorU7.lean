/- What rounded quotients are to one another; the walk of the statement UnitsFall: it returns true, and writes nothing that was there. -/
import Derived.Test.YteibaiflljcghaaDoorU6
namespace Go.Proofs.YteibaiflljcghaaDoor
open Go.RowKit

theorem cl_ge {a b : Int} (hb : 1 ≤ b) : a ≤ cl a b * b := by
  have e := Int.ediv_mul_add_emod a b
  have e0 := Int.emod_nonneg a (show b ≠ 0 by omega)
  have e1 := Int.emod_lt_of_pos a (show 0 < b by omega)
  have e2 : (a / b + 1) * b = a / b * b + b := by rw [Int.add_mul, Int.one_mul]
  unfold cl
  split <;> omega
theorem cl_lt {a b : Int} (hb : 1 ≤ b) : (cl a b - 1) * b < a := by
  have e := Int.ediv_mul_add_emod a b
  have e0 := Int.emod_nonneg a (show b ≠ 0 by omega)
  have e2 : (a / b - 1) * b = a / b * b - b := by rw [Int.sub_mul, Int.one_mul]
  have e3 : (a / b + 1 - 1) * b = a / b * b := by rw [Int.add_sub_cancel]
  unfold cl
  split <;> omega
theorem cl_le_of {a b n : Int} (hb : 1 ≤ b) (h : a ≤ n * b) : cl a b ≤ n := by
  have h1 := cl_lt (a := a) hb
  have h2 : (cl a b - 1) * b < n * b := by omega
  have := Int.lt_of_mul_lt_mul_right h2 (by omega)
  omega
theorem le_cl_of {a b n : Int} (hb : 1 ≤ b) (h : (n - 1) * b < a) : n ≤ cl a b := by
  have h1 := cl_ge (a := a) hb
  have h2 : (n - 1) * b < cl a b * b := by omega
  have := Int.lt_of_mul_lt_mul_right h2 (by omega)
  omega
theorem cl_pos {a b : Int} (hb : 1 ≤ b) (ha : 1 ≤ a) : 1 ≤ cl a b := le_cl_of hb (by rw [Int.sub_self, Int.zero_mul]; omega)
theorem cl_anti {a b d : Int} (ha : 1 ≤ a) (hb : 1 ≤ b) (h : b ≤ d) : cl a d ≤ cl a b := by
  refine cl_le_of (by omega) (Int.le_trans (cl_ge hb) ?_)
  exact Int.mul_le_mul_of_nonneg_left h (by have := cl_pos hb ha; omega)
theorem cl_mono6 {a d b : Int} (hb : 1 ≤ b) (h : a ≤ d) : cl a b ≤ cl d b := cl_le_of hb (Int.le_trans h (cl_ge hb))

theorem atV_yes {s : Sp} {p : Int} (h : maySp s = true) (h0 : s.t ≤ p) (h1 : p ≤ s.x) : atV s p = cl (s.c * s.m * 1048576) (s.k * p) := by
  unfold atV atB wiB; rw [h, decide_eq_true ⟨h0, h1⟩]; rfl
end Go.Proofs.YteibaiflljcghaaDoor
