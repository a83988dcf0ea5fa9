/- What rounded quotients are to one another; the walk of the statement UnitsFall: it returns true, and writes nothing that was there. -/
import Derived.Test.YtociniaaeflokaaU6
namespace Go.Proofs.Ytociniaaeflokaa
open Go.RowKit

theorem cl_ge {a b : Int} (hb : 1 ≤ b) : a ≤ cl a b * b := by
  have e := Int.ediv_mul_add_emod a b
  have e0 := Int.emod_nonneg a (show b ≠ 0 by omega)
  have e1 := Int.emod_lt_of_pos a (show 0 < b by omega)
  have e2 : (a / b + 1) * b = a / b * b + b := by rw [Int.add_mul, Int.one_mul]
  unfold cl
  split <;> omega
theorem cl_lt {a b : Int} (hb : 1 ≤ b) : (cl a b - 1) * b < a := by
  have e := Int.ediv_mul_add_emod a b
  have e0 := Int.emod_nonneg a (show b ≠ 0 by omega)
  have e2 : (a / b - 1) * b = a / b * b - b := by rw [Int.sub_mul, Int.one_mul]
  have e3 : (a / b + 1 - 1) * b = a / b * b := by rw [Int.add_sub_cancel]
  unfold cl
  split <;> omega
theorem cl_le_of {a b n : Int} (hb : 1 ≤ b) (h : a ≤ n * b) : cl a b ≤ n := by
  have h1 := cl_lt (a := a) hb
  have h2 : (cl a b - 1) * b < n * b := by omega
  have := Int.lt_of_mul_lt_mul_right h2 (by omega)
  omega
end Go.Proofs.Ytociniaaeflokaa
