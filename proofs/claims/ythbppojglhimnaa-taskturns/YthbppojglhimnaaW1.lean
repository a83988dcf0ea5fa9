/- Walks of frac's quotients: Floor and Ceil answer as chapter 1 says, for all arguments; so do the document's own. -/
import Derived.Test.YthbppojglhimnaaRows
import Derived.WalkKit
import Derived.WalkSpells
import Derived.Below
namespace Go.Proofs.Ythbppojglhimnaa
open Go.RowKit

/-- What is rounded up. -/
def cl (a b : Int) : Int := if a % b = 0 then a / b else a / b + 1

theorem ret_ib {k : IntKind} {a b : Int} {x y : Bool} (h : a = b) (h' : x = y) : Ending.returned (.tuple #[.int k a, .bool x]) = .returned (.tuple #[.int k b, .bool y]) := by rw [h, h']
theorem ret_i {k : IntKind} {a b : Int} (h : a = b) : Ending.returned (.int k a) = .returned (.int k b) := by rw [h]
theorem ret_b {a b : Bool} (h : a = b) : Ending.returned (.bool a) = .returned (.bool b) := by rw [h]
theorem cl_eq0 {a b : Int} (h : (a % b == 0) = true) : cl a b = a / b := by
  unfold cl; rw [if_pos (by simpa using h)]
theorem cl_eq1 {a b : Int} (h : (a % b == 0) = false) : cl a b = a / b + 1 := by
  unfold cl; rw [if_neg (by simpa using h)]

set_option maxHeartbeats 1000000 in
set_option maxRecDepth 100000 in
theorem ceil_yes (a b : Int) (w : World) (ha0 : 0 ≤ a) (ha : a ≤ 4611686018427387904) (hb0 : 1 ≤ b) (hb : b ≤ 4611686018427387904) :
    Calls Try.prog 32 #[.int .i64 a, .int .i64 b] w fun e w' => e = .returned (.tuple #[.int .i64 (cl a b), .bool true]) ∧ Below w.heap.size w w' := by
  have q0 : 0 ≤ a / b := Int.ediv_nonneg ha0 (by omega)
  have q1 : a / b ≤ a := Int.ediv_le_self _ ha0
  cases hm : (a % b == 0)
  · have HC : Hid (cl a b = a / b + 1) := cl_eq1 hm
    go_enter Try.func32, Try.ntmps32
    go_wp2
    go_ret2
    exact ⟨ret_ib HC.out.symm rfl, by repeat (first | exact Below.refl _ _ | refine Below.alloc ?_ (by simp <;> omega) _)⟩
  · have HC : Hid (cl a b = a / b) := cl_eq0 hm
    go_enter Try.func32, Try.ntmps32
    go_wp2
    go_ret2
    exact ⟨ret_ib HC.out.symm rfl, by repeat (first | exact Below.refl _ _ | refine Below.alloc ?_ (by simp <;> omega) _)⟩
end Go.Proofs.Ythbppojglhimnaa
