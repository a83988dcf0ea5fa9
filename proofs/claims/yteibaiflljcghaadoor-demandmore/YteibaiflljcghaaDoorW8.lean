/- One contract a call, for all arguments: the answer as a number and a bool. And the chapter's examples. -/
import Derived.Test.YteibaiflljcghaaDoorW1
import Derived.ChangeKeysEq
import Derived.Lib.Mul64
import Derived.Deep.RegionWith
import Derived.Test.YteibaiflljcghaaDoorW6
namespace Go.Proofs.YteibaiflljcghaaDoor
open Go.RowKit

def okB (a b : Int) : Bool := decide (0 ≤ a ∧ a ≤ 4611686018427387904 ∧ 1 ≤ b ∧ b ≤ 4611686018427387904)
def flV (a b : Int) : Int := bif okB a b then a / b else 0
def clV (a b : Int) : Int := bif okB a b then cl a b else 0
theorem okB_yes {a b : Int} (h : okq a b) : okB a b = true := by unfold okq at h; unfold okB; exact decide_eq_true h
theorem okB_no {a b : Int} (h : ¬ okq a b) : okB a b = false := by unfold okq at h; unfold okB; exact decide_eq_false h
theorem flV_yes {a b : Int} (h : okq a b) : flV a b = a / b := by unfold flV; rw [okB_yes h]; rfl
theorem flV_no {a b : Int} (h : ¬ okq a b) : flV a b = 0 := by unfold flV; rw [okB_no h]; rfl
theorem clV_yes {a b : Int} (h : okq a b) : clV a b = cl a b := by unfold clV; rw [okB_yes h]; rfl
theorem clV_no {a b : Int} (h : ¬ okq a b) : clV a b = 0 := by unfold clV; rw [okB_no h]; rfl
theorem floor_any (a b : Int) (w : World) :
    Calls Tryd.prog 31 #[.int .i64 a, .int .i64 b] w fun e w' => e = .returned (.tuple #[.int .i64 (flV a b), .bool (okB a b)]) ∧ Below w.heap.size w w' := by
  by_cases h : okq a b
  · rw [flV_yes h, okB_yes h]; exact floor_yes a b w h.1 h.2.1 h.2.2.1 h.2.2.2
  · rw [flV_no h, okB_no h]; exact floor_no a b w h
theorem ceil_any (a b : Int) (w : World) :
    Calls Tryd.prog 34 #[.int .i64 a, .int .i64 b] w fun e w' => e = .returned (.tuple #[.int .i64 (clV a b), .bool (okB a b)]) ∧ Below w.heap.size w w' := by
  by_cases h : okq a b
  · rw [clV_yes h, okB_yes h]; exact ceil_yes a b w h.1 h.2.1 h.2.2.1 h.2.2.2
  · rw [clV_no h, okB_no h]; exact ceil_no a b w h
end Go.Proofs.YteibaiflljcghaaDoor
