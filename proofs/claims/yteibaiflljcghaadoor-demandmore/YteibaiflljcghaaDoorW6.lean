/- Walks of the document's own Floor, Ceil, Cmp and Beats, and of the chapter's examples. -/
import Derived.Test.YteibaiflljcghaaDoorW1
import Derived.ChangeKeysEq
import Derived.Lib.Mul64
namespace Go.Proofs.YteibaiflljcghaaDoor
open Go.RowKit
theorem cl_mul {a b : Int} (h : a / b * b < a) : cl a b = a / b + 1 := by
  have e := Int.ediv_mul_add_emod a b
  unfold cl
  rw [if_neg (by omega)]
theorem cl_mul0 {a b : Int} (hb : 1 ≤ b) (h : ¬ a / b * b < a) : cl a b = a / b := by
  have e := Int.ediv_mul_add_emod a b
  have e1 := Int.emod_nonneg a (show b ≠ 0 by omega)
  unfold cl
  rw [if_pos (by omega)]
end Go.Proofs.YteibaiflljcghaaDoor
