/- Walks of package spec: the array of a description's numbers. -/
import Derived.Test.YtcdkocdjbpebpaaE1
import Derived.Laws.EntriesVeiled
import Derived.Deep.WholeRow
namespace Go.Proofs.Ytcdkocdjbpebpaa
open Go.RowKit

/-- A description's numbers: what reads each, what sets it, and what tells whether it fits. -/
def partsA : Array Value := #[.func (.func 74) #[] #[], .func (.func 75) #[] #[], .func (.func 76) #[] #[], .func (.func 78) #[] #[], .func (.func 79) #[] #[], .func (.func 80) #[] #[], .func (.func 82) #[] #[], .func (.func 83) #[] #[], .func (.func 84) #[] #[], .func (.func 85) #[] #[], .func (.func 86) #[] #[], .func (.func 87) #[] #[], .func (.func 88) #[] #[], .func (.func 89) #[] #[], .func (.func 87) #[] #[], .func (.func 90) #[] #[], .func (.func 91) #[] #[], .func (.func 92) #[] #[]]

set_option maxHeartbeats 1000000 in
set_option maxRecDepth 100000 in
theorem parts_any (w : World) :
    Calls Try.prog 48 #[] w fun e w' => e = .returned (.agg partsA) ∧ Below w.heap.size w w' := by
  go_enter Try.func48, Try.ntmps48
  go_wp2_with fail
  refine bodyPost_ret (v := .agg partsA) ?_ rfl ⟨rfl, (Below.refl _ _).alloc (by simp) _⟩
  exact results_cell_row rfl _ _ _ 87 partsA (0, 0) _ rfl (heap_alloc_last w _) Try.underlying87 rfl (by kernel_rfl)
end Go.Proofs.Ytcdkocdjbpebpaa
