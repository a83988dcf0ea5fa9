/- Walks of package spec: the array of a description's numbers. -/
import Derived.Test.YthbppojglhimnaaE1
import Derived.Laws.EntriesVeiled
import Derived.Deep.WholeRow
namespace Go.Proofs.Ythbppojglhimnaa
open Go.RowKit

/-- A description's numbers: what reads each, what sets it, and what tells whether it fits. -/
def partsA : Array Value := #[.func (.func 33) #[] #[], .func (.func 34) #[] #[], .func (.func 35) #[] #[], .func (.func 37) #[] #[], .func (.func 38) #[] #[], .func (.func 39) #[] #[], .func (.func 41) #[] #[], .func (.func 42) #[] #[], .func (.func 43) #[] #[], .func (.func 44) #[] #[], .func (.func 45) #[] #[], .func (.func 46) #[] #[], .func (.func 47) #[] #[], .func (.func 48) #[] #[], .func (.func 46) #[] #[], .func (.func 49) #[] #[], .func (.func 50) #[] #[], .func (.func 51) #[] #[]]

set_option maxHeartbeats 1000000 in
set_option maxRecDepth 100000 in
theorem parts_any (w : World) :
    Calls Try.prog 29 #[] w fun e w' => e = .returned (.agg partsA) ∧ Below w.heap.size w w' := by
  go_enter Try.func29, Try.ntmps29
  go_wp2_with fail
  refine bodyPost_ret (v := .agg partsA) ?_ rfl ⟨rfl, (Below.refl _ _).alloc (by simp) _⟩
  exact results_cell_row rfl _ _ _ 63 partsA (0, 0) _ rfl (heap_alloc_last w _) Try.underlying63 rfl (by kernel_rfl)
end Go.Proofs.Ythbppojglhimnaa
