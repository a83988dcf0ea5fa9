/- Walks of package spec: the array of a description's numbers. -/
import Derived.Test.YtchhniejahbgcaaDoorE1
import Derived.Laws.EntriesVeiled
import Derived.Deep.WholeRow
namespace Go.Proofs.YtchhniejahbgcaaDoor
open Go.RowKit

/-- A description's numbers: what reads each, what sets it, and what tells whether it fits. -/
def partsA : Array Value := #[.func (.func 29) #[] #[], .func (.func 30) #[] #[], .func (.func 31) #[] #[], .func (.func 33) #[] #[], .func (.func 34) #[] #[], .func (.func 35) #[] #[], .func (.func 37) #[] #[], .func (.func 38) #[] #[], .func (.func 39) #[] #[], .func (.func 40) #[] #[], .func (.func 41) #[] #[], .func (.func 42) #[] #[], .func (.func 43) #[] #[], .func (.func 44) #[] #[], .func (.func 42) #[] #[], .func (.func 45) #[] #[], .func (.func 46) #[] #[], .func (.func 47) #[] #[]]

set_option maxHeartbeats 1000000 in
set_option maxRecDepth 100000 in
theorem parts_any (w : World) :
    Calls Tryd.prog 25 #[] w fun e w' => e = .returned (.agg partsA) ∧ Below w.heap.size w w' := by
  go_enter Tryd.func25, Tryd.ntmps25
  go_wp2_with fail
  refine bodyPost_ret (v := .agg partsA) ?_ rfl ⟨rfl, (Below.refl _ _).alloc (by simp) _⟩
  exact results_cell_row rfl _ _ _ 45 partsA (0, 0) _ rfl (heap_alloc_last w _) Tryd.underlying45 rfl (by kernel_rfl)
end Go.Proofs.YtchhniejahbgcaaDoor
