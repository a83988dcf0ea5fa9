/- Walks of package spec: the array of a description's numbers. -/
import Derived.Test.YtpnmdpffdeebmaaE1
import Derived.Laws.EntriesVeiled
import Derived.Deep.WholeRow
namespace Go.Proofs.Ytpnmdpffdeebmaa
open Go.RowKit

/-- A description's numbers: what reads each, what sets it, and what tells whether it fits. -/
def partsA : Array Value := #[.func (.func 22) #[] #[], .func (.func 23) #[] #[], .func (.func 24) #[] #[], .func (.func 26) #[] #[], .func (.func 27) #[] #[], .func (.func 28) #[] #[], .func (.func 30) #[] #[], .func (.func 31) #[] #[], .func (.func 32) #[] #[], .func (.func 33) #[] #[], .func (.func 34) #[] #[], .func (.func 35) #[] #[], .func (.func 36) #[] #[], .func (.func 37) #[] #[], .func (.func 35) #[] #[], .func (.func 38) #[] #[], .func (.func 39) #[] #[], .func (.func 40) #[] #[]]

set_option maxHeartbeats 1000000 in
set_option maxRecDepth 100000 in
theorem parts_any (w : World) :
    Calls Try.prog 19 #[] w fun e w' => e = .returned (.agg partsA) ∧ Below w.heap.size w w' := by
  go_enter Try.func19, Try.ntmps19
  go_wp2_with fail
  refine bodyPost_ret (v := .agg partsA) ?_ rfl ⟨rfl, (Below.refl _ _).alloc (by simp) _⟩
  exact results_cell_row rfl _ _ _ 43 partsA (0, 0) _ rfl (heap_alloc_last w _) Try.underlying43 rfl (by kernel_rfl)
end Go.Proofs.Ytpnmdpffdeebmaa
