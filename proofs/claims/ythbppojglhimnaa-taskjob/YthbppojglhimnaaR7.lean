/- Walks of package ring: List. -/
import Derived.Test.YthbppojglhimnaaR4
import Derived.Test.YthbppojglhimnaaA1
import Derived.Test.YthbppojglhimnaaM1
import Derived.Deep.RegionWith
namespace Go.Proofs.Ythbppojglhimnaa
open Go.RowKit
theorem Try.infoBool : (Try.prog.info? 4).map (fun i => (i.zero, i.size, i.bytes)) = some (some (.bool false), 1, 1) := by kernel_rfl

/-- A list of outcomes, as cells. -/
def bvs (xs : List Bool) : List Value := xs.map Value.bool
end Go.Proofs.Ythbppojglhimnaa
