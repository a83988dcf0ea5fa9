/- Walks of package ring: List. -/
import Derived.Test.YtcdkocdjbpebpaaR4
import Derived.Test.YtcdkocdjbpebpaaA1
import Derived.Test.YtcdkocdjbpebpaaM1
import Derived.Deep.RegionWith
namespace Go.Proofs.Ytcdkocdjbpebpaa
open Go.RowKit
theorem Try.infoBool : (Try.prog.info? 4).map (fun i => (i.zero, i.size, i.bytes)) = some (some (.bool false), 1, 1) := by kernel_rfl

/-- A list of outcomes, as cells. -/
def bvs (xs : List Bool) : List Value := xs.map Value.bool
end Go.Proofs.Ytcdkocdjbpebpaa
