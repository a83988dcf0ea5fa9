/- Walks of frac's Root and of the document's own Root, one invariant for both. -/
import Derived.Test.YthbppojglhimnaaW1
import Derived.ChangeKeysEq
import Derived.Lib.Mul64
import Derived.Deep.RegionWith
namespace Go.Proofs.Ythbppojglhimnaa
open Go.RowKit
theorem two_pow_pos (j : Nat) : (0 : Int) < 2 ^ j := Int.pow_pos (by omega)
end Go.Proofs.Ythbppojglhimnaa
