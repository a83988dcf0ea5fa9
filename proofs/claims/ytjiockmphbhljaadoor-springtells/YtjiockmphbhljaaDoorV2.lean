/- What is kept in a statement whose order is drawn. -/
import Derived.Test.YtjiockmphbhljaaDoorR8
import Derived.Test.YtjiockmphbhljaaDoorW8
import Derived.Deep.RegionWith
import Derived.Deep.RegionHeld3
namespace Go.Proofs.YtjiockmphbhljaaDoor
open Go.RowKit

theorem below_step {w5 w1 w2 : World} (hb : Below w1.heap.size w1 w2) (h : Below w5.heap.size w5 w1) : Below w5.heap.size w5 w2 := h.trans (hb.mono h.size)
end Go.Proofs.YtjiockmphbhljaaDoor
