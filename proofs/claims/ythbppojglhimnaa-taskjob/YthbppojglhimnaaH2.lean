/- Items as they lie; walks of the methods that a heap has. -/
import Derived.Test.YthbppojglhimnaaW1
import Derived.WalkKit
import Derived.WalkSpells
import Derived.Below
import Derived.BigRegion
namespace Go.Proofs.Ythbppojglhimnaa
open Go.RowKit

theorem cell_later {w w' : World} {p : Addr} {v : Value} (hb : Below w.heap.size w w') (hc : w.cell? p = some v) : w'.cell? p = some v :=
  (hb.cell (World.block_lt_of_cell? _ _ hc)).trans hc
end Go.Proofs.Ythbppojglhimnaa
