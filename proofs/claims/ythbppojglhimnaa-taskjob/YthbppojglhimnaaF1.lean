/- What the statement SpecLess comes to. -/
import Derived.Test.YthbppojglhimnaaE13
import Derived.Deep.RegionHeld3
namespace Go.Proofs.Ythbppojglhimnaa
open Go.RowKit

theorem bstep {w5 w1 w2 : World} (hb : Below w1.heap.size w1 w2) (h : Below w5.heap.size w5 w1) : Below w5.heap.size w5 w2 := h.trans (hb.mono h.size)
theorem sBel {A : Prop} {w5 w1 : World} (h : A ∧ Below w5.heap.size w5 w1) : Below w5.heap.size w5 w1 := h.2
end Go.Proofs.Ythbppojglhimnaa
