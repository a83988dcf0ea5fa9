/- The walk of the statement PatWord: it returns true, and writes nothing that was there. -/
import Derived.Test.YtchhniejahbgcaaDoorA1
import Derived.Test.YtchhniejahbgcaaDoorM1
import Derived.Deep.RegionWith
namespace Go.Proofs.YtchhniejahbgcaaDoor
open Go.RowKit
/-- A row of bools that is the call's own, and is not empty. -/
theorem own_open {w : World} {base : Nat} {v : Value} {n : Nat} {xs : List Value} (h : w.ownsRow base 4 1 v n xs) (hn : 0 < n) :
    ∃ g cap, v = .slice (some ⟨g, 0, none⟩) n cap ∧ base ≤ g ∧ g < w.heap.size ∧ ∀ j u, xs[j]? = some u → w.cell? ⟨g, j, none⟩ = some u := by
  have hl := h.lt
  have hcs := fun g hg => h.cells (g := g) hg
  obtain ⟨_, ⟨rfl, hz⟩ | ⟨g, cap, cur, rfl, hb, hh, _⟩⟩ := h
  · omega
  · refine ⟨g, cap, rfl, hb, (hl g rfl).2, fun j u hj => ?_⟩
    have := hcs g rfl j u hj
    cases j with
    | zero => simpa [Addr.add] using this
    | succ j => simpa [Addr.add] using this
end Go.Proofs.YtchhniejahbgcaaDoor
