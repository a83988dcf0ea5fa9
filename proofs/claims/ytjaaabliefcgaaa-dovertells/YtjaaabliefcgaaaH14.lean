/- Walks: Pop. -/
import Derived.Test.YtjaaabliefcgaaaH12
import Derived.Deep.RegionWith
namespace Go.Proofs.Ytjaaabliefcgaaa
open Go.RowKit
set_option linter.unusedVariables false
theorem World.ownsRow.lower {w : World} {B B' : Nat} {v : Value} {n : Nat} {xs : List Value} (h : w.ownsRow B' 50 2 v n xs) (hB : B ≤ B') : w.ownsRow B 50 2 v n xs := by
  obtain ⟨o1, o2⟩ := h
  refine ⟨o1, o2.imp id ?_⟩
  rintro ⟨g, c, cur, e, r1, r2⟩
  exact ⟨g, c, cur, e, Nat.le_trans hB r1, r2⟩
end Go.Proofs.Ytjaaabliefcgaaa
