/- Walks of package job: Worst, Left. -/
import Derived.Test.YthbppojglhimnaaJ3
import Derived.Test.YthbppojglhimnaaV2
import Derived.Deep.RegionHeld3
import Derived.Shelf.Abstract
namespace Go.Proofs.Ythbppojglhimnaa
open Go.RowKit Go.Shelf
theorem lft_min (j : Jb) : (rstV j.d j.ran < wstV j → lftV j = rstV j.d j.ran) ∧ (wstV j ≤ rstV j.d j.ran → lftV j = wstV j) ∧ 0 ≤ wstV j ∧ 0 ≤ rstV j.d j.ran := by
  obtain ⟨o, n, r, u, b, c, d, x⟩ := j
  cases o
  · simp only [lftV, wstV, rstV]
    simp
    split <;> omega
  · by_cases h1 : x < c <;> by_cases h2 : x < d <;> by_cases h3 : d < c <;> simp [lftV, wstV, rstV, h1, h2, h3] <;> omega
end Go.Proofs.Ythbppojglhimnaa
