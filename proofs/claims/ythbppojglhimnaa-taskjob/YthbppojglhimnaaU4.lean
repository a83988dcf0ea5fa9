/- Walks of At, Top and Least of package units. -/
import Derived.Test.YthbppojglhimnaaH2
import Derived.Test.YthbppojglhimnaaV1
import Derived.ProofKit
import Derived.OpenShut
import Derived.Carry
import Derived.Lib.SmallJoins
import Derived.Deep.SlicePairs
import Derived.Test.YthbppojglhimnaaW1
import Derived.Test.YthbppojglhimnaaV2
import Derived.Test.YthbppojglhimnaaM1
import Derived.Test.YthbppojglhimnaaA1
import Derived.Test.YthbppojglhimnaaE1
import Derived.Test.YthbppojglhimnaaW4
import Derived.ChangeKeysEq
import Derived.Lib.Mul64
import Derived.Test.YthbppojglhimnaaE4
import Derived.Test.YthbppojglhimnaaF1
import Derived.Deep.RegionHeld3
namespace Go.Proofs.Ythbppojglhimnaa
open Go.RowKit
theorem may_facts {s : Sp} (h : maySp s = true) : 1 ≤ s.c ∧ s.c ≤ 6 ∧ s.c ≤ s.t ∧ s.t ≤ s.x ∧ s.x ≤ 48 ∧ (1 ≤ s.m ∧ s.m ≤ s.k ∧ s.k ≤ 6) ∧ 0 ≤ s.e ∧ s.e ≤ 8 ∧ (s.e ≠ 0 ∨ s.t = s.x) := by
  rw [maySp_eq] at h; exact of_decide_eq_true h
end Go.Proofs.Ythbppojglhimnaa
