/- What the arguments of a statement are, as the walks are told of them: items. -/
import Derived.Test.YtociniaaeflokaaH2
import Derived.Test.YtociniaaeflokaaV1
import Derived.ProofKit
import Derived.OpenShut
import Derived.Carry
import Derived.Lib.SmallJoins
import Derived.Deep.SlicePairs
namespace Go.Proofs.Ytociniaaeflokaa
open Go.ChangeShapes Go.WideShapes Go.RowKit Go.Deep Go.Joins
/-- A list of integers that is read. -/
def Nums (w : World) (v : Value) (ks : List Int) : Prop :=
  ∃ a cap, v = .slice a ks.length cap ∧ ks.length ≤ cap ∧ cap ≤ maxLen ∧ (ks ≠ [] → ∃ b o, a = some ⟨b, o, none⟩ ∧ ∀ i, i < ks.length → w.cell? ⟨b, o + i, none⟩ = some (.int .i64 (ks.getD i 0)))
end Go.Proofs.Ytociniaaeflokaa
