/- The statement on the least item. -/
import Derived.Test.YtjaaabliefcgaaaH14
import Derived.Laws.StructEq
import Derived.BigQuiet
import Derived.Deep.QuietTactic
namespace Go.Proofs.Ytjaaabliefcgaaa
open Go.RowKit
set_option linter.unusedVariables false

theorem drawn {B : Nat} {w w' : World} (h : Below B w w') (n : Nat) : Below B w (w'.drewN n) := ⟨h.os, h.tape, h.output, h.size, h.block⟩
end Go.Proofs.Ytjaaabliefcgaaa
