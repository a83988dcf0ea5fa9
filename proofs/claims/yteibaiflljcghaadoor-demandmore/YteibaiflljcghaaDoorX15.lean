/- The law: no others have lesser squares. -/
import Derived.Test.YteibaiflljcghaaDoorX9
import Derived.Maps.AppendAt
namespace Go.Proofs.YteibaiflljcghaaDoor
open Go.RowKit

theorem lst7_succ (n : Nat) (g : Nat → Int) : lst7 (n + 1) g = lst7 n g ++ [g n] := by unfold lst7; rw [List.range_succ, List.map_append]; rfl
end Go.Proofs.YteibaiflljcghaaDoor
