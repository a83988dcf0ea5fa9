/- What the statement PeriodTells comes to. -/
import Derived.Test.YteibaiflljcghaaDoorB6
import Derived.Test.YteibaiflljcghaaDoorU6
import Derived.Test.YteibaiflljcghaaDoorF1
import Derived.Deep.RegionHeld3
namespace Go.Proofs.YteibaiflljcghaaDoor
open Go.RowKit Go.Shelf

theorem all_len (s : Sp) : (allL s).length ≤ 100000 := by
  cases h : maySp s with
  | false => rw [all_no h]; exact Nat.zero_le _
  | true =>
    rw [all_yes h]
    unfold perL
    rw [lst7_len]
    obtain ⟨c0, c1, f2, f3, f4, _⟩ := may_facts h
    unfold perN; omega
end Go.Proofs.YteibaiflljcghaaDoor
