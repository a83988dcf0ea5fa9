/- The least period of units: walks of within and Of of package period. -/
import Derived.Test.YteibaiflljcghaaDoorB2
namespace Go.Proofs.YteibaiflljcghaaDoor
open Go.RowKit Go.Shelf
attribute [local go_sem] Oper.semAt_some

/-- How many periods a task may have, and which. -/
def perN (s : Sp) : Nat := (s.x - s.t + 1).toNat
def perL (s : Sp) : List Int := lst7 (perN s) (rn s.t 1)
theorem per_runs {s : Sp} (h : maySp s = true) : Runs s.t 1 s.x (perN s) := by
  obtain ⟨c0, c1, f2, f3, f4, _⟩ := may_facts h
  have e : ((perN s : Nat) : Int) = s.x - s.t + 1 := by unfold perN; omega
  refine ⟨by omega, by omega, by omega, by omega, by omega, fun i hi => ?_, ?_⟩
  · unfold rn; have : (i : Int) < perN s := by exact_mod_cast hi
    omega
  · unfold rn; omega
end Go.Proofs.YteibaiflljcghaaDoor
