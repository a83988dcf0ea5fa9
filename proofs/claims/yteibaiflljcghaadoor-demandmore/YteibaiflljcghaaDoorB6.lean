/- The document's own answers of chapter 8: walks of Of, All and Ends; the chapter's example. -/
import Derived.Test.YteibaiflljcghaaDoorB5
import Derived.Test.YteibaiflljcghaaDoorE9
import Derived.Test.YteibaiflljcghaaDoorX4
import Derived.Maps.RangeWalk
import Derived.Maps.Views
import Derived.BigQuiet
import Derived.Test.YteibaiflljcghaaDoorU6
namespace Go.Proofs.YteibaiflljcghaaDoor
open Go.RowKit Go.Shelf
theorem at_le {s : Sp} {p u : Int} (h : maySp s = true) (h' : wiB p s.t s.x = true) : atV s p ≤ u ↔ s.c * s.m * 1048576 ≤ u * s.k * p := by
  obtain ⟨c0, c1, f2, f3, f4, ⟨m0, m1, k1⟩, _⟩ := may_facts h
  obtain ⟨p0, p1⟩ := of_decide_eq_true h'
  have e : atV s p = cl (s.c * s.m * 1048576) (s.k * p) := by unfold atV atB; rw [h, h']; rfl
  have hkp : 1 ≤ s.k * p := by
    have h1 : 1 * 1 ≤ s.k * p := Int.mul_le_mul (by omega) (by omega) (by omega) (by omega)
    omega
  rw [e, Int.mul_assoc u]
  refine ⟨fun hle => ?_, fun hle => cl_le_of hkp hle⟩
  have h1 := cl_ge (a := s.c * s.m * 1048576) hkp
  have h2 : cl (s.c * s.m * 1048576) (s.k * p) * (s.k * p) ≤ u * (s.k * p) := Int.mul_le_mul_of_nonneg_right hle (by omega)
  omega
end Go.Proofs.YteibaiflljcghaaDoor
