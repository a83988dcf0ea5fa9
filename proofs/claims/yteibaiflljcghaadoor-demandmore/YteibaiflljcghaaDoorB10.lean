/- What follows of the least period of units; what the statement PeriodUnits comes to. -/
import Derived.Test.YteibaiflljcghaaDoorB9
namespace Go.Proofs.YteibaiflljcghaaDoor
open Go.RowKit Go.Shelf
theorem at_pos {s : Sp} {p : Int} (h : maySp s = true) (p0 : s.t ≤ p) (p1 : p ≤ s.x) : 1 ≤ atV s p ∧ atV s p ≤ 1048576 := by
  obtain ⟨c0, c1, f2, f3, f4, ⟨m0, m1, k1⟩, _⟩ := may_facts h
  have hw : wiB p s.t s.x = true := decide_eq_true ⟨p0, p1⟩
  have hcm : 1 * 1 ≤ s.c * s.m := Int.mul_le_mul c0 m0 (by omega) (by omega)
  constructor
  · have h1 := (at_le (u := atV s p) h hw).1 (Int.le_refl _)
    by_cases hz : 1 ≤ atV s p
    · exact hz
    · have h2 : atV s p * s.k ≤ 0 := Int.mul_nonpos_of_nonpos_of_nonneg (by omega) (by omega)
      have h3 : atV s p * s.k * p ≤ 0 := Int.mul_nonpos_of_nonpos_of_nonneg h2 (by omega)
      omega
  · refine (at_le h hw).2 ?_
    have h1 : s.c * s.m ≤ p * s.k := Int.mul_le_mul (by omega) m1 (by omega) (by omega)
    have e : 1048576 * s.k * p = p * s.k * 1048576 := by rw [Int.mul_assoc, Int.mul_comm, Int.mul_comm s.k p]
    rw [e]
    omega
end Go.Proofs.YteibaiflljcghaaDoor
