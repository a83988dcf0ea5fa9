/- What follows of the least period of units; what the statement PeriodUnits comes to. -/
import Derived.Test.YtociniaaeflokaaB9
namespace Go.Proofs.Ytociniaaeflokaa
open Go.RowKit Go.Shelf

theorem per_at {s : Sp} {j : Nat} (h : j < (perL s).length) : (perL s)[j] = rn s.t 1 j := by simp [perL, lst7]
theorem per_length (s : Sp) : (perL s).length = perN s := by unfold perL; rw [lst7_len]
/-- What is found is the first one. -/
theorem of_some {s : Sp} {u p : Int} (h : maySp s = true) (h' : wiB u 1 1048576 = true) (ho : ofO s u = some p) :
    s.t ≤ p ∧ p ≤ s.x ∧ atV s p ≤ u ∧ ∀ q, s.t ≤ q → q < p → ¬ atV s q ≤ u := by
  rw [of_yes h h'] at ho
  obtain ⟨h1, i, hi, rfl, h2⟩ := List.find?_eq_some_iff_getElem.1 ho
  have hN := per_len h
  have hl : i < perN s := by rwa [per_length] at hi
  rw [per_at hi] at h1 ⊢
  have e : rn s.t 1 i = s.t + i := by unfold rn; omega
  rw [e] at h1 ⊢
  refine ⟨by omega, by omega, by simpa using h1, fun q q0 q1 => ?_⟩
  have hj : (q - s.t).toNat < i := by omega
  have := h2 (q - s.t).toNat hj
  rw [per_at (by omega)] at this
  have e' : rn s.t 1 (q - s.t).toNat = q := by unfold rn; omega
  rw [e'] at this
  simpa using this
theorem of_none {s : Sp} {u : Int} (h : maySp s = true) (h' : wiB u 1 1048576 = true) (ho : ofO s u = none) {p : Int} (p0 : s.t ≤ p) (p1 : p ≤ s.x) : ¬ atV s p ≤ u := by
  rw [of_yes h h'] at ho
  have hN := per_len h
  have hj : (p - s.t).toNat < (perL s).length := by rw [per_length]; omega
  have := List.find?_eq_none.1 ho _ (List.getElem_mem hj)
  rw [per_at hj] at this
  have e' : rn s.t 1 (p - s.t).toNat = p := by unfold rn; omega
  rw [e'] at this
  simpa using this

theorem at_pos {s : Sp} {p : Int} (h : maySp s = true) (p0 : s.t ≤ p) (p1 : p ≤ s.x) : 1 ≤ atV s p ∧ atV s p ≤ 1048576 := by
  obtain ⟨c0, c1, f2, f3, f4, ⟨m0, m1, k1⟩, _⟩ := may_facts h
  have hw : wiB p s.t s.x = true := decide_eq_true ⟨p0, p1⟩
  have hcm : 1 * 1 ≤ s.c * s.m := Int.mul_le_mul c0 m0 (by omega) (by omega)
  constructor
  · have h1 := (at_le (u := atV s p) h hw).1 (Int.le_refl _)
    by_cases hz : 1 ≤ atV s p
    · exact hz
    · have h2 : atV s p * s.k ≤ 0 := Int.mul_nonpos_of_nonpos_of_nonneg (by omega) (by omega)
      have h3 : atV s p * s.k * p ≤ 0 := Int.mul_nonpos_of_nonpos_of_nonneg h2 (by omega)
      omega
  · refine (at_le h hw).2 ?_
    have h1 : s.c * s.m ≤ p * s.k := Int.mul_le_mul (by omega) m1 (by omega) (by omega)
    have e : 1048576 * s.k * p = p * s.k * 1048576 := by rw [Int.mul_assoc, Int.mul_comm, Int.mul_comm s.k p]
    rw [e]
    omega
theorem per_fall {s : Sp} {p q : Int} (h : maySp s = true) (p0 : s.t ≤ p) (pq : p ≤ q) (q1 : q ≤ s.x) : atV s q ≤ atV s p := by
  obtain ⟨c0, c1, f2, f3, f4, ⟨m0, m1, k1⟩, _⟩ := may_facts h
  have h1 := (at_le (u := atV s p) h (decide_eq_true ⟨p0, by omega⟩)).1 (Int.le_refl _)
  refine (at_le h (decide_eq_true ⟨by omega, q1⟩)).2 ?_
  have h2 := (at_pos h p0 (by omega)).1
  have h3 : 1 * 1 ≤ atV s p * s.k := Int.mul_le_mul h2 (by omega) (by omega) (by omega)
  have h4 : atV s p * s.k * p ≤ atV s p * s.k * q := Int.mul_le_mul_of_nonneg_left pq (by omega)
  omega
theorem least_at {s : Sp} (h : maySp s = true) : leastV s = atV s s.x := by
  obtain ⟨c0, c1, f2, f3, f4, _, e0, e1, f5⟩ := may_facts h
  unfold leastV
  by_cases he : s.e = 0
  · rw [if_pos he]
    rcases f5 with f5 | f5
    · exact absurd he f5
    · rw [f5]
  · rw [if_neg he]

/-- All that the statement asks. -/
theorem units_facts {s : Sp} {u : Int} (h : maySp s = true) (u0 : 1 ≤ u) (u1 : u ≤ 1048576) :
    (ofB s u = false ∧ ofP s u = 0 ∧ ¬ leastV s ≤ u) ∨ (ofB s u = true ∧ leastV s ≤ u ∧ s.t ≤ ofP s u ∧ ofP s u ≤ s.x ∧ atV s (ofP s u) ≤ u ∧ (ofP s u = s.t ∨ u < atV s (ofP s u - 1))) := by
  have h' : wiB u 1 1048576 = true := decide_eq_true ⟨u0, u1⟩
  obtain ⟨c0, c1, f2, f3, f4, _⟩ := may_facts h
  rw [least_at h]
  cases ho : ofO s u with
  | none => exact .inl ⟨by unfold ofB; rw [ho]; rfl, by unfold ofP; rw [ho]; rfl, of_none h h' ho f3 (Int.le_refl _)⟩
  | some p =>
    obtain ⟨g0, g1, g2, g3⟩ := of_some h h' ho
    have e : ofP s u = p := by unfold ofP; rw [ho]; rfl
    rw [e]
    refine .inr ⟨by unfold ofB; rw [ho]; rfl, Int.le_trans (per_fall h g0 g1 (Int.le_refl _)) g2, g0, g1, g2, ?_⟩
    by_cases hp : p = s.t
    · exact .inl hp
    · exact .inr (Int.not_le.1 (g3 (p - 1) (by omega) (by omega)))
theorem more_facts {s : Sp} {u v : Int} (h : maySp s = true) (u0 : 1 ≤ u) (uv : u ≤ v) (v1 : v ≤ 1048576) : ofB s u = true → ofB s v = true ∧ ofP s v ≤ ofP s u := by
  intro hu
  have h1 : wiB u 1 1048576 = true := decide_eq_true ⟨u0, by omega⟩
  have h2 : wiB v 1 1048576 = true := decide_eq_true ⟨by omega, v1⟩
  unfold ofB at hu
  obtain ⟨p, hp⟩ := Option.isSome_iff_exists.1 hu
  obtain ⟨g0, g1, g2, g3⟩ := of_some h h1 hp
  have ep : ofP s u = p := by unfold ofP; rw [hp]; rfl
  rw [ep]
  cases ho : ofO s v with
  | none => exact absurd (by omega : atV s p ≤ v) (of_none h h2 ho g0 g1)
  | some q =>
    obtain ⟨k0, k1, k2, k3⟩ := of_some h h2 ho
    have eq : ofP s v = q := by unfold ofP; rw [ho]; rfl
    rw [eq]
    refine ⟨by unfold ofB; rw [ho]; rfl, ?_⟩
    by_cases hq : q ≤ p
    · exact hq
    · exact absurd (by omega : atV s p ≤ v) (k3 p g0 (by omega))
theorem own_facts {s : Sp} {p : Int} (h : maySp s = true) (p0 : s.t ≤ p) (p1 : p ≤ s.x) :
    ofB s (atV s p) = true ∧ ofP s (atV s p) ≤ p ∧ atV s (ofP s (atV s p)) = atV s p := by
  obtain ⟨a0, a1⟩ := at_pos h p0 p1
  have h1 : wiB (atV s p) 1 1048576 = true := decide_eq_true ⟨a0, a1⟩
  cases ho : ofO s (atV s p) with
  | none => exact absurd (Int.le_refl _) (of_none h h1 ho p0 p1)
  | some q =>
    obtain ⟨g0, g1, g2, g3⟩ := of_some h h1 ho
    have eq : ofP s (atV s p) = q := by unfold ofP; rw [ho]; rfl
    rw [eq]
    have hq : q ≤ p := by
      by_cases hq : q ≤ p
      · exact hq
      · exact absurd (Int.le_refl _) (g3 p p0 (by omega))
    exact ⟨by unfold ofB; rw [ho]; rfl, hq, Int.le_antisymm g2 (per_fall h g0 hq p1)⟩
end Go.Proofs.Ytociniaaeflokaa
