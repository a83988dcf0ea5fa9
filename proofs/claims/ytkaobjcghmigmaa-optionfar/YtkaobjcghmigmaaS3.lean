/- The walk of the statement RingFar: it returns true, and writes nothing that was there. -/
import Derived.Test.YtkaobjcghmigmaaV2
namespace Go.Proofs.Ytkaobjcghmigmaa
open Go.RowKit

theorem gd_put0 (zs : List Bool) (g : Bool) : gd ((g :: zs).take 60) 0 = g := rfl
theorem gd_put1 (zs : List Bool) (g : Bool) {i : Nat} (h : i < 59) : gd ((g :: zs).take 60) (i + 1) = gd zs i := by
  simp [gd, List.getD, h]
theorem cnt_put (zs : List Bool) (g : Bool) {j : Nat} (h : j < 59) : cnt (gd ((g :: zs).take 60)) 0 (j + 1) = g.toNat + cnt (gd zs) 0 j := by
  rw [cnt_head, gd_put0]
  congr 1
  refine cnt_congr fun i hi => ?_
  rw [Nat.zero_add, Nat.zero_add, Nat.add_comm 1 i, gd_put1 _ _ (by omega)]
theorem cnt_one (f : Nat → Bool) (a n : Nat) : cnt f a (n + 1) ≤ cnt f a n + 1 := by
  have := toNat_lt (f (a + n)); simp only [cnt]; omega

theorem far_bad {zs : List Bool} {m : Int} {k n : Nat} (k0 : 1 ≤ k) (k6 : k ≤ 6) (h : IsFar zs m k n) : IsFar ((false :: zs).take 60) m k (n - 1) := by
  obtain ⟨h0, h1, h2⟩ := h
  rcases Nat.eq_zero_or_pos n with rfl | hn
  · refine ⟨by omega, ?_, fun i hi => by omega⟩
    obtain ⟨j, rfl⟩ : ∃ j, k = j + 1 := ⟨k - 1, by omega⟩
    rw [Nat.zero_sub, Nat.sub_zero, cnt_put _ _ (by omega)]
    have := cnt_mono (gd zs) 0 (show j ≤ j + 1 by omega)
    rw [Nat.sub_zero] at h1
    simp; omega
  · refine ⟨by omega, ?_, fun i hi => ?_⟩
    · rw [show k - (n - 1) = k - n + 1 by omega, cnt_put _ _ (by omega)]; simpa using h1
    · rw [show k - i = k - (i + 1) + 1 by omega, cnt_put _ _ (by omega)]; simpa using h2 (i + 1) (by omega)

theorem far_good {zs : List Bool} {m : Int} {k n n' : Nat} (k6 : k ≤ 6) (h : IsFar zs m k n) (h' : IsFar ((true :: zs).take 60) m k n') : n ≤ n' := by
  obtain ⟨h0, h1, h2⟩ := h
  obtain ⟨g0, g1, g2⟩ := h'
  rcases Nat.lt_or_ge n' n with c | c
  · have a := h2 n' c
    obtain ⟨j, hj⟩ : ∃ j, k - n' = j + 1 := ⟨k - n' - 1, by omega⟩
    rw [hj, cnt_put _ _ (by omega)] at g1
    rw [hj] at a
    have := cnt_one (gd zs) 0 j
    simp at g1; omega
  · exact c

theorem far_zero {zs : List Bool} {m : Int} {k n : Nat} (h : IsFar zs m k n) : (n = 0 ↔ (cnt (gd zs) 0 k : Int) < m) := by
  obtain ⟨h0, h1, h2⟩ := h
  constructor
  · rintro rfl; simpa using h1
  · intro hc
    rcases Nat.eq_zero_or_pos n with h | h
    · exact h
    · have := h2 0 h; simp at this; omega
end Go.Proofs.Ytkaobjcghmigmaa
