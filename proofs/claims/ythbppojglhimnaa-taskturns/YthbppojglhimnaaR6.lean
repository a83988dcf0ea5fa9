/- Walks of package ring: Fine and Far. -/
import Derived.Test.YthbppojglhimnaaR5
namespace Go.Proofs.Ythbppojglhimnaa
open Go.RowKit

/-- Of each k outcomes, one behind the other, at least m are good. -/
def FineP (zs : List Bool) (m : Int) (k : Nat) : Prop := ∀ s, s < zs.length + 1 - k → m ≤ (cnt (gd zs) s k : Int)
def fineB (zs : List Bool) (m : Int) (k : Nat) : Bool := decide (∀ s, s < zs.length + 1 - k → m ≤ (cnt (gd zs) s k : Int))
theorem fineB_yes {zs : List Bool} {m : Int} {k : Nat} (h : FineP zs m k) : fineB zs m k = true := decide_eq_true h
theorem fineB_not {zs : List Bool} {m : Int} {k : Nat} (h : ¬ FineP zs m k) : fineB zs m k = false := decide_eq_false h
/-- How far it is from too few good ones. -/
def IsFar (zs : List Bool) (m : Int) (k n : Nat) : Prop := n ≤ k ∧ (cnt (gd zs) 0 (k - n) : Int) < m ∧ ∀ i, i < n → m ≤ (cnt (gd zs) 0 (k - i) : Int)

theorem IsFar.unique {zs : List Bool} {m : Int} {k n n' : Nat} (h : IsFar zs m k n) (h' : IsFar zs m k n') : n = n' := by
  obtain ⟨_, a, b⟩ := h
  obtain ⟨_, a', b'⟩ := h'
  rcases Nat.lt_trichotomy n n' with c | c | c
  · have := b' n c; omega
  · exact c
  · have := b n' c; omega
end Go.Proofs.Ythbppojglhimnaa
