/- What is kept in a statement whose order is drawn. -/
import Derived.Test.YthbppojglhimnaaR9
import Derived.Deep.RegionHeld3
namespace Go.Proofs.Ythbppojglhimnaa
open Go.RowKit

theorem below_step {w5 w1 w2 : World} (hb : Below w1.heap.size w1 w2) (h : Below w5.heap.size w5 w1) : Below w5.heap.size w5 w2 := h.trans (hb.mono h.size)
theorem sB {A : Prop} {w5 w1 : World} (h : A ∧ Below w5.heap.size w5 w1) : Below w5.heap.size w5 w1 := h.2

theorem goodR_nat (zs : List Bool) (n : Nat) : goodR zs n = cnt (gd zs) 0 (min n zs.length) := by
  unfold goodR cntR; congr 1; split <;> omega
theorem ofZ_rev {zs : List Bool} (h : zs.length ≤ 60) : ofZ zs.reverse = zs := by
  unfold ofZ; rw [List.reverse_reverse]; exact List.take_of_length_le h
theorem rev_at {zs : List Bool} {j : Nat} (h : j < zs.length) : zs.reverse[j]? = some (gd zs (zs.length - 1 - j)) := by
  rw [List.getElem?_reverse h, List.getElem?_eq_getElem (by omega)]
  simp [gd, List.getElem?_eq_getElem (show zs.length - 1 - j < zs.length by omega)]
theorem ofZ_back (xs : List Bool) : (ofZ xs).reverse = xs.drop (xs.length - 60) := by
  unfold ofZ; rw [List.reverse_take]; simp

/-- The last elements of a list. -/
theorem Row.tail {w : World} {b o cap n : Nat} {xs : List Bool} (h : Row w (.slice (some ⟨b, o, none⟩) xs.length cap) xs) (hn : n < xs.length) :
    Row w (.slice (some ⟨b, o + n, none⟩) (xs.length - n) (cap - n)) (xs.drop n) := by
  obtain ⟨a, cap', e, h1, h2, h3⟩ := h
  simp only [Value.slice.injEq, true_and] at e
  obtain ⟨rfl, rfl⟩ := e
  refine ⟨some ⟨b, o + n, none⟩, cap - n, by simp, by simp; omega, by omega, fun _ => ⟨b, o + n, rfl, fun i x hi => ?_⟩⟩
  obtain ⟨b', o', e', h4⟩ := h3 (by intro e; subst e; simp at hn)
  simp only [Option.some.injEq, Addr.mk.injEq, and_true] at e'
  obtain ⟨rfl, rfl⟩ := e'
  rw [List.getElem?_drop] at hi
  have := h4 _ _ hi
  rwa [← Nat.add_assoc] at this
end Go.Proofs.Ythbppojglhimnaa
