/- Walks: find, differ, ordered, May. -/
import Derived.Test.YtjaaabliefcgaaaH11
import Derived.Deep.RegionWith
namespace Go.Proofs.Ytjaaabliefcgaaa
open Go.RowKit
set_option linter.unusedVariables false

theorem below_next {B : Nat} {w w1 w2 : World} (h : Below B w w1) (k : Below w1.heap.size w1 w2) (hs : B ≤ w1.heap.size) : Below B w w2 := h.trans (k.mono hs)

theorem Its.front {w : World} {a : Option Addr} {n cap i : Nat} {xs : List (Int × Int)} (h : Its w (.slice a n cap) xs) (hi : i ≤ xs.length) : Its w (.slice a i cap) (xs.take i) := by
  obtain ⟨a', cap', e, h1, h2, h0, h3⟩ := h
  simp only [Value.slice.injEq] at e
  obtain ⟨rfl, rfl, rfl⟩ := e
  have hl : (xs.take i).length = i := by simp; omega
  refine ⟨a, cap, by rw [hl], by rw [hl]; omega, h2, h0, fun hx => ?_⟩
  obtain ⟨b, o, rfl, h4⟩ := h3 (by intro e; subst e; simp at hx)
  refine ⟨b, o, rfl, fun k hk => ?_⟩
  rw [hl] at hk
  rw [atI_take hk]; exact h4 k (by omega)
end Go.Proofs.Ytjaaabliefcgaaa
