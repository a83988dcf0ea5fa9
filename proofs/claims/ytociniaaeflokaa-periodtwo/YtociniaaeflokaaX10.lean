/- The law: what is pressed has no more than the load. -/
import Derived.Test.YtociniaaeflokaaX9
namespace Go.Proofs.Ytociniaaeflokaa
open Go.RowKit

/-- A list that is read, by its length and what each is. -/
theorem nums_open {w : World} {v : Value} {n : Nat} {g : Nat → Int} (h : Nums w v (lst7 n g)) : ∃ a cap, v = .slice a n cap ∧ n ≤ cap ∧ cap ≤ maxLen ∧ (0 < n → ∃ b o, a = some ⟨b, o, none⟩ ∧ ∀ i, i < n → w.cell? ⟨b, o + i, none⟩ = some (.int .i64 (g i))) := by
  obtain ⟨a, cap, rfl, h1, h2, h3⟩ := h
  rw [lst7_len] at h1 h3
  refine ⟨a, cap, by rw [lst7_len], h1, h2, fun hn => ?_⟩
  obtain ⟨b, o, rfl, h4⟩ := h3 (by intro e; have := congrArg List.length e; rw [lst7_len, List.length_nil] at this; omega)
  exact ⟨b, o, rfl, fun i hi => by rw [h4 i hi, lst7_at hi]⟩
end Go.Proofs.Ytociniaaeflokaa
