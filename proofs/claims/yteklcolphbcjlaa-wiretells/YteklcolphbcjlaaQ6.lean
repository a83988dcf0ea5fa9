/- Texts that belong together, one behind the other: P0. -/
import Derived.Test.YteklcolphbcjlaaQ1
import Derived.Laws.AppendOwnNone
import Derived.OwnWalk
/- A row of the call's own stays, whatever becomes of younger blocks. -/
namespace Go.Proofs.Yteklcolphbcjlaa
open Go.RowKit

theorem own_laterF {w w' : World} {base n : Nat} {e : TypeId} {size : Nat} {v : Value} {xs : List Value} (h : w.ownsRow base e size v n xs) (hb : Below w.heap.size w w') : w'.ownsRow base e size v n xs := by
  have hl := h.lt
  obtain ⟨h0, h1 | ⟨g, cap, cur, rfl, h2, h3, h4⟩⟩ := h
  · exact ⟨h0, .inl h1⟩
  · exact ⟨h0, .inr ⟨g, cap, cur, rfl, h2, by rw [hb.block g (hl g rfl).2]; exact h3, h4⟩⟩
end Go.Proofs.Yteklcolphbcjlaa
