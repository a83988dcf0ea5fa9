/- The walk of the statement RingEven: it returns true, and writes nothing that was there. -/
import Derived.Test.YtociniaaeflokaaR8
import Derived.Test.YtociniaaeflokaaM1
import Derived.Deep.RegionWith
import Derived.Deep.RegionHeld3
import Derived.Test.YtociniaaeflokaaA1
namespace Go.Proofs.Ytociniaaeflokaa
open Go.RowKit

theorem own_later {w w' : World} {base n : Nat} {e : TypeId} {size : Nat} {v : Value} {xs : List Value} (h : w.ownsRow base e size v n xs) (hb : Below w.heap.size w w') : w'.ownsRow base e size v n xs := by
  have hl := h.lt
  obtain ⟨h0, h1 | ⟨g, cap, cur, rfl, h2, h3, h4⟩⟩ := h
  · exact ⟨h0, .inl h1⟩
  · exact ⟨h0, .inr ⟨g, cap, cur, rfl, h2, by rw [hb.block g (hl g rfl).2]; exact h3, h4⟩⟩
end Go.Proofs.Ytociniaaeflokaa
