/- Structs of any kind, and lists of them, that are arguments: what they hold. -/
import Derived.Test.YtjaaabliefcgaaaP1
import Derived.Test.YtjaaabliefcgaaaV1
import Derived.ProofKit
import Derived.OpenShut
import Derived.Carry
import Derived.Lib.SmallJoins
import Derived.Deep.SlicePairs
import Derived.SizedLaws
namespace Go.Proofs.Ytjaaabliefcgaaa
open Go.ChangeShapes Go.WideShapes Go.RowKit Go.Deep Go.Joins

section
variable {α : Type} {R : Rec α}
/-- One struct. -/
theorem see_rec {H : Type} {enc : TypeId × Value → H} {P : Program} {w : World} {base b0 : Nat} {spare : Nat → Bool} {held : Bool} {r : Reach} {e : TypeId} {fs : Array Field} {v : Value} {d : DataW H} {p : List MemPlace}
    (hs : P.underlying e = some (.struct fs)) (ce : P.cellsOf e = R.K) (hrow : ∀ (w : World) (base : Nat) (spare : Nat → Bool) (held : Bool) (n : Nat) (cs : List Value) (y : DataW H × List MemPlace), cs.length = R.K → DataW.trod enc P w base spare held n e cs = some y → ∃ q, cs = R.row q)
    (hv : Value.okWide P w r b0 e v) (h : DataW.Trod enc P w base spare held e v d p) : ∃ q, v = .agg (R.row q).toArray := by
  obtain ⟨cs, rfl, hsz⟩ := okWide_struct hs hv
  obtain ⟨fuel, hf⟩ := h
  obtain ⟨q, hq⟩ := hrow _ _ _ _ _ _ _ (by have := hsz.trans ce; simpa [Value.cells] using this) hf
  refine ⟨q, ?_⟩
  obtain ⟨l⟩ := cs
  simp [Value.cells] at hq
  rw [hq]
/-- A list of structs. -/
theorem see_rows {H : Type} {enc : TypeId × Value → H} {P : Program} {w : World} {base b0 : Nat} {held : Bool} {r : Reach} {t e : TypeId} {v : Value} {d : DataW H} {p : List MemPlace} (x0 : α)
    (ht : P.underlying t = some (.slice e)) (ce : P.cellsOf e = R.K) (hrow : ∀ (w : World) (base : Nat) (spare : Nat → Bool) (held : Bool) (n : Nat) (cs : List Value) (y : DataW H × List MemPlace), cs.length = R.K → DataW.trod enc P w base spare held n e cs = some y → ∃ q, cs = R.row q)
    (hv : Value.okWide P w r b0 t v) (h : DataW.Trod enc P w base (fun _ => true) held t v d p) : ∃ n f, Rws R w v n f := by
  obtain ⟨a, len, cap, rfl⟩ := okWide_slice ht hv
  obtain ⟨fuel, hf⟩ := h
  rcases open_slice ht hf with ⟨hcs, _⟩ | ⟨x, l, c, m, k, D, Pl, hcs, _, hl, hm, hmm, hdp, hx⟩
  · simp [Value.cells] at hcs
    obtain ⟨rfl, rfl, rfl⟩ := hcs
    exact ⟨0, fun _ => x0, Rws.nil R w _⟩
  · simp [Value.cells] at hcs
    obtain ⟨rfl, rfl, rfl⟩ := hcs
    simp only [if_true] at hmm
    subst hmm
    have each : ∀ i, i < len → ∃ q : α, ∀ j, j < R.K → w.cell? (x.add (i * R.K + j)) = (R.row q)[j]? := by
      intro i hi
      obtain ⟨cs', k1, k2⟩ := hx i (by omega)
      rw [ce] at k1
      obtain ⟨_, hlen, hcell⟩ := World.cells?_some k1
      obtain ⟨q, rfl⟩ := hrow _ _ _ _ _ _ _ hlen k2
      refine ⟨q, fun j hj => ?_⟩
      have := hcell j (by omega)
      rw [add_add] at this
      exact this
    have : Inhabited α := ⟨x0⟩
    obtain ⟨q, hq⟩ := choose_lt each
    refine ⟨len, q, ⟨some x, m, rfl, hl, hm, fun h => by simp at h, fun hp => ?_⟩⟩
    obtain ⟨b, off, spot⟩ := x
    obtain ⟨u, hu⟩ := R.cell (q 0) R.pos
    have hspot : spot = none := by simpa [Addr.add] using World.cell?_spot ((hq 0 hp 0 R.pos).trans hu)
    subst hspot
    refine ⟨b, off, rfl, fun i hi j hj => ?_⟩
    have := hq i hi j hj
    rw [Go.WideShapes.add_plain] at this
    rwa [Nat.add_assoc]
end
end Go.Proofs.Ytjaaabliefcgaaa
