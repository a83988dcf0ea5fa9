import Derived.Test.YtmiakknagjncpaaGreatDoorY10
import Derived.Test.YtmiakknagjncpaaGreatDoorV9
/- A list of descriptions that is an argument: what it holds. -/
namespace Go.Proofs.YtmiakknagjncpaaGreatDoor
open Go.ChangeShapes Go.WideShapes Go.RowKit Go.Deep Go.Joins

/-- A list of structs of six integers. -/
theorem see_specs {H : Type} {enc : TypeId × Value → H} {P : Program} {w : World} {base b0 : Nat} {held : Bool} {r : Reach} {t e : TypeId} {g0 g1 g2 g3 g4 g5 : Field} {v : Value} {d : DataW H} {p : List MemPlace}
    (ht : P.underlying t = some (.slice e)) (ce : P.cellsOf e = 6) (hs : P.underlying e = some (.struct #[g0, g1, g2, g3, g4, g5])) (hone : oneCellFields P #[g0, g1, g2, g3, g4, g5] = true)
    (u0 : P.underlying g0.type = some (.int .i64)) (u1 : P.underlying g1.type = some (.int .i64)) (u2 : P.underlying g2.type = some (.int .i64)) (u3 : P.underlying g3.type = some (.int .i64)) (u4 : P.underlying g4.type = some (.int .i64)) (u5 : P.underlying g5.type = some (.int .i64))
    (hv : Value.okWide P w r b0 t v) (h : DataW.Trod enc P w base (fun _ => true) held t v d p) : ∃ n f, Sps w v n f := by
  obtain ⟨a, len, cap, rfl⟩ := okWide_slice ht hv
  obtain ⟨fuel, hf⟩ := h
  rcases open_slice ht hf with ⟨hcs, _⟩ | ⟨x, l, c, m, k, D, Pl, hcs, _, hl, hm, hmm, hdp, hx⟩
  · simp [Value.cells] at hcs
    obtain ⟨rfl, rfl, rfl⟩ := hcs
    exact ⟨0, fun _ => ⟨0, 0, 0, 0, 0, 0⟩, ⟨none, 0, rfl, by simp, by simp, fun _ => rfl, fun h => by omega⟩⟩
  · simp [Value.cells] at hcs
    obtain ⟨rfl, rfl, rfl⟩ := hcs
    simp only [if_true] at hmm
    subst hmm
    have each : ∀ i, i < len → ∃ q : Sp, ∀ j, j < 6 → w.cell? (x.add (i * 6 + j)) = some (.int .i64 (q.at j)) := by
      intro i hi
      obtain ⟨cs', k1, k2⟩ := hx i (by omega)
      rw [ce] at k1
      obtain ⟨_, hlen, hcell⟩ := World.cells?_some k1
      match cs', hlen, k2, hcell with
      | [v0, v1, v2, v3, v4, v5], _, k2, hcell =>
        obtain ⟨c, t, x', m', k', e', rfl, rfl, rfl, rfl, rfl, rfl⟩ := trod_six hs hone u0 u1 u2 u3 u4 u5 k2
        refine ⟨⟨c, t, x', m', k', e'⟩, fun j hj => ?_⟩
        have := hcell j (by omega)
        rw [add_add] at this
        rw [this]
        exact rowS_at ⟨c, t, x', m', k', e'⟩ j hj
    have : Inhabited Sp := ⟨⟨0, 0, 0, 0, 0, 0⟩⟩
    obtain ⟨q, hq⟩ := choose_lt each
    refine ⟨len, q, ⟨some x, m, rfl, hl, hm, fun h => by simp at h, fun hp => ?_⟩⟩
    obtain ⟨b, off, spot⟩ := x
    have hspot : spot = none := by simpa [Addr.add] using World.cell?_spot (hq 0 hp 0 (by omega))
    subst hspot
    refine ⟨b, off, rfl, fun i hi j hj => ?_⟩
    have := hq i hi j hj
    rw [Go.WideShapes.add_plain] at this
    rwa [Nat.add_assoc]
end Go.Proofs.YtmiakknagjncpaaGreatDoor
