import Derived.Test.YtmiakknagjncpaaGreatDoorY7
import Derived.Test.YtmiakknagjncpaaGreatDoorY2
import Derived.Test.YtmiakknagjncpaaGreatDoorY1
import Derived.ProofKit
import Derived.OpenShut
import Derived.Carry
import Derived.Lib.SmallJoins
import Derived.Deep.SlicePairs
import Derived.SizedLaws
/- Tasks at their periods, and lists of them, that are arguments: what they hold. -/
namespace Go.Proofs.YtmiakknagjncpaaGreatDoor
open Go.ChangeShapes Go.WideShapes Go.RowKit Go.Deep Go.Joins

/-- A struct of six integers, as cells. -/
theorem trod_six {H : Type} {enc : TypeId × Value → H} {P : Program} {w : World} {base n : Nat} {spare : Nat → Bool} {held : Bool} {t : TypeId} {g0 g1 g2 g3 g4 g5 : Field} {v0 v1 v2 v3 v4 v5 : Value} {y : DataW H × List MemPlace}
    (hs : P.underlying t = some (.struct #[g0, g1, g2, g3, g4, g5])) (hone : oneCellFields P #[g0, g1, g2, g3, g4, g5] = true)
    (u0 : P.underlying g0.type = some (.int .i64)) (u1 : P.underlying g1.type = some (.int .i64)) (u2 : P.underlying g2.type = some (.int .i64)) (u3 : P.underlying g3.type = some (.int .i64)) (u4 : P.underlying g4.type = some (.int .i64)) (u5 : P.underlying g5.type = some (.int .i64))
    (h : DataW.trod enc P w base spare held n t [v0, v1, v2, v3, v4, v5] = some y) : ∃ c t x m k e : Int, v0 = .int .i64 c ∧ v1 = .int .i64 t ∧ v2 = .int .i64 x ∧ v3 = .int .i64 m ∧ v4 = .int .i64 k ∧ v5 = .int .i64 e := by
  obtain ⟨xs, kk, _, _, _, hlen, hg⟩ := DataW.trod_struct hs h
  have each : ∀ (i : Nat) (f : Field) (c : Value), #[g0, g1, g2, g3, g4, g5][i]? = some f → #[v0, v1, v2, v3, v4, v5][i]? = some c → P.underlying f.type = some (.int .i64) → ∃ a, c = .int .i64 a := by
    intro i f c hi hc hu
    obtain ⟨o, kc⟩ := hone_of hone i f hi
    have hlt : i < xs.length := by
      have := (Array.getElem?_eq_some_iff.1 hi).1
      simp at this hlen; omega
    have := hg i f hi
    rw [List.getElem?_eq_getElem hlt, o, kc] at this
    obtain ⟨a, e, _⟩ := see_field (enc := enc) (w := w) (base := base) (spare := spare) (held := held) (n := kk) (c := c) hu (y := xs[i]) (by
      rw [← this]
      congr 1
      have hl : i < 6 := by have := (Array.getElem?_eq_some_iff.1 hi).1; simpa using this
      rcases (show i = 0 ∨ i = 1 ∨ i = 2 ∨ i = 3 ∨ i = 4 ∨ i = 5 by omega) with rfl | rfl | rfl | rfl | rfl | rfl <;> simp at hc <;> subst hc <;> rfl)
    exact ⟨a, e⟩
  obtain ⟨a0, e0⟩ := each 0 g0 v0 rfl rfl u0
  obtain ⟨a1, e1⟩ := each 1 g1 v1 rfl rfl u1
  obtain ⟨a2, e2⟩ := each 2 g2 v2 rfl rfl u2
  obtain ⟨a3, e3⟩ := each 3 g3 v3 rfl rfl u3
  obtain ⟨a4, e4⟩ := each 4 g4 v4 rfl rfl u4
  obtain ⟨a5, e5⟩ := each 5 g5 v5 rfl rfl u5
  exact ⟨a0, a1, a2, a3, a4, a5, e0, e1, e2, e3, e4, e5⟩
/-- What a struct's fields must be that is a task at its period. -/
structure FixAt (P : Program) (e : TypeId) (f0 f1 g0 g1 g2 g3 g4 g5 : Field) : Prop where
  he : P.underlying e = some (.struct #[f0, f1])
  ce : P.cellsOf e = 7
  o0 : f0.offset = 0
  o1 : f1.offset = 6
  c0 : P.cellsOf f0.type = 6
  c1 : P.cellsOf f1.type = 1
  hs : P.underlying f0.type = some (.struct #[g0, g1, g2, g3, g4, g5])
  hone : oneCellFields P #[g0, g1, g2, g3, g4, g5] = true
  u0 : P.underlying g0.type = some (.int .i64)
  u1 : P.underlying g1.type = some (.int .i64)
  u2 : P.underlying g2.type = some (.int .i64)
  u3 : P.underlying g3.type = some (.int .i64)
  u4 : P.underlying g4.type = some (.int .i64)
  u5 : P.underlying g5.type = some (.int .i64)
  u6 : P.underlying f1.type = some (.int .i64)
theorem trod_fix {H : Type} {enc : TypeId × Value → H} {P : Program} {w : World} {base n : Nat} {spare : Nat → Bool} {held : Bool} {e : TypeId} {f0 f1 g0 g1 g2 g3 g4 g5 : Field} {cs : List Value} {y : DataW H × List MemPlace}
    (A : FixAt P e f0 f1 g0 g1 g2 g3 g4 g5) (hlen : cs.length = 7) (h : DataW.trod enc P w base spare held n e cs = some y) : ∃ q : Fx, cs = q.row := by
  obtain ⟨xs, kk, _, _, _, hxl, hfl⟩ := DataW.trod_struct A.he h
  match xs, hxl, cs, hlen with
  | [y0, y1], _, [v0, v1, v2, v3, v4, v5, v6], _ =>
    have k0 := hfl 0 f0 rfl
    have k1 := hfl 1 f1 rfl
    simp [A.o0, A.o1, A.c0, A.c1] at k0 k1
    obtain ⟨c, t, x, m, k, e, rfl, rfl, rfl, rfl, rfl, rfl⟩ := trod_six A.hs A.hone A.u0 A.u1 A.u2 A.u3 A.u4 A.u5 k0
    obtain ⟨p, rfl, _⟩ := see_field A.u6 k1
    exact ⟨⟨c, t, x, m, k, e, p⟩, rfl⟩
/-- A task at its period. -/
theorem see_fix {H : Type} {enc : TypeId × Value → H} {P : Program} {w : World} {base b0 : Nat} {spare : Nat → Bool} {held : Bool} {r : Reach} {e : TypeId} {f0 f1 g0 g1 g2 g3 g4 g5 : Field} {v : Value} {d : DataW H} {p : List MemPlace}
    (A : FixAt P e f0 f1 g0 g1 g2 g3 g4 g5) (hv : Value.okWide P w r b0 e v) (h : DataW.Trod enc P w base spare held e v d p) :
    ∃ a0 a1 a2 a3 a4 a5 a6, v = .agg #[.int .i64 a0, .int .i64 a1, .int .i64 a2, .int .i64 a3, .int .i64 a4, .int .i64 a5, .int .i64 a6] := by
  obtain ⟨cs, rfl, hsz⟩ := okWide_struct A.he hv
  obtain ⟨fuel, hf⟩ := h
  obtain ⟨q, hq⟩ := trod_fix A (by have := hsz.trans A.ce; simpa [Value.cells] using this) hf
  refine ⟨q.c, q.t, q.x, q.m, q.k, q.e, q.p, ?_⟩
  obtain ⟨l⟩ := cs
  simp [Value.cells, Fx.row] at hq
  rw [hq]
/-- A list of tasks at their periods. -/
theorem see_fixs {H : Type} {enc : TypeId × Value → H} {P : Program} {w : World} {base b0 : Nat} {held : Bool} {r : Reach} {t e : TypeId} {f0 f1 g0 g1 g2 g3 g4 g5 : Field} {v : Value} {d : DataW H} {p : List MemPlace}
    (ht : P.underlying t = some (.slice e)) (A : FixAt P e f0 f1 g0 g1 g2 g3 g4 g5) (hv : Value.okWide P w r b0 t v) (h : DataW.Trod enc P w base (fun _ => true) held t v d p) : ∃ n f, Fxs w v n f := by
  obtain ⟨a, len, cap, rfl⟩ := okWide_slice ht hv
  obtain ⟨fuel, hf⟩ := h
  rcases open_slice ht hf with ⟨hcs, _⟩ | ⟨x, l, c, m, k, D, Pl, hcs, _, hl, hm, hmm, hdp, hx⟩
  · simp [Value.cells] at hcs
    obtain ⟨rfl, rfl, rfl⟩ := hcs
    exact ⟨0, fun _ => ⟨0, 0, 0, 0, 0, 0, 0⟩, ⟨none, 0, rfl, by simp, by simp, fun _ => rfl, fun h => by omega⟩⟩
  · simp [Value.cells] at hcs
    obtain ⟨rfl, rfl, rfl⟩ := hcs
    simp only [if_true] at hmm
    subst hmm
    have each : ∀ i, i < len → ∃ q : Fx, ∀ j, j < 7 → w.cell? (x.add (i * 7 + j)) = some (.int .i64 (q.at j)) := by
      intro i hi
      obtain ⟨cs', k1, k2⟩ := hx i (by omega)
      rw [A.ce] at k1
      obtain ⟨_, hlen, hcell⟩ := World.cells?_some k1
      obtain ⟨q, rfl⟩ := trod_fix A hlen k2
      refine ⟨q, fun j hj => ?_⟩
      have := hcell j (by omega)
      rw [add_add, row_at q j hj] at this
      exact this
    have : Inhabited Fx := ⟨⟨0, 0, 0, 0, 0, 0, 0⟩⟩
    obtain ⟨q, hq⟩ := choose_lt each
    refine ⟨len, q, ⟨some x, m, rfl, hl, hm, fun h => by simp at h, fun hp => ?_⟩⟩
    obtain ⟨b, off, spot⟩ := x
    have hspot : spot = none := by simpa [Addr.add] using World.cell?_spot (hq 0 hp 0 (by omega))
    subst hspot
    refine ⟨b, off, rfl, fun i hi j hj => ?_⟩
    have := hq i hi j hj
    rw [Go.WideShapes.add_plain] at this
    rwa [Nat.add_assoc]
theorem Tryz.fixAt : ∃ f0 f1 g0 g1 g2 g3 g4 g5, FixAt Tryz.prog 42 f0 f1 g0 g1 g2 g3 g4 g5 :=
  ⟨_, _, _, _, _, _, _, _, ⟨Tryz.underlying42, by kernel_rfl, rfl, rfl, by kernel_rfl, by kernel_rfl, Tryz.underlying38, by kernel_rfl, Tryz.underlying3, Tryz.underlying3, Tryz.underlying3, Tryz.underlying3, Tryz.underlying3, Tryz.underlying3, Tryz.underlying3⟩⟩
end Go.Proofs.YtmiakknagjncpaaGreatDoor
