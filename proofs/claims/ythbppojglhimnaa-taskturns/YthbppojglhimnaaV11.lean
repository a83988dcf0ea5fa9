/- Jobs that are arguments: what they hold. -/
import Derived.Test.YthbppojglhimnaaJ1
import Derived.Test.YthbppojglhimnaaV5
import Derived.ProofKit
import Derived.OpenShut
import Derived.Carry
import Derived.Lib.SmallJoins
import Derived.Deep.SlicePairs
namespace Go.Proofs.Ythbppojglhimnaa
open Go.ChangeShapes Go.WideShapes Go.RowKit Go.Deep Go.Joins

/-- One of a struct's fields, a bool. -/
theorem see_fieldB {H : Type} {enc : TypeId × Value → H} {P : Program} {w : World} {base n : Nat} {spare : Nat → Bool} {held : Bool} {t : TypeId} {c : Value} {y : DataW H × List MemPlace} (ht : P.underlying t = some .bool)
    (h : DataW.trod enc P w base spare held n t [c] = some y) : ∃ a, c = .bool a := by
  obtain ⟨a, e, _⟩ := DataW.trod_bool ht h
  simp at e
  exact ⟨a, e⟩
/-- What a struct's fields must be that is a job. -/
structure JobAt (P : Program) (t : TypeId) (f0 f1 f2 f3 f4 f5 f6 f7 : Field) : Prop where
  hs : P.underlying t = some (.struct #[f0, f1, f2, f3, f4, f5, f6, f7])
  hone : oneCellFields P #[f0, f1, f2, f3, f4, f5, f6, f7] = true
  ce : P.cellsOf t = 8
  u0 : P.underlying f0.type = some .bool
  u1 : P.underlying f1.type = some (.int .i64)
  u2 : P.underlying f2.type = some (.int .i64)
  u3 : P.underlying f3.type = some (.int .i64)
  u4 : P.underlying f4.type = some .bool
  u5 : P.underlying f5.type = some (.int .i64)
  u6 : P.underlying f6.type = some (.int .i64)
  u7 : P.underlying f7.type = some (.int .i64)
theorem trod_job {H : Type} {enc : TypeId × Value → H} {P : Program} {w : World} {base n : Nat} {spare : Nat → Bool} {held : Bool} {t : TypeId} {f0 f1 f2 f3 f4 f5 f6 f7 : Field} {cs : List Value} {y : DataW H × List MemPlace}
    (A : JobAt P t f0 f1 f2 f3 f4 f5 f6 f7) (hlen : cs.length = 8) (h : DataW.trod enc P w base spare held n t cs = some y) : ∃ q : Jb, cs = q.row := by
  obtain ⟨xs, kk, _, _, _, hxl, hfl⟩ := DataW.trod_struct A.hs h
  match xs, hxl, cs, hlen with
  | [y0, y1, y2, y3, y4, y5, y6, y7], _, [v0, v1, v2, v3, v4, v5, v6, v7], _ =>
    have k0 := hfl 0 f0 rfl
    have k1 := hfl 1 f1 rfl
    have k2 := hfl 2 f2 rfl
    have k3 := hfl 3 f3 rfl
    have k4 := hfl 4 f4 rfl
    have k5 := hfl 5 f5 rfl
    have k6 := hfl 6 f6 rfl
    have k7 := hfl 7 f7 rfl
    obtain ⟨o0, c0⟩ := hone_of A.hone 0 f0 rfl
    obtain ⟨o1, c1⟩ := hone_of A.hone 1 f1 rfl
    obtain ⟨o2, c2⟩ := hone_of A.hone 2 f2 rfl
    obtain ⟨o3, c3⟩ := hone_of A.hone 3 f3 rfl
    obtain ⟨o4, c4⟩ := hone_of A.hone 4 f4 rfl
    obtain ⟨o5, c5⟩ := hone_of A.hone 5 f5 rfl
    obtain ⟨o6, c6⟩ := hone_of A.hone 6 f6 rfl
    obtain ⟨o7, c7⟩ := hone_of A.hone 7 f7 rfl
    simp [o0, c0] at k0
    simp [o1, c1] at k1
    simp [o2, c2] at k2
    simp [o3, c3] at k3
    simp [o4, c4] at k4
    simp [o5, c5] at k5
    simp [o6, c6] at k6
    simp [o7, c7] at k7
    obtain ⟨a0, rfl⟩ := see_fieldB A.u0 k0
    obtain ⟨a1, rfl, _⟩ := see_field A.u1 k1
    obtain ⟨a2, rfl, _⟩ := see_field A.u2 k2
    obtain ⟨a3, rfl, _⟩ := see_field A.u3 k3
    obtain ⟨a4, rfl⟩ := see_fieldB A.u4 k4
    obtain ⟨a5, rfl, _⟩ := see_field A.u5 k5
    obtain ⟨a6, rfl, _⟩ := see_field A.u6 k6
    obtain ⟨a7, rfl, _⟩ := see_field A.u7 k7
    exact ⟨⟨a0, a1, a2, a3, a4, a5, a6, a7⟩, rfl⟩
/-- A job. -/
theorem see_job {H : Type} {enc : TypeId × Value → H} {P : Program} {w : World} {base b0 : Nat} {spare : Nat → Bool} {held : Bool} {r : Reach} {t : TypeId} {f0 f1 f2 f3 f4 f5 f6 f7 : Field} {v : Value} {d : DataW H} {p : List MemPlace}
    (A : JobAt P t f0 f1 f2 f3 f4 f5 f6 f7) (hv : Value.okWide P w r b0 t v) (h : DataW.Trod enc P w base spare held t v d p) :
    ∃ a0 a1 a2 a3 a4 a5 a6 a7, v = .agg #[.bool a0, .int .i64 a1, .int .i64 a2, .int .i64 a3, .bool a4, .int .i64 a5, .int .i64 a6, .int .i64 a7] := by
  obtain ⟨cs, rfl, hsz⟩ := okWide_struct A.hs hv
  obtain ⟨fuel, hf⟩ := h
  obtain ⟨q, hq⟩ := trod_job A (by have := hsz.trans A.ce; simpa [Value.cells] using this) hf
  refine ⟨q.on, q.n, q.rel, q.due, q.md, q.c, q.d, q.ran, ?_⟩
  obtain ⟨l⟩ := cs
  simp [Value.cells, Jb.row] at hq
  rw [hq]
theorem Try.jobAt : ∃ f0 f1 f2 f3 f4 f5 f6 f7, JobAt Try.prog 25 f0 f1 f2 f3 f4 f5 f6 f7 :=
  ⟨_, _, _, _, _, _, _, _, ⟨Try.underlying25, by kernel_rfl, by kernel_rfl, Try.underlying4, Try.underlying3, Try.underlying3, Try.underlying3, Try.underlying4, Try.underlying3, Try.underlying3, Try.underlying3⟩⟩
end Go.Proofs.Ythbppojglhimnaa
