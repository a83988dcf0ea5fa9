/- Options, and lists of them, that are arguments: what they hold. -/
import Derived.Test.YtkaobjcghmigmaaN18
import Derived.Test.YtkaobjcghmigmaaV1
import Derived.Test.YtkaobjcghmigmaaV5
import Derived.Test.YtkaobjcghmigmaaV11
import Derived.ProofKit
import Derived.OpenShut
import Derived.Carry
import Derived.Lib.SmallJoins
import Derived.Deep.SlicePairs
namespace Go.Proofs.Ytkaobjcghmigmaa
open Go.ChangeShapes Go.WideShapes Go.RowKit Go.Deep Go.Joins

/-- Each of its numbers is one of 64 bits. -/
def wfO (x : Int × Int × Int) : Prop := (Lit.int .i64 x.1).wf = true ∧ (Lit.int .i64 x.2.1).wf = true ∧ (Lit.int .i64 x.2.2).wf = true
theorem see_field14 {H : Type} {enc : TypeId × Value → H} {P : Program} {w : World} {base n : Nat} {spare : Nat → Bool} {held : Bool} {t : TypeId} {k : IntKind} {c : Value} {y : DataW H × List MemPlace} (ht : P.underlying t = some (.int k))
    (h : DataW.trod enc P w base spare held n t [c] = some y) : ∃ a, c = .int k a ∧ (Lit.int k a).wf = true := by
  obtain ⟨a, e, _, wa⟩ := DataW.trod_int ht h
  simp at e
  exact ⟨a, e, wa⟩
structure OptAt (P : Program) (t : TypeId) (f0 f1 f2 : Field) : Prop where
  hs : P.underlying t = some (.struct #[f0, f1, f2])
  hone : oneCellFields P #[f0, f1, f2] = true
  ce : P.cellsOf t = 3
  u0 : P.underlying f0.type = some (.int .i64)
  u1 : P.underlying f1.type = some (.int .i64)
  u2 : P.underlying f2.type = some (.int .i64)
theorem Try.optAt : ∃ f0 f1 f2, OptAt Try.prog 24 f0 f1 f2 :=
  ⟨_, _, _, Try.underlying24, by kernel_rfl, by kernel_rfl, Try.underlying3, Try.underlying3, Try.underlying3⟩
theorem trod_opt {H : Type} {enc : TypeId × Value → H} {P : Program} {w : World} {base n : Nat} {spare : Nat → Bool} {held : Bool} {t : TypeId} {f0 f1 f2 : Field} {cs : List Value} {y : DataW H × List MemPlace}
    (A : OptAt P t f0 f1 f2) (hlen : cs.length = 3) (h : DataW.trod enc P w base spare held n t cs = some y) : ∃ q : Int × Int × Int, cs = [.int .i64 q.1, .int .i64 q.2.1, .int .i64 q.2.2] ∧ wfO q := by
  obtain ⟨xs, kk, _, _, _, hxl, hfl⟩ := DataW.trod_struct A.hs h
  match xs, hxl, cs, hlen with
  | [y0, y1, y2], _, [v0, v1, v2], _ =>
    have k0 := hfl 0 f0 rfl
    have k1 := hfl 1 f1 rfl
    have k2 := hfl 2 f2 rfl
    obtain ⟨o0, c0⟩ := hone_of A.hone 0 f0 rfl
    obtain ⟨o1, c1⟩ := hone_of A.hone 1 f1 rfl
    obtain ⟨o2, c2⟩ := hone_of A.hone 2 f2 rfl
    simp [o0, c0] at k0
    simp [o1, c1] at k1
    simp [o2, c2] at k2
    obtain ⟨a0, rfl, w0⟩ := see_field14 A.u0 k0
    obtain ⟨a1, rfl, w1⟩ := see_field14 A.u1 k1
    obtain ⟨a2, rfl, w2⟩ := see_field14 A.u2 k2
    exact ⟨(a0, a1, a2), rfl, w0, w1, w2⟩
theorem see_opt {H : Type} {enc : TypeId × Value → H} {P : Program} {w : World} {base b0 : Nat} {spare : Nat → Bool} {held : Bool} {r : Reach} {t : TypeId} {f0 f1 f2 : Field} {v : Value} {d : DataW H} {p : List MemPlace}
    (A : OptAt P t f0 f1 f2) (hv : Value.okWide P w r b0 t v) (h : DataW.Trod enc P w base spare held t v d p) : ∃ a0 a1 a2, v = .agg #[.int .i64 a0, .int .i64 a1, .int .i64 a2] ∧ wfO (a0, a1, a2) := by
  obtain ⟨cs, rfl, hsz⟩ := okWide_struct A.hs hv
  obtain ⟨fuel, hf⟩ := h
  obtain ⟨⟨a0, a1, a2⟩, he, hw⟩ := trod_opt A (by simp [Value.cells]; rw [hsz]; exact A.ce) hf
  refine ⟨a0, a1, a2, ?_, hw⟩
  simp [Value.cells] at he
  obtain ⟨l⟩ := cs
  simp at he
  rw [he]
theorem see_opts {H : Type} {enc : TypeId × Value → H} {P : Program} {w : World} {base b0 : Nat} {held : Bool} {r : Reach} {t e : TypeId} {f0 f1 f2 : Field} {v : Value} {d : DataW H} {p : List MemPlace}
    (ht : P.underlying t = some (.slice e)) (A : OptAt P e f0 f1 f2) (hv : Value.okWide P w r b0 t v) (h : DataW.Trod enc P w base (fun _ => true) held t v d p) : ∃ n f, Ops w v n f ∧ ∀ i, i < n → wfO (f i) := by
  obtain ⟨a, len, cap, rfl⟩ := okWide_slice ht hv
  obtain ⟨fuel, hf⟩ := h
  rcases open_slice ht hf with ⟨hcs, _⟩ | ⟨x, l, c, m, k, D, Pl, hcs, _, hl, hm, hmm, hdp, hx⟩
  · simp [Value.cells] at hcs
    obtain ⟨rfl, rfl, rfl⟩ := hcs
    exact ⟨0, fun _ => (0, 0, 0), ⟨none, 0, rfl, by simp, by simp, fun _ => rfl, fun h => by omega⟩, fun i hi => by omega⟩
  · simp [Value.cells] at hcs
    obtain ⟨rfl, rfl, rfl⟩ := hcs
    simp only [if_true] at hmm
    subst hmm
    have each : ∀ i, i < len → ∃ q : Int × Int × Int, (w.cell? (x.add (i * 3)) = some (.int .i64 q.1) ∧ w.cell? (x.add (i * 3 + 1)) = some (.int .i64 q.2.1) ∧ w.cell? (x.add (i * 3 + 2)) = some (.int .i64 q.2.2)) ∧ wfO q := by
      intro i hi
      obtain ⟨cs', k1, k2⟩ := hx i (by omega)
      rw [A.ce] at k1
      obtain ⟨_, hlen, hcell⟩ := World.cells?_some k1
      obtain ⟨q, rfl, hw⟩ := trod_opt A hlen k2
      have q0 := hcell 0 (by omega)
      have q1 := hcell 1 (by omega)
      have q2 := hcell 2 (by omega)
      rw [add_add] at q0 q1 q2
      exact ⟨q, ⟨by simpa using q0, by simpa using q1, by simpa using q2⟩, hw⟩
    obtain ⟨q, hq⟩ := choose_lt each
    refine ⟨len, q, ⟨some x, m, rfl, hl, hm, fun h => by simp at h, fun hp => ?_⟩, fun i hi => (hq i hi).2⟩
    obtain ⟨b, off, spot⟩ := x
    have hspot : spot = none := by simpa [Addr.add] using World.cell?_spot (hq 0 hp).1.1
    subst hspot
    refine ⟨b, off, rfl, fun i hi => ?_⟩
    obtain ⟨⟨k0, k1, k2⟩, _⟩ := hq i hi
    rw [Go.WideShapes.add_plain] at k0 k1 k2
    exact ⟨k0, by rwa [Nat.add_assoc], by rwa [Nat.add_assoc]⟩
end Go.Proofs.Ytkaobjcghmigmaa
