/- Jobs that come once, and lists of them, that are arguments: what they hold. -/
import Derived.Test.YtjaaabliefcgaaaO6
import Derived.Test.YtjaaabliefcgaaaP2
import Derived.Test.YtjaaabliefcgaaaV1
import Derived.Test.YtjaaabliefcgaaaV3
import Derived.ProofKit
import Derived.OpenShut
import Derived.Carry
import Derived.Lib.SmallJoins
import Derived.Deep.SlicePairs
namespace Go.Proofs.Ytjaaabliefcgaaa
open Go.ChangeShapes Go.WideShapes Go.RowKit Go.Deep Go.Joins

theorem see_field13 {H : Type} {enc : TypeId × Value → H} {P : Program} {w : World} {base n : Nat} {spare : Nat → Bool} {held : Bool} {t : TypeId} {k : IntKind} {c : Value} {y : DataW H × List MemPlace} (ht : P.underlying t = some (.int k))
    (h : DataW.trod enc P w base spare held n t [c] = some y) : ∃ a, c = .int k a ∧ (Lit.int k a).wf = true := by
  obtain ⟨a, e, _, wa⟩ := DataW.trod_int ht h
  simp at e
  exact ⟨a, e, wa⟩
theorem okI_of {x : Int} (h : (Lit.int .i64 x).wf = true) : okI x := by
  have := bounds_i64 h
  unfold okI
  omega
/-- Each of its numbers is one of 64 bits. -/
def okA (a : Ap) : Prop := okI a.id ∧ okI a.due ∧ okI a.c ∧ okI a.v ∧ okI a.r
theorem okA_key {a : Ap} (h : okA a) : wfK a.key := ⟨h.2.1, h.1⟩
structure ApeAt (P : Program) (t : TypeId) (f0 f1 f2 f3 f4 : Field) : Prop where
  hs : P.underlying t = some (.struct #[f0, f1, f2, f3, f4])
  hone : oneCellFields P #[f0, f1, f2, f3, f4] = true
  ce : P.cellsOf t = 5
  u0 : P.underlying f0.type = some (.int .i64)
  u1 : P.underlying f1.type = some (.int .i64)
  u2 : P.underlying f2.type = some (.int .i64)
  u3 : P.underlying f3.type = some (.int .i64)
  u4 : P.underlying f4.type = some (.int .i64)
theorem trod_ape {H : Type} {enc : TypeId × Value → H} {P : Program} {w : World} {base n : Nat} {spare : Nat → Bool} {held : Bool} {t : TypeId} {f0 f1 f2 f3 f4 : Field} {cs : List Value} {y : DataW H × List MemPlace}
    (A : ApeAt P t f0 f1 f2 f3 f4) (hlen : cs.length = 5) (h : DataW.trod enc P w base spare held n t cs = some y) : ∃ q : Ap, cs = q.row ∧ okA q := by
  obtain ⟨xs, kk, _, _, _, hxl, hfl⟩ := DataW.trod_struct A.hs h
  match xs, hxl, cs, hlen with
  | [y0, y1, y2, y3, y4], _, [v0, v1, v2, v3, v4], _ =>
    have k0 := hfl 0 f0 rfl
    have k1 := hfl 1 f1 rfl
    have k2 := hfl 2 f2 rfl
    have k3 := hfl 3 f3 rfl
    have k4 := hfl 4 f4 rfl
    obtain ⟨o0, c0⟩ := hone_of A.hone 0 f0 rfl
    obtain ⟨o1, c1⟩ := hone_of A.hone 1 f1 rfl
    obtain ⟨o2, c2⟩ := hone_of A.hone 2 f2 rfl
    obtain ⟨o3, c3⟩ := hone_of A.hone 3 f3 rfl
    obtain ⟨o4, c4⟩ := hone_of A.hone 4 f4 rfl
    simp [o0, c0] at k0
    simp [o1, c1] at k1
    simp [o2, c2] at k2
    simp [o3, c3] at k3
    simp [o4, c4] at k4
    obtain ⟨a0, rfl, w0⟩ := see_field13 A.u0 k0
    obtain ⟨a1, rfl, w1⟩ := see_field13 A.u1 k1
    obtain ⟨a2, rfl, w2⟩ := see_field13 A.u2 k2
    obtain ⟨a3, rfl, w3⟩ := see_field13 A.u3 k3
    obtain ⟨a4, rfl, w4⟩ := see_field13 A.u4 k4
    exact ⟨⟨a0, a1, a2, a3, a4⟩, rfl, okI_of w0, okI_of w1, okI_of w2, okI_of w3, okI_of w4⟩
/-- One of them. -/
theorem see_ape {H : Type} {enc : TypeId × Value → H} {P : Program} {w : World} {base b0 : Nat} {spare : Nat → Bool} {held : Bool} {r : Reach} {t : TypeId} {f0 f1 f2 f3 f4 : Field} {v : Value} {d : DataW H} {p : List MemPlace}
    (A : ApeAt P t f0 f1 f2 f3 f4) (hv : Value.okWide P w r b0 t v) (h : DataW.Trod enc P w base spare held t v d p) :
    ∃ a0 a1 a2 a3 a4, v = .agg #[.int .i64 a0, .int .i64 a1, .int .i64 a2, .int .i64 a3, .int .i64 a4] ∧ okA ⟨a0, a1, a2, a3, a4⟩ := by
  obtain ⟨cs, rfl, hsz⟩ := okWide_struct A.hs hv
  obtain ⟨fuel, hf⟩ := h
  obtain ⟨q, hq, ho⟩ := trod_ape A (by have := hsz.trans A.ce; simpa [Value.cells] using this) hf
  refine ⟨q.id, q.due, q.c, q.v, q.r, ?_, ho⟩
  obtain ⟨l⟩ := cs
  simp [Value.cells, Ap.row] at hq
  rw [hq]
/-- A list of them. -/
theorem see_apes {H : Type} {enc : TypeId × Value → H} {P : Program} {w : World} {base b0 : Nat} {held : Bool} {r : Reach} {t e : TypeId} {f0 f1 f2 f3 f4 : Field} {v : Value} {d : DataW H} {p : List MemPlace}
    (ht : P.underlying t = some (.slice e)) (A : ApeAt P e f0 f1 f2 f3 f4) (hv : Value.okWide P w r b0 t v) (h : DataW.Trod enc P w base (fun _ => true) held t v d p) : ∃ xs : List Ap, Aps w v xs ∧ ∀ a ∈ xs, okA a := by
  obtain ⟨a, len, cap, rfl⟩ := okWide_slice ht hv
  obtain ⟨fuel, hf⟩ := h
  rcases open_slice ht hf with ⟨hcs, _⟩ | ⟨x, l, c, m, k, D, Pl, hcs, _, hl, hm, hmm, hdp, hx⟩
  · simp [Value.cells] at hcs
    obtain ⟨rfl, rfl, rfl⟩ := hcs
    exact ⟨[], Rws.nil recA w _, by simp⟩
  · simp [Value.cells] at hcs
    obtain ⟨rfl, rfl, rfl⟩ := hcs
    simp only [if_true] at hmm
    subst hmm
    have each : ∀ i, i < len → ∃ q : Ap, okA q ∧ ∀ j, j < 5 → w.cell? (x.add (i * 5 + j)) = q.row[j]? := by
      intro i hi
      obtain ⟨cs', k1, k2⟩ := hx i (by omega)
      rw [A.ce] at k1
      obtain ⟨_, hlen, hcell⟩ := World.cells?_some k1
      obtain ⟨q, rfl, ho⟩ := trod_ape A hlen k2
      refine ⟨q, ho, fun j hj => ?_⟩
      have := hcell j (by omega)
      rw [add_add] at this
      exact this
    have : Inhabited Ap := ⟨apZ⟩
    obtain ⟨q, hq⟩ := choose_lt each
    have e1 : ((List.range len).map q).length = len := by simp
    have e2 : ∀ i, i < len → atA ((List.range len).map q) i = q i := fun i hi => atA_of (by rw [List.getElem?_map, List.getElem?_range hi]; rfl)
    refine ⟨(List.range len).map q, ?_, fun a ha => ?_⟩
    · refine ⟨some x, m, by rw [e1], by rw [e1]; exact hl, hm, fun h => by simp at h, fun hp => ?_⟩
      rw [e1] at hp
      obtain ⟨b, off, spot⟩ := x
      have h0 := (hq 0 hp).2 0 (by omega)
      have hspot : spot = none := by
        have h1 : (q 0).row[0]? = some (.int .i64 (q 0).id) := rfl
        simpa [Addr.add] using World.cell?_spot (h0.trans h1)
      subst hspot
      refine ⟨b, off, rfl, fun i hi j hj => ?_⟩
      rw [e1] at hi
      have := (hq i hi).2 j hj
      rw [Go.WideShapes.add_plain] at this
      rw [e2 i hi]
      show w.cell? ⟨b, off + i * 5 + j, none⟩ = _
      rwa [Nat.add_assoc]
    · obtain ⟨i, hi, rfl⟩ := List.mem_map.1 ha
      exact (hq i (List.mem_range.1 hi)).1
theorem Try.apeAt : ∃ f0 f1 f2 f3 f4, ApeAt Try.prog 30 f0 f1 f2 f3 f4 :=
  ⟨_, _, _, _, _, ⟨Try.underlying30, by kernel_rfl, by kernel_rfl, Try.underlying3, Try.underlying3, Try.underlying3, Try.underlying3, Try.underlying3⟩⟩
end Go.Proofs.Ytjaaabliefcgaaa
