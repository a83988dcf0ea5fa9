/- Tasks that are arguments: what they hold. -/
import Derived.Test.YthbppojglhimnaaV9
import Derived.Test.YthbppojglhimnaaV11
import Derived.Test.YthbppojglhimnaaZ1
namespace Go.Proofs.Ythbppojglhimnaa
open Go.ChangeShapes Go.WideShapes Go.RowKit Go.Deep Go.Joins

/-- What a struct's fields must be that is a task. -/
structure TaskAt (P : Program) (t : TypeId) (h0 h1 h2 h3 h4 h5 h6 h7 h8 g0 g1 g2 g3 g4 g5 f0 f1 f2 f3 f4 f5 f6 f7 r0 r1 : Field) : Prop where
  hs : P.underlying t = some (.struct #[h0, h1, h2, h3, h4, h5, h6, h7, h8])
  ce : P.cellsOf t = 22
  o0 : h0.offset = 0
  o1 : h1.offset = 1
  o2 : h2.offset = 7
  o3 : h3.offset = 8
  o4 : h4.offset = 9
  o5 : h5.offset = 10
  o6 : h6.offset = 11
  o7 : h7.offset = 19
  o8 : h8.offset = 21
  c0 : P.cellsOf h0.type = 1
  c1 : P.cellsOf h1.type = 6
  c2 : P.cellsOf h2.type = 1
  c3 : P.cellsOf h3.type = 1
  c4 : P.cellsOf h4.type = 1
  c5 : P.cellsOf h5.type = 1
  c6 : P.cellsOf h6.type = 8
  c7 : P.cellsOf h7.type = 2
  c8 : P.cellsOf h8.type = 1
  sp : P.underlying h1.type = some (.struct #[g0, g1, g2, g3, g4, g5])
  hone : oneCellFields P #[g0, g1, g2, g3, g4, g5] = true
  u0 : P.underlying g0.type = some (.int .i64)
  u1 : P.underlying g1.type = some (.int .i64)
  u2 : P.underlying g2.type = some (.int .i64)
  u3 : P.underlying g3.type = some (.int .i64)
  u4 : P.underlying g4.type = some (.int .i64)
  u5 : P.underlying g5.type = some (.int .i64)
  jb : JobAt P h6.type f0 f1 f2 f3 f4 f5 f6 f7
  rg : P.underlying h7.type = some (.struct #[r0, r1])
  rone : oneCellFields P #[r0, r1] = true
  v0 : P.underlying r0.type = some (.int .i64)
  v1 : P.underlying r1.type = some (.int .u64)
  w0 : P.underlying h0.type = some (.int .i64)
  w2 : P.underlying h2.type = some (.int .i64)
  w3 : P.underlying h3.type = some (.int .i64)
  w4 : P.underlying h4.type = some (.int .i64)
  w5 : P.underlying h5.type = some (.int .i64)
  w8 : P.underlying h8.type = some .bool
theorem trod_ring {H : Type} {enc : TypeId × Value → H} {P : Program} {w : World} {base n : Nat} {spare : Nat → Bool} {held : Bool} {t : TypeId} {r0 r1 : Field} {a b : Value} {y : DataW H × List MemPlace}
    (hs : P.underlying t = some (.struct #[r0, r1])) (hone : oneCellFields P #[r0, r1] = true) (u0 : P.underlying r0.type = some (.int .i64)) (u1 : P.underlying r1.type = some (.int .u64))
    (h : DataW.trod enc P w base spare held n t [a, b] = some y) : ∃ x z : Int, a = .int .i64 x ∧ b = .int .u64 z := by
  obtain ⟨xs, kk, _, _, _, hxl, hfl⟩ := DataW.trod_struct hs h
  match xs, hxl with
  | [y0, y1], _ =>
    have k0 := hfl 0 r0 rfl
    have k1 := hfl 1 r1 rfl
    obtain ⟨o0, c0⟩ := hone_of hone 0 r0 rfl
    obtain ⟨o1, c1⟩ := hone_of hone 1 r1 rfl
    simp [o0, c0] at k0
    simp [o1, c1] at k1
    obtain ⟨x, rfl, _⟩ := see_field u0 k0
    obtain ⟨z, rfl, _⟩ := see_field u1 k1
    exact ⟨x, z, rfl, rfl⟩
set_option maxHeartbeats 1000000 in
theorem trod_task {H : Type} {enc : TypeId × Value → H} {P : Program} {w : World} {base n : Nat} {spare : Nat → Bool} {held : Bool} {t : TypeId} {h0 h1 h2 h3 h4 h5 h6 h7 h8 g0 g1 g2 g3 g4 g5 f0 f1 f2 f3 f4 f5 f6 f7 r0 r1 : Field} {cs : List Value} {y : DataW H × List MemPlace}
    (A : TaskAt P t h0 h1 h2 h3 h4 h5 h6 h7 h8 g0 g1 g2 g3 g4 g5 f0 f1 f2 f3 f4 f5 f6 f7 r0 r1) (hlen : cs.length = 22) (h : DataW.trod enc P w base spare held n t cs = some y) : ∃ q : Tk, cs = q.row := by
  obtain ⟨xs, kk, _, _, _, hxl, hfl⟩ := DataW.trod_struct A.hs h
  match xs, hxl, cs, hlen with
  | [y0, y1, y2, y3, y4, y5, y6, y7, y8], _, [x0, x1, x2, x3, x4, x5, x6, x7, x8, x9, x10, x11, x12, x13, x14, x15, x16, x17, x18, x19, x20, x21], _ =>
    have k0 := hfl 0 h0 rfl
    have k1 := hfl 1 h1 rfl
    have k2 := hfl 2 h2 rfl
    have k3 := hfl 3 h3 rfl
    have k4 := hfl 4 h4 rfl
    have k5 := hfl 5 h5 rfl
    have k6 := hfl 6 h6 rfl
    have k7 := hfl 7 h7 rfl
    have k8 := hfl 8 h8 rfl
    simp [A.o0, A.c0] at k0
    simp [A.o1, A.c1] at k1
    simp [A.o2, A.c2] at k2
    simp [A.o3, A.c3] at k3
    simp [A.o4, A.c4] at k4
    simp [A.o5, A.c5] at k5
    simp [A.o6, A.c6] at k6
    simp [A.o7, A.c7] at k7
    simp [A.o8, A.c8] at k8
    obtain ⟨id, rfl, _⟩ := see_field A.w0 k0
    obtain ⟨c, t', x, m, k, e, rfl, rfl, rfl, rfl, rfl, rfl⟩ := trod_six A.sp A.hone A.u0 A.u1 A.u2 A.u3 A.u4 A.u5 k1
    obtain ⟨p, rfl, _⟩ := see_field A.w2 k2
    obtain ⟨nx, rfl, _⟩ := see_field A.w3 k3
    obtain ⟨a, rfl, _⟩ := see_field A.w4 k4
    obtain ⟨nn, rfl, _⟩ := see_field A.w5 k5
    obtain ⟨q, hq⟩ := trod_job A.jb (by rfl) k6
    obtain ⟨hn, hb, rfl, rfl⟩ := trod_ring A.rg A.rone A.v0 A.v1 k7
    obtain ⟨kp, rfl⟩ := see_fieldB A.w8 k8
    simp [Jb.row] at hq
    obtain ⟨rfl, rfl, rfl, rfl, rfl, rfl, rfl, rfl⟩ := hq
    exact ⟨⟨id, ⟨c, t', x, m, k, e⟩, p, nx, a, nn, q, hn, hb, kp⟩, rfl⟩
/-- A task. -/
theorem see_task {H : Type} {enc : TypeId × Value → H} {P : Program} {w : World} {base b0 : Nat} {spare : Nat → Bool} {held : Bool} {r : Reach} {t : TypeId} {h0 h1 h2 h3 h4 h5 h6 h7 h8 g0 g1 g2 g3 g4 g5 f0 f1 f2 f3 f4 f5 f6 f7 r0 r1 : Field} {v : Value} {d : DataW H} {p : List MemPlace}
    (A : TaskAt P t h0 h1 h2 h3 h4 h5 h6 h7 h8 g0 g1 g2 g3 g4 g5 f0 f1 f2 f3 f4 f5 f6 f7 r0 r1) (hv : Value.okWide P w r b0 t v) (h : DataW.Trod enc P w base spare held t v d p) :
    ∃ q : Tk, v = tkV q := by
  obtain ⟨cs, rfl, hsz⟩ := okWide_struct A.hs hv
  obtain ⟨fuel, hf⟩ := h
  obtain ⟨q, hq⟩ := trod_task A (by have := hsz.trans A.ce; simpa [Value.cells] using this) hf
  refine ⟨q, ?_⟩
  obtain ⟨l⟩ := cs
  simp [Value.cells, Tk.row] at hq
  unfold tkV
  rw [hq]
theorem Try.taskAt : ∃ h0 h1 h2 h3 h4 h5 h6 h7 h8 g0 g1 g2 g3 g4 g5 f0 f1 f2 f3 f4 f5 f6 f7 r0 r1, TaskAt Try.prog 30 h0 h1 h2 h3 h4 h5 h6 h7 h8 g0 g1 g2 g3 g4 g5 f0 f1 f2 f3 f4 f5 f6 f7 r0 r1 :=
  ⟨_, _, _, _, _, _, _, _, _, _, _, _, _, _, _, _, _, _, _, _, _, _, _, _, _, ⟨Try.underlying30, by kernel_rfl, rfl, rfl, rfl, rfl, rfl, rfl, rfl, rfl, rfl, by kernel_rfl, by kernel_rfl, by kernel_rfl, by kernel_rfl, by kernel_rfl, by kernel_rfl, by kernel_rfl, by kernel_rfl, by kernel_rfl, Try.underlying23, by kernel_rfl, Try.underlying3, Try.underlying3, Try.underlying3, Try.underlying3, Try.underlying3, Try.underlying3,
    ⟨Try.underlying25, by kernel_rfl, by kernel_rfl, Try.underlying4, Try.underlying3, Try.underlying3, Try.underlying3, Try.underlying4, Try.underlying3, Try.underlying3, Try.underlying3⟩,
    Try.underlying28, by kernel_rfl, Try.underlying3, Try.underlying26, Try.underlying3, Try.underlying3, Try.underlying3, Try.underlying3, Try.underlying3, Try.underlying4⟩⟩
end Go.Proofs.Ythbppojglhimnaa
