/- Texts that belong together, one behind the other: V1, V5, V9, V16. -/
import Derived.Test.YteklcolphbcjlaaQ1
import Derived.ProofKit
import Derived.OpenShut
import Derived.Carry
import Derived.Lib.SmallJoins
import Derived.Deep.Grids
import Derived.Test.YteklcolphbcjlaaQ5
import Derived.Test.YteklcolphbcjlaaQ3
import Derived.Deep.RegionHeld3
import Derived.Test.YteklcolphbcjlaaQ6
import Derived.Test.YteklcolphbcjlaaRows
import Derived.LaidMore
import Derived.Stop.Joined
import Derived.Test.YteklcolphbcjlaaQ4
import Derived.Maps.AppendAt
import Derived.Laws.AppendOwnNone
import Derived.Deep.SlicePairs
import Derived.SizedLaws
/- What the arguments of a statement are, as the walks are told of them. -/
namespace Go.Proofs.Yteklcolphbcjlaa
open Go.ChangeShapes Go.WideShapes Go.RowKit Go.Deep Go.Joins

theorem see_int {H : Type} {enc : TypeId × Value → H} {P : Program} {w : World} {base b0 : Nat} {spare : Nat → Bool} {held : Bool} {r : Reach} {t : TypeId} {k : IntKind} {v : Value} {d : DataW H} {p : List MemPlace}
    (ht : P.underlying t = some (.int k)) (hv : Value.okWide P w r b0 t v) (h : DataW.Trod enc P w base spare held t v d p) : ∃ a, v = .int k a ∧ (Lit.int k a).wf = true := by
  obtain ⟨a, h1, _, _, h2⟩ := open_int ht hv h
  exact ⟨a, h1, h2⟩
/-- A struct of two integers. -/
theorem see_ints2 {H : Type} {enc : TypeId × Value → H} {P : Program} {w : World} {base b0 : Nat} {spare : Nat → Bool} {held : Bool} {r : Reach} {t : TypeId} {f0 f1 : Field} {k0 k1 : IntKind} {v : Value} {d : DataW H} {p : List MemPlace}
    (hs : P.underlying t = some (.struct #[f0, f1])) (hone : oneCellFields P #[f0, f1] = true) (hC : P.cellsOf t = 2) (h0 : P.underlying f0.type = some (.int k0)) (h1 : P.underlying f1.type = some (.int k1))
    (hv : Value.okWide P w r b0 t v) (h : DataW.Trod enc P w base spare held t v d p) :
    ∃ a b, v = .agg #[.int k0 a, .int k1 b] ∧ (Lit.int k0 a).wf = true ∧ (Lit.int k1 b).wf = true := by
  obtain ⟨c0, c1, y0, y1, m, rfl, _, _, hy0, hy1⟩ := open_agg2 hs hone hC hv h
  obtain ⟨a, e0, _, wa⟩ := DataW.trod_int h0 hy0
  obtain ⟨b, e1, _, wb⟩ := DataW.trod_int h1 hy1
  simp at e0 e1
  subst e0 e1
  exact ⟨a, b, rfl, wa, wb⟩
end Go.Proofs.Yteklcolphbcjlaa
/- What the arguments of a statement are, as the walks are told of them: descriptions, bytes. -/
namespace Go.Proofs.Yteklcolphbcjlaa
open Go.ChangeShapes Go.WideShapes Go.RowKit Go.Deep Go.Joins
/-- One of a struct's fields, an integer. -/
theorem see_field {H : Type} {enc : TypeId × Value → H} {P : Program} {w : World} {base n : Nat} {spare : Nat → Bool} {held : Bool} {t : TypeId} {k : IntKind} {c : Value} {y : DataW H × List MemPlace} (ht : P.underlying t = some (.int k))
    (h : DataW.trod enc P w base spare held n t [c] = some y) : ∃ a, c = .int k a ∧ (Lit.int k a).wf = true := by
  obtain ⟨a, e, _, wa⟩ := DataW.trod_int ht h
  simp at e
  exact ⟨a, e, wa⟩
/-- Bytes. -/
theorem see_bytes {H : Type} {enc : TypeId × Value → H} {P : Program} {w : World} {base b0 : Nat} {held : Bool} {r : Reach} {t e : TypeId} {v : Value} {d : DataW H} {p : List MemPlace}
    (ht : P.underlying t = some (.slice e)) (he : P.underlying e = some (.int .u8)) (hc : P.cellsOf e = 1) (hv : Value.okWide P w r b0 t v) (h : DataW.Trod enc P w base (fun _ => true) held t v d p) : ∃ ks, Bys w v ks := by
  obtain ⟨a, len, cap, rfl⟩ := okWide_slice ht hv
  obtain ⟨fuel, hf⟩ := h
  rcases open_ints ht he hc hf with ⟨hcs, _⟩ | ⟨x, l, c, zs, hcs, _, hl, hm, hz, _, hcell, hwf⟩
  · simp [Value.cells] at hcs
    obtain ⟨rfl, rfl, rfl⟩ := hcs
    exact ⟨[], Bys.none w⟩
  · simp [Value.cells] at hcs
    obtain ⟨rfl, rfl, rfl⟩ := hcs
    simp only [if_true] at hz
    have hlen : (zs.take len).length = len := by simp; omega
    refine ⟨zs.take len, some x, cap, by rw [hlen], by omega, hm, (fun h => by cases h), fun i hi => ?_, fun hne => ?_⟩
    · have hm' : (zs.take len).getD i 0 ∈ zs := by
        rw [List.getD, List.getElem?_eq_getElem hi, Option.getD_some]
        exact List.mem_of_mem_take (List.getElem_mem hi)
      have := hwf _ hm'
      exact bounds_u8 this
    have hp : 0 < len := by
      rcases Nat.eq_zero_or_pos len with h | h
      · subst h; simp at hne
      · exact h
    obtain ⟨b, off, spot⟩ := x
    have hspot : spot = Option.none := by simpa [Addr.add] using World.cell?_spot (hcell 0 (by omega))
    subst hspot
    refine ⟨b, off, rfl, fun i hi => ?_⟩
    rw [hlen] at hi
    have := hcell i (by omega)
    rw [Go.WideShapes.add_plain] at this
    rw [this]
    simp [List.getD, hi]
end Go.Proofs.Yteklcolphbcjlaa
/- Tasks at their periods, and lists of them, that are arguments: what they hold. -/
namespace Go.Proofs.Yteklcolphbcjlaa
open Go.ChangeShapes Go.WideShapes Go.RowKit Go.Deep Go.Joins

/-- A struct of six integers, as cells. -/
theorem trod_six {H : Type} {enc : TypeId × Value → H} {P : Program} {w : World} {base n : Nat} {spare : Nat → Bool} {held : Bool} {t : TypeId} {g0 g1 g2 g3 g4 g5 : Field} {v0 v1 v2 v3 v4 v5 : Value} {y : DataW H × List MemPlace}
    (hs : P.underlying t = some (.struct #[g0, g1, g2, g3, g4, g5])) (hone : oneCellFields P #[g0, g1, g2, g3, g4, g5] = true)
    (u0 : P.underlying g0.type = some (.int .i64)) (u1 : P.underlying g1.type = some (.int .i64)) (u2 : P.underlying g2.type = some (.int .i64)) (u3 : P.underlying g3.type = some (.int .i64)) (u4 : P.underlying g4.type = some (.int .i64)) (u5 : P.underlying g5.type = some (.int .i64))
    (h : DataW.trod enc P w base spare held n t [v0, v1, v2, v3, v4, v5] = some y) : ∃ c t x m k e : Int, v0 = .int .i64 c ∧ v1 = .int .i64 t ∧ v2 = .int .i64 x ∧ v3 = .int .i64 m ∧ v4 = .int .i64 k ∧ v5 = .int .i64 e := by
  obtain ⟨xs, kk, _, _, _, hlen, hg⟩ := DataW.trod_struct hs h
  have each : ∀ (i : Nat) (f : Field) (c : Value), #[g0, g1, g2, g3, g4, g5][i]? = some f → #[v0, v1, v2, v3, v4, v5][i]? = some c → P.underlying f.type = some (.int .i64) → ∃ a, c = .int .i64 a := by
    intro i f c hi hc hu
    obtain ⟨o, kc⟩ := hone_of hone i f hi
    have hlt : i < xs.length := by
      have := (Array.getElem?_eq_some_iff.1 hi).1
      simp at this hlen; omega
    have := hg i f hi
    rw [List.getElem?_eq_getElem hlt, o, kc] at this
    obtain ⟨a, e, _⟩ := see_field (enc := enc) (w := w) (base := base) (spare := spare) (held := held) (n := kk) (c := c) hu (y := xs[i]) (by
      rw [← this]
      congr 1
      have hl : i < 6 := by have := (Array.getElem?_eq_some_iff.1 hi).1; simpa using this
      rcases (show i = 0 ∨ i = 1 ∨ i = 2 ∨ i = 3 ∨ i = 4 ∨ i = 5 by omega) with rfl | rfl | rfl | rfl | rfl | rfl <;> simp at hc <;> subst hc <;> rfl)
    exact ⟨a, e⟩
  obtain ⟨a0, e0⟩ := each 0 g0 v0 rfl rfl u0
  obtain ⟨a1, e1⟩ := each 1 g1 v1 rfl rfl u1
  obtain ⟨a2, e2⟩ := each 2 g2 v2 rfl rfl u2
  obtain ⟨a3, e3⟩ := each 3 g3 v3 rfl rfl u3
  obtain ⟨a4, e4⟩ := each 4 g4 v4 rfl rfl u4
  obtain ⟨a5, e5⟩ := each 5 g5 v5 rfl rfl u5
  exact ⟨a0, a1, a2, a3, a4, a5, e0, e1, e2, e3, e4, e5⟩
end Go.Proofs.Yteklcolphbcjlaa
/- What is asked, as an argument: what it holds. -/
namespace Go.Proofs.Yteklcolphbcjlaa
open Go.ChangeShapes Go.WideShapes Go.RowKit Go.Deep Go.Joins

/-- What a struct's fields must be that is what is asked. -/
structure OpAt (P : Program) (t e : TypeId) (h0 h1 h2 h3 h4 h5 h6 h7 h8 g0 g1 g2 g3 g4 g5 : Field) : Prop where
  hs : P.underlying t = some (.struct #[h0, h1, h2, h3, h4, h5, h6, h7, h8])
  ce : P.cellsOf t = 14
  o0 : h0.offset = 0
  o1 : h1.offset = 1
  o2 : h2.offset = 2
  o3 : h3.offset = 8
  o4 : h4.offset = 9
  o5 : h5.offset = 10
  o6 : h6.offset = 11
  o7 : h7.offset = 12
  o8 : h8.offset = 13
  c0 : P.cellsOf h0.type = 1
  c1 : P.cellsOf h1.type = 1
  c2 : P.cellsOf h2.type = 6
  c3 : P.cellsOf h3.type = 1
  c4 : P.cellsOf h4.type = 1
  c5 : P.cellsOf h5.type = 1
  c6 : P.cellsOf h6.type = 1
  c7 : P.cellsOf h7.type = 1
  c8 : P.cellsOf h8.type = 1
  sp : P.underlying h2.type = some (.struct #[g0, g1, g2, g3, g4, g5])
  hone : oneCellFields P #[g0, g1, g2, g3, g4, g5] = true
  u0 : P.underlying g0.type = some (.int .i64)
  u1 : P.underlying g1.type = some (.int .i64)
  u2 : P.underlying g2.type = some (.int .i64)
  u3 : P.underlying g3.type = some (.int .i64)
  u4 : P.underlying g4.type = some (.int .i64)
  u5 : P.underlying g5.type = some (.int .i64)
  w0 : P.underlying h0.type = some (.int .i64)
  w1 : P.underlying h1.type = some (.int .i64)
  w3 : P.underlying h3.type = some (.int .i64)
  w4 : P.underlying h4.type = some (.int .i64)
  w5 : P.underlying h5.type = some (.int .i64)
  w6 : P.underlying h6.type = some (.int .i64)
  w7 : P.underlying h7.type = some (.int .i64)
  ds : P.underlying h8.type = some (.slice e)
  de : P.underlying e = some (.int .i64)
  dc : P.cellsOf e = 1
theorem nums_cell {H : Type} {enc : TypeId × Value → H} {P : Program} {w : World} {base n : Nat} {held : Bool} {t e : TypeId} {x : Value} {y : DataW H × List MemPlace}
    (ht : P.underlying t = some (.slice e)) (he : P.underlying e = some (.int .i64)) (hc : P.cellsOf e = 1) (hf : DataW.trod enc P w base (fun _ => true) held n t [x] = some y) : ∃ ks, Nums w x ks := by
  rcases open_ints ht he hc hf with ⟨hcs, _⟩ | ⟨ad, l, c, zs, hcs, _, hl, hm, hz, _, hcell, _⟩
  · simp at hcs
    exact ⟨[], none, 0, hcs, by simp, by simp, fun h => absurd rfl h⟩
  · simp at hcs
    subst hcs
    simp only [if_true] at hz
    have hlen : (zs.take l).length = l := by simp; omega
    refine ⟨zs.take l, some ad, c, by rw [hlen], by omega, hm, fun hne => ?_⟩
    have hp : 0 < l := by
      rcases Nat.eq_zero_or_pos l with h | h
      · subst h; simp at hne
      · exact h
    obtain ⟨b, off, spot⟩ := ad
    have hspot : spot = none := by simpa [Addr.add] using World.cell?_spot (hcell 0 (by omega))
    subst hspot
    refine ⟨b, off, rfl, fun i hi => ?_⟩
    rw [hlen] at hi
    have := hcell i (by omega)
    rw [Go.WideShapes.add_plain] at this
    rw [this]
    simp [List.getD, hi]
set_option maxHeartbeats 1000000 in
theorem trod_op {H : Type} {enc : TypeId × Value → H} {P : Program} {w : World} {base n : Nat} {held : Bool} {t e : TypeId} {h0 h1 h2 h3 h4 h5 h6 h7 h8 g0 g1 g2 g3 g4 g5 : Field} {cs : List Value} {y : DataW H × List MemPlace}
    (A : OpAt P t e h0 h1 h2 h3 h4 h5 h6 h7 h8 g0 g1 g2 g3 g4 g5) (hlen : cs.length = 14) (h : DataW.trod enc P w base (fun _ => true) held n t cs = some y) :
    ∃ (k id a b x m c e' t' mx wi cc v : Int) (dv : Value) (ks : List Int), cs = [.int .i64 k, .int .i64 id, .int .i64 a, .int .i64 b, .int .i64 x, .int .i64 m, .int .i64 c, .int .i64 e', .int .i64 t', .int .i64 mx, .int .i64 wi, .int .i64 cc, .int .i64 v, dv] ∧ Nums w dv ks := by
  obtain ⟨xs, kk, _, _, _, hxl, hfl⟩ := DataW.trod_struct A.hs h
  match xs, hxl, cs, hlen with
  | [y0, y1, y2, y3, y4, y5, y6, y7, y8], _, [x0, x1, x2, x3, x4, x5, x6, x7, x8, x9, x10, x11, x12, x13], _ =>
    have k0 := hfl 0 h0 rfl
    have k1 := hfl 1 h1 rfl
    have k2 := hfl 2 h2 rfl
    have k3 := hfl 3 h3 rfl
    have k4 := hfl 4 h4 rfl
    have k5 := hfl 5 h5 rfl
    have k6 := hfl 6 h6 rfl
    have k7 := hfl 7 h7 rfl
    have k8 := hfl 8 h8 rfl
    simp [A.o0, A.c0] at k0
    simp [A.o1, A.c1] at k1
    simp [A.o2, A.c2] at k2
    simp [A.o3, A.c3] at k3
    simp [A.o4, A.c4] at k4
    simp [A.o5, A.c5] at k5
    simp [A.o6, A.c6] at k6
    simp [A.o7, A.c7] at k7
    simp [A.o8, A.c8] at k8
    obtain ⟨k, rfl, _⟩ := see_field A.w0 k0
    obtain ⟨id, rfl, _⟩ := see_field A.w1 k1
    obtain ⟨a, b, x, m, c, e', rfl, rfl, rfl, rfl, rfl, rfl⟩ := trod_six A.sp A.hone A.u0 A.u1 A.u2 A.u3 A.u4 A.u5 k2
    obtain ⟨t', rfl, _⟩ := see_field A.w3 k3
    obtain ⟨mx, rfl, _⟩ := see_field A.w4 k4
    obtain ⟨wi, rfl, _⟩ := see_field A.w5 k5
    obtain ⟨cc, rfl, _⟩ := see_field A.w6 k6
    obtain ⟨v, rfl, _⟩ := see_field A.w7 k7
    obtain ⟨ks, hk⟩ := nums_cell A.ds A.de A.dc k8
    exact ⟨k, id, a, b, x, m, c, e', t', mx, wi, cc, v, x13, ks, rfl, hk⟩
/-- What is asked. -/
theorem see_op {H : Type} {enc : TypeId × Value → H} {P : Program} {w : World} {base b0 : Nat} {held : Bool} {r : Reach} {t e : TypeId} {h0 h1 h2 h3 h4 h5 h6 h7 h8 g0 g1 g2 g3 g4 g5 : Field} {v : Value} {d : DataW H} {p : List MemPlace}
    (A : OpAt P t e h0 h1 h2 h3 h4 h5 h6 h7 h8 g0 g1 g2 g3 g4 g5) (hv : Value.okWide P w r b0 t v) (h : DataW.Trod enc P w base (fun _ => true) held t v d p) :
    ∃ (k id a b x m c e' t' mx wi cc v' : Int) (dv : Value) (ks : List Int), v = .agg #[.int .i64 k, .int .i64 id, .int .i64 a, .int .i64 b, .int .i64 x, .int .i64 m, .int .i64 c, .int .i64 e', .int .i64 t', .int .i64 mx, .int .i64 wi, .int .i64 cc, .int .i64 v', dv] ∧ Nums w dv ks := by
  obtain ⟨cs, rfl, hsz⟩ := okWide_struct A.hs hv
  obtain ⟨fuel, hf⟩ := h
  obtain ⟨k, id, a, b, x, m, c, e', t', mx, wi, cc, v', dv, ks, hq, hk⟩ := trod_op A (by have := hsz.trans A.ce; simpa [Value.cells] using this) hf
  refine ⟨k, id, a, b, x, m, c, e', t', mx, wi, cc, v', dv, ks, ?_, hk⟩
  obtain ⟨l⟩ := cs
  simp [Value.cells] at hq
  rw [hq]
theorem Try.opAt : ∃ h0 h1 h2 h3 h4 h5 h6 h7 h8 g0 g1 g2 g3 g4 g5, OpAt Try.prog 26 3 h0 h1 h2 h3 h4 h5 h6 h7 h8 g0 g1 g2 g3 g4 g5 :=
  ⟨_, _, _, _, _, _, _, _, _, _, _, _, _, _, _, ⟨Try.underlying26, by kernel_rfl, rfl, rfl, rfl, rfl, rfl, rfl, rfl, rfl, rfl, by kernel_rfl, by kernel_rfl, by kernel_rfl, by kernel_rfl, by kernel_rfl, by kernel_rfl, by kernel_rfl, by kernel_rfl, by kernel_rfl, Try.underlying23, by kernel_rfl, Try.underlying3, Try.underlying3, Try.underlying3, Try.underlying3, Try.underlying3, Try.underlying3, Try.underlying3, Try.underlying3, Try.underlying3, Try.underlying3, Try.underlying3, Try.underlying3, Try.underlying3, Try.underlying24, Try.underlying3, by kernel_rfl⟩⟩
end Go.Proofs.Yteklcolphbcjlaa
