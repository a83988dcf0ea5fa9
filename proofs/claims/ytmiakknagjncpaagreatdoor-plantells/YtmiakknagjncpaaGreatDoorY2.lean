/- Texts that belong together, one behind the other: E9, E13, V5, F1, U1, U2, U3, U4, U5, U6, U7, U9. -/
import Derived.Test.YtmiakknagjncpaaGreatDoorY1
import Derived.Laws.StructEq
import Derived.ProofKit
import Derived.OpenShut
import Derived.Carry
import Derived.Lib.SmallJoins
import Derived.Deep.Grids
import Derived.Deep.RegionHeld3
import Derived.Deep.RegionWith
import Derived.Laws.AppendOwnNone
/- Walks of the document's own answers of chapter 5: May. -/
namespace Go.Proofs.YtmiakknagjncpaaGreatDoor
open Go.RowKit

set_option maxHeartbeats 1000000 in
set_option maxRecDepth 100000 in
theorem refSp_any (c t x m k e : Int) (w : World) :
    Calls Tryz.prog 20 #[.agg #[.int .i64 c, .int .i64 t, .int .i64 x, .int .i64 m, .int .i64 k, .int .i64 e]] w fun r w' => r = .returned (.bool (maySp ⟨c, t, x, m, k, e⟩)) ∧ Below w.heap.size w w' := by
  have E := maySp_eq ⟨c, t, x, m, k, e⟩
  simp only at E
  by_cases c1 : 1 ≤ c
  rotate_left
  · have H : Hid (maySp ⟨c, t, x, m, k, e⟩ = false) := by show _ = _; rw [E]; exact decide_eq_false (by omega)
    clear E
    go_enter Tryz.func20, Tryz.ntmps20
    go_wp2_with fail
    refine (refMay_any m k _).mono ?_
    rintro r w1 ⟨rfl, rfl⟩
    go_wp2
    go_ret
    exact ⟨ret_b H.out.symm, (Below.refl _ _).alloc (by simp) _⟩
  by_cases c2 : c ≤ 6
  rotate_left
  · have H : Hid (maySp ⟨c, t, x, m, k, e⟩ = false) := by show _ = _; rw [E]; exact decide_eq_false (by omega)
    clear E
    go_enter Tryz.func20, Tryz.ntmps20
    go_wp2_with fail
    refine (refMay_any m k _).mono ?_
    rintro r w1 ⟨rfl, rfl⟩
    go_wp2
    go_ret
    exact ⟨ret_b H.out.symm, (Below.refl _ _).alloc (by simp) _⟩
  by_cases c3 : c ≤ t
  rotate_left
  · have H : Hid (maySp ⟨c, t, x, m, k, e⟩ = false) := by show _ = _; rw [E]; exact decide_eq_false (by omega)
    clear E
    go_enter Tryz.func20, Tryz.ntmps20
    go_wp2_with fail
    refine (refMay_any m k _).mono ?_
    rintro r w1 ⟨rfl, rfl⟩
    go_wp2
    go_ret
    exact ⟨ret_b H.out.symm, (Below.refl _ _).alloc (by simp) _⟩
  by_cases c4 : t ≤ x
  rotate_left
  · have H : Hid (maySp ⟨c, t, x, m, k, e⟩ = false) := by show _ = _; rw [E]; exact decide_eq_false (by omega)
    clear E
    go_enter Tryz.func20, Tryz.ntmps20
    go_wp2_with fail
    refine (refMay_any m k _).mono ?_
    rintro r w1 ⟨rfl, rfl⟩
    go_wp2
    go_ret
    exact ⟨ret_b H.out.symm, (Below.refl _ _).alloc (by simp) _⟩
  by_cases c5 : x ≤ 48
  rotate_left
  · have H : Hid (maySp ⟨c, t, x, m, k, e⟩ = false) := by show _ = _; rw [E]; exact decide_eq_false (by omega)
    clear E
    go_enter Tryz.func20, Tryz.ntmps20
    go_wp2_with fail
    refine (refMay_any m k _).mono ?_
    rintro r w1 ⟨rfl, rfl⟩
    go_wp2
    go_ret
    exact ⟨ret_b H.out.symm, (Below.refl _ _).alloc (by simp) _⟩
  cases hW : mayB m k
  · have H : Hid (maySp ⟨c, t, x, m, k, e⟩ = false) := by
      show _ = _; rw [E]; refine decide_eq_false fun h => ?_
      have := decide_eq_true (p := 1 ≤ m ∧ m ≤ k ∧ k ≤ 6) h.2.2.2.2.2.1
      unfold mayB at hW; rw [this] at hW; cases hW
    clear E
    go_enter Tryz.func20, Tryz.ntmps20
    go_wp2_with fail
    refine (refMay_any m k _).mono ?_
    rintro r w1 ⟨rfl, rfl⟩
    go_wp2
    go_ret
    exact ⟨ret_b H.out.symm, (Below.refl _ _).alloc (by simp) _⟩
  have hm := mayB_of hW
  by_cases c7 : 0 ≤ e
  rotate_left
  · have H : Hid (maySp ⟨c, t, x, m, k, e⟩ = false) := by show _ = _; rw [E]; exact decide_eq_false (by omega)
    clear E hm
    go_enter Tryz.func20, Tryz.ntmps20
    go_wp2_with fail
    refine (refMay_any m k _).mono ?_
    rintro r w1 ⟨rfl, rfl⟩
    go_wp2
    go_ret
    exact ⟨ret_b H.out.symm, (Below.refl _ _).alloc (by simp) _⟩
  by_cases c8 : e ≤ 8
  rotate_left
  · have H : Hid (maySp ⟨c, t, x, m, k, e⟩ = false) := by show _ = _; rw [E]; exact decide_eq_false (by omega)
    clear E hm
    go_enter Tryz.func20, Tryz.ntmps20
    go_wp2_with fail
    refine (refMay_any m k _).mono ?_
    rintro r w1 ⟨rfl, rfl⟩
    go_wp2
    go_ret
    exact ⟨ret_b H.out.symm, (Below.refl _ _).alloc (by simp) _⟩
  by_cases c9 : e = 0
  · subst c9
    by_cases c10 : t = x
    · have H : Hid (maySp ⟨c, t, x, m, k, 0⟩ = true) := by show _ = _; rw [E]; exact decide_eq_true (by omega)
      subst c10
      clear E hm
      go_enter Tryz.func20, Tryz.ntmps20
      go_wp2_with fail
      refine (refMay_any m k _).mono ?_
      rintro r w1 ⟨rfl, rfl⟩
      go_wp2
      go_ret
      exact ⟨ret_b H.out.symm, (Below.refl _ _).alloc (by simp) _⟩
    · have H : Hid (maySp ⟨c, t, x, m, k, 0⟩ = false) := by show _ = _; rw [E]; exact decide_eq_false (by omega)
      have c11 : (t == x) = false := by simpa using c10
      clear E hm
      go_enter Tryz.func20, Tryz.ntmps20
      go_wp2_with fail
      refine (refMay_any m k _).mono ?_
      rintro r w1 ⟨rfl, rfl⟩
      go_wp2
      go_ret
      exact ⟨ret_b H.out.symm, (Below.refl _ _).alloc (by simp) _⟩
  · have H : Hid (maySp ⟨c, t, x, m, k, e⟩ = true) := by show _ = _; rw [E]; exact decide_eq_true (by omega)
    have c10 : (e == 0) = false := by simpa using c9
    clear E hm
    go_enter Tryz.func20, Tryz.ntmps20
    go_wp2_with fail
    refine (refMay_any m k _).mono ?_
    rintro r w1 ⟨rfl, rfl⟩
    go_wp2
    go_ret
    exact ⟨ret_b H.out.symm, (Below.refl _ _).alloc (by simp) _⟩
end Go.Proofs.YtmiakknagjncpaaGreatDoor
/- Walks of chapter 5: what is the same; the document's example. -/
namespace Go.Proofs.YtmiakknagjncpaaGreatDoor
open Go.RowKit

/-- Are two descriptions the same? -/
def spB (c t x m k e c' t' x' m' k' e' : Int) : Bool := decide (c = c') && (decide (t = t') && (decide (x = x') && (decide (m = m') && (decide (k = k') && decide (e = e')))))
theorem spB_self (c t x m k e : Int) : spB c t x m k e c t x m k e = true := by simp [spB]
set_option maxHeartbeats 1000000 in
theorem sp_eql (c t x m k e c' t' x' m' k' e' : Int) (w : World) : (binOp .eql 38 (.agg #[.int .i64 c, .int .i64 t, .int .i64 x, .int .i64 m, .int .i64 k, .int .i64 e]) (.agg #[.int .i64 c', .int .i64 t', .int .i64 x', .int .i64 m', .int .i64 k', .int .i64 e'])).run Tryz.prog w = .ok (.bool (spB c t x m k e c' t' x' m' k' e')) w := by
  unfold spB
  by_cases h0 : c = c'
  rotate_left
  · simp [go_sem, h0]
  by_cases h1 : t = t'
  rotate_left
  · simp [go_sem, h0, h1]
  by_cases h2 : x = x'
  rotate_left
  · simp [go_sem, h0, h1, h2]
  by_cases h3 : m = m'
  rotate_left
  · simp [go_sem, h0, h1, h2, h3]
  by_cases h4 : k = k'
  rotate_left
  · simp [go_sem, h0, h1, h2, h3, h4]
  by_cases h5 : e = e'
  rotate_left
  · simp [go_sem, h0, h1, h2, h3, h4, h5]
  simp [go_sem, h0, h1, h2, h3, h4, h5]
set_option maxHeartbeats 1000000 in
theorem sp_neq (c t x m k e c' t' x' m' k' e' : Int) (w : World) : (binOp .neq 38 (.agg #[.int .i64 c, .int .i64 t, .int .i64 x, .int .i64 m, .int .i64 k, .int .i64 e]) (.agg #[.int .i64 c', .int .i64 t', .int .i64 x', .int .i64 m', .int .i64 k', .int .i64 e'])).run Tryz.prog w = .ok (.bool (!spB c t x m k e c' t' x' m' k' e')) w := by
  unfold spB
  by_cases h0 : c = c'
  rotate_left
  · simp [go_sem, h0]
  by_cases h1 : t = t'
  rotate_left
  · simp [go_sem, h0, h1]
  by_cases h2 : x = x'
  rotate_left
  · simp [go_sem, h0, h1, h2]
  by_cases h3 : m = m'
  rotate_left
  · simp [go_sem, h0, h1, h2, h3]
  by_cases h4 : k = k'
  rotate_left
  · simp [go_sem, h0, h1, h2, h3, h4]
  by_cases h5 : e = e'
  rotate_left
  · simp [go_sem, h0, h1, h2, h3, h4, h5]
  simp [go_sem, h0, h1, h2, h3, h4, h5]
end Go.Proofs.YtmiakknagjncpaaGreatDoor
/- What the arguments of a statement are, as the walks are told of them: descriptions, bytes. -/
namespace Go.Proofs.YtmiakknagjncpaaGreatDoor
open Go.ChangeShapes Go.WideShapes Go.RowKit Go.Deep Go.Joins

theorem array6 {α : Type} {cs : Array α} (h : cs.size = 6) : ∃ c0 c1 c2 c3 c4 c5, cs = #[c0, c1, c2, c3, c4, c5] := by
  obtain ⟨l⟩ := cs
  match l, h with
  | [c0, c1, c2, c3, c4, c5], _ => exact ⟨c0, c1, c2, c3, c4, c5, rfl⟩
/-- One of a struct's fields, an integer. -/
theorem see_field {H : Type} {enc : TypeId × Value → H} {P : Program} {w : World} {base n : Nat} {spare : Nat → Bool} {held : Bool} {t : TypeId} {k : IntKind} {c : Value} {y : DataW H × List MemPlace} (ht : P.underlying t = some (.int k))
    (h : DataW.trod enc P w base spare held n t [c] = some y) : ∃ a, c = .int k a ∧ (Lit.int k a).wf = true := by
  obtain ⟨a, e, _, wa⟩ := DataW.trod_int ht h
  simp at e
  exact ⟨a, e, wa⟩
/-- A struct of six integers. -/
theorem see_ints6 {H : Type} {enc : TypeId × Value → H} {P : Program} {w : World} {base b0 : Nat} {spare : Nat → Bool} {held : Bool} {r : Reach} {t : TypeId} {f0 f1 f2 f3 f4 f5 : Field} {k : IntKind} {v : Value} {d : DataW H} {p : List MemPlace}
    (hs : P.underlying t = some (.struct #[f0, f1, f2, f3, f4, f5])) (hone : oneCellFields P #[f0, f1, f2, f3, f4, f5] = true) (hC : P.cellsOf t = 6) (h0 : P.underlying f0.type = some (.int k)) (h1 : P.underlying f1.type = some (.int k)) (h2 : P.underlying f2.type = some (.int k)) (h3 : P.underlying f3.type = some (.int k)) (h4 : P.underlying f4.type = some (.int k)) (h5 : P.underlying f5.type = some (.int k))
    (hv : Value.okWide P w r b0 t v) (h : DataW.Trod enc P w base spare held t v d p) :
    ∃ a0 a1 a2 a3 a4 a5, v = .agg #[.int k a0, .int k a1, .int k a2, .int k a3, .int k a4, .int k a5] ∧ (Lit.int k a0).wf = true ∧ (Lit.int k a1).wf = true ∧ (Lit.int k a2).wf = true ∧ (Lit.int k a3).wf = true ∧ (Lit.int k a4).wf = true ∧ (Lit.int k a5).wf = true := by
  obtain ⟨cs, rfl, hsz⟩ := okWide_struct hs hv
  obtain ⟨c0, c1, c2, c3, c4, c5, rfl⟩ := array6 (hsz.trans hC)
  obtain ⟨fuel, hf⟩ := h
  obtain ⟨xs, n, _, _, _, hlen, hg⟩ := DataW.trod_struct hs hf
  have each : ∀ (i : Nat) (f : Field) (c : Value), #[f0, f1, f2, f3, f4, f5][i]? = some f → #[c0, c1, c2, c3, c4, c5][i]? = some c → P.underlying f.type = some (.int k) → ∃ a, c = .int k a ∧ (Lit.int k a).wf = true := by
    intro i f c hi hc hu
    obtain ⟨o, kc⟩ := hone_of hone i f hi
    have hlt : i < xs.length := by
      have := (Array.getElem?_eq_some_iff.1 hi).1
      simp at this hlen; omega
    have := hg i f hi
    rw [List.getElem?_eq_getElem hlt, o, kc] at this
    refine see_field (enc := enc) (w := w) (base := base) (spare := spare) (held := held) (n := n) hu (y := xs[i]) ?_
    rw [← this]
    congr 1
    simp only [Value.cells]
    have hl : i < 6 := by have := (Array.getElem?_eq_some_iff.1 hi).1; simpa using this
    rcases (show i = 0 ∨ i = 1 ∨ i = 2 ∨ i = 3 ∨ i = 4 ∨ i = 5 by omega) with rfl | rfl | rfl | rfl | rfl | rfl <;> simp at hc <;> subst hc <;> rfl
  obtain ⟨a0, rfl, w0⟩ := each 0 f0 c0 rfl rfl h0
  obtain ⟨a1, rfl, w1⟩ := each 1 f1 c1 rfl rfl h1
  obtain ⟨a2, rfl, w2⟩ := each 2 f2 c2 rfl rfl h2
  obtain ⟨a3, rfl, w3⟩ := each 3 f3 c3 rfl rfl h3
  obtain ⟨a4, rfl, w4⟩ := each 4 f4 c4 rfl rfl h4
  obtain ⟨a5, rfl, w5⟩ := each 5 f5 c5 rfl rfl h5
  exact ⟨a0, a1, a2, a3, a4, a5, rfl, w0, w1, w2, w3, w4, w5⟩
end Go.Proofs.YtmiakknagjncpaaGreatDoor
/- What the statement SpecLess comes to. -/
namespace Go.Proofs.YtmiakknagjncpaaGreatDoor
open Go.RowKit

theorem bstep {w5 w1 w2 : World} (hb : Below w1.heap.size w1 w2) (h : Below w5.heap.size w5 w1) : Below w5.heap.size w5 w2 := h.trans (hb.mono h.size)
theorem sBel {A : Prop} {w5 w1 : World} (h : A ∧ Below w5.heap.size w5 w1) : Below w5.heap.size w5 w1 := h.2
end Go.Proofs.YtmiakknagjncpaaGreatDoor
/- Lists of integers that are read, the table of limits, and walks of Sum and Fits of package units, and of the document's own. -/
namespace Go.Proofs.YtmiakknagjncpaaGreatDoor
open Go.RowKit

theorem Nums.later {w w' : World} {v : Value} {xs : List Int} (h : Nums w v xs) (hb : Below w.heap.size w w') : Nums w' v xs := by
  obtain ⟨a, cap, rfl, h1, h2, h3⟩ := h
  refine ⟨a, cap, rfl, h1, h2, fun hx => ?_⟩
  obtain ⟨b, o, rfl, h4⟩ := h3 hx
  exact ⟨b, o, rfl, fun i hi => cell_later hb (h4 i hi)⟩
/-- What the limits are: the table's three cells. -/
def Lim (w : World) : Prop := w.cell? ⟨0, 0, none⟩ = some (.int .i64 1099511627776) ∧ w.cell? ⟨0, 1, none⟩ = some (.int .i64 1000) ∧ w.cell? ⟨0, 2, none⟩ = some (.int .i64 983040)
theorem Lim.later {w w' : World} (h : Lim w) (hb : Below w.heap.size w w') : Lim w' := ⟨cell_later hb h.1, cell_later hb h.2.1, cell_later hb h.2.2⟩

/-- May a number of a list be? -/
def unB (x : Int) : Bool := wiB x 0 1099511627776
def sumB (ks : List Int) : Bool := decide (ks.length ≤ 1000) && ks.all unB
def sumV (ks : List Int) : Int := bif sumB ks then ks.sum else 0
def fitB6 (ks : List Int) : Bool := sumB ks && decide (sumV ks ≤ 983040)
theorem sum_no {ks : List Int} (h : sumB ks = false) : sumV ks = 0 := by unfold sumV; rw [h]; rfl
theorem sum_yes {ks : List Int} (h : sumB ks = true) : sumV ks = ks.sum := by unfold sumV; rw [h]; rfl
theorem sumB_long {ks : List Int} (h : ¬ ks.length ≤ 1000) : sumB ks = false := by unfold sumB; rw [decide_eq_false h]; rfl
theorem sumB_bad {ks : List Int} {j : Nat} (hj : j < ks.length) (h : unB (ks.getD j 0) = false) : sumB ks = false := by
  have : ks.all unB = false := by
    rw [List.all_eq_false]
    refine ⟨ks[j], List.getElem_mem hj, ?_⟩
    have e : ks.getD j 0 = ks[j] := by simp [List.getD, hj]
    rw [← e, h]; simp
  unfold sumB; rw [this, Bool.and_false]
theorem sumB_good {ks : List Int} (h : ks.length ≤ 1000) (h' : (ks.take ks.length).all unB = true) : sumB ks = true := by
  rw [List.take_length] at h'
  unfold sumB; rw [decide_eq_true h, h']; rfl
theorem take_all {ks : List Int} {j : Nat} (hj : j < ks.length) (h : (ks.take j).all unB = true) (h' : unB (ks.getD j 0) = true) : (ks.take (j + 1)).all unB = true := by
  have e : ks.getD j 0 = ks[j] := by simp [List.getD, hj]
  rw [e] at h'
  rw [List.take_add_one, List.getElem?_eq_getElem hj, List.all_append, h]
  simp [h']
theorem take_sum {ks : List Int} {j : Nat} (hj : j < ks.length) : (ks.take (j + 1)).sum = (ks.take j).sum + ks.getD j 0 := by
  have e : ks.getD j 0 = ks[j] := by simp [List.getD, hj]
  rw [List.take_add_one, List.getElem?_eq_getElem hj, List.sum_append, e]
  simp
theorem within6_any (n a b : Int) (w : World) :
    Calls Tryz.prog 57 #[.int .i64 n, .int .i64 a, .int .i64 b] w fun e w' => e = .returned (.bool (wiB n a b)) ∧ w' = w := by
  by_cases c0 : a ≤ n
  · have H : Hid (wiB n a b = decide (n ≤ b)) := by show _ = _; unfold wiB; simp [c0]
    go_enter Tryz.func57, Tryz.ntmps57
    go_wp2
    go_ret
    exact ⟨ret_b H.out.symm, rfl⟩
  · have H : Hid (wiB n a b = false) := by show _ = _; unfold wiB; simp [c0]
    go_enter Tryz.func57, Tryz.ntmps57
    go_wp2
    go_ret
    exact ⟨ret_b H.out.symm, rfl⟩

set_option maxHeartbeats 1000000 in
set_option maxRecDepth 100000 in
theorem sum_any (ks : List Int) (v : Value) (w : World) (h : Nums w v ks) (hL : Lim w) :
    Calls Tryz.prog 60 #[v] w fun e w' => e = .returned (.tuple #[.int .i64 (sumV ks), .bool (sumB ks)]) ∧ w' = w := by
  obtain ⟨a, cap, rfl, h1, h2, h3⟩ := h
  obtain ⟨l0, l1, l2⟩ := hL
  by_cases hl : (ks.length : Int) > 1000
  · have H : Hid (sumB ks = false) := sumB_long (by omega)
    go_enter Tryz.func60, Tryz.ntmps60
    go_wp2
    go_ret2
    exact ⟨ret_ib (sum_no H.out).symm H.out.symm, rfl⟩
  · go_enter Tryz.func60, Tryz.ntmps60
    go_wp2_with fail
    go_loop [4, 14] (fun s i => ∃ (j : Nat) (z : Int), j ≤ ks.length ∧ i = .int .i64 j ∧ s = .int .i64 z ∧ 0 ≤ z ∧ z ≤ j * 1099511627776 ∧ Hid (z = (ks.take j).sum ∧ (ks.take j).all unB = true)) (fun _ i => ((ks.length : Int) - intOf i).toNat)
    case atStart => exact ⟨0, 0, by omega, rfl, rfl, by omega, by omega, by simp, by simp⟩
    case round =>
      obtain ⟨j, z, hj, rfl, rfl, z0, z1, HZ⟩ := hrel
      by_cases hlt : (j : Int) < ks.length
      · obtain ⟨b, o, rfl, h4⟩ := h3 (by intro e; rw [e, List.length_nil] at hlt; omega)
        have hc := h4 j (by omega)
        clear h4 h3
        obtain ⟨x, hx⟩ : ∃ x, ks.getD j 0 = x := ⟨_, rfl⟩
        have HX : Hid (ks.getD j 0 = x) := hx
        rw [hx] at hc
        clear hx
        cases ho : unB x
        · have H : Hid (sumB ks = false) := sumB_bad (j := j) (by omega) (by rw [HX.out]; exact ho)
          have HO : Hid (wiB x 0 1099511627776 = false) := ho
          clear ho
          go_wp2_with fail
          refine (within6_any x 0 1099511627776 _).mono ?_
          rintro e w1 ⟨rfl, rfl⟩
          rw [HO.out]
          go_wp2
          go_ret2
          exact ⟨ret_ib (sum_no H.out).symm H.out.symm, rfl⟩
        · have hx := of_decide_eq_true (show decide (0 ≤ x ∧ x ≤ 1099511627776) = true from ho)
          have HA : Hid ((ks.take (j + 1)).all unB = true) := take_all (j := j) (by omega) HZ.out.2 (by rw [HX.out]; exact ho)
          have HS : Hid (z + x = (ks.take (j + 1)).sum) := by show _ = _; rw [take_sum (by omega), HX.out, ← HZ.out.1]
          have HO : Hid (wiB x 0 1099511627776 = true) := ho
          clear ho
          obtain ⟨hx0, hx1⟩ := hx
          go_wp2_with fail
          refine (within6_any x 0 1099511627776 _).mono ?_
          rintro e w1 ⟨rfl, rfl⟩
          rw [HO.out]
          go_wp2_with fail
          go_round
          case rel => exact ⟨j + 1, z + x, by omega, by go_num, by go_num, by omega, by omega, HS.out, HA.out⟩
          case measure => simp [intOf]; omega
      · obtain rfl : j = ks.length := by omega
        have H : Hid (sumB ks = true) := sumB_good (by omega) HZ.out.2
        have HS : Hid (z = sumV ks) := by show _ = _; rw [sum_yes H.out, HZ.out.1, List.take_length]
        go_wp2
        go_ret2
        exact ⟨ret_ib HS.out H.out.symm, rfl⟩
end Go.Proofs.YtmiakknagjncpaaGreatDoor
/- Walks of Fits of package units, and of the document's own Sum and Fits. -/
namespace Go.Proofs.YtmiakknagjncpaaGreatDoor
open Go.RowKit

set_option maxHeartbeats 1000000 in
set_option maxRecDepth 100000 in
theorem fits_any (ks : List Int) (v : Value) (w : World) (h : Nums w v ks) (hL : Lim w) :
    Calls Tryz.prog 54 #[v] w fun e w' => e = .returned (.bool (fitB6 ks)) ∧ w' = w := by
  have HS := sum_any ks v w h hL
  obtain ⟨a, cap, rfl, h1, h2, h3⟩ := h
  obtain ⟨l0, l1, l2⟩ := hL
  clear h3
  cases hb : sumB ks
  · have H : Hid (sumB ks = false) := hb
    have HF : Hid (fitB6 ks = false) := by show _ = _; unfold fitB6; rw [hb]; rfl
    clear hb
    go_enter Tryz.func54, Tryz.ntmps54
    go_wp2_with fail
    refine HS.mono ?_
    rintro e w1 ⟨rfl, rfl⟩
    rw [H.out]
    go_wp2
    go_ret
    exact ⟨ret_b HF.out.symm, rfl⟩
  · have H : Hid (sumB ks = true) := hb
    have HF : Hid (fitB6 ks = decide (sumV ks ≤ 983040)) := by show _ = _; unfold fitB6; rw [hb]; rfl
    clear hb
    go_enter Tryz.func54, Tryz.ntmps54
    go_wp2_with fail
    refine HS.mono ?_
    rintro e w1 ⟨rfl, rfl⟩
    rw [H.out]
    go_wp2
    go_ret
    exact ⟨ret_b HF.out.symm, rfl⟩
end Go.Proofs.YtmiakknagjncpaaGreatDoor
/- Walk of product of package units, and what its numbers are worth. -/
namespace Go.Proofs.YtmiakknagjncpaaGreatDoor
open Go.RowKit

/-- A product, part by part. -/
def prV (ks : List Int) : Nat → Int
  | 0 => 1
  | j + 1 => prV ks j * ks.getD j 0

set_option maxHeartbeats 1000000 in
set_option maxRecDepth 100000 in
theorem product6_any (ks : List Int) (v : Value) (w : World) (h : Nums w v ks) (hl : ks.length ≤ 5) (hf : ∀ j, j ≤ ks.length → 0 ≤ prV ks j ∧ prV ks j ≤ 4611686018427387904) :
    Calls Tryz.prog 59 #[v] w fun e w' => e = .returned (.int .i64 (prV ks ks.length)) ∧ w' = w := by
  obtain ⟨a, cap, rfl, h1, h2, h3⟩ := h
  have HF : Hid (∀ j, j ≤ ks.length → 0 ≤ prV ks j ∧ prV ks j ≤ 4611686018427387904) := hf
  clear hf
  go_enter Tryz.func59, Tryz.ntmps59
  go_wp2_with fail
  go_loop [3, 8] (fun s i => ∃ (j : Nat) (z : Int), j ≤ ks.length ∧ i = .int .i64 j ∧ s = .int .i64 z ∧ Hid (z = prV ks j)) (fun _ i => ((ks.length : Int) - intOf i).toNat)
  case atStart => exact ⟨0, 1, by omega, rfl, rfl, rfl⟩
  case round =>
    obtain ⟨j, z, hj, rfl, rfl, HZ⟩ := hrel
    by_cases hlt : (j : Int) < ks.length
    · obtain ⟨b, o, rfl, h4⟩ := h3 (by intro e; rw [e, List.length_nil] at hlt; omega)
      have hc := h4 j (by omega)
      clear h4 h3
      obtain ⟨x, hx⟩ : ∃ x, ks.getD j 0 = x := ⟨_, rfl⟩
      rw [hx] at hc
      have HP : Hid (z * x = prV ks (j + 1)) := by show z * x = prV ks j * ks.getD j 0; rw [hx, ← HZ.out]
      clear hx
      have hw : IntKind.i64.wrap (z * x) = z * x := by
        have := HF.out (j + 1) (by omega)
        rw [← HP.out] at this
        rw [IntKind.wrap_i64]; omega
      go_wp2_with fail
      go_round
      case rel => exact ⟨j + 1, z * x, by omega, by go_num, by first | rfl | rw [hw] | go_num, HP.out⟩
      case measure => simp [intOf]; omega
    · obtain rfl : j = ks.length := by omega
      go_wp2
      go_ret
      exact ⟨ret_i HZ.out, rfl⟩

/-- Five parts, one behind the other, in a block. -/
def Five (w : World) (b : Nat) (c m u k p : Int) : Prop := w.cell? ⟨b, 0, none⟩ = some (.int .i64 c) ∧ w.cell? ⟨b, 1, none⟩ = some (.int .i64 m) ∧ w.cell? ⟨b, 2, none⟩ = some (.int .i64 u) ∧ w.cell? ⟨b, 3, none⟩ = some (.int .i64 k) ∧ w.cell? ⟨b, 4, none⟩ = some (.int .i64 p)
theorem Five.later {w w' : World} {b : Nat} {c m u k p : Int} (h : Five w b c m u k p) (hb : Below w.heap.size w w') : Five w' b c m u k p :=
  ⟨cell_later hb h.1, cell_later hb h.2.1, cell_later hb h.2.2.1, cell_later hb h.2.2.2.1, cell_later hb h.2.2.2.2⟩

theorem prod3_any (b : Nat) (c m k p : Int) (w : World) (h : Five w b c m 1048576 k p) (c0 : 1 ≤ c) (c1 : c ≤ 6) (m0 : 1 ≤ m) (m1 : m ≤ 6) :
    Calls Tryz.prog 59 #[.slice (some ⟨b, 0, none⟩) 3 3] w fun e w' => e = .returned (.int .i64 (c * m * 1048576)) ∧ w' = w := by
  obtain ⟨q0, q1, q2, q3, q4⟩ := h
  have hn : Nums w (.slice (some ⟨b, 0, none⟩) 3 3) [c, m, 1048576] := ⟨_, 3, rfl, by simp, by decide, fun _ => ⟨b, 0, rfl, fun i hi => by
    match i, hi with
    | 0, _ => exact q0
    | 1, _ => exact q1
    | 2, _ => exact q2⟩⟩
  have e3 : prV [c, m, 1048576] 3 = c * m * 1048576 := by show 1 * c * m * 1048576 = _; rw [Int.one_mul]
  have hcm : 1 ≤ c * m ∧ c * m ≤ 36 := by rcases six c0 c1 with rfl | rfl | rfl | rfl | rfl | rfl <;> omega
  have := product6_any [c, m, 1048576] _ w hn (by simp) (fun j hj => by
    match j, hj with
    | 0, _ => show (0 : Int) ≤ 1 ∧ (1 : Int) ≤ _; omega
    | 1, _ => show 0 ≤ 1 * c ∧ 1 * c ≤ _; omega
    | 2, _ => show 0 ≤ 1 * c * m ∧ 1 * c * m ≤ _; rw [Int.one_mul]; omega
    | 3, _ => rw [e3]; omega)
  rwa [show [c, m, (1048576 : Int)].length = 3 from rfl, e3] at this

theorem prod2_any (b : Nat) (c m k p : Int) (w : World) (h : Five w b c m 1048576 k p) (k0 : 1 ≤ k) (k1 : k ≤ 6) (p0 : 1 ≤ p) (p1 : p ≤ 48) :
    Calls Tryz.prog 59 #[.slice (some ⟨b, 3, none⟩) 2 2] w fun e w' => e = .returned (.int .i64 (k * p)) ∧ w' = w := by
  obtain ⟨q0, q1, q2, q3, q4⟩ := h
  have hn : Nums w (.slice (some ⟨b, 3, none⟩) 2 2) [k, p] := ⟨_, 2, rfl, by simp, by decide, fun _ => ⟨b, 3, rfl, fun i hi => by
    match i, hi with
    | 0, _ => exact q3
    | 1, _ => exact q4⟩⟩
  have e3 : prV [k, p] 2 = k * p := by show 1 * k * p = _; rw [Int.one_mul]
  have hcm : 1 ≤ k * p ∧ k * p ≤ 288 := by rcases six k0 k1 with rfl | rfl | rfl | rfl | rfl | rfl <;> omega
  have := product6_any [k, p] _ w hn (by simp) (fun j hj => by
    match j, hj with
    | 0, _ => show (0 : Int) ≤ 1 ∧ (1 : Int) ≤ _; omega
    | 1, _ => show 0 ≤ 1 * k ∧ 1 * k ≤ _; omega
    | 2, _ => rw [e3]; omega)
  rwa [show [k, p].length = 2 from rfl, e3] at this

/-- Which of both products begins at o. -/
def prX (c m k p : Int) (o : Nat) : Int := if o = 0 then c * m * 1048576 else k * p
theorem prX0 (c m k p : Int) : prX c m k p 0 = c * m * 1048576 := rfl
theorem prX3 (c m k p : Int) : prX c m k p 3 = k * p := rfl
theorem prodx_any (b : Nat) (c m k p : Int) (o n : Nat) (w : World) (h : Five w b c m 1048576 k p) (c0 : 1 ≤ c) (c1 : c ≤ 6) (m0 : 1 ≤ m) (m1 : m ≤ 6) (k0 : 1 ≤ k) (k1 : k ≤ 6) (p0 : 1 ≤ p) (p1 : p ≤ 48) (ho : (o = 0 ∧ n = 3) ∨ (o = 3 ∧ n = 2)) :
    Calls Tryz.prog 59 #[.slice (some ⟨b, o, none⟩) n n] w fun e w' => e = .returned (.int .i64 (prX c m k p o)) ∧ w' = w := by
  rcases ho with ⟨rfl, rfl⟩ | ⟨rfl, rfl⟩
  · exact prod3_any b c m k p w h c0 c1 m0 m1
  · exact prod2_any b c m k p w h k0 k1 p0 p1
end Go.Proofs.YtmiakknagjncpaaGreatDoor
/- Walks of At, Top and Least of package units. -/
namespace Go.Proofs.YtmiakknagjncpaaGreatDoor
open Go.RowKit

/-- Has a task units at the period p? And how many? -/
def atB (s : Sp) (p : Int) : Bool := maySp s && wiB p s.t s.x
def atV (s : Sp) (p : Int) : Int := bif atB s p then cl (s.c * s.m * 1048576) (s.k * p) else 0
def leastV (s : Sp) : Int := if s.e = 0 then atV s s.t else atV s s.x

theorem may_facts {s : Sp} (h : maySp s = true) : 1 ≤ s.c ∧ s.c ≤ 6 ∧ s.c ≤ s.t ∧ s.t ≤ s.x ∧ s.x ≤ 48 ∧ (1 ≤ s.m ∧ s.m ≤ s.k ∧ s.k ≤ 6) ∧ 0 ≤ s.e ∧ s.e ≤ 8 ∧ (s.e ≠ 0 ∨ s.t = s.x) := by
  rw [maySp_eq] at h; exact of_decide_eq_true h
theorem okq_at {c m k p : Int} (c0 : 1 ≤ c) (c1 : c ≤ 6) (m0 : 1 ≤ m) (m1 : m ≤ 6) (k0 : 1 ≤ k) (k1 : k ≤ 6) (p0 : 1 ≤ p) (p1 : p ≤ 48) : okq (c * m * 1048576) (k * p) := by
  have h1 : 1 ≤ c * m ∧ c * m ≤ 36 := by rcases six c0 c1 with rfl | rfl | rfl | rfl | rfl | rfl <;> omega
  have h2 : 1 ≤ k * p ∧ k * p ≤ 288 := by rcases six k0 k1 with rfl | rfl | rfl | rfl | rfl | rfl <;> omega
  unfold okq; omega

set_option maxHeartbeats 1000000 in
set_option maxRecDepth 100000 in
theorem at_any (c t x m k e p : Int) (w : World) :
    Calls Tryz.prog 37 #[.agg #[.int .i64 c, .int .i64 t, .int .i64 x, .int .i64 m, .int .i64 k, .int .i64 e], .int .i64 p] w fun r w' => r = .returned (.int .i64 (atV ⟨c, t, x, m, k, e⟩ p)) ∧ Below w.heap.size w w' := by
  have hS : Six (w.alloc (.cells #[.int .i64 c, .int .i64 t, .int .i64 x, .int .i64 m, .int .i64 k, .int .i64 e] 38)) w.heap.size (Sp.at ⟨c, t, x, m, k, e⟩) := Six.new w ⟨c, t, x, m, k, e⟩
  cases h1 : maySp ⟨c, t, x, m, k, e⟩
  · have H1 : Hid (maySp ⟨c, t, x, m, k, e⟩ = false) := h1
    have H : Hid (atV ⟨c, t, x, m, k, e⟩ p = 0) := by show _ = _; unfold atV atB; rw [h1]; rfl
    clear h1
    go_enter Tryz.func37, Tryz.ntmps37
    go_wp2_with fail
    refine (spmay_any c t x m k e _).mono ?_
    rintro r w1 ⟨rfl, hb1⟩
    rw [H1.out]
    go_wp2
    go_ret
    exact ⟨ret_i H.out.symm, ((Below.refl _ _).alloc (by simp) _).trans (hb1.mono (by simp))⟩
  · have H1 : Hid (maySp ⟨c, t, x, m, k, e⟩ = true) := h1
    cases h2 : wiB p t x
    · have H2 : Hid (wiB p t x = false) := h2
      have H : Hid (atV ⟨c, t, x, m, k, e⟩ p = 0) := by show _ = _; unfold atV atB; simp only [h1, h2]; rfl
      clear h1 h2
      go_enter Tryz.func37, Tryz.ntmps37
      go_wp2_with fail
      refine (spmay_any c t x m k e _).mono ?_
      rintro r w1 ⟨rfl, hb1⟩
      have hS1 := hS.later hb1
      replace hb1 : Below w.heap.size w w1 := ((Below.refl _ _).alloc (by simp) _).trans (hb1.mono (by simp))
      obtain ⟨a0, a1, a2, a3, a4, a5, b0, b1, b2, b3, b4, b5⟩ := hS1.sp
      clear hS
      rw [H1.out]
      go_wp2_with fail
      refine (within6_any p t x _).mono ?_
      rintro r w2 ⟨rfl, rfl⟩
      rw [H2.out]
      go_wp2
      go_ret
      exact ⟨ret_i H.out.symm, hb1⟩
    · have H2 : Hid (wiB p t x = true) := h2
      have H : Hid (atV ⟨c, t, x, m, k, e⟩ p = cl (c * m * 1048576) (k * p)) := by show _ = _; unfold atV atB; simp only [h1, h2]; rfl
      obtain ⟨c0, c1, f2, f3, f4, ⟨m0, m1, k1⟩, e0, e1, f5⟩ := may_facts h1
      have hp := of_decide_eq_true (show decide (t ≤ p ∧ p ≤ x) = true from h2)
      simp only at c0 c1 f2 f3 f4 m0 m1 k1 e0 e1 f5
      obtain ⟨p0, p1⟩ := hp
      have q0 : 1 ≤ p := by omega
      have q1 : p ≤ 48 := by omega
      have k0 : 1 ≤ k := by omega
      have m2 : m ≤ 6 := by omega
      have HQ : Hid (okq (c * m * 1048576) (k * p)) := okq_at c0 c1 m0 m2 k0 k1 q0 q1
      clear h1 h2 f5
      go_enter Tryz.func37, Tryz.ntmps37
      go_wp2_with fail
      refine (spmay_any c t x m k e _).mono ?_
      rintro r w1 ⟨rfl, hb1⟩
      have hS1 := hS.later hb1
      replace hb1 : Below w.heap.size w w1 := ((Below.refl _ _).alloc (by simp) _).trans (hb1.mono (by simp))
      obtain ⟨a0, a1, a2, a3, a4, a5, b0, b1, b2, b3, b4, b5⟩ := hS1.sp
      clear hS b0 b1 b2 b3 b4 b5
      rw [H1.out]
      go_wp2_with fail
      refine (within6_any p t x _).mono ?_
      rintro r w2 ⟨rfl, rfl⟩
      rw [H2.out]
      go_wp2_with fail
      have k5 : Five (w2.alloc (.cells #[.int .i64 c, .int .i64 m, .int .i64 1048576, .int .i64 k, .int .i64 p] 3)) w2.heap.size c m 1048576 k p := by simp [Five]
      have hb2 : Below w.heap.size w (w2.alloc (.cells #[.int .i64 c, .int .i64 m, .int .i64 1048576, .int .i64 k, .int .i64 p] 3)) := hb1.alloc hb1.size _
      generalize w2.alloc (.cells #[.int .i64 c, .int .i64 m, .int .i64 1048576, .int .i64 k, .int .i64 p] 3) = W at *
      have HE : Hid (Below w.heap.size w W) := hb2
      have H5 : Hid (Five W w2.heap.size c m 1048576 k p) := k5
      have s5 := hb2.size
      clear k5 hb2 a0 a1 a2 a3 a4 a5 hS1 hb1
      go_region_held3 (fun w' => True ∧ Below W.heap.size W w')
        (first | exact ⟨trivial, bstep (by assumption) (sBel (by assumption))⟩ | exact ⟨trivial, (Below.refl _ _).drew⟩)
        (first
        | (go_at_call 59; refine (prodx_any _ c m k p _ _ _ (H5.out.later (sBel (by assumption))) c0 c1 m0 m2 k0 k1 q0 q1 (by simp)).mono ?_; rintro r w3 ⟨rfl, hw3⟩; obtain rfl := hw3.symm; first | rw [prX0] | rw [prX3])
        | (go_at_call 58; refine (ceil_yes _ _ _ HQ.out.1 HQ.out.2.1 HQ.out.2.2.1 HQ.out.2.2.2).mono ?_; rintro r w4 ⟨rfl, hb4⟩))
      all_goals
        go_wp2
        go_ret
        exact ⟨ret_i H.out.symm, HE.out.trans ((sBel (by assumption)).mono s5)⟩

set_option maxHeartbeats 1000000 in
set_option maxRecDepth 100000 in
theorem top_any (c t x m k e : Int) (w : World) :
    Calls Tryz.prog 18 #[.agg #[.int .i64 c, .int .i64 t, .int .i64 x, .int .i64 m, .int .i64 k, .int .i64 e]] w fun r w' => r = .returned (.int .i64 (atV ⟨c, t, x, m, k, e⟩ t)) ∧ Below w.heap.size w w' := by
  go_enter Tryz.func18, Tryz.ntmps18
  go_wp2_with fail
  refine (at_any c t x m k e t _).mono ?_
  rintro r w1 ⟨rfl, hb1⟩
  go_wp2
  go_ret
  exact ⟨rfl, ((Below.refl _ _).alloc (by simp) _).trans (hb1.mono (by simp))⟩

set_option maxHeartbeats 1000000 in
set_option maxRecDepth 100000 in
theorem least_any (c t x m k e : Int) (w : World) :
    Calls Tryz.prog 19 #[.agg #[.int .i64 c, .int .i64 t, .int .i64 x, .int .i64 m, .int .i64 k, .int .i64 e]] w fun r w' => r = .returned (.int .i64 (leastV ⟨c, t, x, m, k, e⟩)) ∧ Below w.heap.size w w' := by
  by_cases h : e = 0
  · have H : Hid (leastV ⟨c, t, x, m, k, e⟩ = atV ⟨c, t, x, m, k, e⟩ t) := by show _ = _; unfold leastV; simp [h]
    have h' : (e == 0) = true := by simpa using h
    clear h
    go_enter Tryz.func19, Tryz.ntmps19
    go_wp2_with fail
    refine (top_any c t x m k e _).mono ?_
    rintro r w1 ⟨rfl, hb1⟩
    go_wp2
    go_ret
    exact ⟨ret_i H.out.symm, ((Below.refl _ _).alloc (by simp) _).trans (hb1.mono (by simp))⟩
  · have H : Hid (leastV ⟨c, t, x, m, k, e⟩ = atV ⟨c, t, x, m, k, e⟩ x) := by show _ = _; unfold leastV; simp [h]
    have h' : (e == 0) = false := by simpa using h
    go_enter Tryz.func19, Tryz.ntmps19
    go_wp2_with fail
    refine (at_any c t x m k e x _).mono ?_
    rintro r w1 ⟨rfl, hb1⟩
    go_wp2
    go_ret
    exact ⟨ret_i H.out.symm, ((Below.refl _ _).alloc (by simp) _).trans (hb1.mono (by simp))⟩
end Go.Proofs.YtmiakknagjncpaaGreatDoor
/- Walks of the document's own At, Top and Least of chapter 6. -/
namespace Go.Proofs.YtmiakknagjncpaaGreatDoor
open Go.RowKit

/-- What the numbers of a quotient are. -/
theorem at_nums {c m k p : Int} (c0 : 1 ≤ c) (c1 : c ≤ 6) (m0 : 1 ≤ m) (m1 : m ≤ 6) (k0 : 1 ≤ k) (k1 : k ≤ 6) (p0 : 1 ≤ p) (p1 : p ≤ 48) :
    (1 ≤ c * m ∧ c * m ≤ 36) ∧ (1 ≤ k * p ∧ k * p ≤ 288) ∧ 0 ≤ c * m * 1048576 / (k * p) ∧ c * m * 1048576 / (k * p) ≤ c * m * 1048576 ∧
    0 ≤ c * m * 1048576 / (k * p) * k ∧ c * m * 1048576 / (k * p) * k ≤ 226492416 ∧ 0 ≤ c * m * 1048576 / (k * p) * k * p ∧ c * m * 1048576 / (k * p) * k * p ≤ c * m * 1048576 ∧
    c * m * 1048576 / (k * p) * k * p = c * m * 1048576 / (k * p) * (k * p) := by
  have h1 : 1 ≤ c * m ∧ c * m ≤ 36 := by rcases six c0 c1 with rfl | rfl | rfl | rfl | rfl | rfl <;> omega
  have h2 : 1 ≤ k * p ∧ k * p ≤ 288 := by rcases six k0 k1 with rfl | rfl | rfl | rfl | rfl | rfl <;> omega
  generalize c * m = a at *
  have q0 : 0 ≤ a * 1048576 / (k * p) := Int.ediv_nonneg (by omega) (by omega)
  have q1 : a * 1048576 / (k * p) ≤ a * 1048576 := Int.ediv_le_self _ (by omega)
  have e : a * 1048576 / (k * p) * k * p = a * 1048576 / (k * p) * (k * p) := Int.mul_assoc _ _ _
  have q2 : 0 ≤ a * 1048576 / (k * p) * (k * p) := Int.mul_nonneg q0 (by omega)
  have q3 : a * 1048576 / (k * p) * (k * p) ≤ a * 1048576 := Int.ediv_mul_le _ (by omega)
  refine ⟨h1, h2, q0, q1, Int.mul_nonneg q0 (by omega), ?_, by rw [e]; exact q2, by rw [e]; exact q3, e⟩
  generalize a * 1048576 / (k * p) = n at *
  rcases six k0 k1 with rfl | rfl | rfl | rfl | rfl | rfl <;> omega

set_option maxHeartbeats 1000000 in
set_option maxRecDepth 100000 in
theorem refAt_any (c t x m k e p : Int) (w : World) :
    Calls Tryz.prog 39 #[.agg #[.int .i64 c, .int .i64 t, .int .i64 x, .int .i64 m, .int .i64 k, .int .i64 e], .int .i64 p] w fun r w' => r = .returned (.int .i64 (atV ⟨c, t, x, m, k, e⟩ p)) ∧ Below w.heap.size w w' := by
  have hS : Six (w.alloc (.cells #[.int .i64 c, .int .i64 t, .int .i64 x, .int .i64 m, .int .i64 k, .int .i64 e] 38)) w.heap.size (Sp.at ⟨c, t, x, m, k, e⟩) := Six.new w ⟨c, t, x, m, k, e⟩
  cases h1 : maySp ⟨c, t, x, m, k, e⟩
  · have H1 : Hid (maySp ⟨c, t, x, m, k, e⟩ = false) := h1
    have H : Hid (atV ⟨c, t, x, m, k, e⟩ p = 0) := by show _ = _; unfold atV atB; rw [h1]; rfl
    clear h1
    go_enter Tryz.func39, Tryz.ntmps39
    go_wp2_with fail
    refine (refSp_any c t x m k e _).mono ?_
    rintro r w1 ⟨rfl, hb1⟩
    rw [H1.out]
    go_wp2
    go_ret
    exact ⟨ret_i H.out.symm, ((Below.refl _ _).alloc (by simp) _).trans (hb1.mono (by simp))⟩
  · have H1 : Hid (maySp ⟨c, t, x, m, k, e⟩ = true) := h1
    by_cases g0 : p < t
    · have H : Hid (atV ⟨c, t, x, m, k, e⟩ p = 0) := by show _ = _; unfold atV atB wiB; simp only [h1, decide_eq_false (show ¬ (t ≤ p ∧ p ≤ x) by omega)]; rfl
      clear h1
      go_enter Tryz.func39, Tryz.ntmps39
      go_wp2_with fail
      refine (refSp_any c t x m k e _).mono ?_
      rintro r w1 ⟨rfl, hb1⟩
      have hS1 := hS.later hb1
      replace hb1 : Below w.heap.size w w1 := ((Below.refl _ _).alloc (by simp) _).trans (hb1.mono (by simp))
      obtain ⟨a0, a1, a2, a3, a4, a5, b0, b1, b2, b3, b4, b5⟩ := hS1.sp
      clear hS b0 b1 b2 b3 b4 b5
      rw [H1.out]
      go_wp2
      go_ret
      exact ⟨ret_i H.out.symm, hb1⟩
    · by_cases g1 : p > x
      · have H : Hid (atV ⟨c, t, x, m, k, e⟩ p = 0) := by show _ = _; unfold atV atB wiB; simp only [h1, decide_eq_false (show ¬ (t ≤ p ∧ p ≤ x) by omega)]; rfl
        clear h1
        go_enter Tryz.func39, Tryz.ntmps39
        go_wp2_with fail
        refine (refSp_any c t x m k e _).mono ?_
        rintro r w1 ⟨rfl, hb1⟩
        have hS1 := hS.later hb1
        replace hb1 : Below w.heap.size w w1 := ((Below.refl _ _).alloc (by simp) _).trans (hb1.mono (by simp))
        obtain ⟨a0, a1, a2, a3, a4, a5, b0, b1, b2, b3, b4, b5⟩ := hS1.sp
        clear hS b0 b1 b2 b3 b4 b5
        rw [H1.out]
        go_wp2
        go_ret
        exact ⟨ret_i H.out.symm, hb1⟩
      · have H : Hid (atV ⟨c, t, x, m, k, e⟩ p = cl (c * m * 1048576) (k * p)) := by show _ = _; unfold atV atB wiB; simp only [h1, decide_eq_true (show t ≤ p ∧ p ≤ x by omega)]; rfl
        obtain ⟨c0, c1, f2, f3, f4, ⟨m0, m1, k1⟩, e0, e1, f5⟩ := may_facts h1
        simp only at c0 c1 f2 f3 f4 m0 m1 k1 e0 e1 f5
        obtain ⟨⟨n0, n1⟩, ⟨n2, n3⟩, n4, n5, n6, n7, n8, n9, na⟩ := at_nums c0 c1 m0 (show m ≤ 6 by omega) (show 1 ≤ k by omega) k1 (show 1 ≤ p by omega) (show p ≤ 48 by omega)
        have v1 : IntKind.i64.wrap (c * m) = c * m := by rw [IntKind.wrap_i64]; omega
        have v2 : IntKind.i64.wrap (c * m * 1048576) = c * m * 1048576 := by rw [IntKind.wrap_i64]; omega
        have v3 : IntKind.i64.wrap (k * p) = k * p := by rw [IntKind.wrap_i64]; omega
        have v4 : IntKind.i64.wrap (c * m * 1048576 / (k * p) * k) = c * m * 1048576 / (k * p) * k := by rw [IntKind.wrap_i64]; omega
        have v5 : IntKind.i64.wrap (c * m * 1048576 / (k * p) * k * p) = c * m * 1048576 / (k * p) * k * p := by rw [IntKind.wrap_i64]; omega
        have m3 : 0 ≤ c * m * 1048576 := by omega
        clear h1 f5
        by_cases hl : c * m * 1048576 / (k * p) * k * p < c * m * 1048576
        · have HC : Hid (cl (c * m * 1048576) (k * p) = c * m * 1048576 / (k * p) + 1) := cl_mul (by rw [← na]; exact hl)
          clear na
          go_enter Tryz.func39, Tryz.ntmps39
          go_wp2_with fail
          refine (refSp_any c t x m k e _).mono ?_
          rintro r w1 ⟨rfl, hb1⟩
          have hS1 := hS.later hb1
          replace hb1 : Below w.heap.size w w1 := ((Below.refl _ _).alloc (by simp) _).trans (hb1.mono (by simp))
          obtain ⟨a0, a1, a2, a3, a4, a5, b0, b1, b2, b3, b4, b5⟩ := hS1.sp
          clear hS b0 b1 b2 b3 b4 b5
          rw [H1.out]
          go_wp2
          go_ret
          exact ⟨ret_i (HC.out.symm.trans H.out.symm), hb1⟩
        · have HC : Hid (cl (c * m * 1048576) (k * p) = c * m * 1048576 / (k * p)) := cl_mul0 n2 (by rw [← na]; exact hl)
          clear na
          go_enter Tryz.func39, Tryz.ntmps39
          go_wp2_with fail
          refine (refSp_any c t x m k e _).mono ?_
          rintro r w1 ⟨rfl, hb1⟩
          have hS1 := hS.later hb1
          replace hb1 : Below w.heap.size w w1 := ((Below.refl _ _).alloc (by simp) _).trans (hb1.mono (by simp))
          obtain ⟨a0, a1, a2, a3, a4, a5, b0, b1, b2, b3, b4, b5⟩ := hS1.sp
          clear hS b0 b1 b2 b3 b4 b5
          rw [H1.out]
          go_wp2
          go_ret
          exact ⟨ret_i (HC.out.symm.trans H.out.symm), hb1⟩

set_option maxHeartbeats 1000000 in
set_option maxRecDepth 100000 in
theorem refTop_any (c t x m k e : Int) (w : World) :
    Calls Tryz.prog 21 #[.agg #[.int .i64 c, .int .i64 t, .int .i64 x, .int .i64 m, .int .i64 k, .int .i64 e]] w fun r w' => r = .returned (.int .i64 (atV ⟨c, t, x, m, k, e⟩ t)) ∧ Below w.heap.size w w' := by
  go_enter Tryz.func21, Tryz.ntmps21
  go_wp2_with fail
  refine (refAt_any c t x m k e t _).mono ?_
  rintro r w1 ⟨rfl, hb1⟩
  go_wp2
  go_ret
  exact ⟨rfl, ((Below.refl _ _).alloc (by simp) _).trans (hb1.mono (by simp))⟩

set_option maxHeartbeats 1000000 in
set_option maxRecDepth 100000 in
theorem refLeast_any (c t x m k e : Int) (w : World) :
    Calls Tryz.prog 22 #[.agg #[.int .i64 c, .int .i64 t, .int .i64 x, .int .i64 m, .int .i64 k, .int .i64 e]] w fun r w' => r = .returned (.int .i64 (leastV ⟨c, t, x, m, k, e⟩)) ∧ Below w.heap.size w w' := by
  by_cases h : e = 0
  · have H : Hid (leastV ⟨c, t, x, m, k, e⟩ = atV ⟨c, t, x, m, k, e⟩ t) := by show _ = _; unfold leastV; simp [h]
    have h' : (e == 0) = true := by simpa using h
    clear h
    go_enter Tryz.func22, Tryz.ntmps22
    go_wp2_with fail
    refine (refAt_any c t x m k e t _).mono ?_
    rintro r w1 ⟨rfl, hb1⟩
    go_wp2
    go_ret
    exact ⟨ret_i H.out.symm, ((Below.refl _ _).alloc (by simp) _).trans (hb1.mono (by simp))⟩
  · have H : Hid (leastV ⟨c, t, x, m, k, e⟩ = atV ⟨c, t, x, m, k, e⟩ x) := by show _ = _; unfold leastV; simp [h]
    have h' : (e == 0) = false := by simpa using h
    go_enter Tryz.func22, Tryz.ntmps22
    go_wp2_with fail
    refine (refAt_any c t x m k e x _).mono ?_
    rintro r w1 ⟨rfl, hb1⟩
    go_wp2
    go_ret
    exact ⟨ret_i H.out.symm, ((Below.refl _ _).alloc (by simp) _).trans (hb1.mono (by simp))⟩
end Go.Proofs.YtmiakknagjncpaaGreatDoor
/- The chapter's example of chapter 6. -/
namespace Go.Proofs.YtmiakknagjncpaaGreatDoor
open Go.RowKit

theorem nums_two (w : World) (a b : Int) : Nums (w.alloc (.cells #[.int .i64 a, .int .i64 b] 3)) (.slice (some ⟨w.heap.size, 0, none⟩) 2 2) [a, b] :=
  ⟨_, 2, rfl, by simp, by decide, fun _ => ⟨w.heap.size, 0, rfl, fun i hi => by
    match i, hi with
    | 0, _ => simp
    | 1, _ => simp⟩⟩
theorem nums_one (w : World) (a : Int) : Nums (w.alloc (.cells #[.int .i64 a] 3)) (.slice (some ⟨w.heap.size, 0, none⟩) 1 1) [a] :=
  ⟨_, 1, rfl, by simp, by decide, fun _ => ⟨w.heap.size, 0, rfl, fun i hi => by
    match i, hi with
    | 0, _ => simp⟩⟩
end Go.Proofs.YtmiakknagjncpaaGreatDoor
/- What rounded quotients are to one another; the walk of the statement UnitsFall: it returns true, and writes nothing that was there. -/
namespace Go.Proofs.YtmiakknagjncpaaGreatDoor
open Go.RowKit

theorem cl_ge {a b : Int} (hb : 1 ≤ b) : a ≤ cl a b * b := by
  have e := Int.ediv_mul_add_emod a b
  have e0 := Int.emod_nonneg a (show b ≠ 0 by omega)
  have e1 := Int.emod_lt_of_pos a (show 0 < b by omega)
  have e2 : (a / b + 1) * b = a / b * b + b := by rw [Int.add_mul, Int.one_mul]
  unfold cl
  split <;> omega
theorem cl_lt {a b : Int} (hb : 1 ≤ b) : (cl a b - 1) * b < a := by
  have e := Int.ediv_mul_add_emod a b
  have e0 := Int.emod_nonneg a (show b ≠ 0 by omega)
  have e2 : (a / b - 1) * b = a / b * b - b := by rw [Int.sub_mul, Int.one_mul]
  have e3 : (a / b + 1 - 1) * b = a / b * b := by rw [Int.add_sub_cancel]
  unfold cl
  split <;> omega
theorem cl_le_of {a b n : Int} (hb : 1 ≤ b) (h : a ≤ n * b) : cl a b ≤ n := by
  have h1 := cl_lt (a := a) hb
  have h2 : (cl a b - 1) * b < n * b := by omega
  have := Int.lt_of_mul_lt_mul_right h2 (by omega)
  omega
theorem le_cl_of {a b n : Int} (hb : 1 ≤ b) (h : (n - 1) * b < a) : n ≤ cl a b := by
  have h1 := cl_ge (a := a) hb
  have h2 : (n - 1) * b < cl a b * b := by omega
  have := Int.lt_of_mul_lt_mul_right h2 (by omega)
  omega
theorem cl_pos {a b : Int} (hb : 1 ≤ b) (ha : 1 ≤ a) : 1 ≤ cl a b := le_cl_of hb (by rw [Int.sub_self, Int.zero_mul]; omega)
theorem cl_anti {a b d : Int} (ha : 1 ≤ a) (hb : 1 ≤ b) (h : b ≤ d) : cl a d ≤ cl a b := by
  refine cl_le_of (by omega) (Int.le_trans (cl_ge hb) ?_)
  exact Int.mul_le_mul_of_nonneg_left h (by have := cl_pos hb ha; omega)
theorem cl_mono6 {a d b : Int} (hb : 1 ≤ b) (h : a ≤ d) : cl a b ≤ cl d b := cl_le_of hb (Int.le_trans h (cl_ge hb))

theorem atV_yes {s : Sp} {p : Int} (h : maySp s = true) (h0 : s.t ≤ p) (h1 : p ≤ s.x) : atV s p = cl (s.c * s.m * 1048576) (s.k * p) := by
  unfold atV atB wiB; rw [h, decide_eq_true ⟨h0, h1⟩]; rfl

theorem at_nums6 {c m k p : Int} (c0 : 1 ≤ c) (c1 : c ≤ 6) (m0 : 1 ≤ m) (m1 : m ≤ 6) (k0 : 1 ≤ k) (k1 : k ≤ 6) (p0 : 1 ≤ p) (p1 : p ≤ 48) :
    (1 ≤ c * m ∧ c * m ≤ 36) ∧ (1 ≤ k * p ∧ k * p ≤ 288) ∧ True :=
  ⟨by rcases six c0 c1 with rfl | rfl | rfl | rfl | rfl | rfl <;> omega, by rcases six k0 k1 with rfl | rfl | rfl | rfl | rfl | rfl <;> omega, trivial⟩
theorem at_fall {s : Sp} {p q : Int} (h : maySp s = true) (h0 : s.t ≤ p) (hq : p ≤ q) (h1 : q ≤ s.x) : atV s q ≤ atV s p := by
  obtain ⟨c0, c1, f2, f3, f4, ⟨m0, m1, k1⟩, e0, e1, f5⟩ := may_facts h
  obtain ⟨⟨n0, n1⟩, ⟨n2, n3⟩, _⟩ := at_nums6 c0 c1 m0 (show s.m ≤ 6 by omega) (show 1 ≤ s.k by omega) k1 (show 1 ≤ p by omega) (show p ≤ 48 by omega)
  rw [atV_yes h h0 (by omega), atV_yes h (by omega) h1]
  exact cl_anti (by omega) n2 (Int.mul_le_mul_of_nonneg_left hq (by omega))
theorem at_least {s : Sp} {q : Int} (h : maySp s = true) (h0 : s.t ≤ q) (h1 : q ≤ s.x) : leastV s ≤ atV s q := by
  obtain ⟨c0, c1, f2, f3, f4, ⟨m0, m1, k1⟩, e0, e1, f5⟩ := may_facts h
  unfold leastV
  split
  · next he =>
    have hq : q = s.t := by omega
    rw [hq]; exact Int.le_refl _
  · exact at_fall h h0 h1 (Int.le_refl _)
end Go.Proofs.YtmiakknagjncpaaGreatDoor
/- Lists of integers of the call's own, that are appended to; what is appended to keeps what it had. -/
namespace Go.Proofs.YtmiakknagjncpaaGreatDoor
open Go.RowKit

def ivs (xs : List Int) : List Value := xs.map (Value.int .i64)
theorem ivs_len (xs : List Int) : (ivs xs).length = xs.length := by simp [ivs]
theorem ivs_app (xs ys : List Int) : ivs (xs ++ ys) = ivs xs ++ ivs ys := by simp [ivs]
theorem ivs_one (xs : List Int) : ∀ u ∈ ivs xs, u.oneCell' = true := by
  intro u hu; obtain ⟨t, _, rfl⟩ := List.mem_map.1 hu; rfl
theorem ivs_at {xs : List Int} {i : Nat} (h : i < xs.length) : (ivs xs)[i]? = some (.int .i64 (xs.getD i 0)) := by
  unfold ivs; rw [List.getElem?_map, List.getElem?_eq_getElem h]; simp [List.getD, h]

/-- Is a list without memory without room, too? -/
def NilCap (v : Value) : Prop := ∀ c, v = .slice none 0 c → c = 0

/-- Integers of the call's own are read. -/
theorem Nums.own {w : World} {base : Nat} {v : Value} {n : Nat} {xs : List Int} (h : w.ownsRow base 3 1 v n (ivs xs)) : Nums w v xs ∧ NilCap v ∧ n = xs.length := by
  have hn : n = xs.length := by have := h.1; rw [ivs_len] at this; omega
  subst hn
  have hcs := fun g hg => h.cells (g := g) hg
  obtain ⟨_, ⟨rfl, hz⟩ | ⟨g, cap, cur, rfl, hb, hh, h1, h2, _⟩⟩ := h
  · obtain rfl : xs = [] := List.eq_nil_of_length_eq_zero hz
    exact ⟨⟨none, 0, rfl, by simp, by simp, fun h => absurd rfl h⟩, fun c hc => by simpa using hc.symm, rfl⟩
  · refine ⟨⟨_, cap, rfl, h1, h2, fun _ => ⟨g, 0, rfl, fun i hi => ?_⟩⟩, fun c hc => by simp at hc, rfl⟩
    have := hcs g rfl i _ (ivs_at hi)
    cases i with
    | zero => simpa [Addr.add] using this
    | succ i => simpa [Addr.add] using this

theorem Tryz.infoInt : (Tryz.prog.info? 3).map (fun i => (i.zero, i.size, i.bytes)) = some (some (.int .i64 0), 1, 8) := by kernel_rfl

/-- What is appended to keeps what it had. -/
theorem append_keep {P : Program} {w : World} {base : Nat} {t ty e : TypeId} {i : TypeInfo} {z : Value} (ht : P.underlying t = some (.slice e)) (hi : P.info? e = some i) (hz : i.zero = some z)
    {v : Value} {n : Nat} {xs : List Value} (hown : w.ownsRow base e i.size v n xs)
    {a : Addr} {m c : Nat} {news : List Value} (hl : news.length = m * i.size) (hnews : ∀ j u, news[j]? = some u → w.cell? (a.add j) = some u) (h1 : ∀ u ∈ news, u.oneCell' = true)
    (h63 : n + m ≤ maxLen) (hbytes : (n + m) * i.bytes ≤ 140737488355328) {v' : Value} {w' : World} (hr : (Builtin.append_ #[t, t] ty #[v, .slice (some a) m c]).run P w = .ok v' w') : w'.ownsRow base e i.size v n xs := by
  refine ⟨hown.1, ?_⟩
  rcases hown.2 with hn | ⟨g, cap, cur, rfl, hbg, hg, hnc, hcm, hcs, htake⟩
  · exact .inl hn
  · by_cases hroom : n + m ≤ cap
    · have hfit : n * i.size + news.length ≤ cur.size := by rw [hl, hcs, ← Nat.add_mul]; exact Nat.mul_le_mul_right _ hroom
      have hr' := run_append_room (P := P) w t ty e i ht hi g n cap cur hg a m c news hl hnews h1 hroom hfit
      rw [hr'] at hr
      cases hr
      refine .inr ⟨g, cap, _, rfl, hbg, setRow_heap w g cur _ e _ hg, hnc, hcm, ?_, ?_⟩
      · simp only [List.size_toArray, List.length_append, List.length_take, List.length_drop, Array.length_toList]
        omega
      · have h0 : (cur.toList.take (n * i.size)).length = n * i.size := by rw [htake]; exact hown.1
        simp only [List.append_assoc]
        rw [← htake]
        conv => lhs; arg 1; rw [← h0]
        exact List.take_left
    · have holds : ∀ j u, xs[j]? = some u → w.cell? ((⟨g, 0, none⟩ : Addr).add j) = some u := hown.cells (g := g) rfl
      have hr' := run_append_grow (P := P) w t ty e i z ht hi hz ⟨g, 0, none⟩ n cap xs hown.1 holds a m c news hl hnews (by omega) (by simp only [maxLen] at h63; omega) (growslice_fits (by omega) hbytes)
      rw [hr'] at hr
      cases hr
      refine .inr ⟨g, cap, cur, rfl, hbg, ?_, hnc, hcm, hcs, htake⟩
      exact (heap_alloc_old w.drew _ (Array.getElem?_eq_some_iff.1 hg).1).trans hg

/-- One list of integers, the call's own, gets another one behind it. -/
theorem append_nums {w : World} {ops : Array Oper} {rest : List Oper} {o : Oper} {act : Act} {Q : Exit → Act → World → Prop} (hgd : o.guard = Option.none) (s x : Operand)
    (ho : o.op = .call { callee := .builtin .append, args := #[s, x], argTypes := #[51, 51] }) (base : Nat) (v u : Value) (n : Nat) (xs ys : List Int)
    (hs : act.eval s = v) (hown : w.ownsRow base 3 1 v n (ivs xs)) (hx : act.eval x = u) (hr : Nums w u ys) (hcap : NilCap u) (hn : n + ys.length ≤ 100000) (hbase : base ≤ w.heap.size)
    (h : ∀ v' w', w'.ownsRow base 3 1 v' (n + ys.length) (ivs (xs ++ ys)) → w'.ownsRow base 3 1 v n (ivs xs) → Below base w w' → wpList Tryz.prog ops Q rest (act.put o.dst v') w') : wpList Tryz.prog ops Q (o :: rest) act w := by
  obtain ⟨i0, hi, hz0, hz1, hz2⟩ := info_parts Tryz.infoInt
  have hlow := hown.lt
  obtain ⟨a, cap, rfl, h1, h2, h3⟩ := hr
  have m1 : n + ys.length ≤ maxLen := by unfold maxLen; omega
  have main : ∀ (ad : Addr) (news : List Value), a = some ad → news = ivs ys → (∀ j q, news[j]? = some q → w.cell? (ad.add j) = some q) → wpList Tryz.prog ops Q (o :: rest) act w := by
    intro ad news ha hne hcells
    subst ha hne
    refine wpList_plain hgd fun K hK => ?_
    have hl : (ivs ys).length = ys.length * i0.size := by rw [hz1, ivs_len]; omega
    have hown' : w.ownsRow base 3 i0.size v n (ivs xs) := by rw [hz1]; exact hown
    obtain ⟨v', w', hr, g1, g2, _⟩ := run_append_own (P := Tryz.prog) w base 51 o.type 3 i0 _ i0.size i0.bytes Tryz.underlying51 hi hz0 rfl rfl (by rw [hz1]; rfl) (by omega) v n (ivs xs) hown' ad ys.length cap (ivs ys) hl hcells (ivs_one _) m1 (by rw [hz2]; omega) hbase
    have g3 := append_keep (ty := o.type) Tryz.underlying51 hi hz0 hown' hl hcells (ivs_one _) m1 (by rw [hz2]; omega) hr
    unfold Oper.wp execOp
    simp only [ho, resolve, invoke, builtin, Sem.run_bind, Sem.run_pure, Result.andThen_ok, List.map_toArray, List.map_cons, List.map_nil, hs, hx, hr]
    rw [hz1, ← ivs_app] at g1
    rw [hz1] at g3
    exact hK _ _ (h v' w' g1 g3 ((Below.refl _ _).grown g2 hbase fun k hk => (hlow k hk).1))
  cases ys with
  | nil =>
    cases a with
    | none =>
      obtain rfl := hcap cap rfl
      refine wpList_append_own_none hgd s x 51 ho base 3 i0 1 Tryz.underlying51 hi v n (ivs xs) hs hown hx ?_
      exact h v w (by simpa using hown) hown (Below.refl _ _)
    | some ad => exact main ad [] rfl rfl (fun j q hq => by simp at hq)
  | cons y ys =>
    obtain ⟨b, oo, rfl, h4⟩ := h3 (by simp)
    refine main ⟨b, oo, Option.none⟩ (ivs (y :: ys)) rfl rfl (fun j q hq => ?_)
    have hj : j < (y :: ys).length := by have := (List.getElem?_eq_some_iff.1 hq).1; rwa [ivs_len] at this
    rw [ivs_at hj] at hq
    rw [← hq, Go.WideShapes.add_plain]
    exact h4 j hj
end Go.Proofs.YtmiakknagjncpaaGreatDoor
