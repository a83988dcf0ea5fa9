/- Walks of the document's own answers of chapter 9: may, Of, All. -/
import Derived.Test.YteibaiflljcghaaDoorD7
import Derived.BigQuiet
namespace Go.Proofs.YteibaiflljcghaaDoor
open Go.RowKit Go.Shelf

section
variable (c t x m k e p : Int)
set_option maxHeartbeats 2000000 in
set_option maxRecDepth 100000 in
theorem rmay9_any (w : World) :
    Calls Tryd.prog 28 #[.agg #[.int .i64 c, .int .i64 t, .int .i64 x, .int .i64 m, .int .i64 k, .int .i64 e, .int .i64 p]] w fun r w' => r = .returned (.bool (knB ⟨c, t, x, m, k, e, p⟩)) ∧ Below w.heap.size w w' := by
  have hS := Sev.new w c t x m k e p
  have hE : Hid (Below w.heap.size w (w.alloc (.cells #[.int .i64 c, .int .i64 t, .int .i64 x, .int .i64 m, .int .i64 k, .int .i64 e, .int .i64 p] 26))) := (Below.refl _ _).alloc (Nat.le_refl _) _
  cases h1 : maySp ⟨c, t, x, m, k, e⟩ with
  | false =>
    have H1 : Hid (maySp ⟨c, t, x, m, k, e⟩ = false) := h1
    have H : Hid (knB ⟨c, t, x, m, k, e, p⟩ = false) := by show _ = _; unfold knB Fx.sp; simp only; rw [h1]; rfl
    clear h1
    go_enter Tryd.func28, Tryd.ntmps28
    go_wp2_with fail
    refine (refSp_any c t x m k e _).mono ?_
    rintro r w1 ⟨rfl, hb1⟩
    rw [H1.out]
    go_wp2_with fail
    go_ret
    exact ⟨ret_b H.out.symm, hE.out.trans (hb1.mono hE.out.size)⟩
  | true =>
    have H1 : Hid (maySp ⟨c, t, x, m, k, e⟩ = true) := h1
    have H : Hid (knB ⟨c, t, x, m, k, e, p⟩ = decide (t ≤ p ∧ p ≤ x)) := by show _ = _; unfold knB Fx.sp; simp only; rw [h1]; rfl
    clear h1
    by_cases c0 : t ≤ p
    · have H2 : Hid (knB ⟨c, t, x, m, k, e, p⟩ = decide (p ≤ x)) := by show _ = _; rw [H.out]; simp [c0]
      go_enter Tryd.func28, Tryd.ntmps28
      go_wp2_with fail
      refine (refSp_any c t x m k e _).mono ?_
      rintro r w1 ⟨rfl, hb1⟩
      rw [H1.out]
      obtain ⟨a0, a1, a2, a3, a4, a5, a6⟩ := (hS.later hb1).fx
      go_wp2_with fail
      go_ret
      exact ⟨ret_b (by rw [H2.out]), hE.out.trans (hb1.mono hE.out.size)⟩
    · have H2 : Hid (knB ⟨c, t, x, m, k, e, p⟩ = false) := by show _ = _; rw [H.out]; simp [c0]
      go_enter Tryd.func28, Tryd.ntmps28
      go_wp2_with fail
      refine (refSp_any c t x m k e _).mono ?_
      rintro r w1 ⟨rfl, hb1⟩
      rw [H1.out]
      obtain ⟨a0, a1, a2, a3, a4, a5, a6⟩ := (hS.later hb1).fx
      go_wp2_with fail
      go_ret
      exact ⟨ret_b (by rw [H2.out]), hE.out.trans (hb1.mono hE.out.size)⟩

theorem refMost_bel (a b n : Int) (w : World) :
    Calls Tryd.prog 33 #[.int .i64 a, .int .i64 b, .int .i64 n] w fun r w' => r = .returned (.int .i64 (mostV a b n)) ∧ Below w.heap.size w w' := by
  refine (refMost_any a b n w).mono ?_
  rintro r w' ⟨rfl, rfl⟩
  exact ⟨rfl, Below.refl _ _⟩

set_option maxHeartbeats 2000000 in
set_option maxRecDepth 100000 in
theorem rof9_any (n : Int) (w : World) :
    Calls Tryd.prog 14 #[.agg #[.int .i64 c, .int .i64 t, .int .i64 x, .int .i64 m, .int .i64 k, .int .i64 e, .int .i64 p], .int .i64 n] w fun r w' => r = .returned (.int .i64 (ofV9 ⟨c, t, x, m, k, e, p⟩ n)) ∧ Below w.heap.size w w' := by
  have hS := Sev.new w c t x m k e p
  have hE : Hid (Below w.heap.size w (w.alloc (.cells #[.int .i64 c, .int .i64 t, .int .i64 x, .int .i64 m, .int .i64 k, .int .i64 e, .int .i64 p] 26))) := (Below.refl _ _).alloc (Nat.le_refl _) _
  cases h1 : knB ⟨c, t, x, m, k, e, p⟩ with
  | false =>
    have H1 : Hid (knB ⟨c, t, x, m, k, e, p⟩ = false) := h1
    have H : Hid (ofV9 ⟨c, t, x, m, k, e, p⟩ n = 0) := of9_no (by unfold ofB9; rw [h1]; rfl)
    clear h1
    go_enter Tryd.func14, Tryd.ntmps14
    go_wp2_with fail
    refine (rmay9_any c t x m k e p _).mono ?_
    rintro r w1 ⟨rfl, hb1⟩
    rw [H1.out]
    go_wp2_with fail
    go_ret
    exact ⟨ret_i H.out.symm, hE.out.trans (hb1.mono hE.out.size)⟩
  | true =>
    have H1 : Hid (knB ⟨c, t, x, m, k, e, p⟩ = true) := h1
    by_cases h2 : 0 ≤ n ∧ n ≤ 1099511627776
    · obtain ⟨n0, n1⟩ := h2
      obtain ⟨_, c0, c1, c2, p0, p1, x1, m0, m1, k1⟩ := kn_facts h1
      simp only at c0 c1 c2 p0 p1 x1 m0 m1 k1
      have hd : 0 ≤ n / p := Int.ediv_nonneg n0 (by omega)
      have hd1 : n / p ≤ n := Int.ediv_le_self _ n0
      have e1 := of9_yes h1 n0 n1
      simp only at e1
      have hbd := of_bd ⟨c, t, x, m, k, e, p⟩ n
      have q0 : mostV m k (n / p) = du m k (n / p) := mostV_in m0 m1 k1 hd (by omega)
      obtain ⟨d, hdd⟩ : ∃ d, du m k (n / p) = d := ⟨_, rfl⟩
      rw [hdd] at e1 q0
      rw [e1] at hbd
      have H : Hid (ofV9 ⟨c, t, x, m, k, e, p⟩ n = c * d) := e1
      have HM : Hid (mostV m k (n / p) = d) := q0
      obtain ⟨b0, b1, _⟩ := hbd
      have hw : IntKind.i64.wrap (c * d) = c * d := by rw [IntKind.wrap_i64]; omega
      have hp0 : 0 < p := by omega
      have hp1 : p ≠ 0 := by omega
      have hdiv : n.tdiv p = n / p := Int.tdiv_eq_ediv_of_nonneg n0
      obtain ⟨j, hj⟩ : ∃ j, n / p = j := ⟨_, rfl⟩
      rw [hj] at hdiv HM hd hd1
      have hw1 : IntKind.i64.wrap j = j := by rw [IntKind.wrap_i64]; omega
      have hbeq : (p == 0) = false := by simp [hp1]
      clear h1 e1 q0 hdd hj
      go_enter Tryd.func14, Tryd.ntmps14
      go_wp2_with fail
      refine (rmay9_any c t x m k e p _).mono ?_
      rintro r w2 ⟨rfl, hb2⟩
      rw [H1.out]
      have hS2 := hS.later hb2
      replace hb2 : Below w.heap.size w w2 := hE.out.trans (hb2.mono hE.out.size)
      have MK : Hid (∀ w' : World, Below w2.heap.size w2 w' → (w'.cell? ⟨w.heap.size, 0, none⟩ = some (.int .i64 c) ∧ w'.cell? ⟨w.heap.size, 1, none⟩ = some (.int .i64 t) ∧ w'.cell? ⟨w.heap.size, 2, none⟩ = some (.int .i64 x) ∧ w'.cell? ⟨w.heap.size, 3, none⟩ = some (.int .i64 m) ∧ w'.cell? ⟨w.heap.size, 4, none⟩ = some (.int .i64 k) ∧ w'.cell? ⟨w.heap.size, 5, none⟩ = some (.int .i64 e) ∧ w'.cell? ⟨w.heap.size, 6, none⟩ = some (.int .i64 p)) ∧ Below w2.heap.size w2 w') := fun w' hb => ⟨(hS2.later hb).fx, hb⟩
      clear hS2 hS
      go_wp2_with fail
      go_region_held3 (fun w' => (w'.cell? ⟨w.heap.size, 0, none⟩ = some (.int .i64 c) ∧ w'.cell? ⟨w.heap.size, 1, none⟩ = some (.int .i64 t) ∧ w'.cell? ⟨w.heap.size, 2, none⟩ = some (.int .i64 x) ∧ w'.cell? ⟨w.heap.size, 3, none⟩ = some (.int .i64 m) ∧ w'.cell? ⟨w.heap.size, 4, none⟩ = some (.int .i64 k) ∧ w'.cell? ⟨w.heap.size, 5, none⟩ = some (.int .i64 e) ∧ w'.cell? ⟨w.heap.size, 6, none⟩ = some (.int .i64 p)) ∧ Below w2.heap.size w2 w')
        (first | exact MK.out _ (bstep (by assumption) (sBel (by assumption))) | exact MK.out _ (Below.refl _ _).drew)
        (first
        | (go_at_call 33; refine (refMost_bel m k j _).mono ?_; rintro r w3 ⟨rfl, hb3⟩; rw [HM.out]))
      all_goals
        go_wp2
        go_ret
        exact ⟨ret_i H.out.symm, hb2.trans ((sBel (by assumption)).mono hb2.size)⟩
    · have H : Hid (ofV9 ⟨c, t, x, m, k, e, p⟩ n = 0) := of9_no (by unfold ofB9; rw [show wiB n 0 1099511627776 = false from decide_eq_false h2]; simp)
      clear h1
      by_cases h3 : n < 0
      · go_enter Tryd.func14, Tryd.ntmps14
        go_wp2_with fail
        refine (rmay9_any c t x m k e p _).mono ?_
        rintro r w1 ⟨rfl, hb1⟩
        rw [H1.out]
        go_wp2_with fail
        go_ret
        exact ⟨ret_i H.out.symm, hE.out.trans (hb1.mono hE.out.size)⟩
      · have h4 : n > 1099511627776 := by omega
        clear h2
        go_enter Tryd.func14, Tryd.ntmps14
        go_wp2_with fail
        refine (rmay9_any c t x m k e p _).mono ?_
        rintro r w1 ⟨rfl, hb1⟩
        rw [H1.out]
        go_wp2_with fail
        go_ret
        exact ⟨ret_i H.out.symm, hE.out.trans (hb1.mono hE.out.size)⟩
end

set_option maxHeartbeats 2000000 in
set_option maxRecDepth 100000 in
theorem rall9_any (l : Nat) (f : Nat → Fx) (n : Int) (v : Value) (w : World) (h : Fxs w v l f) :
    Calls Tryd.prog 16 #[v, .int .i64 n] w fun r w' => r = .returned (.int .i64 (allV9 l f n)) ∧ Below w.heap.size w w' := by
  obtain ⟨a, cap, rfl, h1, h2, h0, h3⟩ := h
  by_cases hl : (l : Int) ≤ 1000
  · have H : Hid (allV9 l f n = allS l f n) := all9_in (by omega)
    go_enter Tryd.func16, Tryd.ntmps16
    go_wp2_with fail
    go_loopw [5, 6] (fun s i wr => ∃ (j : Nat) (z : Int), j ≤ l ∧ i = .int .i64 j ∧ s = .int .i64 z ∧ 0 ≤ z ∧ z ≤ j * 1099511627776 ∧ Hid (z = allS j f n) ∧ Below w.heap.size w wr) (fun _ i _ => ((l : Int) - intOf i).toNat)
    case atStart => exact ⟨0, 0, by omega, rfl, rfl, by omega, by omega, rfl, Below.refl _ _⟩
    case round =>
      obtain ⟨j, z, hj, rfl, rfl, z0, z1, HZ, hbw⟩ := hrel
      by_cases hlt : (j : Int) < l
      · obtain ⟨bk, o, rfl, h4⟩ := h3 (by omega)
        have hrow := row_open (f := f j) (h4 j (by omega))
        clear h4 h3
        obtain ⟨⟨cj, tj, xj, mj, kj, ej, pj⟩, hf⟩ : ∃ y, f j = y := ⟨_, rfl⟩
        have HF : Hid (f j = ⟨cj, tj, xj, mj, kj, ej, pj⟩) := hf
        rw [hf] at hrow
        clear hf
        obtain ⟨k0, k1, k2, k3, k4, k5, k6⟩ := hrow
        simp only at k0 k1 k2 k3 k4 k5 k6
        have e0 := cell_later hbw k0
        have e1 := cell_later hbw k1
        have e2 := cell_later hbw k2
        have e3 := cell_later hbw k3
        have e4 := cell_later hbw k4
        have e5 := cell_later hbw k5
        have e6 := cell_later hbw k6
        have sb := World.block_lt_of_cell? _ _ k0
        clear k0 k1 k2 k3 k4 k5 k6
        have sw := hbw.size
        go_wp2_with fail
        refine (rof9_any cj tj xj mj kj ej pj n _).mono ?_
        rintro r w2 ⟨rfl, hb2⟩
        have hb : Below w.heap.size w w2 := hbw.trans (hb2.mono sw)
        obtain ⟨b0, b1, _⟩ := of_bd ⟨cj, tj, xj, mj, kj, ej, pj⟩ n
        have HS : Hid (z + ofV9 ⟨cj, tj, xj, mj, kj, ej, pj⟩ n = allS (j + 1) f n) := by show _ = _; rw [allS_succ, HF.out, ← HZ.out]
        generalize ofV9 ⟨cj, tj, xj, mj, kj, ej, pj⟩ n = y at *
        clear hb2
        go_wp2_with fail
        go_roundw
        case rel => exact ⟨j + 1, z + y, by omega, by go_num, by go_num, by omega, by omega, HS.out, hb⟩
        case measure => simp [intOf]; omega
      · obtain rfl : j = l := by omega
        go_wp2
        go_ret
        exact ⟨ret_i (by rw [H.out]; exact HZ.out), hbw⟩
  · have H : Hid (allV9 l f n = 0) := if_neg (by omega)
    clear h3
    go_enter Tryd.func16, Tryd.ntmps16
    go_wp2_with fail
    go_loopw [5, 6] (fun s i wr => i = .int .i64 0 ∧ s = .int .i64 0 ∧ Below w.heap.size w wr) (fun _ _ _ => 0)
    case atStart => exact ⟨rfl, rfl, Below.refl _ _⟩
    case round =>
      obtain ⟨rfl, rfl, hbw⟩ := hrel
      have hp : (0 : Int) < l := by omega
      go_wp2
      go_ret
      exact ⟨ret_i H.out.symm, hbw⟩
end Go.Proofs.YteibaiflljcghaaDoor
