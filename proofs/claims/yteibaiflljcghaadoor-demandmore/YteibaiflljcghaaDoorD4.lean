/- Walks of package demand: Of. -/
import Derived.Test.YteibaiflljcghaaDoorD3
namespace Go.Proofs.YteibaiflljcghaaDoor
open Go.RowKit Go.Shelf

section
variable (c t x m k e p : Int)
set_option maxHeartbeats 2000000 in
set_option maxRecDepth 100000 in
theorem of9_any (n : Int) (w : World) :
    Calls Tryd.prog 13 #[.agg #[.int .i64 c, .int .i64 t, .int .i64 x, .int .i64 m, .int .i64 k, .int .i64 e, .int .i64 p], .int .i64 n] w fun r w' => r = .returned (.int .i64 (ofV9 ⟨c, t, x, m, k, e, p⟩ n)) ∧ Below w.heap.size w w' := by
  have hS := Sev.new w c t x m k e p
  have hE : Hid (Below w.heap.size w (w.alloc (.cells #[.int .i64 c, .int .i64 t, .int .i64 x, .int .i64 m, .int .i64 k, .int .i64 e, .int .i64 p] 26))) := (Below.refl _ _).alloc (Nat.le_refl _) _
  cases h1 : knB ⟨c, t, x, m, k, e, p⟩ with
  | false =>
    have H1 : Hid (knB ⟨c, t, x, m, k, e, p⟩ = false) := h1
    have H : Hid (ofV9 ⟨c, t, x, m, k, e, p⟩ n = 0) := of9_no (by unfold ofB9; rw [h1]; rfl)
    clear h1
    go_enter Tryd.func13, Tryd.ntmps13
    go_wp2_with fail
    refine (kn_any c t x m k e p _).mono ?_
    rintro r w1 ⟨rfl, hb1⟩
    rw [H1.out]
    go_wp2_with fail
    go_ret
    exact ⟨ret_i H.out.symm, hE.out.trans (hb1.mono hE.out.size)⟩
  | true =>
    have H1 : Hid (knB ⟨c, t, x, m, k, e, p⟩ = true) := h1
    cases h2 : wiB n 0 1099511627776 with
    | false =>
      have H2 : Hid (wiB n 0 1099511627776 = false) := h2
      have H : Hid (ofV9 ⟨c, t, x, m, k, e, p⟩ n = 0) := of9_no (by unfold ofB9; rw [h1, h2]; rfl)
      clear h1 h2
      go_enter Tryd.func13, Tryd.ntmps13
      go_wp2_with fail
      refine (kn_any c t x m k e p _).mono ?_
      rintro r w1 ⟨rfl, hb1⟩
      rw [H1.out]
      go_wp2_with fail
      refine (within9_any n 0 1099511627776 _).mono ?_
      rintro r w2 ⟨rfl, hw2⟩
      obtain rfl := hw2.symm
      rw [H2.out]
      go_wp2_with fail
      go_ret
      exact ⟨ret_i H.out.symm, hE.out.trans (hb1.mono hE.out.size)⟩
    | true =>
      have H2 : Hid (wiB n 0 1099511627776 = true) := h2
      obtain ⟨n0, n1⟩ := of_decide_eq_true (show decide (0 ≤ n ∧ n ≤ 1099511627776) = true from h2)
      obtain ⟨_, c0, c1, c2, p0, p1, x1, m0, m1, k1⟩ := kn_facts h1
      simp only at c0 c1 c2 p0 p1 x1 m0 m1 k1
      have hd : 0 ≤ n / p := Int.ediv_nonneg n0 (by omega)
      have hd1 : n / p ≤ n := Int.ediv_le_self _ n0
      have e1 := of9_yes h1 n0 n1
      simp only at e1
      have hbd := of_bd ⟨c, t, x, m, k, e, p⟩ n
      have q0 : mostV m k (n / p) = du m k (n / p) := mostV_in m0 m1 k1 hd (by omega)
      obtain ⟨d, hdd⟩ : ∃ d, du m k (n / p) = d := ⟨_, rfl⟩
      rw [hdd] at e1 q0
      rw [e1] at hbd
      have H : Hid (ofV9 ⟨c, t, x, m, k, e, p⟩ n = c * d) := e1
      have HM : Hid (mostV m k (n / p) = d) := q0
      obtain ⟨b0, b1, _⟩ := hbd
      have hw : IntKind.i64.wrap (c * d) = c * d := by rw [IntKind.wrap_i64]; omega
      have HP : Hid (1 ≤ p ∧ p ≤ 4611686018427387904 ∧ n ≤ 4611686018427387904) := ⟨by omega, by omega, by omega⟩
      obtain ⟨j, hj⟩ : ∃ j, n / p = j := ⟨_, rfl⟩
      have HJ : Hid (n / p = j) := hj
      rw [hj] at HM
      clear h1 h2 e1 q0 hdd hj hd hd1 c0 c1 c2 p0 p1 x1 m0 m1 k1
      go_enter Tryd.func13, Tryd.ntmps13
      go_wp2_with fail
      refine (kn_any c t x m k e p _).mono ?_
      rintro r w1 ⟨rfl, hb1⟩
      rw [H1.out]
      have hS1 := hS.later hb1
      replace hb1 : Below w.heap.size w w1 := hE.out.trans (hb1.mono hE.out.size)
      obtain ⟨a0, a1, a2, a3, a4, a5, a6⟩ := hS1.fx
      go_wp2_with fail
      refine (within9_any n 0 1099511627776 _).mono ?_
      rintro r w2 ⟨rfl, hw2⟩
      obtain rfl := hw2.symm
      rw [H2.out]
      go_wp2_with fail
      refine (floor_yes n p _ n0 HP.out.2.2 HP.out.1 HP.out.2.1).mono ?_
      rintro r w2 ⟨rfl, hb2⟩
      rw [HJ.out]
      have hS2 := hS1.later hb2
      replace hb2 : Below w.heap.size w w2 := hb1.trans (hb2.mono hb1.size)
      clear hS hS1 hb1 a0 a1 a2 a3 a4 a5 a6
      have MK : Hid (∀ w' : World, Below w2.heap.size w2 w' → (w'.cell? ⟨w.heap.size, 0, none⟩ = some (.int .i64 c) ∧ w'.cell? ⟨w.heap.size, 1, none⟩ = some (.int .i64 t) ∧ w'.cell? ⟨w.heap.size, 2, none⟩ = some (.int .i64 x) ∧ w'.cell? ⟨w.heap.size, 3, none⟩ = some (.int .i64 m) ∧ w'.cell? ⟨w.heap.size, 4, none⟩ = some (.int .i64 k) ∧ w'.cell? ⟨w.heap.size, 5, none⟩ = some (.int .i64 e) ∧ w'.cell? ⟨w.heap.size, 6, none⟩ = some (.int .i64 p)) ∧ Below w2.heap.size w2 w') := fun w' hb => ⟨(hS2.later hb).fx, hb⟩
      clear hS2
      go_wp2_with fail
      go_region_held3 (fun w' => (w'.cell? ⟨w.heap.size, 0, none⟩ = some (.int .i64 c) ∧ w'.cell? ⟨w.heap.size, 1, none⟩ = some (.int .i64 t) ∧ w'.cell? ⟨w.heap.size, 2, none⟩ = some (.int .i64 x) ∧ w'.cell? ⟨w.heap.size, 3, none⟩ = some (.int .i64 m) ∧ w'.cell? ⟨w.heap.size, 4, none⟩ = some (.int .i64 k) ∧ w'.cell? ⟨w.heap.size, 5, none⟩ = some (.int .i64 e) ∧ w'.cell? ⟨w.heap.size, 6, none⟩ = some (.int .i64 p)) ∧ Below w2.heap.size w2 w')
        (first | exact MK.out _ (bstep (by assumption) (sBel (by assumption))) | exact MK.out _ (Below.refl _ _).drew)
        (first
        | (go_at_call 32; refine (most_any m k j _).mono ?_; rintro r w3 ⟨rfl, hb3⟩; rw [HM.out]))
      all_goals
        go_wp2
        go_ret
        exact ⟨ret_i H.out.symm, hb2.trans ((sBel (by assumption)).mono hb2.size)⟩
end
end Go.Proofs.YteibaiflljcghaaDoor
