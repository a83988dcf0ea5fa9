/- The document's own answers of chapter 8: where there is no period, all periods, and when jobs end. -/
import Derived.Test.YtociniaaeflokaaB6
namespace Go.Proofs.Ytociniaaeflokaa
open Go.RowKit Go.Shelf

set_option maxHeartbeats 1000000 in
set_option maxRecDepth 100000 in
theorem refPerOf_no (c t x m k e u : Int) (w : World) (h : (maySp ⟨c, t, x, m, k, e⟩ && wiB u 1 1048576) = false) :
    Calls Try.prog 10 #[.agg #[.int .i64 c, .int .i64 t, .int .i64 x, .int .i64 m, .int .i64 k, .int .i64 e], .int .i64 u] w fun r w' => r = .returned (.tuple #[.int .i64 0, .bool false]) ∧ Below w.heap.size w w' := by
  have hb0 : Below w.heap.size w (w.alloc (.cells #[.int .i64 c, .int .i64 t, .int .i64 x, .int .i64 m, .int .i64 k, .int .i64 e] 23)) := (Below.refl _ _).alloc (Nat.le_refl _) _
  cases h1 : maySp ⟨c, t, x, m, k, e⟩ with
  | false =>
    have H1 : Hid (maySp ⟨c, t, x, m, k, e⟩ = false) := h1
    clear h h1
    go_enter Try.func10, Try.ntmps10
    go_wp2_with fail
    refine (refSp_any c t x m k e _).mono ?_
    rintro r w1 ⟨rfl, hb1⟩
    replace hb1 := hb0.trans (hb1.mono hb0.size)
    rw [H1.out]
    go_wp2_with fail
    go_ret2
    exact ⟨rfl, hb1⟩
  | true =>
    rw [h1, Bool.true_and] at h
    have hu := of_decide_eq_false (show decide (1 ≤ u ∧ u ≤ 1048576) = false from h)
    have H1 : Hid (maySp ⟨c, t, x, m, k, e⟩ = true) := h1
    clear h h1
    by_cases u0 : u < 1
    · clear hu
      go_enter Try.func10, Try.ntmps10
      go_wp2_with fail
      refine (refSp_any c t x m k e _).mono ?_
      rintro r w1 ⟨rfl, hb1⟩
      replace hb1 := hb0.trans (hb1.mono hb0.size)
      rw [H1.out]
      go_wp2_with fail
      go_ret2
      exact ⟨rfl, hb1⟩
    · have u1 : 1048576 < u := by omega
      clear hu
      go_enter Try.func10, Try.ntmps10
      go_wp2_with fail
      refine (refSp_any c t x m k e _).mono ?_
      rintro r w1 ⟨rfl, hb1⟩
      replace hb1 := hb0.trans (hb1.mono hb0.size)
      rw [H1.out]
      go_wp2_with fail
      go_ret2
      exact ⟨rfl, hb1⟩

theorem refPerOf_any (c t x m k e u : Int) (w : World) :
    Calls Try.prog 10 #[.agg #[.int .i64 c, .int .i64 t, .int .i64 x, .int .i64 m, .int .i64 k, .int .i64 e], .int .i64 u] w fun r w' => r = .returned (.tuple #[.int .i64 (ofP ⟨c, t, x, m, k, e⟩ u), .bool (ofB ⟨c, t, x, m, k, e⟩ u)]) ∧ Below w.heap.size w w' := by
  cases h : (maySp ⟨c, t, x, m, k, e⟩ && wiB u 1 1048576) with
  | false => unfold ofP ofB ofO; rw [h]; exact refPerOf_no c t x m k e u w h
  | true =>
    rw [Bool.and_eq_true] at h
    have hu := of_decide_eq_true (show decide (1 ≤ u ∧ u ≤ 1048576) = true from h.2)
    exact refPerOf_in c t x m k e u w h.1 hu.1 hu.2

set_option maxHeartbeats 1000000 in
set_option maxRecDepth 100000 in
theorem refPerAll_any (c t x m k e : Int) (w : World) :
    Calls Try.prog 13 #[.agg #[.int .i64 c, .int .i64 t, .int .i64 x, .int .i64 m, .int .i64 k, .int .i64 e]] w fun r w' => ∃ v, r = .returned v ∧ OwnL w' w.heap.size v (allL ⟨c, t, x, m, k, e⟩) ∧ Below w.heap.size w w' := by
  have hS : Six (w.alloc (.cells #[.int .i64 c, .int .i64 t, .int .i64 x, .int .i64 m, .int .i64 k, .int .i64 e] 23)) w.heap.size (Sp.at ⟨c, t, x, m, k, e⟩) := Six.new w ⟨c, t, x, m, k, e⟩
  cases h1 : maySp ⟨c, t, x, m, k, e⟩ with
  | false =>
    have H1 : Hid (maySp ⟨c, t, x, m, k, e⟩ = false) := h1
    rw [all_no h1]
    clear h1
    go_enter Try.func13, Try.ntmps13
    go_wp2_with fail
    refine (refSp_any c t x m k e _).mono ?_
    rintro r w1 ⟨rfl, hb1⟩
    have hS1 := hS.later hb1
    replace hb1 : Below w.heap.size w w1 := ((Below.refl _ _).alloc (by simp) _).trans (hb1.mono (by simp))
    obtain ⟨a0, a1, a2, a3, a4, a5, b0, b1, b2, b3, b4, b5⟩ := hS1.sp
    clear hS
    rw [H1.out]
    go_wp2_with fail
    go_loop [3, 5] (fun o v => o = .slice none 0 0 ∧ v = .int .i64 t) (fun _ _ => 0)
    case atStart => exact ⟨rfl, rfl⟩
    case round =>
      obtain ⟨rfl, rfl⟩ := hrel
      by_cases htx : t ≤ x
      · go_wp2_with fail
        go_ret
        exact ⟨_, rfl, OwnL.nil _ _, hb1⟩
      · go_wp2_with fail
        go_ret
        exact ⟨_, rfl, OwnL.nil _ _, hb1⟩
  | true =>
    have hN := per_len h1
    have HL : Hid (allL ⟨c, t, x, m, k, e⟩ = lst7 (perN ⟨c, t, x, m, k, e⟩) (rn t 1)) := all_yes h1
    obtain ⟨N, hNN⟩ : ∃ N, perN ⟨c, t, x, m, k, e⟩ = N := ⟨_, rfl⟩
    rw [hNN] at HL hN
    clear hNN
    obtain ⟨c0, c1, f2, f3, f4, _⟩ := may_facts h1
    simp only at hN c0 c1 f2 f3 f4
    have H1 : Hid (maySp ⟨c, t, x, m, k, e⟩ = true) := h1
    clear h1
    go_enter Try.func13, Try.ntmps13
    go_wp2_with fail
    refine (refSp_any c t x m k e _).mono ?_
    rintro r w1 ⟨rfl, hb1⟩
    have hS1 := hS.later hb1
    replace hb1 : Below w.heap.size w w1 := ((Below.refl _ _).alloc (by simp) _).trans (hb1.mono (by simp))
    obtain ⟨a0, a1, a2, a3, a4, a5, b0, b1, b2, b3, b4, b5⟩ := hS1.sp
    clear hS
    rw [H1.out]
    go_wp2_with fail
    go_loopw [3, 5] (fun o v wr => ∃ (j : Nat) (s : Value), j ≤ N ∧ o = s ∧ v = .int .i64 (t + j) ∧ wr.ownsRow w1.heap.size 3 1 s j (ivs (lst7 j (rn t 1))) ∧ Below w1.heap.size w1 wr) (fun _ v _ => (x + 1 - intOf v).toNat)
    case atStart => exact ⟨0, _, Nat.zero_le _, rfl, by simp, World.ownsRow_nil _ _ _ _, Below.refl _ _⟩
    case round =>
      obtain ⟨j, s, hj, hso, rfl, hown, hbw⟩ := hrel
      replace hso := hso.symm
      subst hso
      obtain ⟨a0, a1, a2, a3, a4, a5, b0, b1, b2, b3, b4, b5⟩ := (hS1.later hbw).sp
      by_cases hlt : j < N
      · have er : rn t 1 j = t + j := by unfold rn; omega
        have HR : Hid (rn t 1 j = t + j) := er
        clear er
        have hle : t + (j : Int) ≤ x := by omega
        go_wp2_with (at_builtin; refine append_int8 rfl _ _ rfl w1.heap.size _ j _ (t + j) (rn t 1) rfl (hown.alloc _) rfl (by simp) HR.out (by omega) (by have := hbw.size; simp; omega) ?_; intro v' w3 hown3 hb3)
        have hbw3 : Below w1.heap.size w1 w3 := (hbw.alloc hbw.size _).trans hb3
        go_roundw
        case rel => exact ⟨j + 1, _, by omega, rfl, by simp; omega, hown3, hbw3⟩
        case measure => simp [intOf]; omega
      · obtain rfl : j = N := by omega
        have hle : ¬ (t + (j : Int)) ≤ x := by omega
        go_wp2_with fail
        go_ret
        refine ⟨_, rfl, ?_, hb1.trans (hbw.mono hb1.size)⟩
        rw [HL.out]
        refine OwnL.lower (b := w1.heap.size) ?_ hb1.size
        unfold OwnL
        rw [lst7_len]; exact hown
section
variable (c t x m k e p f u : Int)
set_option maxHeartbeats 1000000 in
set_option maxRecDepth 100000 in
theorem refPerEnds_no (w : World) (h : endB ⟨c, t, x, m, k, e⟩ p f u = false) :
    Calls Try.prog 15 #[.agg #[.int .i64 c, .int .i64 t, .int .i64 x, .int .i64 m, .int .i64 k, .int .i64 e], .int .i64 p, .int .i64 f, .int .i64 u] w fun r w' => ∃ v, r = .returned v ∧ OwnL w' w.heap.size v [] ∧ Below w.heap.size w w' := by
  have hS : Six (w.alloc (.cells #[.int .i64 c, .int .i64 t, .int .i64 x, .int .i64 m, .int .i64 k, .int .i64 e] 23)) w.heap.size (Sp.at ⟨c, t, x, m, k, e⟩) := Six.new w ⟨c, t, x, m, k, e⟩
  cases h1 : maySp ⟨c, t, x, m, k, e⟩ with
  | false =>
    have H1 : Hid (maySp ⟨c, t, x, m, k, e⟩ = false) := h1
    clear h h1
    go_enter Try.func15, Try.ntmps15
    go_wp2_with fail
    refine (refSp_any c t x m k e _).mono ?_
    rintro r w1 ⟨rfl, hb1⟩
    have hS1 := hS.later hb1
    replace hb1 : Below w.heap.size w w1 := ((Below.refl _ _).alloc (by simp) _).trans (hb1.mono (by simp))
    obtain ⟨a0, a1, a2, a3, a4, a5, b0, b1, b2, b3, b4, b5⟩ := hS1.sp
    clear hS
    rw [H1.out]
    go_wp2_with fail
    go_ret
    exact ⟨_, rfl, OwnL.nil _ _, hb1⟩
  | true =>
    have hc : ¬ ((t ≤ p ∧ p ≤ x) ∧ 0 ≤ f ∧ f ≤ u ∧ u ≤ 1099511627776 ∧ u - f ≤ 5000) := fun q => by
      have : endB ⟨c, t, x, m, k, e⟩ p f u = true := by
        unfold endB; rw [h1, show wiB p t x = true from decide_eq_true q.1, show nearB f u = true from decide_eq_true q.2]; rfl
      rw [this] at h; cases h
    have H1 : Hid (maySp ⟨c, t, x, m, k, e⟩ = true) := h1
    clear h h1
    by_cases g0 : p < t
    · clear hc
      go_enter Try.func15, Try.ntmps15
      go_wp2_with fail
      refine (refSp_any c t x m k e _).mono ?_
      rintro r w1 ⟨rfl, hb1⟩
      have hS1 := hS.later hb1
      replace hb1 : Below w.heap.size w w1 := ((Below.refl _ _).alloc (by simp) _).trans (hb1.mono (by simp))
      obtain ⟨a0, a1, a2, a3, a4, a5, b0, b1, b2, b3, b4, b5⟩ := hS1.sp
      clear hS
      rw [H1.out]
      go_wp2_with fail
      go_ret
      exact ⟨_, rfl, OwnL.nil _ _, hb1⟩
    · have g0' := Int.not_lt.1 g0
      by_cases g1 : x < p
      · clear hc
        go_enter Try.func15, Try.ntmps15
        go_wp2_with fail
        refine (refSp_any c t x m k e _).mono ?_
        rintro r w1 ⟨rfl, hb1⟩
        have hS1 := hS.later hb1
        replace hb1 : Below w.heap.size w w1 := ((Below.refl _ _).alloc (by simp) _).trans (hb1.mono (by simp))
        obtain ⟨a0, a1, a2, a3, a4, a5, b0, b1, b2, b3, b4, b5⟩ := hS1.sp
        clear hS
        rw [H1.out]
        go_wp2_with fail
        go_ret
        exact ⟨_, rfl, OwnL.nil _ _, hb1⟩
      · have g1' := Int.not_lt.1 g1
        by_cases g2 : f < 0
        · clear hc
          go_enter Try.func15, Try.ntmps15
          go_wp2_with fail
          refine (refSp_any c t x m k e _).mono ?_
          rintro r w1 ⟨rfl, hb1⟩
          have hS1 := hS.later hb1
          replace hb1 : Below w.heap.size w w1 := ((Below.refl _ _).alloc (by simp) _).trans (hb1.mono (by simp))
          obtain ⟨a0, a1, a2, a3, a4, a5, b0, b1, b2, b3, b4, b5⟩ := hS1.sp
          clear hS
          rw [H1.out]
          go_wp2_with fail
          go_ret
          exact ⟨_, rfl, OwnL.nil _ _, hb1⟩
        · have g2' := Int.not_lt.1 g2
          by_cases g3 : u < f
          · clear hc
            go_enter Try.func15, Try.ntmps15
            go_wp2_with fail
            refine (refSp_any c t x m k e _).mono ?_
            rintro r w1 ⟨rfl, hb1⟩
            have hS1 := hS.later hb1
            replace hb1 : Below w.heap.size w w1 := ((Below.refl _ _).alloc (by simp) _).trans (hb1.mono (by simp))
            obtain ⟨a0, a1, a2, a3, a4, a5, b0, b1, b2, b3, b4, b5⟩ := hS1.sp
            clear hS
            rw [H1.out]
            go_wp2_with fail
            go_ret
            exact ⟨_, rfl, OwnL.nil _ _, hb1⟩
          · have g3' := Int.not_lt.1 g3
            by_cases g4 : 1099511627776 < u
            · clear hc
              go_enter Try.func15, Try.ntmps15
              go_wp2_with fail
              refine (refSp_any c t x m k e _).mono ?_
              rintro r w1 ⟨rfl, hb1⟩
              have hS1 := hS.later hb1
              replace hb1 : Below w.heap.size w w1 := ((Below.refl _ _).alloc (by simp) _).trans (hb1.mono (by simp))
              obtain ⟨a0, a1, a2, a3, a4, a5, b0, b1, b2, b3, b4, b5⟩ := hS1.sp
              clear hS
              rw [H1.out]
              go_wp2_with fail
              go_ret
              exact ⟨_, rfl, OwnL.nil _ _, hb1⟩
            · have g4' := Int.not_lt.1 g4
              have g5 : 5000 < u - f := by omega
              clear hc
              go_enter Try.func15, Try.ntmps15
              go_wp2_with fail
              refine (refSp_any c t x m k e _).mono ?_
              rintro r w1 ⟨rfl, hb1⟩
              have hS1 := hS.later hb1
              replace hb1 : Below w.heap.size w w1 := ((Below.refl _ _).alloc (by simp) _).trans (hb1.mono (by simp))
              obtain ⟨a0, a1, a2, a3, a4, a5, b0, b1, b2, b3, b4, b5⟩ := hS1.sp
              clear hS
              rw [H1.out]
              go_wp2_with fail
              go_ret
              exact ⟨_, rfl, OwnL.nil _ _, hb1⟩

theorem end_hit {p j : Nat} (h : (j + 1) % p = 0) : (j + 1) / p = j / p + 1 := by rw [Nat.succ_div, if_pos (Nat.dvd_of_mod_eq_zero h)]
theorem end_miss {p j : Nat} (h : (j + 1) % p ≠ 0) : (j + 1) / p = j / p := by rw [Nat.succ_div, if_neg (fun q => h (Nat.mod_eq_zero_of_dvd q)), Nat.add_zero]
theorem end_val {p j : Nat} (f : Int) (h : (j + 1) % p = 0) : rn (f + p) p (j / p) = f + 1 + j := by
  have h1 := Nat.div_add_mod (j + 1) p
  rw [h, end_hit h, Nat.add_zero, Nat.mul_add, Nat.mul_one, Nat.mul_comm] at h1
  have h2 : ((j / p : Nat) : Int) * p + p = j + 1 := by exact_mod_cast h1
  unfold rn; omega
theorem end_nat {p j : Nat} {f u : Int} (h : u - f = j) : endN p f u = j / p := by
  unfold endN; rw [h]; rfl

set_option maxHeartbeats 1000000 in
set_option maxRecDepth 100000 in
theorem refPerEnds_in (w : World) (h : endB ⟨c, t, x, m, k, e⟩ p f u = true) :
    Calls Try.prog 15 #[.agg #[.int .i64 c, .int .i64 t, .int .i64 x, .int .i64 m, .int .i64 k, .int .i64 e], .int .i64 p, .int .i64 f, .int .i64 u] w fun r w' => ∃ v, r = .returned v ∧ OwnL w' w.heap.size v (endsL ⟨c, t, x, m, k, e⟩ p f u) ∧ Below w.heap.size w w' := by
  have hS : Six (w.alloc (.cells #[.int .i64 c, .int .i64 t, .int .i64 x, .int .i64 m, .int .i64 k, .int .i64 e] 23)) w.heap.size (Sp.at ⟨c, t, x, m, k, e⟩) := Six.new w ⟨c, t, x, m, k, e⟩
  have HL := ends_yes h
  unfold endB at h
  rw [Bool.and_eq_true, Bool.and_eq_true] at h
  obtain ⟨⟨h1, h2⟩, h3⟩ := h
  obtain ⟨p0, p1⟩ := of_decide_eq_true (show decide (t ≤ p ∧ p ≤ x) = true from h2)
  obtain ⟨n0, n1, n2, n3⟩ := of_decide_eq_true (show decide (0 ≤ f ∧ f ≤ u ∧ u ≤ 1099511627776 ∧ u - f ≤ 5000) = true from h3)
  obtain ⟨c0, c1, f2, f3, f4, _⟩ := may_facts h1
  simp only at c0 c1 f2 f3 f4
  have q0 : 1 ≤ p := by omega
  have q1 : p ≤ 48 := by omega
  obtain ⟨pn, rfl⟩ := Int.eq_ofNat_of_zero_le (show 0 ≤ p by omega)
  obtain ⟨J, hJ⟩ := Int.eq_ofNat_of_zero_le (show 0 ≤ u - f by omega)
  have HL' : Hid (endsL ⟨c, t, x, m, k, e⟩ pn f u = lst7 (J / pn) (rn (f + pn) pn)) := by show _ = _; rw [HL, end_nat hJ]
  have H1 : Hid (maySp ⟨c, t, x, m, k, e⟩ = true) := h1
  clear h1 h2 h3 HL
  go_enter Try.func15, Try.ntmps15
  go_wp2_with fail
  refine (refSp_any c t x m k e _).mono ?_
  rintro r w1 ⟨rfl, hb1⟩
  have hS1 := hS.later hb1
  replace hb1 : Below w.heap.size w w1 := ((Below.refl _ _).alloc (by simp) _).trans (hb1.mono (by simp))
  obtain ⟨a0, a1, a2, a3, a4, a5, b0, b1, b2, b3, b4, b5⟩ := hS1.sp
  clear hS
  rw [H1.out]
  go_wp2_with fail
  go_loopw [9, 11] (fun o v wr => ∃ (j : Nat) (s : Value), j ≤ J ∧ o = s ∧ v = .int .i64 (f + 1 + j) ∧ wr.ownsRow w1.heap.size 3 1 s (j / pn) (ivs (lst7 (j / pn) (rn (f + pn) pn))) ∧ Below w1.heap.size w1 wr) (fun _ v _ => (u + 1 - intOf v).toNat)
  case atStart =>
    refine ⟨0, _, Nat.zero_le _, rfl, by simp, ?_, Below.refl _ _⟩
    rw [Nat.zero_div]; exact World.ownsRow_nil _ _ _ _
  case round =>
    obtain ⟨j, s, hj, hso, rfl, hown, hbw⟩ := hrel
    replace hso := hso.symm
    subst hso
    by_cases hlt : j < J
    · have hle : f + 1 + (j : Int) ≤ u := by omega
      have hjp : j / pn ≤ j := Nat.div_le_self _ _
      have ej : (f + 1 + (j : Int) - f) % (pn : Int) = ((j + 1) % pn : Nat) := by rw [show f + 1 + (j : Int) - f = ((j + 1 : Nat) : Int) by simp; omega]; rfl
      by_cases hm : (j + 1) % pn = 0
      · have hq : ((f + 1 + (j : Int) - f) % (pn : Int) == 0) = true := by rw [ej, hm]; rfl
        have HV : Hid (rn (f + pn) pn (j / pn) = f + 1 + j) := end_val f hm
        have HH : Hid ((j + 1) / pn = j / pn + 1) := end_hit hm
        clear ej hm
        go_wp2_with (at_builtin; refine append_int8 rfl _ _ rfl w1.heap.size _ (j / pn) _ (f + 1 + j) (rn (f + pn) pn) rfl (hown.alloc _) rfl (by simp) HV.out (by omega) (by have := hbw.size; simp; omega) ?_; intro v' w3 hown3 hb3)
        have hbw3 : Below w1.heap.size w1 w3 := (hbw.alloc hbw.size _).trans hb3
        go_roundw
        case rel => exact ⟨j + 1, _, by omega, rfl, by simp; omega, by rw [HH.out]; exact hown3, hbw3⟩
        case measure => simp [intOf]; omega
      · have hq : ((f + 1 + (j : Int) - f) % (pn : Int) == 0) = false := by rw [ej]; simpa using (by omega : ¬ (((j + 1) % pn : Nat) : Int) = 0)
        have HH : Hid ((j + 1) / pn = j / pn) := end_miss hm
        clear ej hm
        go_wp2_with fail
        go_roundw
        case rel => exact ⟨j + 1, _, by omega, rfl, by simp; omega, by rw [HH.out]; exact hown, hbw⟩
        case measure => simp [intOf]; omega
    · obtain rfl : j = J := by omega
      have hle : ¬ (f + 1 + (j : Int)) ≤ u := by omega
      go_wp2_with fail
      go_ret
      refine ⟨_, rfl, ?_, hb1.trans (hbw.mono hb1.size)⟩
      rw [HL'.out]
      refine OwnL.lower (b := w1.heap.size) ?_ hb1.size
      unfold OwnL
      rw [lst7_len]; exact hown

theorem refPerEnds_any (w : World) :
    Calls Try.prog 15 #[.agg #[.int .i64 c, .int .i64 t, .int .i64 x, .int .i64 m, .int .i64 k, .int .i64 e], .int .i64 p, .int .i64 f, .int .i64 u] w fun r w' => ∃ v, r = .returned v ∧ OwnL w' w.heap.size v (endsL ⟨c, t, x, m, k, e⟩ p f u) ∧ Below w.heap.size w w' := by
  cases h : endB ⟨c, t, x, m, k, e⟩ p f u with
  | false => rw [ends_no h]; exact refPerEnds_no c t x m k e p f u w h
  | true => exact refPerEnds_in c t x m k e p f u w h
end
end Go.Proofs.Ytociniaaeflokaa
