/- Walks of All, near and Ends of package period. -/
import Derived.Test.YtociniaaeflokaaB4
namespace Go.Proofs.Ytociniaaeflokaa
open Go.RowKit Go.Shelf

/-- A list of the call's own. -/
def OwnL (w : World) (base : Nat) (v : Value) (xs : List Int) : Prop := w.ownsRow base 3 1 v xs.length (ivs xs)
theorem OwnL.nums {w : World} {base : Nat} {v : Value} {xs : List Int} (h : OwnL w base v xs) : Nums w v xs := (Nums.own h).1
theorem OwnL.nil (w : World) (base : Nat) : OwnL w base (.slice none 0 0) [] := World.ownsRow_nil _ _ _ _
theorem OwnL.lower {w : World} {b b' : Nat} {v : Value} {xs : List Int} (h : OwnL w b v xs) (hb : b' ≤ b) : OwnL w b' v xs := by
  obtain ⟨h1, h2⟩ := h
  refine ⟨h1, ?_⟩
  rcases h2 with h2 | ⟨g, cap, cur, h3, h4, h5⟩
  · exact .inl h2
  · exact .inr ⟨g, cap, cur, h3, Nat.le_trans hb h4, h5⟩

/-- The periods that a task may have. -/
def allL (s : Sp) : List Int := bif maySp s then perL s else []
/-- May two times be? -/
def nearB (f u : Int) : Bool := decide (0 ≤ f ∧ f ≤ u ∧ u ≤ 1099511627776 ∧ u - f ≤ 5000)
/-- When jobs end. -/
def endN (p f u : Int) : Nat := ((u - f) / p).toNat
def endB (s : Sp) (p f u : Int) : Bool := maySp s && wiB p s.t s.x && nearB f u
def endsL (s : Sp) (p f u : Int) : List Int := bif endB s p f u then lst7 (endN p f u) (rn (f + p) p) else []

theorem all_no {s : Sp} (h : maySp s = false) : allL s = [] := by unfold allL; rw [h]; rfl
theorem all_yes {s : Sp} (h : maySp s = true) : allL s = perL s := by unfold allL; rw [h]; rfl
theorem ends_no {s : Sp} {p f u : Int} (h : endB s p f u = false) : endsL s p f u = [] := by unfold endsL; rw [h]; rfl
theorem ends_yes {s : Sp} {p f u : Int} (h : endB s p f u = true) : endsL s p f u = lst7 (endN p f u) (rn (f + p) p) := by unfold endsL; rw [h]; rfl

theorem end_eq {p f u : Int} (hp : 1 ≤ p) (hf : f ≤ u) : (endN p f u : Int) = (u - f) / p := by
  unfold endN
  have := Int.ediv_nonneg (show 0 ≤ u - f by omega) (show 0 ≤ p by omega)
  omega
theorem end_le {p f u : Int} (hp : 1 ≤ p) (hf : f ≤ u) : (endN p f u : Int) * p ≤ u - f := by rw [end_eq hp hf]; exact Int.ediv_mul_le _ (by omega)
theorem end_lt {p f u : Int} (hp : 1 ≤ p) (hf : f ≤ u) : u - f < ((endN p f u : Int) + 1) * p := by rw [end_eq hp hf]; exact Int.lt_ediv_add_one_mul_self _ (by omega)
theorem end_small {p f u : Int} (hp : 1 ≤ p) (hf : f ≤ u) (h : u - f ≤ 5000) : endN p f u ≤ 5000 := by
  have h1 := end_le hp hf
  have h2 : (endN p f u : Int) * 1 ≤ endN p f u * p := Int.mul_le_mul_of_nonneg_left hp (by omega)
  omega
theorem ends_runs {p f u : Int} (p0 : 1 ≤ p) (p1 : p ≤ 48) (f0 : 0 ≤ f) (f1 : f ≤ u) (u1 : u ≤ 1099511627776) : Runs (f + p) p u (endN p f u) := by
  refine ⟨by omega, by omega, by omega, by omega, by omega, fun i hi => ?_, ?_⟩
  · have h1 := end_le p0 f1
    have h2 : ((i : Int) + 1) * p ≤ endN p f u * p := Int.mul_le_mul_of_nonneg_right (by omega) (by omega)
    rw [Int.add_mul] at h2
    unfold rn; omega
  · have h1 := end_lt p0 f1
    rw [Int.add_mul] at h1
    unfold rn; omega

set_option maxHeartbeats 1000000 in
set_option maxRecDepth 100000 in
theorem perAll_any (c t x m k e : Int) (w : World) :
    Calls Try.prog 12 #[.agg #[.int .i64 c, .int .i64 t, .int .i64 x, .int .i64 m, .int .i64 k, .int .i64 e]] w fun r w' => ∃ v, r = .returned v ∧ OwnL w' w.heap.size v (allL ⟨c, t, x, m, k, e⟩) ∧ Below w.heap.size w w' := by
  have hS : Six (w.alloc (.cells #[.int .i64 c, .int .i64 t, .int .i64 x, .int .i64 m, .int .i64 k, .int .i64 e] 23)) w.heap.size (Sp.at ⟨c, t, x, m, k, e⟩) := Six.new w ⟨c, t, x, m, k, e⟩
  cases h1 : maySp ⟨c, t, x, m, k, e⟩ with
  | false =>
    have H1 : Hid (maySp ⟨c, t, x, m, k, e⟩ = false) := h1
    rw [all_no h1]
    clear h1 hS
    go_enter Try.func12, Try.ntmps12
    go_wp2_with fail
    refine (spmay_any c t x m k e _).mono ?_
    rintro r w1 ⟨rfl, hb1⟩
    rw [H1.out]
    go_wp2_with fail
    go_ret
    exact ⟨_, rfl, OwnL.nil _ _, ((Below.refl _ _).alloc (by simp) _).trans (hb1.mono (by simp))⟩
  | true =>
    have hN := per_runs h1
    have hN1 : perN ⟨c, t, x, m, k, e⟩ ≤ 100000 := by
      obtain ⟨c0, c1, f2, f3, f4, _⟩ := may_facts h1
      unfold perN; simp only at *; omega
    have HL : Hid (allL ⟨c, t, x, m, k, e⟩ = lst7 (perN ⟨c, t, x, m, k, e⟩) (rn t 1)) := all_yes h1
    have H1 : Hid (maySp ⟨c, t, x, m, k, e⟩ = true) := h1
    clear h1
    go_enter Try.func12, Try.ntmps12
    go_wp2_with fail
    refine (spmay_any c t x m k e _).mono ?_
    rintro r w1 ⟨rfl, hb1⟩
    have hS1 := hS.later hb1
    replace hb1 : Below w.heap.size w w1 := ((Below.refl _ _).alloc (by simp) _).trans (hb1.mono (by simp))
    obtain ⟨a0, a1, a2, a3, a4, a5, b0, b1, b2, b3, b4, b5⟩ := hS1.sp
    clear hS
    rw [H1.out]
    go_wp2_with fail
    refine (periods_any c t x m k e _).mono ?_
    rintro r w2 ⟨sq, rfl, hs, hb2⟩
    replace hb2 := hb1.trans (hb2.mono hb1.size)
    clear hb1 hS1 a0 a1 a2 a3 a4 a5 b0 b1 b2 b3 b4 b5
    go_wp2_with fail
    refine (perlist_any t 1 x _ hN hN1 sq _ hs).mono ?_
    rintro r w3 ⟨v, rfl, hv, hb3⟩
    replace hb3 := hb2.trans (hb3.mono hb2.size)
    have hv' : OwnL w3 w.heap.size v (allL ⟨c, t, x, m, k, e⟩) := by
      rw [HL.out]
      refine OwnL.lower (b := w2.heap.size) ?_ hb2.size
      unfold OwnL
      rw [lst7_len]; exact hv
    clear hv
    go_wp2_with fail
    go_ret
    exact ⟨v, rfl, hv', hb3⟩

set_option maxHeartbeats 1000000 in
set_option maxRecDepth 100000 in
theorem near_any (f u : Int) (w : World) : Calls Try.prog 24 #[.int .i64 f, .int .i64 u] w fun r w' => r = .returned (.bool (nearB f u)) ∧ w' = w := by
  by_cases h1 : 0 ≤ f ∧ f ≤ u
  · have H1 : Hid (wiB f 0 u = true) := decide_eq_true h1
    obtain ⟨f0, f1⟩ := h1
    by_cases h2 : u ≤ 1099511627776
    · by_cases h3 : u - f ≤ 5000
      · have H : Hid (nearB f u = true) := decide_eq_true ⟨f0, f1, h2, h3⟩
        go_enter Try.func24, Try.ntmps24
        go_wp2_with fail
        refine (pwithin_any f 0 u _).mono ?_
        rintro r w1 ⟨rfl, hw⟩
        obtain rfl := hw.symm
        rw [H1.out]
        go_wp2_with fail
        go_ret
        exact ⟨ret_b (by first | exact H.out.symm | (rw [H.out]; exact decide_eq_true (by omega)) | (rw [H.out]; exact decide_eq_false (by omega))), rfl⟩
      · have H : Hid (nearB f u = false) := decide_eq_false (by omega)
        go_enter Try.func24, Try.ntmps24
        go_wp2_with fail
        refine (pwithin_any f 0 u _).mono ?_
        rintro r w1 ⟨rfl, hw⟩
        obtain rfl := hw.symm
        rw [H1.out]
        go_wp2_with fail
        go_ret
        exact ⟨ret_b (by first | exact H.out.symm | (rw [H.out]; exact decide_eq_true (by omega)) | (rw [H.out]; exact decide_eq_false (by omega))), rfl⟩
    · have H : Hid (nearB f u = false) := decide_eq_false (by omega)
      go_enter Try.func24, Try.ntmps24
      go_wp2_with fail
      refine (pwithin_any f 0 u _).mono ?_
      rintro r w1 ⟨rfl, hw⟩
      obtain rfl := hw.symm
      rw [H1.out]
      go_wp2_with fail
      go_ret
      exact ⟨ret_b (by first | exact H.out.symm | (rw [H.out]; exact decide_eq_true (by omega)) | (rw [H.out]; exact decide_eq_false (by omega))), rfl⟩
  · have H1 : Hid (wiB f 0 u = false) := decide_eq_false h1
    have H : Hid (nearB f u = false) := decide_eq_false (by omega)
    clear h1
    go_enter Try.func24, Try.ntmps24
    go_wp2_with fail
    refine (pwithin_any f 0 u _).mono ?_
    rintro r w1 ⟨rfl, hw⟩
    obtain rfl := hw.symm
    rw [H1.out]
    go_wp2_with fail
    go_ret
    exact ⟨ret_b (by first | exact H.out.symm | (rw [H.out]; exact decide_eq_true (by omega)) | (rw [H.out]; exact decide_eq_false (by omega))), rfl⟩

section
variable (c t x m k e p f u : Int)
set_option maxHeartbeats 1000000 in
set_option maxRecDepth 100000 in
theorem perEnds_any (w : World) :
    Calls Try.prog 14 #[.agg #[.int .i64 c, .int .i64 t, .int .i64 x, .int .i64 m, .int .i64 k, .int .i64 e], .int .i64 p, .int .i64 f, .int .i64 u] w fun r w' => ∃ v, r = .returned v ∧ OwnL w' w.heap.size v (endsL ⟨c, t, x, m, k, e⟩ p f u) ∧ Below w.heap.size w w' := by
  have hS : Six (w.alloc (.cells #[.int .i64 c, .int .i64 t, .int .i64 x, .int .i64 m, .int .i64 k, .int .i64 e] 23)) w.heap.size (Sp.at ⟨c, t, x, m, k, e⟩) := Six.new w ⟨c, t, x, m, k, e⟩
  cases h1 : maySp ⟨c, t, x, m, k, e⟩ with
  | false =>
    have H1 : Hid (maySp ⟨c, t, x, m, k, e⟩ = false) := h1
    rw [ends_no (show endB _ p f u = false by unfold endB; rw [h1]; rfl)]
    clear h1 hS
    go_enter Try.func14, Try.ntmps14
    go_wp2_with fail
    refine (spmay_any c t x m k e _).mono ?_
    rintro r w1 ⟨rfl, hb1⟩
    rw [H1.out]
    go_wp2_with fail
    go_ret
    exact ⟨_, rfl, OwnL.nil _ _, ((Below.refl _ _).alloc (by simp) _).trans (hb1.mono (by simp))⟩
  | true =>
    have H1 : Hid (maySp ⟨c, t, x, m, k, e⟩ = true) := h1
    cases h2 : wiB p t x with
    | false =>
      have H2 : Hid (wiB p t x = false) := h2
      rw [ends_no (show endB _ p f u = false by unfold endB; simp only [h1, h2]; rfl)]
      clear h1 h2
      go_enter Try.func14, Try.ntmps14
      go_wp2_with fail
      refine (spmay_any c t x m k e _).mono ?_
      rintro r w1 ⟨rfl, hb1⟩
      have hS1 := hS.later hb1
      replace hb1 : Below w.heap.size w w1 := ((Below.refl _ _).alloc (by simp) _).trans (hb1.mono (by simp))
      obtain ⟨a0, a1, a2, a3, a4, a5, b0, b1, b2, b3, b4, b5⟩ := hS1.sp
      clear hS
      rw [H1.out]
      go_wp2_with fail
      refine (pwithin_any p t x _).mono ?_
      rintro r w2 ⟨rfl, hw⟩
      obtain rfl := hw.symm
      rw [H2.out]
      go_wp2_with fail
      go_ret
      exact ⟨_, rfl, OwnL.nil _ _, hb1⟩
    | true =>
      have H2 : Hid (wiB p t x = true) := h2
      cases h3 : nearB f u with
      | false =>
        have H3 : Hid (nearB f u = false) := h3
        rw [ends_no (show endB _ p f u = false by unfold endB; rw [h3, Bool.and_false])]
        clear h1 h2 h3
        go_enter Try.func14, Try.ntmps14
        go_wp2_with fail
        refine (spmay_any c t x m k e _).mono ?_
        rintro r w1 ⟨rfl, hb1⟩
        have hS1 := hS.later hb1
        replace hb1 : Below w.heap.size w w1 := ((Below.refl _ _).alloc (by simp) _).trans (hb1.mono (by simp))
        obtain ⟨a0, a1, a2, a3, a4, a5, b0, b1, b2, b3, b4, b5⟩ := hS1.sp
        clear hS
        rw [H1.out]
        go_wp2_with fail
        refine (pwithin_any p t x _).mono ?_
        rintro r w2 ⟨rfl, hw⟩
        obtain rfl := hw.symm
        rw [H2.out]
        go_wp2_with fail
        refine (near_any f u _).mono ?_
        rintro r w2 ⟨rfl, hw2⟩
        obtain rfl := hw2.symm
        rw [H3.out]
        go_wp2_with fail
        go_ret
        exact ⟨_, rfl, OwnL.nil _ _, hb1⟩
      | true =>
        have H3 : Hid (nearB f u = true) := h3
        have HL : Hid (endsL ⟨c, t, x, m, k, e⟩ p f u = lst7 (endN p f u) (rn (f + p) p)) := ends_yes (show endB _ p f u = true by unfold endB; simp only [h1, h2, h3]; rfl)
        obtain ⟨c0, c1, f2, f3, f4, _⟩ := may_facts h1
        obtain ⟨p0, p1⟩ := of_decide_eq_true (show decide (t ≤ p ∧ p ≤ x) = true from h2)
        obtain ⟨n0, n1, n2, n3⟩ := of_decide_eq_true (show decide (0 ≤ f ∧ f ≤ u ∧ u ≤ 1099511627776 ∧ u - f ≤ 5000) = true from h3)
        simp only at c0 c1 f2 f3 f4
        have q0 : 1 ≤ p := by omega
        have q1 : p ≤ 48 := by omega
        have hN := ends_runs q0 q1 n0 n1 n2
        have hN1 : endN p f u ≤ 100000 := Nat.le_trans (end_small q0 n1 n3) (by decide)
        clear h1 h2 h3
        go_enter Try.func14, Try.ntmps14
        go_wp2_with fail
        refine (spmay_any c t x m k e _).mono ?_
        rintro r w1 ⟨rfl, hb1⟩
        have hS1 := hS.later hb1
        replace hb1 : Below w.heap.size w w1 := ((Below.refl _ _).alloc (by simp) _).trans (hb1.mono (by simp))
        obtain ⟨a0, a1, a2, a3, a4, a5, b0, b1, b2, b3, b4, b5⟩ := hS1.sp
        clear hS
        rw [H1.out]
        go_wp2_with fail
        refine (pwithin_any p t x _).mono ?_
        rintro r w2 ⟨rfl, hw⟩
        obtain rfl := hw.symm
        rw [H2.out]
        go_wp2_with fail
        refine (near_any f u _).mono ?_
        rintro r w2 ⟨rfl, hw2⟩
        obtain rfl := hw2.symm
        rw [H3.out]
        go_wp2_with fail
        refine (over_any (f + p) p u _).mono ?_
        rintro r w2 ⟨sq, rfl, hs, hb2⟩
        replace hb2 := hb1.trans (hb2.mono hb1.size)
        clear hb1 hS1 a0 a1 a2 a3 a4 a5 b0 b1 b2 b3 b4 b5
        go_wp2_with fail
        refine (perlist_any (f + p) p u _ hN hN1 sq _ hs).mono ?_
        rintro r w3 ⟨v, rfl, hv, hb3⟩
        replace hb3 := hb2.trans (hb3.mono hb2.size)
        have hv' : OwnL w3 w.heap.size v (endsL ⟨c, t, x, m, k, e⟩ p f u) := by
          rw [HL.out]
          refine OwnL.lower (b := w2.heap.size) ?_ hb2.size
          unfold OwnL
          rw [lst7_len]; exact hv
        clear hv
        go_wp2_with fail
        go_ret
        exact ⟨v, rfl, hv', hb3⟩
end
end Go.Proofs.Ytociniaaeflokaa
