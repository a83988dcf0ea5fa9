/- What the statement PeriodTwo comes to. -/
import Derived.Test.YtociniaaeflokaaB13
namespace Go.Proofs.Ytociniaaeflokaa
open Go.RowKit Go.Shelf

/-- One list of integers, the call's own, gets another one behind it: a step of a statement whose order is drawn. -/
theorem step_append_nums {w : World} {ops : Array Oper} {o : Oper} {act : Act} {K : Act → World → Prop} {Q : Exit → Act → World → Prop} {E : Prop} (hgd : o.guard = Option.none) (s x : Operand)
    (ho : o.op = .call { callee := .builtin .append, args := #[s, x], argTypes := #[28, 28] }) (base : Nat) (v u : Value) (n : Nat) (xs ys : List Int)
    (hs : act.eval s = v) (hown : w.ownsRow base 3 1 v n (ivs xs)) (hx : act.eval x = u) (hr : Nums w u ys) (hcap : NilCap u) (hn : n + ys.length ≤ 100000) (hbase : base ≤ w.heap.size)
    (h : ∀ v' w', w'.ownsRow base 3 1 v' (n + ys.length) (ivs (xs ++ ys)) → Below base w w' → K (act.put o.dst v') w') :
    if Region.wanted o (yielded ops act.tmps) = true then Oper.wp Try.prog o act w K Q else E := by
  have hw : Region.wanted o (yielded ops act.tmps) = true := by simp [Region.wanted, hgd]
  rw [if_pos hw]
  obtain ⟨i0, hi, hz0, hz1, hz2⟩ := info_parts Try.infoInt
  have hlow := hown.lt
  obtain ⟨a, cap, rfl, h1, h2, h3⟩ := hr
  have m1 : n + ys.length ≤ maxLen := by unfold maxLen; omega
  have main : ∀ (ad : Addr), a = some ad → (∀ j q, (ivs ys)[j]? = some q → w.cell? (ad.add j) = some q) → Oper.wp Try.prog o act w K Q := by
    intro ad ha hcells
    subst ha
    refine wp_append_own w s x 28 ho base 3 i0 _ 1 8 Try.underlying28 hi hz0 hz1 hz2 rfl (by decide) v n (ivs xs) hs hown ad ys.length cap (ivs ys) hx (by rw [ivs_len]; omega) hcells (ivs_one _) m1 (by omega) hbase ?_
    intro v' w' g1 g2 _
    rw [← ivs_app] at g1
    exact h v' w' g1 ((Below.refl _ _).grown g2 hbase fun k hk => (hlow k hk).1)
  cases ys with
  | nil =>
    cases a with
    | none =>
      obtain rfl := hcap cap rfl
      have hr := run_append_owned_none (P := Try.prog) (w := w) base 28 o.type 3 i0 1 Try.underlying28 hi v n (ivs xs) hown
      unfold Oper.wp execOp
      have hx' : act.eval x = .slice none 0 0 := hx
      simp only [ho, resolve, invoke, builtin, Sem.run_bind, Sem.run_pure, Result.andThen_ok, List.map_toArray, List.map_cons, List.map_nil, hs, hx', hr]
      exact h v w (by simpa using hown) (Below.refl _ _)
    | some ad => exact main ad rfl (fun j q hq => by simp [ivs] at hq)
  | cons y ys =>
    obtain ⟨b, oo, rfl, h4⟩ := h3 (by simp)
    refine main ⟨b, oo, Option.none⟩ rfl (fun j q hq => ?_)
    have hj : j < (y :: ys).length := by have := (List.getElem?_eq_some_iff.1 hq).1; rwa [ivs_len] at this
    rw [ivs_at hj] at hq
    rw [← hq, Go.WideShapes.add_plain]
    exact h4 j hj
theorem OwnL.cap {w : World} {base : Nat} {v : Value} {xs : List Int} (h : OwnL w base v xs) : NilCap v := (Nums.own h).2.1

/-- Ends of one stretch, and of the one behind it. -/
theorem two_eq {p f d u : Int} (q0 : 1 ≤ p) (n1 : f ≤ d) (n2 : d ≤ u) :
    lst7 (endN p f d) (rn (f + p) p) ++ lst7 (endN p (f + endN p f d * p) u) (rn (f + endN p f d * p + p) p) = lst7 (endN p f u) (rn (f + p) p) := by
  have h1 := end_le q0 n1
  generalize hM : endN p f d = M at *
  have hg : f + M * p ≤ u := by omega
  have e1 := end_eq q0 hg
  have e2 := end_eq q0 (show f ≤ u by omega)
  have e3 : (u - f) / p = (u - (f + M * p)) / p + M := by
    rw [show u - f = (u - (f + M * p)) + M * p by omega, Int.add_mul_ediv_right _ _ (by omega)]
  have hN : endN p f u = M + endN p (f + M * p) u := by omega
  rw [hN]
  generalize endN p (f + M * p) u = L
  unfold lst7
  rw [List.range_add, List.map_append, List.map_map]
  congr 1
  apply List.map_congr_left
  intro i _
  simp only [Function.comp, rn]
  rw [Int.natCast_add, Int.add_mul]
  omega

section
variable (c t x m k e p f d u : Int)

set_option maxHeartbeats 4000000 in
set_option maxRecDepth 100000 in
theorem ptwo_no (w : World) (h : atV ⟨c, t, x, m, k, e⟩ p = 0) :
    Calls Try.prog 7 #[.agg #[.int .i64 c, .int .i64 t, .int .i64 x, .int .i64 m, .int .i64 k, .int .i64 e], .int .i64 p, .int .i64 f, .int .i64 d, .int .i64 u] w fun r w' => r = .returned (.bool true) ∧ Below w.heap.size w w' := by
  have hS : Six (w.alloc (.cells #[.int .i64 c, .int .i64 t, .int .i64 x, .int .i64 m, .int .i64 k, .int .i64 e] 23)) w.heap.size (Sp.at ⟨c, t, x, m, k, e⟩) := Six.new w ⟨c, t, x, m, k, e⟩
  have HA : Hid (atV ⟨c, t, x, m, k, e⟩ p = 0) := h
  clear h
  go_enter Try.func7, Try.ntmps7
  go_wp2_with fail
  refine (awake8_any _).mono ?_
  rintro r w1 ⟨rfl, hb1⟩
  have hS1 := hS.later hb1
  replace hb1 : Below w.heap.size w w1 := ((Below.refl _ _).alloc (by simp) _).trans (hb1.mono (by simp))
  obtain ⟨a0, a1, a2, a3, a4, a5, b0, b1, b2, b3, b4, b5⟩ := hS1.sp
  clear hS b0 b1 b2 b3 b4 b5
  go_wp2_with fail
  refine (at_any c t x m k e p _).mono ?_
  rintro r w2 ⟨rfl, hb2⟩
  rw [HA.out]
  have hS2 := hS1.later hb2
  replace hb2 := hb1.trans (hb2.mono hb1.size)
  clear hS1 hb1 a0 a1 a2 a3 a4 a5
  obtain ⟨a0, a1, a2, a3, a4, a5, b0, b1, b2, b3, b4, b5⟩ := hS2.sp
  clear b0 b1 b2 b3 b4 b5
  go_wp2_with fail
  go_ret
  exact ⟨by first | rfl | exact ret_b (by simp) | exact ret_b (decide_eq_true (by omega)), hb2⟩

set_option maxHeartbeats 4000000 in
set_option maxRecDepth 100000 in
theorem ptwo_out (w : World) (h : 1 ≤ atV ⟨c, t, x, m, k, e⟩ p) (hu : ¬ (0 ≤ f ∧ f ≤ d ∧ d ≤ u ∧ u ≤ 1000000 ∧ u - f ≤ 5000)) :
    Calls Try.prog 7 #[.agg #[.int .i64 c, .int .i64 t, .int .i64 x, .int .i64 m, .int .i64 k, .int .i64 e], .int .i64 p, .int .i64 f, .int .i64 d, .int .i64 u] w fun r w' => r = .returned (.bool true) ∧ Below w.heap.size w w' := by
  have hS : Six (w.alloc (.cells #[.int .i64 c, .int .i64 t, .int .i64 x, .int .i64 m, .int .i64 k, .int .i64 e] 23)) w.heap.size (Sp.at ⟨c, t, x, m, k, e⟩) := Six.new w ⟨c, t, x, m, k, e⟩
  obtain ⟨a, ha⟩ : ∃ a, atV ⟨c, t, x, m, k, e⟩ p = a := ⟨_, rfl⟩
  rw [ha] at h
  have HA : Hid (atV ⟨c, t, x, m, k, e⟩ p = a) := ha
  clear ha
  have h0 : (a == 0) = false := by simp; omega
  by_cases g0 : f < 0
  · clear hu
    go_enter Try.func7, Try.ntmps7
    go_wp2_with fail
    refine (awake8_any _).mono ?_
    rintro r w1 ⟨rfl, hb1⟩
    have hS1 := hS.later hb1
    replace hb1 : Below w.heap.size w w1 := ((Below.refl _ _).alloc (by simp) _).trans (hb1.mono (by simp))
    obtain ⟨a0, a1, a2, a3, a4, a5, b0, b1, b2, b3, b4, b5⟩ := hS1.sp
    clear hS b0 b1 b2 b3 b4 b5
    go_wp2_with fail
    refine (at_any c t x m k e p _).mono ?_
    rintro r w2 ⟨rfl, hb2⟩
    rw [HA.out]
    have hS2 := hS1.later hb2
    replace hb2 := hb1.trans (hb2.mono hb1.size)
    clear hS1 hb1 a0 a1 a2 a3 a4 a5
    obtain ⟨a0, a1, a2, a3, a4, a5, b0, b1, b2, b3, b4, b5⟩ := hS2.sp
    clear b0 b1 b2 b3 b4 b5
    go_wp2_with fail
    go_ret
    exact ⟨by first | rfl | exact ret_b (by simp) | exact ret_b (decide_eq_true (by omega)), hb2⟩
  · have g0' := Int.not_lt.1 g0
    by_cases g1 : d < f
    · clear hu
      go_enter Try.func7, Try.ntmps7
      go_wp2_with fail
      refine (awake8_any _).mono ?_
      rintro r w1 ⟨rfl, hb1⟩
      have hS1 := hS.later hb1
      replace hb1 : Below w.heap.size w w1 := ((Below.refl _ _).alloc (by simp) _).trans (hb1.mono (by simp))
      obtain ⟨a0, a1, a2, a3, a4, a5, b0, b1, b2, b3, b4, b5⟩ := hS1.sp
      clear hS b0 b1 b2 b3 b4 b5
      go_wp2_with fail
      refine (at_any c t x m k e p _).mono ?_
      rintro r w2 ⟨rfl, hb2⟩
      rw [HA.out]
      have hS2 := hS1.later hb2
      replace hb2 := hb1.trans (hb2.mono hb1.size)
      clear hS1 hb1 a0 a1 a2 a3 a4 a5
      obtain ⟨a0, a1, a2, a3, a4, a5, b0, b1, b2, b3, b4, b5⟩ := hS2.sp
      clear b0 b1 b2 b3 b4 b5
      go_wp2_with fail
      go_ret
      exact ⟨by first | rfl | exact ret_b (by simp) | exact ret_b (decide_eq_true (by omega)), hb2⟩
    · have g1' := Int.not_lt.1 g1
      by_cases g2 : u < d
      · clear hu
        go_enter Try.func7, Try.ntmps7
        go_wp2_with fail
        refine (awake8_any _).mono ?_
        rintro r w1 ⟨rfl, hb1⟩
        have hS1 := hS.later hb1
        replace hb1 : Below w.heap.size w w1 := ((Below.refl _ _).alloc (by simp) _).trans (hb1.mono (by simp))
        obtain ⟨a0, a1, a2, a3, a4, a5, b0, b1, b2, b3, b4, b5⟩ := hS1.sp
        clear hS b0 b1 b2 b3 b4 b5
        go_wp2_with fail
        refine (at_any c t x m k e p _).mono ?_
        rintro r w2 ⟨rfl, hb2⟩
        rw [HA.out]
        have hS2 := hS1.later hb2
        replace hb2 := hb1.trans (hb2.mono hb1.size)
        clear hS1 hb1 a0 a1 a2 a3 a4 a5
        obtain ⟨a0, a1, a2, a3, a4, a5, b0, b1, b2, b3, b4, b5⟩ := hS2.sp
        clear b0 b1 b2 b3 b4 b5
        go_wp2_with fail
        go_ret
        exact ⟨by first | rfl | exact ret_b (by simp) | exact ret_b (decide_eq_true (by omega)), hb2⟩
      · have g2' := Int.not_lt.1 g2
        by_cases g3 : 1000000 < u
        · clear hu
          go_enter Try.func7, Try.ntmps7
          go_wp2_with fail
          refine (awake8_any _).mono ?_
          rintro r w1 ⟨rfl, hb1⟩
          have hS1 := hS.later hb1
          replace hb1 : Below w.heap.size w w1 := ((Below.refl _ _).alloc (by simp) _).trans (hb1.mono (by simp))
          obtain ⟨a0, a1, a2, a3, a4, a5, b0, b1, b2, b3, b4, b5⟩ := hS1.sp
          clear hS b0 b1 b2 b3 b4 b5
          go_wp2_with fail
          refine (at_any c t x m k e p _).mono ?_
          rintro r w2 ⟨rfl, hb2⟩
          rw [HA.out]
          have hS2 := hS1.later hb2
          replace hb2 := hb1.trans (hb2.mono hb1.size)
          clear hS1 hb1 a0 a1 a2 a3 a4 a5
          obtain ⟨a0, a1, a2, a3, a4, a5, b0, b1, b2, b3, b4, b5⟩ := hS2.sp
          clear b0 b1 b2 b3 b4 b5
          go_wp2_with fail
          go_ret
          exact ⟨by first | rfl | exact ret_b (by simp) | exact ret_b (decide_eq_true (by omega)), hb2⟩
        · have g3' := Int.not_lt.1 g3
          have g4 : 5000 < u - f := by omega
          clear hu
          go_enter Try.func7, Try.ntmps7
          go_wp2_with fail
          refine (awake8_any _).mono ?_
          rintro r w1 ⟨rfl, hb1⟩
          have hS1 := hS.later hb1
          replace hb1 : Below w.heap.size w w1 := ((Below.refl _ _).alloc (by simp) _).trans (hb1.mono (by simp))
          obtain ⟨a0, a1, a2, a3, a4, a5, b0, b1, b2, b3, b4, b5⟩ := hS1.sp
          clear hS b0 b1 b2 b3 b4 b5
          go_wp2_with fail
          refine (at_any c t x m k e p _).mono ?_
          rintro r w2 ⟨rfl, hb2⟩
          rw [HA.out]
          have hS2 := hS1.later hb2
          replace hb2 := hb1.trans (hb2.mono hb1.size)
          clear hS1 hb1 a0 a1 a2 a3 a4 a5
          obtain ⟨a0, a1, a2, a3, a4, a5, b0, b1, b2, b3, b4, b5⟩ := hS2.sp
          clear b0 b1 b2 b3 b4 b5
          go_wp2_with fail
          go_ret
          exact ⟨by first | rfl | exact ret_b (by simp) | exact ret_b (decide_eq_true (by omega)), hb2⟩

set_option maxHeartbeats 4000000 in
set_option maxRecDepth 100000 in
theorem ptwo_in (w : World) (hm : maySp ⟨c, t, x, m, k, e⟩ = true) (p0 : t ≤ p) (p1 : p ≤ x) (n0 : 0 ≤ f) (n1 : f ≤ d) (n2 : d ≤ u) (n3 : u ≤ 1000000) (n4 : u - f ≤ 5000) :
    Calls Try.prog 7 #[.agg #[.int .i64 c, .int .i64 t, .int .i64 x, .int .i64 m, .int .i64 k, .int .i64 e], .int .i64 p, .int .i64 f, .int .i64 d, .int .i64 u] w fun r w' => r = .returned (.bool true) ∧ Below w.heap.size w w' := by
  have hS : Six (w.alloc (.cells #[.int .i64 c, .int .i64 t, .int .i64 x, .int .i64 m, .int .i64 k, .int .i64 e] 23)) w.heap.size (Sp.at ⟨c, t, x, m, k, e⟩) := Six.new w ⟨c, t, x, m, k, e⟩
  obtain ⟨a, ha⟩ : ∃ a, atV ⟨c, t, x, m, k, e⟩ p = a := ⟨_, rfl⟩
  have h1 : 1 ≤ a := by rw [← ha]; exact (at_pos hm p0 p1).1
  have HA : Hid (atV ⟨c, t, x, m, k, e⟩ p = a) := ha
  clear ha
  have h0 : (a == 0) = false := by simp; omega
  obtain ⟨c0, c1, f2, f3, f4, _⟩ := may_facts hm
  simp only at c0 c1 f2 f3 f4
  have q0 : 1 ≤ p := by omega
  have q1 : p ≤ 48 := by omega
  have hE : ∀ f' u', 0 ≤ f' → f' ≤ u' → u' ≤ 1000000 → u' - f' ≤ 5000 → endsL ⟨c, t, x, m, k, e⟩ p f' u' = lst7 (endN p f' u') (rn (f' + p) p) := fun f' u' k0 k1 k2 k3 => ends_yes (show endB _ p f' u' = true by unfold endB; rw [hm, show wiB p t x = true from decide_eq_true ⟨p0, p1⟩, show nearB f' u' = true from decide_eq_true ⟨k0, k1, by omega, k3⟩]; rfl)
  have hNp := end_le q0 n1
  have hNp0 : 0 ≤ (endN p f d : Int) * p := Int.mul_nonneg (by omega) (by omega)
  have hE1 := hE f d n0 n1 (by omega) (by omega)
  have hE2 := hE (f + endN p f d * p) u (by omega) (by omega) n3 (by omega)
  have hE3 := hE f u n0 (by omega) n3 n4
  have hT := two_eq q0 n1 n2
  rw [← hE2, ← hE3] at hT
  have hlen := ends_len ⟨c, t, x, m, k, e⟩ p f u
  have hxl : ((allL ⟨c, t, x, m, k, e⟩).length : Int) = x - t + 1 := by rw [all_yes hm, per_length]; exact per_len hm
  obtain ⟨L, hL⟩ : ∃ L, (allL ⟨c, t, x, m, k, e⟩).length = L := ⟨_, rfl⟩
  rw [hL] at hxl
  obtain ⟨zs, hzs⟩ : ∃ zs, endsL ⟨c, t, x, m, k, e⟩ p f u = zs := ⟨_, rfl⟩
  obtain ⟨ys, hys⟩ : ∃ ys, endsL ⟨c, t, x, m, k, e⟩ p (f + endN p f d * p) u = ys := ⟨_, rfl⟩
  rw [hzs, hys] at hT
  rw [hzs] at hlen
  have hsum := congrArg List.length hT
  rw [List.length_append, lst7_len] at hsum
  have HZ : Hid (endsL ⟨c, t, x, m, k, e⟩ p f u = zs) := hzs
  have HL : Hid ((allL ⟨c, t, x, m, k, e⟩).length = L) := hL
  have e0 : ((L : Int) == x - t + 1) = true := by simp; omega
  have e1 : IntKind.i64.wrap (x - t) = x - t := by rw [IntKind.wrap_i64]; omega
  have e2 : IntKind.i64.wrap (x - t + 1) = x - t + 1 := by rw [IntKind.wrap_i64]; omega
  clear hm hE hE2 hE3 hL hzs hxl
  obtain ⟨M, hM⟩ : ∃ M, endN p f d = M := ⟨_, rfl⟩
  rw [hM] at hNp hNp0 hE1 hT hsum hys
  clear hM
  cases M with
  | zero =>
    have hg : f + ((0 : Nat) : Int) * p = f := by simp
    rw [hg] at hys
    clear hg hNp hNp0
    go_enter Try.func7, Try.ntmps7
    go_wp2_with fail
    refine (awake8_any _).mono ?_
    rintro r w1 ⟨rfl, hb1⟩
    have hS1 := hS.later hb1
    replace hb1 : Below w.heap.size w w1 := ((Below.refl _ _).alloc (by simp) _).trans (hb1.mono (by simp))
    obtain ⟨a0, a1, a2, a3, a4, a5, b0, b1, b2, b3, b4, b5⟩ := hS1.sp
    clear hS b0 b1 b2 b3 b4 b5
    go_wp2_with fail
    refine (at_any c t x m k e p _).mono ?_
    rintro r w2 ⟨rfl, hb2⟩
    rw [HA.out]
    have hS2 := hS1.later hb2
    replace hb2 := hb1.trans (hb2.mono hb1.size)
    clear hS1 hb1 a0 a1 a2 a3 a4 a5
    obtain ⟨a0, a1, a2, a3, a4, a5, b0, b1, b2, b3, b4, b5⟩ := hS2.sp
    clear b0 b1 b2 b3 b4 b5
    go_wp2_with fail
    refine (perEnds_any c t x m k e p f d _).mono ?_
    rintro r w3 ⟨v1, rfl, hv1, hb3⟩
    have hS3 := hS2.later hb3
    replace hb3 := hb2.trans (hb3.mono hb2.size)
    clear hS2 hb2 a0 a1 a2 a3 a4 a5
    obtain ⟨a0, a1, a2, a3, a4, a5, b0, b1, b2, b3, b4, b5⟩ := hS3.sp
    clear b0 b1 b2 b3 b4 b5
    rw [hE1] at hv1
    have HN1 : Hid (Nums w3 v1 (lst7 0 (rn (f + p) p)) ∧ NilCap v1) := ⟨hv1.nums, hv1.cap⟩
    obtain ⟨ad, cap, hva, k1, k2, k3⟩ := nums_open hv1.nums
    have HVA : Hid (v1 = .slice ad 0 cap) := hva
    clear hv1 hE1
    subst hva
    clear HVA k3
    go_wp2_with fail
    refine (perEnds_any c t x m k e p (f) u _).mono ?_
    rintro r w4 ⟨v2, rfl, hv2, hb4⟩
    have hS4 := hS3.later hb4
    have hb4' := hb4
    replace hb4 := hb3.trans (hb4.mono hb3.size)
    clear hS3 hb3 a0 a1 a2 a3 a4 a5
    rw [hys] at hv2
    have hn2 := hv2.nums
    have hc2 := hv2.cap
    have HV2 : Hid (Nums w4 v2 ys ∧ NilCap v2) := ⟨hn2, hc2⟩
    have HV1 : Hid (Nums w4 (.slice ad 0 cap) (lst7 0 (rn (f + p) p)) ∧ NilCap (.slice ad 0 cap)) := ⟨HN1.out.1.later hb4', HN1.out.2⟩
    clear hn2 hc2 hv2 hb4' HN1
    have MK : Hid (∀ w' : World, Below w4.heap.size w4 w' → (w'.cell? ⟨w.heap.size, 0, none⟩ = some (.int .i64 c) ∧ w'.cell? ⟨w.heap.size, 1, none⟩ = some (.int .i64 t) ∧ w'.cell? ⟨w.heap.size, 2, none⟩ = some (.int .i64 x) ∧ w'.cell? ⟨w.heap.size, 3, none⟩ = some (.int .i64 m) ∧ w'.cell? ⟨w.heap.size, 4, none⟩ = some (.int .i64 k) ∧ w'.cell? ⟨w.heap.size, 5, none⟩ = some (.int .i64 e)) ∧ Below w4.heap.size w4 w') := by
      intro w' hb
      obtain ⟨x0, x1, x2, x3, x4, x5, _⟩ := (hS4.later hb).sp
      exact ⟨⟨x0, x1, x2, x3, x4, x5⟩, hb⟩
    clear hS4
    have HT : Hid (lst7 0 (rn (f + p) p) ++ ys = zs) := hT
    have HLN : Hid (zs.length ≤ 100000) := hlen
    have l1 : 0 + (lst7 0 (rn (f + p) p)).length ≤ 100000 := by rw [lst7_len]; omega
    have l2 : 0 + (lst7 0 (rn (f + p) p)).length + ys.length ≤ 100000 := by rw [lst7_len]; omega
    have HLL : Hid (0 + (lst7 0 (rn (f + p) p)).length ≤ 100000 ∧ 0 + (lst7 0 (rn (f + p) p)).length + ys.length ≤ 100000) := ⟨l1, l2⟩
    clear hT hlen l1 l2
    obtain ⟨xs, hxs⟩ : ∃ xs, lst7 0 (rn (f + p) p) = xs := ⟨_, rfl⟩
    rw [hxs] at HV1 HT HLL
    clear hxs hsum
    go_wp2_with fail
    go_region_held3 (fun w' => (w'.cell? ⟨w.heap.size, 0, none⟩ = some (.int .i64 c) ∧ w'.cell? ⟨w.heap.size, 1, none⟩ = some (.int .i64 t) ∧ w'.cell? ⟨w.heap.size, 2, none⟩ = some (.int .i64 x) ∧ w'.cell? ⟨w.heap.size, 3, none⟩ = some (.int .i64 m) ∧ w'.cell? ⟨w.heap.size, 4, none⟩ = some (.int .i64 k) ∧ w'.cell? ⟨w.heap.size, 5, none⟩ = some (.int .i64 e)) ∧ Below w4.heap.size w4 w')
      (first | exact MK.out _ (bstep (by assumption) (sBel (by assumption))) | exact MK.out _ ((sBel (by assumption)).trans (by assumption)) | exact MK.out _ (Below.refl _ _).drew)
      (first
      | (have hown8 := hown5; refine step_append_nums (by rfl) _ _ (by rfl) w4.heap.size v5 v2 (0 + xs.length) ([] ++ xs) ys (by rfl) hown8 (by rfl) (HV2.out.1.later (sBel (by assumption))) HV2.out.2 HLL.out.2 (sBel (by assumption)).size ?_; intro v6 w6 hown6 hb6; have hr6 := (Nums.own hown6).1; rw [List.nil_append, HT.out] at hr6)
      | (refine step_append_nums (by rfl) _ _ (by rfl) w4.heap.size (.slice none 0 0) (.slice ad 0 cap) 0 [] xs (by rfl) (World.ownsRow_nil _ _ _ _) (by rfl) (HV1.out.1.later (sBel (by assumption))) HV1.out.2 HLL.out.1 (sBel (by assumption)).size ?_; intro v5 w5 hown5 hb5)
      | (go_at_call 14; refine (perEnds_any c t x m k e p f u _).mono ?_; rintro r w7 ⟨v7, rfl, hv7, hb7⟩; rw [HZ.out] at hv7; have hr7 := hv7.nums; have hr8 := hr6.later hb7)
      | (go_at_call 11; refine (ints_self zs v6 v7 _ hr8 hr7 HLN.out).mono ?_; rintro r w8 ⟨rfl, hb8⟩)
      | (go_at_call 12; refine (perAll_any c t x m k e _).mono ?_; rintro r w9 ⟨v9, rfl, hv9, hb9⟩; obtain ⟨a9, cap9, hv9', _⟩ := hv9.nums; rw [HL.out] at hv9'; subst hv9'))
    all_goals
      go_wp2
      go_ret
      exact ⟨by first | rfl | exact ret_b e0 | exact ret_b (by simpa [e1, e2] using e0), hb4.trans ((sBel (by assumption)).mono hb4.size)⟩
  | succ n =>
    obtain ⟨y, hy⟩ : ∃ y, f + ((n + 1 : Nat) : Int) * p = y := ⟨_, rfl⟩
    have ey : rn (f + p) p n = y := by rw [← hy]; unfold rn; rw [Int.natCast_add, Int.add_mul]; simp; omega
    rw [hy] at hys
    have HY : Hid (f + ((n + 1 : Nat) : Int) * p = y) := hy
    have y0 : 0 ≤ y := by omega
    have y1 : y ≤ 1000000 := by omega
    clear hy hNp hNp0
    go_enter Try.func7, Try.ntmps7
    go_wp2_with fail
    refine (awake8_any _).mono ?_
    rintro r w1 ⟨rfl, hb1⟩
    have hS1 := hS.later hb1
    replace hb1 : Below w.heap.size w w1 := ((Below.refl _ _).alloc (by simp) _).trans (hb1.mono (by simp))
    obtain ⟨a0, a1, a2, a3, a4, a5, b0, b1, b2, b3, b4, b5⟩ := hS1.sp
    clear hS b0 b1 b2 b3 b4 b5
    go_wp2_with fail
    refine (at_any c t x m k e p _).mono ?_
    rintro r w2 ⟨rfl, hb2⟩
    rw [HA.out]
    have hS2 := hS1.later hb2
    replace hb2 := hb1.trans (hb2.mono hb1.size)
    clear hS1 hb1 a0 a1 a2 a3 a4 a5
    obtain ⟨a0, a1, a2, a3, a4, a5, b0, b1, b2, b3, b4, b5⟩ := hS2.sp
    clear b0 b1 b2 b3 b4 b5
    go_wp2_with fail
    refine (perEnds_any c t x m k e p f d _).mono ?_
    rintro r w3 ⟨v1, rfl, hv1, hb3⟩
    have hS3 := hS2.later hb3
    replace hb3 := hb2.trans (hb3.mono hb2.size)
    clear hS2 hb2 a0 a1 a2 a3 a4 a5
    obtain ⟨a0, a1, a2, a3, a4, a5, b0, b1, b2, b3, b4, b5⟩ := hS3.sp
    clear b0 b1 b2 b3 b4 b5
    rw [hE1] at hv1
    have HN1 : Hid (Nums w3 v1 (lst7 (n + 1) (rn (f + p) p)) ∧ NilCap v1) := ⟨hv1.nums, hv1.cap⟩
    obtain ⟨ad, cap, hva, k1, k2, k3⟩ := nums_open hv1.nums
    have HVA : Hid (v1 = .slice ad (n + 1) cap) := hva
    clear hv1 hE1
    subst hva
    clear HVA
    obtain ⟨bk, off, rfl, k4⟩ := k3 (by omega)
    have cj := k4 n (by omega)
    rw [ey] at cj
    clear k3 k4 ey
    have i1 : (0 : Int) < (n : Int) + 1 := by omega
    go_wp2_with fail
    refine (perEnds_any c t x m k e p (y) u _).mono ?_
    rintro r w4 ⟨v2, rfl, hv2, hb4⟩
    have hS4 := hS3.later hb4
    have hb4' := hb4
    replace hb4 := hb3.trans (hb4.mono hb3.size)
    clear hS3 hb3 a0 a1 a2 a3 a4 a5
    rw [hys] at hv2
    have hn2 := hv2.nums
    have hc2 := hv2.cap
    have HV2 : Hid (Nums w4 v2 ys ∧ NilCap v2) := ⟨hn2, hc2⟩
    have HV1 : Hid (Nums w4 (.slice (some ⟨bk, off, none⟩) (n + 1) cap) (lst7 (n + 1) (rn (f + p) p)) ∧ NilCap (.slice (some ⟨bk, off, none⟩) (n + 1) cap)) := ⟨HN1.out.1.later hb4', HN1.out.2⟩
    clear hn2 hc2 hv2 hb4' HN1
    have MK : Hid (∀ w' : World, Below w4.heap.size w4 w' → (w'.cell? ⟨w.heap.size, 0, none⟩ = some (.int .i64 c) ∧ w'.cell? ⟨w.heap.size, 1, none⟩ = some (.int .i64 t) ∧ w'.cell? ⟨w.heap.size, 2, none⟩ = some (.int .i64 x) ∧ w'.cell? ⟨w.heap.size, 3, none⟩ = some (.int .i64 m) ∧ w'.cell? ⟨w.heap.size, 4, none⟩ = some (.int .i64 k) ∧ w'.cell? ⟨w.heap.size, 5, none⟩ = some (.int .i64 e)) ∧ Below w4.heap.size w4 w') := by
      intro w' hb
      obtain ⟨x0, x1, x2, x3, x4, x5, _⟩ := (hS4.later hb).sp
      exact ⟨⟨x0, x1, x2, x3, x4, x5⟩, hb⟩
    clear hS4
    have HT : Hid (lst7 (n + 1) (rn (f + p) p) ++ ys = zs) := hT
    have HLN : Hid (zs.length ≤ 100000) := hlen
    have l1 : 0 + (lst7 (n + 1) (rn (f + p) p)).length ≤ 100000 := by rw [lst7_len]; omega
    have l2 : 0 + (lst7 (n + 1) (rn (f + p) p)).length + ys.length ≤ 100000 := by rw [lst7_len]; omega
    have HLL : Hid (0 + (lst7 (n + 1) (rn (f + p) p)).length ≤ 100000 ∧ 0 + (lst7 (n + 1) (rn (f + p) p)).length + ys.length ≤ 100000) := ⟨l1, l2⟩
    clear hT hlen l1 l2
    obtain ⟨xs, hxs⟩ : ∃ xs, lst7 (n + 1) (rn (f + p) p) = xs := ⟨_, rfl⟩
    rw [hxs] at HV1 HT HLL
    clear hxs hsum
    go_wp2_with fail
    go_region_held3 (fun w' => (w'.cell? ⟨w.heap.size, 0, none⟩ = some (.int .i64 c) ∧ w'.cell? ⟨w.heap.size, 1, none⟩ = some (.int .i64 t) ∧ w'.cell? ⟨w.heap.size, 2, none⟩ = some (.int .i64 x) ∧ w'.cell? ⟨w.heap.size, 3, none⟩ = some (.int .i64 m) ∧ w'.cell? ⟨w.heap.size, 4, none⟩ = some (.int .i64 k) ∧ w'.cell? ⟨w.heap.size, 5, none⟩ = some (.int .i64 e)) ∧ Below w4.heap.size w4 w')
      (first | exact MK.out _ (bstep (by assumption) (sBel (by assumption))) | exact MK.out _ ((sBel (by assumption)).trans (by assumption)) | exact MK.out _ (Below.refl _ _).drew)
      (first
      | (have hown8 := hown5; refine step_append_nums (by rfl) _ _ (by rfl) w4.heap.size v5 v2 (0 + xs.length) ([] ++ xs) ys (by rfl) hown8 (by rfl) (HV2.out.1.later (sBel (by assumption))) HV2.out.2 HLL.out.2 (sBel (by assumption)).size ?_; intro v6 w6 hown6 hb6; have hr6 := (Nums.own hown6).1; rw [List.nil_append, HT.out] at hr6)
      | (refine step_append_nums (by rfl) _ _ (by rfl) w4.heap.size (.slice none 0 0) (.slice (some ⟨bk, off, none⟩) (n + 1) cap) 0 [] xs (by rfl) (World.ownsRow_nil _ _ _ _) (by rfl) (HV1.out.1.later (sBel (by assumption))) HV1.out.2 HLL.out.1 (sBel (by assumption)).size ?_; intro v5 w5 hown5 hb5)
      | (go_at_call 14; refine (perEnds_any c t x m k e p f u _).mono ?_; rintro r w7 ⟨v7, rfl, hv7, hb7⟩; rw [HZ.out] at hv7; have hr7 := hv7.nums; have hr8 := hr6.later hb7)
      | (go_at_call 11; refine (ints_self zs v6 v7 _ hr8 hr7 HLN.out).mono ?_; rintro r w8 ⟨rfl, hb8⟩)
      | (go_at_call 12; refine (perAll_any c t x m k e _).mono ?_; rintro r w9 ⟨v9, rfl, hv9, hb9⟩; obtain ⟨a9, cap9, hv9', _⟩ := hv9.nums; rw [HL.out] at hv9'; subst hv9'))
    all_goals
      go_wp2
      go_ret
      exact ⟨by first | rfl | exact ret_b e0 | exact ret_b (by simpa [e1, e2] using e0), hb4.trans ((sBel (by assumption)).mono hb4.size)⟩

theorem law_ptwo (w : World) : Calls Try.prog 7 #[.agg #[.int .i64 c, .int .i64 t, .int .i64 x, .int .i64 m, .int .i64 k, .int .i64 e], .int .i64 p, .int .i64 f, .int .i64 d, .int .i64 u] w fun r w' => r = .returned (.bool true) ∧ Below w.heap.size w w' := by
  cases h : (maySp ⟨c, t, x, m, k, e⟩ && wiB p t x) with
  | false => exact ptwo_no c t x m k e p f d u w (at_zero h)
  | true =>
    rw [Bool.and_eq_true] at h
    have hp := of_decide_eq_true (show decide (t ≤ p ∧ p ≤ x) = true from h.2)
    by_cases hu : 0 ≤ f ∧ f ≤ d ∧ d ≤ u ∧ u ≤ 1000000 ∧ u - f ≤ 5000
    · exact ptwo_in c t x m k e p f d u w h.1 hp.1 hp.2 hu.1 hu.2.1 hu.2.2.1 hu.2.2.2.1 hu.2.2.2.2
    · exact ptwo_out c t x m k e p f d u w (at_pos h.1 hp.1 hp.2).1 hu
end
end Go.Proofs.Ytociniaaeflokaa
