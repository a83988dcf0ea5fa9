/- Walks of the document's own May and List of a ring; a list that is appended to. -/
import Derived.Test.YtiagcihghalomaaV2
import Derived.Test.YtiagcihghalomaaS4
import Derived.Test.YtiagcihghalomaaA5
import Derived.Laws.AppendOwnNone
namespace Go.Proofs.Ytiagcihghalomaa
open Go.RowKit

theorem bvs_len (xs : List Bool) : (bvs xs).length = xs.length := by simp [bvs]
theorem bvs_app (xs ys : List Bool) : bvs (xs ++ ys) = bvs xs ++ bvs ys := by simp [bvs]
theorem bvs_one (xs : List Bool) : ∀ u ∈ bvs xs, u.oneCell' = true := by
  intro u hu; obtain ⟨t, _, rfl⟩ := List.mem_map.1 hu; rfl

theorem own_cap {w : World} {base n : Nat} {v : Value} {xs : List Value} (h : w.ownsRow base 4 1 v n xs) : ∀ c, v = .slice none 0 c → c = 0 := by
  obtain ⟨_, ⟨rfl, _⟩ | ⟨g, cap, cur, rfl, _⟩⟩ := h
  · intro c hc; simpa using hc.symm
  · intro c hc; simp at hc

/-- One list of bools, the call's own, gets another one behind it. -/
theorem append_row {w : World} {ops : Array Oper} {rest : List Oper} {o : Oper} {act : Act} {Q : Exit → Act → World → Prop} (hgd : o.guard = none) (s x : Operand)
    (ho : o.op = .call { callee := .builtin .append, args := #[s, x], argTypes := #[25, 25] }) (base : Nat) (v u : Value) (n : Nat) (xs ys : List Bool)
    (hs : act.eval s = v) (hown : w.ownsRow base 4 1 v n (bvs xs)) (hx : act.eval x = u) (hr : Row w u ys) (hcap : ∀ c, u = .slice none 0 c → c = 0) (hn : n + ys.length ≤ 100000) (hbase : base ≤ w.heap.size)
    (h : ∀ v' w', w'.ownsRow base 4 1 v' (n + ys.length) (bvs (xs ++ ys)) → Below base w w' → wpList Try.prog ops Q rest (act.put o.dst v') w') : wpList Try.prog ops Q (o :: rest) act w := by
  obtain ⟨i0, hi, hz0, hz1, hz2⟩ := info_parts Try.info4
  have hlow := hown.lt
  obtain ⟨a, cap, rfl, h1, h2, h3⟩ := hr
  have m1 : n + ys.length ≤ maxLen := by unfold maxLen; omega
  cases ys with
  | nil =>
    cases a with
    | none =>
      obtain rfl := hcap cap rfl
      refine wpList_append_own_none hgd s x 25 ho base 4 i0 1 Try.underlying25 hi v n (bvs xs) hs hown hx ?_
      exact h v w (by simpa using hown) (Below.refl _ _)
    | some ad =>
      refine wpList_append_own w hgd s x 25 ho base 4 i0 (.bool false) 1 1 Try.underlying25 hi hz0 hz1 hz2 rfl (by decide) v n (bvs xs) hs hown ad 0 cap [] hx rfl (by simp) (by simp) m1 (by simp; omega) hbase ?_
      intro v' w' g1 g2 _
      exact h v' w' (by simpa using g1) ((Below.refl _ _).grown g2 hbase fun k hk => (hlow k hk).1)
  | cons y ys =>
    obtain ⟨b, oo, rfl, h4⟩ := h3 (by simp)
    refine wpList_append_own w hgd s x 25 ho base 4 i0 (.bool false) 1 1 Try.underlying25 hi hz0 hz1 hz2 rfl (by decide) v n (bvs xs) hs hown ⟨b, oo, none⟩ (y :: ys).length cap (bvs (y :: ys)) hx (by rw [bvs_len]; omega) ?_ (bvs_one _) m1 (by omega) hbase ?_
    · intro j q hq
      unfold bvs at hq
      rw [List.getElem?_map] at hq
      cases hj : (y :: ys)[j]? with
      | none => rw [hj] at hq; simp at hq
      | some z =>
        rw [hj] at hq
        simp at hq
        subst hq
        have := h4 j z hj
        rwa [Go.WideShapes.add_plain]
    · intro v' w' g1 g2 _
      rw [← bvs_app] at g1
      exact h v' w' g1 ((Below.refl _ _).grown g2 hbase fun k hk => (hlow k hk).1)

theorem mayR_iff {N B : Int} (h0 : 0 ≤ N) (h1 : N ≤ 60) (b0 : 0 ≤ B) : decide (B < 2 ^ N.toNat) = mayR N B := by
  unfold mayR
  congr 1
  refine propext ⟨fun h => ⟨h0, h1, Int.ediv_eq_zero_of_lt b0 h⟩, fun h => ?_⟩
  have e := Int.mul_ediv_add_emod B (2 ^ N.toNat)
  have l := Int.emod_lt_of_pos B (two_pow_pos' N.toNat)
  rw [h.2.2, Int.mul_zero] at e; omega

theorem pow_bd {j : Nat} (h : j ≤ 60) : (1 : Int) ≤ 2 ^ j ∧ (2 : Int) ^ j ≤ 1152921504606846976 := by
  have hp : 0 < 2 ^ j := Nat.two_pow_pos j
  have h2 : 2 ^ j ≤ 2 ^ 60 := Nat.pow_le_pow_right (by omega) h
  have e60 : (2 : Nat) ^ 60 = 1152921504606846976 := by decide
  have e1 := pow_cast j
  omega

set_option maxHeartbeats 1000000 in
set_option maxRecDepth 100000 in
theorem refMay3_any (N B : Int) (w : World) (b0 : 0 ≤ B) :
    Calls Try.prog 10 #[.agg #[.int .i64 N, .int .u64 B]] w fun e w' => e = .returned (.bool (mayR N B)) ∧ Below w.heap.size w w' := by
  by_cases c : 0 ≤ N ∧ N ≤ 60
  · obtain ⟨c0, c1⟩ := c
    have H := mayR_iff c0 c1 b0
    obtain ⟨n, rfl⟩ := Int.eq_ofNat_of_zero_le c0
    rw [Int.toNat_natCast] at H
    have HM : Hid (decide (B < 2 ^ n) = mayR n B) := H
    clear H
    go_enter Try.func10, Try.ntmps10
    go_wp2_with fail
    go_loop [3, 4] (fun x i => ∃ (j : Nat), j ≤ n ∧ x = .int .u64 (2 ^ j) ∧ i = .int .i64 j) (fun _ i => ((n : Int) - intOf i).toNat)
    case atStart => exact ⟨0, by omega, rfl, rfl⟩
    case round =>
      obtain ⟨j, hj, rfl, rfl⟩ := hrel
      obtain ⟨p0, p1⟩ := pow_bd (show j ≤ 60 by omega)
      have HP : Hid ((2 : Int) ^ j * 2 = 2 ^ (j + 1)) := by show _ = _; rw [Int.pow_succ]
      by_cases hlt : (j : Int) < n
      · generalize hx : (2 : Int) ^ j = x at *
        clear hx
        go_wp2_with fail
        go_round
        case rel => exact ⟨j + 1, by omega, by rw [← HP.out], by go_num⟩
        case measure => simp [intOf]; omega
      · obtain rfl : j = n := by omega
        generalize hx : (2 : Int) ^ j = x at *
        clear hx
        go_wp2_with fail
        go_ret
        exact ⟨ret_b HM.out, (Below.refl _ _).alloc (by simp) _⟩
  · have HM : Hid (mayR N B = false) := by show _ = _; unfold mayR; exact decide_eq_false (fun h => c ⟨h.1, h.2.1⟩)
    rcases (show N < 0 ∨ 60 < N by omega) with d | d
    all_goals
      clear c
      go_enter Try.func10, Try.ntmps10
      go_wp2
      go_ret
      exact ⟨ret_b HM.out.symm, (Below.refl _ _).alloc (by simp) _⟩
end Go.Proofs.Ytiagcihghalomaa
