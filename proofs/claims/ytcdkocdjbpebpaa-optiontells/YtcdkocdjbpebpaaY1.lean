/- Texts that belong together, one behind the other: S3, T1, T2, T3, T5, V5. -/
import Derived.Test.YtcdkocdjbpebpaaV2
import Derived.Test.YtcdkocdjbpebpaaM1
import Derived.Test.YtcdkocdjbpebpaaA1
import Derived.Test.YtcdkocdjbpebpaaA5
import Derived.Laws.AppendOwnNone
import Derived.Test.YtcdkocdjbpebpaaE5
import Derived.Test.YtcdkocdjbpebpaaV1
import Derived.ProofKit
import Derived.OpenShut
import Derived.Carry
import Derived.Lib.SmallJoins
import Derived.Deep.Grids
/- The walk of the statement RingFar: it returns true, and writes nothing that was there. -/
namespace Go.Proofs.Ytcdkocdjbpebpaa
open Go.RowKit

theorem gd_put0 (zs : List Bool) (g : Bool) : gd ((g :: zs).take 60) 0 = g := rfl
theorem gd_put1 (zs : List Bool) (g : Bool) {i : Nat} (h : i < 59) : gd ((g :: zs).take 60) (i + 1) = gd zs i := by
  simp [gd, List.getD, h]
theorem cnt_put (zs : List Bool) (g : Bool) {j : Nat} (h : j < 59) : cnt (gd ((g :: zs).take 60)) 0 (j + 1) = g.toNat + cnt (gd zs) 0 j := by
  rw [cnt_head, gd_put0]
  congr 1
  refine cnt_congr fun i hi => ?_
  rw [Nat.zero_add, Nat.zero_add, Nat.add_comm 1 i, gd_put1 _ _ (by omega)]
theorem cnt_one (f : Nat → Bool) (a n : Nat) : cnt f a (n + 1) ≤ cnt f a n + 1 := by
  have := toNat_lt (f (a + n)); simp only [cnt]; omega

theorem far_bad {zs : List Bool} {m : Int} {k n : Nat} (k0 : 1 ≤ k) (k6 : k ≤ 6) (h : IsFar zs m k n) : IsFar ((false :: zs).take 60) m k (n - 1) := by
  obtain ⟨h0, h1, h2⟩ := h
  rcases Nat.eq_zero_or_pos n with rfl | hn
  · refine ⟨by omega, ?_, fun i hi => by omega⟩
    obtain ⟨j, rfl⟩ : ∃ j, k = j + 1 := ⟨k - 1, by omega⟩
    rw [Nat.zero_sub, Nat.sub_zero, cnt_put _ _ (by omega)]
    have := cnt_mono (gd zs) 0 (show j ≤ j + 1 by omega)
    rw [Nat.sub_zero] at h1
    simp; omega
  · refine ⟨by omega, ?_, fun i hi => ?_⟩
    · rw [show k - (n - 1) = k - n + 1 by omega, cnt_put _ _ (by omega)]; simpa using h1
    · rw [show k - i = k - (i + 1) + 1 by omega, cnt_put _ _ (by omega)]; simpa using h2 (i + 1) (by omega)

theorem far_good {zs : List Bool} {m : Int} {k n n' : Nat} (k6 : k ≤ 6) (h : IsFar zs m k n) (h' : IsFar ((true :: zs).take 60) m k n') : n ≤ n' := by
  obtain ⟨h0, h1, h2⟩ := h
  obtain ⟨g0, g1, g2⟩ := h'
  rcases Nat.lt_or_ge n' n with c | c
  · have a := h2 n' c
    obtain ⟨j, hj⟩ : ∃ j, k - n' = j + 1 := ⟨k - n' - 1, by omega⟩
    rw [hj, cnt_put _ _ (by omega)] at g1
    rw [hj] at a
    have := cnt_one (gd zs) 0 j
    simp at g1; omega
  · exact c

theorem far_zero {zs : List Bool} {m : Int} {k n : Nat} (h : IsFar zs m k n) : (n = 0 ↔ (cnt (gd zs) 0 k : Int) < m) := by
  obtain ⟨h0, h1, h2⟩ := h
  constructor
  · rintro rfl; simpa using h1
  · intro hc
    rcases Nat.eq_zero_or_pos n with h | h
    · exact h
    · have := h2 0 h; simp at this; omega
end Go.Proofs.Ytcdkocdjbpebpaa
/- Walks of the document's own May and List of a ring; a list that is appended to. -/
namespace Go.Proofs.Ytcdkocdjbpebpaa
open Go.RowKit

theorem bvs_len (xs : List Bool) : (bvs xs).length = xs.length := by simp [bvs]
theorem bvs_app (xs ys : List Bool) : bvs (xs ++ ys) = bvs xs ++ bvs ys := by simp [bvs]
theorem bvs_one (xs : List Bool) : ∀ u ∈ bvs xs, u.oneCell' = true := by
  intro u hu; obtain ⟨t, _, rfl⟩ := List.mem_map.1 hu; rfl

theorem own_cap {w : World} {base n : Nat} {v : Value} {xs : List Value} (h : w.ownsRow base 4 1 v n xs) : ∀ c, v = .slice none 0 c → c = 0 := by
  obtain ⟨_, ⟨rfl, _⟩ | ⟨g, cap, cur, rfl, _⟩⟩ := h
  · intro c hc; simpa using hc.symm
  · intro c hc; simp at hc

/-- One list of bools, the call's own, gets another one behind it. -/
theorem append_row {w : World} {ops : Array Oper} {rest : List Oper} {o : Oper} {act : Act} {Q : Exit → Act → World → Prop} (hgd : o.guard = none) (s x : Operand)
    (ho : o.op = .call { callee := .builtin .append, args := #[s, x], argTypes := #[66, 66] }) (base : Nat) (v u : Value) (n : Nat) (xs ys : List Bool)
    (hs : act.eval s = v) (hown : w.ownsRow base 4 1 v n (bvs xs)) (hx : act.eval x = u) (hr : Row w u ys) (hcap : ∀ c, u = .slice none 0 c → c = 0) (hn : n + ys.length ≤ 100000) (hbase : base ≤ w.heap.size)
    (h : ∀ v' w', w'.ownsRow base 4 1 v' (n + ys.length) (bvs (xs ++ ys)) → Below base w w' → wpList Try.prog ops Q rest (act.put o.dst v') w') : wpList Try.prog ops Q (o :: rest) act w := by
  obtain ⟨i0, hi, hz0, hz1, hz2⟩ := info_parts Try.infoBool
  have hlow := hown.lt
  obtain ⟨a, cap, rfl, h1, h2, h3⟩ := hr
  have m1 : n + ys.length ≤ maxLen := by unfold maxLen; omega
  cases ys with
  | nil =>
    cases a with
    | none =>
      obtain rfl := hcap cap rfl
      refine wpList_append_own_none hgd s x 66 ho base 4 i0 1 Try.underlying66 hi v n (bvs xs) hs hown hx ?_
      exact h v w (by simpa using hown) (Below.refl _ _)
    | some ad =>
      refine wpList_append_own w hgd s x 66 ho base 4 i0 (.bool false) 1 1 Try.underlying66 hi hz0 hz1 hz2 rfl (by decide) v n (bvs xs) hs hown ad 0 cap [] hx rfl (by simp) (by simp) m1 (by simp; omega) hbase ?_
      intro v' w' g1 g2 _
      exact h v' w' (by simpa using g1) ((Below.refl _ _).grown g2 hbase fun k hk => (hlow k hk).1)
  | cons y ys =>
    obtain ⟨b, oo, rfl, h4⟩ := h3 (by simp)
    refine wpList_append_own w hgd s x 66 ho base 4 i0 (.bool false) 1 1 Try.underlying66 hi hz0 hz1 hz2 rfl (by decide) v n (bvs xs) hs hown ⟨b, oo, none⟩ (y :: ys).length cap (bvs (y :: ys)) hx (by rw [bvs_len]; omega) ?_ (bvs_one _) m1 (by omega) hbase ?_
    · intro j q hq
      unfold bvs at hq
      rw [List.getElem?_map] at hq
      cases hj : (y :: ys)[j]? with
      | none => rw [hj] at hq; simp at hq
      | some z =>
        rw [hj] at hq
        simp at hq
        subst hq
        have := h4 j z hj
        rwa [Go.WideShapes.add_plain]
    · intro v' w' g1 g2 _
      rw [← bvs_app] at g1
      exact h v' w' g1 ((Below.refl _ _).grown g2 hbase fun k hk => (hlow k hk).1)

theorem mayR_iff {N B : Int} (h0 : 0 ≤ N) (h1 : N ≤ 60) (b0 : 0 ≤ B) : decide (B < 2 ^ N.toNat) = mayR N B := by
  unfold mayR
  congr 1
  refine propext ⟨fun h => ⟨h0, h1, Int.ediv_eq_zero_of_lt b0 h⟩, fun h => ?_⟩
  have e := Int.mul_ediv_add_emod B (2 ^ N.toNat)
  have l := Int.emod_lt_of_pos B (two_pow_pos' N.toNat)
  rw [h.2.2, Int.mul_zero] at e; omega

theorem pow_bd {j : Nat} (h : j ≤ 60) : (1 : Int) ≤ 2 ^ j ∧ (2 : Int) ^ j ≤ 1152921504606846976 := by
  have hp : 0 < 2 ^ j := Nat.two_pow_pos j
  have h2 : 2 ^ j ≤ 2 ^ 60 := Nat.pow_le_pow_right (by omega) h
  have e60 : (2 : Nat) ^ 60 = 1152921504606846976 := by decide
  have e1 := pow_cast j
  omega

set_option maxHeartbeats 1000000 in
set_option maxRecDepth 100000 in
theorem refMay3_any (N B : Int) (w : World) (b0 : 0 ≤ B) :
    Calls Try.prog 52 #[.agg #[.int .i64 N, .int .u64 B]] w fun e w' => e = .returned (.bool (mayR N B)) ∧ Below w.heap.size w w' := by
  by_cases c : 0 ≤ N ∧ N ≤ 60
  · obtain ⟨c0, c1⟩ := c
    have H := mayR_iff c0 c1 b0
    obtain ⟨n, rfl⟩ := Int.eq_ofNat_of_zero_le c0
    rw [Int.toNat_natCast] at H
    have HM : Hid (decide (B < 2 ^ n) = mayR n B) := H
    clear H
    go_enter Try.func52, Try.ntmps52
    go_wp2_with fail
    go_loop [3, 4] (fun x i => ∃ (j : Nat), j ≤ n ∧ x = .int .u64 (2 ^ j) ∧ i = .int .i64 j) (fun _ i => ((n : Int) - intOf i).toNat)
    case atStart => exact ⟨0, by omega, rfl, rfl⟩
    case round =>
      obtain ⟨j, hj, rfl, rfl⟩ := hrel
      obtain ⟨p0, p1⟩ := pow_bd (show j ≤ 60 by omega)
      have HP : Hid ((2 : Int) ^ j * 2 = 2 ^ (j + 1)) := by show _ = _; rw [Int.pow_succ]
      by_cases hlt : (j : Int) < n
      · generalize hx : (2 : Int) ^ j = x at *
        clear hx
        go_wp2_with fail
        go_round
        case rel => exact ⟨j + 1, by omega, by rw [← HP.out], by go_num⟩
        case measure => simp [intOf]; omega
      · obtain rfl : j = n := by omega
        generalize hx : (2 : Int) ^ j = x at *
        clear hx
        go_wp2_with fail
        go_ret
        exact ⟨ret_b HM.out, (Below.refl _ _).alloc (by simp) _⟩
  · have HM : Hid (mayR N B = false) := by show _ = _; unfold mayR; exact decide_eq_false (fun h => c ⟨h.1, h.2.1⟩)
    rcases (show N < 0 ∨ 60 < N by omega) with d | d
    all_goals
      clear c
      go_enter Try.func52, Try.ntmps52
      go_wp2
      go_ret
      exact ⟨ret_b HM.out.symm, (Below.refl _ _).alloc (by simp) _⟩
end Go.Proofs.Ytcdkocdjbpebpaa
/- Walks of the document's own List, Good and what it counts. -/
namespace Go.Proofs.Ytcdkocdjbpebpaa
open Go.RowKit

theorem own_base {w : World} {b b' n : Nat} {e : TypeId} {size : Nat} {v : Value} {xs : List Value} (h : w.ownsRow b' e size v n xs) (hb : b ≤ b') : w.ownsRow b e size v n xs := by
  obtain ⟨h0, h1 | ⟨g, cap, cur, rfl, h2, h3, h4⟩⟩ := h
  · exact ⟨h0, .inl h1⟩
  · exact ⟨h0, .inr ⟨g, cap, cur, rfl, by omega, h3, h4⟩⟩

theorem drop_next {zs : List Bool} {j : Nat} {x : Bool} (h : zs[j]? = some x) : zs.drop j = x :: zs.drop (j + 1) := by
  obtain ⟨hj, rfl⟩ := List.getElem?_eq_some_iff.1 h
  exact List.drop_eq_getElem_cons hj

set_option maxHeartbeats 1000000 in
set_option maxRecDepth 100000 in
theorem refList_any (N B : Int) (w : World) (b0 : 0 ≤ B) :
    Calls Try.prog 40 #[.agg #[.int .i64 N, .int .u64 B]] w fun e w' => ∃ v, e = .returned v ∧ w'.ownsRow w.heap.size 4 1 v (ringOf N B).length (bvs (ringOf N B).reverse) ∧ Below w.heap.size w w' := by
  cases h : mayR N B
  · have H : Hid (mayR N B = false) := h
    have H0 : Hid (ringOf N B = []) := ringOf_no h
    clear h
    go_enter Try.func40, Try.ntmps40
    go_wp2_with fail
    refine (refMay3_any _ _ _ b0).mono ?_
    rintro e w1 ⟨rfl, hb1⟩
    rw [H.out]
    go_wp2
    go_ret
    exact ⟨_, rfl, by rw [H0.out]; exact World.ownsRow_nil _ _ _ _, ((Below.refl _ _).alloc (by simp) _).trans (hb1.mono (by simp))⟩
  · have H : Hid (mayR N B = true) := h
    obtain ⟨e1, e2⟩ := ring_open h b0
    have hl := ringOf_len N B
    clear h
    generalize hz : ringOf N B = zs at *
    have HZ : Hid (ringOf N B = zs) := hz
    clear hz
    subst e1 e2
    have hv := val_bd hl
    go_enter Try.func40, Try.ntmps40
    go_wp2_with fail
    refine (refMay3_any _ _ _ b0).mono ?_
    rintro e w1 ⟨rfl, hb1⟩
    rw [H.out]
    have c0 : w1.cell? ⟨w.heap.size, 0, none⟩ = some (.int .i64 zs.length) := (hb1.cell (p := ⟨w.heap.size, 0, none⟩) (by simp)).trans (by simp)
    have c1 : w1.cell? ⟨w.heap.size, 1, none⟩ = some (.int .u64 (val zs)) := (hb1.cell (p := ⟨w.heap.size, 1, none⟩) (by simp)).trans (by simp)
    have hb : Below w.heap.size w w1 := ((Below.refl _ _).alloc (by simp) _).trans (hb1.mono (by simp))
    have s1 := hb.size
    clear hb1
    go_wp2_with fail
    go_loopw [3, 5, 6] (fun u x i wr => ∃ (j : Nat), j ≤ zs.length ∧ x = .int .u64 (val (zs.drop j)) ∧ i = .int .i64 j ∧ wr.ownsRow w1.heap.size 4 1 u j (bvs (zs.take j).reverse) ∧ Below w1.heap.size w1 wr) (fun _ _ i _ => ((zs.length : Int) - intOf i).toNat)
    case atStart => exact ⟨0, by omega, rfl, rfl, by simpa [bvs] using World.ownsRow_nil _ _ _ _, Below.refl _ _⟩
    case round =>
      obtain ⟨j, hj, rfl, rfl, hown, hbw⟩ := hrel
      have e0 := cell_later hbw c0
      have s3 := hbw.size
      by_cases hlt : (j : Int) < zs.length
      · obtain ⟨x, hxj⟩ : ∃ x, zs[j]? = some x := ⟨_, List.getElem?_eq_getElem (by omega)⟩
        have hd := drop_next hxj
        have HT : Hid ((zs.take (j + 1)).reverse = [x] ++ (zs.take j).reverse) := by show _ = _; rw [take_next hxj]; simp
        have hdl := val_bd (zs := zs.drop j) (by simp; omega)
        have hx2 := toNat_lt x
        have hm : ((val (zs.drop j) : Int) % 2 == 1) = x := by
          rw [hd]; simp only [val]; cases x <;> simp <;> omega
        have hq : (val (zs.drop j) : Int) / 2 = val (zs.drop (j + 1)) := by
          rw [hd]; simp only [val]; omega
        clear hd hxj
        generalize zs.drop j = dj at *
        have hown1 := hown.alloc (.cells #[.bool x] 4)
        have hown2 := World.ownsRow_lit (base := w1.heap.size) (e := 4) (size := 1) wr #[.bool x] 1 s3 (by unfold maxLen; omega) rfl
        have hrow := Row.own hown1 (by simp; omega)
        have hcap := own_cap hown1
        clear hown
        go_wp2_with (first
          | (at_builtin; refine append_row rfl _ _ rfl w1.heap.size _ _ 1 [x] _ rfl hown2 rfl hrow hcap (by simp; omega) (by simp; omega) ?_))
        intro v' w4 hown' hb4
        have hown4 : w4.ownsRow w1.heap.size 4 1 v' (j + 1) (bvs (zs.take (j + 1)).reverse) := by
          rw [HT.out, Nat.add_comm j 1]; exact hown'
        have hb5 : Below w1.heap.size w1 w4 := (hbw.alloc s3 _).trans hb4
        clear hown' hown1 hown2 hrow hcap
        go_wp2_with fail
        go_roundw
        case rel => exact ⟨j + 1, by omega, rfl, by go_num, hown4, hb5⟩
        case measure => simp [intOf]; omega
      · obtain rfl : j = zs.length := by omega
        rw [List.take_length] at hown
        go_wp2_with fail
        go_ret
        exact ⟨_, rfl, own_base hown s1, hb.trans (hbw.mono s1)⟩

/-- How many of a list's last n are good. -/
def lastG (ls : List Bool) (n : Int) (j : Nat) : Nat := cnt (fun i => ls.getD i false && decide ((ls.length : Int) - n ≤ i)) 0 j

set_option maxHeartbeats 1000000 in
set_option maxRecDepth 100000 in
theorem refCount3_any (ls : List Bool) (v : Value) (n : Int) (w : World) (h : Row w v ls) (hl : ls.length ≤ 1000) (n0 : 0 ≤ n) (n1 : n ≤ 1000) :
    Calls Try.prog 41 #[v, .int .i64 n] w fun e w' => e = .returned (.int .i64 (lastG ls n ls.length)) ∧ w' = w := by
  obtain ⟨a, cap, rfl, r1, r2, r3⟩ := h
  unfold maxLen at r2
  go_enter Try.func41, Try.ntmps41
  go_wp2_with fail
  go_loop [5, 6] (fun x i => ∃ (j : Nat), j ≤ ls.length ∧ x = .int .i64 (lastG ls n j) ∧ i = .int .i64 j) (fun _ i => ((ls.length : Int) - intOf i).toNat)
  case atStart => exact ⟨0, by omega, rfl, rfl⟩
  case round =>
    obtain ⟨j, hj, rfl, rfl⟩ := hrel
    have hg : lastG ls n j ≤ j := cnt_le _ _ _
    by_cases hlt : (j : Int) < ls.length
    · obtain ⟨b, o, rfl, r4⟩ := r3 (by intro e; rw [e, List.length_nil] at hlt; omega)
      obtain ⟨x, hxj⟩ : ∃ x, ls[j]? = some x := ⟨_, List.getElem?_eq_getElem (by omega)⟩
      have hc := r4 j x hxj
      have HS : Hid (lastG ls n (j + 1) = lastG ls n j + (x && decide ((ls.length : Int) - n ≤ j)).toNat) := by
        show _ = _; simp only [lastG, cnt]; rw [Nat.zero_add]; simp [List.getD, hxj]
      clear r3 r4 hxj
      generalize lastG ls n j = q at *
      by_cases hge : (ls.length : Int) - n ≤ j
      · rw [decide_eq_true hge] at HS
        cases x
        · go_wp2_with fail
          go_round
          case rel => exact ⟨j + 1, by omega, by rw [HS.out]; rfl, by go_num⟩
          case measure => simp [intOf]; omega
        · go_wp2_with fail
          go_round
          case rel => exact ⟨j + 1, by omega, by rw [HS.out]; rfl, by go_num⟩
          case measure => simp [intOf]; omega
      · rw [decide_eq_false hge] at HS
        cases x
        · go_wp2_with fail
          go_round
          case rel => exact ⟨j + 1, by omega, by rw [HS.out]; rfl, by go_num⟩
          case measure => simp [intOf]; omega
        · go_wp2_with fail
          go_round
          case rel => exact ⟨j + 1, by omega, by rw [HS.out]; rfl, by go_num⟩
          case measure => simp [intOf]; omega
    · obtain rfl : j = ls.length := by omega
      clear r3
      go_wp2_with fail
      go_ret
      exact ⟨rfl, rfl⟩
end Go.Proofs.Ytcdkocdjbpebpaa
/- Walks of the document's own Of, Put and Good. -/
namespace Go.Proofs.Ytcdkocdjbpebpaa
open Go.RowKit

theorem cnt_rev (f : Nat → Bool) (n : Nat) : cnt f 0 n = cnt (fun i => f (n - 1 - i)) 0 n := by
  induction n with
  | zero => rfl
  | succ n ih =>
    rw [cnt_head (fun i => f (n + 1 - 1 - i)) 0 n, cnt, ih]
    simp only [Nat.zero_add, Nat.add_sub_cancel, Nat.sub_zero]
    rw [Nat.add_comm]
    congr 1
    refine cnt_congr fun i hi => ?_
    simp only [Nat.zero_add]
    congr 1; omega

theorem cnt_under (f : Nat → Bool) (n k : Nat) : cnt (fun i => f i && decide (i < n)) 0 k = cnt f 0 (min n k) := by
  induction k with
  | zero => simp [cnt]
  | succ k ih =>
    rw [cnt, ih]
    rcases Nat.lt_or_ge k n with h | h
    · rw [show min n (k + 1) = min n k + 1 by omega, cnt, show min n k = k by omega]; simp [h]
    · rw [show min n (k + 1) = min n k by omega]; simp; intro _; omega

theorem lastG_eq (ls : List Bool) (n : Nat) : lastG ls n ls.length = cnt (gd ls.reverse) 0 (min n ls.length) := by
  unfold lastG
  rw [cnt_rev, ← cnt_under]
  refine cnt_congr fun i hi => ?_
  simp only [Nat.zero_add]
  have e : ls.getD (ls.length - 1 - i) false = gd ls.reverse i := by
    unfold gd
    rw [List.getD, List.getD, List.getElem?_reverse hi, List.getElem?_eq_getElem (by omega)]; rfl
  rw [e]
  congr 1
  by_cases c : i < n
  · rw [decide_eq_true c, decide_eq_true (by omega)]
  · rw [decide_eq_false c, decide_eq_false (by omega)]
end Go.Proofs.Ytcdkocdjbpebpaa
/- Walks of the document's own Far. -/
namespace Go.Proofs.Ytcdkocdjbpebpaa
open Go.RowKit

set_option maxHeartbeats 1000000 in
set_option maxRecDepth 100000 in
theorem refFar_no (N B m k : Int) (w : World) (h : mayB m k = false) :
    Calls Try.prog 25 #[.agg #[.int .i64 N, .int .u64 B], .int .i64 m, .int .i64 k] w fun e w' => e = .returned (.int .i64 k) ∧ Below w.heap.size w w' := by
  have H1 : Hid (mayB m k = false) := h
  clear h
  go_enter Try.func25, Try.ntmps25
  go_wp2_with fail
  refine (refMay_any _ _ _).mono ?_
  rintro e w0 ⟨rfl, rfl⟩
  rw [H1.out]
  go_wp2
  go_ret
  exact ⟨rfl, (Below.refl _ _).alloc (by simp) _⟩

theorem gd_pad (zs : List Bool) (c b : Nat) : gd (zs ++ List.replicate c true) b = gd zs b := by
  unfold gd
  rw [List.getD, List.getD]
  rcases Nat.lt_or_ge b zs.length with h | h
  · rw [List.getElem?_append_left h]
  · rw [List.getElem?_append_right h, List.getElem?_eq_none h]
    rw [List.getElem?_replicate]; split <;> rfl
theorem gd_bad0 (zs : List Bool) {c b : Nat} (h : b < c) : gd (List.replicate c false ++ zs) b = false := by
  simp [gd, List.getD, List.getElem?_append_left, h]
theorem gd_bad1 (zs : List Bool) (c b : Nat) : gd (List.replicate c false ++ zs) (c + b) = gd zs b := by
  simp [gd, List.getD, List.getElem?_append_right]

theorem cnt_split (f : Nat → Bool) (a n k : Nat) : cnt f a (n + k) = cnt f a n + cnt f (a + n) k := by
  induction k with
  | zero => rfl
  | succ k ih => rw [← Nat.add_assoc, cnt, ih, cnt, ← Nat.add_assoc]; omega
theorem cnt_none {f : Nat → Bool} {a n : Nat} (h : ∀ i, i < n → f (a + i) = false) : cnt f a n = 0 := by
  induction n with
  | zero => rfl
  | succ n ih => rw [cnt, ih (fun i hi => h i (by omega)), h n (by omega)]; rfl

def rowLen : Value → Nat | .slice _ n _ => n | _ => 0

/-- Of outcomes, with good ones ahead and bad ones behind, how many of the last k are good. -/
theorem far_cnt (zs : List Bool) (c n k : Nat) (hk : k ≤ zs.length + c) (hn : n ≤ k) :
    lastG (List.replicate c true ++ zs.reverse ++ List.replicate n false) k (List.replicate c true ++ zs.reverse ++ List.replicate n false).length = cnt (gd zs) 0 (k - n) := by
  rw [lastG_eq]
  rw [show min k (List.replicate c true ++ zs.reverse ++ List.replicate n false).length = n + (k - n) by simp; omega]
  rw [show (List.replicate c true ++ zs.reverse ++ List.replicate n false).reverse = List.replicate n false ++ (zs ++ List.replicate c true) by simp]
  rw [cnt_split, cnt_none (fun i hi => by rw [Nat.zero_add]; exact gd_bad0 _ hi), Nat.zero_add]
  refine cnt_congr fun i hi => ?_
  rw [Nat.zero_add, Nat.zero_add, gd_bad1, gd_pad]

set_option maxHeartbeats 2000000 in
set_option maxRecDepth 100000 in
theorem refFar_in (N B m : Int) (k : Nat) (w : World) (b0 : 0 ≤ B) (m0 : 1 ≤ m) (mk : m ≤ k) (k6 : (k : Int) ≤ 6) :
    Calls Try.prog 25 #[.agg #[.int .i64 N, .int .u64 B], .int .i64 m, .int .i64 k] w fun e w' => ∃ n : Nat, e = .returned (.int .i64 n) ∧ IsFar (ringOf N B) m k n ∧ Below w.heap.size w w' := by
  have H1 : Hid (mayB m k = true) := mayB_mk m0 mk k6
  have hl := ringOf_len N B
  go_enter Try.func25, Try.ntmps25
  go_wp2_with fail
  refine (refMay_any _ _ _).mono ?_
  rintro e w0 ⟨rfl, rfl⟩
  rw [H1.out]
  go_wp2_with fail
  refine (refList_any N B _ b0).mono ?_
  rintro e w1 ⟨v, rfl, hown, hb1⟩
  generalize hz : ringOf N B = zs at *
  have HZ : Hid (ringOf N B = zs) := hz
  clear hz
  simp only [World.size_alloc] at hown
  have hb : Below w.heap.size w w1 := ((Below.refl _ _).alloc (by simp) _).trans (hb1.mono (by simp))
  have s1 : w.heap.size + 1 ≤ w1.heap.size := by have := hb1.size; simpa using this
  replace hown := own_base hown (show w.heap.size ≤ w.heap.size + 1 by omega)
  clear hb1
  go_wp2_with fail
  go_loopw [8] (fun u wr => ∃ (c : Nat), c + zs.length ≤ max k zs.length ∧ wr.ownsRow w.heap.size 4 1 u (c + zs.length) (bvs (List.replicate c true ++ zs.reverse)) ∧ Below w.heap.size w wr) (fun u _ => k - rowLen u)
  case atStart => exact ⟨0, by omega, by simpa using hown, hb⟩
  case round =>
    obtain ⟨c, hc, hownc, hbc⟩ := hrel
    have hrow := Row.own hownc (by simp)
    have hcap := own_cap hownc
    have s3 := hbc.size
    have hrow' := hrow
    obtain ⟨a, cap, rfl, r1, r2, _⟩ := hrow'
    have hlen : (List.replicate c true ++ zs.reverse).length = c + zs.length := by simp
    rw [hlen] at r1 hrow hownc hcap ⊢
    unfold maxLen at r2
    by_cases hlt : ((c + zs.length : Nat) : Int) < k
    · have hbt : Below wr.heap.size wr (wr.alloc (.cells #[.bool true] 4)) := (Below.refl _ _).alloc (Nat.le_refl _) _
      have hrow1 := hrow.later hbt
      have hownl := World.ownsRow_lit (base := w.heap.size) (e := 4) (size := 1) wr #[.bool true] 1 s3 (by unfold maxLen; omega) rfl
      clear hown hb
      go_wp2_with (first
        | (at_builtin; refine append_row rfl _ _ rfl w.heap.size _ _ 1 [true] _ rfl hownl rfl hrow1 hcap (by simp; omega) (by simp; omega) ?_))
      intro v' w4 hown' hb4
      have hown4 : w4.ownsRow w.heap.size 4 1 v' (c + 1 + zs.length) (bvs (List.replicate (c + 1) true ++ zs.reverse)) := by
        rw [List.replicate_succ, List.cons_append]
        rw [show c + 1 + zs.length = 1 + (c + zs.length) by omega]
        simpa [Nat.add_assoc] using hown'
      have hb5 : Below w.heap.size w w4 := (hbc.alloc s3 _).trans hb4
      have hrow4 := Row.own hown4 (by simp)
      obtain ⟨a4, cap4, rfl, _, _, _⟩ := hrow4
      clear hown' hownl hrow1 hrow hcap
      go_wp2_with fail
      go_roundw
      case rel => exact ⟨c + 1, by omega, hown4, hb5⟩
      case measure => simp [rowLen]; omega
    · clear hown hb hrow hcap
      go_wp2_with fail
      go_loopw [8, 9] (fun u i wx => ∃ (n : Nat), n ≤ k ∧ i = .int .i64 n ∧ Hid (∀ t, t < n → m ≤ (cnt (gd zs) 0 (k - t) : Int)) ∧ wx.ownsRow w.heap.size 4 1 u (c + zs.length + n) (bvs (List.replicate c true ++ zs.reverse ++ List.replicate n false)) ∧ Below w.heap.size w wx) (fun _ i _ => ((k : Int) - intOf i).toNat)
      case atStart => exact ⟨0, by omega, rfl, fun t ht => by omega, by simpa using hownc, hbc⟩
      case round =>
        obtain ⟨n, hn, rfl, HI, hownn, hbn⟩ := hrel
        have hrow := Row.own hownn (by simp; omega)
        have s4 := hbn.size
        clear hownc hbc hlen
        have hrow' := hrow
        obtain ⟨a', cap', rfl, p1, p2, _⟩ := hrow'
        have hlen : (List.replicate c true ++ zs.reverse ++ List.replicate n false).length = c + zs.length + n := by simp; omega
        rw [hlen] at p1 hrow hownn ⊢
        unfold maxLen at p2
        by_cases hlt : (n : Int) < k
        · have HC : Hid (lastG (List.replicate c true ++ zs.reverse ++ List.replicate n false) k (List.replicate c true ++ zs.reverse ++ List.replicate n false).length = cnt (gd zs) 0 (k - n)) := far_cnt zs c n k (by omega) hn
          have hcl := cnt_le (gd zs) 0 (k - n)
          go_wp2_with fail
          refine (refCount3_any _ _ _ _ hrow (by rw [hlen]; omega) (by omega) (by omega)).mono ?_
          rintro e w5 ⟨rfl, rfl⟩
          rw [HC.out]
          by_cases hcm : (cnt (gd zs) 0 (k - n) : Int) < m
          · have HF : Hid (IsFar zs m k n) := ⟨hn, hcm, HI.out⟩
            go_wp2_with fail
            go_ret
            exact ⟨n, rfl, by rw [HZ.out]; exact HF.out, hbn⟩
          · have hown1 := hownn.alloc (.cells #[.bool false] 4)
            have hlit : Row (w5.alloc (.cells #[.bool false] 4)) (.slice (some ⟨w5.heap.size, 0, none⟩) 1 1) [false] := Row.own (base := 0) (World.ownsRow_lit w5 #[.bool false] 1 (by omega) (by unfold maxLen; omega) rfl) rfl
            have hc1 : ∀ q, (Value.slice (some ⟨w5.heap.size, 0, none⟩) 1 1) = .slice none 0 q → q = 0 := fun q h => by simp at h
            go_wp2_with (first
              | (at_builtin; refine append_row rfl _ _ rfl w.heap.size _ _ (c + zs.length + n) _ [false] rfl hown1 rfl hlit hc1 (by simp; omega) (by simp; omega) ?_))
            intro v' w6 hown' hb6
            have hown6 : w6.ownsRow w.heap.size 4 1 v' (c + zs.length + (n + 1)) (bvs (List.replicate c true ++ zs.reverse ++ List.replicate (n + 1) false)) := by
              rw [List.replicate_succ', ← List.append_assoc, ← Nat.add_assoc]; simpa using hown'
            have hb7 : Below w.heap.size w w6 := (hbn.alloc s4 _).trans hb6
            clear hown' hown1 hlit hc1 hrow
            go_wp2_with fail
            go_roundw
            case rel => exact ⟨n + 1, by omega, by go_num, fun t ht => (by rcases Nat.lt_or_ge t n with h | h; exact HI.out t h; obtain rfl : t = n := (by omega); omega), hown6, hb7⟩
            case measure => simp [intOf]; omega
        · obtain rfl : n = k := by omega
          have HF : Hid (IsFar zs m n n) := ⟨Nat.le_refl _, by rw [Nat.sub_self]; simp [cnt]; omega, HI.out⟩
          go_wp2_with fail
          go_ret
          exact ⟨n, rfl, by rw [HZ.out]; exact HF.out, hbn⟩
end Go.Proofs.Ytcdkocdjbpebpaa
/- What the arguments of a statement are, as the walks are told of them: descriptions, bytes. -/
namespace Go.Proofs.Ytcdkocdjbpebpaa
open Go.ChangeShapes Go.WideShapes Go.RowKit Go.Deep Go.Joins

theorem array6 {α : Type} {cs : Array α} (h : cs.size = 6) : ∃ c0 c1 c2 c3 c4 c5, cs = #[c0, c1, c2, c3, c4, c5] := by
  obtain ⟨l⟩ := cs
  match l, h with
  | [c0, c1, c2, c3, c4, c5], _ => exact ⟨c0, c1, c2, c3, c4, c5, rfl⟩
/-- One of a struct's fields, an integer. -/
theorem see_field {H : Type} {enc : TypeId × Value → H} {P : Program} {w : World} {base n : Nat} {spare : Nat → Bool} {held : Bool} {t : TypeId} {k : IntKind} {c : Value} {y : DataW H × List MemPlace} (ht : P.underlying t = some (.int k))
    (h : DataW.trod enc P w base spare held n t [c] = some y) : ∃ a, c = .int k a ∧ (Lit.int k a).wf = true := by
  obtain ⟨a, e, _, wa⟩ := DataW.trod_int ht h
  simp at e
  exact ⟨a, e, wa⟩
/-- A struct of six integers. -/
theorem see_ints6 {H : Type} {enc : TypeId × Value → H} {P : Program} {w : World} {base b0 : Nat} {spare : Nat → Bool} {held : Bool} {r : Reach} {t : TypeId} {f0 f1 f2 f3 f4 f5 : Field} {k : IntKind} {v : Value} {d : DataW H} {p : List MemPlace}
    (hs : P.underlying t = some (.struct #[f0, f1, f2, f3, f4, f5])) (hone : oneCellFields P #[f0, f1, f2, f3, f4, f5] = true) (hC : P.cellsOf t = 6) (h0 : P.underlying f0.type = some (.int k)) (h1 : P.underlying f1.type = some (.int k)) (h2 : P.underlying f2.type = some (.int k)) (h3 : P.underlying f3.type = some (.int k)) (h4 : P.underlying f4.type = some (.int k)) (h5 : P.underlying f5.type = some (.int k))
    (hv : Value.okWide P w r b0 t v) (h : DataW.Trod enc P w base spare held t v d p) :
    ∃ a0 a1 a2 a3 a4 a5, v = .agg #[.int k a0, .int k a1, .int k a2, .int k a3, .int k a4, .int k a5] ∧ (Lit.int k a0).wf = true ∧ (Lit.int k a1).wf = true ∧ (Lit.int k a2).wf = true ∧ (Lit.int k a3).wf = true ∧ (Lit.int k a4).wf = true ∧ (Lit.int k a5).wf = true := by
  obtain ⟨cs, rfl, hsz⟩ := okWide_struct hs hv
  obtain ⟨c0, c1, c2, c3, c4, c5, rfl⟩ := array6 (hsz.trans hC)
  obtain ⟨fuel, hf⟩ := h
  obtain ⟨xs, n, _, _, _, hlen, hg⟩ := DataW.trod_struct hs hf
  have each : ∀ (i : Nat) (f : Field) (c : Value), #[f0, f1, f2, f3, f4, f5][i]? = some f → #[c0, c1, c2, c3, c4, c5][i]? = some c → P.underlying f.type = some (.int k) → ∃ a, c = .int k a ∧ (Lit.int k a).wf = true := by
    intro i f c hi hc hu
    obtain ⟨o, kc⟩ := hone_of hone i f hi
    have hlt : i < xs.length := by
      have := (Array.getElem?_eq_some_iff.1 hi).1
      simp at this hlen; omega
    have := hg i f hi
    rw [List.getElem?_eq_getElem hlt, o, kc] at this
    refine see_field (enc := enc) (w := w) (base := base) (spare := spare) (held := held) (n := n) hu (y := xs[i]) ?_
    rw [← this]
    congr 1
    simp only [Value.cells]
    have hl : i < 6 := by have := (Array.getElem?_eq_some_iff.1 hi).1; simpa using this
    rcases (show i = 0 ∨ i = 1 ∨ i = 2 ∨ i = 3 ∨ i = 4 ∨ i = 5 by omega) with rfl | rfl | rfl | rfl | rfl | rfl <;> simp at hc <;> subst hc <;> rfl
  obtain ⟨a0, rfl, w0⟩ := each 0 f0 c0 rfl rfl h0
  obtain ⟨a1, rfl, w1⟩ := each 1 f1 c1 rfl rfl h1
  obtain ⟨a2, rfl, w2⟩ := each 2 f2 c2 rfl rfl h2
  obtain ⟨a3, rfl, w3⟩ := each 3 f3 c3 rfl rfl h3
  obtain ⟨a4, rfl, w4⟩ := each 4 f4 c4 rfl rfl h4
  obtain ⟨a5, rfl, w5⟩ := each 5 f5 c5 rfl rfl h5
  exact ⟨a0, a1, a2, a3, a4, a5, rfl, w0, w1, w2, w3, w4, w5⟩
/-- Bytes. -/
theorem see_bytes {H : Type} {enc : TypeId × Value → H} {P : Program} {w : World} {base b0 : Nat} {held : Bool} {r : Reach} {t e : TypeId} {v : Value} {d : DataW H} {p : List MemPlace}
    (ht : P.underlying t = some (.slice e)) (he : P.underlying e = some (.int .u8)) (hc : P.cellsOf e = 1) (hv : Value.okWide P w r b0 t v) (h : DataW.Trod enc P w base (fun _ => true) held t v d p) : ∃ ks, Bys w v ks := by
  obtain ⟨a, len, cap, rfl⟩ := okWide_slice ht hv
  obtain ⟨fuel, hf⟩ := h
  rcases open_ints ht he hc hf with ⟨hcs, _⟩ | ⟨x, l, c, zs, hcs, _, hl, hm, hz, _, hcell, hwf⟩
  · simp [Value.cells] at hcs
    obtain ⟨rfl, rfl, rfl⟩ := hcs
    exact ⟨[], Bys.none w⟩
  · simp [Value.cells] at hcs
    obtain ⟨rfl, rfl, rfl⟩ := hcs
    simp only [if_true] at hz
    have hlen : (zs.take len).length = len := by simp; omega
    refine ⟨zs.take len, some x, cap, by rw [hlen], by omega, hm, (fun h => by cases h), fun i hi => ?_, fun hne => ?_⟩
    · have hm' : (zs.take len).getD i 0 ∈ zs := by
        rw [List.getD, List.getElem?_eq_getElem hi, Option.getD_some]
        exact List.mem_of_mem_take (List.getElem_mem hi)
      have := hwf _ hm'
      exact bounds_u8 this
    have hp : 0 < len := by
      rcases Nat.eq_zero_or_pos len with h | h
      · subst h; simp at hne
      · exact h
    obtain ⟨b, off, spot⟩ := x
    have hspot : spot = Option.none := by simpa [Addr.add] using World.cell?_spot (hcell 0 (by omega))
    subst hspot
    refine ⟨b, off, rfl, fun i hi => ?_⟩
    rw [hlen] at hi
    have := hcell i (by omega)
    rw [Go.WideShapes.add_plain] at this
    rw [this]
    simp [List.getD, hi]
end Go.Proofs.Ytcdkocdjbpebpaa
