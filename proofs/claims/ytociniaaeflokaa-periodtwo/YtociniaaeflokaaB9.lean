/- What the statement PeriodTells comes to. -/
import Derived.Test.YtociniaaeflokaaB8
import Derived.Test.YtociniaaeflokaaF1
import Derived.Deep.RegionHeld3
namespace Go.Proofs.Ytociniaaeflokaa
open Go.RowKit Go.Shelf

theorem all_len (s : Sp) : (allL s).length ≤ 100000 := by
  cases h : maySp s with
  | false => rw [all_no h]; exact Nat.zero_le _
  | true =>
    rw [all_yes h]
    unfold perL
    rw [lst7_len]
    obtain ⟨c0, c1, f2, f3, f4, _⟩ := may_facts h
    unfold perN; omega
theorem ends_len (s : Sp) (p f u : Int) : (endsL s p f u).length ≤ 100000 := by
  cases h : endB s p f u with
  | false => rw [ends_no h]; exact Nat.zero_le _
  | true =>
    rw [ends_yes h, lst7_len]
    unfold endB at h
    rw [Bool.and_eq_true, Bool.and_eq_true] at h
    obtain ⟨⟨h1, h2⟩, h3⟩ := h
    obtain ⟨p0, p1⟩ := of_decide_eq_true h2
    obtain ⟨n0, n1, n2, n3⟩ := of_decide_eq_true h3
    obtain ⟨c0, c1, f2, f3, f4, _⟩ := may_facts h1
    exact Nat.le_trans (end_small (by omega) n1 n3) (by decide)

theorem ints_self (xs : List Int) (v v' : Value) (w : World) (h : Nums w v xs) (h' : Nums w v' xs) (hx : xs.length ≤ 100000) :
    Calls Try.prog 11 #[v, v'] w fun r w' => r = .returned (.bool true) ∧ Below w.heap.size w w' := by
  refine (ints_any xs xs v v' w h h' hx).mono ?_
  rintro r w' ⟨rfl, hb⟩
  exact ⟨ret_b (decide_eq_true rfl), hb⟩

set_option maxHeartbeats 4000000 in
set_option maxRecDepth 100000 in
theorem law_ptells (c t x m k e u p f v : Int) (w : World) :
    Calls Try.prog 3 #[.agg #[.int .i64 c, .int .i64 t, .int .i64 x, .int .i64 m, .int .i64 k, .int .i64 e], .int .i64 u, .int .i64 p, .int .i64 f, .int .i64 v] w fun r w' => r = .returned (.bool true) ∧ Below w.heap.size w w' := by
  have hS : Six (w.alloc (.cells #[.int .i64 c, .int .i64 t, .int .i64 x, .int .i64 m, .int .i64 k, .int .i64 e] 23)) w.heap.size (Sp.at ⟨c, t, x, m, k, e⟩) := Six.new w ⟨c, t, x, m, k, e⟩
  obtain ⟨q, hq⟩ : ∃ q, ofP ⟨c, t, x, m, k, e⟩ u = q := ⟨_, rfl⟩
  obtain ⟨b, hb⟩ : ∃ b, ofB ⟨c, t, x, m, k, e⟩ u = b := ⟨_, rfl⟩
  have HP : Hid (ofP ⟨c, t, x, m, k, e⟩ u = q ∧ ofB ⟨c, t, x, m, k, e⟩ u = b) := ⟨hq, hb⟩
  obtain ⟨xs, hxs⟩ : ∃ xs, allL ⟨c, t, x, m, k, e⟩ = xs := ⟨_, rfl⟩
  obtain ⟨ys, hys⟩ : ∃ ys, endsL ⟨c, t, x, m, k, e⟩ p f v = ys := ⟨_, rfl⟩
  have HX : Hid (allL ⟨c, t, x, m, k, e⟩ = xs) := hxs
  have HY : Hid (endsL ⟨c, t, x, m, k, e⟩ p f v = ys) := hys
  have HXL : Hid (xs.length ≤ 100000) := by show _ ≤ _; rw [← hxs]; exact all_len _
  have HYL : Hid (ys.length ≤ 100000) := by show _ ≤ _; rw [← hys]; exact ends_len _ _ _ _
  clear hq hb hxs hys
  go_enter Try.func3, Try.ntmps3
  go_wp2_with fail
  refine (awake8_any _).mono ?_
  rintro r w1 ⟨rfl, hb1⟩
  have hS1 := hS.later hb1
  replace hb1 : Below w.heap.size w w1 := ((Below.refl _ _).alloc (by simp) _).trans (hb1.mono (by simp))
  obtain ⟨a0, a1, a2, a3, a4, a5, b0, b1, b2, b3, b4, b5⟩ := hS1.sp
  clear hS b0 b1 b2 b3 b4 b5
  go_wp2_with fail
  refine (perOf_any c t x m k e u _).mono ?_
  rintro r w2 ⟨rfl, hb2⟩
  rw [HP.out.1, HP.out.2]
  have hS2 := hS1.later hb2
  replace hb2 := hb1.trans (hb2.mono hb1.size)
  clear hS1 hb1 a0 a1 a2 a3 a4 a5
  obtain ⟨a0, a1, a2, a3, a4, a5, b0, b1, b2, b3, b4, b5⟩ := hS2.sp
  clear b0 b1 b2 b3 b4 b5
  go_wp2_with fail
  refine (refPerOf_any c t x m k e u _).mono ?_
  rintro r w3 ⟨rfl, hb3⟩
  rw [HP.out.1, HP.out.2]
  have hS3 := hS2.later hb3
  replace hb3 := hb2.trans (hb3.mono hb2.size)
  clear hS2 hb2 a0 a1 a2 a3 a4 a5
  have MK : Hid (∀ w' : World, Below w3.heap.size w3 w' → (w'.cell? ⟨w.heap.size, 0, none⟩ = some (.int .i64 c) ∧ w'.cell? ⟨w.heap.size, 1, none⟩ = some (.int .i64 t) ∧ w'.cell? ⟨w.heap.size, 2, none⟩ = some (.int .i64 x) ∧ w'.cell? ⟨w.heap.size, 3, none⟩ = some (.int .i64 m) ∧ w'.cell? ⟨w.heap.size, 4, none⟩ = some (.int .i64 k) ∧ w'.cell? ⟨w.heap.size, 5, none⟩ = some (.int .i64 e)) ∧ Below w3.heap.size w3 w') := by
    intro w' hb
    obtain ⟨x0, x1, x2, x3, x4, x5, _⟩ := (hS3.later hb).sp
    exact ⟨⟨x0, x1, x2, x3, x4, x5⟩, hb⟩
  clear hS3
  go_wp2_with fail
  go_region_held3 (fun w' => (w'.cell? ⟨w.heap.size, 0, none⟩ = some (.int .i64 c) ∧ w'.cell? ⟨w.heap.size, 1, none⟩ = some (.int .i64 t) ∧ w'.cell? ⟨w.heap.size, 2, none⟩ = some (.int .i64 x) ∧ w'.cell? ⟨w.heap.size, 3, none⟩ = some (.int .i64 m) ∧ w'.cell? ⟨w.heap.size, 4, none⟩ = some (.int .i64 k) ∧ w'.cell? ⟨w.heap.size, 5, none⟩ = some (.int .i64 e)) ∧ Below w3.heap.size w3 w')
    (first | exact MK.out _ (bstep (by assumption) (sBel (by assumption))) | exact MK.out _ (Below.refl _ _).drew)
    (first
    | (go_at_call 12; refine (perAll_any c t x m k e _).mono ?_; rintro r w4 ⟨v1, rfl, hv1, hb4⟩; rw [HX.out] at hv1; have hr1 := hv1.nums)
    | (go_at_call 13; refine (refPerAll_any c t x m k e _).mono ?_; rintro r w5 ⟨v2, rfl, hv2, hb5⟩; rw [HX.out] at hv2; have hr2 := hv2.nums; have hr3 := hr1.later hb5)
    | (go_at_call 14; refine (perEnds_any c t x m k e p f v _).mono ?_; rintro r w6 ⟨v3, rfl, hv3, hb6⟩; rw [HY.out] at hv3; have hs1 := hv3.nums)
    | (go_at_call 15; refine (refPerEnds_any c t x m k e p f v _).mono ?_; rintro r w7 ⟨v4, rfl, hv4, hb7⟩; rw [HY.out] at hv4; have hs2 := hv4.nums; have hs3 := hs1.later hb7)
    | (go_at_call 11; have hs4 := hs3; refine (ints_self ys v3 v4 _ hs4 hs2 HYL.out).mono ?_; rintro r w8 ⟨rfl, hb8⟩)
    | (go_at_call 11; have hr4 := hr3; refine (ints_self xs v1 v2 _ hr4 hr2 HXL.out).mono ?_; rintro r w9 ⟨rfl, hb9⟩))
  all_goals
    go_wp2
    go_ret
    exact ⟨by first | rfl | exact ret_b (by simp), hb3.trans ((sBel (by assumption)).mono hb3.size)⟩
end Go.Proofs.Ytociniaaeflokaa
