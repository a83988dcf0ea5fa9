/- The walk of the statement RingTells: it returns true, and writes nothing that was there. -/
import Derived.Test.YtiagcihghalomaaT5
namespace Go.Proofs.Ytiagcihghalomaa
open Go.RowKit

set_option maxHeartbeats 4000000 in
set_option maxRecDepth 100000 in
theorem tells_no (N B : Int) (g : Bool) (xs : List Bool) (v : Value) (n m k : Int) (w : World) (h : Row w v xs) (b0 : 0 ≤ B) (hx : xs.length ≤ 200) (hk : k ≤ 1000) (hm : mayB m k = false) :
    Calls Try.prog 3 #[.agg #[.int .i64 N, .int .u64 B], .bool g, v, .int .i64 n, .int .i64 m, .int .i64 k] w fun e w' => e = .returned (.bool true) ∧ Below w.heap.size w w' := by
  have HM : Hid (mayB m k = false) := hm
  clear hm
  have h' := h
  obtain ⟨a, cap, rfl, r1, r2, _⟩ := h'
  unfold maxLen at r2
  have hl := ringOf_len N B
  obtain ⟨ps, hps⟩ : ∃ ps, (g :: ringOf N B).take 60 = ps := ⟨_, rfl⟩
  have HP : Hid ((g :: ringOf N B).take 60 = ps) := hps
  obtain ⟨os, hos⟩ : ∃ os, ofZ xs = os := ⟨_, rfl⟩
  have HO : Hid (ofZ xs = os) := hos
  clear hps hos
  go_enter Try.func3, Try.ntmps3
  go_wp2_with fail
  refine (awake3_any _).mono ?_
  rintro e w1 ⟨rfl, hb1⟩
  have hwb : Below w.heap.size w w1 := ((Below.refl _ _).alloc (by simp) _).trans (hb1.mono (by simp))
  have a0 : w1.cell? ⟨w.heap.size, 0, none⟩ = some (.int .i64 N) := (hb1.cell (p := ⟨w.heap.size, 0, none⟩) (by simp)).trans (by simp)
  have a1 : w1.cell? ⟨w.heap.size, 1, none⟩ = some (.int .u64 B) := (hb1.cell (p := ⟨w.heap.size, 1, none⟩) (by simp)).trans (by simp)
  clear hb1
  have hrow := h.later hwb
  have MK : Hid (∀ w', Below w1.heap.size w1 w' → ((w'.cell? ⟨w.heap.size, 0, none⟩ = some (.int .i64 N) ∧ w'.cell? ⟨w.heap.size, 1, none⟩ = some (.int .u64 B)) ∧ Below w1.heap.size w1 w')) :=
    fun w' hb => ⟨⟨cell_later hb a0, cell_later hb a1⟩, hb⟩
  go_wp2_with fail
  go_region_held3 (fun w' => (w'.cell? ⟨w.heap.size, 0, none⟩ = some (.int .i64 N) ∧ w'.cell? ⟨w.heap.size, 1, none⟩ = some (.int .u64 B)) ∧ Below w1.heap.size w1 w')
    (first | exact MK.out _ (below_step (by assumption) (sB (by assumption))) | exact MK.out _ (Below.refl _ _).drew)
    (first
    | (go_at_call 9; refine (rmay_any N B _).mono ?_; rintro e w2 ⟨rfl, hb2⟩)
    | (go_at_call 10; refine (refMay3_any N B _ b0).mono ?_; rintro e w3 ⟨rfl, hb3⟩)
    | (go_at_call 11; refine (put_any N B g _ b0).mono ?_; rintro e w4 ⟨rfl, hb4⟩; rw [HP.out]; unfold ringV)
    | (go_at_call 12; refine (refPut_any N B g _ b0).mono ?_; rintro e w5 ⟨rfl, hb5⟩; rw [HP.out]; unfold ringV)
    | (go_at_call 13; refine (of_any xs _ _ (hrow.later (sB (by assumption))) (by omega)).mono ?_; rintro e w6 ⟨rfl, hb6⟩; rw [HO.out]; unfold ringV)
    | (go_at_call 14; refine (refOf_any xs _ _ (hrow.later (sB (by assumption))) (by omega)).mono ?_; rintro e w7 ⟨rfl, hb7⟩; rw [HO.out]; unfold ringV)
    | (go_at_call 16; refine (list_any N B _ b0).mono ?_; rintro e w8 ⟨v1, rfl, hown1, hb8⟩; have hr1 := Row.own hown1 (by simp))
    | (go_at_call 17; refine (refList_any N B _ b0).mono ?_; rintro e w9 ⟨v2, rfl, hown2, hb9⟩; have hr2 := Row.own hown2 (by simp); have hr3 := hr1.later hb9)
    | (go_at_call 15; refine (bools_eq (ringOf N B).reverse _ _ _ hr3 hr2 (by simp; omega)).mono ?_; rintro e w10 ⟨rfl, hb10⟩))
  go_wp2_with fail
  go_region_held3 (fun w' => (w'.cell? ⟨w.heap.size, 0, none⟩ = some (.int .i64 N) ∧ w'.cell? ⟨w.heap.size, 1, none⟩ = some (.int .u64 B)) ∧ Below w1.heap.size w1 w')
    (first | exact MK.out _ (below_step (by assumption) (sB (by assumption))) | exact MK.out _ (sB (by assumption)).drew)
    (first
    | (go_at_call 18; refine (good_any N B n _ b0).mono ?_; rintro e y2 ⟨rfl, hc2⟩)
    | (go_at_call 19; refine (refGood_any N B n _ b0).mono ?_; rintro e y3 ⟨rfl, hc3⟩)
    | (go_at_call 20; refine (fine_no N B m k _ HM.out).mono ?_; rintro e y4 ⟨rfl, hc4⟩)
    | (go_at_call 21; refine (refFine_no N B m k _ b0 HM.out).mono ?_; rintro e y5 ⟨rfl, hc5⟩)
    | (go_at_call 22; refine (far_no N B m k _ HM.out).mono ?_; rintro e y6 ⟨rfl, hc6⟩)
    | (go_at_call 23; refine (refFar_no N B m k _ HM.out).mono ?_; rintro e y7 ⟨rfl, hc7⟩))
  all_goals
    go_wp2
    go_ret
    exact ⟨rfl, hwb.trans ((sB (by assumption)).mono hwb.size)⟩

set_option maxHeartbeats 4000000 in
set_option maxRecDepth 100000 in
theorem tells_in (N B : Int) (g : Bool) (xs : List Bool) (v : Value) (n m : Int) (k : Nat) (w : World) (h : Row w v xs) (b0 : 0 ≤ B) (hx : xs.length ≤ 200) (m0 : 1 ≤ m) (mk : m ≤ k) (k6 : (k : Int) ≤ 6) :
    Calls Try.prog 3 #[.agg #[.int .i64 N, .int .u64 B], .bool g, v, .int .i64 n, .int .i64 m, .int .i64 k] w fun e w' => e = .returned (.bool true) ∧ Below w.heap.size w w' := by
  have h' := h
  obtain ⟨a, cap, rfl, r1, r2, _⟩ := h'
  unfold maxLen at r2
  have hl := ringOf_len N B
  obtain ⟨ps, hps⟩ : ∃ ps, (g :: ringOf N B).take 60 = ps := ⟨_, rfl⟩
  have HP : Hid ((g :: ringOf N B).take 60 = ps) := hps
  obtain ⟨os, hos⟩ : ∃ os, ofZ xs = os := ⟨_, rfl⟩
  have HO : Hid (ofZ xs = os) := hos
  clear hps hos
  go_enter Try.func3, Try.ntmps3
  go_wp2_with fail
  refine (awake3_any _).mono ?_
  rintro e w1 ⟨rfl, hb1⟩
  have hwb : Below w.heap.size w w1 := ((Below.refl _ _).alloc (by simp) _).trans (hb1.mono (by simp))
  have a0 : w1.cell? ⟨w.heap.size, 0, none⟩ = some (.int .i64 N) := (hb1.cell (p := ⟨w.heap.size, 0, none⟩) (by simp)).trans (by simp)
  have a1 : w1.cell? ⟨w.heap.size, 1, none⟩ = some (.int .u64 B) := (hb1.cell (p := ⟨w.heap.size, 1, none⟩) (by simp)).trans (by simp)
  clear hb1
  have hrow := h.later hwb
  have MK : Hid (∀ w', Below w1.heap.size w1 w' → ((w'.cell? ⟨w.heap.size, 0, none⟩ = some (.int .i64 N) ∧ w'.cell? ⟨w.heap.size, 1, none⟩ = some (.int .u64 B)) ∧ Below w1.heap.size w1 w')) :=
    fun w' hb => ⟨⟨cell_later hb a0, cell_later hb a1⟩, hb⟩
  go_wp2_with fail
  go_region_held3 (fun w' => (w'.cell? ⟨w.heap.size, 0, none⟩ = some (.int .i64 N) ∧ w'.cell? ⟨w.heap.size, 1, none⟩ = some (.int .u64 B)) ∧ Below w1.heap.size w1 w')
    (first | exact MK.out _ (below_step (by assumption) (sB (by assumption))) | exact MK.out _ (Below.refl _ _).drew)
    (first
    | (go_at_call 9; refine (rmay_any N B _).mono ?_; rintro e w2 ⟨rfl, hb2⟩)
    | (go_at_call 10; refine (refMay3_any N B _ b0).mono ?_; rintro e w3 ⟨rfl, hb3⟩)
    | (go_at_call 11; refine (put_any N B g _ b0).mono ?_; rintro e w4 ⟨rfl, hb4⟩; rw [HP.out]; unfold ringV)
    | (go_at_call 12; refine (refPut_any N B g _ b0).mono ?_; rintro e w5 ⟨rfl, hb5⟩; rw [HP.out]; unfold ringV)
    | (go_at_call 13; refine (of_any xs _ _ (hrow.later (sB (by assumption))) (by omega)).mono ?_; rintro e w6 ⟨rfl, hb6⟩; rw [HO.out]; unfold ringV)
    | (go_at_call 14; refine (refOf_any xs _ _ (hrow.later (sB (by assumption))) (by omega)).mono ?_; rintro e w7 ⟨rfl, hb7⟩; rw [HO.out]; unfold ringV)
    | (go_at_call 16; refine (list_any N B _ b0).mono ?_; rintro e w8 ⟨v1, rfl, hown1, hb8⟩; have hr1 := Row.own hown1 (by simp))
    | (go_at_call 17; refine (refList_any N B _ b0).mono ?_; rintro e w9 ⟨v2, rfl, hown2, hb9⟩; have hr2 := Row.own hown2 (by simp); have hr3 := hr1.later hb9)
    | (go_at_call 15; refine (bools_eq (ringOf N B).reverse _ _ _ hr3 hr2 (by simp; omega)).mono ?_; rintro e w10 ⟨rfl, hb10⟩))
  go_wp2_with fail
  go_region_held3 (fun w' => (w'.cell? ⟨w.heap.size, 0, none⟩ = some (.int .i64 N) ∧ w'.cell? ⟨w.heap.size, 1, none⟩ = some (.int .u64 B)) ∧ Below w1.heap.size w1 w')
    (first | exact MK.out _ (below_step (by assumption) (sB (by assumption))) | exact MK.out _ (sB (by assumption)).drew)
    (first
    | (go_at_call 18; refine (good_any N B n _ b0).mono ?_; rintro e y2 ⟨rfl, hc2⟩)
    | (go_at_call 19; refine (refGood_any N B n _ b0).mono ?_; rintro e y3 ⟨rfl, hc3⟩)
    | (go_at_call 20; refine (fine_in N B m k _ b0 m0 mk k6).mono ?_; rintro e y4 ⟨rfl, hc4⟩)
    | (go_at_call 21; refine (refFine_in N B m k _ b0 m0 mk k6).mono ?_; rintro e y5 ⟨rfl, hc5⟩)
    | (go_at_call 22; refine (far_in N B m k _ b0 m0 mk k6).mono ?_; rintro e y6 ⟨n1, rfl, hn1, hc6⟩)
    | (go_at_call 23; refine (refFar_in N B m k _ b0 m0 mk k6).mono ?_; rintro e y7 ⟨n2, rfl, hn2, hc7⟩; obtain rfl := hn2.unique hn1))
  all_goals
    go_wp2
    go_ret
    exact ⟨rfl, hwb.trans ((sB (by assumption)).mono hwb.size)⟩

set_option maxHeartbeats 2000000 in
set_option maxRecDepth 100000 in
theorem law_tells (N B : Int) (g : Bool) (xs : List Bool) (v : Value) (n m k : Int) (w : World) (h : Row w v xs) (b0 : 0 ≤ B) :
    Calls Try.prog 3 #[.agg #[.int .i64 N, .int .u64 B], .bool g, v, .int .i64 n, .int .i64 m, .int .i64 k] w fun e w' => e = .returned (.bool true) ∧ Below w.heap.size w w' := by
  by_cases c : xs.length ≤ 200 ∧ k ≤ 1000
  · obtain ⟨hx, hk⟩ := c
    cases hm : mayB m k
    · exact tells_no N B g xs v n m k w h b0 hx hk hm
    · obtain ⟨m0, mk, k6⟩ := mayB_of hm
      obtain ⟨K, rfl⟩ := Int.eq_ofNat_of_zero_le (show 0 ≤ k by omega)
      exact tells_in N B g xs v n m K w h b0 hx m0 mk k6
  · obtain ⟨a, cap, rfl, r1, r2, _⟩ := h
    unfold maxLen at r2
    rcases (show 200 < xs.length ∨ xs.length ≤ 200 ∧ 1000 < k by omega) with d | ⟨d1, d2⟩
    all_goals
      clear c
      go_enter Try.func3, Try.ntmps3
      go_wp2_with fail
      refine (awake3_any _).mono ?_
      rintro e w1 ⟨rfl, hb1⟩
      go_wp2
      go_ret
      exact ⟨rfl, ((Below.refl _ _).alloc (by simp) _).trans (hb1.mono (by simp))⟩
end Go.Proofs.Ytiagcihghalomaa
