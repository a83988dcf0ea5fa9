/- Walks of chapter 5: what is the same; the document's example. -/
import Derived.Test.YtpnmdpffdeebmaaE12
import Derived.Laws.StructEq
namespace Go.Proofs.Ytpnmdpffdeebmaa
open Go.RowKit

/-- Are two descriptions the same? -/
def spB (c t x m k e c' t' x' m' k' e' : Int) : Bool := decide (c = c') && (decide (t = t') && (decide (x = x') && (decide (m = m') && (decide (k = k') && decide (e = e')))))
theorem spB_self (c t x m k e : Int) : spB c t x m k e c t x m k e = true := by simp [spB]
set_option maxHeartbeats 1000000 in
theorem sp_eql (c t x m k e c' t' x' m' k' e' : Int) (w : World) : (binOp .eql 23 (.agg #[.int .i64 c, .int .i64 t, .int .i64 x, .int .i64 m, .int .i64 k, .int .i64 e]) (.agg #[.int .i64 c', .int .i64 t', .int .i64 x', .int .i64 m', .int .i64 k', .int .i64 e'])).run Try.prog w = .ok (.bool (spB c t x m k e c' t' x' m' k' e')) w := by
  unfold spB
  by_cases h0 : c = c'
  rotate_left
  · simp [go_sem, h0]
  by_cases h1 : t = t'
  rotate_left
  · simp [go_sem, h0, h1]
  by_cases h2 : x = x'
  rotate_left
  · simp [go_sem, h0, h1, h2]
  by_cases h3 : m = m'
  rotate_left
  · simp [go_sem, h0, h1, h2, h3]
  by_cases h4 : k = k'
  rotate_left
  · simp [go_sem, h0, h1, h2, h3, h4]
  by_cases h5 : e = e'
  rotate_left
  · simp [go_sem, h0, h1, h2, h3, h4, h5]
  simp [go_sem, h0, h1, h2, h3, h4, h5]
set_option maxHeartbeats 1000000 in
theorem sp_neq (c t x m k e c' t' x' m' k' e' : Int) (w : World) : (binOp .neq 23 (.agg #[.int .i64 c, .int .i64 t, .int .i64 x, .int .i64 m, .int .i64 k, .int .i64 e]) (.agg #[.int .i64 c', .int .i64 t', .int .i64 x', .int .i64 m', .int .i64 k', .int .i64 e'])).run Try.prog w = .ok (.bool (!spB c t x m k e c' t' x' m' k' e')) w := by
  unfold spB
  by_cases h0 : c = c'
  rotate_left
  · simp [go_sem, h0]
  by_cases h1 : t = t'
  rotate_left
  · simp [go_sem, h0, h1]
  by_cases h2 : x = x'
  rotate_left
  · simp [go_sem, h0, h1, h2]
  by_cases h3 : m = m'
  rotate_left
  · simp [go_sem, h0, h1, h2, h3]
  by_cases h4 : k = k'
  rotate_left
  · simp [go_sem, h0, h1, h2, h3, h4]
  by_cases h5 : e = e'
  rotate_left
  · simp [go_sem, h0, h1, h2, h3, h4, h5]
  simp [go_sem, h0, h1, h2, h3, h4, h5]
theorem bys_lit (w : World) (c t x m k e : Int) (h : ∀ i, i < 6 → 0 ≤ (lst ⟨c, t, x, m, k, e⟩).getD i 0 ∧ (lst ⟨c, t, x, m, k, e⟩).getD i 0 ≤ 255) : Bys (w.alloc (.cells #[.int .u8 c, .int .u8 t, .int .u8 x, .int .u8 m, .int .u8 k, .int .u8 e] 5)) (.slice (some ⟨w.heap.size, 0, none⟩) 6 6) (lst ⟨c, t, x, m, k, e⟩) := by
  refine ⟨_, 6, rfl, Nat.le_refl _, (by unfold maxLen; omega), (fun h => by cases h), h, fun _ => ⟨_, 0, rfl, fun i hi => ?_⟩⟩
  have hi' : i < 6 := hi
  rcases (show i = 0 ∨ i = 1 ∨ i = 2 ∨ i = 3 ∨ i = 4 ∨ i = 5 by omega) with rfl | rfl | rfl | rfl | rfl | rfl <;> simp [lst]

set_option maxHeartbeats 1000000 in
set_option maxRecDepth 100000 in
theorem awake5_any (w : World) :
    Calls Try.prog 8 #[] w fun r w' => r = .returned (.bool true) ∧ Below w.heap.size w w' := by
  have HM : Hid (maySp ⟨2, 10, 20, 1, 2, 3⟩ = true ∧ maySp ⟨2, 10, 20, 1, 2, 0⟩ = false ∧ byS ⟨2, 10, 20, 1, 2, 3⟩ = lst ⟨2, 10, 20, 1, 2, 3⟩) := ⟨by decide, by decide, by decide⟩
  have HS : Hid (sameB (lst ⟨2, 10, 20, 1, 2, 3⟩) (lst ⟨2, 10, 20, 1, 2, 3⟩) = true) := decide_eq_true rfl
  go_enter Try.func8, Try.ntmps8
  go_wp2_with fail
  refine (spone_any _).mono ?_
  rintro r w1 ⟨rfl, hb1⟩
  unfold spV
  go_wp2_with fail
  refine (spput_any 2 10 20 1 2 3 _).mono ?_
  rintro r w2 ⟨v, rfl, hv, hb2⟩
  replace hb2 := hb1.trans (hb2.mono hb1.size)
  rw [HM.out.1]
  rw [HM.out.2.2] at hv
  clear hb1
  go_wp2_with fail
  refine (spone_any _).mono ?_
  rintro r w3 ⟨rfl, hb3⟩
  have hv3 := hv.later hb3
  replace hb3 := hb2.trans (hb3.mono hb2.size)
  clear hv hb2
  unfold spV
  go_wp2_with fail
  refine (spmay_any 2 10 20 1 2 3 _).mono ?_
  rintro r w4 ⟨rfl, hb4⟩
  have hv4 := hv3.later hb4
  replace hb4 := hb3.trans (hb4.mono hb3.size)
  clear hv3 hb3
  rw [HM.out.1]
  go_wp2_with fail
  refine (bytes_any _ _ v _ _ (hv4.later ((Below.refl _ _).alloc (Nat.le_refl _) _)) (bys_lit w4 2 10 20 1 2 3 (by decide)) (by decide)).mono ?_
  rintro r w5 ⟨rfl, hb5⟩
  replace hb5 := (hb4.alloc hb4.size _).trans (hb5.mono (by have := hb4.size; simp; omega))
  clear hv4 hb4
  rw [HS.out]
  go_wp2_with fail
  refine (spmay_any 2 10 20 1 2 0 _).mono ?_
  rintro r w6 ⟨rfl, hb6⟩
  rw [HM.out.2.1]
  replace hb6 := hb5.trans (hb6.mono hb5.size)
  go_wp2
  go_ret
  exact ⟨rfl, hb6⟩
end Go.Proofs.Ytpnmdpffdeebmaa
