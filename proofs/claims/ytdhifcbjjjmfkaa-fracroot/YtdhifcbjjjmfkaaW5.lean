/- The walk of frac's Root. -/
import Derived.Test.YtdhifcbjjjmfkaaW4
namespace Go.Proofs.Ytdhifcbjjjmfkaa
open Go.RowKit

set_option maxHeartbeats 1000000 in
set_option maxRecDepth 100000 in
theorem root_no (n : Int) (w : World) (h : ¬ (0 ≤ n ∧ n ≤ 4611686018427387904)) :
    Calls Try.prog 18 #[.int .i64 n] w fun e w' => e = .returned (.tuple #[.int .i64 0, .bool false]) ∧ Below w.heap.size w w' := by
  by_cases c : 0 ≤ n
  · have c1 : ¬ n ≤ 4611686018427387904 := by omega
    clear h
    go_enter Try.func18, Try.ntmps18
    go_wp2
    go_ret2
    exact ⟨rfl, Below.refl _ _⟩
  · clear h
    go_enter Try.func18, Try.ntmps18
    go_wp2
    go_ret2
    exact ⟨rfl, Below.refl _ _⟩

theorem sgn_le {x y : Int} (h : x ≤ y) : sgn x y ≤ 0 := by
  unfold sgn
  by_cases e : x = y
  · rw [if_pos e]; omega
  · rw [if_neg e, if_pos (by omega)]; omega
theorem sgn_gt {x y : Int} (h : y < x) : 0 < sgn x y := by
  unfold sgn
  rw [if_neg (by omega), if_neg (by omega)]; omega

set_option maxHeartbeats 4000000 in
set_option maxRecDepth 100000 in
theorem root_yes (n : Int) (w : World) (h0 : 0 ≤ n) (h1 : n ≤ 4611686018427387904) :
    Calls Try.prog 18 #[.int .i64 n] w fun e w' => (∃ r, e = .returned (.tuple #[.int .i64 r, .bool true]) ∧ IsRoot n r) ∧ Below w.heap.size w w' := by
  go_enter Try.func18, Try.ntmps18
  go_wp2_with (first | (go_at_call 29; go_in) | fail)
  refine (product_any n 1 _ h0 h1 (by omega) (by omega)).mono ?_
  rintro e w1 ⟨rfl, hb1⟩
  have hs1 := hb1.size
  go_wp2_with fail
  go_loopw [4, 6] (fun t u wr => ∃ (r b : Int) (j : Nat), Inv n r b j ∧ t = .int .i64 r ∧ u = .int .i64 b ∧ Below (w1.heap.size + 1) (w1.alloc (Obj.cells #[Value.int IntKind.u64 (hiW n), Value.int IntKind.u64 (loW n)] 39)) wr) (fun _ u _ => (intOf u).toNat)
  case atStart => exact ⟨0, 2147483648, 32, Inv.start h0 h1, rfl, rfl, Below.refl _ _⟩
  case round =>
    obtain ⟨r, b, j, hI, rfl, rfl, hbw⟩ := hrel
    obtain ⟨r0, b0, rb⟩ := hI.bounds
    by_cases hb : 0 < b
    · have p0 : 0 ≤ r + b := by omega
      have p1 : r + b ≤ 4611686018427387904 := by omega
      have HS : Hid _ := lex_words ((r + b) * (r + b)) n
      have hc0 : wr.cell? ⟨w1.heap.size, 0, none⟩ = some (.int .u64 (hiW n)) := (hbw.cell (p := ⟨w1.heap.size, 0, none⟩) (by simp)).trans (by simp)
      have hc1 : wr.cell? ⟨w1.heap.size, 1, none⟩ = some (.int .u64 (loW n)) := (hbw.cell (p := ⟨w1.heap.size, 1, none⟩) (by simp)).trans (by simp)
      have hsz : w1.heap.size + 1 ≤ wr.heap.size := by have := hbw.size; simpa using this
      by_cases hs : (r + b) * (r + b) ≤ n
      · have hsg : sgn ((r + b) * (r + b)) n ≤ 0 := sgn_le hs
        go_wp2_with fail
        go_region_with (first | (go_at_call 27; refine (product_any _ _ _ p0 p1 p0 p1).mono ?_; rintro e w2 ⟨rfl, hb2⟩; have g0 := cell_later hb2 hc0; have g1 := cell_later hb2 hc1) | (go_at_call 28; refine (order_any _ _ _ _ _).mono ?_; rintro e w3 ⟨rfl, hb3⟩; rw [HS.out]))
        all_goals
          have s2 := hb2.size
          go_wp2
          go_roundw
          case rel => obtain ⟨i, hi⟩ := hI.yes hb hs; exact ⟨r + b, b / 2, i, hi, rfl, rfl, hbw.drew.trans ((hb2.mono hsz).trans (hb3.mono (Nat.le_trans hsz s2)))⟩
          case measure => simp [intOf]; omega
      · have hsg : 0 < sgn ((r + b) * (r + b)) n := sgn_gt (by omega)
        go_wp2_with fail
        go_region_with (first | (go_at_call 27; refine (product_any _ _ _ p0 p1 p0 p1).mono ?_; rintro e w2 ⟨rfl, hb2⟩; have g0 := cell_later hb2 hc0; have g1 := cell_later hb2 hc1) | (go_at_call 28; refine (order_any _ _ _ _ _).mono ?_; rintro e w3 ⟨rfl, hb3⟩; rw [HS.out]))
        all_goals
          have s2 := hb2.size
          go_wp2
          go_roundw
          case rel => obtain ⟨i, hi⟩ := hI.no hb (by omega); exact ⟨r, b / 2, i, hi, rfl, rfl, hbw.drew.trans ((hb2.mono hsz).trans (hb3.mono (Nat.le_trans hsz s2)))⟩
          case measure => simp [intOf]; omega
    · have hbz : b = 0 := by omega
      subst hbz
      go_wp2
      go_ret2
      exact ⟨⟨r, rfl, hI.done⟩, (hb1.alloc hs1 _).trans (hbw.mono (by omega))⟩
end Go.Proofs.Ytdhifcbjjjmfkaa
