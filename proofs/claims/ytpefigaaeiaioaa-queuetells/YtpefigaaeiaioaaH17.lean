/- Walks: what is the same; the document's example. -/
import Derived.Test.YtpefigaaeiaioaaH16
import Derived.Laws.StructEq
namespace Go.Proofs.Ytpefigaaeiaioaa
open Go.RowKit
set_option linter.unusedVariables false

theorem item_eql (x y : Int × Int) (w : World) : (binOp .eql 24 (.agg #[.int .i64 x.1, .int .i64 x.2]) (.agg #[.int .i64 y.1, .int .i64 y.2])).run Try.prog w = .ok (.bool (decide (x = y))) w := by
  have h : decide (x = y) = (decide (x.1 = y.1) && decide (x.2 = y.2)) := by
    rw [Bool.eq_iff_iff]; simp [Prod.ext_iff]
  simp [go_sem, h]
  split
  · next e => split
              · next f => simp [e, f]
              · next f => simp [f]
  · next e => simp [e]
theorem item_neq (x y : Int × Int) (w : World) : (binOp .neq 24 (.agg #[.int .i64 x.1, .int .i64 x.2]) (.agg #[.int .i64 y.1, .int .i64 y.2])).run Try.prog w = .ok (.bool (!decide (x = y))) w := by
  have h : decide (x = y) = (decide (x.1 = y.1) && decide (x.2 = y.2)) := by
    rw [Bool.eq_iff_iff]; simp [Prod.ext_iff]
  simp [go_sem, h]
  split
  · next e => split
              · next f => simp [e, f]
              · next f => simp [f]
  · next e => simp [e]

/-- Whether two items are the same. -/
def itB (a b c d : Int) : Bool := decide ((a, b) = (c, d))
theorem itB_self (a b : Int) : itB a b a b = true := decide_eq_true rfl
theorem item_eql4 (a b c d : Int) (w : World) : (binOp .eql 24 (.agg #[.int .i64 a, .int .i64 b]) (.agg #[.int .i64 c, .int .i64 d])).run Try.prog w = .ok (.bool (itB a b c d)) w := item_eql (a, b) (c, d) w
theorem item_neq4 (a b c d : Int) (w : World) : (binOp .neq 24 (.agg #[.int .i64 a, .int .i64 b]) (.agg #[.int .i64 c, .int .i64 d])).run Try.prog w = .ok (.bool (!itB a b c d)) w := item_neq (a, b) (c, d) w

set_option maxHeartbeats 1000000 in
set_option maxRecDepth 100000 in
theorem same_eq (xs : List (Int × Int)) (u v : Value) (w : World) (h : Its w u xs) (h' : Its w v xs) (hx : xs.length ≤ 1000) :
    Calls Try.prog 19 #[u, v] w fun e w' => e = .returned (.bool true) ∧ Below w.heap.size w w' := by
  obtain ⟨a, cap, rfl, h1, h2, h0, h3⟩ := h
  obtain ⟨a', cap', rfl, h1', h2', h0', h3'⟩ := h'
  go_enter Try.func19, Try.ntmps19
  go_wp2_with fail
  go_loopw [5] (fun i wr => ∃ (j : Nat), j ≤ xs.length ∧ i = .int .i64 j ∧ Below w.heap.size w wr) (fun i _ => ((xs.length : Int) - intOf i).toNat)
  case atStart => exact ⟨0, by omega, rfl, Below.refl _ _⟩
  case round =>
    obtain ⟨j, hj, rfl, hbw⟩ := hrel
    by_cases hlt : (j : Int) < xs.length
    · have hne : xs ≠ [] := by intro e; rw [e, List.length_nil] at hlt; omega
      obtain ⟨b, o, rfl, h4⟩ := h3 hne
      obtain ⟨b', o', rfl, h4'⟩ := h3' hne
      have c0 := cell_later hbw (h4 j (by omega)).1
      have c1 := cell_later hbw (h4 j (by omega)).2
      have d0 := cell_later hbw (h4' j (by omega)).1
      have d1 := cell_later hbw (h4' j (by omega)).2
      clear h4 h3 h4' h3'
      go_wp2_with fail
      go_region
      all_goals
        go_wp2_with fail
        go_roundw
        case rel => exact ⟨j + 1, by omega, by go_num, hbw.drew⟩
        case measure => simp [intOf]; omega
    · have hjk : j = xs.length := by omega
      subst hjk
      go_wp2_with fail
      go_ret
      exact ⟨rfl, hbw⟩

/-- The chapter's example, as it is given, and ordered. -/
def ex0 : List (Int × Int) := [(5, 1), (3, 2), (5, 0)]
def ex1 : List (Int × Int) := [(3, 2), (5, 0), (5, 1)]
theorem ex_srt : srt ex0 = ex1 := by decide
theorem ex_may : mayB ex1 = true := by decide
theorem ex_qOf : qOf ex1 = ex1 := by unfold qOf; rw [if_pos ex_may]

set_option maxHeartbeats 1000000 in
set_option maxRecDepth 100000 in
theorem awake_any (w : World) : Calls Try.prog 10 #[] w fun e w' => e = .returned (.bool true) ∧ Below w.heap.size w w' := by
  have b0 : Below w.heap.size w (w.alloc (.cells #[.int .i64 5, .int .i64 1, .int .i64 3, .int .i64 2, .int .i64 5, .int .i64 0] 24)) := (Below.refl _ _).alloc (Nat.le_refl _) _
  have i0 : Its (w.alloc (.cells #[.int .i64 5, .int .i64 1, .int .i64 3, .int .i64 2, .int .i64 5, .int .i64 0] 24)) (.slice (some ⟨w.heap.size, 0, none⟩) 3 3) ex0 :=
    (Its.own (World.ownsRow_lit (base := 0) (e := 24) (size := 2) w #[.int .i64 5, .int .i64 1, .int .i64 3, .int .i64 2, .int .i64 5, .int .i64 0] 3 (Nat.zero_le _) (by decide) rfl)).1
  go_enter Try.func10, Try.ntmps10
  go_wp2_with fail
  refine (sort_any ex0 _ _ i0 (by decide)).mono ?_
  rintro e w1 ⟨v, rfl, hown, hb1⟩
  rw [ex_srt] at hown
  have HI : Hid (Its w1 v ex1 ∧ Below w.heap.size w w1) := ⟨(Its.own hown).1, below_next b0 hb1 (by simp)⟩
  clear hown hb1 i0 b0
  go_wp2_with fail
  refine (min_any ex1 v w1 HI.out.1).mono ?_
  rintro e w2 ⟨rfl, hb2⟩
  rw [ex_qOf]
  rw [show atI ex1 0 = (3, 2) from rfl, show decide (0 < ex1.length) = true from rfl]
  have b2 : Below w1.heap.size w1 (w2.alloc (.cells #[.int .i64 3, .int .i64 2] 24)) := hb2.alloc hb2.size _
  have hs2 := hb2.size
  have HB : Hid (Its (w2.alloc (.cells #[.int .i64 3, .int .i64 2] 24)) v ex1 ∧ Below w.heap.size w (w2.alloc (.cells #[.int .i64 3, .int .i64 2] 24))) := ⟨HI.out.1.later b2, below_next HI.out.2 b2 HI.out.2.size⟩
  clear HI hb2 b2
  unfold itV
  go_wp2_with fail
  refine (may_any ex1 v _ HB.out.1).mono ?_
  rintro e w3 ⟨rfl, hb3⟩
  rw [ex_may]
  have c1 := cell_later (p := ⟨w2.heap.size, 1, none⟩) hb3 (by simp; rfl)
  have H3 : Hid (Its w3 v ex1 ∧ Below w.heap.size w w3) := ⟨HB.out.1.later hb3, below_next HB.out.2 hb3 HB.out.2.size⟩
  have l3 : w2.heap.size < w3.heap.size := World.block_lt_of_cell? _ _ c1
  clear HB hb3
  have b3 : Below w3.heap.size w3 (w3.alloc (.cells #[.int .i64 3, .int .i64 2, .int .i64 5, .int .i64 0, .int .i64 5, .int .i64 1] 24)) := (Below.refl _ _).alloc (Nat.le_refl _) _
  have i3 : Its (w3.alloc (.cells #[.int .i64 3, .int .i64 2, .int .i64 5, .int .i64 0, .int .i64 5, .int .i64 1] 24)) (.slice (some ⟨w3.heap.size, 0, none⟩) 3 3) ex1 :=
    (Its.own (World.ownsRow_lit (base := 0) (e := 24) (size := 2) w3 #[.int .i64 3, .int .i64 2, .int .i64 5, .int .i64 0, .int .i64 5, .int .i64 1] 3 (Nat.zero_le _) (by decide) rfl)).1
  go_wp2_with fail
  refine (same_eq ex1 v _ _ (H3.out.1.later b3) i3 (by decide)).mono ?_
  rintro e w4 ⟨rfl, hb4⟩
  have c1 := cell_later hb4 (cell_later b3 c1)
  have H4 : Hid (Below w.heap.size w w4) := below_next (below_next H3.out.2 b3 H3.out.2.size) hb4 (by have := H3.out.2.size; simp; omega)
  clear H3 hb4 b3 i3
  go_wp2_with fail
  go_ret
  exact ⟨rfl, H4.out⟩
end Go.Proofs.Ytpefigaaeiaioaa
