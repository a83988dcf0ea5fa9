/- The chapter's example of chapter 8. -/
import Derived.Test.YtociniaaeflokaaB7
import Derived.Test.YtociniaaeflokaaU6
namespace Go.Proofs.Ytociniaaeflokaa
open Go.RowKit Go.Shelf

theorem one_of : ofO ⟨2, 10, 20, 1, 2, 3⟩ 60000 = some 18 := by decide
theorem one_ofP : ofP ⟨2, 10, 20, 1, 2, 3⟩ 60000 = 18 := by unfold ofP; rw [one_of]; rfl
theorem one_ofB : ofB ⟨2, 10, 20, 1, 2, 3⟩ 60000 = true := by unfold ofB; rw [one_of]; rfl
theorem one_all : (allL ⟨2, 10, 20, 1, 2, 3⟩).length = 11 := by decide
theorem one_ends : endsL ⟨2, 10, 20, 1, 2, 3⟩ 10 5 25 = [15, 25] := by decide

set_option maxHeartbeats 1000000 in
set_option maxRecDepth 100000 in
theorem awake8_any (w : World) : Calls Try.prog 8 #[] w fun e w' => e = .returned (.bool true) ∧ Below w.heap.size w w' := by
  go_enter Try.func8, Try.ntmps8
  go_wp2_with fail
  refine (spone_any _).mono ?_
  rintro e w1 ⟨rfl, hb1⟩
  unfold spV
  go_wp2_with fail
  refine (perOf_any _ _ _ _ _ _ _ _).mono ?_
  rintro e w2 ⟨rfl, hb2⟩
  replace hb2 := hb1.trans (hb2.mono hb1.size)
  clear hb1
  rw [one_ofP, one_ofB]
  go_wp2_with fail
  refine (spone_any _).mono ?_
  rintro e w3 ⟨rfl, hb3⟩
  replace hb3 := hb2.trans (hb3.mono hb2.size)
  clear hb2
  unfold spV
  go_wp2_with fail
  refine (perAll_any _ _ _ _ _ _ _).mono ?_
  rintro e w4 ⟨v, rfl, hv, hb4⟩
  obtain ⟨a, cap, rfl, _⟩ := hv.nums
  replace hb4 := hb3.trans (hb4.mono hb3.size)
  clear hb3 hv
  rw [one_all]
  go_wp2_with fail
  refine (spone_any _).mono ?_
  rintro e w5 ⟨rfl, hb5⟩
  replace hb5 := hb4.trans (hb5.mono hb4.size)
  clear hb4
  unfold spV
  go_wp2_with fail
  refine (perEnds_any _ _ _ _ _ _ _ _ _ _).mono ?_
  rintro e w6 ⟨v, rfl, hv, hb6⟩
  have hn := hv.nums
  replace hb6 := hb5.trans (hb6.mono hb5.size)
  clear hb5 hv
  go_wp2_with fail
  have hx : (endsL ⟨2, 10, 20, 1, 2, 3⟩ 10 5 25).length ≤ 100000 := by rw [one_ends]; decide
  refine (ints_any _ [15, 25] v _ _ (hn.later ((Below.refl _ _).alloc (Nat.le_refl _) _)) (nums_two w6 15 25) hx).mono ?_
  rintro e w7 ⟨rfl, hb7⟩
  replace hb7 : Below w.heap.size w w7 := (hb6.alloc hb6.size _).trans (hb7.mono (by have := hb6.size; simp; omega))
  rw [one_ends]
  go_wp2_with fail
  go_ret
  exact ⟨rfl, hb7⟩
end Go.Proofs.Ytociniaaeflokaa
