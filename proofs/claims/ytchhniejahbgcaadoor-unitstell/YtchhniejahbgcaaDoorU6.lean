/- The chapter's example of chapter 6. -/
import Derived.Test.YtchhniejahbgcaaDoorU2
import Derived.Test.YtchhniejahbgcaaDoorU4
namespace Go.Proofs.YtchhniejahbgcaaDoor
open Go.RowKit

theorem nums_two (w : World) (a b : Int) : Nums (w.alloc (.cells #[.int .i64 a, .int .i64 b] 3)) (.slice (some ⟨w.heap.size, 0, none⟩) 2 2) [a, b] :=
  ⟨_, 2, rfl, by simp, by decide, fun _ => ⟨w.heap.size, 0, rfl, fun i hi => by
    match i, hi with
    | 0, _ => simp
    | 1, _ => simp⟩⟩
theorem nums_one (w : World) (a : Int) : Nums (w.alloc (.cells #[.int .i64 a] 3)) (.slice (some ⟨w.heap.size, 0, none⟩) 1 1) [a] :=
  ⟨_, 1, rfl, by simp, by decide, fun _ => ⟨w.heap.size, 0, rfl, fun i hi => by
    match i, hi with
    | 0, _ => simp⟩⟩

theorem one_top : atV ⟨2, 10, 20, 1, 2, 3⟩ 10 = 104858 := by decide
theorem one_least : leastV ⟨2, 10, 20, 1, 2, 3⟩ = 52429 := by decide

set_option maxHeartbeats 1000000 in
set_option maxRecDepth 100000 in
theorem awake6_any (w : World) (hL : Lim w) :
    Calls Tryd.prog 8 #[] w fun e w' => e = .returned (.bool true) ∧ Below w.heap.size w w' := by
  have HL : Hid (Lim w) := hL
  clear hL
  have hb0 : ∀ o, Below w.heap.size w (w.alloc o) := fun o => (Below.refl _ _).alloc (Nat.le_refl _) o
  go_enter Tryd.func8, Tryd.ntmps8
  go_wp2_with fail
  refine (sum_any [1, 2] _ _ (nums_two w 1 2) (HL.out.later (hb0 _))).mono ?_
  rintro e w1 ⟨rfl, rfl⟩
  rw [show sumV [1, 2] = 3 by decide, show sumB [1, 2] = true by decide]
  have HB : Hid (Below w.heap.size w (w.alloc (.cells #[.int .i64 1, .int .i64 2] 3))) := hb0 _
  generalize w.alloc (.cells #[.int .i64 1, .int .i64 2] 3) = W at *
  clear hb0
  go_wp2_with fail
  refine (spone_any _).mono ?_
  rintro e w2 ⟨rfl, hb2⟩
  have HB2 : Hid (Below w.heap.size w w2) := HB.out.trans (hb2.mono HB.out.size)
  clear hb2 HB
  unfold spV
  go_wp2_with fail
  refine (top_any _ _ _ _ _ _ _).mono ?_
  rintro e w3 ⟨rfl, hb3⟩
  have HB3 : Hid (Below w.heap.size w w3) := HB2.out.trans (hb3.mono HB2.out.size)
  clear hb3 HB2
  rw [one_top]
  go_wp2_with fail
  refine (spone_any _).mono ?_
  rintro e w4 ⟨rfl, hb4⟩
  have HB4 : Hid (Below w.heap.size w w4) := HB3.out.trans (hb4.mono HB3.out.size)
  clear hb4 HB3
  unfold spV
  go_wp2_with fail
  refine (least_any _ _ _ _ _ _ _).mono ?_
  rintro e w5 ⟨rfl, hb5⟩
  have HB5 : Hid (Below w.heap.size w w5) := HB4.out.trans (hb5.mono HB4.out.size)
  clear hb5 HB4
  rw [one_least]
  go_wp2_with fail
  have b6 : Below w.heap.size w (w5.alloc (.cells #[.int .i64 983041] 3)) := HB5.out.alloc HB5.out.size _
  refine (fits_any [983041] _ _ (nums_one w5 983041) (HL.out.later b6)).mono ?_
  rintro e w6 ⟨rfl, rfl⟩
  rw [show fitB6 [983041] = false by decide]
  go_wp2
  go_ret
  exact ⟨rfl, b6⟩
end Go.Proofs.YtchhniejahbgcaaDoor
