/- The chapter's example of chapter 14. -/
import Derived.Test.YtkaobjcghmigmaaN19
import Derived.Test.YtkaobjcghmigmaaF1
namespace Go.Proofs.Ytkaobjcghmigmaa
open Go.RowKit

/-- Are two options the same? -/
def eqO (x y : Int × Int × Int) : Bool := decide (x.1 = y.1) && (decide (x.2.1 = y.2.1) && decide (x.2.2 = y.2.2))
theorem eqO_self (x : Int × Int × Int) : eqO x x = true := by simp [eqO]
theorem eqO_iff {x y : Int × Int × Int} : eqO x y = true ↔ x = y := by
  obtain ⟨a, b, c⟩ := x
  obtain ⟨d, e, f⟩ := y
  simp [eqO]
set_option maxHeartbeats 1000000 in
theorem op_eql (a b c d e f : Int) (w : World) : (binOp .eql 24 (.agg #[.int .i64 a, .int .i64 b, .int .i64 c]) (.agg #[.int .i64 d, .int .i64 e, .int .i64 f])).run Try.prog w = .ok (.bool (eqO (a, b, c) (d, e, f))) w := by
  unfold eqO
  by_cases h0 : a = d
  rotate_left
  · simp [go_sem, h0]
  by_cases h1 : b = e
  rotate_left
  · simp [go_sem, h0, h1]
  by_cases h2 : c = f
  rotate_left
  · simp [go_sem, h0, h1, h2]
  simp [go_sem, h0, h1, h2]
set_option maxHeartbeats 1000000 in
theorem op_neq (a b c d e f : Int) (w : World) : (binOp .neq 24 (.agg #[.int .i64 a, .int .i64 b, .int .i64 c]) (.agg #[.int .i64 d, .int .i64 e, .int .i64 f])).run Try.prog w = .ok (.bool (!eqO (a, b, c) (d, e, f))) w := by
  unfold eqO
  by_cases h0 : a = d
  rotate_left
  · simp [go_sem, h0]
  by_cases h1 : b = e
  rotate_left
  · simp [go_sem, h0, h1]
  by_cases h2 : c = f
  rotate_left
  · simp [go_sem, h0, h1, h2]
  simp [go_sem, h0, h1, h2]

def twoO (i : Nat) : Int × Int × Int := if i = 0 then (2, 5, 1) else (1, 9, 2)
theorem ops_two (w : World) : Ops (w.alloc (.cells #[.int .i64 2, .int .i64 5, .int .i64 1, .int .i64 1, .int .i64 9, .int .i64 2] 24)) (.slice (some ⟨w.heap.size, 0, none⟩) 2 2) 2 twoO := by
  refine ⟨_, 2, rfl, by omega, by decide, fun h => by simp at h, fun _ => ⟨_, 0, rfl, fun i hi => ?_⟩⟩
  rcases (show i = 0 ∨ i = 1 by omega) with rfl | rfl
  · exact ⟨by simp [twoO], by simp [twoO], by simp [twoO]⟩
  · exact ⟨by simp [twoO], by simp [twoO], by simp [twoO]⟩
theorem fst_two : IsFst twoO 2 1 := by
  refine ⟨by omega, fun t ht => ?_, fun t ht => ?_⟩
  · rcases (show t = 0 ∨ t = 1 by omega) with rfl | rfl <;> decide
  · obtain rfl : t = 0 := by omega
    decide
theorem far_two : FarIs 0 0 1 2 2 := by
  refine Or.inr ⟨by omega, by omega, by omega, 2, rfl, ?_⟩
  refine ⟨by decide, by decide, fun i hi => ?_⟩
  rcases (show i = 0 ∨ i = 1 by omega) with rfl | rfl <;> decide

set_option maxHeartbeats 4000000 in
set_option maxRecDepth 100000 in
theorem awake14_any (w : World) : Calls Try.prog 8 #[] w fun e w' => e = .returned (.bool true) ∧ Below w.heap.size w w' := by
  have HO : Hid (Ops (w.alloc (.cells #[.int .i64 2, .int .i64 5, .int .i64 1, .int .i64 1, .int .i64 9, .int .i64 2] 24)) (.slice (some ⟨w.heap.size, 0, none⟩) 2 2) 2 twoO) := ops_two w
  have HB0 : Hid (Below w.heap.size w (w.alloc (.cells #[.int .i64 2, .int .i64 5, .int .i64 1, .int .i64 1, .int .i64 9, .int .i64 2] 24))) := below_a1 _ _
  have HC : Hid (∀ w', Below (w.alloc (.cells #[.int .i64 2, .int .i64 5, .int .i64 1, .int .i64 1, .int .i64 9, .int .i64 2] 24)).heap.size (w.alloc (.cells #[.int .i64 2, .int .i64 5, .int .i64 1, .int .i64 1, .int .i64 9, .int .i64 2] 24)) w' → w'.cell? ⟨w.heap.size, 0, none⟩ = some (.int .i64 2) ∧ w'.cell? ⟨w.heap.size, 1, none⟩ = some (.int .i64 5) ∧ w'.cell? ⟨w.heap.size, 2, none⟩ = some (.int .i64 1) ∧ w'.cell? ⟨w.heap.size, 3, none⟩ = some (.int .i64 1) ∧ w'.cell? ⟨w.heap.size, 4, none⟩ = some (.int .i64 9) ∧ w'.cell? ⟨w.heap.size, 5, none⟩ = some (.int .i64 2)) := fun w' hb => ⟨cell_later hb (by simp), cell_later hb (by simp), cell_later hb (by simp), cell_later hb (by simp), cell_later hb (by simp), cell_later hb (by simp)⟩
  go_enter Try.func8, Try.ntmps8
  go_wp2_with fail
  generalize w.alloc (.cells #[.int .i64 2, .int .i64 5, .int .i64 1, .int .i64 1, .int .i64 9, .int .i64 2] 24) = W0 at *
  refine (spone_any _).mono ?_
  rintro e w1 ⟨rfl, hb1⟩
  unfold spV
  go_wp2_with fail
  refine (of14_any 7 2 10 20 1 2 3 true 1 0 9 false 2 2 0 0 0 _ (by decide) (by decide) (by omega)).mono ?_
  rintro e w2 ⟨hb2, ⟨hF, _⟩ | ⟨_, q, hq, rfl⟩⟩
  · exact absurd hF (by decide)
  obtain rfl := hq.unique far_two
  have hb02 : Below W0.heap.size W0 w2 := hb1.trans (hb2.mono hb1.size)
  have HX : Hid (Below W0.heap.size W0 (w2.alloc (.cells #[.int .i64 2, .int .i64 9, .int .i64 7] 24)) ∧ Thr (w2.alloc (.cells #[.int .i64 2, .int .i64 9, .int .i64 7] 24)) w2.heap.size 2 9 7) := ⟨hb02.alloc hb02.size _, Thr.new _ _ _ _ _⟩
  clear hb1 hb2 hb02 hq
  have hE : ∀ w, (binOp .eql 24 (.agg #[.int .i64 2, .int .i64 9, .int .i64 7]) (.agg #[.int .i64 2, .int .i64 9, .int .i64 7])).run Try.prog w = .ok (.bool true) w := fun w => (op_eql 2 9 7 2 9 7 w).trans (by rw [eqO_self])
  go_wp2_with fail
  generalize w2.alloc (.cells #[.int .i64 2, .int .i64 9, .int .i64 7] 24) = W at *
  have MK : Hid (∀ w', Below W.heap.size W w' → (w'.cell? ⟨w.heap.size, 0, none⟩ = some (.int .i64 2) ∧ w'.cell? ⟨w.heap.size, 1, none⟩ = some (.int .i64 5) ∧ w'.cell? ⟨w.heap.size, 2, none⟩ = some (.int .i64 1) ∧ w'.cell? ⟨w.heap.size, 3, none⟩ = some (.int .i64 1) ∧ w'.cell? ⟨w.heap.size, 4, none⟩ = some (.int .i64 9) ∧ w'.cell? ⟨w.heap.size, 5, none⟩ = some (.int .i64 2) ∧ w'.cell? ⟨w2.heap.size, 0, none⟩ = some (.int .i64 2) ∧ w'.cell? ⟨w2.heap.size, 1, none⟩ = some (.int .i64 9) ∧ w'.cell? ⟨w2.heap.size, 2, none⟩ = some (.int .i64 7)) ∧ Below W.heap.size W w') := fun w' hb => by
    have h := HC.out w' (HX.out.1.trans (hb.mono HX.out.1.size))
    have h2 := HX.out.2.later hb
    exact ⟨⟨h.1, h.2.1, h.2.2.1, h.2.2.2.1, h.2.2.2.2.1, h.2.2.2.2.2, h2.1, h2.2.1, h2.2.2⟩, hb⟩
  have HF : Hid (∀ w', Below W.heap.size W w' → Calls Try.prog 16 #[.slice (some ⟨w.heap.size, 0, none⟩) 2 2] w' fun e w'' => e = .returned (.int .i64 1) ∧ Below w'.heap.size w' w'') := fun w' hb => by
    refine (first14_any 2 twoO _ w' (HO.out.later (HX.out.1.trans (hb.mono HX.out.1.size))) (by omega)).mono ?_
    rintro e w'' ⟨r, rfl, ⟨h0, _⟩ | ⟨k, rfl, hk⟩, hb'⟩
    · omega
    · rw [hk.unique fst_two]; exact ⟨rfl, hb'⟩
  have HLs : Hid (ltO (1, 9, 2) (2, 5, 1) = true) := by show _ = _; decide
  go_region_held3 (fun w' => (w'.cell? ⟨w.heap.size, 0, none⟩ = some (.int .i64 2) ∧ w'.cell? ⟨w.heap.size, 1, none⟩ = some (.int .i64 5) ∧ w'.cell? ⟨w.heap.size, 2, none⟩ = some (.int .i64 1) ∧ w'.cell? ⟨w.heap.size, 3, none⟩ = some (.int .i64 1) ∧ w'.cell? ⟨w.heap.size, 4, none⟩ = some (.int .i64 9) ∧ w'.cell? ⟨w.heap.size, 5, none⟩ = some (.int .i64 2) ∧ w'.cell? ⟨w2.heap.size, 0, none⟩ = some (.int .i64 2) ∧ w'.cell? ⟨w2.heap.size, 1, none⟩ = some (.int .i64 9) ∧ w'.cell? ⟨w2.heap.size, 2, none⟩ = some (.int .i64 7)) ∧ Below W.heap.size W w')
    (first | assumption | exact MK.out _ (bstep (by assumption) (sBel (by assumption))) | exact MK.out _ (Below.refl _ _).drew)
    (first | (go_at_call 16; refine (HF.out _ (sBel (by assumption))).mono ?_; rintro e w6 ⟨rfl, hb6⟩) | (go_at_call 11; refine (less14_any 1 9 2 2 5 1 _).mono ?_; rintro e w7 ⟨rfl, hb7⟩; rw [HLs.out]))
  all_goals
    go_wp2
    go_ret
    exact ⟨rfl, (HB0.out.trans (HX.out.1.mono HB0.out.size)).trans ((sBel (by assumption)).mono (HB0.out.trans (HX.out.1.mono HB0.out.size)).size)⟩
end Go.Proofs.Ytkaobjcghmigmaa
