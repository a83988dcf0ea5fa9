/- Walks of package ring: outcomes, Good, Fine and Far. -/
import Derived.Test.YtiagcihghalomaaR4
namespace Go.Proofs.Ytiagcihghalomaa
open Go.RowKit

set_option maxHeartbeats 1000000 in
set_option maxRecDepth 100000 in
theorem outcomes_any (zs : List Bool) (w : World) :
    Calls Try.prog 27 #[.agg #[.int .i64 zs.length, .int .u64 (val zs)]] w fun e w' => e = .returned (tellV w.heap.size) ∧ w' = w.alloc (.cells #[.int .i64 zs.length, .int .u64 (val zs)] 43) := by
  go_enter Try.func27, Try.ntmps27
  go_wp2
  go_ret
  exact ⟨rfl, rfl⟩

theorem count0_any (zs : List Bool) (b : Nat) (t : Int) (w : World) (hl : zs.length ≤ 60) (ht : t ≤ 100)
    (c0 : w.cell? ⟨b, 0, none⟩ = some (.int .i64 zs.length)) (c1 : w.cell? ⟨b, 1, none⟩ = some (.int .u64 (val zs))) :
    Calls Try.prog 28 #[tellV b, .int .i64 0, .int .i64 t] w fun e w' => e = .returned (.int .i64 (cntR zs 0 t)) ∧ w' = w :=
  count_any zs b 0 t w hl (by omega) ht c0 c1

/-- How many of the last n are good. -/
def goodR (zs : List Bool) (n : Int) : Nat := cntR zs 0 (if (zs.length : Int) < n then zs.length else n)

set_option maxHeartbeats 1000000 in
set_option maxRecDepth 100000 in
theorem good_any (N B n : Int) (w : World) (b0 : 0 ≤ B) :
    Calls Try.prog 18 #[.agg #[.int .i64 N, .int .u64 B], .int .i64 n] w fun e w' => e = .returned (.int .i64 (goodR (ringOf N B) n)) ∧ Below w.heap.size w w' := by
  go_enter Try.func18, Try.ntmps18
  go_wp2_with fail
  refine (viewOf_any _ _ _ b0).mono ?_
  rintro e w1 ⟨rfl, hb1⟩
  have hl := ringOf_len N B
  generalize hz : ringOf N B = zs at *
  have HZ : Hid (ringOf N B = zs) := hz
  clear hz
  have hv := val_bd hl
  have hb : Below w.heap.size w w1 := ((Below.refl _ _).alloc (by simp) _).trans (hb1.mono (by simp))
  clear hb1
  unfold ringV
  have hm : (if (zs.length : Int) < n then (zs.length : Int) else n) ≤ 100 := by split <;> omega
  have HG : Hid (goodR (ringOf N B) n = cntR zs 0 (if (zs.length : Int) < n then (zs.length : Int) else n)) := by show _ = _; rw [HZ.out]; rfl
  obtain ⟨t, ht⟩ : ∃ t, (if (zs.length : Int) < n then (zs.length : Int) else n) = t := ⟨_, rfl⟩
  rw [ht] at hm HG
  have s1 := hb.size
  go_wp2_with fail
  go_region_with (first
    | (go_at_call 27; refine (outcomes_any zs _).mono ?_; rintro e w2 ⟨rfl, rfl⟩)
    | (go_at_call 28; refine (count0_any zs _ t _ hl hm (by simp) (by simp)).mono ?_; rintro e w3 ⟨rfl, rfl⟩))
  all_goals
    go_wp2
    go_ret
    exact ⟨by rw [HG.out]; rfl, ((hb.alloc (by omega) _).alloc (by simp; omega) _).drew⟩
end Go.Proofs.Ytiagcihghalomaa
