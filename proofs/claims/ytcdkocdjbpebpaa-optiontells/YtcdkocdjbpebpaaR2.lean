/- Walks of package ring: May, viewOf. -/
import Derived.Test.YtcdkocdjbpebpaaR1
import Derived.Deep.RegionWith
namespace Go.Proofs.Ytcdkocdjbpebpaa
open Go.RowKit

set_option maxHeartbeats 1000000 in
set_option maxRecDepth 100000 in
theorem rmay_any (N B : Int) (w : World) :
    Calls Try.prog 19 #[.agg #[.int .i64 N, .int .u64 B]] w fun e w' => e = .returned (.bool (mayR N B)) ∧ Below w.heap.size w w' := by
  by_cases c0 : 0 ≤ N
  · by_cases c1 : N ≤ 60
    · have H : Hid (mayR N B = (B / 2 ^ N.toNat == 0)) := by show _ = _; unfold mayR; simp [c0, c1]; rfl
      go_enter Try.func19, Try.ntmps19
      go_wp2
      go_ret
      exact ⟨ret_b H.out.symm, (Below.refl _ _).alloc (by simp) _⟩
    · have H : Hid (mayR N B = false) := by show _ = _; unfold mayR; simp [c1]
      go_enter Try.func19, Try.ntmps19
      go_wp2
      go_ret
      exact ⟨ret_b H.out.symm, (Below.refl _ _).alloc (by simp) _⟩
  · have H : Hid (mayR N B = false) := by show _ = _; unfold mayR; simp [c0]
    go_enter Try.func19, Try.ntmps19
    go_wp2
    go_ret
    exact ⟨ret_b H.out.symm, (Below.refl _ _).alloc (by simp) _⟩

set_option maxHeartbeats 1000000 in
set_option maxRecDepth 100000 in
theorem viewOf_any (N B : Int) (w : World) (b0 : 0 ≤ B) :
    Calls Try.prog 33 #[.agg #[.int .i64 N, .int .u64 B]] w fun e w' => e = .returned (ringV (ringOf N B)) ∧ Below w.heap.size w w' := by
  cases h : mayR N B
  · have H : Hid (mayR N B = false) := h
    have H0 : Hid (ringOf N B = []) := ringOf_no h
    clear h
    go_enter Try.func33, Try.ntmps33
    go_wp2_with fail
    refine (rmay_any _ _ _).mono ?_
    rintro e w1 ⟨rfl, hb1⟩
    rw [H.out]
    have c0 : w1.cell? ⟨w.heap.size + 1, 0, none⟩ = some (.int .i64 0) := (hb1.cell (p := ⟨w.heap.size + 1, 0, none⟩) (by simp)).trans (by simp)
    have c1 : w1.cell? ⟨w.heap.size + 1, 1, none⟩ = some (.int .u64 0) := (hb1.cell (p := ⟨w.heap.size + 1, 1, none⟩) (by simp)).trans (by simp)
    have f0 : w1.frozen? ⟨w.heap.size + 1, 0, none⟩ = false := (hb1.frozen (p := ⟨w.heap.size + 1, 0, none⟩) (by simp)).trans (by simp)
    have f1 : w1.frozen? ⟨w.heap.size + 1, 1, none⟩ = false := (hb1.frozen (p := ⟨w.heap.size + 1, 1, none⟩) (by simp)).trans (by simp)
    have hb : Below w.heap.size w w1 := (((Below.refl _ _).alloc (by simp) _).alloc (by simp) _).trans (hb1.mono (by simp; omega))
    clear hb1
    go_wp2
    refine bodyPost_ret (v := ringV []) ?_ rfl ⟨by rw [H0.out], ?_⟩
    · simp [results, Try.results33, go_sem, ringV, val, c0, c1]
    · exact (hb.setCell (by simp) _).setCell (by simp) _
  · have H : Hid (mayR N B = true) := h
    have H0 : Hid (N = (ringOf N B).length ∧ B = val (ringOf N B)) := ring_open h b0
    clear h
    go_enter Try.func33, Try.ntmps33
    go_wp2_with fail
    refine (rmay_any _ _ _).mono ?_
    rintro e w1 ⟨rfl, hb1⟩
    rw [H.out]
    have c0 : w1.cell? ⟨w.heap.size + 1, 0, none⟩ = some (.int .i64 0) := (hb1.cell (p := ⟨w.heap.size + 1, 0, none⟩) (by simp)).trans (by simp)
    have c1 : w1.cell? ⟨w.heap.size + 1, 1, none⟩ = some (.int .u64 0) := (hb1.cell (p := ⟨w.heap.size + 1, 1, none⟩) (by simp)).trans (by simp)
    have f0 : w1.frozen? ⟨w.heap.size + 1, 0, none⟩ = false := (hb1.frozen (p := ⟨w.heap.size + 1, 0, none⟩) (by simp)).trans (by simp)
    have f1 : w1.frozen? ⟨w.heap.size + 1, 1, none⟩ = false := (hb1.frozen (p := ⟨w.heap.size + 1, 1, none⟩) (by simp)).trans (by simp)
    have a0 : w1.cell? ⟨w.heap.size, 0, none⟩ = some (.int .i64 N) := (hb1.cell (p := ⟨w.heap.size, 0, none⟩) (by simp; omega)).trans (by simp)
    have a1 : w1.cell? ⟨w.heap.size, 1, none⟩ = some (.int .u64 B) := (hb1.cell (p := ⟨w.heap.size, 1, none⟩) (by simp; omega)).trans (by simp)
    have hb : Below w.heap.size w w1 := (((Below.refl _ _).alloc (by simp) _).alloc (by simp) _).trans (hb1.mono (by simp; omega))
    clear hb1
    go_wp2
    refine bodyPost_ret (v := .agg #[.int .i64 N, .int .u64 B]) ?_ rfl ⟨?_, ?_⟩
    · simp [results, Try.results33, go_sem, c0, c1]
    · show _ = Ending.returned (.agg #[.int .i64 ((ringOf N B).length : Int), .int .u64 (val (ringOf N B) : Int)]); rw [← H0.out.1, ← H0.out.2]
    · exact (hb.setCell (by simp) _).setCell (by simp) _
end Go.Proofs.Ytcdkocdjbpebpaa
