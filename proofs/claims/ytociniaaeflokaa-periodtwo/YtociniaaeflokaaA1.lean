/- Walks of package pat, for all arguments: May, On, Count and Most. -/
import Derived.Test.YtociniaaeflokaaW1
import Derived.ChangeKeysEq
import Derived.Lib.Mul64
import Derived.Deep.RegionWith
namespace Go.Proofs.Ytociniaaeflokaa
open Go.RowKit

def mayB (m k : Int) : Bool := decide (1 ≤ m ∧ m ≤ k ∧ k ≤ 6)
set_option maxHeartbeats 1000000 in
set_option maxRecDepth 100000 in
theorem may_any (m k : Int) (w : World) :
    Calls Try.prog 55 #[.int .i64 m, .int .i64 k] w fun e w' => e = .returned (.bool (mayB m k)) ∧ w' = w := by
  by_cases c0 : 1 ≤ m
  · by_cases c1 : m ≤ k
    · have H : Hid (mayB m k = decide (k ≤ 6)) := by show _ = _; unfold mayB; simp [c0, c1]
      go_enter Try.func55, Try.ntmps55
      go_wp2
      go_ret
      exact ⟨ret_b H.out.symm, rfl⟩
    · have H : Hid (mayB m k = false) := by show _ = _; unfold mayB; simp [c1]
      go_enter Try.func55, Try.ntmps55
      go_wp2
      go_ret
      exact ⟨ret_b H.out.symm, rfl⟩
  · have H : Hid (mayB m k = false) := by show _ = _; unfold mayB; simp [c0]
    go_enter Try.func55, Try.ntmps55
    go_wp2
    go_ret
    exact ⟨ret_b H.out.symm, rfl⟩

theorem mayB_of {m k : Int} (h : mayB m k = true) : 1 ≤ m ∧ m ≤ k ∧ k ≤ 6 := of_decide_eq_true h
end Go.Proofs.Ytociniaaeflokaa
