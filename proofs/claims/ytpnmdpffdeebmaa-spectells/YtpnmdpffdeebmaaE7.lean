/- Walks of package spec: what sets a description's numbers. -/
import Derived.Test.YtpnmdpffdeebmaaE5
namespace Go.Proofs.Ytpnmdpffdeebmaa
open Go.RowKit

/-- The description that bytes tell; if they are not six, one that may not be. -/
def gotS (ks : List Int) : Sp := if ks.length = 6 then ⟨ks.getD 0 0, ks.getD 1 0, ks.getD 2 0, ks.getD 3 0, ks.getD 4 0, ks.getD 5 0⟩ else spZ
theorem spZ_no : maySp spZ = false := by decide
theorem len6 {ks : List Int} (h : ks.length = 6) : ∃ k0 k1 k2 k3 k4 k5, ks = [k0, k1, k2, k3, k4, k5] := by
  match ks, h with
  | [k0, k1, k2, k3, k4, k5], _ => exact ⟨k0, k1, k2, k3, k4, k5, rfl⟩
/-- Of a description the first numbers, else zeros. -/
def gN (s : Sp) (j i : Nat) : Int := if i < j then s.at i else 0
theorem Six.step {w : World} {b j : Nat} {s : Sp} (h : Six w b (gN s j)) (hj : j < 6) : Six (w.setCell ⟨b, j, none⟩ (.int .i64 (s.at j))) b (gN s (j + 1)) := by
  refine h.set j hj _ (by unfold gN; rw [if_pos (by omega)]) fun i hi hne => ?_
  unfold gN
  by_cases c : i < j
  · rw [if_pos c, if_pos (by omega)]
  · rw [if_neg c, if_neg (by omega)]
theorem Six.all {w : World} {b : Nat} {s : Sp} (h : Six w b (gN s 6)) : Six w b s.at := by
  intro i hi
  have := h i hi
  unfold gN at this
  rwa [if_pos hi] at this
theorem Six.zero {w : World} {b : Nat} (s : Sp) (h : Six w b (Sp.at ⟨0, 0, 0, 0, 0, 0⟩)) : Six w b (gN s 0) := by
  intro i hi
  have := h i hi
  rcases (show i = 0 ∨ i = 1 ∨ i = 2 ∨ i = 3 ∨ i = 4 ∨ i = 5 by omega) with rfl | rfl | rfl | rfl | rfl | rfl <;> exact this

set_option maxHeartbeats 1000000 in
set_option maxRecDepth 100000 in
theorem set0_any (b : Nat) (n : Int) (f : Nat → Int) (w : World) (h : Six w b f) :
    Calls Try.prog 23 #[.pointer (some ⟨b, 0, none⟩), .int .i64 n] w fun r w' => r = .returned (.tuple #[]) ∧ w' = w.setCell ⟨b, 0, none⟩ (.int .i64 n) := by
  obtain ⟨h1, h2⟩ := h 0 (by omega)
  clear h
  go_enter Try.func23, Try.ntmps23
  go_wp2
  exact bodyPost_end (results_none rfl _ _ _) rfl ⟨rfl, rfl⟩

set_option maxHeartbeats 1000000 in
set_option maxRecDepth 100000 in
theorem set1_any (b : Nat) (n : Int) (f : Nat → Int) (w : World) (h : Six w b f) :
    Calls Try.prog 27 #[.pointer (some ⟨b, 0, none⟩), .int .i64 n] w fun r w' => r = .returned (.tuple #[]) ∧ w' = w.setCell ⟨b, 1, none⟩ (.int .i64 n) := by
  obtain ⟨h1, h2⟩ := h 1 (by omega)
  clear h
  go_enter Try.func27, Try.ntmps27
  go_wp2
  exact bodyPost_end (results_none rfl _ _ _) rfl ⟨rfl, rfl⟩

set_option maxHeartbeats 1000000 in
set_option maxRecDepth 100000 in
theorem set2_any (b : Nat) (n : Int) (f : Nat → Int) (w : World) (h : Six w b f) :
    Calls Try.prog 31 #[.pointer (some ⟨b, 0, none⟩), .int .i64 n] w fun r w' => r = .returned (.tuple #[]) ∧ w' = w.setCell ⟨b, 2, none⟩ (.int .i64 n) := by
  obtain ⟨h1, h2⟩ := h 2 (by omega)
  clear h
  go_enter Try.func31, Try.ntmps31
  go_wp2
  exact bodyPost_end (results_none rfl _ _ _) rfl ⟨rfl, rfl⟩

set_option maxHeartbeats 1000000 in
set_option maxRecDepth 100000 in
theorem set3_any (b : Nat) (n : Int) (f : Nat → Int) (w : World) (h : Six w b f) :
    Calls Try.prog 34 #[.pointer (some ⟨b, 0, none⟩), .int .i64 n] w fun r w' => r = .returned (.tuple #[]) ∧ w' = w.setCell ⟨b, 3, none⟩ (.int .i64 n) := by
  obtain ⟨h1, h2⟩ := h 3 (by omega)
  clear h
  go_enter Try.func34, Try.ntmps34
  go_wp2
  exact bodyPost_end (results_none rfl _ _ _) rfl ⟨rfl, rfl⟩

set_option maxHeartbeats 1000000 in
set_option maxRecDepth 100000 in
theorem set4_any (b : Nat) (n : Int) (f : Nat → Int) (w : World) (h : Six w b f) :
    Calls Try.prog 37 #[.pointer (some ⟨b, 0, none⟩), .int .i64 n] w fun r w' => r = .returned (.tuple #[]) ∧ w' = w.setCell ⟨b, 4, none⟩ (.int .i64 n) := by
  obtain ⟨h1, h2⟩ := h 4 (by omega)
  clear h
  go_enter Try.func37, Try.ntmps37
  go_wp2
  exact bodyPost_end (results_none rfl _ _ _) rfl ⟨rfl, rfl⟩

set_option maxHeartbeats 1000000 in
set_option maxRecDepth 100000 in
theorem set5_any (b : Nat) (n : Int) (f : Nat → Int) (w : World) (h : Six w b f) :
    Calls Try.prog 39 #[.pointer (some ⟨b, 0, none⟩), .int .i64 n] w fun r w' => r = .returned (.tuple #[]) ∧ w' = w.setCell ⟨b, 5, none⟩ (.int .i64 n) := by
  obtain ⟨h1, h2⟩ := h 5 (by omega)
  clear h
  go_enter Try.func39, Try.ntmps39
  go_wp2
  exact bodyPost_end (results_none rfl _ _ _) rfl ⟨rfl, rfl⟩
end Go.Proofs.Ytpnmdpffdeebmaa
