/- Bytes; walks of package spec: what reads a description's numbers. -/
import Derived.Test.YtpnmdpffdeebmaaE4
namespace Go.Proofs.Ytpnmdpffdeebmaa
open Go.RowKit

/-- Bytes that are read. -/
def Bys (w : World) (v : Value) (ks : List Int) : Prop :=
  ∃ a cap, v = .slice a ks.length cap ∧ ks.length ≤ cap ∧ cap ≤ maxLen ∧ (a = none → cap = 0) ∧ (∀ i, i < ks.length → 0 ≤ ks.getD i 0 ∧ ks.getD i 0 ≤ 255) ∧ (ks ≠ [] → ∃ b o, a = some ⟨b, o, none⟩ ∧ ∀ i, i < ks.length → w.cell? ⟨b, o + i, none⟩ = some (.int .u8 (ks.getD i 0)))
theorem Bys.later {w w' : World} {v : Value} {ks : List Int} (h : Bys w v ks) (hb : Below w.heap.size w w') : Bys w' v ks := by
  obtain ⟨a, cap, rfl, h1, h2, h3, h4, h5⟩ := h
  refine ⟨a, cap, rfl, h1, h2, h3, h4, fun hx => ?_⟩
  obtain ⟨b, o, rfl, h6⟩ := h5 hx
  exact ⟨b, o, rfl, fun i hi => cell_later hb (h6 i hi)⟩
theorem Bys.none (w : World) : Bys w (.slice none 0 0) [] := ⟨Option.none, 0, rfl, by simp, by simp, fun _ => rfl, fun i hi => by simp at hi, fun h => absurd rfl h⟩
def lst (s : Sp) : List Int := [s.c, s.t, s.x, s.m, s.k, s.e]
/-- The bytes of a description that may be; else none. -/
def byS (s : Sp) : List Int := bif maySp s then lst s else []
theorem byS_no {s : Sp} (h : maySp s = false) : byS s = [] := by unfold byS; rw [h]; rfl
theorem byS_yes {s : Sp} (h : maySp s = true) : byS s = lst s := by unfold byS; rw [h]; rfl
theorem lst_bd {s : Sp} (h : maySp s = true) : ∀ i, i < 6 → 0 ≤ (lst s).getD i 0 ∧ (lst s).getD i 0 ≤ 255 := by
  rw [maySp_eq] at h
  have h' := of_decide_eq_true h
  intro i hi
  rcases (show i = 0 ∨ i = 1 ∨ i = 2 ∨ i = 3 ∨ i = 4 ∨ i = 5 by omega) with rfl | rfl | rfl | rfl | rfl | rfl <;> (show 0 ≤ _ ∧ _ ≤ _) <;> simp [lst] <;> omega

set_option maxHeartbeats 1000000 in
set_option maxRecDepth 100000 in
theorem get0_any (c t x m k e : Int) (w : World) :
    Calls Try.prog 22 #[.agg #[.int .i64 c, .int .i64 t, .int .i64 x, .int .i64 m, .int .i64 k, .int .i64 e]] w fun r w' => r = .returned (.int .i64 c) ∧ Below w.heap.size w w' := by
  go_enter Try.func22, Try.ntmps22
  go_wp2
  go_ret
  exact ⟨rfl, (Below.refl _ _).alloc (by simp) _⟩

set_option maxHeartbeats 1000000 in
set_option maxRecDepth 100000 in
theorem get1_any (c t x m k e : Int) (w : World) :
    Calls Try.prog 26 #[.agg #[.int .i64 c, .int .i64 t, .int .i64 x, .int .i64 m, .int .i64 k, .int .i64 e]] w fun r w' => r = .returned (.int .i64 t) ∧ Below w.heap.size w w' := by
  go_enter Try.func26, Try.ntmps26
  go_wp2
  go_ret
  exact ⟨rfl, (Below.refl _ _).alloc (by simp) _⟩

set_option maxHeartbeats 1000000 in
set_option maxRecDepth 100000 in
theorem get2_any (c t x m k e : Int) (w : World) :
    Calls Try.prog 30 #[.agg #[.int .i64 c, .int .i64 t, .int .i64 x, .int .i64 m, .int .i64 k, .int .i64 e]] w fun r w' => r = .returned (.int .i64 x) ∧ Below w.heap.size w w' := by
  go_enter Try.func30, Try.ntmps30
  go_wp2
  go_ret
  exact ⟨rfl, (Below.refl _ _).alloc (by simp) _⟩

set_option maxHeartbeats 1000000 in
set_option maxRecDepth 100000 in
theorem get3_any (c t x m k e : Int) (w : World) :
    Calls Try.prog 33 #[.agg #[.int .i64 c, .int .i64 t, .int .i64 x, .int .i64 m, .int .i64 k, .int .i64 e]] w fun r w' => r = .returned (.int .i64 m) ∧ Below w.heap.size w w' := by
  go_enter Try.func33, Try.ntmps33
  go_wp2
  go_ret
  exact ⟨rfl, (Below.refl _ _).alloc (by simp) _⟩

set_option maxHeartbeats 1000000 in
set_option maxRecDepth 100000 in
theorem get4_any (c t x m k e : Int) (w : World) :
    Calls Try.prog 36 #[.agg #[.int .i64 c, .int .i64 t, .int .i64 x, .int .i64 m, .int .i64 k, .int .i64 e]] w fun r w' => r = .returned (.int .i64 k) ∧ Below w.heap.size w w' := by
  go_enter Try.func36, Try.ntmps36
  go_wp2
  go_ret
  exact ⟨rfl, (Below.refl _ _).alloc (by simp) _⟩

set_option maxHeartbeats 1000000 in
set_option maxRecDepth 100000 in
theorem get5_any (c t x m k e : Int) (w : World) :
    Calls Try.prog 38 #[.agg #[.int .i64 c, .int .i64 t, .int .i64 x, .int .i64 m, .int .i64 k, .int .i64 e]] w fun r w' => r = .returned (.int .i64 e) ∧ Below w.heap.size w w' := by
  go_enter Try.func38, Try.ntmps38
  go_wp2
  go_ret
  exact ⟨rfl, (Below.refl _ _).alloc (by simp) _⟩
end Go.Proofs.Ytpnmdpffdeebmaa
