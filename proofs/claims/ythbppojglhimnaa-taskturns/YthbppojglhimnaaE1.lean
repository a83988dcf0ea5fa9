/- Walks of package spec: the numbers of a description, and what each must be. -/
import Derived.Test.YthbppojglhimnaaA1
import Derived.Test.YthbppojglhimnaaM1
import Derived.Laws.EntriesVeiled
import Derived.Deep.RegionHeld3
namespace Go.Proofs.Ythbppojglhimnaa
open Go.RowKit

/-- A description. -/
structure Sp where
  c : Int
  t : Int
  x : Int
  m : Int
  k : Int
  e : Int
def wiB (n a b : Int) : Bool := decide (a ≤ n ∧ n ≤ b)
def leT (s : Sp) : Int := if s.e = 0 then s.x else s.c
def fitC (s : Sp) : Bool := wiB s.c 1 6
def fitT (s : Sp) : Bool := wiB s.t (leT s) s.x
def fitX (s : Sp) : Bool := wiB s.x s.c 48
def fitW (s : Sp) : Bool := mayB s.m s.k
def fitE (s : Sp) : Bool := wiB s.e 0 8

set_option maxHeartbeats 1000000 in
set_option maxRecDepth 100000 in
theorem within_any (n a b : Int) (w : World) :
    Calls Try.prog 36 #[.int .i64 n, .int .i64 a, .int .i64 b] w fun e w' => e = .returned (.bool (wiB n a b)) ∧ w' = w := by
  by_cases c0 : a ≤ n
  · have H : Hid (wiB n a b = decide (n ≤ b)) := by show _ = _; unfold wiB; simp [c0]
    go_enter Try.func36, Try.ntmps36
    go_wp2
    go_ret
    exact ⟨ret_b H.out.symm, rfl⟩
  · have H : Hid (wiB n a b = false) := by show _ = _; unfold wiB; simp [c0]
    go_enter Try.func36, Try.ntmps36
    go_wp2
    go_ret
    exact ⟨ret_b H.out.symm, rfl⟩

set_option maxHeartbeats 1000000 in
set_option maxRecDepth 100000 in
theorem fitC_any (c t x m k e : Int) (w : World) :
    Calls Try.prog 35 #[.agg #[.int .i64 c, .int .i64 t, .int .i64 x, .int .i64 m, .int .i64 k, .int .i64 e]] w fun r w' => r = .returned (.bool (fitC ⟨c, t, x, m, k, e⟩)) ∧ Below w.heap.size w w' := by
  go_enter Try.func35, Try.ntmps35
  go_wp2_with fail
  refine (within_any _ _ _ _).mono ?_
  rintro r w1 ⟨rfl, rfl⟩
  go_wp2
  go_ret
  exact ⟨rfl, (Below.refl _ _).alloc (by simp) _⟩

set_option maxHeartbeats 1000000 in
set_option maxRecDepth 100000 in
theorem fitX_any (c t x m k e : Int) (w : World) :
    Calls Try.prog 43 #[.agg #[.int .i64 c, .int .i64 t, .int .i64 x, .int .i64 m, .int .i64 k, .int .i64 e]] w fun r w' => r = .returned (.bool (fitX ⟨c, t, x, m, k, e⟩)) ∧ Below w.heap.size w w' := by
  go_enter Try.func43, Try.ntmps43
  go_wp2_with fail
  refine (within_any _ _ _ _).mono ?_
  rintro r w1 ⟨rfl, rfl⟩
  go_wp2
  go_ret
  exact ⟨rfl, (Below.refl _ _).alloc (by simp) _⟩

set_option maxHeartbeats 1000000 in
set_option maxRecDepth 100000 in
theorem fitE_any (c t x m k e : Int) (w : World) :
    Calls Try.prog 51 #[.agg #[.int .i64 c, .int .i64 t, .int .i64 x, .int .i64 m, .int .i64 k, .int .i64 e]] w fun r w' => r = .returned (.bool (fitE ⟨c, t, x, m, k, e⟩)) ∧ Below w.heap.size w w' := by
  go_enter Try.func51, Try.ntmps51
  go_wp2_with fail
  refine (within_any _ _ _ _).mono ?_
  rintro r w1 ⟨rfl, rfl⟩
  go_wp2
  go_ret
  exact ⟨rfl, (Below.refl _ _).alloc (by simp) _⟩

set_option maxHeartbeats 1000000 in
set_option maxRecDepth 100000 in
theorem fitW_any (c t x m k e : Int) (w : World) :
    Calls Try.prog 46 #[.agg #[.int .i64 c, .int .i64 t, .int .i64 x, .int .i64 m, .int .i64 k, .int .i64 e]] w fun r w' => r = .returned (.bool (fitW ⟨c, t, x, m, k, e⟩)) ∧ Below w.heap.size w w' := by
  go_enter Try.func46, Try.ntmps46
  go_wp2_with fail
  refine (may_any _ _ _).mono ?_
  rintro r w1 ⟨rfl, rfl⟩
  go_wp2
  go_ret
  exact ⟨rfl, (Below.refl _ _).alloc (by simp) _⟩

set_option maxHeartbeats 1000000 in
set_option maxRecDepth 100000 in
theorem leastT_any (c t x m k e : Int) (w : World) :
    Calls Try.prog 40 #[.agg #[.int .i64 c, .int .i64 t, .int .i64 x, .int .i64 m, .int .i64 k, .int .i64 e]] w fun r w' => r = .returned (.int .i64 (leT ⟨c, t, x, m, k, e⟩)) ∧ Below w.heap.size w w' := by
  by_cases h : e = 0
  · subst h
    have H : Hid (leT ⟨c, t, x, m, k, 0⟩ = x) := by show _ = _; unfold leT; simp
    go_enter Try.func40, Try.ntmps40
    go_wp2
    go_ret
    exact ⟨ret_i H.out.symm, (Below.refl _ _).alloc (by simp) _⟩
  · have H : Hid (leT ⟨c, t, x, m, k, e⟩ = c) := by show _ = _; unfold leT; simp [h]
    have h' : (e == 0) = false := by simpa using h
    go_enter Try.func40, Try.ntmps40
    go_wp2
    go_ret
    exact ⟨ret_i H.out.symm, (Below.refl _ _).alloc (by simp) _⟩

set_option maxHeartbeats 1000000 in
set_option maxRecDepth 100000 in
theorem fitT_any (c t x m k e : Int) (w : World) :
    Calls Try.prog 39 #[.agg #[.int .i64 c, .int .i64 t, .int .i64 x, .int .i64 m, .int .i64 k, .int .i64 e]] w fun r w' => r = .returned (.bool (fitT ⟨c, t, x, m, k, e⟩)) ∧ Below w.heap.size w w' := by
  have H : Hid (fitT ⟨c, t, x, m, k, e⟩ = wiB t (leT ⟨c, t, x, m, k, e⟩) x) := rfl
  go_enter Try.func39, Try.ntmps39
  go_wp2_with fail
  have k0 : (w.alloc (.cells #[.int .i64 c, .int .i64 t, .int .i64 x, .int .i64 m, .int .i64 k, .int .i64 e] 23)).cell? ⟨w.heap.size, 0, none⟩ = some (.int .i64 c) := by simp
  have k1 : (w.alloc (.cells #[.int .i64 c, .int .i64 t, .int .i64 x, .int .i64 m, .int .i64 k, .int .i64 e] 23)).cell? ⟨w.heap.size, 1, none⟩ = some (.int .i64 t) := by simp
  have k2 : (w.alloc (.cells #[.int .i64 c, .int .i64 t, .int .i64 x, .int .i64 m, .int .i64 k, .int .i64 e] 23)).cell? ⟨w.heap.size, 2, none⟩ = some (.int .i64 x) := by simp
  have k3 : (w.alloc (.cells #[.int .i64 c, .int .i64 t, .int .i64 x, .int .i64 m, .int .i64 k, .int .i64 e] 23)).cell? ⟨w.heap.size, 3, none⟩ = some (.int .i64 m) := by simp
  have k4 : (w.alloc (.cells #[.int .i64 c, .int .i64 t, .int .i64 x, .int .i64 m, .int .i64 k, .int .i64 e] 23)).cell? ⟨w.heap.size, 4, none⟩ = some (.int .i64 k) := by simp
  have k5 : (w.alloc (.cells #[.int .i64 c, .int .i64 t, .int .i64 x, .int .i64 m, .int .i64 k, .int .i64 e] 23)).cell? ⟨w.heap.size, 5, none⟩ = some (.int .i64 e) := by simp
  have HE : Hid (Below w.heap.size w (w.alloc (.cells #[.int .i64 c, .int .i64 t, .int .i64 x, .int .i64 m, .int .i64 k, .int .i64 e] 23))) := (Below.refl _ _).alloc (by simp) _
  generalize w.alloc (.cells #[.int .i64 c, .int .i64 t, .int .i64 x, .int .i64 m, .int .i64 k, .int .i64 e] 23) = W at *
  have s1 := HE.out.size
  go_region_held3 (fun w' => w'.cell? ⟨w.heap.size, 0, none⟩ = some (.int .i64 c) ∧ w'.cell? ⟨w.heap.size, 1, none⟩ = some (.int .i64 t) ∧ w'.cell? ⟨w.heap.size, 2, none⟩ = some (.int .i64 x) ∧ w'.cell? ⟨w.heap.size, 3, none⟩ = some (.int .i64 m) ∧ w'.cell? ⟨w.heap.size, 4, none⟩ = some (.int .i64 k) ∧ w'.cell? ⟨w.heap.size, 5, none⟩ = some (.int .i64 e))
    (first | exact ⟨k0, k1, k2, k3, k4, k5⟩ | exact ⟨cell_later hb2 k0, cell_later hb2 k1, cell_later hb2 k2, cell_later hb2 k3, cell_later hb2 k4, cell_later hb2 k5⟩)
    (first
    | (go_at_call 40; refine (leastT_any c t x m k e W.drew).mono ?_; rintro r w2 ⟨rfl, hb2⟩)
    | (go_at_call 36; refine (within_any _ _ _ _).mono ?_; rintro r w3 ⟨rfl, hw3⟩; obtain rfl := hw3.symm))
  all_goals
    go_wp2_with fail
    go_ret
    exact ⟨ret_b H.out.symm, HE.out.drew.trans (hb2.mono s1)⟩
end Go.Proofs.Ythbppojglhimnaa
