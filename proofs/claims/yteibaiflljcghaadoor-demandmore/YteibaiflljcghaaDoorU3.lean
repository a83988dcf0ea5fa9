/- Walk of product of package units, and what its numbers are worth. -/
import Derived.Test.YteibaiflljcghaaDoorU1
import Derived.Test.YteibaiflljcghaaDoorM1
import Derived.Test.YteibaiflljcghaaDoorW8
namespace Go.Proofs.YteibaiflljcghaaDoor
open Go.RowKit

/-- A product, part by part. -/
def prV (ks : List Int) : Nat → Int
  | 0 => 1
  | j + 1 => prV ks j * ks.getD j 0

set_option maxHeartbeats 1000000 in
set_option maxRecDepth 100000 in
theorem product6_any (ks : List Int) (v : Value) (w : World) (h : Nums w v ks) (hl : ks.length ≤ 5) (hf : ∀ j, j ≤ ks.length → 0 ≤ prV ks j ∧ prV ks j ≤ 4611686018427387904) :
    Calls Tryd.prog 42 #[v] w fun e w' => e = .returned (.int .i64 (prV ks ks.length)) ∧ w' = w := by
  obtain ⟨a, cap, rfl, h1, h2, h3⟩ := h
  have HF : Hid (∀ j, j ≤ ks.length → 0 ≤ prV ks j ∧ prV ks j ≤ 4611686018427387904) := hf
  clear hf
  go_enter Tryd.func42, Tryd.ntmps42
  go_wp2_with fail
  go_loop [3, 8] (fun s i => ∃ (j : Nat) (z : Int), j ≤ ks.length ∧ i = .int .i64 j ∧ s = .int .i64 z ∧ Hid (z = prV ks j)) (fun _ i => ((ks.length : Int) - intOf i).toNat)
  case atStart => exact ⟨0, 1, by omega, rfl, rfl, rfl⟩
  case round =>
    obtain ⟨j, z, hj, rfl, rfl, HZ⟩ := hrel
    by_cases hlt : (j : Int) < ks.length
    · obtain ⟨b, o, rfl, h4⟩ := h3 (by intro e; rw [e, List.length_nil] at hlt; omega)
      have hc := h4 j (by omega)
      clear h4 h3
      obtain ⟨x, hx⟩ : ∃ x, ks.getD j 0 = x := ⟨_, rfl⟩
      rw [hx] at hc
      have HP : Hid (z * x = prV ks (j + 1)) := by show z * x = prV ks j * ks.getD j 0; rw [hx, ← HZ.out]
      clear hx
      have hw : IntKind.i64.wrap (z * x) = z * x := by
        have := HF.out (j + 1) (by omega)
        rw [← HP.out] at this
        rw [IntKind.wrap_i64]; omega
      go_wp2_with fail
      go_round
      case rel => exact ⟨j + 1, z * x, by omega, by go_num, by first | rfl | rw [hw] | go_num, HP.out⟩
      case measure => simp [intOf]; omega
    · obtain rfl : j = ks.length := by omega
      go_wp2
      go_ret
      exact ⟨ret_i HZ.out, rfl⟩

/-- Five parts, one behind the other, in a block. -/
def Five (w : World) (b : Nat) (c m u k p : Int) : Prop := w.cell? ⟨b, 0, none⟩ = some (.int .i64 c) ∧ w.cell? ⟨b, 1, none⟩ = some (.int .i64 m) ∧ w.cell? ⟨b, 2, none⟩ = some (.int .i64 u) ∧ w.cell? ⟨b, 3, none⟩ = some (.int .i64 k) ∧ w.cell? ⟨b, 4, none⟩ = some (.int .i64 p)
theorem Five.later {w w' : World} {b : Nat} {c m u k p : Int} (h : Five w b c m u k p) (hb : Below w.heap.size w w') : Five w' b c m u k p :=
  ⟨cell_later hb h.1, cell_later hb h.2.1, cell_later hb h.2.2.1, cell_later hb h.2.2.2.1, cell_later hb h.2.2.2.2⟩

theorem prod3_any (b : Nat) (c m k p : Int) (w : World) (h : Five w b c m 1048576 k p) (c0 : 1 ≤ c) (c1 : c ≤ 6) (m0 : 1 ≤ m) (m1 : m ≤ 6) :
    Calls Tryd.prog 42 #[.slice (some ⟨b, 0, none⟩) 3 3] w fun e w' => e = .returned (.int .i64 (c * m * 1048576)) ∧ w' = w := by
  obtain ⟨q0, q1, q2, q3, q4⟩ := h
  have hn : Nums w (.slice (some ⟨b, 0, none⟩) 3 3) [c, m, 1048576] := ⟨_, 3, rfl, by simp, by decide, fun _ => ⟨b, 0, rfl, fun i hi => by
    match i, hi with
    | 0, _ => exact q0
    | 1, _ => exact q1
    | 2, _ => exact q2⟩⟩
  have e3 : prV [c, m, 1048576] 3 = c * m * 1048576 := by show 1 * c * m * 1048576 = _; rw [Int.one_mul]
  have hcm : 1 ≤ c * m ∧ c * m ≤ 36 := by rcases six c0 c1 with rfl | rfl | rfl | rfl | rfl | rfl <;> omega
  have := product6_any [c, m, 1048576] _ w hn (by simp) (fun j hj => by
    match j, hj with
    | 0, _ => show (0 : Int) ≤ 1 ∧ (1 : Int) ≤ _; omega
    | 1, _ => show 0 ≤ 1 * c ∧ 1 * c ≤ _; omega
    | 2, _ => show 0 ≤ 1 * c * m ∧ 1 * c * m ≤ _; rw [Int.one_mul]; omega
    | 3, _ => rw [e3]; omega)
  rwa [show [c, m, (1048576 : Int)].length = 3 from rfl, e3] at this

theorem prod2_any (b : Nat) (c m k p : Int) (w : World) (h : Five w b c m 1048576 k p) (k0 : 1 ≤ k) (k1 : k ≤ 6) (p0 : 1 ≤ p) (p1 : p ≤ 48) :
    Calls Tryd.prog 42 #[.slice (some ⟨b, 3, none⟩) 2 2] w fun e w' => e = .returned (.int .i64 (k * p)) ∧ w' = w := by
  obtain ⟨q0, q1, q2, q3, q4⟩ := h
  have hn : Nums w (.slice (some ⟨b, 3, none⟩) 2 2) [k, p] := ⟨_, 2, rfl, by simp, by decide, fun _ => ⟨b, 3, rfl, fun i hi => by
    match i, hi with
    | 0, _ => exact q3
    | 1, _ => exact q4⟩⟩
  have e3 : prV [k, p] 2 = k * p := by show 1 * k * p = _; rw [Int.one_mul]
  have hcm : 1 ≤ k * p ∧ k * p ≤ 288 := by rcases six k0 k1 with rfl | rfl | rfl | rfl | rfl | rfl <;> omega
  have := product6_any [k, p] _ w hn (by simp) (fun j hj => by
    match j, hj with
    | 0, _ => show (0 : Int) ≤ 1 ∧ (1 : Int) ≤ _; omega
    | 1, _ => show 0 ≤ 1 * k ∧ 1 * k ≤ _; omega
    | 2, _ => rw [e3]; omega)
  rwa [show [k, p].length = 2 from rfl, e3] at this

/-- Which of both products begins at o. -/
def prX (c m k p : Int) (o : Nat) : Int := if o = 0 then c * m * 1048576 else k * p
theorem prX0 (c m k p : Int) : prX c m k p 0 = c * m * 1048576 := rfl
theorem prX3 (c m k p : Int) : prX c m k p 3 = k * p := rfl
theorem prodx_any (b : Nat) (c m k p : Int) (o n : Nat) (w : World) (h : Five w b c m 1048576 k p) (c0 : 1 ≤ c) (c1 : c ≤ 6) (m0 : 1 ≤ m) (m1 : m ≤ 6) (k0 : 1 ≤ k) (k1 : k ≤ 6) (p0 : 1 ≤ p) (p1 : p ≤ 48) (ho : (o = 0 ∧ n = 3) ∨ (o = 3 ∧ n = 2)) :
    Calls Tryd.prog 42 #[.slice (some ⟨b, o, none⟩) n n] w fun e w' => e = .returned (.int .i64 (prX c m k p o)) ∧ w' = w := by
  rcases ho with ⟨rfl, rfl⟩ | ⟨rfl, rfl⟩
  · exact prod3_any b c m k p w h c0 c1 m0 m1
  · exact prod2_any b c m k p w h k0 k1 p0 p1
end Go.Proofs.YteibaiflljcghaaDoor
