/- Walks of frac's Cmp, Beats and Root, out of the contracts of products and their order. -/
import Derived.Test.YtjiockmphbhljaaDoorW2
namespace Go.Proofs.YtjiockmphbhljaaDoor
open Go.RowKit

set_option maxHeartbeats 1000000 in
set_option maxRecDepth 100000 in
theorem cmp_yes (a b c d : Int) (w : World) (ha0 : 0 ≤ a) (ha : a ≤ 4611686018427387904) (hb0 : 1 ≤ b) (hb : b ≤ 4611686018427387904) (hc0 : 0 ≤ c) (hc : c ≤ 4611686018427387904) (hd0 : 1 ≤ d) (hd : d ≤ 4611686018427387904) :
    Calls Tryd.prog 41 #[.int .i64 a, .int .i64 b, .int .i64 c, .int .i64 d] w fun e w' => e = .returned (.tuple #[.int .i64 (sgn (a * d) (c * b)), .bool true]) ∧ Below w.heap.size w w' := by
  have hd1 : 0 ≤ d := by omega
  have hb1 : 0 ≤ b := by omega
  have HS : Hid _ := lex_words (a * d) (c * b)
  go_enter Tryd.func41, Tryd.ntmps41
  go_wp2_with (first | (go_at_call 42; go_in) | (go_at_call 45; go_in) | fail)
  refine (product_any a d _ ha0 ha hd1 hd).mono ?_
  rintro e w1 ⟨rfl, hb1'⟩
  go_wp2_with fail
  refine (product_any c b _ hc0 hc hb1 hb).mono ?_
  rintro e w2 ⟨rfl, hb2'⟩
  go_wp2_with fail
  refine (order_any _ _ _ _ _).mono ?_
  rintro e w3 ⟨rfl, hb3'⟩
  go_wp2
  go_ret2
  refine ⟨ret_ib HS.out rfl, ?_⟩
  have b0 : Below w.heap.size w ((w.alloc (Obj.cells #[Value.int IntKind.i64 a, Value.int IntKind.i64 b] 57)).alloc (Obj.cells #[Value.int IntKind.i64 c, Value.int IntKind.i64 d] 57)) := by
    repeat (first | exact Below.refl _ _ | refine Below.alloc ?_ (by simp <;> omega) _)
  have s0 := b0.size
  have s1 := hb1'.size
  have s2 := hb2'.size
  exact b0.trans ((hb1'.mono s0).trans ((hb2'.mono (by omega)).trans (hb3'.mono (by omega))))

set_option maxHeartbeats 1000000 in
set_option maxRecDepth 100000 in
theorem cmp_no1 (a b c d : Int) (w : World) (h : ¬ okq a b) :
    Calls Tryd.prog 41 #[.int .i64 a, .int .i64 b, .int .i64 c, .int .i64 d] w fun e w' => e = .returned (.tuple #[.int .i64 0, .bool false]) ∧ Below w.heap.size w w' := by
  unfold okq at h
  by_cases c0 : 0 ≤ a
  · by_cases c1 : a ≤ 4611686018427387904
    · by_cases c2 : 1 ≤ b
      · have c3 : ¬ b ≤ 4611686018427387904 := by omega
        clear h
        go_enter Tryd.func41, Tryd.ntmps41
        go_wp2
        go_ret2
        exact ⟨rfl, by repeat (first | exact Below.refl _ _ | refine Below.alloc ?_ (by simp <;> omega) _)⟩
      · clear h
        go_enter Tryd.func41, Tryd.ntmps41
        go_wp2
        go_ret2
        exact ⟨rfl, by repeat (first | exact Below.refl _ _ | refine Below.alloc ?_ (by simp <;> omega) _)⟩
    · clear h
      go_enter Tryd.func41, Tryd.ntmps41
      go_wp2
      go_ret2
      exact ⟨rfl, by repeat (first | exact Below.refl _ _ | refine Below.alloc ?_ (by simp <;> omega) _)⟩
  · clear h
    go_enter Tryd.func41, Tryd.ntmps41
    go_wp2
    go_ret2
    exact ⟨rfl, by repeat (first | exact Below.refl _ _ | refine Below.alloc ?_ (by simp <;> omega) _)⟩

set_option maxHeartbeats 1000000 in
set_option maxRecDepth 100000 in
theorem cmp_no2 (a b c d : Int) (w : World) (ha0 : 0 ≤ a) (ha : a ≤ 4611686018427387904) (hb0 : 1 ≤ b) (hb : b ≤ 4611686018427387904) (h : ¬ okq c d) :
    Calls Tryd.prog 41 #[.int .i64 a, .int .i64 b, .int .i64 c, .int .i64 d] w fun e w' => e = .returned (.tuple #[.int .i64 0, .bool false]) ∧ Below w.heap.size w w' := by
  unfold okq at h
  by_cases c0 : 0 ≤ c
  · by_cases c1 : c ≤ 4611686018427387904
    · by_cases c2 : 1 ≤ d
      · have c3 : ¬ d ≤ 4611686018427387904 := by omega
        clear h
        go_enter Tryd.func41, Tryd.ntmps41
        go_wp2
        go_ret2
        exact ⟨rfl, by repeat (first | exact Below.refl _ _ | refine Below.alloc ?_ (by simp <;> omega) _)⟩
      · clear h
        go_enter Tryd.func41, Tryd.ntmps41
        go_wp2
        go_ret2
        exact ⟨rfl, by repeat (first | exact Below.refl _ _ | refine Below.alloc ?_ (by simp <;> omega) _)⟩
    · clear h
      go_enter Tryd.func41, Tryd.ntmps41
      go_wp2
      go_ret2
      exact ⟨rfl, by repeat (first | exact Below.refl _ _ | refine Below.alloc ?_ (by simp <;> omega) _)⟩
  · clear h
    go_enter Tryd.func41, Tryd.ntmps41
    go_wp2
    go_ret2
    exact ⟨rfl, by repeat (first | exact Below.refl _ _ | refine Below.alloc ?_ (by simp <;> omega) _)⟩

theorem cmp_no (a b c d : Int) (w : World) (h : ¬ (okq a b ∧ okq c d)) :
    Calls Tryd.prog 41 #[.int .i64 a, .int .i64 b, .int .i64 c, .int .i64 d] w fun e w' => e = .returned (.tuple #[.int .i64 0, .bool false]) ∧ Below w.heap.size w w' := by
  by_cases h1 : okq a b
  · exact cmp_no2 a b c d w h1.1 h1.2.1 h1.2.2.1 h1.2.2.2 (fun h2 => h ⟨h1, h2⟩)
  · exact cmp_no1 a b c d w h1
end Go.Proofs.YtjiockmphbhljaaDoor
