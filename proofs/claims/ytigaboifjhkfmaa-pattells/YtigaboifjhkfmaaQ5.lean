/- The walk of the statement PatTells: it returns true, and writes nothing that was there. -/
import Derived.Test.YtigaboifjhkfmaaA6
import Derived.Test.YtigaboifjhkfmaaQ4
namespace Go.Proofs.Ytigaboifjhkfmaa
open Go.RowKit

/-- What is left of the statement when both words have been held against one another. -/
theorem eqB (b : Bool) : (b == b) = true := by cases b <;> rfl

set_option maxHeartbeats 2000000 in
set_option maxRecDepth 100000 in
theorem law_tells_in (m : Int) (k : Nat) (j n : Int) (w : World) (m0 : 1 ≤ m) (mk : m ≤ k) (k6 : (k : Int) ≤ 6) :
    Calls Try.prog 3 #[.int .i64 m, .int .i64 k, .int .i64 j, .int .i64 n] w fun e w' => e = .returned (.bool true) ∧ Below w.heap.size w w' := by
  have H1 : Hid (mayB m k = true) := mayB_mk m0 mk k6
  obtain ⟨b, hb⟩ : ∃ b, onB m k j = b := ⟨_, rfl⟩
  have HO : Hid (onB m k j = b) := hb
  clear hb
  go_enter Try.func3, Try.ntmps3
  go_wp2_with fail
  refine (awake2_any _).mono ?_
  rintro e w1 ⟨rfl, hb1⟩
  go_wp2_with fail
  refine (word_in _ _ _ m0 mk k6).mono ?_
  rintro e w2 ⟨v, rfl, hown, hb2⟩
  obtain ⟨g, cap, rfl, g0, g1, hcs⟩ := own_open hown (by omega)
  go_wp2_with fail
  refine (refWord_in _ _ _ m0 mk k6).mono ?_
  rintro e w3 ⟨v, rfl, hown', hb3⟩
  obtain ⟨g', cap', rfl, g0', g1', hcs'⟩ := own_open hown' (by omega)
  have s1 := hb1.size
  have s2 := hb2.size
  have s3 := hb3.size
  have c1 : ∀ t, t < k → w3.cell? ⟨g, t, none⟩ = some (.bool (adB m k t)) := fun t ht => cell_later hb3 (hcs t _ (wordV_at ht))
  have c2 : ∀ t, t < k → w3.cell? ⟨g', t, none⟩ = some (.bool (adB m k t)) := fun t ht => hcs' t _ (wordV_at ht)
  clear hcs hcs' hown hown'
  go_wp2_with fail
  refine (bools_same k g g' cap cap' (fun t => adB m k t) _ (by omega) c1 c2).mono ?_
  rintro e w4 ⟨rfl, hb4⟩
  clear c1 c2
  have s4 := hb4.size
  go_wp2_with fail
  refine (may_any _ _ _).mono ?_
  rintro e w5 ⟨rfl, rfl⟩
  rw [H1.out]
  go_wp2_with fail
  refine (refMay_any _ _ _).mono ?_
  rintro e w5 ⟨rfl, rfl⟩
  rw [H1.out]
  go_wp2_with fail
  refine (on_any _ _ _ _).mono ?_
  rintro e w6 ⟨rfl, hb6⟩
  rw [HO.out]
  have s6 := hb6.size
  go_wp2_with fail
  refine (refOn_any _ _ _ _).mono ?_
  rintro e w7 ⟨rfl, rfl⟩
  rw [HO.out]
  have hbb := eqB b
  go_wp2_with fail
  refine (count_any _ _ _ _ _).mono ?_
  rintro e w8 ⟨rfl, hb8⟩
  have s8 := hb8.size
  go_wp2_with fail
  refine (refCount_any _ _ _ _ _).mono ?_
  rintro e w9 ⟨rfl, rfl⟩
  go_wp2_with fail
  refine (most_any _ _ _ _).mono ?_
  rintro e w10 ⟨rfl, hb10⟩
  go_wp2_with fail
  refine (refMost_any _ _ _ _).mono ?_
  rintro e w11 ⟨rfl, rfl⟩
  go_wp2
  go_ret
  exact ⟨rfl, hb1.trans ((hb2.mono (by omega)).trans ((hb3.mono (by omega)).trans ((hb4.mono (by omega)).trans ((hb6.mono (by omega)).trans ((hb8.mono (by omega)).trans (hb10.mono (by omega)))))))⟩

set_option maxHeartbeats 2000000 in
set_option maxRecDepth 100000 in
theorem law_tells_no (m k j n : Int) (w : World) (h : mayB m k = false) :
    Calls Try.prog 3 #[.int .i64 m, .int .i64 k, .int .i64 j, .int .i64 n] w fun e w' => e = .returned (.bool true) ∧ Below w.heap.size w w' := by
  have H1 : Hid (mayB m k = false) := h
  clear h
  have HO : Hid (onB m k j = false) := by show _ = _; unfold onB; rw [H1.out]; rfl
  go_enter Try.func3, Try.ntmps3
  go_wp2_with fail
  refine (awake2_any _).mono ?_
  rintro e w1 ⟨rfl, hb1⟩
  go_wp2_with fail
  refine (word_no _ _ _ H1.out).mono ?_
  rintro e w2 ⟨rfl, rfl⟩
  go_wp2_with fail
  refine (refWord_no _ _ _ H1.out).mono ?_
  rintro e w3 ⟨rfl, rfl⟩
  have s1 := hb1.size
  go_wp2_with fail
  refine (bools_none _).mono ?_
  rintro e w4 ⟨rfl, rfl⟩
  go_wp2_with fail
  refine (may_any _ _ _).mono ?_
  rintro e w5 ⟨rfl, rfl⟩
  rw [H1.out]
  go_wp2_with fail
  refine (refMay_any _ _ _).mono ?_
  rintro e w5 ⟨rfl, rfl⟩
  rw [H1.out]
  go_wp2_with fail
  refine (on_any _ _ _ _).mono ?_
  rintro e w6 ⟨rfl, hb6⟩
  rw [HO.out]
  have s6 := hb6.size
  go_wp2_with fail
  refine (refOn_any _ _ _ _).mono ?_
  rintro e w7 ⟨rfl, rfl⟩
  rw [HO.out]
  go_wp2_with fail
  refine (count_any _ _ _ _ _).mono ?_
  rintro e w8 ⟨rfl, hb8⟩
  have s8 := hb8.size
  go_wp2_with fail
  refine (refCount_any _ _ _ _ _).mono ?_
  rintro e w9 ⟨rfl, rfl⟩
  go_wp2_with fail
  refine (most_any _ _ _ _).mono ?_
  rintro e w10 ⟨rfl, hb10⟩
  go_wp2_with fail
  refine (refMost_any _ _ _ _).mono ?_
  rintro e w11 ⟨rfl, rfl⟩
  go_wp2
  go_ret
  exact ⟨rfl, hb1.trans ((hb6.mono (by omega)).trans ((hb8.mono (by omega)).trans (hb10.mono (by omega))))⟩

theorem law_tells (m k j n : Int) (w : World) :
    Calls Try.prog 3 #[.int .i64 m, .int .i64 k, .int .i64 j, .int .i64 n] w fun e w' => e = .returned (.bool true) ∧ Below w.heap.size w w' := by
  cases h1 : mayB m k
  · exact law_tells_no m k j n w h1
  · obtain ⟨m0, mk, k6⟩ := mayB_of h1
    obtain ⟨K, rfl⟩ := Int.eq_ofNat_of_zero_le (show 0 ≤ k by omega)
    exact law_tells_in m K j n w m0 mk k6
end Go.Proofs.Ytigaboifjhkfmaa
