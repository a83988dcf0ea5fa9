/- The walk of the statement FracGrow: it returns true, and writes nothing that was there. -/
import Derived.Test.YtdhifcbjjjmfkaaL1
namespace Go.Proofs.Ytdhifcbjjjmfkaa
open Go.RowKit

/-- Root's answer, for all arguments. -/
theorem root_any (n : Int) (w : World) :
    Calls Try.prog 18 #[.int .i64 n] w fun e w' => (∃ (r : Int) (ok : Bool), e = .returned (.tuple #[.int .i64 r, .bool ok]) ∧ Hid (ok = true → (0 ≤ n ∧ n ≤ 4611686018427387904) ∧ IsRoot n r) ∧ Hid (ok = false → ¬ (0 ≤ n ∧ n ≤ 4611686018427387904))) ∧ Below w.heap.size w w' := by
  by_cases h : 0 ≤ n ∧ n ≤ 4611686018427387904
  · refine (root_yes n w h.1 h.2).mono ?_
    rintro e w1 ⟨⟨r, rfl, hr⟩, hb⟩
    exact ⟨⟨r, true, rfl, fun _ => ⟨h, hr⟩, fun k => by cases k⟩, hb⟩
  · refine (root_no n w h).mono ?_
    rintro e w1 ⟨rfl, hb⟩
    exact ⟨⟨0, false, rfl, fun k => (by cases k), fun _ => h⟩, hb⟩

theorem root_grow {n m r s : Int} (h : IsRoot n r) (k : IsRoot m s) (hnm : n ≤ m) : r ≤ s := by
  obtain ⟨r0, r1, _⟩ := h
  obtain ⟨s0, _, s2⟩ := k
  by_cases c : r ≤ s
  · exact c
  · have := sq_le (x := s + 1) (y := r) (by omega) (by omega)
    omega

theorem fl_grow {a b c : Int} (h1 : okB a b = true) (h2 : okB c b = true) (h : a ≤ c) : flV a b ≤ flV c b := by
  have o1 := okq_of h1
  rw [flV_yes o1, flV_yes (okq_of h2)]
  exact Int.ediv_le_ediv (by have := o1.2.2.1; omega) h

theorem fl_less {a b d : Int} (h1 : okB a b = true) (h2 : okB a d = true) (h : b ≤ d) : flV a d ≤ flV a b := by
  have o1 := okq_of h1
  have o2 := okq_of h2
  rw [flV_yes o1, flV_yes o2]
  obtain ⟨a0, _, b0, _⟩ := o1
  exact Int.le_ediv_of_mul_le (by omega) (by
    have k1 := Int.ediv_mul_le a (show d ≠ 0 by omega)
    have k2 : a / d * b ≤ a / d * d := Int.mul_le_mul_of_nonneg_left h (Int.ediv_nonneg a0 (by omega))
    omega)

set_option maxHeartbeats 4000000 in
set_option maxRecDepth 100000 in
theorem law_grow (a b c d : Int) (w : World) :
    Calls Try.prog 9 #[.int .i64 a, .int .i64 b, .int .i64 c, .int .i64 d] w fun e w' => e = .returned (.bool true) ∧ Below w.heap.size w w' := by
  have HG : Hid _ := @fl_grow a b c
  have HL : Hid _ := @fl_less a b d
  go_enter Try.func9, Try.ntmps9
  go_wp2_with fail
  refine (awake_any _).mono ?_
  rintro e1 w1 ⟨rfl, hb1⟩
  go_wp2_with fail
  refine (floor_any a b _).mono ?_
  rintro e2 w2 ⟨rfl, hb2⟩
  go_wp2_with fail
  refine (floor_any c b _).mono ?_
  rintro e3 w3 ⟨rfl, hb3⟩
  go_wp2_with fail
  refine (floor_any a d _).mono ?_
  rintro e4 w4 ⟨rfl, hb4⟩
  go_wp2_with fail
  refine (root_any a _).mono ?_
  rintro e5 w5 ⟨⟨r, ok1, rfl, hr, hr'⟩, hb5⟩
  go_wp2_with fail
  refine (root_any c _).mono ?_
  rintro e6 w6 ⟨⟨s, ok2, rfl, hs, hs'⟩, hb6⟩
  have fin : Below w.heap.size w w6 := by
    have s1 := hb1.size
    have s2 := hb2.size
    have s3 := hb3.size
    have s4 := hb4.size
    have s5 := hb5.size
    exact hb1.trans ((hb2.mono (by omega)).trans ((hb3.mono (by omega)).trans ((hb4.mono (by omega)).trans ((hb5.mono (by omega)).trans (hb6.mono (by omega))))))
  have HR : Hid (0 ≤ a → a ≤ c → ok2 = true → r ≤ s) := by
    intro a0 ac k2
    obtain ⟨⟨c0, c1⟩, h2⟩ := hs.out k2
    cases k1 : ok1
    · exact absurd ⟨a0, by omega⟩ (hr'.out k1)
    · exact root_grow (hr.out k1).2 h2 ac
  clear hb1 hb2 hb3 hb4 hb5 hb6 hr hr' hs hs'
  by_cases c1 : a < 0
  · clear HR
    go_wp2_with fail
    all_goals first
      | (exfalso; have h1 := HG.out ‹_› ‹_› ‹_›; have h2 := HL.out ‹_› ‹_› ‹_›; omega)
      | (exfalso; have h1 := HG.out ‹_› ‹_› ‹_›; omega)
      | (exfalso; have h2 := HL.out ‹_› ‹_› ‹_›; omega)
      | (go_ret; exact ⟨rfl, fin⟩)
  · by_cases c2 : c < a
    · clear HR
      go_wp2_with fail
      all_goals first
        | (exfalso; have h1 := HG.out ‹_› ‹_› ‹_›; have h2 := HL.out ‹_› ‹_› ‹_›; omega)
        | (exfalso; have h1 := HG.out ‹_› ‹_› ‹_›; omega)
        | (exfalso; have h2 := HL.out ‹_› ‹_› ‹_›; omega)
        | (go_ret; exact ⟨rfl, fin⟩)
    · cases c3 : ok2
      · clear HR
        go_wp2_with fail
        all_goals first
          | (exfalso; have h1 := HG.out ‹_› ‹_› ‹_›; have h2 := HL.out ‹_› ‹_› ‹_›; omega)
          | (exfalso; have h1 := HG.out ‹_› ‹_› ‹_›; omega)
          | (exfalso; have h2 := HL.out ‹_› ‹_› ‹_›; omega)
          | (go_ret; exact ⟨rfl, fin⟩)
      · have hrs : r ≤ s := HR.out (by omega) (by omega) c3
        clear HR
        go_wp2_with fail
        all_goals first
          | (exfalso; have h1 := HG.out ‹_› ‹_› ‹_›; have h2 := HL.out ‹_› ‹_› ‹_›; omega)
          | (exfalso; have h1 := HG.out ‹_› ‹_› ‹_›; omega)
          | (exfalso; have h2 := HL.out ‹_› ‹_› ‹_›; omega)
          | (go_ret; exact ⟨rfl, fin⟩)
end Go.Proofs.Ytdhifcbjjjmfkaa
