/- Walks of package demand: All, Horizon's sum. -/
import Derived.Test.YteibaiflljcghaaDoorD4
namespace Go.Proofs.YteibaiflljcghaaDoor
open Go.RowKit Go.Shelf

theorem allS_succ (l : Nat) (f : Nat → Fx) (n : Int) : allS (l + 1) f n = allS l f n + ofV9 (f l) n := rfl

set_option maxHeartbeats 2000000 in
set_option maxRecDepth 100000 in
theorem all9_any (l : Nat) (f : Nat → Fx) (n : Int) (v : Value) (w : World) (h : Fxs w v l f) :
    Calls Tryd.prog 15 #[v, .int .i64 n] w fun r w' => r = .returned (.int .i64 (allV9 l f n)) ∧ Below w.heap.size w w' := by
  obtain ⟨a, cap, rfl, h1, h2, h0, h3⟩ := h
  by_cases hl : (l : Int) > 1000
  · have H : Hid (allV9 l f n = 0) := if_neg (by omega)
    go_enter Tryd.func15, Tryd.ntmps15
    go_wp2
    go_ret
    exact ⟨ret_i H.out.symm, Below.refl _ _⟩
  · have H : Hid (allV9 l f n = allS l f n) := all9_in (by omega)
    go_enter Tryd.func15, Tryd.ntmps15
    go_wp2_with fail
    go_loopw [5, 13] (fun s i wr => ∃ (j : Nat) (z : Int), j ≤ l ∧ i = .int .i64 j ∧ s = .int .i64 z ∧ 0 ≤ z ∧ z ≤ j * 1099511627776 ∧ Hid (z = allS j f n) ∧ Below w.heap.size w wr) (fun _ i _ => ((l : Int) - intOf i).toNat)
    case atStart => exact ⟨0, 0, by omega, rfl, rfl, by omega, by omega, rfl, Below.refl _ _⟩
    case round =>
      obtain ⟨j, z, hj, rfl, rfl, z0, z1, HZ, hbw⟩ := hrel
      by_cases hlt : (j : Int) < l
      · obtain ⟨bk, o, rfl, h4⟩ := h3 (by omega)
        have hrow := row_open (f := f j) (h4 j (by omega))
        clear h4 h3
        obtain ⟨⟨cj, tj, xj, mj, kj, ej, pj⟩, hf⟩ : ∃ y, f j = y := ⟨_, rfl⟩
        have HF : Hid (f j = ⟨cj, tj, xj, mj, kj, ej, pj⟩) := hf
        rw [hf] at hrow
        clear hf
        obtain ⟨k0, k1, k2, k3, k4, k5, k6⟩ := hrow
        simp only at k0 k1 k2 k3 k4 k5 k6
        have e0 := cell_later hbw k0
        have e1 := cell_later hbw k1
        have e2 := cell_later hbw k2
        have e3 := cell_later hbw k3
        have e4 := cell_later hbw k4
        have e5 := cell_later hbw k5
        have e6 := cell_later hbw k6
        have sb := World.block_lt_of_cell? _ _ k0
        clear k0 k1 k2 k3 k4 k5 k6
        have sw := hbw.size
        have hbox : Below w.heap.size w (wr.alloc (.cells #[.int .i64 cj, .int .i64 tj, .int .i64 xj, .int .i64 mj, .int .i64 kj, .int .i64 ej, .int .i64 pj] 26)) := hbw.alloc sw _
        go_wp2_with fail
        refine (of9_any cj tj xj mj kj ej pj n _).mono ?_
        rintro r w2 ⟨rfl, hb2⟩
        have hb : Below w.heap.size w w2 := hbox.trans (hb2.mono hbox.size)
        obtain ⟨b0, b1, _⟩ := of_bd ⟨cj, tj, xj, mj, kj, ej, pj⟩ n
        have HS : Hid (z + ofV9 ⟨cj, tj, xj, mj, kj, ej, pj⟩ n = allS (j + 1) f n) := by show _ = _; rw [allS_succ, HF.out, ← HZ.out]
        generalize ofV9 ⟨cj, tj, xj, mj, kj, ej, pj⟩ n = y at *
        clear hb2 hbox
        go_wp2_with fail
        go_roundw
        case rel => exact ⟨j + 1, z + y, by omega, by go_num, by go_num, by omega, by omega, HS.out, hb⟩
        case measure => simp [intOf]; omega
      · obtain rfl : j = l := by omega
        go_wp2
        go_ret
        exact ⟨ret_i (by rw [H.out]; exact HZ.out), hbw⟩
end Go.Proofs.YteibaiflljcghaaDoor
