/- Walks of package spec: May. -/
import Derived.Test.YthbppojglhimnaaE2
namespace Go.Proofs.Ythbppojglhimnaa
open Go.RowKit

/-- Does the number at a place fit? -/
def fitB (s : Sp) (j : Nat) : Bool := match j with
  | 0 => fitC s
  | 1 => fitT s
  | 2 => fitX s
  | 3 => fitW s
  | 4 => fitW s
  | _ => fitE s
/-- Do the first ones fit? -/
def fitN (s : Sp) : Nat → Bool
  | 0 => true
  | j + 1 => fitN s j && fitB s j
def maySp (s : Sp) : Bool := fitN s 6
theorem fit_on {s : Sp} {j : Nat} (h : fitN s j = true) (h' : fitB s j = true) : fitN s (j + 1) = true := by
  show (fitN s j && fitB s j) = true; rw [h, h']; rfl
theorem fitN_no {s : Sp} {i : Nat} (h : fitB s i = false) : ∀ j, i < j → fitN s j = false
  | 0, hj => by omega
  | j + 1, hj => by
    show (fitN s j && fitB s j) = false
    rcases Nat.lt_or_ge i j with h1 | h1
    · rw [fitN_no h j h1]; rfl
    · rw [show j = i by omega, h]; simp
theorem spfit_no {s : Sp} (i : Nat) (hi : i < 6) (h : fitB s i = false) : maySp s = false := fitN_no h 6 hi

theorem idx0 (w : World) : (Instr.index 63 (.agg partsA) (.int .i64 0)).run Try.prog w = .ok (.agg #[.func (.func 33) #[] #[], .func (.func 34) #[] #[], .func (.func 35) #[] #[]]) w := by kernel_rfl
theorem idx1 (w : World) : (Instr.index 63 (.agg partsA) (.int .i64 1)).run Try.prog w = .ok (.agg #[.func (.func 37) #[] #[], .func (.func 38) #[] #[], .func (.func 39) #[] #[]]) w := by kernel_rfl
theorem idx2 (w : World) : (Instr.index 63 (.agg partsA) (.int .i64 2)).run Try.prog w = .ok (.agg #[.func (.func 41) #[] #[], .func (.func 42) #[] #[], .func (.func 43) #[] #[]]) w := by kernel_rfl
theorem idx3 (w : World) : (Instr.index 63 (.agg partsA) (.int .i64 3)).run Try.prog w = .ok (.agg #[.func (.func 44) #[] #[], .func (.func 45) #[] #[], .func (.func 46) #[] #[]]) w := by kernel_rfl
theorem idx4 (w : World) : (Instr.index 63 (.agg partsA) (.int .i64 4)).run Try.prog w = .ok (.agg #[.func (.func 47) #[] #[], .func (.func 48) #[] #[], .func (.func 46) #[] #[]]) w := by kernel_rfl
theorem idx5 (w : World) : (Instr.index 63 (.agg partsA) (.int .i64 5)).run Try.prog w = .ok (.agg #[.func (.func 49) #[] #[], .func (.func 50) #[] #[], .func (.func 51) #[] #[]]) w := by kernel_rfl

set_option maxHeartbeats 1000000 in
set_option maxRecDepth 100000 in
theorem spmay_any (c t x m k e : Int) (w : World) :
    Calls Try.prog 22 #[.agg #[.int .i64 c, .int .i64 t, .int .i64 x, .int .i64 m, .int .i64 k, .int .i64 e]] w fun r w' => r = .returned (.bool (maySp ⟨c, t, x, m, k, e⟩)) ∧ Below w.heap.size w w' := by
  go_enter Try.func22, Try.ntmps22
  go_wp2_with fail
  refine (parts_any _).mono ?_
  rintro r w1 ⟨rfl, hb1⟩
  have hb : Below w.heap.size w w1 := ((Below.refl _ _).alloc (by simp) _).trans (hb1.mono (by simp))
  have c0 : w1.cell? ⟨w.heap.size, 0, none⟩ = some (.int .i64 c) := (hb1.cell (p := ⟨w.heap.size, 0, none⟩) (by simp)).trans (by simp)
  have c1 : w1.cell? ⟨w.heap.size, 1, none⟩ = some (.int .i64 t) := (hb1.cell (p := ⟨w.heap.size, 1, none⟩) (by simp)).trans (by simp)
  have c2 : w1.cell? ⟨w.heap.size, 2, none⟩ = some (.int .i64 x) := (hb1.cell (p := ⟨w.heap.size, 2, none⟩) (by simp)).trans (by simp)
  have c3 : w1.cell? ⟨w.heap.size, 3, none⟩ = some (.int .i64 m) := (hb1.cell (p := ⟨w.heap.size, 3, none⟩) (by simp)).trans (by simp)
  have c4 : w1.cell? ⟨w.heap.size, 4, none⟩ = some (.int .i64 k) := (hb1.cell (p := ⟨w.heap.size, 4, none⟩) (by simp)).trans (by simp)
  have c5 : w1.cell? ⟨w.heap.size, 5, none⟩ = some (.int .i64 e) := (hb1.cell (p := ⟨w.heap.size, 5, none⟩) (by simp)).trans (by simp)
  clear hb1
  go_wp2_with fail
  go_loopw [6] (fun i wr => ∃ (j : Nat), j ≤ 6 ∧ i = .int .i64 j ∧ Below w1.heap.size w1 wr ∧ Hid (fitN ⟨c, t, x, m, k, e⟩ j = true)) (fun i _ => ((6 : Int) - intOf i).toNat)
  case atStart => exact ⟨0, by omega, rfl, Below.refl _ _, rfl⟩
  case round =>
    obtain ⟨j, hj, rfl, hbw, HF⟩ := hrel
    have s1 := hbw.size
    have e0 := cell_later hbw c0
    have e1 := cell_later hbw c1
    have e2 := cell_later hbw c2
    have e3 := cell_later hbw c3
    have e4 := cell_later hbw c4
    have e5 := cell_later hbw c5
    have s2 : w.heap.size < wr.heap.size := World.block_lt_of_cell? _ _ e0
    rcases (show j = 0 ∨ j = 1 ∨ j = 2 ∨ j = 3 ∨ j = 4 ∨ j = 5 ∨ j = 6 by omega) with rfl | rfl | rfl | rfl | rfl | rfl | rfl
    · have hix := idx0
      cases hg : fitC ⟨c, t, x, m, k, e⟩
      · have HG : Hid (fitC ⟨c, t, x, m, k, e⟩ = false) := hg
        clear hg
        go_wp2_with fail
        refine (fitC_any c t x m k e _).mono ?_
        rintro r w3 ⟨rfl, hb3⟩
        rw [HG.out]
        go_wp2_with fail
        go_ret
        exact ⟨ret_b (spfit_no 0 (by omega) HG.out).symm, (hb.trans ((hbw.mono hb.size).alloc (by have := hb.size; omega) _)).trans (hb3.mono (by have := hb.size; simp; omega))⟩
      · have HG : Hid (fitC ⟨c, t, x, m, k, e⟩ = true) := hg
        clear hg
        go_wp2_with fail
        refine (fitC_any c t x m k e _).mono ?_
        rintro r w3 ⟨rfl, hb3⟩
        rw [HG.out]
        go_wp2_with fail
        go_roundw
        case rel => exact ⟨1, by omega, by go_num, (hbw.alloc s1 _).trans (hb3.mono (by simp; omega)), fit_on HF.out HG.out⟩
        case measure => simp [intOf]
    · have hix := idx1
      cases hg : fitT ⟨c, t, x, m, k, e⟩
      · have HG : Hid (fitT ⟨c, t, x, m, k, e⟩ = false) := hg
        clear hg
        go_wp2_with fail
        refine (fitT_any c t x m k e _).mono ?_
        rintro r w3 ⟨rfl, hb3⟩
        rw [HG.out]
        go_wp2_with fail
        go_ret
        exact ⟨ret_b (spfit_no 1 (by omega) HG.out).symm, (hb.trans ((hbw.mono hb.size).alloc (by have := hb.size; omega) _)).trans (hb3.mono (by have := hb.size; simp; omega))⟩
      · have HG : Hid (fitT ⟨c, t, x, m, k, e⟩ = true) := hg
        clear hg
        go_wp2_with fail
        refine (fitT_any c t x m k e _).mono ?_
        rintro r w3 ⟨rfl, hb3⟩
        rw [HG.out]
        go_wp2_with fail
        go_roundw
        case rel => exact ⟨2, by omega, by go_num, (hbw.alloc s1 _).trans (hb3.mono (by simp; omega)), fit_on HF.out HG.out⟩
        case measure => simp [intOf]
    · have hix := idx2
      cases hg : fitX ⟨c, t, x, m, k, e⟩
      · have HG : Hid (fitX ⟨c, t, x, m, k, e⟩ = false) := hg
        clear hg
        go_wp2_with fail
        refine (fitX_any c t x m k e _).mono ?_
        rintro r w3 ⟨rfl, hb3⟩
        rw [HG.out]
        go_wp2_with fail
        go_ret
        exact ⟨ret_b (spfit_no 2 (by omega) HG.out).symm, (hb.trans ((hbw.mono hb.size).alloc (by have := hb.size; omega) _)).trans (hb3.mono (by have := hb.size; simp; omega))⟩
      · have HG : Hid (fitX ⟨c, t, x, m, k, e⟩ = true) := hg
        clear hg
        go_wp2_with fail
        refine (fitX_any c t x m k e _).mono ?_
        rintro r w3 ⟨rfl, hb3⟩
        rw [HG.out]
        go_wp2_with fail
        go_roundw
        case rel => exact ⟨3, by omega, by go_num, (hbw.alloc s1 _).trans (hb3.mono (by simp; omega)), fit_on HF.out HG.out⟩
        case measure => simp [intOf]
    · have hix := idx3
      cases hg : fitW ⟨c, t, x, m, k, e⟩
      · have HG : Hid (fitW ⟨c, t, x, m, k, e⟩ = false) := hg
        clear hg
        go_wp2_with fail
        refine (fitW_any c t x m k e _).mono ?_
        rintro r w3 ⟨rfl, hb3⟩
        rw [HG.out]
        go_wp2_with fail
        go_ret
        exact ⟨ret_b (spfit_no 3 (by omega) HG.out).symm, (hb.trans ((hbw.mono hb.size).alloc (by have := hb.size; omega) _)).trans (hb3.mono (by have := hb.size; simp; omega))⟩
      · have HG : Hid (fitW ⟨c, t, x, m, k, e⟩ = true) := hg
        clear hg
        go_wp2_with fail
        refine (fitW_any c t x m k e _).mono ?_
        rintro r w3 ⟨rfl, hb3⟩
        rw [HG.out]
        go_wp2_with fail
        go_roundw
        case rel => exact ⟨4, by omega, by go_num, (hbw.alloc s1 _).trans (hb3.mono (by simp; omega)), fit_on HF.out HG.out⟩
        case measure => simp [intOf]
    · have hix := idx4
      cases hg : fitW ⟨c, t, x, m, k, e⟩
      · have HG : Hid (fitW ⟨c, t, x, m, k, e⟩ = false) := hg
        clear hg
        go_wp2_with fail
        refine (fitW_any c t x m k e _).mono ?_
        rintro r w3 ⟨rfl, hb3⟩
        rw [HG.out]
        go_wp2_with fail
        go_ret
        exact ⟨ret_b (spfit_no 4 (by omega) HG.out).symm, (hb.trans ((hbw.mono hb.size).alloc (by have := hb.size; omega) _)).trans (hb3.mono (by have := hb.size; simp; omega))⟩
      · have HG : Hid (fitW ⟨c, t, x, m, k, e⟩ = true) := hg
        clear hg
        go_wp2_with fail
        refine (fitW_any c t x m k e _).mono ?_
        rintro r w3 ⟨rfl, hb3⟩
        rw [HG.out]
        go_wp2_with fail
        go_roundw
        case rel => exact ⟨5, by omega, by go_num, (hbw.alloc s1 _).trans (hb3.mono (by simp; omega)), fit_on HF.out HG.out⟩
        case measure => simp [intOf]
    · have hix := idx5
      cases hg : fitE ⟨c, t, x, m, k, e⟩
      · have HG : Hid (fitE ⟨c, t, x, m, k, e⟩ = false) := hg
        clear hg
        go_wp2_with fail
        refine (fitE_any c t x m k e _).mono ?_
        rintro r w3 ⟨rfl, hb3⟩
        rw [HG.out]
        go_wp2_with fail
        go_ret
        exact ⟨ret_b (spfit_no 5 (by omega) HG.out).symm, (hb.trans ((hbw.mono hb.size).alloc (by have := hb.size; omega) _)).trans (hb3.mono (by have := hb.size; simp; omega))⟩
      · have HG : Hid (fitE ⟨c, t, x, m, k, e⟩ = true) := hg
        clear hg
        go_wp2_with fail
        refine (fitE_any c t x m k e _).mono ?_
        rintro r w3 ⟨rfl, hb3⟩
        rw [HG.out]
        go_wp2_with fail
        go_roundw
        case rel => exact ⟨6, by omega, by go_num, (hbw.alloc s1 _).trans (hb3.mono (by simp; omega)), fit_on HF.out HG.out⟩
        case measure => simp [intOf]
    · go_wp2_with fail
      go_ret
      exact ⟨ret_b HF.out.symm, hb.trans (hbw.mono hb.size)⟩
end Go.Proofs.Ythbppojglhimnaa
