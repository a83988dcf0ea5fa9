/- Walks of package plan: which may not be, and tasks as springs. -/
import Derived.Test.YtmiakknagjncpaaGreatDoorC3
import Derived.Deep.RegionHeld3
import Derived.Laws.OwnMore
namespace Go.Proofs.YtmiakknagjncpaaGreatDoor
open Go.RowKit Go.Shelf

theorem wrong_any (c t x m k e : Int) (w : World) :
    Calls Tryz.prog 15 #[.agg #[.int .i64 c, .int .i64 t, .int .i64 x, .int .i64 m, .int .i64 k, .int .i64 e]] w fun r w' => r = .returned (.bool (!maySp ⟨c, t, x, m, k, e⟩)) ∧ Below w.heap.size w w' := by
  go_enter Tryz.func15, Tryz.ntmps15
  go_wp2_with fail
  refine (spmay_any c t x m k e _).mono ?_
  rintro r w1 ⟨rfl, hb1⟩
  go_wp2
  go_ret
  exact ⟨rfl, ((Below.refl _ _).alloc (Nat.le_refl _) _).trans (hb1.mono (by simp))⟩

set_option maxHeartbeats 2000000 in
set_option maxRecDepth 100000 in
theorem idxS_any (n : Nat) (s : Nat → Sp) (v : Value) (w : World) (h : Sps w v n s) (hn : n ≤ 4) :
    Calls Tryz.prog 35 #[v, .func (.func 15) #[] #[]] w fun r w' => ∃ z : Int, r = .returned (.int .i64 z) ∧ -1 ≤ z ∧ z ≤ 100000 ∧ Hid (spsB n s = decide (z < 0)) ∧ Below w.heap.size w w' := by
  obtain ⟨a, cap, rfl, h1, h2, h0, h3⟩ := h
  go_enter Tryz.func35, Tryz.ntmps35
  go_wp2_with fail
  go_loopw [8] (fun i wr => ∃ (j : Nat), j ≤ n ∧ i = .int .i64 j ∧ Hid (∀ i, i < j → maySp (s i) = true) ∧ Below w.heap.size w wr) (fun i _ => ((n : Int) - intOf i).toNat)
  case atStart => exact ⟨0, by omega, rfl, fun i hi => by omega, Below.refl _ _⟩
  case round =>
    obtain ⟨j, hj, rfl, HK, hbw⟩ := hrel
    by_cases hlt : (j : Int) < n
    · obtain ⟨bk, o, rfl, h4⟩ := h3 (by omega)
      have hrow := rowS_open (f := s j) (h4 j (by omega))
      clear h4 h3
      obtain ⟨⟨cj, tj, xj, mj, kj, ej⟩, hf⟩ : ∃ y, s j = y := ⟨_, rfl⟩
      have HF : Hid (s j = ⟨cj, tj, xj, mj, kj, ej⟩) := hf
      rw [hf] at hrow
      clear hf
      obtain ⟨k0, k1, k2, k3, k4, k5⟩ := hrow
      simp only at k0 k1 k2 k3 k4 k5
      have e0 := cell_later hbw k0
      have e1 := cell_later hbw k1
      have e2 := cell_later hbw k2
      have e3 := cell_later hbw k3
      have e4 := cell_later hbw k4
      have e5 := cell_later hbw k5
      have sb := World.block_lt_of_cell? _ _ k0
      clear k0 k1 k2 k3 k4 k5
      have sw := hbw.size
      cases hk : maySp ⟨cj, tj, xj, mj, kj, ej⟩ with
      | false =>
        have H1 : Hid (maySp ⟨cj, tj, xj, mj, kj, ej⟩ = false) := hk
        have H : Hid (spsB n s = false) := sps_no (i := j) (by omega) (by rw [HF.out]; exact hk)
        clear hk
        go_wp2_with fail
        refine (wrong_any cj tj xj mj kj ej _).mono ?_
        rintro r w2 ⟨rfl, hb2⟩
        rw [H1.out]
        go_wp2
        go_ret
        exact ⟨j, rfl, by omega, by omega, by show _ = _; rw [H.out, decide_eq_false (by omega)], hbw.trans (hb2.mono sw)⟩
      | true =>
        have H1 : Hid (maySp ⟨cj, tj, xj, mj, kj, ej⟩ = true) := hk
        have HK2 : Hid (∀ i, i < j + 1 → maySp (s i) = true) := by
          intro i hi
          by_cases c : i = j
          · subst c; rw [HF.out]; exact hk
          · exact HK.out i (by omega)
        clear hk
        go_wp2_with fail
        refine (wrong_any cj tj xj mj kj ej _).mono ?_
        rintro r w2 ⟨rfl, hb2⟩
        rw [H1.out]
        have hb3 := hbw.trans (hb2.mono sw)
        clear hb2
        go_wp2_with fail
        go_roundw
        case rel => exact ⟨j + 1, by omega, by go_num, HK2.out, hb3⟩
        case measure => simp [intOf]; omega
    · obtain rfl : j = n := by omega
      have H : Hid (spsB j s = true) := sps_yes HK.out
      go_wp2
      go_ret
      exact ⟨-1, rfl, by omega, by omega, by show _ = _; rw [H.out]; rfl, hbw⟩

set_option maxHeartbeats 2000000 in
set_option maxRecDepth 100000 in
theorem conS_any (n : Nat) (s : Nat → Sp) (v : Value) (w : World) (h : Sps w v n s) (hn : n ≤ 4) :
    Calls Tryz.prog 14 #[v, .func (.func 15) #[] #[]] w fun r w' => r = .returned (.bool (!spsB n s)) ∧ Below w.heap.size w w' := by
  go_enter Tryz.func14, Tryz.ntmps14
  go_wp2_with fail
  refine (idxS_any n s v _ h hn).mono ?_
  rintro r w1 ⟨z, rfl, z0, z1, HZ, hb1⟩
  go_wp2
  go_ret
  refine ⟨ret_b ?_, hb1⟩
  rw [HZ.out]
  by_cases c : z < 0
  · rw [decide_eq_true c, decide_eq_false (by omega)]; rfl
  · rw [decide_eq_false c, decide_eq_true (by omega)]; rfl

/-- Three numbers that lie in a block, and may be written. -/
def Tri (w : World) (b : Nat) (u m e : Int) : Prop := Thr w b u m e ∧ ∀ i, i < 3 → w.frozen? ⟨b, i, none⟩ = false
theorem Tri.later {w w' : World} {b : Nat} {u m e : Int} (h : Tri w b u m e) (hb : Below w.heap.size w w') : Tri w' b u m e :=
  ⟨h.1.later hb, fun i hi => (hb.frozen (p := ⟨b, i, none⟩) h.1.lt).trans (h.2 i hi)⟩
theorem Tri.new (w : World) (u m e : Int) : Tri (w.alloc (.cells #[.int .i64 u, .int .i64 m, .int .i64 e] 47)) w.heap.size u m e :=
  ⟨Thr.new w u m e _, fun i hi => by
    rcases (show i = 0 ∨ i = 1 ∨ i = 2 by omega) with rfl | rfl | rfl <;> simp⟩
theorem Tri.tri {w : World} {b : Nat} {u m e : Int} (h : Tri w b u m e) : (w.cell? ⟨b, 0, none⟩ = some (.int .i64 u) ∧ w.cell? ⟨b, 1, none⟩ = some (.int .i64 m) ∧ w.cell? ⟨b, 2, none⟩ = some (.int .i64 e)) ∧ w.frozen? ⟨b, 0, none⟩ = false ∧ w.frozen? ⟨b, 1, none⟩ = false ∧ w.frozen? ⟨b, 2, none⟩ = false :=
  ⟨h.1, h.2 0 (by omega), h.2 1 (by omega), h.2 2 (by omega)⟩
end Go.Proofs.YtmiakknagjncpaaGreatDoor
