/- The law: what is pressed has no more than the load. -/
import Derived.Test.YtjiockmphbhljaaDoorX9
namespace Go.Proofs.YtjiockmphbhljaaDoor
open Go.RowKit

/-- A list that is read, by its length and what each is. -/
theorem nums_open {w : World} {v : Value} {n : Nat} {g : Nat → Int} (h : Nums w v (lst7 n g)) : ∃ a cap, v = .slice a n cap ∧ n ≤ cap ∧ cap ≤ maxLen ∧ (0 < n → ∃ b o, a = some ⟨b, o, none⟩ ∧ ∀ i, i < n → w.cell? ⟨b, o + i, none⟩ = some (.int .i64 (g i))) := by
  obtain ⟨a, cap, rfl, h1, h2, h3⟩ := h
  rw [lst7_len] at h1 h3
  refine ⟨a, cap, by rw [lst7_len], h1, h2, fun hn => ?_⟩
  obtain ⟨b, o, rfl, h4⟩ := h3 (by intro e; have := congrArg List.length e; rw [lst7_len, List.length_nil] at this; omega)
  exact ⟨b, o, rfl, fun i hi => by rw [h4 i hi, lst7_at hi]⟩

set_option maxHeartbeats 1000000 in
set_option maxRecDepth 100000 in
theorem law_sfits_no (n : Nat) (u m e : Nat → Int) (load : Int) (v : Value) (w : World) (h : Sprs w v n u m e) (hr : roomB n u m e load = false) (hL : Lim w) :
    Calls Tryd.prog 4 #[v, .int .i64 load] w fun r w' => r = .returned (.bool true) ∧ Below w.heap.size w w' := by
  have hF : Frc n u m e load 0 0 false := ⟨hr, (fun h => by cases h), fun _ => ⟨rfl, rfl⟩⟩
  have HR : Hid (roomB n u m e load = false) := hr
  clear hr
  go_enter Tryd.func4, Tryd.ntmps4
  go_wp2_with fail
  refine (awake7_any _ hL).mono ?_
  rintro r w1 ⟨rfl, hb1⟩
  go_wp2_with fail
  refine (press7_any n u m e load 0 0 false v _ (h.later hb1) hF (hL.later hb1)).mono ?_
  rintro r w2 ⟨x, rfl, hown, hb2⟩
  have hB2 : Below w.heap.size w w2 := hb1.trans (hb2.mono hb1.size)
  obtain ⟨ax, cx, rfl, _⟩ := (Nums.own hown).1
  rw [show (prs7 n u m e 0 0 false).length = 0 from rfl]
  clear hown hb1 hb2
  go_wp2_with fail
  refine (room7_any n u m e load v _ (h.later hB2) (hL.later hB2)).mono ?_
  rintro r w3 ⟨rfl, hb3⟩
  have hB3 : Below w.heap.size w w3 := hB2.trans (hb3.mono hB2.size)
  rw [HR.out]
  clear hb3 hB2
  go_wp2_with fail
  refine (room7_any n u m e load v _ (h.later hB3) (hL.later hB3)).mono ?_
  rintro r w4 ⟨rfl, hb4⟩
  have hB4 : Below w.heap.size w w4 := hB3.trans (hb4.mono hB3.size)
  rw [HR.out]
  clear hb4 hB3
  go_wp2
  go_ret
  exact ⟨rfl, hB4⟩

set_option maxHeartbeats 2000000 in
set_option maxRecDepth 100000 in
theorem law_sfits_yes (n : Nat) (u m e : Nat → Int) (load : Int) (v : Value) (w : World) (h : Sprs w v n u m e) (hr : roomB n u m e load = true) (hL : Lim w) :
    Calls Tryd.prog 4 #[v, .int .i64 load] w fun r w' => r = .returned (.bool true) ∧ Below w.heap.size w w' := by
  obtain ⟨hS, ⟨l0, l1⟩, hm⟩ := roomB_of hr
  obtain ⟨a, b, hI, _⟩ := isF_exists hS.sp hm
  have hF : Frc n u m e load a b true := ⟨hr, fun _ => hI, fun h => by cases h⟩
  have HR : Hid (roomB n u m e load = true) := hr
  have HS : Hid (fitS n u m e) := hS
  have HI : Hid (IsF n u (lo7 u m e) e load a b) := hI
  have hn := hS.1
  clear hr hm hI hS
  go_enter Tryd.func4, Tryd.ntmps4
  go_wp2_with fail
  refine (awake7_any _ hL).mono ?_
  rintro r w1 ⟨rfl, hb1⟩
  go_wp2_with fail
  refine (press7_any n u m e load a b true v _ (h.later hb1) hF (hL.later hb1)).mono ?_
  rintro r w2 ⟨x, rfl, hown, hb2⟩
  have hB2 : Below w.heap.size w w2 := hb1.trans (hb2.mono hb1.size)
  have hN := (Nums.own hown).1
  clear hown hb1 hb2
  go_wp2_with fail
  refine (room7_any n u m e load v _ (h.later hB2) (hL.later hB2)).mono ?_
  rintro r w3 ⟨rfl, hb3⟩
  have hB3 : Below w.heap.size w w3 := hB2.trans (hb3.mono hB2.size)
  rw [HR.out]
  obtain ⟨ax, cx, rfl, x1, x2, x3⟩ := nums_open (g := hv u m e a b) (hN.later hb3)
  obtain ⟨ad, cap, rfl, h1, h2, h0, h3⟩ := h.later hB3
  clear hb3 hB2 hN h
  go_wp2_with fail
  go_loopw [8, 9, 10, 11] (fun s8 s9 s10 s11 wr => ∃ (j : Nat) (z y : Int) (q : Bool), j ≤ n ∧ s8 = .int .i64 z ∧ s9 = .int .i64 y ∧ s10 = .bool q ∧ s11 = .int .i64 j ∧ 0 ≤ z ∧ z ≤ j * 1048576 ∧ 0 ≤ y ∧ y ≤ j * 1048576 ∧ Hid (z = sm j (hv u m e a b) ∧ y = sm j u) ∧ Below w3.heap.size w3 wr) (fun _ _ _ s11 _ => ((n : Int) - intOf s11).toNat)
  case atStart => exact ⟨0, 0, 0, true, by omega, rfl, rfl, rfl, rfl, by omega, by omega, by omega, by omega, ⟨rfl, rfl⟩, Below.refl _ _⟩
  case round =>
    obtain ⟨j, z, y, q, hj, rfl, rfl, rfl, rfl, z0, z1, y0, y1, HV, hbw⟩ := hrel
    by_cases hlt : (j : Int) < n
    · obtain ⟨bx, ox, rfl, x4⟩ := x3 (by omega)
      obtain ⟨bk, o, rfl, h4⟩ := h3 (by omega)
      obtain ⟨k0, k1, k2⟩ := h4 j (by omega)
      have cx0 := cell_later hbw (x4 j (by omega))
      have e0 := cell_later hbw k0
      have e1 := cell_later hbw k1
      have e2 := cell_later hbw k2
      have g1 := hv_lo (u := u) (m := m) (e := e) (a := a) (b := b) (i := j)
      have g2 := hv_up HS.out HI.out.a0 HI.out.b1 (show j < n by omega)
      have g3 := hv_bd HS.out HI.out.a0 HI.out.b1 (show j < n by omega)
      have g4 := HS.out.2 j (by omega)
      have HG : Hid (e j = 0 → hv u m e a b j = u j) := fun he => hv_stiff he HI.out.b1
      have HV2 : Hid (z + hv u m e a b j = sm (j + 1) (hv u m e a b) ∧ y + u j = sm (j + 1) u) := by
        show _ ∧ _
        rw [HV.out.1, HV.out.2]
        exact ⟨rfl, rfl⟩
      have HL : Hid (lo7 u m e j = lea (u j) (m j) (e j)) := rfl
      obtain ⟨g41, g42, g43, g44, g45⟩ := g4
      clear k0 k1 k2 h4 x4 h3 x3 HV
      generalize hv u m e a b j = hj' at *
      generalize lo7 u m e j = lj at *
      generalize u j = uj at *
      generalize m j = mj at *
      generalize e j = ej at *
      have n1 : ((j : Int) + 1) * 1048576 = j * 1048576 + 1048576 := by omega
      go_wp2_with fail
      refine (refLeast7_any uj mj ej _).mono ?_
      rintro r w4 ⟨rfl, hb4⟩
      rw [← HL.out]
      have c0' := cell_later hb4 cx0
      have e0' := cell_later hb4 e0
      have e1' := cell_later hb4 e1
      have e2' := cell_later hb4 e2
      have hbw4 : Below w3.heap.size w3 w4 := hbw.trans (hb4.mono hbw.size)
      clear cx0 e0 e1 e2 hbw hb4
      have d1 : decide (hj' < lj) = false := decide_eq_false (by omega)
      have d2 : decide (hj' > uj) = false := decide_eq_false (by omega)
      have d3 : decide (uj < hj') = false := decide_eq_false (by omega)
      by_cases he : ej = 0
      · have hu := HG.out he
        subst hu
        subst he
        cases q
        · go_wp2_with fail
          go_quiet (fail)
          go_wp2_with fail
          go_roundw
          case rel => exact ⟨j + 1, z + hj', y + hj', _, by omega, by go_num, by go_num, rfl, by go_num, by omega, by omega, by omega, by omega, HV2.out, ⟨hbw4.os, hbw4.tape, hbw4.output, hbw4.size, hbw4.block⟩⟩
          case measure => simp [intOf]; omega
        · go_wp2_with fail
          go_quiet (fail)
          go_wp2_with fail
          go_roundw
          case rel => exact ⟨j + 1, z + hj', y + hj', _, by omega, by go_num, by go_num, rfl, by go_num, by omega, by omega, by omega, by omega, HV2.out, ⟨hbw4.os, hbw4.tape, hbw4.output, hbw4.size, hbw4.block⟩⟩
          case measure => simp [intOf]; omega
      · have he' : (ej == 0) = false := by simpa using he
        cases q
        · go_wp2_with fail
          go_quiet (fail)
          go_wp2_with fail
          go_roundw
          case rel => exact ⟨j + 1, z + hj', y + uj, _, by omega, by go_num, by go_num, rfl, by go_num, by omega, by omega, by omega, by omega, HV2.out, ⟨hbw4.os, hbw4.tape, hbw4.output, hbw4.size, hbw4.block⟩⟩
          case measure => simp [intOf]; omega
        · go_wp2_with fail
          go_quiet (fail)
          go_wp2_with fail
          go_roundw
          case rel => exact ⟨j + 1, z + hj', y + uj, _, by omega, by go_num, by go_num, rfl, by go_num, by omega, by omega, by omega, by omega, HV2.out, ⟨hbw4.os, hbw4.tape, hbw4.output, hbw4.size, hbw4.block⟩⟩
          case measure => simp [intOf]; omega
    · have hjk : j = n := by omega
      subst hjk
      have hB : Below w.heap.size w wr := hB3.trans (hbw.mono hB3.size)
      have s1 := fits_sum HI.out
      by_cases hl : y ≤ load
      · have hzy : z = y := by
          have := fits_full HS.out HI.out (by rw [← HV.out.2]; exact hl)
          rw [← HV.out.1, ← HV.out.2] at this
          exact this
        subst hzy
        clear s1
        go_wp2
        go_ret
        exact ⟨rfl, hB⟩
      · have s2 := fits_rest HS.out l0 HI.out (by rw [← HV.out.2]; omega)
        rw [← HV.out.1] at s1 s2
        go_wp2
        go_ret
        exact ⟨ret_b (by simp), hB⟩

theorem law_sfits (n : Nat) (u m e : Nat → Int) (load : Int) (v : Value) (w : World) (h : Sprs w v n u m e) (hL : Lim w) :
    Calls Tryd.prog 4 #[v, .int .i64 load] w fun r w' => r = .returned (.bool true) ∧ Below w.heap.size w w' := by
  cases hr : roomB n u m e load
  · exact law_sfits_no n u m e load v w h hr hL
  · exact law_sfits_yes n u m e load v w h hr hL
end Go.Proofs.YtjiockmphbhljaaDoor
