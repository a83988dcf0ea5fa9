/- The document's own answer for springs: walks of its May, Room and total. -/
import Derived.Test.YtjiockmphbhljaaDoorX15
namespace Go.Proofs.YtjiockmphbhljaaDoor
open Go.RowKit

set_option maxHeartbeats 1000000 in
set_option maxRecDepth 100000 in
theorem refMay7_any (n : Nat) (u m e : Nat → Int) (v : Value) (w : World) (h : Sprs w v n u m e) (hn : n ≤ 10) :
    Calls Tryd.prog 14 #[v] w fun r w' => r = .returned (.bool (sprB n u m e)) ∧ Below w.heap.size w w' := by
  obtain ⟨ad, cap, rfl, h1, h2, h0, h3⟩ := h
  go_enter Tryd.func14, Tryd.ntmps14
  go_wp2_with fail
  go_loopw [3] (fun i wr => ∃ (j : Nat), j ≤ n ∧ i = .int .i64 j ∧ Hid (∀ i, i < j → 1 ≤ m i ∧ m i ≤ u i ∧ u i ≤ 1048576 ∧ 0 ≤ e i ∧ e i ≤ 8) ∧ Below w.heap.size w wr) (fun i _ => ((n : Int) - intOf i).toNat)
  case atStart => exact ⟨0, by omega, rfl, (fun i hi => by omega), Below.refl _ _⟩
  case round =>
    obtain ⟨j, hj, rfl, HG, hbw⟩ := hrel
    by_cases hlt : (j : Int) < n
    · obtain ⟨bk, o, rfl, h4⟩ := h3 (by omega)
      obtain ⟨k0, k1, k2⟩ := h4 j (by omega)
      clear h4 h3
      have e0 := cell_later hbw k0
      have e1 := cell_later hbw k1
      have e2 := cell_later hbw k2
      clear k0 k1 k2
      have sw := hbw.size
      obtain ⟨uj, hu⟩ : ∃ x, u j = x := ⟨_, rfl⟩
      obtain ⟨mj, hm⟩ : ∃ x, m j = x := ⟨_, rfl⟩
      obtain ⟨ej, he⟩ : ∃ x, e j = x := ⟨_, rfl⟩
      have HU : Hid (u j = uj ∧ m j = mj ∧ e j = ej) := ⟨hu, hm, he⟩
      rw [hu] at e0; rw [hm] at e1; rw [he] at e2
      clear hu hm he
      have hbox : Below w.heap.size w (wr.alloc (.cells #[.int .i64 uj, .int .i64 mj, .int .i64 ej] 33)) := hbw.alloc sw _
      have HJ : Hid (¬ (1 ≤ mj ∧ mj ≤ uj ∧ uj ≤ 1048576 ∧ 0 ≤ ej ∧ ej ≤ 8) → sprB n u m e = false) := by
        show _ → _
        intro hc
        refine sprB_no (fun h => hc ?_)
        have := h.2 j (by omega)
        rw [HU.out.1, HU.out.2.1, HU.out.2.2] at this
        exact this
      by_cases c1 : mj < 1
      · have H : Hid (sprB n u m e = false) := HJ.out (by omega)
        go_wp2
        go_ret
        exact ⟨ret_b H.out.symm, hbox⟩
      by_cases c2 : uj < mj
      · have H : Hid (sprB n u m e = false) := HJ.out (by omega)
        go_wp2
        go_ret
        exact ⟨ret_b H.out.symm, hbox⟩
      by_cases c3 : uj > 1048576
      · have H : Hid (sprB n u m e = false) := HJ.out (by omega)
        go_wp2
        go_ret
        exact ⟨ret_b H.out.symm, hbox⟩
      by_cases c4 : ej < 0
      · have H : Hid (sprB n u m e = false) := HJ.out (by omega)
        go_wp2
        go_ret
        exact ⟨ret_b H.out.symm, hbox⟩
      by_cases c5 : ej > 8
      · have H : Hid (sprB n u m e = false) := HJ.out (by omega)
        go_wp2
        go_ret
        exact ⟨ret_b H.out.symm, hbox⟩
      have HN : Hid (∀ i, i < j + 1 → 1 ≤ m i ∧ m i ≤ u i ∧ u i ≤ 1048576 ∧ 0 ≤ e i ∧ e i ≤ 8) := by
        intro i hi
        rcases Nat.lt_succ_iff_lt_or_eq.1 hi with hi | rfl
        · exact HG.out i hi
        · rw [HU.out.1, HU.out.2.1, HU.out.2.2]; omega
      go_wp2_with fail
      go_roundw
      case rel => exact ⟨j + 1, by omega, by go_num, HN.out, hbox⟩
      case measure => simp [intOf]; omega
    · have hjk : j = n := by omega
      subst hjk
      have H : Hid (sprB j u m e = decide ((j : Int) ≤ 4)) := by
        show _ = _
        by_cases c : (j : Int) ≤ 4
        · rw [decide_eq_true c]; exact sprB_yes ⟨by omega, HG.out⟩
        · rw [decide_eq_false c]; exact sprB_no (fun h => c (by have := h.1; omega))
      obtain ⟨q, hq⟩ : ∃ q, decide ((j : Int) ≤ 4) = q := ⟨_, rfl⟩
      have HQ : Hid (sprB j u m e = q) := H.out.trans hq
      by_cases c : (j : Int) ≤ 4
      · have hq1 : q = true := by rw [← hq]; exact decide_eq_true c
        clear hq H
        go_wp2
        go_ret
        exact ⟨by rw [HQ.out, hq1]; simp, hbw⟩
      · have hq1 : q = false := by rw [← hq]; exact decide_eq_false c
        clear hq H
        go_wp2
        go_ret
        exact ⟨by rw [HQ.out, hq1]; simp, hbw⟩

set_option maxHeartbeats 1000000 in
set_option maxRecDepth 100000 in
theorem refRoom7_any (n : Nat) (u m e : Nat → Int) (load : Int) (v : Value) (w : World) (h : Sprs w v n u m e) (hn : n ≤ 10) :
    Calls Tryd.prog 16 #[v, .int .i64 load] w fun r w' => r = .returned (.bool (roomB n u m e load)) ∧ Below w.heap.size w w' := by
  cases hm : sprB n u m e
  · have HM : Hid (sprB n u m e = false) := hm
    have H : Hid (roomB n u m e load = false) := by show _ = _; unfold roomB; rw [hm]; rfl
    clear hm
    go_enter Tryd.func16, Tryd.ntmps16
    go_wp2_with fail
    refine (refMay7_any n u m e v _ h hn).mono ?_
    rintro r w1 ⟨rfl, hb1⟩
    rw [HM.out]
    obtain ⟨ad, cap, rfl, h1, h2, h0, h3⟩ := h.later hb1
    clear h
    go_wp2_with fail
    go_loopw [6, 7] (fun s6 s7 wr => ∃ (j : Nat) (z : Int), j ≤ n ∧ s6 = .int .i64 z ∧ s7 = .int .i64 j ∧ Below w1.heap.size w1 wr) (fun _ s7 _ => ((n : Int) - intOf s7).toNat)
    case atStart => exact ⟨0, 0, by omega, rfl, rfl, Below.refl _ _⟩
    case round =>
      obtain ⟨j, z, hj, rfl, rfl, hbw⟩ := hrel
      by_cases hlt : (j : Int) < n
      · obtain ⟨bk, o, rfl, h4⟩ := h3 (by omega)
        obtain ⟨k0, k1, k2⟩ := h4 j (by omega)
        have e0 := cell_later hbw k0
        have e1 := cell_later hbw k1
        have e2 := cell_later hbw k2
        clear h4 h3 k0 k1 k2
        generalize u j = uj at *
        generalize m j = mj at *
        generalize e j = ej at *
        go_wp2_with fail
        refine (refLeast7_any _ _ _ _).mono ?_
        rintro r w2 ⟨rfl, hb2⟩
        have hb : Below w1.heap.size w1 w2 := hbw.trans (hb2.mono hbw.size)
        clear hb2 e0 e1 e2
        generalize lea uj mj ej = lj at *
        go_wp2_with fail
        go_roundw
        case rel => exact ⟨j + 1, _, by omega, rfl, by go_num, hb⟩
        case measure => simp [intOf]; omega
      · have hB : Below w.heap.size w wr := hb1.trans (hbw.mono hb1.size)
        go_wp2
        go_ret
        exact ⟨ret_b H.out.symm, hB⟩
  · have HM : Hid (sprB n u m e = true) := hm
    have HS : Hid (fitS n u m e) := sprB_of hm
    have H : Hid (roomB n u m e load = (decide (0 ≤ load ∧ load ≤ 1099511627776) && decide (sm n (lo7 u m e) ≤ load))) := by show _ = _; unfold roomB; rw [hm]; rfl
    clear hm
    go_enter Tryd.func16, Tryd.ntmps16
    go_wp2_with fail
    refine (refMay7_any n u m e v _ h hn).mono ?_
    rintro r w1 ⟨rfl, hb1⟩
    rw [HM.out]
    obtain ⟨ad, cap, rfl, h1, h2, h0, h3⟩ := h.later hb1
    clear h
    go_wp2_with fail
    go_loopw [6, 7] (fun s6 s7 wr => ∃ (j : Nat) (z : Int), j ≤ n ∧ s6 = .int .i64 z ∧ s7 = .int .i64 j ∧ 0 ≤ z ∧ z ≤ j * 1048576 ∧ Hid (z = sm j (lo7 u m e)) ∧ Below w1.heap.size w1 wr) (fun _ s7 _ => ((n : Int) - intOf s7).toNat)
    case atStart => exact ⟨0, 0, by omega, rfl, rfl, by omega, by omega, rfl, Below.refl _ _⟩
    case round =>
      obtain ⟨j, z, hj, rfl, rfl, z0, z1, HV, hbw⟩ := hrel
      by_cases hlt : (j : Int) < n
      · obtain ⟨bk, o, rfl, h4⟩ := h3 (by omega)
        obtain ⟨k0, k1, k2⟩ := h4 j (by omega)
        have e0 := cell_later hbw k0
        have e1 := cell_later hbw k1
        have e2 := cell_later hbw k2
        have f1 := HS.out.sp.low j (by omega)
        have f2 := HS.out.sp.top j (by omega)
        have f3 := HS.out.sp.unit j (by omega)
        have HV2 : Hid (z + lo7 u m e j = sm (j + 1) (lo7 u m e)) := by show _ = _; rw [HV.out]; rfl
        have HLo : Hid (lo7 u m e j = lea (u j) (m j) (e j)) := rfl
        have n1 : ((j : Int) + 1) * 1048576 = j * 1048576 + 1048576 := by omega
        clear h4 h3 k0 k1 k2 HV
        generalize lo7 u m e j = lj at *
        generalize u j = uj at *
        generalize m j = mj at *
        generalize e j = ej at *
        go_wp2_with fail
        refine (refLeast7_any _ _ _ _).mono ?_
        rintro r w2 ⟨rfl, hb2⟩
        rw [← HLo.out]
        have hb : Below w1.heap.size w1 w2 := hbw.trans (hb2.mono hbw.size)
        clear hb2 e0 e1 e2
        go_wp2_with fail
        go_roundw
        case rel => exact ⟨j + 1, z + lj, by omega, by go_num, by go_num, by omega, by omega, HV2.out, hb⟩
        case measure => simp [intOf]; omega
      · have hjk : j = n := by omega
        subst hjk
        have hB : Below w.heap.size w wr := hb1.trans (hbw.mono hb1.size)
        have H2 : Hid (roomB j u m e load = (decide (0 ≤ load ∧ load ≤ 1099511627776) && decide (z ≤ load))) := by show _ = _; rw [HV.out]; exact H.out
        clear H h3 HV
        by_cases c1 : load ≥ 0
        · by_cases c2 : load ≤ 1099511627776
          · have H3 : Hid (roomB j u m e load = decide (z ≤ load)) := by show _ = _; rw [H2.out, decide_eq_true (show 0 ≤ load ∧ load ≤ 1099511627776 from ⟨c1, c2⟩)]; rfl
            go_wp2
            go_ret
            exact ⟨ret_b H3.out.symm, hB⟩
          · have H3 : Hid (roomB j u m e load = false) := by show _ = _; rw [H2.out, decide_eq_false (fun h => c2 h.2)]; rfl
            go_wp2
            go_ret
            exact ⟨ret_b H3.out.symm, hB⟩
        · have H3 : Hid (roomB j u m e load = false) := by show _ = _; rw [H2.out, decide_eq_false (fun h => c1 h.1)]; rfl
          go_wp2
          go_ret
          exact ⟨ret_b H3.out.symm, hB⟩

set_option maxHeartbeats 1000000 in
set_option maxRecDepth 100000 in
theorem refTotal_any (n : Nat) (u m e : Nat → Int) (a b : Int) (v : Value) (w : World) (h : Sprs w v n u m e) (hS : fitS n u m e) (a0 : 0 ≤ a) (a22 : a ≤ 4194304) (b1 : 1 ≤ b) (b32 : b ≤ 32) :
    Calls Tryd.prog 21 #[v, .int .i64 a, .int .i64 b] w fun r w' => r = .returned (.int .i64 (tot n u (lo7 u m e) e a b)) ∧ Below w.heap.size w w' := by
  obtain ⟨ad, cap, rfl, h1, h2, h0, h3⟩ := h
  have HS : Hid (fitS n u m e) := hS
  have hn := hS.1
  clear hS
  go_enter Tryd.func21, Tryd.ntmps21
  go_wp2_with fail
  go_loopw [7, 8] (fun s7 s8 wr => ∃ (j : Nat) (z : Int), j ≤ n ∧ s7 = .int .i64 z ∧ s8 = .int .i64 j ∧ 0 ≤ z ∧ z ≤ j * 33554432 ∧ Hid (z = sm j (hav u (lo7 u m e) e a b)) ∧ Below w.heap.size w wr) (fun _ s8 _ => ((n : Int) - intOf s8).toNat)
  case atStart => exact ⟨0, 0, by omega, rfl, rfl, by omega, by omega, rfl, Below.refl _ _⟩
  case round =>
    obtain ⟨j, z, hj, rfl, rfl, z0, z1, HV, hbw⟩ := hrel
    by_cases hlt : (j : Int) < n
    · obtain ⟨bk, o', rfl, h4⟩ := h3 (by omega)
      obtain ⟨k0, k1, k2⟩ := h4 j (by omega)
      have e0 := cell_later hbw k0
      have e1 := cell_later hbw k1
      have e2 := cell_later hbw k2
      have f0 := HS.out.sp.low j (by omega)
      have f1 := HS.out.sp.top j (by omega)
      have f3 := HS.out.sp.unit j (by omega)
      have f5 := HS.out.sp.e0 j (by omega)
      have f6 := HS.out.sp.e8 j (by omega)
      have HLo : Hid (lo7 u m e j = lea (u j) (m j) (e j)) := rfl
      have HH : Hid (hav u (lo7 u m e) e a b j = max (b * u j - a * e j) (b * lo7 u m e j)) := rfl
      have HVV : Hid (z + hav u (lo7 u m e) e a b j = sm (j + 1) (hav u (lo7 u m e) e a b)) := by show _ = _; rw [HV.out]; rfl
      clear h4 h3 HV
      generalize hav u (lo7 u m e) e a b j = hj' at *
      generalize lo7 u m e j = lj at *
      generalize u j = uj at *
      generalize m j = mj at *
      generalize e j = ej at *
      have p0 : 0 ≤ b * uj := Int.mul_nonneg (by omega) (by omega)
      have p1 : b * uj ≤ 33554432 := Int.le_trans (Int.mul_le_mul b32 f3 (by omega) (by omega)) (by omega)
      have p2 : 0 ≤ a * ej := Int.mul_nonneg a0 f5
      have p3 : a * ej ≤ 33554432 := Int.le_trans (Int.mul_le_mul a22 f6 f5 (by omega)) (by omega)
      have p4 : 0 ≤ b * lj := Int.mul_nonneg (by omega) (by omega)
      have p5 : b * lj ≤ b * uj := Int.mul_le_mul_of_nonneg_left f1 (by omega)
      have w1 : IntKind.i64.wrap (b * uj) = b * uj := by rw [IntKind.wrap_i64]; omega
      have w3 : IntKind.i64.wrap (a * ej) = a * ej := by rw [IntKind.wrap_i64]; omega
      have w4 : IntKind.i64.wrap (b * uj - a * ej) = b * uj - a * ej := by rw [IntKind.wrap_i64]; omega
      have w5 : IntKind.i64.wrap (b * lj) = b * lj := by rw [IntKind.wrap_i64]; omega
      have n1 : ((j : Int) + 1) * 33554432 = j * 33554432 + 33554432 := by omega
      go_wp2_with fail
      go_quiet (fail)
      have hW : Below w.heap.size w (wr.drewN nq) := ⟨hbw.os, hbw.tape, hbw.output, hbw.size, hbw.block⟩
      have e0' := cell_later hW k0
      have e1' := cell_later hW k1
      have e2' := cell_later hW k2
      clear hbw e0 e1 e2
      generalize wr.drewN nq = W at *
      go_wp2_with fail
      refine (refLeast7_any uj mj ej _).mono ?_
      rintro r w4 ⟨rfl, hb4⟩
      rw [← HLo.out]
      have hbw4 : Below w.heap.size w w4 := hW.trans (hb4.mono hW.size)
      clear hb4 hW e0' e1' e2'
      by_cases cX : b * uj - a * ej < b * lj
      · have HV2 : Hid (z + b * lj = sm (j + 1) (hav u (lo7 u m e) e a b)) := by show _ = _; rw [← HVV.out, HH.out]; omega
        go_wp2_with fail
        go_roundw
        case rel => exact ⟨j + 1, z + b * lj, by omega, by go_num, by go_num, by omega, by omega, HV2.out, hbw4⟩
        case measure => simp [intOf]; omega
      · have HV2 : Hid (z + (b * uj - a * ej) = sm (j + 1) (hav u (lo7 u m e) e a b)) := by show _ = _; rw [← HVV.out, HH.out]; omega
        go_wp2_with fail
        go_roundw
        case rel => exact ⟨j + 1, z + (b * uj - a * ej), by omega, by go_num, by go_num, by omega, by omega, HV2.out, hbw4⟩
        case measure => simp [intOf]; omega
    · have hjk : j = n := by omega
      subst hjk
      go_wp2
      go_ret
      exact ⟨ret_i HV.out, hbw⟩
end Go.Proofs.YtjiockmphbhljaaDoor
