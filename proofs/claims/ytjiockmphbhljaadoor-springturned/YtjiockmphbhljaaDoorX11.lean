/- The law: with more load no spring is pressed more. -/
import Derived.Test.YtjiockmphbhljaaDoorX10
namespace Go.Proofs.YtjiockmphbhljaaDoor
open Go.RowKit

set_option maxHeartbeats 1000000 in
set_option maxRecDepth 100000 in
theorem law_smore_no (n : Nat) (u m e : Nat → Int) (load more a b c d : Int) (rb rc : Bool) (v : Value) (w : World) (h : Sprs w v n u m e) (hF : Frc n u m e load a b rb) (hG : Frc n u m e more c d rc) (hr : ¬ (rb = true ∧ rc = true ∧ load ≤ more)) (hL : Lim w) :
    Calls Tryd.prog 6 #[v, .int .i64 load, .int .i64 more] w fun r w' => r = .returned (.bool true) ∧ Below w.heap.size w w' := by
  go_enter Tryd.func6, Tryd.ntmps6
  go_wp2_with fail
  refine (awake7_any _ hL).mono ?_
  rintro r w1 ⟨rfl, hb1⟩
  go_wp2_with fail
  refine (press7_any n u m e load a b rb v _ (h.later hb1) hF (hL.later hb1)).mono ?_
  rintro r w2 ⟨x, rfl, hown, hb2⟩
  have hB2 : Below w.heap.size w w2 := hb1.trans (hb2.mono hb1.size)
  clear hown hb1 hb2
  go_wp2_with fail
  refine (press7_any n u m e more c d rc v _ (h.later hB2) hG (hL.later hB2)).mono ?_
  rintro r w3 ⟨y, rfl, hown, hb3⟩
  have hB3 : Below w.heap.size w w3 := hB2.trans (hb3.mono hB2.size)
  clear hown hb3 hB2 hF hG h hL
  cases rb
  · go_wp2
    go_ret
    exact ⟨rfl, hB3⟩
  · cases rc
    · go_wp2
      go_ret
      exact ⟨rfl, hB3⟩
    · have hlt : more < load := by
        by_cases c : load ≤ more
        · exact absurd ⟨rfl, rfl, c⟩ hr
        · omega
      clear hr
      go_wp2
      go_ret
      exact ⟨rfl, hB3⟩

set_option maxHeartbeats 2000000 in
set_option maxRecDepth 100000 in
theorem law_smore_yes (n : Nat) (u m e : Nat → Int) (load more a b c d : Int) (v : Value) (w : World) (h : Sprs w v n u m e) (hF : Frc n u m e load a b true) (hG : Frc n u m e more c d true) (hm : load ≤ more) (hL : Lim w) :
    Calls Tryd.prog 6 #[v, .int .i64 load, .int .i64 more] w fun r w' => r = .returned (.bool true) ∧ Below w.heap.size w w' := by
  have hS := (roomB_of hF.1).1
  have HS : Hid (fitS n u m e) := hS
  have HI : Hid (IsF n u (lo7 u m e) e load a b) := hF.2.1 rfl
  have HJ : Hid (IsF n u (lo7 u m e) e more c d) := hG.2.1 rfl
  have HM : Hid (load ≤ more) := hm
  have hlb := low_bd hS
  obtain ⟨p, q, hK, _⟩ := isF_exists hS.sp (Int.le_refl (sm n (lo7 u m e)))
  have hN3 : Frc n u m e (sm n (lo7 u m e)) p q true := ⟨roomB_yes hS hlb.1 (by omega) (Int.le_refl _), fun _ => hK, fun h => by cases h⟩
  have HK : Hid (IsF n u (lo7 u m e) e (sm n (lo7 u m e)) p q) := hK
  have HP : Hid (Frc n u m e (sm n (lo7 u m e)) p q true) := hN3
  have HLB : Hid (0 ≤ sm n (lo7 u m e) ∧ sm n (lo7 u m e) ≤ 4194304) := hlb
  have hn := hS.1
  clear hS hlb hK hN3
  have hm1 : ¬ more < load := by omega
  clear hm
  go_enter Tryd.func6, Tryd.ntmps6
  go_wp2_with fail
  refine (awake7_any _ hL).mono ?_
  rintro r w1 ⟨rfl, hb1⟩
  go_wp2_with fail
  refine (press7_any n u m e load a b true v _ (h.later hb1) hF (hL.later hb1)).mono ?_
  rintro r w2 ⟨x, rfl, hown, hb2⟩
  have hB2 : Below w.heap.size w w2 := hb1.trans (hb2.mono hb1.size)
  have hN := (Nums.own hown).1
  clear hown hb1 hb2
  go_wp2_with fail
  refine (press7_any n u m e more c d true v _ (h.later hB2) hG (hL.later hB2)).mono ?_
  rintro r w3 ⟨y, rfl, hown, hb3⟩
  have hB3 : Below w.heap.size w w3 := hB2.trans (hb3.mono hB2.size)
  have hs3 := hB3.size
  obtain ⟨ax, cx, rfl, x1, x2, x3⟩ := nums_open (g := hv u m e a b) (hN.later hb3)
  obtain ⟨ay, cy, rfl, y1, y2, y3⟩ := nums_open (g := hv u m e c d) (Nums.own hown).1
  have hSp := h.later hB3
  have HSp : Hid (Sprs w v n u m e) := h
  obtain ⟨ad, cap, rfl, h1, h2, h0, h3⟩ := hSp
  clear hown hb3 hB2 hN h hF hG
  go_wp2_with fail
  go_loopw [12, 13] (fun s12 s13 wr => ∃ (j : Nat) (z : Int), j ≤ n ∧ s12 = .int .i64 z ∧ s13 = .int .i64 j ∧ 0 ≤ z ∧ z ≤ j * 1048576 ∧ Hid (z = sm j (lo7 u m e)) ∧ Below w3.heap.size w3 wr) (fun _ s13 _ => ((n : Int) - intOf s13).toNat)
  case atStart => exact ⟨0, 0, by omega, rfl, rfl, by omega, by omega, rfl, Below.refl _ _⟩
  case round =>
    obtain ⟨j, z, hj, rfl, rfl, z0, z1, HV, hbw⟩ := hrel
    by_cases hlt : (j : Int) < n
    · obtain ⟨bx, ox, rfl, x4⟩ := x3 (by omega)
      obtain ⟨by', oy, rfl, y4⟩ := y3 (by omega)
      obtain ⟨bk, o, rfl, h4⟩ := h3 (by omega)
      obtain ⟨k0, k1, k2⟩ := h4 j (by omega)
      have cx0 := cell_later hbw (x4 j (by omega))
      have cy0 := cell_later hbw (y4 j (by omega))
      have e0 := cell_later hbw k0
      have e1 := cell_later hbw k1
      have e2 := cell_later hbw k2
      have g1 := more_each HS.out HI.out HJ.out HM.out (show j < n by omega)
      have g2 := HS.out.sp.low j (by omega)
      have g3 := HS.out.sp.top j (by omega)
      have g4 := HS.out.sp.unit j (by omega)
      have HV2 : Hid (z + lo7 u m e j = sm (j + 1) (lo7 u m e)) := by show _ = _; rw [HV.out]; rfl
      have HLo : Hid (lo7 u m e j = lea (u j) (m j) (e j)) := rfl
      clear k0 k1 k2 h4 x4 y4 h3 x3 y3 HV
      generalize hv u m e a b j = ha at *
      generalize hv u m e c d j = hc at *
      generalize lo7 u m e j = lj at *
      generalize u j = uj at *
      generalize m j = mj at *
      generalize e j = ej at *
      have n1 : ((j : Int) + 1) * 1048576 = j * 1048576 + 1048576 := by omega
      have d1 : decide (ha > hc) = false := decide_eq_false (by omega)
      have d2 : decide (hc < ha) = false := decide_eq_false (by omega)
      go_wp2_with fail
      go_quiet (fail)
      go_wp2_with fail
      refine (refLeast7_any uj mj ej _).mono ?_
      rintro r w4 ⟨rfl, hb4⟩
      rw [← HLo.out]
      have hbw4 : Below w3.heap.size w3 w4 := hbw.trans (Below.mono ⟨hb4.os, hb4.tape, hb4.output, hb4.size, hb4.block⟩ hbw.size)
      clear cx0 cy0 e0 e1 e2 hbw hb4
      go_wp2_with fail
      go_roundw
      case rel => exact ⟨j + 1, z + lj, by omega, by go_num, by go_num, by omega, by omega, HV2.out, hbw4⟩
      case measure => simp [intOf]; omega
    · have hjk : j = n := by omega
      subst hjk
      have hB : Below w.heap.size w wr := hB3.trans (hbw.mono hs3)
      clear hbw h3 x3 y3
      have HV2 : Hid (z = sm j (lo7 u m e)) := HV.out
      have HP2 : Hid (Frc j u m e z p q true) := by show Frc _ _ _ _ _ _ _ _; rw [HV.out]; exact HP.out
      clear HV HP
      go_wp2_with fail
      refine (press7_any j u m e z p q true _ _ (HSp.out.later hB) HP2.out (hL.later hB)).mono ?_
      rintro r w5 ⟨t, rfl, hown, hb5⟩
      have hB5 : Below w.heap.size w w5 := hB.trans (hb5.mono hB.size)
      obtain ⟨at', ct, rfl, t1, t2, t3⟩ := nums_open (g := hv u m e p q) (Nums.own hown).1
      clear hown hb5 hB
      go_wp2_with fail
      go_loopw [16, 17] (fun s16 s17 wr => ∃ (i : Nat) (y : Int), i ≤ j ∧ s16 = .int .i64 y ∧ s17 = .int .i64 i ∧ 0 ≤ y ∧ y ≤ i * 1048576 ∧ Hid (y = sm i (hv u m e p q)) ∧ Below w5.heap.size w5 wr) (fun _ s17 _ => ((j : Int) - intOf s17).toNat)
      case atStart => exact ⟨0, 0, by omega, rfl, rfl, by omega, by omega, rfl, Below.refl _ _⟩
      case round =>
        obtain ⟨i, y, hi, rfl, rfl, q0, q1, HW, hbw⟩ := hrel
        by_cases hlt2 : (i : Int) < j
        · obtain ⟨bt, ot, rfl, t4⟩ := t3 (by omega)
          have c0 := cell_later hbw (t4 i (by omega))
          have g3 := hv_bd HS.out HK.out.a0 HK.out.b1 (show i < j by omega)
          have HW2 : Hid (y + hv u m e p q i = sm (i + 1) (hv u m e p q)) := by show _ = _; rw [HW.out]; rfl
          clear t4 t3 HW
          generalize hv u m e p q i = hi' at *
          have n1 : ((i : Int) + 1) * 1048576 = i * 1048576 + 1048576 := by omega
          go_wp2_with fail
          go_roundw
          case rel => exact ⟨i + 1, y + hi', by omega, by go_num, by go_num, by omega, by omega, HW2.out, hbw⟩
          case measure => simp [intOf]; omega
        · have hik : i = j := by omega
          subst hik
          have hyz : y = z := by rw [HW.out, HV2.out]; exact low_sum HK.out
          subst hyz
          have hB6 : Below w.heap.size w wr := hB5.trans (hbw.mono hB5.size)
          go_wp2
          go_ret
          exact ⟨rfl, hB6⟩

theorem law_smore (n : Nat) (u m e : Nat → Int) (load more : Int) (v : Value) (w : World) (h : Sprs w v n u m e) (hL : Lim w) :
    Calls Tryd.prog 6 #[v, .int .i64 load, .int .i64 more] w fun r w' => r = .returned (.bool true) ∧ Below w.heap.size w w' := by
  obtain ⟨a, b, rb, hF⟩ := frc_exists n u m e load
  obtain ⟨c, d, rc, hG⟩ := frc_exists n u m e more
  by_cases hr : rb = true ∧ rc = true ∧ load ≤ more
  · obtain ⟨rfl, rfl, hm⟩ := hr
    exact law_smore_yes n u m e load more a b c d v w h hF hG hm hL
  · exact law_smore_no n u m e load more a b c d rb rc v w h hF hG hr hL
end Go.Proofs.YtjiockmphbhljaaDoor
