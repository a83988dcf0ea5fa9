/- The document's own answer for springs: Force and Press; the law: any springs have the force, and the units, that the document says. -/
import Derived.Test.YtjiockmphbhljaaDoorX18
namespace Go.Proofs.YtjiockmphbhljaaDoor
open Go.RowKit

theorem refForce7_any (n : Nat) (u m e : Nat → Int) (load a b : Int) (rb : Bool) (v : Value) (w : World) (h : Sprs w v n u m e) (hn : n ≤ 10) (hF : Frc n u m e load a b rb) :
    Calls Tryd.prog 10 #[v, .int .i64 load] w fun r w' => r = .returned (.tuple #[.int .i64 a, .int .i64 b, .bool rb]) ∧ Below w.heap.size w w' := by
  obtain ⟨hr, hy, hno⟩ := hF
  cases rb
  · obtain ⟨rfl, rfl⟩ := hno rfl
    exact refForce_no n u m e load v w h hn hr
  · have hI := hy rfl
    obtain ⟨hS, _, hm⟩ := roomB_of hr
    by_cases hl : sm n u ≤ load
    · obtain ⟨rfl, rfl⟩ := (isF_none hS.sp hl).one hI
      exact refForce_all n u m e load v w h hr hl
    · obtain ⟨a', b', hI', hG⟩ := isF_exists hS.sp hm
      obtain ⟨rfl, rfl⟩ := hI.one hI'
      obtain ⟨S, A, B, g, hF7, g1, hA, hB⟩ := hG (by omega)
      exact refForce_sets n u m e load a b A B g S v w h hr (by omega) hI hF7 g1 hA hB

theorem hav_div {u m e : Nat → Int} {a b : Int} (b1 : 1 ≤ b) (i : Nat) : hav u (lo7 u m e) e a b i / b = hv u m e a b i := by
  obtain ⟨h1, h2⟩ := hv_floor (u := u) (m := m) (e := e) (a := a) b1 (i := i)
  refine Int.le_antisymm ?_ ?_
  · have : hav u (lo7 u m e) e a b i / b < hv u m e a b i + 1 := Int.ediv_lt_of_lt_mul (by omega) (by rw [Int.add_mul, Int.mul_comm]; omega)
    omega
  · exact Int.le_ediv_of_mul_le (by omega) (by rw [Int.mul_comm]; exact h1)

set_option maxHeartbeats 1000000 in
set_option maxRecDepth 100000 in
theorem refPress7_any (n : Nat) (u m e : Nat → Int) (load a b : Int) (rb : Bool) (v : Value) (w : World) (h : Sprs w v n u m e) (hn : n ≤ 10) (hF : Frc n u m e load a b rb) :
    Calls Tryd.prog 12 #[v, .int .i64 load] w (PrsE w.heap.size (prs7 n u m e a b rb) rb w) := by
  have HF : Hid (Frc n u m e load a b rb) := hF
  cases rb
  · go_enter Tryd.func12, Tryd.ntmps12
    go_wp2_with fail
    refine (refForce7_any n u m e load a b false v _ h hn HF.out).mono ?_
    rintro r w1 ⟨rfl, hb1⟩
    clear hF
    go_wp2
    exact bodyPost_ret (v := .tuple #[.slice none 0 0, .bool false]) (by simp [results, Tryd.results12, go_sem]) rfl ⟨_, rfl, ⟨rfl, .inl ⟨rfl, rfl⟩⟩, hb1⟩
  · have HI : Hid (IsF n u (lo7 u m e) e load a b) := hF.2.1 rfl
    have HS : Hid (fitS n u m e) := (roomB_of hF.1).1
    have hn4 : n ≤ 4 := HS.out.1
    have b1 := HI.out.b1
    have b32 := HI.out.b32
    have a0 := HI.out.a0
    have a22 := HI.out.abig
    clear hF
    go_enter Tryd.func12, Tryd.ntmps12
    go_wp2_with fail
    refine (refForce7_any n u m e load a b true v _ h hn HF.out).mono ?_
    rintro r w1 ⟨rfl, hb1⟩
    have hs1 := hb1.size
    obtain ⟨ad, cap, rfl, h1, h2, h0, h3⟩ := h.later hb1
    clear h
    go_wp2_with fail
    go_loopw [9, 10] (fun s9 s10 wr => ∃ (j : Nat) (so : Value), j ≤ n ∧ s9 = so ∧ s10 = .int .i64 j ∧ wr.ownsRow w1.heap.size 3 1 so j (ivs (lst7 j (hv u m e a b))) ∧ Below w1.heap.size w1 wr) (fun _ s10 _ => ((n : Int) - intOf s10).toNat)
    case atStart => exact ⟨0, _, by omega, rfl, rfl, ⟨rfl, .inl ⟨rfl, rfl⟩⟩, Below.refl _ _⟩
    case round =>
      obtain ⟨j, so, hj, hso, rfl, hown, hbw⟩ := hrel
      replace hso := hso.symm
      subst hso
      by_cases hlt : (j : Int) < n
      · obtain ⟨bk, o', rfl, h4⟩ := h3 (by omega)
        obtain ⟨k0, k1, k2⟩ := h4 j (by omega)
        have e0 := cell_later hbw k0
        have e1 := cell_later hbw k1
        have e2 := cell_later hbw k2
        have f0 := HS.out.sp.low j (by omega)
        have f1 := HS.out.sp.top j (by omega)
        have f3 := HS.out.sp.unit j (by omega)
        have f5 := HS.out.sp.e0 j (by omega)
        have f6 := HS.out.sp.e8 j (by omega)
        have g3 := hv_bd HS.out a0 b1 (show j < n by omega)
        have HLo : Hid (lo7 u m e j = lea (u j) (m j) (e j)) := rfl
        have HH : Hid (hav u (lo7 u m e) e a b j = max (b * u j - a * e j) (b * lo7 u m e j)) := rfl
        have HDV : Hid (hav u (lo7 u m e) e a b j / b = hv u m e a b j) := hav_div b1 j
        obtain ⟨hj', hhj⟩ : ∃ x, hv u m e a b j = x := ⟨_, rfl⟩
        have HVJ : Hid (hv u m e a b j = hj') := hhj
        rw [hhj] at HDV g3
        clear h4 h3 hhj
        generalize hav u (lo7 u m e) e a b j = hh at *
        generalize lo7 u m e j = lj at *
        generalize u j = uj at *
        generalize m j = mj at *
        generalize e j = ej at *
        have p0 : 0 ≤ b * uj := Int.mul_nonneg (by omega) (by omega)
        have p1 : b * uj ≤ 33554432 := Int.le_trans (Int.mul_le_mul b32 f3 (by omega) (by omega)) (by omega)
        have p2 : 0 ≤ a * ej := Int.mul_nonneg a0 f5
        have p3 : a * ej ≤ 33554432 := Int.le_trans (Int.mul_le_mul a22 f6 f5 (by omega)) (by omega)
        have p4 : 0 ≤ b * lj := Int.mul_nonneg (by omega) (by omega)
        have p5 : b * lj ≤ b * uj := Int.mul_le_mul_of_nonneg_left f1 (by omega)
        have w1' : IntKind.i64.wrap (b * uj) = b * uj := by rw [IntKind.wrap_i64]; omega
        have w3 : IntKind.i64.wrap (a * ej) = a * ej := by rw [IntKind.wrap_i64]; omega
        have w4' : IntKind.i64.wrap (b * uj - a * ej) = b * uj - a * ej := by rw [IntKind.wrap_i64]; omega
        have w5' : IntKind.i64.wrap (b * lj) = b * lj := by rw [IntKind.wrap_i64]; omega
        go_wp2_with fail
        go_quiet (fail)
        have hW : Below w1.heap.size w1 (wr.drewN nq) := ⟨hbw.os, hbw.tape, hbw.output, hbw.size, hbw.block⟩
        have hownW : (wr.drewN nq).ownsRow w1.heap.size 3 1 so j (ivs (lst7 j (hv u m e a b))) := hown
        have e0' := cell_later hW k0
        have e1' := cell_later hW k1
        have e2' := cell_later hW k2
        clear hbw hown e0 e1 e2
        generalize wr.drewN nq = W at *
        go_wp2_with fail
        refine (refLeast7_any uj mj ej _).mono ?_
        rintro r w4 ⟨rfl, hb4⟩
        rw [← HLo.out]
        have hown4 := own_later hownW hb4
        have hbw4 : Below w1.heap.size w1 w4 := hW.trans (hb4.mono hW.size)
        have sw4 := hbw4.size
        clear hb4 hW hownW e0' e1' e2'
        by_cases cX : b * uj - a * ej < b * lj
        · have q1 : b * lj / b = lj := Int.mul_ediv_cancel_left _ (by omega)
          have hjl : hj' = lj := by rw [← HDV.out, ← q1, HH.out]; congr 1; omega
          subst hjl
          go_wp2_with (first
            | (at_builtin; refine append_int rfl _ _ rfl w1.heap.size _ j w4.heap.size hj' (hv u m e a b) rfl (hown4.alloc _) rfl (by simp) HVJ.out (by omega) (by simp; omega) ?_; intro so5 w5 hown5 hg5 hat5; have hbw5 : Below w1.heap.size w1 w5 := (hbw4.alloc sw4 _).grown hg5 (by simp; omega) (fun k hk => ((hown4.alloc (.cells #[.int .i64 hj'] 3)).lt k hk).1))
            | go_in)
          go_roundw
          case rel => exact ⟨j + 1, so5, by omega, rfl, by go_num, hown5, hbw5⟩
          case measure => simp [intOf]; omega
        · have q1 : (b * uj - a * ej) / b = hj' := by rw [← HDV.out, HH.out]; congr 1; omega
          go_wp2_with (first
            | (at_builtin; refine append_int rfl _ _ rfl w1.heap.size _ j w4.heap.size hj' (hv u m e a b) rfl (hown4.alloc _) rfl (by simp) HVJ.out (by omega) (by simp; omega) ?_; intro so5 w5 hown5 hg5 hat5; have hbw5 : Below w1.heap.size w1 w5 := (hbw4.alloc sw4 _).grown hg5 (by simp; omega) (fun k hk => ((hown4.alloc (.cells #[.int .i64 hj'] 3)).lt k hk).1))
            | go_in)
          go_roundw
          case rel => exact ⟨j + 1, so5, by omega, rfl, by go_num, hown5, hbw5⟩
          case measure => simp [intOf]; omega
      · have hjk : j = n := by omega
        subst hjk
        have hB : Below w.heap.size w wr := hb1.trans (hbw.mono hs1)
        go_wp2
        refine bodyPost_ret (v := .tuple #[so, .bool true]) (by simp [results, Tryd.results12, go_sem]) rfl ⟨so, rfl, ?_, hB⟩
        have hl : (prs7 j u m e a b true).length = j := lst7_len _ _
        rw [hl]
        have ho := hown.1
        rcases hown.2 with hz | ⟨g, cap, cur, hv', hg, hh⟩
        · exact ⟨ho, .inl hz⟩
        · exact ⟨ho, .inr ⟨g, cap, cur, hv', Nat.le_trans hs1 hg, hh⟩⟩

set_option maxHeartbeats 1000000 in
set_option maxRecDepth 100000 in
theorem law_stells (n : Nat) (u m e : Nat → Int) (load : Int) (v : Value) (w : World) (h : Sprs w v n u m e) (hL : Lim w) :
    Calls Tryd.prog 3 #[v, .int .i64 load] w fun r w' => r = .returned (.bool true) ∧ Below w.heap.size w w' := by
  obtain ⟨a, b, rb, hF⟩ := frc_exists n u m e load
  have HR : Hid (roomB n u m e load = rb) := hF.1
  have HF : Hid (Frc n u m e load a b rb) := hF
  obtain ⟨sb, hsb⟩ : ∃ sb, sprB n u m e = sb := ⟨_, rfl⟩
  have HSB : Hid (sprB n u m e = sb) := hsb
  clear hsb hF
  have HSp : Hid (Sprs w v n u m e) := h
  obtain ⟨ad, cap, rfl, h1, h2, _⟩ := h
  go_enter Tryd.func3, Tryd.ntmps3
  go_wp2_with fail
  refine (awake7_any _ hL).mono ?_
  rintro r w1 ⟨rfl, hB1⟩
  by_cases hn : (n : Int) > 10
  · go_wp2
    go_ret
    exact ⟨rfl, hB1⟩
  have hn' : n ≤ 10 := by omega
  go_wp2_with fail
  refine (force7_any n u m e load a b rb _ _ (HSp.out.later hB1) HF.out (hL.later hB1)).mono ?_
  rintro r w2 ⟨rfl, hb2⟩
  have hB2 : Below w.heap.size w w2 := hB1.trans (hb2.mono hB1.size)
  clear hb2 hB1
  go_wp2_with fail
  refine (refForce7_any n u m e load a b rb _ _ (HSp.out.later hB2) hn' HF.out).mono ?_
  rintro r w3 ⟨rfl, hb3⟩
  have hB3 : Below w.heap.size w w3 := hB2.trans (hb3.mono hB2.size)
  clear hb3 hB2
  go_wp2_with fail
  refine (press7_any n u m e load a b rb _ _ (HSp.out.later hB3) HF.out (hL.later hB3)).mono ?_
  rintro r w4 ⟨x, rfl, hown4, hb4⟩
  have hB4 : Below w.heap.size w w4 := hB3.trans (hb4.mono hB3.size)
  have HX4 : Hid (Nums w4 x (prs7 n u m e a b rb)) := (Nums.own hown4).1
  clear hb4 hB3 hown4
  go_wp2_with fail
  refine (refPress7_any n u m e load a b rb _ _ (HSp.out.later hB4) hn' HF.out).mono ?_
  rintro r w5 ⟨y, rfl, hown5, hb5⟩
  have hB5 : Below w.heap.size w w5 := hB4.trans (hb5.mono hB4.size)
  have HX5 : Hid (Nums w5 x (prs7 n u m e a b rb)) := HX4.out.later hb5
  have HY5 : Hid (Nums w5 y (prs7 n u m e a b rb)) := (Nums.own hown5).1
  clear hb5 hB4 hown5 HX4
  go_wp2_with fail
  refine (may7_any n u m e _ _ (HSp.out.later hB5)).mono ?_
  rintro r w6 ⟨rfl, hb6⟩
  rw [HSB.out]
  have hB6 : Below w.heap.size w w6 := hB5.trans (hb6.mono hB5.size)
  have HX6 : Hid (Nums w6 x (prs7 n u m e a b rb)) := HX5.out.later hb6
  have HY6 : Hid (Nums w6 y (prs7 n u m e a b rb)) := HY5.out.later hb6
  clear hb6 hB5 HX5 HY5
  go_wp2_with fail
  refine (refMay7_any n u m e _ _ (HSp.out.later hB6) hn').mono ?_
  rintro r w7 ⟨rfl, hb7⟩
  rw [HSB.out]
  have hB7 : Below w.heap.size w w7 := hB6.trans (hb7.mono hB6.size)
  have HX7 : Hid (Nums w7 x (prs7 n u m e a b rb)) := HX6.out.later hb7
  have HY7 : Hid (Nums w7 y (prs7 n u m e a b rb)) := HY6.out.later hb7
  clear hb7 hB6 HX6 HY6
  go_wp2_with fail
  refine (room7_any n u m e load _ _ (HSp.out.later hB7) (hL.later hB7)).mono ?_
  rintro r w8 ⟨rfl, hb8⟩
  rw [HR.out]
  have hB8 : Below w.heap.size w w8 := hB7.trans (hb8.mono hB7.size)
  have HX8 : Hid (Nums w8 x (prs7 n u m e a b rb)) := HX7.out.later hb8
  have HY8 : Hid (Nums w8 y (prs7 n u m e a b rb)) := HY7.out.later hb8
  clear hb8 hB7 HX7 HY7
  go_wp2_with fail
  refine (refRoom7_any n u m e load _ _ (HSp.out.later hB8) hn').mono ?_
  rintro r w9 ⟨rfl, hb9⟩
  rw [HR.out]
  have hB9 : Below w.heap.size w w9 := hB8.trans (hb9.mono hB8.size)
  have HX9 : Hid (Nums w9 x (prs7 n u m e a b rb)) := HX8.out.later hb9
  have HY9 : Hid (Nums w9 y (prs7 n u m e a b rb)) := HY8.out.later hb9
  clear hb9 hB8 HX8 HY8
  go_wp2_with fail
  refine (ints_any _ _ _ _ _ HX9.out HY9.out (by
    cases rb
    · exact Nat.zero_le _
    · show (lst7 n _).length ≤ _; rw [lst7_len]; omega)).mono ?_
  rintro r w10 ⟨rfl, hb10⟩
  have hB10 : Below w.heap.size w w10 := hB9.trans (hb10.mono hB9.size)
  rw [decide_eq_true (rfl : prs7 n u m e a b rb = prs7 n u m e a b rb)]
  go_wp2
  go_ret
  exact ⟨by simp, hB10⟩
end Go.Proofs.YtjiockmphbhljaaDoor
