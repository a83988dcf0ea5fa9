/- The document's own force: the walk. -/
import Derived.Test.YtjiockmphbhljaaDoorX17
namespace Go.Proofs.YtjiockmphbhljaaDoor
open Go.RowKit

theorem tot_none {n : Nat} {u lo e : Nat → Int} (hs : Sp7 n u lo e) : tot n u lo e 0 1 = sm n u := by
  refine sm_congr (fun i hi => ?_)
  unfold hav
  have := hs.top i hi
  have e : (0 : Int) * e i = 0 := Int.zero_mul _
  rw [e]
  omega

set_option maxHeartbeats 1000000 in
set_option maxRecDepth 100000 in
theorem refForce_all (n : Nat) (u m e : Nat → Int) (load : Int) (v : Value) (w : World) (h : Sprs w v n u m e) (hr : roomB n u m e load = true) (hl : sm n u ≤ load) :
    Calls Tryd.prog 10 #[v, .int .i64 load] w fun r w' => r = .returned (.tuple #[.int .i64 0, .int .i64 1, .bool true]) ∧ Below w.heap.size w w' := by
  have hS := (roomB_of hr).1
  have HR : Hid (roomB n u m e load = true) := hr
  have HT : Hid (tot n u (lo7 u m e) e 0 1 = sm n u) := tot_none hS.sp
  have hn : n ≤ 4 := hS.1
  go_enter Tryd.func10, Tryd.ntmps10
  go_wp2_with fail
  refine (refRoom7_any n u m e load v _ h (by omega)).mono ?_
  rintro r w1 ⟨rfl, hb1⟩
  rw [HR.out]
  go_wp2_with fail
  refine (refTotal_any n u m e 0 1 v _ (h.later hb1) hS (by omega) (by omega) (by omega) (by omega)).mono ?_
  rintro r w2 ⟨rfl, hb2⟩
  rw [HT.out]
  have hB : Below w.heap.size w w2 := hb1.trans (hb2.mono hb1.size)
  clear hr HT hb1 hb2
  generalize sm n u = q at *
  go_wp2
  exact bodyPost_ret (v := .tuple #[.int .i64 0, .int .i64 1, .bool true]) (by simp [results, Tryd.results10, go_sem]) rfl ⟨rfl, hB⟩

set_option maxHeartbeats 1000000 in
set_option maxRecDepth 100000 in
theorem refForce_no (n : Nat) (u m e : Nat → Int) (load : Int) (v : Value) (w : World) (h : Sprs w v n u m e) (hn : n ≤ 10) (hr : roomB n u m e load = false) :
    Calls Tryd.prog 10 #[v, .int .i64 load] w fun r w' => r = .returned (.tuple #[.int .i64 0, .int .i64 0, .bool false]) ∧ Below w.heap.size w w' := by
  have HR : Hid (roomB n u m e load = false) := hr
  clear hr
  go_enter Tryd.func10, Tryd.ntmps10
  go_wp2_with fail
  refine (refRoom7_any n u m e load v _ h hn).mono ?_
  rintro r w1 ⟨rfl, hb1⟩
  rw [HR.out]
  go_wp2
  exact bodyPost_ret (v := .tuple #[.int .i64 0, .int .i64 0, .bool false]) (by simp [results, Tryd.results10, go_sem]) rfl ⟨rfl, hb1⟩

theorem bit_half (k j : Nat) : k / 2 ^ j / 2 = k / 2 ^ (j + 1) := by rw [Nat.pow_succ, Nat.div_div_eq_div_mul]

set_option maxHeartbeats 1000000 in
set_option maxRecDepth 100000 in
theorem refForce_sets (n : Nat) (u m e : Nat → Int) (load a b A0 B0 g : Int) (S : Nat → Bool) (v : Value) (w : World) (h : Sprs w v n u m e) (hr : roomB n u m e load = true) (hl : load < sm n u)
    (hF : IsF n u (lo7 u m e) e load a b) (hG : Fin7 n u (lo7 u m e) e load S A0 B0) (g1 : 1 ≤ g) (hA0 : A0 = g * a) (hB0 : B0 = g * b) :
    Calls Tryd.prog 10 #[v, .int .i64 load] w fun r w' => r = .returned (.tuple #[.int .i64 a, .int .i64 b, .bool true]) ∧ Below w.heap.size w w' := by
  obtain ⟨hS, ⟨l0, _⟩, _⟩ := roomB_of hr
  have HR : Hid (roomB n u m e load = true) := hr
  have HT : Hid (tot n u (lo7 u m e) e 0 1 = sm n u) := tot_none hS.sp
  have HS : Hid (fitS n u m e) := hS
  have hn : n ≤ 4 := hS.1
  have l2 : load ≤ 4194304 := by
    have := sm_le (n := n) (f := u) (g := fun _ => 1048576) hS.sp.unit
    rw [sm_const] at this
    omega
  have HE : Hid (∀ A B, Bst n u (lo7 u m e) e load 16 A B → Red7 a b A B 2) := fun A B hb => by
    obtain ⟨h1, h2, h3⟩ := bst_end hn hb hG
    refine ⟨h2, h1, ?_, fun k hk hk2 => by omega⟩
    rw [hA0, hB0] at h3
    have e1 : A * (g * b) = g * (A * b) := by rw [← Int.mul_assoc, Int.mul_comm A, Int.mul_assoc]
    have e2 : g * a * B = g * (a * B) := Int.mul_assoc _ _ _
    rw [e1, e2] at h3
    exact Int.eq_of_mul_eq_mul_left (by omega) h3
  have HQ : Hid (∀ A B, Red7 a b A B 33 → B ≤ 32 → A = a ∧ B = b) := fun A B hd hB => red_end hd hB hF.b1 hF.cop
  have HSp : Hid (Sprs w v n u m e) := h
  clear hF hG hA0 hB0 g1
  go_enter Tryd.func10, Tryd.ntmps10
  go_wp2_with fail
  refine (refRoom7_any n u m e load v _ h (by omega)).mono ?_
  rintro r w1 ⟨rfl, hb1⟩
  rw [HR.out]
  go_wp2_with fail
  refine (refTotal_any n u m e 0 1 v _ (h.later hb1) hS (by omega) (by omega) (by omega) (by omega)).mono ?_
  rintro r w2 ⟨rfl, hb2⟩
  rw [HT.out]
  have hB : Below w.heap.size w w2 := hb1.trans (hb2.mono hb1.size)
  obtain ⟨ad, cap, rfl, h1, h2, h0, h3⟩ := h.later hB
  clear hr HT hb1 hb2 h hS
  generalize sm n u = q at *
  go_wp2_with fail
  go_loopw [8, 9, 10] (fun s8 s9 s10 wr => ∃ (k : Nat) (A B : Int), 1 ≤ k ∧ k ≤ 16 ∧ s8 = .int .i64 A ∧ s9 = .int .i64 B ∧ s10 = .int .i64 k ∧ 0 ≤ A ∧ A ≤ 4194304 ∧ 0 ≤ B ∧ B ≤ 32 ∧ Hid (Bst n u (lo7 u m e) e load k A B) ∧ Below w2.heap.size w2 wr) (fun _ _ s10 _ => (16 - intOf s10).toNat)
  case atStart => exact ⟨1, 0, 0, by omega, by omega, rfl, rfl, rfl, by omega, by omega, by omega, by omega, bst_start, Below.refl _ _⟩
  case round =>
    obtain ⟨k, A, B, k1, k16, rfl, rfl, rfl, A0, A22, B0, B32, HB, hbw⟩ := hrel
    by_cases hlt : (k : Int) < 16
    · go_wp2_with fail
      go_loopw [11, 12, 13, 14] (fun s11 s12 s13 s14 wr2 => ∃ (j : Nat) (x y : Int), j ≤ n ∧ s11 = .int .i64 x ∧ s12 = .int .i64 y ∧ s13 = .int .i64 (k / 2 ^ j : Nat) ∧ s14 = .int .i64 j ∧ -load ≤ x ∧ x ≤ j * 1048576 - load ∧ 0 ≤ y ∧ y ≤ j * 8 ∧ Hid (x = sm j (fun i => if bit7 k i then u i else lo7 u m e i) - load ∧ y = sm j (sel (bit7 k) e)) ∧ Below w2.heap.size w2 wr2) (fun _ _ _ s14 _ => ((n : Int) - intOf s14).toNat)
      case atStart => exact ⟨0, -load, 0, by omega, by go_num, rfl, by simp, rfl, by omega, by omega, by omega, by omega, ⟨by show -load = 0 - load; omega, rfl⟩, hbw⟩
      case round =>
        obtain ⟨j, x, y, hj, rfl, rfl, rfl, rfl, x0, x1, y0, y1, HV, hbw2⟩ := hrel
        by_cases hlt2 : (j : Int) < n
        · obtain ⟨bk, o', rfl, h4⟩ := h3 (by omega)
          obtain ⟨c0, c1, c2⟩ := h4 j (by omega)
          have e0 := cell_later hbw2 c0
          have e1 := cell_later hbw2 c1
          have e2 := cell_later hbw2 c2
          have f1 := HS.out.sp.low j (by omega)
          have f2 := HS.out.sp.top j (by omega)
          have f3 := HS.out.sp.unit j (by omega)
          have f4 := HS.out.sp.e0 j (by omega)
          have f5 := HS.out.sp.e8 j (by omega)
          have HLo : Hid (lo7 u m e j = lea (u j) (m j) (e j)) := rfl
          obtain ⟨t, ht⟩ : ∃ t, k / 2 ^ j = t := ⟨_, rfl⟩
          have HH : Hid (k / 2 ^ (j + 1) = t / 2) := by show _ = _; rw [← bit_half, ht]
          have n1 : ((j : Int) + 1) * 1048576 = j * 1048576 + 1048576 := by omega
          have n2 : ((j : Int) + 1) * 8 = j * 8 + 8 := by omega
          have ht0 : 0 ≤ (t : Int) / 2 := by omega
          have ht1 : (t : Int) ≤ 16 := by
            have : k / 2 ^ j ≤ k := Nat.div_le_self _ _
            omega
          rw [ht]
          by_cases ct : t % 2 = 1
          · have hbt : bit7 k j = true := by unfold bit7; rw [ht]; exact decide_eq_true ct
            have HV2 : Hid (x + u j = sm (j + 1) (fun i => if bit7 k i then u i else lo7 u m e i) - load ∧ y + e j = sm (j + 1) (sel (bit7 k) e)) := by
              show _ ∧ _
              constructor
              · show x + u j = sm j _ + (if bit7 k j then u j else lo7 u m e j) - load
                rw [hbt, HV.out.1]; simp; omega
              · show y + e j = sm j _ + sel (bit7 k) e j
                rw [HV.out.2]; unfold sel; rw [hbt]; rfl
            have q1 : ((t : Int) % 2 == 1) = true := by simp; omega
            have q2 : (t : Int) % 2 = 1 := by omega
            clear hbt ht h4 h3 c0 c1 c2 HV HLo
            generalize lo7 u m e j = lj at *
            generalize u j = uj at *
            generalize m j = mj at *
            generalize e j = ej at *
            go_wp2_with fail
            go_roundw
            case rel => exact ⟨j + 1, x + uj, y + ej, by omega, by go_num, by go_num, by rw [HH.out]; go_num, by go_num, by omega, by omega, by omega, by omega, HV2.out, hbw2⟩
            case measure => simp [intOf]; omega
          · have hbt : bit7 k j = false := by unfold bit7; rw [ht]; exact decide_eq_false ct
            have HV2 : Hid (x + lo7 u m e j = sm (j + 1) (fun i => if bit7 k i then u i else lo7 u m e i) - load ∧ y = sm (j + 1) (sel (bit7 k) e)) := by
              show _ ∧ _
              constructor
              · show x + lo7 u m e j = sm j _ + (if bit7 k j then u j else lo7 u m e j) - load
                rw [hbt, HV.out.1]; simp; omega
              · show y = sm j _ + sel (bit7 k) e j
                rw [HV.out.2]; unfold sel; rw [hbt]; simp
            have q1 : ((t : Int) % 2 == 1) = false := by simp; omega
            have q2 : ¬ (t : Int) % 2 = 1 := by omega
            clear hbt ht h4 h3 c0 c1 c2 HV
            generalize lo7 u m e j = lj at *
            generalize u j = uj at *
            generalize m j = mj at *
            generalize e j = ej at *
            go_wp2_with fail
            refine (refLeast7_any uj mj ej _).mono ?_
            rintro r w4 ⟨rfl, hb4⟩
            rw [← HLo.out]
            have hbw4 : Below w2.heap.size w2 w4 := hbw2.trans (hb4.mono hbw2.size)
            clear hb4 e0 e1 e2
            go_wp2_with fail
            go_roundw
            case rel => exact ⟨j + 1, x + lj, y, by omega, by go_num, rfl, by rw [HH.out]; go_num, by go_num, by omega, by omega, by omega, by omega, HV2.out, hbw4⟩
            case measure => simp [intOf]; omega
        · have hjk : j = n := by omega
          subst hjk
          have HX : Hid (cA7 j u (lo7 u m e) load k = x ∧ cB7 j e k = y) := ⟨HV.out.1.symm, HV.out.2.symm⟩
          have hbW := hB.trans (hbw2.mono hB.size)
          clear HV h3 hbw
          by_cases cy : y = 0
          · have HB2 : Hid (Bst j u (lo7 u m e) e load (k + 1) A B) := bst_skip HB.out (fun hv => hv.1 (by rw [HX.out.2, cy]))
            subst cy
            go_wp2_with fail
            go_roundw
            case rel => exact ⟨k + 1, A, B, by omega, by omega, rfl, rfl, by go_num, by omega, by omega, by omega, by omega, HB2.out, hbw2⟩
            case measure => simp [intOf]; omega
          by_cases cx : x < 0
          · have HB2 : Hid (Bst j u (lo7 u m e) e load (k + 1) A B) := bst_skip HB.out (fun hv => by have := hv.2.1; rw [HX.out.1] at this; omega)
            have q1 : (y == 0) = false := by simpa using cy
            go_wp2_with fail
            go_roundw
            case rel => exact ⟨k + 1, A, B, by omega, by omega, rfl, rfl, by go_num, by omega, by omega, by omega, by omega, HB2.out, hbw2⟩
            case measure => simp [intOf]; omega
          have q1 : (y == 0) = false := by simpa using cy
          have p0 : 0 ≤ y * load := Int.mul_nonneg y0 l0
          have p1 : y * load ≤ 134217728 := Int.le_trans (Int.mul_le_mul (show y ≤ 32 by omega) l2 l0 (by omega)) (by omega)
          have p2 : 0 ≤ x * B := Int.mul_nonneg (by omega) B0
          have p3 : x * B ≤ 134217728 := Int.le_trans (Int.mul_le_mul (show x ≤ 4194304 by omega) B32 B0 (by omega)) (by omega)
          have p4 : 0 ≤ A * y := Int.mul_nonneg A0 y0
          have p5 : A * y ≤ 134217728 := Int.le_trans (Int.mul_le_mul A22 (show y ≤ 32 by omega) y0 (by omega)) (by omega)
          have w3 : IntKind.i64.wrap (y * load) = y * load := by rw [IntKind.wrap_i64]; omega
          have w4 : IntKind.i64.wrap (x * B) = x * B := by rw [IntKind.wrap_i64]; omega
          have w5 : IntKind.i64.wrap (A * y) = A * y := by rw [IntKind.wrap_i64]; omega
          go_wp2_with fail
          refine (refTotal_any j u m e x y _ _ (HSp.out.later hbW) HS.out (by omega) (by omega) (by omega) (by omega)).mono ?_
          rintro r w6 ⟨rfl, hb6⟩
          have hbw6 : Below w2.heap.size w2 w6 := hbw2.trans (hb6.mono hbw2.size)
          clear hb6 hbW hbw2
          obtain ⟨tt, htt⟩ : ∃ tt, tot j u (lo7 u m e) e x y = tt := ⟨_, rfl⟩
          have HTT : Hid (tot j u (lo7 u m e) e x y = tt) := htt
          rw [htt]
          clear htt
          by_cases ct : tt > y * load
          · have HB2 : Hid (Bst j u (lo7 u m e) e load (k + 1) A B) := bst_skip HB.out (fun hv => by have := hv.2.2; rw [HX.out.1, HX.out.2, HTT.out] at this; omega)
            go_wp2_with fail
            go_roundw
            case rel => exact ⟨k + 1, A, B, by omega, by omega, rfl, rfl, by go_num, by omega, by omega, by omega, by omega, HB2.out, hbw6⟩
            case measure => simp [intOf]; omega
          have HV7 : Hid (Val7 j u (lo7 u m e) e load k) := by
            show _ ∧ _ ∧ _
            rw [HX.out.1, HX.out.2, HTT.out]
            exact ⟨cy, by omega, by omega⟩
          by_cases cB : B = 0
          · have HB2 : Hid (Bst j u (lo7 u m e) e load (k + 1) x y) := by
              have := bst_take HS.out.sp.e0 HB.out HV7.out (.inl cB)
              rw [HX.out.1, HX.out.2] at this
              exact this
            subst cB
            go_wp2_with fail
            go_roundw
            case rel => exact ⟨k + 1, x, y, by omega, by omega, rfl, rfl, by go_num, by omega, by omega, by omega, by omega, HB2.out, hbw6⟩
            case measure => simp [intOf]; omega
          have q2 : (B == 0) = false := by simpa using cB
          by_cases cc : x * B < A * y
          · have HB2 : Hid (Bst j u (lo7 u m e) e load (k + 1) x y) := by
              have := bst_take HS.out.sp.e0 HB.out HV7.out (.inr (by rw [HX.out.1, HX.out.2]; exact cc))
              rw [HX.out.1, HX.out.2] at this
              exact this
            go_wp2_with fail
            go_roundw
            case rel => exact ⟨k + 1, x, y, by omega, by omega, rfl, rfl, by go_num, by omega, by omega, by omega, by omega, HB2.out, hbw6⟩
            case measure => simp [intOf]; omega
          · have HB2 : Hid (Bst j u (lo7 u m e) e load (k + 1) A B) := bst_keep HB.out cB (by rw [HX.out.1, HX.out.2]; exact cc)
            go_wp2_with fail
            go_roundw
            case rel => exact ⟨k + 1, A, B, by omega, by omega, rfl, rfl, by go_num, by omega, by omega, by omega, by omega, HB2.out, hbw6⟩
            case measure => simp [intOf]; omega
    · have hk16 : k = 16 := by omega
      subst hk16
      have HD : Hid (Red7 a b A B 2) := HE.out A B HB.out
      clear HB h3
      go_wp2_with fail
      go_loopw [8, 9, 15] (fun s8 s9 s15 wr => ∃ (q : Nat) (A B : Int), 2 ≤ q ∧ q ≤ 33 ∧ s8 = .int .i64 A ∧ s9 = .int .i64 B ∧ s15 = .int .i64 q ∧ 0 ≤ A ∧ A ≤ 4194304 ∧ 0 ≤ B ∧ B ≤ 32 ∧ Hid (Red7 a b A B q) ∧ Below w2.heap.size w2 wr) (fun _ _ s15 _ => (33 - intOf s15).toNat)
      case atStart => exact ⟨2, A, B, by omega, by omega, rfl, rfl, rfl, A0, A22, B0, B32, HD.out, hbw⟩
      case round =>
        clear HD A0 A22 B0 B32 hbw
        obtain ⟨q, A, B, q2, q33, rfl, rfl, rfl, A0, A22, B0, B32, HD, hbw⟩ := hrel
        by_cases hq : (q : Int) ≤ 32
        · go_wp2_with fail
          go_loopw [8, 9] (fun s8 s9 wr => ∃ (A B : Int), s8 = .int .i64 A ∧ s9 = .int .i64 B ∧ 0 ≤ A ∧ A ≤ 4194304 ∧ 0 ≤ B ∧ B ≤ 32 ∧ Hid (Red7 a b A B q) ∧ Below w2.heap.size w2 wr) (fun _ s9 _ => (intOf s9).toNat)
          case atStart => exact ⟨A, B, rfl, rfl, A0, A22, B0, B32, HD.out, hbw⟩
          case round =>
            clear HD A0 A22 B0 B32 hbw
            obtain ⟨A, B, rfl, rfl, A0, A22, B0, B32, HD, hbw⟩ := hrel
            by_cases cB : B % q = 0
            · by_cases cA : A % q = 0
              · obtain ⟨hD2, hlt3⟩ := red_step q2 HD.out cA cB
                have HD2 : Hid (Red7 a b (A / q) (B / q) q) := hD2
                have d0 := hD2.1
                have d1 := hD2.2.1
                have d2 : A / q ≤ A := Int.ediv_le_self _ A0
                clear hD2 HD
                have r1 : (B % (q : Int) == 0) = true := by simpa using cB
                have r2 : (A % (q : Int) == 0) = true := by simpa using cA
                go_wp2_with fail
                go_roundw
                case rel => exact ⟨A / q, B / q, rfl, rfl, d0, by omega, by omega, by omega, HD2.out, hbw⟩
                case measure => simp [intOf]; omega
              · have HD2 : Hid (Red7 a b A B (q + 1)) := red_next HD.out (fun h => cA h.1)
                have r1 : (B % (q : Int) == 0) = true := by simpa using cB
                have r2 : (A % (q : Int) == 0) = false := by simpa using cA
                go_wp2_with fail
                go_roundw
                case rel => exact ⟨q + 1, A, B, by omega, by omega, rfl, rfl, by go_num, A0, A22, B0, B32, HD2.out, hbw⟩
                case measure => simp [intOf]; omega
            · have HD2 : Hid (Red7 a b A B (q + 1)) := red_next HD.out (fun h => cB h.2)
              have r1 : (B % (q : Int) == 0) = false := by simpa using cB
              go_wp2_with fail
              go_roundw
              case rel => exact ⟨q + 1, A, B, by omega, by omega, rfl, rfl, by go_num, A0, A22, B0, B32, HD2.out, hbw⟩
              case measure => simp [intOf]; omega
        · have hq33 : q = 33 := by omega
          subst hq33
          obtain ⟨rfl, rfl⟩ := HQ.out A B HD.out B32
          have hB9 : Below w.heap.size w wr := hB.trans (hbw.mono hB.size)
          go_wp2
          exact bodyPost_ret (v := .tuple #[.int .i64 A, .int .i64 B, .bool true]) (by simp [results, Tryd.results10, go_sem]) rfl ⟨rfl, hB9⟩
end Go.Proofs.YtjiockmphbhljaaDoor
