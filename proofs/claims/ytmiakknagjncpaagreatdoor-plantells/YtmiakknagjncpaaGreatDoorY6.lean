/- Texts that belong together, one behind the other: X18, X19, B1, B2, B3. -/
import Derived.Test.YtmiakknagjncpaaGreatDoorY5
import Derived.RangeFuncNested
import Derived.RangeFuncBound
import Derived.RangeFuncCalls
import Derived.RangeFuncLeaves
import Derived.RangeFuncBox
import Derived.Shelf.Abstract
import Derived.Shelf.RegionOpen
import Derived.WalkKit
import Derived.OwnWalkIn
import Derived.TacticsInMore
import Derived.LoopNIn
import Derived.LoopIn
import Derived.Maps.AppendAt
/- The document's own force: the walk. -/
namespace Go.Proofs.YtmiakknagjncpaaGreatDoor
open Go.RowKit

theorem tot_none {n : Nat} {u lo e : Nat → Int} (hs : Sp7 n u lo e) : tot n u lo e 0 1 = sm n u := by
  refine sm_congr (fun i hi => ?_)
  unfold hav
  have := hs.top i hi
  have e : (0 : Int) * e i = 0 := Int.zero_mul _
  rw [e]
  omega

set_option maxHeartbeats 1000000 in
set_option maxRecDepth 100000 in
theorem refForce_all (n : Nat) (u m e : Nat → Int) (load : Int) (v : Value) (w : World) (h : Sprs w v n u m e) (hr : roomB n u m e load = true) (hl : sm n u ≤ load) :
    Calls Tryz.prog 50 #[v, .int .i64 load] w fun r w' => r = .returned (.tuple #[.int .i64 0, .int .i64 1, .bool true]) ∧ Below w.heap.size w w' := by
  have hS := (roomB_of hr).1
  have HR : Hid (roomB n u m e load = true) := hr
  have HT : Hid (tot n u (lo7 u m e) e 0 1 = sm n u) := tot_none hS.sp
  have hn : n ≤ 4 := hS.1
  go_enter Tryz.func50, Tryz.ntmps50
  go_wp2_with fail
  refine (refRoom7_any n u m e load v _ h (by omega)).mono ?_
  rintro r w1 ⟨rfl, hb1⟩
  rw [HR.out]
  go_wp2_with fail
  refine (refTotal_any n u m e 0 1 v _ (h.later hb1) hS (by omega) (by omega) (by omega) (by omega)).mono ?_
  rintro r w2 ⟨rfl, hb2⟩
  rw [HT.out]
  have hB : Below w.heap.size w w2 := hb1.trans (hb2.mono hb1.size)
  clear hr HT hb1 hb2
  generalize sm n u = q at *
  go_wp2
  exact bodyPost_ret (v := .tuple #[.int .i64 0, .int .i64 1, .bool true]) (by simp [results, Tryz.results50, go_sem]) rfl ⟨rfl, hB⟩

set_option maxHeartbeats 1000000 in
set_option maxRecDepth 100000 in
theorem refForce_no (n : Nat) (u m e : Nat → Int) (load : Int) (v : Value) (w : World) (h : Sprs w v n u m e) (hn : n ≤ 10) (hr : roomB n u m e load = false) :
    Calls Tryz.prog 50 #[v, .int .i64 load] w fun r w' => r = .returned (.tuple #[.int .i64 0, .int .i64 0, .bool false]) ∧ Below w.heap.size w w' := by
  have HR : Hid (roomB n u m e load = false) := hr
  clear hr
  go_enter Tryz.func50, Tryz.ntmps50
  go_wp2_with fail
  refine (refRoom7_any n u m e load v _ h hn).mono ?_
  rintro r w1 ⟨rfl, hb1⟩
  rw [HR.out]
  go_wp2
  exact bodyPost_ret (v := .tuple #[.int .i64 0, .int .i64 0, .bool false]) (by simp [results, Tryz.results50, go_sem]) rfl ⟨rfl, hb1⟩

theorem bit_half (k j : Nat) : k / 2 ^ j / 2 = k / 2 ^ (j + 1) := by rw [Nat.pow_succ, Nat.div_div_eq_div_mul]

set_option maxHeartbeats 1000000 in
set_option maxRecDepth 100000 in
theorem refForce_sets (n : Nat) (u m e : Nat → Int) (load a b A0 B0 g : Int) (S : Nat → Bool) (v : Value) (w : World) (h : Sprs w v n u m e) (hr : roomB n u m e load = true) (hl : load < sm n u)
    (hF : IsF n u (lo7 u m e) e load a b) (hG : Fin7 n u (lo7 u m e) e load S A0 B0) (g1 : 1 ≤ g) (hA0 : A0 = g * a) (hB0 : B0 = g * b) :
    Calls Tryz.prog 50 #[v, .int .i64 load] w fun r w' => r = .returned (.tuple #[.int .i64 a, .int .i64 b, .bool true]) ∧ Below w.heap.size w w' := by
  obtain ⟨hS, ⟨l0, _⟩, _⟩ := roomB_of hr
  have HR : Hid (roomB n u m e load = true) := hr
  have HT : Hid (tot n u (lo7 u m e) e 0 1 = sm n u) := tot_none hS.sp
  have HS : Hid (fitS n u m e) := hS
  have hn : n ≤ 4 := hS.1
  have l2 : load ≤ 4194304 := by
    have := sm_le (n := n) (f := u) (g := fun _ => 1048576) hS.sp.unit
    rw [sm_const] at this
    omega
  have HE : Hid (∀ A B, Bst n u (lo7 u m e) e load 16 A B → Red7 a b A B 2) := fun A B hb => by
    obtain ⟨h1, h2, h3⟩ := bst_end hn hb hG
    refine ⟨h2, h1, ?_, fun k hk hk2 => by omega⟩
    rw [hA0, hB0] at h3
    have e1 : A * (g * b) = g * (A * b) := by rw [← Int.mul_assoc, Int.mul_comm A, Int.mul_assoc]
    have e2 : g * a * B = g * (a * B) := Int.mul_assoc _ _ _
    rw [e1, e2] at h3
    exact Int.eq_of_mul_eq_mul_left (by omega) h3
  have HQ : Hid (∀ A B, Red7 a b A B 33 → B ≤ 32 → A = a ∧ B = b) := fun A B hd hB => red_end hd hB hF.b1 hF.cop
  have HSp : Hid (Sprs w v n u m e) := h
  clear hF hG hA0 hB0 g1
  go_enter Tryz.func50, Tryz.ntmps50
  go_wp2_with fail
  refine (refRoom7_any n u m e load v _ h (by omega)).mono ?_
  rintro r w1 ⟨rfl, hb1⟩
  rw [HR.out]
  go_wp2_with fail
  refine (refTotal_any n u m e 0 1 v _ (h.later hb1) hS (by omega) (by omega) (by omega) (by omega)).mono ?_
  rintro r w2 ⟨rfl, hb2⟩
  rw [HT.out]
  have hB : Below w.heap.size w w2 := hb1.trans (hb2.mono hb1.size)
  obtain ⟨ad, cap, rfl, h1, h2, h0, h3⟩ := h.later hB
  clear hr HT hb1 hb2 h hS
  generalize sm n u = q at *
  go_wp2_with fail
  go_loopw [8, 9, 10] (fun s8 s9 s10 wr => ∃ (k : Nat) (A B : Int), 1 ≤ k ∧ k ≤ 16 ∧ s8 = .int .i64 A ∧ s9 = .int .i64 B ∧ s10 = .int .i64 k ∧ 0 ≤ A ∧ A ≤ 4194304 ∧ 0 ≤ B ∧ B ≤ 32 ∧ Hid (Bst n u (lo7 u m e) e load k A B) ∧ Below w2.heap.size w2 wr) (fun _ _ s10 _ => (16 - intOf s10).toNat)
  case atStart => exact ⟨1, 0, 0, by omega, by omega, rfl, rfl, rfl, by omega, by omega, by omega, by omega, bst_start, Below.refl _ _⟩
  case round =>
    obtain ⟨k, A, B, k1, k16, rfl, rfl, rfl, A0, A22, B0, B32, HB, hbw⟩ := hrel
    by_cases hlt : (k : Int) < 16
    · go_wp2_with fail
      go_loopw [11, 12, 13, 14] (fun s11 s12 s13 s14 wr2 => ∃ (j : Nat) (x y : Int), j ≤ n ∧ s11 = .int .i64 x ∧ s12 = .int .i64 y ∧ s13 = .int .i64 (k / 2 ^ j : Nat) ∧ s14 = .int .i64 j ∧ -load ≤ x ∧ x ≤ j * 1048576 - load ∧ 0 ≤ y ∧ y ≤ j * 8 ∧ Hid (x = sm j (fun i => if bit7 k i then u i else lo7 u m e i) - load ∧ y = sm j (sel (bit7 k) e)) ∧ Below w2.heap.size w2 wr2) (fun _ _ _ s14 _ => ((n : Int) - intOf s14).toNat)
      case atStart => exact ⟨0, -load, 0, by omega, by go_num, rfl, by simp, rfl, by omega, by omega, by omega, by omega, ⟨by show -load = 0 - load; omega, rfl⟩, hbw⟩
      case round =>
        obtain ⟨j, x, y, hj, rfl, rfl, rfl, rfl, x0, x1, y0, y1, HV, hbw2⟩ := hrel
        by_cases hlt2 : (j : Int) < n
        · obtain ⟨bk, o', rfl, h4⟩ := h3 (by omega)
          obtain ⟨c0, c1, c2⟩ := h4 j (by omega)
          have e0 := cell_later hbw2 c0
          have e1 := cell_later hbw2 c1
          have e2 := cell_later hbw2 c2
          have f1 := HS.out.sp.low j (by omega)
          have f2 := HS.out.sp.top j (by omega)
          have f3 := HS.out.sp.unit j (by omega)
          have f4 := HS.out.sp.e0 j (by omega)
          have f5 := HS.out.sp.e8 j (by omega)
          have HLo : Hid (lo7 u m e j = lea (u j) (m j) (e j)) := rfl
          obtain ⟨t, ht⟩ : ∃ t, k / 2 ^ j = t := ⟨_, rfl⟩
          have HH : Hid (k / 2 ^ (j + 1) = t / 2) := by show _ = _; rw [← bit_half, ht]
          have n1 : ((j : Int) + 1) * 1048576 = j * 1048576 + 1048576 := by omega
          have n2 : ((j : Int) + 1) * 8 = j * 8 + 8 := by omega
          have ht0 : 0 ≤ (t : Int) / 2 := by omega
          have ht1 : (t : Int) ≤ 16 := by
            have : k / 2 ^ j ≤ k := Nat.div_le_self _ _
            omega
          rw [ht]
          by_cases ct : t % 2 = 1
          · have hbt : bit7 k j = true := by unfold bit7; rw [ht]; exact decide_eq_true ct
            have HV2 : Hid (x + u j = sm (j + 1) (fun i => if bit7 k i then u i else lo7 u m e i) - load ∧ y + e j = sm (j + 1) (sel (bit7 k) e)) := by
              show _ ∧ _
              constructor
              · show x + u j = sm j _ + (if bit7 k j then u j else lo7 u m e j) - load
                rw [hbt, HV.out.1]; simp; omega
              · show y + e j = sm j _ + sel (bit7 k) e j
                rw [HV.out.2]; unfold sel; rw [hbt]; rfl
            have q1 : ((t : Int) % 2 == 1) = true := by simp; omega
            have q2 : (t : Int) % 2 = 1 := by omega
            clear hbt ht h4 h3 c0 c1 c2 HV HLo
            generalize lo7 u m e j = lj at *
            generalize u j = uj at *
            generalize m j = mj at *
            generalize e j = ej at *
            go_wp2_with fail
            go_roundw
            case rel => exact ⟨j + 1, x + uj, y + ej, by omega, by go_num, by go_num, by rw [HH.out]; go_num, by go_num, by omega, by omega, by omega, by omega, HV2.out, hbw2⟩
            case measure => simp [intOf]; omega
          · have hbt : bit7 k j = false := by unfold bit7; rw [ht]; exact decide_eq_false ct
            have HV2 : Hid (x + lo7 u m e j = sm (j + 1) (fun i => if bit7 k i then u i else lo7 u m e i) - load ∧ y = sm (j + 1) (sel (bit7 k) e)) := by
              show _ ∧ _
              constructor
              · show x + lo7 u m e j = sm j _ + (if bit7 k j then u j else lo7 u m e j) - load
                rw [hbt, HV.out.1]; simp; omega
              · show y = sm j _ + sel (bit7 k) e j
                rw [HV.out.2]; unfold sel; rw [hbt]; simp
            have q1 : ((t : Int) % 2 == 1) = false := by simp; omega
            have q2 : ¬ (t : Int) % 2 = 1 := by omega
            clear hbt ht h4 h3 c0 c1 c2 HV
            generalize lo7 u m e j = lj at *
            generalize u j = uj at *
            generalize m j = mj at *
            generalize e j = ej at *
            go_wp2_with fail
            refine (refLeast7_any uj mj ej _).mono ?_
            rintro r w4 ⟨rfl, hb4⟩
            rw [← HLo.out]
            have hbw4 : Below w2.heap.size w2 w4 := hbw2.trans (hb4.mono hbw2.size)
            clear hb4 e0 e1 e2
            go_wp2_with fail
            go_roundw
            case rel => exact ⟨j + 1, x + lj, y, by omega, by go_num, rfl, by rw [HH.out]; go_num, by go_num, by omega, by omega, by omega, by omega, HV2.out, hbw4⟩
            case measure => simp [intOf]; omega
        · have hjk : j = n := by omega
          subst hjk
          have HX : Hid (cA7 j u (lo7 u m e) load k = x ∧ cB7 j e k = y) := ⟨HV.out.1.symm, HV.out.2.symm⟩
          have hbW := hB.trans (hbw2.mono hB.size)
          clear HV h3 hbw
          by_cases cy : y = 0
          · have HB2 : Hid (Bst j u (lo7 u m e) e load (k + 1) A B) := bst_skip HB.out (fun hv => hv.1 (by rw [HX.out.2, cy]))
            subst cy
            go_wp2_with fail
            go_roundw
            case rel => exact ⟨k + 1, A, B, by omega, by omega, rfl, rfl, by go_num, by omega, by omega, by omega, by omega, HB2.out, hbw2⟩
            case measure => simp [intOf]; omega
          by_cases cx : x < 0
          · have HB2 : Hid (Bst j u (lo7 u m e) e load (k + 1) A B) := bst_skip HB.out (fun hv => by have := hv.2.1; rw [HX.out.1] at this; omega)
            have q1 : (y == 0) = false := by simpa using cy
            go_wp2_with fail
            go_roundw
            case rel => exact ⟨k + 1, A, B, by omega, by omega, rfl, rfl, by go_num, by omega, by omega, by omega, by omega, HB2.out, hbw2⟩
            case measure => simp [intOf]; omega
          have q1 : (y == 0) = false := by simpa using cy
          have p0 : 0 ≤ y * load := Int.mul_nonneg y0 l0
          have p1 : y * load ≤ 134217728 := Int.le_trans (Int.mul_le_mul (show y ≤ 32 by omega) l2 l0 (by omega)) (by omega)
          have p2 : 0 ≤ x * B := Int.mul_nonneg (by omega) B0
          have p3 : x * B ≤ 134217728 := Int.le_trans (Int.mul_le_mul (show x ≤ 4194304 by omega) B32 B0 (by omega)) (by omega)
          have p4 : 0 ≤ A * y := Int.mul_nonneg A0 y0
          have p5 : A * y ≤ 134217728 := Int.le_trans (Int.mul_le_mul A22 (show y ≤ 32 by omega) y0 (by omega)) (by omega)
          have w3 : IntKind.i64.wrap (y * load) = y * load := by rw [IntKind.wrap_i64]; omega
          have w4 : IntKind.i64.wrap (x * B) = x * B := by rw [IntKind.wrap_i64]; omega
          have w5 : IntKind.i64.wrap (A * y) = A * y := by rw [IntKind.wrap_i64]; omega
          go_wp2_with fail
          refine (refTotal_any j u m e x y _ _ (HSp.out.later hbW) HS.out (by omega) (by omega) (by omega) (by omega)).mono ?_
          rintro r w6 ⟨rfl, hb6⟩
          have hbw6 : Below w2.heap.size w2 w6 := hbw2.trans (hb6.mono hbw2.size)
          clear hb6 hbW hbw2
          obtain ⟨tt, htt⟩ : ∃ tt, tot j u (lo7 u m e) e x y = tt := ⟨_, rfl⟩
          have HTT : Hid (tot j u (lo7 u m e) e x y = tt) := htt
          rw [htt]
          clear htt
          by_cases ct : tt > y * load
          · have HB2 : Hid (Bst j u (lo7 u m e) e load (k + 1) A B) := bst_skip HB.out (fun hv => by have := hv.2.2; rw [HX.out.1, HX.out.2, HTT.out] at this; omega)
            go_wp2_with fail
            go_roundw
            case rel => exact ⟨k + 1, A, B, by omega, by omega, rfl, rfl, by go_num, by omega, by omega, by omega, by omega, HB2.out, hbw6⟩
            case measure => simp [intOf]; omega
          have HV7 : Hid (Val7 j u (lo7 u m e) e load k) := by
            show _ ∧ _ ∧ _
            rw [HX.out.1, HX.out.2, HTT.out]
            exact ⟨cy, by omega, by omega⟩
          by_cases cB : B = 0
          · have HB2 : Hid (Bst j u (lo7 u m e) e load (k + 1) x y) := by
              have := bst_take HS.out.sp.e0 HB.out HV7.out (.inl cB)
              rw [HX.out.1, HX.out.2] at this
              exact this
            subst cB
            go_wp2_with fail
            go_roundw
            case rel => exact ⟨k + 1, x, y, by omega, by omega, rfl, rfl, by go_num, by omega, by omega, by omega, by omega, HB2.out, hbw6⟩
            case measure => simp [intOf]; omega
          have q2 : (B == 0) = false := by simpa using cB
          by_cases cc : x * B < A * y
          · have HB2 : Hid (Bst j u (lo7 u m e) e load (k + 1) x y) := by
              have := bst_take HS.out.sp.e0 HB.out HV7.out (.inr (by rw [HX.out.1, HX.out.2]; exact cc))
              rw [HX.out.1, HX.out.2] at this
              exact this
            go_wp2_with fail
            go_roundw
            case rel => exact ⟨k + 1, x, y, by omega, by omega, rfl, rfl, by go_num, by omega, by omega, by omega, by omega, HB2.out, hbw6⟩
            case measure => simp [intOf]; omega
          · have HB2 : Hid (Bst j u (lo7 u m e) e load (k + 1) A B) := bst_keep HB.out cB (by rw [HX.out.1, HX.out.2]; exact cc)
            go_wp2_with fail
            go_roundw
            case rel => exact ⟨k + 1, A, B, by omega, by omega, rfl, rfl, by go_num, by omega, by omega, by omega, by omega, HB2.out, hbw6⟩
            case measure => simp [intOf]; omega
    · have hk16 : k = 16 := by omega
      subst hk16
      have HD : Hid (Red7 a b A B 2) := HE.out A B HB.out
      clear HB h3
      go_wp2_with fail
      go_loopw [8, 9, 15] (fun s8 s9 s15 wr => ∃ (q : Nat) (A B : Int), 2 ≤ q ∧ q ≤ 33 ∧ s8 = .int .i64 A ∧ s9 = .int .i64 B ∧ s15 = .int .i64 q ∧ 0 ≤ A ∧ A ≤ 4194304 ∧ 0 ≤ B ∧ B ≤ 32 ∧ Hid (Red7 a b A B q) ∧ Below w2.heap.size w2 wr) (fun _ _ s15 _ => (33 - intOf s15).toNat)
      case atStart => exact ⟨2, A, B, by omega, by omega, rfl, rfl, rfl, A0, A22, B0, B32, HD.out, hbw⟩
      case round =>
        clear HD A0 A22 B0 B32 hbw
        obtain ⟨q, A, B, q2, q33, rfl, rfl, rfl, A0, A22, B0, B32, HD, hbw⟩ := hrel
        by_cases hq : (q : Int) ≤ 32
        · go_wp2_with fail
          go_loopw [8, 9] (fun s8 s9 wr => ∃ (A B : Int), s8 = .int .i64 A ∧ s9 = .int .i64 B ∧ 0 ≤ A ∧ A ≤ 4194304 ∧ 0 ≤ B ∧ B ≤ 32 ∧ Hid (Red7 a b A B q) ∧ Below w2.heap.size w2 wr) (fun _ s9 _ => (intOf s9).toNat)
          case atStart => exact ⟨A, B, rfl, rfl, A0, A22, B0, B32, HD.out, hbw⟩
          case round =>
            clear HD A0 A22 B0 B32 hbw
            obtain ⟨A, B, rfl, rfl, A0, A22, B0, B32, HD, hbw⟩ := hrel
            by_cases cB : B % q = 0
            · by_cases cA : A % q = 0
              · obtain ⟨hD2, hlt3⟩ := red_step q2 HD.out cA cB
                have HD2 : Hid (Red7 a b (A / q) (B / q) q) := hD2
                have d0 := hD2.1
                have d1 := hD2.2.1
                have d2 : A / q ≤ A := Int.ediv_le_self _ A0
                clear hD2 HD
                have r1 : (B % (q : Int) == 0) = true := by simpa using cB
                have r2 : (A % (q : Int) == 0) = true := by simpa using cA
                go_wp2_with fail
                go_roundw
                case rel => exact ⟨A / q, B / q, rfl, rfl, d0, by omega, by omega, by omega, HD2.out, hbw⟩
                case measure => simp [intOf]; omega
              · have HD2 : Hid (Red7 a b A B (q + 1)) := red_next HD.out (fun h => cA h.1)
                have r1 : (B % (q : Int) == 0) = true := by simpa using cB
                have r2 : (A % (q : Int) == 0) = false := by simpa using cA
                go_wp2_with fail
                go_roundw
                case rel => exact ⟨q + 1, A, B, by omega, by omega, rfl, rfl, by go_num, A0, A22, B0, B32, HD2.out, hbw⟩
                case measure => simp [intOf]; omega
            · have HD2 : Hid (Red7 a b A B (q + 1)) := red_next HD.out (fun h => cB h.2)
              have r1 : (B % (q : Int) == 0) = false := by simpa using cB
              go_wp2_with fail
              go_roundw
              case rel => exact ⟨q + 1, A, B, by omega, by omega, rfl, rfl, by go_num, A0, A22, B0, B32, HD2.out, hbw⟩
              case measure => simp [intOf]; omega
        · have hq33 : q = 33 := by omega
          subst hq33
          obtain ⟨rfl, rfl⟩ := HQ.out A B HD.out B32
          have hB9 : Below w.heap.size w wr := hB.trans (hbw.mono hB.size)
          go_wp2
          exact bodyPost_ret (v := .tuple #[.int .i64 A, .int .i64 B, .bool true]) (by simp [results, Tryz.results50, go_sem]) rfl ⟨rfl, hB9⟩
end Go.Proofs.YtmiakknagjncpaaGreatDoor
/- The document's own answer for springs: Force and Press; the law: any springs have the force, and the units, that the document says. -/
namespace Go.Proofs.YtmiakknagjncpaaGreatDoor
open Go.RowKit

theorem refForce7_any (n : Nat) (u m e : Nat → Int) (load a b : Int) (rb : Bool) (v : Value) (w : World) (h : Sprs w v n u m e) (hn : n ≤ 10) (hF : Frc n u m e load a b rb) :
    Calls Tryz.prog 50 #[v, .int .i64 load] w fun r w' => r = .returned (.tuple #[.int .i64 a, .int .i64 b, .bool rb]) ∧ Below w.heap.size w w' := by
  obtain ⟨hr, hy, hno⟩ := hF
  cases rb
  · obtain ⟨rfl, rfl⟩ := hno rfl
    exact refForce_no n u m e load v w h hn hr
  · have hI := hy rfl
    obtain ⟨hS, _, hm⟩ := roomB_of hr
    by_cases hl : sm n u ≤ load
    · obtain ⟨rfl, rfl⟩ := (isF_none hS.sp hl).one hI
      exact refForce_all n u m e load v w h hr hl
    · obtain ⟨a', b', hI', hG⟩ := isF_exists hS.sp hm
      obtain ⟨rfl, rfl⟩ := hI.one hI'
      obtain ⟨S, A, B, g, hF7, g1, hA, hB⟩ := hG (by omega)
      exact refForce_sets n u m e load a b A B g S v w h hr (by omega) hI hF7 g1 hA hB

theorem hav_div {u m e : Nat → Int} {a b : Int} (b1 : 1 ≤ b) (i : Nat) : hav u (lo7 u m e) e a b i / b = hv u m e a b i := by
  obtain ⟨h1, h2⟩ := hv_floor (u := u) (m := m) (e := e) (a := a) b1 (i := i)
  refine Int.le_antisymm ?_ ?_
  · have : hav u (lo7 u m e) e a b i / b < hv u m e a b i + 1 := Int.ediv_lt_of_lt_mul (by omega) (by rw [Int.add_mul, Int.mul_comm]; omega)
    omega
  · exact Int.le_ediv_of_mul_le (by omega) (by rw [Int.mul_comm]; exact h1)

set_option maxHeartbeats 1000000 in
set_option maxRecDepth 100000 in
theorem refPress7_any (n : Nat) (u m e : Nat → Int) (load a b : Int) (rb : Bool) (v : Value) (w : World) (h : Sprs w v n u m e) (hn : n ≤ 10) (hF : Frc n u m e load a b rb) :
    Calls Tryz.prog 29 #[v, .int .i64 load] w (PrsE w.heap.size (prs7 n u m e a b rb) rb w) := by
  have HF : Hid (Frc n u m e load a b rb) := hF
  cases rb
  · go_enter Tryz.func29, Tryz.ntmps29
    go_wp2_with fail
    refine (refForce7_any n u m e load a b false v _ h hn HF.out).mono ?_
    rintro r w1 ⟨rfl, hb1⟩
    clear hF
    go_wp2
    exact bodyPost_ret (v := .tuple #[.slice none 0 0, .bool false]) (by simp [results, Tryz.results29, go_sem]) rfl ⟨_, rfl, ⟨rfl, .inl ⟨rfl, rfl⟩⟩, hb1⟩
  · have HI : Hid (IsF n u (lo7 u m e) e load a b) := hF.2.1 rfl
    have HS : Hid (fitS n u m e) := (roomB_of hF.1).1
    have hn4 : n ≤ 4 := HS.out.1
    have b1 := HI.out.b1
    have b32 := HI.out.b32
    have a0 := HI.out.a0
    have a22 := HI.out.abig
    clear hF
    go_enter Tryz.func29, Tryz.ntmps29
    go_wp2_with fail
    refine (refForce7_any n u m e load a b true v _ h hn HF.out).mono ?_
    rintro r w1 ⟨rfl, hb1⟩
    have hs1 := hb1.size
    obtain ⟨ad, cap, rfl, h1, h2, h0, h3⟩ := h.later hb1
    clear h
    go_wp2_with fail
    go_loopw [9, 10] (fun s9 s10 wr => ∃ (j : Nat) (so : Value), j ≤ n ∧ s9 = so ∧ s10 = .int .i64 j ∧ wr.ownsRow w1.heap.size 3 1 so j (ivs (lst7 j (hv u m e a b))) ∧ Below w1.heap.size w1 wr) (fun _ s10 _ => ((n : Int) - intOf s10).toNat)
    case atStart => exact ⟨0, _, by omega, rfl, rfl, ⟨rfl, .inl ⟨rfl, rfl⟩⟩, Below.refl _ _⟩
    case round =>
      obtain ⟨j, so, hj, hso, rfl, hown, hbw⟩ := hrel
      replace hso := hso.symm
      subst hso
      by_cases hlt : (j : Int) < n
      · obtain ⟨bk, o', rfl, h4⟩ := h3 (by omega)
        obtain ⟨k0, k1, k2⟩ := h4 j (by omega)
        have e0 := cell_later hbw k0
        have e1 := cell_later hbw k1
        have e2 := cell_later hbw k2
        have f0 := HS.out.sp.low j (by omega)
        have f1 := HS.out.sp.top j (by omega)
        have f3 := HS.out.sp.unit j (by omega)
        have f5 := HS.out.sp.e0 j (by omega)
        have f6 := HS.out.sp.e8 j (by omega)
        have g3 := hv_bd HS.out a0 b1 (show j < n by omega)
        have HLo : Hid (lo7 u m e j = lea (u j) (m j) (e j)) := rfl
        have HH : Hid (hav u (lo7 u m e) e a b j = max (b * u j - a * e j) (b * lo7 u m e j)) := rfl
        have HDV : Hid (hav u (lo7 u m e) e a b j / b = hv u m e a b j) := hav_div b1 j
        obtain ⟨hj', hhj⟩ : ∃ x, hv u m e a b j = x := ⟨_, rfl⟩
        have HVJ : Hid (hv u m e a b j = hj') := hhj
        rw [hhj] at HDV g3
        clear h4 h3 hhj
        generalize hav u (lo7 u m e) e a b j = hh at *
        generalize lo7 u m e j = lj at *
        generalize u j = uj at *
        generalize m j = mj at *
        generalize e j = ej at *
        have p0 : 0 ≤ b * uj := Int.mul_nonneg (by omega) (by omega)
        have p1 : b * uj ≤ 33554432 := Int.le_trans (Int.mul_le_mul b32 f3 (by omega) (by omega)) (by omega)
        have p2 : 0 ≤ a * ej := Int.mul_nonneg a0 f5
        have p3 : a * ej ≤ 33554432 := Int.le_trans (Int.mul_le_mul a22 f6 f5 (by omega)) (by omega)
        have p4 : 0 ≤ b * lj := Int.mul_nonneg (by omega) (by omega)
        have p5 : b * lj ≤ b * uj := Int.mul_le_mul_of_nonneg_left f1 (by omega)
        have w1' : IntKind.i64.wrap (b * uj) = b * uj := by rw [IntKind.wrap_i64]; omega
        have w3 : IntKind.i64.wrap (a * ej) = a * ej := by rw [IntKind.wrap_i64]; omega
        have w4' : IntKind.i64.wrap (b * uj - a * ej) = b * uj - a * ej := by rw [IntKind.wrap_i64]; omega
        have w5' : IntKind.i64.wrap (b * lj) = b * lj := by rw [IntKind.wrap_i64]; omega
        go_wp2_with fail
        go_quiet (fail)
        have hW : Below w1.heap.size w1 (wr.drewN nq) := ⟨hbw.os, hbw.tape, hbw.output, hbw.size, hbw.block⟩
        have hownW : (wr.drewN nq).ownsRow w1.heap.size 3 1 so j (ivs (lst7 j (hv u m e a b))) := hown
        have e0' := cell_later hW k0
        have e1' := cell_later hW k1
        have e2' := cell_later hW k2
        clear hbw hown e0 e1 e2
        generalize wr.drewN nq = W at *
        go_wp2_with fail
        refine (refLeast7_any uj mj ej _).mono ?_
        rintro r w4 ⟨rfl, hb4⟩
        rw [← HLo.out]
        have hown4 := own_later hownW hb4
        have hbw4 : Below w1.heap.size w1 w4 := hW.trans (hb4.mono hW.size)
        have sw4 := hbw4.size
        clear hb4 hW hownW e0' e1' e2'
        by_cases cX : b * uj - a * ej < b * lj
        · have q1 : b * lj / b = lj := Int.mul_ediv_cancel_left _ (by omega)
          have hjl : hj' = lj := by rw [← HDV.out, ← q1, HH.out]; congr 1; omega
          subst hjl
          go_wp2_with (first
            | (at_builtin; refine append_int rfl _ _ rfl w1.heap.size _ j w4.heap.size hj' (hv u m e a b) rfl (hown4.alloc _) rfl (by simp) HVJ.out (by omega) (by simp; omega) ?_; intro so5 w5 hown5 hg5 hat5; have hbw5 : Below w1.heap.size w1 w5 := (hbw4.alloc sw4 _).grown hg5 (by simp; omega) (fun k hk => ((hown4.alloc (.cells #[.int .i64 hj'] 3)).lt k hk).1))
            | go_in)
          go_roundw
          case rel => exact ⟨j + 1, so5, by omega, rfl, by go_num, hown5, hbw5⟩
          case measure => simp [intOf]; omega
        · have q1 : (b * uj - a * ej) / b = hj' := by rw [← HDV.out, HH.out]; congr 1; omega
          go_wp2_with (first
            | (at_builtin; refine append_int rfl _ _ rfl w1.heap.size _ j w4.heap.size hj' (hv u m e a b) rfl (hown4.alloc _) rfl (by simp) HVJ.out (by omega) (by simp; omega) ?_; intro so5 w5 hown5 hg5 hat5; have hbw5 : Below w1.heap.size w1 w5 := (hbw4.alloc sw4 _).grown hg5 (by simp; omega) (fun k hk => ((hown4.alloc (.cells #[.int .i64 hj'] 3)).lt k hk).1))
            | go_in)
          go_roundw
          case rel => exact ⟨j + 1, so5, by omega, rfl, by go_num, hown5, hbw5⟩
          case measure => simp [intOf]; omega
      · have hjk : j = n := by omega
        subst hjk
        have hB : Below w.heap.size w wr := hb1.trans (hbw.mono hs1)
        go_wp2
        refine bodyPost_ret (v := .tuple #[so, .bool true]) (by simp [results, Tryz.results29, go_sem]) rfl ⟨so, rfl, ?_, hB⟩
        have hl : (prs7 j u m e a b true).length = j := lst7_len _ _
        rw [hl]
        have ho := hown.1
        rcases hown.2 with hz | ⟨g, cap, cur, hv', hg, hh⟩
        · exact ⟨ho, .inl hz⟩
        · exact ⟨ho, .inr ⟨g, cap, cur, hv', Nat.le_trans hs1 hg, hh⟩⟩
end Go.Proofs.YtmiakknagjncpaaGreatDoor
/- Runs of numbers: what a round of a loop over one keeps; walks of each, of what over makes of it, of over and of periods of package period. -/
namespace Go.Proofs.YtmiakknagjncpaaGreatDoor
open Go.RowKit Go.Shelf
attribute [local go_sem] Oper.semAt_some

/-- The numbers of a run, one by one. -/
def rn (f s : Int) (i : Nat) : Int := f + i * s
/-- A run has so many numbers. -/
structure Runs (f s last : Int) (N : Nat) : Prop where
  f0 : 0 ≤ f
  f1 : f ≤ 4398046511104
  s0 : 1 ≤ s
  s1 : s ≤ 4398046511104
  l1 : last ≤ 4398046511104
  lo : ∀ i, i < N → rn f s i ≤ last
  hi : last < rn f s N
theorem rn_zero (f s : Int) : rn f s 0 = f := by unfold rn; simp
theorem rn_succ (f s : Int) (i : Nat) : rn f s (i + 1) = rn f s i + s := by
  unfold rn; rw [Int.natCast_add, Int.add_mul]; simp; omega
theorem rn_ge {f s : Int} (h : 1 ≤ s) (i : Nat) : f + i ≤ rn f s i := by
  induction i with
  | zero => rw [rn_zero]; simp
  | succ i ih => rw [rn_succ]; omega

/-- What a round keeps: each block that holds a run lies as it lay. -/
def RunKept (W W' : World) : Prop := W.heap.size ≤ W'.heap.size ∧ ∀ (k : Nat) (cs : Array Value) (fr : Nat × Nat), W.heap[k]? = some (.cells cs 96 fr) → W'.heap[k]? = some (.cells cs 96 fr)
theorem runKept_t {A B C : World} (h : RunKept A B) (k : RunKept B C) : RunKept A C := ⟨Nat.le_trans h.1 k.1, fun i cs fr hi => k.2 i cs fr (h.2 i cs fr hi)⟩
theorem RunKept.refl (W : World) : RunKept W W := ⟨Nat.le_refl _, fun _ _ _ h => h⟩
theorem RunKept.of_below {W W' : World} (h : Below W.heap.size W W') : RunKept W W' := ⟨h.size, fun k _ _ hk => (h.block k (Array.getElem?_eq_some_iff.1 hk).1).trans hk⟩
theorem RunKept.of_grown {W W' : World} {row : Option Nat} (hg : W.grownBy W' row) (hr : ∀ k o, row = some k → W.heap[k]? = some o → ∀ cs fr, o ≠ .cells cs 96 fr) : RunKept W W' :=
  ⟨hg.size, fun k cs fr hk => (hg.block k (Array.getElem?_eq_some_iff.1 hk).1 (fun e => hr k _ e.symm hk cs fr rfl)).trans hk⟩
theorem runKept_b {w : World} (W : World) (l : Nat) (o o' : Obj) (_ : w.heap.size ≤ l) (h : W.heap[l]? = some o) (hc : o.isCells = false) (_ : o.isWalk = false) : RunKept W (W.putObj l o') :=
  RunKept.of_grown (grownBy_putObj' W l o') (fun k q e hq _ _ => by cases e; rw [h] at hq; cases hq; intro e; subst e; cases hc)

/-- A block that holds a run. -/
def RunAt (W : World) (b : Nat) (f s last : Int) : Prop := W.heap[b]? = some (.cells #[.int .i64 f, .int .i64 s, .int .i64 last] 96 (0, 0))
theorem RunAt.kept {W W' : World} {b : Nat} {f s last : Int} (h : RunAt W b f s last) (hk : RunKept W W') : RunAt W' b f s last := hk.2 _ _ _ h
theorem RunAt.cells {W : World} {b : Nat} {f s last : Int} (h : RunAt W b f s last) : W.cell? ⟨b, 0, none⟩ = some (.int .i64 f) ∧ W.cell? ⟨b, 1, none⟩ = some (.int .i64 s) ∧ W.cell? ⟨b, 2, none⟩ = some (.int .i64 last) := by
  have h' : W.heap[b]? = _ := h
  refine ⟨?_, ?_, ?_⟩ <;> simp [World.cell?, h']
theorem RunAt.new (W : World) (f s last : Int) : RunAt (W.alloc (.cells #[.int .i64 f, .int .i64 s, .int .i64 last] 96)) W.heap.size f s last := World.alloc_heap_new W _

theorem round_any {m m' : Nat} {P : Program} {l : Nat} {args : Array Value} {W : World} {R : Ending → World → Prop} (h : YieldAt Fence.wide m P l args W R) : YieldAt Fence.wide m' P l args W R := by
  obtain ⟨fn, tmps, assign, body, hy, hR⟩ := h
  exact ⟨fn, tmps, assign, body, hy, hR.1, fun c cs _ => hR.2 c cs (room_wide _)⟩

/-- The rounds that a loop over a run has: as long as it goes on, what it says holds of what came. -/
def RoundsAt (m l N : Nat) (J Jx : List Int → World → Prop) : Prop :=
  ∀ pre x W1, J pre W1 → pre.length < N → YieldAt Fence.wide m Tryz.prog l #[.int .i64 x] W1 fun e W' =>
    (e = .returned (.bool true) ∧ J (pre ++ [x]) W' ∧ RunKept W1 W') ∨ (e = .returned (.bool false) ∧ Jx (pre ++ [x]) W')

set_option maxHeartbeats 1000000 in
set_option maxRecDepth 100000 in
/-- A run hands its numbers on, in order, till no more are wanted. -/
theorem each_in (n l : Nat) (f s last : Int) (N : Nat) (hN : Runs f s last N) (J Jx : List Int → World → Prop) (hY : ∀ m, RoundsAt m l N J Jx) (W : World) (hJ : AbidesFrom W.heap.size J) (h0 : J [] W) :
    CallsIn Fence.wide n Tryz.prog 68 #[.agg #[.int .i64 f, .int .i64 s, .int .i64 last], .func (.yield l) #[] #[]] W fun e W' => (∃ v, e = .returned v) ∧
      ((∃ ys, ys = lst7 N (rn f s) ∧ J ys W') ∨ (∃ pre, (∃ k, k ≤ N ∧ pre = lst7 k (rn f s)) ∧ Jx pre W')) := by
  obtain ⟨f0, f1, s0, s1, l1, lo, hi⟩ := hN
  refine callsIn_of_wp Tryz.func68 rfl trivial ?_ rfl
  simp only [Tryz.ntmps68, List.size_toArray, List.length_cons, List.length_nil, Nat.reduceAdd, Nat.reduceSub, Array.replicate_succ, Array.replicate_zero, List.push_toArray, List.append_toArray, List.nil_append, List.cons_append]
  gi_wp2
  have hR0 := RunAt.new W f s last
  have hJ0 : J [] (W.alloc (.cells #[.int .i64 f, .int .i64 s, .int .i64 last] 96)) := hJ _ _ _ none h0 (World.grownBy_alloc W _ none) (fun r e => by cases e)
  gi_loopw [4] (fun v wr => ∃ k : Nat, k ≤ N ∧ v = .int .i64 (rn f s k) ∧ J (lst7 k (rn f s)) wr ∧ RunAt wr W.heap.size f s last) (fun v _ => (last + 1 - intOf v).toNat)
  case atStart => exact ⟨0, Nat.zero_le _, by rw [rn_zero], hJ0, hR0⟩
  case round =>
    obtain ⟨k, hk, rfl, hJs, hR⟩ := hrel
    obtain ⟨a0, a1, a2⟩ := hR.cells
    by_cases hlt : k < N
    · obtain ⟨fn, tmps, assign, body, hy, hRd⟩ := hY (n - 1) _ (rn f s k) wr hJs (by rw [lst7_len]; exact hlt)
      have g1 := lo k hlt
      have g2 := rn_ge (f := f) s0 k
      have g3 := rn_succ f s k
      obtain ⟨x, hx⟩ : ∃ x, rn f s k = x := ⟨_, rfl⟩
      have HX : Hid (rn f s k = x) := hx
      rw [hx] at g1 g2 g3 hy
      rw [hx]
      clear hx
      gi_wp2
      refine ⟨fun h => (by cases h), hRd.mono ?_⟩
      rintro e W3 (⟨rfl, hJ3, hk3⟩ | ⟨rfl, hJx3⟩)
      · have hR3 := hR.kept hk3
        obtain ⟨b0, b1, b2⟩ := hR3.cells
        gi_wp2
        go_roundw
        case rel =>
          exact ⟨k + 1, by omega, by rw [g3], by rw [lst7_succ]; exact hJ3, hR3⟩
        case measure => simp [intOf]; omega
      · gi_wp2
        refine bodyPost_ret (results_none rfl _ _ _) rfl ?_
        exact ⟨⟨_, rfl⟩, .inr ⟨_, ⟨k + 1, by omega, (lst7_succ _ _).symm⟩, hJx3⟩⟩
    · obtain rfl : k = N := by omega
      gi_wp2
      go_end0
      exact ⟨⟨_, rfl⟩, .inl ⟨_, rfl, hJs⟩⟩
end Go.Proofs.YtmiakknagjncpaaGreatDoor
/- What may be ranged over; walks of over, of periods and of list of package period. -/
namespace Go.Proofs.YtmiakknagjncpaaGreatDoor
open Go.RowKit Go.Shelf
attribute [local go_sem] Oper.semAt_some

/-- A function that may be ranged over, for a run. -/
def IsSeq (w : World) (v : Value) (f s last : Int) : Prop :=
  ∃ Bh Br, v = .func (.func 100) #[] #[.pointer (some ⟨Bh, 0, none⟩), .pointer (some ⟨Br, 0, none⟩)] ∧ Boxed w Bh 94 (.func (.func 68) #[] #[]) ∧ RunAt w Br f s last
theorem RunAt.later {w w' : World} {b : Nat} {f s last : Int} (h : RunAt w b f s last) (hb : Below w.heap.size w w') : RunAt w' b f s last := h.kept (RunKept.of_below hb)
theorem Boxed.later {w w' : World} {b : Nat} {t : TypeId} {v : Value} (h : Boxed w b t v) (hb : Below w.heap.size w w') : Boxed w' b t v := (hb.block b h.lt).trans h
theorem IsSeq.later {w w' : World} {v : Value} {f s last : Int} (h : IsSeq w v f s last) (hb : Below w.heap.size w w') : IsSeq w' v f s last := by
  obtain ⟨Bh, Br, rfl, h1, h2⟩ := h
  exact ⟨Bh, Br, rfl, Boxed.later h1 hb, h2.later hb⟩

/-- A round that appends keeps runs. -/
theorem run_appended {W w1 : World} {n0 B k : Nat} {v u : Value} {xs : List Value} {tmp : Array Value} (hrow : W.ownsRow n0 3 1 v k xs) (hg : (W.alloc (.cells tmp 3)).grownBy w1 v.ownBlock) (hv1 : Boxed w1 B 51 u) (y : Value) : RunKept W (w1.setCell ⟨B, 0, none⟩ y) := by
  refine runKept_t (runKept_t (B := W.alloc (.cells tmp 3)) (RunKept.of_below ((Below.refl _ _).alloc (Nat.le_refl _) _)) (RunKept.of_grown hg (fun j o ej hj cs fr e => ?_))) (RunKept.of_grown (grownBy_setCell' w1 B y) (fun j o ej hj cs fr e => ?_))
  · rcases (hrow.alloc (.cells tmp 3)).2 with ⟨rfl, _⟩ | ⟨g, cap, cur, rfl, _, hgb, _⟩
    · simp [Value.ownBlock] at ej
    · obtain rfl : g = j := by simpa [Value.ownBlock] using ej
      rw [hgb] at hj; cases hj; cases e
  · cases ej
    rw [show w1.heap[B]? = _ from hv1] at hj
    cases hj; cases e

set_option maxHeartbeats 1000000 in
set_option maxRecDepth 100000 in
theorem seq_stops (n Bh Br : Nat) (f s last : Int) (N : Nat) (hN : Runs f s last N) (w : World) (h1 : Boxed w Bh 94 (.func (.func 68) #[] #[])) (h2 : RunAt w Br f s last) :
    SeqStopsK Fence.wide n Tryz.prog 100 #[.pointer (some ⟨Bh, 0, none⟩), .pointer (some ⟨Br, 0, none⟩)] (fun x : Int => #[Value.int .i64 x]) RunKept (fun ys => ys = lst7 N (rn f s)) (fun pre => ∃ k, k ≤ N ∧ pre = lst7 k (rn f s)) N w := fun l J Jx W hW hJ _ hY h0 => by
  have c0 := (Boxed.later h1 hW).cell
  obtain ⟨c1, c2, c3⟩ := (h2.later hW).cells
  have H := each_in (n - 1) l f s last N hN J Jx (fun m pre x W1 a b => round_any (hY pre x W1 a b)) W hJ h0
  refine callsIn_of_wp Tryz.func100 rfl trivial ?_ rfl
  simp only [Tryz.ntmps100, List.size_toArray, List.length_cons, List.length_nil, Nat.reduceAdd, Nat.reduceSub, Array.replicate_succ, Array.replicate_zero, List.push_toArray, List.append_toArray, List.nil_append, List.cons_append]
  gi_wp2
  refine ⟨trivial, fun h => (by cases h), H.mono ?_⟩
  rintro e w1 ⟨⟨u, rfl⟩, hR⟩
  gi_wp2
  go_end0
  exact ⟨⟨_, rfl⟩, hR⟩

set_option maxHeartbeats 1000000 in
set_option maxRecDepth 100000 in
theorem over_any (f s last : Int) (w : World) :
    Calls Tryz.prog 67 #[.func (.func 68) #[] #[], .agg #[.int .i64 f, .int .i64 s, .int .i64 last]] w fun r w' => ∃ u, r = .returned u ∧ IsSeq w' u f s last ∧ Below w.heap.size w w' := by
  have b1 := (Boxed.new w 94 (.func (.func 68) #[] #[])).alloc (.cells #[.int .i64 f, .int .i64 s, .int .i64 last] 96)
  have b2 := RunAt.new (w.alloc (.cells #[.func (.func 68) #[] #[]] 94)) f s last
  rw [World.size_alloc] at b2
  go_enter Tryz.func67, Tryz.ntmps67
  go_wp2_with fail
  go_ret
  exact ⟨_, rfl, ⟨_, _, rfl, b1, b2⟩, ((Below.refl _ _).alloc (by simp) _).alloc (by simp) _⟩

set_option maxHeartbeats 1000000 in
set_option maxRecDepth 100000 in
theorem periods_any (c t x m k e : Int) (w : World) :
    Calls Tryz.prog 48 #[.agg #[.int .i64 c, .int .i64 t, .int .i64 x, .int .i64 m, .int .i64 k, .int .i64 e]] w fun r w' => ∃ u, r = .returned u ∧ IsSeq w' u t 1 x ∧ Below w.heap.size w w' := by
  have hS : Six (w.alloc (.cells #[.int .i64 c, .int .i64 t, .int .i64 x, .int .i64 m, .int .i64 k, .int .i64 e] 38)) w.heap.size (Sp.at ⟨c, t, x, m, k, e⟩) := Six.new w ⟨c, t, x, m, k, e⟩
  obtain ⟨a0, a1, a2, a3, a4, a5, b0, b1, b2, b3, b4, b5⟩ := hS.sp
  go_enter Tryz.func48, Tryz.ntmps48
  go_wp2_with fail
  refine (over_any t 1 x _).mono ?_
  rintro r w1 ⟨u, rfl, hs, hb⟩
  go_wp2_with fail
  go_ret
  exact ⟨u, rfl, hs, ((Below.refl _ _).alloc (by simp) _).trans (hb.mono (by simp))⟩

set_option maxHeartbeats 2000000 in
set_option maxRecDepth 100000 in
/-- What is handed on, in order. -/
theorem perlist_any (f s last : Int) (N : Nat) (hN : Runs f s last N) (hN1 : N ≤ 100000) (v : Value) (w : World) (h : IsSeq w v f s last) :
    Calls Tryz.prog 105 #[v] w fun r w' => ∃ u, r = .returned u ∧ w'.ownsRow w.heap.size 3 1 u N (ivs (lst7 N (rn f s))) ∧ Below w.heap.size w w' := by
  obtain ⟨Bh, Br, rfl, h1, h2⟩ := h
  obtain ⟨i0, hi, hz0, hz1, hz2⟩ := info_parts Tryz.infoInt
  refine (callsIn_wide (n := 3)).1 ?_
  refine callsIn_of_wp_marks Tryz.func105 rfl trivial ?_ rfl
  simp only [Tryz.ntmps105, List.size_toArray, List.length_cons, List.length_nil, Nat.reduceAdd, Nat.reduceSub, Array.replicate_succ, Array.replicate_zero, List.push_toArray, List.append_toArray, List.nil_append, List.cons_append]
  gi_wp2
  have bO := Boxed.new w 51 (.slice none 0 0)
  have hB0 : Below w.heap.size w (w.alloc (.cells #[.slice none 0 0] 51)) := (Below.refl _ w).alloc (Nat.le_refl _) _
  refine wpIn_rangeFunc_ownG rfl (by omega) (gf := 100) (lb := #[.pointer (some ⟨Bh, 0, none⟩), .pointer (some ⟨Br, 0, none⟩)]) rfl trivial (enters_of Tryz.func100 (by kernel_rfl) rfl)
    (seq_stops _ Bh Br f s last N hN _ (Boxed.later h1 hB0) (h2.later hB0)) runKept_t runKept_b (Below.refl _ _) (fun _ => rfl)
    (fun pre W => (∃ v, Boxed W w.heap.size 51 v ∧ W.ownsRow w.heap.size 3 1 v pre.length (ivs pre) ∧ True) ∧ Below w.heap.size w W)
    (fun _ _ _ => False)
    (OwnFrom.and (Own.from (holdsRow_own w.heap.size w.heap.size 51 3 1 (fun pre => pre.length) (fun pre => ivs pre) (fun _ _ => True)) _) (ownFrom_below (Nat.le_refl _) (by simp)))
    (fun _ _ _ _ _ hs _ _ => hs)
    ⟨⟨_, bO, World.ownsRow_nil _ _ _ _, trivial⟩, hB0⟩
    (fun x => { tmps := #[.func (.func 100) #[] #[.pointer (some ⟨Bh, 0, none⟩), .pointer (some ⟨Br, 0, none⟩)], undef, .slice none 0 0, .pointer (some ⟨w.heap.size, 0, none⟩), .int .i64 x, .func (.func 100) #[] #[.pointer (some ⟨Bh, 0, none⟩), .pointer (some ⟨Br, 0, none⟩)], .int .i64 x, undef, undef, undef, undef, undef], defers := [] }) ?assign ?body ?done ?stop
  case assign =>
    intro l x W K hK
    gi_wp2
    exact hK
  case body =>
    rintro l pre x W ⟨⟨v, hv, hrow, _⟩, hB⟩ hlt
    have hc := hv.cell
    gi_wp2_with (gi_at_builtin; refine wpListIn_append_own _ rfl _ _ 51 rfl w.heap.size 3 i0 (.int .i64 0) 1 8 Tryz.underlying51 hi hz0 hz1 hz2 rfl (by decide) _ _ _ rfl (hrow.alloc _) ⟨W.heap.size, 0, none⟩ 1 1 [.int .i64 x] rfl rfl (cell_one_new _ _ _) (by simp [Value.oneCell']) (by unfold maxLen; omega) (by omega) (by have := hB.size; simp; omega) ?_; intro v' w1 hown' hgrow _; obtain ⟨g', cap', rfl⟩ := ownsRow_succ hown'; obtain ⟨hv1, hv2, hr2, hk2, hb2⟩ := hv.appended (by decide) hrow hB.size (Nat.le_refl _) hown' hgrow; have hc1 := hv1.cell; have hf1 := hv1.frozen; have hrk := run_appended hrow hgrow hv1)
    exact ⟨hk2.from _, hrk _, ⟨_, hv2, by simpa [ivs] using hr2, trivial⟩, hB.trans hb2⟩
  case done =>
    rintro D ys W hD rfl ⟨⟨v, hv, hrow, _⟩, hB⟩ hK
    have hc := hv.cell
    gi_wp2
    refine ⟨by simp, .inl ⟨_, _, rfl, run_takeDeferred hK, ?_⟩⟩
    refine ⟨_, results_tmp rfl _ _ _, v, rfl, ?_, hB.trans (belowK_b (w := w) (Nat.le_refl _) W D _ _ (by simp at hD; omega) hK rfl rfl)⟩
    have := ownsRow_putObj hrow (.deferred none) hK rfl
    rwa [lst7_len] at this
  case stop =>
    rintro D c pre W _ _ h _
    exact h.elim
end Go.Proofs.YtmiakknagjncpaaGreatDoor
/- The least period of units: walks of within and Of of package period. -/
namespace Go.Proofs.YtmiakknagjncpaaGreatDoor
open Go.RowKit Go.Shelf
attribute [local go_sem] Oper.semAt_some

/-- How many periods a task may have, and which. -/
def perN (s : Sp) : Nat := (s.x - s.t + 1).toNat
def perL (s : Sp) : List Int := lst7 (perN s) (rn s.t 1)
/-- The least of them at which it has no more than u units. -/
def ofO (s : Sp) (u : Int) : Option Int := bif maySp s && wiB u 1 1048576 then (perL s).find? (fun p => decide (atV s p ≤ u)) else none
def ofP (s : Sp) (u : Int) : Int := (ofO s u).getD 0
def ofB (s : Sp) (u : Int) : Bool := (ofO s u).isSome

theorem per_runs {s : Sp} (h : maySp s = true) : Runs s.t 1 s.x (perN s) := by
  obtain ⟨c0, c1, f2, f3, f4, _⟩ := may_facts h
  have e : ((perN s : Nat) : Int) = s.x - s.t + 1 := by unfold perN; omega
  refine ⟨by omega, by omega, by omega, by omega, by omega, fun i hi => ?_, ?_⟩
  · unfold rn; have : (i : Int) < perN s := by exact_mod_cast hi
    omega
  · unfold rn; omega

set_option maxHeartbeats 1000000 in
set_option maxRecDepth 100000 in
theorem pwithin_any (n lo hi : Int) (w : World) : Calls Tryz.prog 47 #[.int .i64 n, .int .i64 lo, .int .i64 hi] w fun r w' => r = .returned (.bool (wiB n lo hi)) ∧ w' = w := by
  by_cases h : lo ≤ n
  · by_cases h' : n ≤ hi
    · have H : Hid (wiB n lo hi = true) := decide_eq_true ⟨h, h'⟩
      go_enter Tryz.func47, Tryz.ntmps47
      go_wp2_with fail
      go_ret
      exact ⟨ret_b H.out.symm, rfl⟩
    · have H : Hid (wiB n lo hi = false) := decide_eq_false (fun q => h' q.2)
      go_enter Tryz.func47, Tryz.ntmps47
      go_wp2_with fail
      go_ret
      exact ⟨ret_b H.out.symm, rfl⟩
  · have H : Hid (wiB n lo hi = false) := decide_eq_false (fun q => h q.1)
    go_enter Tryz.func47, Tryz.ntmps47
    go_wp2_with fail
    go_ret
    exact ⟨ret_b H.out.symm, rfl⟩

theorem of_no1 {s : Sp} {u : Int} (h : maySp s = false) : ofO s u = none := by unfold ofO; rw [h]; rfl
theorem of_no2 {s : Sp} {u : Int} (h : wiB u 1 1048576 = false) : ofO s u = none := by unfold ofO; rw [h, Bool.and_false]; rfl
theorem of_yes {s : Sp} {u : Int} (h : maySp s = true) (h' : wiB u 1 1048576 = true) : ofO s u = (perL s).find? (fun p => decide (atV s p ≤ u)) := by unfold ofO; rw [h, h']; rfl

/-- What Of keeps: the task, the units, and its two answers. -/
structure OfAt (W : World) (n : Nat) (s : Sp) (u p : Int) (b : Bool) : Prop where
  sp : Six W n s.at
  un : Boxed W (n + 1) 3 (.int .i64 u)
  pe : Boxed W (n + 1 + 1) 3 (.int .i64 p)
  is : Boxed W (n + 1 + 1 + 1) 4 (.bool b)
theorem OfAt.new (w : World) (c t x m k e u : Int) : OfAt ((((w.alloc (.cells #[.int .i64 c, .int .i64 t, .int .i64 x, .int .i64 m, .int .i64 k, .int .i64 e] 38)).alloc (.cells #[.int .i64 u] 3)).alloc (.cells #[.int .i64 0] 3)).alloc (.cells #[.bool false] 4)) w.heap.size ⟨c, t, x, m, k, e⟩ u 0 false := by
  have q0 : Six (w.alloc (.cells #[.int .i64 c, .int .i64 t, .int .i64 x, .int .i64 m, .int .i64 k, .int .i64 e] 38)) w.heap.size (Sp.at ⟨c, t, x, m, k, e⟩) := Six.new w ⟨c, t, x, m, k, e⟩
  have q1 := Boxed.alloc (Boxed.alloc (Boxed.new (w.alloc (.cells #[.int .i64 c, .int .i64 t, .int .i64 x, .int .i64 m, .int .i64 k, .int .i64 e] 38)) 3 (.int .i64 u)) (.cells #[.int .i64 0] 3)) (.cells #[.bool false] 4)
  have q2 := Boxed.alloc (Boxed.new ((w.alloc (.cells #[.int .i64 c, .int .i64 t, .int .i64 x, .int .i64 m, .int .i64 k, .int .i64 e] 38)).alloc (.cells #[.int .i64 u] 3)) 3 (.int .i64 0)) (.cells #[.bool false] 4)
  have q3 := Boxed.new (((w.alloc (.cells #[.int .i64 c, .int .i64 t, .int .i64 x, .int .i64 m, .int .i64 k, .int .i64 e] 38)).alloc (.cells #[.int .i64 u] 3)).alloc (.cells #[.int .i64 0] 3)) 4 (.bool false)
  simp only [World.size_alloc] at q1 q2 q3
  exact ⟨q0.later ((((Below.refl _ _).alloc (by simp) _).alloc (by simp) _).alloc (by simp) _), q1, q2, q3⟩
theorem OfAt.later {w w' : World} {n : Nat} {s : Sp} {u p : Int} {b : Bool} (h : OfAt w n s u p b) (hb : Below w.heap.size w w') : OfAt w' n s u p b :=
  ⟨h.sp.later hb, Boxed.later h.un hb, Boxed.later h.pe hb, Boxed.later h.is hb⟩
theorem Boxed.beside {W : World} {B b : Nat} {t : TypeId} {v : Value} (h : Boxed W B t v) (hn : B ≠ b) (y : Value) : Boxed (W.setCell ⟨b, 0, none⟩ y) B t v := h.kept (grownBy_setCell' W b y) (by simpa using hn)
theorem six_beside {w : World} {b c : Nat} {f : Nat → Int} (h : Six w b f) (hc : b ≠ c) (v : Value) : Six (w.setCell ⟨c, 0, none⟩ v) b f := fun i hi =>
  ⟨(World.cell?_of_block ((grownBy_setCell' w c v).block b (World.block_lt_of_cell? _ _ (h 0 (by omega)).1) (by simpa using hc))).trans (h i hi).1, (World.frozen?_of_block ((grownBy_setCell' w c v).block b (World.block_lt_of_cell? _ _ (h 0 (by omega)).1) (by simpa using hc))).trans (h i hi).2⟩
/-- What is answered is there behind the call. -/
theorem OfAt.put {W : World} {n : Nat} {s : Sp} {u p p' : Int} {b b' : Bool} (h : OfAt W n s u p b) : OfAt ((W.setCell ⟨n + 1 + 1, 0, none⟩ (.int .i64 p')).setCell ⟨n + 1 + 1 + 1, 0, none⟩ (.bool b')) n s u p' b' :=
  ⟨six_beside (six_beside h.sp (by omega) _) (by omega) _, Boxed.beside (Boxed.beside h.un (by omega) _) (by omega) _, Boxed.beside (h.pe.set _) (by omega) _, (Boxed.beside h.is (by omega) _).set _⟩
theorem two_below {w W : World} {n : Nat} {u v : Value} (h : Below w.heap.size w W) (hn : w.heap.size ≤ n) : Below w.heap.size w ((W.setCell ⟨n + 1 + 1, 0, none⟩ u).setCell ⟨n + 1 + 1 + 1, 0, none⟩ v) :=
  (h.setCell (p := ⟨n + 1 + 1, 0, none⟩) (by simp; omega) _).setCell (p := ⟨n + 1 + 1 + 1, 0, none⟩) (by simp; omega) _

set_option maxHeartbeats 1000000 in
set_option maxRecDepth 100000 in
theorem of_out1 (c t x m k e u : Int) (w : World) (h1 : maySp ⟨c, t, x, m, k, e⟩ = false) :
    Calls Tryz.prog 27 #[.agg #[.int .i64 c, .int .i64 t, .int .i64 x, .int .i64 m, .int .i64 k, .int .i64 e], .int .i64 u] w fun r w' => r = .returned (.tuple #[.int .i64 0, .bool false]) ∧ Below w.heap.size w w' := by
  have H1 : Hid (maySp ⟨c, t, x, m, k, e⟩ = false) := h1
  clear h1
  refine (callsIn_wide (n := 4)).1 ?_
  refine callsIn_of_wp_marks Tryz.func27 rfl trivial ?_ rfl
  simp only [Tryz.ntmps27, List.size_toArray, List.length_cons, List.length_nil, Nat.reduceAdd, Nat.reduceSub, Array.replicate_succ, Array.replicate_zero, List.push_toArray, List.append_toArray, List.nil_append, List.cons_append]
  have hO := OfAt.new w c t x m k e u
  have hb0 : Below w.heap.size w ((((w.alloc (.cells #[.int .i64 c, .int .i64 t, .int .i64 x, .int .i64 m, .int .i64 k, .int .i64 e] 38)).alloc (.cells #[.int .i64 u] 3)).alloc (.cells #[.int .i64 0] 3)).alloc (.cells #[.bool false] 4)) := ((((Below.refl _ w).alloc (Nat.le_refl _) _).alloc (by simp) _).alloc (by simp; omega) _).alloc (by simp; omega) _
  gi_wp2_with fail
  refine ⟨trivial, (callsIn_wide.2 (spmay_any c t x m k e _)).mono ?_⟩
  rintro r w1 ⟨rfl, hb1⟩
  have hO1 := hO.later hb1
  replace hb1 := hb0.trans (hb1.mono hb0.size)
  clear hO hb0
  obtain ⟨hS, hU, hP, hB⟩ := hO1
  obtain ⟨a0, a1, a2, a3, a4, a5, b0, b1, b2, b3, b4, b5⟩ := hS.sp
  have cU := hU.cell
  have cP := hP.cell
  have dP := hP.frozen
  have cB := hB.cell
  have dB := hB.frozen
  rw [H1.out]
  gi_wp2_with fail
  refine ⟨trivial, ?_⟩
  gi_wp2_with fail
  have hR := OfAt.put (p' := 0) (b' := false) ⟨hS, hU, hP, hB⟩
  have z1 := hR.pe.cell
  have z2 := hR.is.cell
  refine ⟨.tuple #[.int .i64 0, .bool false], ?_, rfl, two_below hb1 (Nat.le_refl _)⟩
  simp [results, Tryz.results27, go_sem, z1, z2]

set_option maxHeartbeats 1000000 in
set_option maxRecDepth 100000 in
theorem of_out2 (c t x m k e u : Int) (w : World) (h1 : maySp ⟨c, t, x, m, k, e⟩ = true) (h2 : wiB u 1 1048576 = false) :
    Calls Tryz.prog 27 #[.agg #[.int .i64 c, .int .i64 t, .int .i64 x, .int .i64 m, .int .i64 k, .int .i64 e], .int .i64 u] w fun r w' => r = .returned (.tuple #[.int .i64 0, .bool false]) ∧ Below w.heap.size w w' := by
  have H1 : Hid (maySp ⟨c, t, x, m, k, e⟩ = true) := h1
  have H2 : Hid (wiB u 1 1048576 = false) := h2
  clear h1 h2
  refine (callsIn_wide (n := 4)).1 ?_
  refine callsIn_of_wp_marks Tryz.func27 rfl trivial ?_ rfl
  simp only [Tryz.ntmps27, List.size_toArray, List.length_cons, List.length_nil, Nat.reduceAdd, Nat.reduceSub, Array.replicate_succ, Array.replicate_zero, List.push_toArray, List.append_toArray, List.nil_append, List.cons_append]
  have hO := OfAt.new w c t x m k e u
  have hb0 : Below w.heap.size w ((((w.alloc (.cells #[.int .i64 c, .int .i64 t, .int .i64 x, .int .i64 m, .int .i64 k, .int .i64 e] 38)).alloc (.cells #[.int .i64 u] 3)).alloc (.cells #[.int .i64 0] 3)).alloc (.cells #[.bool false] 4)) := ((((Below.refl _ w).alloc (Nat.le_refl _) _).alloc (by simp) _).alloc (by simp; omega) _).alloc (by simp; omega) _
  gi_wp2_with fail
  refine ⟨trivial, (callsIn_wide.2 (spmay_any c t x m k e _)).mono ?_⟩
  rintro r w1 ⟨rfl, hb1⟩
  have hO1 := hO.later hb1
  replace hb1 := hb0.trans (hb1.mono hb0.size)
  clear hO hb0
  obtain ⟨hS, hU, hP, hB⟩ := hO1
  obtain ⟨a0, a1, a2, a3, a4, a5, b0, b1, b2, b3, b4, b5⟩ := hS.sp
  have cU := hU.cell
  have cP := hP.cell
  have dP := hP.frozen
  have cB := hB.cell
  have dB := hB.frozen
  rw [H1.out]
  gi_wp2_with fail
  refine ⟨trivial, (callsIn_wide.2 (pwithin_any u 1 1048576 _)).mono ?_⟩
  rintro r w2 ⟨rfl, hw⟩
  obtain rfl := hw.symm
  rw [H2.out]
  gi_wp2_with fail
  have hR := OfAt.put (p' := 0) (b' := false) ⟨hS, hU, hP, hB⟩
  have z1 := hR.pe.cell
  have z2 := hR.is.cell
  refine ⟨.tuple #[.int .i64 0, .bool false], ?_, rfl, two_below hb1 (Nat.le_refl _)⟩
  simp [results, Tryz.results27, go_sem, z1, z2]
end Go.Proofs.YtmiakknagjncpaaGreatDoor
