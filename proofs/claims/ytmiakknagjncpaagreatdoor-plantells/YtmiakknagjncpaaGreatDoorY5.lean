/- Texts that belong together, one behind the other: X6, X7, X8, X9, X10, X12, X13, X15, X16, X17. -/
import Derived.Test.YtmiakknagjncpaaGreatDoorY4
import Derived.BigQuiet
import Derived.Test.YtmiakknagjncpaaGreatDoorY2
import Derived.Laws.AppendOwnNone
import Derived.Maps.AppendAt
/- Walks of package spring: two numbers in the least ones, and the least force. -/
namespace Go.Proofs.YtmiakknagjncpaaGreatDoor
open Go.RowKit Go.Maps

theorem gcd_step {x y : Int} (hx : 0 ≤ x) (hy : 0 < y) : Int.gcd y (x % y) = Int.gcd x y := by
  obtain ⟨X, rfl⟩ := Int.eq_ofNat_of_zero_le hx
  obtain ⟨Y, rfl⟩ := Int.eq_ofNat_of_zero_le (show 0 ≤ y by omega)
  rw [← Int.natCast_emod, Int.gcd_natCast_natCast, Int.gcd_natCast_natCast, Nat.gcd_comm X Y, Nat.gcd_rec Y X, Nat.gcd_comm]

set_option maxHeartbeats 1000000 in
set_option maxRecDepth 100000 in
theorem lowest_any (A B g a b : Int) (w : World) (hA : 0 ≤ A) (hA1 : A ≤ 4194304) (hB : 1 ≤ B) (hB1 : B ≤ 32) (hg : g = Int.gcd A B) (ha : A = g * a) (hb : B = g * b) :
    Calls Tryz.prog 63 #[.int .i64 A, .int .i64 B] w fun r w' => r = .returned (.agg #[.int .i64 a, .int .i64 b]) ∧ Below w.heap.size w w' := by
  have g1 : 1 ≤ g := by
    rw [hg]
    have := Int.gcd_pos_of_ne_zero_right A (show B ≠ 0 by omega)
    omega
  have HA : Hid (A / g = a) := by show _ = _; rw [ha]; exact Int.mul_ediv_cancel_left _ (by omega)
  have HB : Hid (B / g = b) := by show _ = _; rw [hb]; exact Int.mul_ediv_cancel_left _ (by omega)
  have HG : Hid (g = Int.gcd A B) := hg
  have b1 : 0 ≤ A / g := Int.ediv_nonneg hA (by omega)
  have b2 : A / g ≤ A := Int.ediv_le_self _ hA
  have b3 : 0 ≤ B / g := Int.ediv_nonneg (by omega) (by omega)
  have b4 : B / g ≤ B := Int.ediv_le_self _ (by omega)
  clear ha hb hg
  have hbx : Below w.heap.size w (w.alloc (.cells #[.int .i64 0, .int .i64 0] 69)) := (Below.refl _ _).alloc (Nat.le_refl _) _
  go_enter Tryz.func63, Tryz.ntmps63
  go_wp2_with fail
  go_loopw [5, 6] (fun c r wr => ∃ x y : Int, c = .int .i64 x ∧ r = .int .i64 y ∧ 0 ≤ x ∧ x ≤ 4194304 ∧ 0 ≤ y ∧ y ≤ 4194304 ∧ Hid ((Int.gcd x y : Int) = g) ∧ Duo wr w.heap.size 0 0 ∧ wr.frozen? ⟨w.heap.size, 0, none⟩ = false ∧ wr.frozen? ⟨w.heap.size, 1, none⟩ = false ∧ Below w.heap.size w wr) (fun _ r _ => (intOf r).toNat)
  case atStart => exact ⟨A, B, rfl, rfl, hA, hA1, by omega, by omega, HG.out.symm, Duo.new _ _ _ _, by simp, by simp, hbx⟩
  case round =>
    obtain ⟨x, y, rfl, rfl, x0, x1, y0, y1, HV, ⟨c0, c1⟩, f0, f1, hbw⟩ := hrel
    have sw := World.block_lt_of_cell? _ _ c0
    by_cases hy : y > 0
    · have HV2 : Hid ((Int.gcd y (x % y) : Int) = g) := by show _ = _; rw [gcd_step x0 hy]; exact HV.out
      have r0 : 0 ≤ x % y := Int.emod_nonneg _ (by omega)
      have r1 : x % y < y := Int.emod_lt_of_pos _ hy
      go_wp2_with fail
      go_quiet (fail)
      go_wp2_with fail
      go_roundw
      case rel => exact ⟨y, x % y, rfl, rfl, y0, y1, r0, by omega, HV2.out, ⟨c0, c1⟩, f0, f1, ⟨hbw.os, hbw.tape, hbw.output, hbw.size, hbw.block⟩⟩
      case measure => simp [intOf]; omega
    · have hy0 : y = 0 := by omega
      subst hy0
      have hxg : x = g := by
        have := HV.out
        rw [Int.gcd_zero_right] at this
        omega
      subst hxg
      obtain ⟨qa, hqa⟩ : ∃ q, A / x = q := ⟨_, rfl⟩
      obtain ⟨qb, hqb⟩ : ∃ q, B / x = q := ⟨_, rfl⟩
      go_wp2_with fail
      go_region
      all_goals go_wp2
      all_goals
        refine bodyPost_ret (v := .agg #[.int .i64 qa, .int .i64 qb]) ?_ rfl ⟨by rw [← hqa, ← hqb, HA.out, HB.out], (hbw.drew.setCell (p := ⟨w.heap.size, 0, none⟩) (Nat.le_refl _) _).setCell (p := ⟨w.heap.size, 1, none⟩) (Nat.le_refl _) _⟩
        simp [results, Tryz.results63, go_sem, c0, c1]

/-- There is a last round. -/
theorem fin_of {n : Nat} {U L E : Nat → Int} {load : Int} (hs : Sp7 n U L E) : ∀ (k : Nat) (S : Nat → Bool) (ov a0 b0 : Int), ov.toNat ≤ k → Rnd n U L E load S ov a0 b0 → ∃ S A B, Fin7 n U L E load S A B := by
  intro k
  induction k with
  | zero => intro S ov a0 b0 hk h; have := h.pos; omega
  | succ k ih =>
    intro S ov a0 b0 hk h
    by_cases c0 : sm n (sel (struck U L E S ov (sm n (sel S E))) (slk U L)) = 0
    · exact ⟨S, _, _, h.fin hs rfl (.inl c0)⟩
    by_cases c1 : sm n (sel (struck U L E S ov (sm n (sel S E))) (slk U L)) = ov
    · exact ⟨S, _, _, h.fin hs rfl (.inr c1)⟩
    obtain ⟨h1, _, h2⟩ := h.next hs rfl rfl c0 c1
    exact ih _ _ _ _ (by have := h1.pos; omega) h1
theorem cop_gcd {A B g a b : Int} (hB : 1 ≤ B) (hg : g = Int.gcd A B) (ha : A = g * a) (hb : B = g * b) : 1 ≤ g ∧ ∀ k : Int, 2 ≤ k → k ∣ a → k ∣ b → False := by
  have g1 : 1 ≤ g := by
    rw [hg]
    have := Int.gcd_pos_of_ne_zero_right A (show B ≠ 0 by omega)
    omega
  refine ⟨g1, fun k hk h1 h2 => ?_⟩
  have d1 : g * k ∣ A := by rw [ha]; exact Int.mul_dvd_mul_left g h1
  have d2 : g * k ∣ B := by rw [hb]; exact Int.mul_dvd_mul_left g h2
  have d3 : g * k ∣ g := by have := Int.dvd_coe_gcd d1 d2; rwa [← hg] at this
  have := Int.le_of_dvd (by omega) d3
  have : g * 2 ≤ g * k := Int.mul_le_mul_of_nonneg_left hk (by omega)
  omega
theorem gcd_parts (A B : Int) : ∃ g a b : Int, g = Int.gcd A B ∧ A = g * a ∧ B = g * b := by
  obtain ⟨a, ha⟩ := Int.gcd_dvd_left A B
  obtain ⟨b, hb⟩ := Int.gcd_dvd_right A B
  exact ⟨_, a, b, rfl, ha, hb⟩
/-- Where there is room there is a least force; where not all fit some of them give just what the others leave. -/
theorem isF_exists {n : Nat} {U L E : Nat → Int} {load : Int} (hs : Sp7 n U L E) (hroom : sm n L ≤ load) : ∃ a b, IsF n U L E load a b ∧ (load < sm n U → ∃ S A B g, Fin7 n U L E load S A B ∧ 1 ≤ g ∧ A = g * a ∧ B = g * b) := by
  by_cases c : sm n U ≤ load
  · exact ⟨0, 1, isF_none hs c, fun h => by omega⟩
  · obtain ⟨S, A, B, hF⟩ := fin_of hs _ _ _ _ _ (Nat.le_refl _) (Rnd.start hs hroom (by omega))
    obtain ⟨g, a, b, hg, ha, hb⟩ := gcd_parts A B
    obtain ⟨g1, hc⟩ := cop_gcd hF.B1 hg ha hb
    exact ⟨a, b, hF.isF g1 ha hb hc, fun _ => ⟨S, A, B, g, hF, g1, ha, hb⟩⟩

/-- Two numbers that lie in a block, and may be written. -/
def Dup (w : World) (b : Nat) (x y : Int) : Prop := Duo w b x y ∧ w.frozen? ⟨b, 0, none⟩ = false ∧ w.frozen? ⟨b, 1, none⟩ = false
theorem Dup.kept {w w' : World} {c : Nat} {x y : Int} {row : Option Nat} (h : Dup w c x y) (hg : w.grownBy w' row) (hne : some c ≠ row) : Dup w' c x y := by
  have hb := hg.block c h.1.lt hne
  exact ⟨h.1.kept hg hne, (World.frozen?_of_block (w := w) (a := ⟨c, 0, none⟩) hb).trans h.2.1, (World.frozen?_of_block (w := w) (a := ⟨c, 1, none⟩) hb).trans h.2.2⟩
theorem Dup.later {w w' : World} {c : Nat} {x y : Int} (h : Dup w c x y) (hb : Below w.heap.size w w') : Dup w' c x y := h.kept (grown_of hb) (by simp)
theorem Dup.new (w : World) (x y : Int) (t : TypeId) : Dup (w.alloc (.cells #[.int .i64 x, .int .i64 y] t)) w.heap.size x y := ⟨Duo.new _ _ _ _, by simp, by simp⟩

theorem atl_struck {u m e : Nat → Int} {A B g a b : Int} (g1 : 1 ≤ g) (ha : A = g * a) (hb : B = g * b) (i : Nat) : atlB (u i) (m i) (e i) a b = decide (slk u (lo7 u m e) i * B ≤ A * e i) := by
  unfold atlB
  show decide (slk u (lo7 u m e) i * b ≤ e i * a) = _
  generalize slk u (lo7 u m e) i = x
  rw [ha, hb]
  have e1 : x * (g * b) = g * (x * b) := by rw [← Int.mul_assoc, Int.mul_comm x g, Int.mul_assoc]
  have e2 : g * a * e i = g * (e i * a) := by rw [Int.mul_assoc, Int.mul_comm a]
  rw [e1, e2]
  by_cases c : x * b ≤ e i * a
  · rw [decide_eq_true c, decide_eq_true (Int.mul_le_mul_of_nonneg_left c (by omega))]
  · rw [decide_eq_false c, decide_eq_false (fun h => c (Int.le_of_mul_le_mul_left h (by omega)))]

set_option maxHeartbeats 2000000 in
set_option maxRecDepth 100000 in
theorem leastForce_any (n : Nat) (u m e : Nat → Int) (load a b : Int) (v : Value) (w : World) (h : Sprs w v n u m e) (hS : fitS n u m e) (hroom : sm n (lo7 u m e) ≤ load) (l0 : 0 ≤ load) (l1 : load ≤ 1099511627776) (hF : IsF n u (lo7 u m e) e load a b) (hL : Lim w) :
    Calls Tryz.prog 45 #[v, .int .i64 load] w fun r w' => r = .returned (.agg #[.int .i64 a, .int .i64 b]) ∧ Below w.heap.size w w' := by
  have hsp := hS.sp
  have t0 : 0 ≤ sm n u := sm_nonneg (fun i hi => by have := hS.2 i hi; omega)
  have t1 : sm n u ≤ 4194304 := by
    have := sm_le (n := n) (f := u) (g := fun _ => 1048576) hsp.unit
    rw [sm_const] at this
    have := hS.1
    omega
  have hB0 : Below w.heap.size w (w.alloc (.cells #[.int .i64 0, .int .i64 0] 69)) := (Below.refl _ _).alloc (Nat.le_refl _) _
  have hR0 := Dup.new w 0 0 69
  have HF : Hid (IsF n u (lo7 u m e) e load a b) := hF
  have HM : Hid (sm n (lo7 u m e) ≤ load) := hroom
  clear hF hroom
  go_enter Tryz.func45, Tryz.ntmps45
  go_wp2_with fail
  refine (total_top n u m e v _ (h.later hB0) hS (hL.later hB0)).mono ?_
  rintro r w1 ⟨rfl, hb1⟩
  have hB1 : Below w.heap.size w w1 := hB0.trans (hb1.mono hB0.size)
  have hR1 := hR0.later hb1
  clear hR0 hb1 hB0 hL
  by_cases ho : sm n u - load ≤ 0
  · have HA : Hid (a = 0 ∧ b = 1) := by
      have := (isF_none hsp (show sm n u ≤ load by omega)).one HF.out
      exact ⟨this.1.symm, this.2.symm⟩
    obtain ⟨⟨c0, c1⟩, f0, f1⟩ := hR1
    have sw := World.block_lt_of_cell? _ _ c0
    generalize sm n u = q at *
    go_wp2_with fail
    refine bodyPost_ret (v := .agg #[.int .i64 0, .int .i64 1]) ?_ rfl ⟨by rw [HA.out.1, HA.out.2], (hB1.setCell (p := ⟨w.heap.size, 0, none⟩) (Nat.le_refl _) _).setCell (p := ⟨w.heap.size, 1, none⟩) (Nat.le_refl _) _⟩
    simp [results, Tryz.results45, go_sem, c0, c1]
  · have HR : Hid (Rnd n u (lo7 u m e) e load (fun i => decide (0 < slk u (lo7 u m e) i)) (sm n u - load) 0 1) := Rnd.start hsp HM.out (by omega)
    have sw1 := World.block_lt_of_cell? _ _ hR1.1.1
    generalize hq : sm n u = q at *
    clear hq
    go_wp2_with fail
    refine (yielding_any n u m e v _ (h.later hB1) hS).mono ?_
    rintro r w2 ⟨rfl, hM2, hb2⟩
    have hB2 : Below w.heap.size w w2 := hB1.trans (hb2.mono hB1.size)
    have hR2 := hR1.later hb2
    obtain ⟨bm, hbm⟩ : ∃ bm, w1.heap.size = bm := ⟨_, rfl⟩
    rw [hbm] at hM2 sw1 ⊢
    clear hR1 hb2 hB1 hbm
    go_wp2_with fail
    go_loopw [5] (fun s wr => ∃ (S : Nat → Bool) (ov a0 b0 : Int), s = .int .i64 ov ∧ 0 < ov ∧ ov ≤ 4194304 ∧ Hid (Rnd n u (lo7 u m e) e load S ov a0 b0) ∧ MapS wr bm n u m e S ∧ Dup wr w.heap.size 0 0 ∧ Below w.heap.size w wr) (fun s _ => (intOf s).toNat)
    case atStart => exact ⟨_, q - load, 0, 1, by go_num, by omega, by omega, HR.out, hM2, hR2, hB2⟩
    case round =>
      clear HR hM2 hR2 hB2
      obtain ⟨S, ov, a0, b0, rfl, o0, o1, HR, hM, hR, hB⟩ := hrel
      obtain ⟨p1, p32⟩ := HR.out.pull hsp
      have HE : Hid (∀ i, i < n → S i = true → 1 ≤ e i) := fun i hi hs => by
        have h1 := HR.out.give i hi hs
        have h2 := hsp.e0 i hi
        have h3 := hsp.stiff i hi
        unfold slk at h1
        by_cases c : e i = 0
        · have := h3 c; omega
        · omega
      go_wp2_with fail
      refine (pull_any n bm u m e S _ hM hS).mono ?_
      rintro r w3 ⟨rfl, hb3⟩
      have hM3 := hM.later hb3
      have hR3 := hR.later hb3
      have hB3 : Below w.heap.size w w3 := hB.trans (hb3.mono hB.size)
      clear hM hR hB hb3
      obtain ⟨p, hp⟩ : ∃ p, sm n (sel S e) = p := ⟨_, rfl⟩
      have HP : Hid (p = sm n (sel S e)) := hp.symm
      rw [hp] at p1 p32 ⊢
      clear hp
      obtain ⟨g, x, y, hg, hx, hy⟩ := gcd_parts ov p
      obtain ⟨g1, hc⟩ := cop_gcd p1 hg hx hy
      have HG : Hid (1 ≤ g ∧ ov = g * x ∧ p = g * y ∧ (∀ k : Int, 2 ≤ k → k ∣ x → k ∣ y → False)) := ⟨g1, hx, hy, hc⟩
      have HL : Hid (g = Int.gcd ov p) := hg
      have x0 : 0 ≤ x := by
        have : 0 < g * x := by rw [← hx]; exact o0
        have := Int.pos_of_mul_pos_right this (by omega)
        omega
      have x1 : x ≤ 4194304 := by
        have : 1 * x ≤ g * x := Int.mul_le_mul_of_nonneg_right g1 x0
        omega
      have y0 : 1 ≤ y := by
        have : 0 < g * y := by rw [← hy]; omega
        have := Int.pos_of_mul_pos_right this (by omega)
        omega
      have y1 : y ≤ 32 := by
        have : 1 * y ≤ g * y := Int.mul_le_mul_of_nonneg_right g1 (by omega)
        omega
      clear hg hx hy hc g1
      go_wp2_with fail
      refine (lowest_any ov p g x y _ (by omega) o1 p1 p32 HL.out HG.out.2.1 HG.out.2.2.1).mono ?_
      rintro r w4 ⟨rfl, hb4⟩
      have hM4 := hM3.later hb4
      have hR4 := hR3.later hb4
      have hB4 : Below w.heap.size w w4 := hB3.trans (hb4.mono hB3.size)
      clear hM3 hR3 hB3 hb4
      go_wp2_with fail
      have hbx : Below w4.heap.size w4 (w4.alloc (.cells #[.int .i64 x, .int .i64 y] 69)) := (Below.refl _ _).alloc (Nat.le_refl _) _
      have hfb := Duo.new w4 x y 69
      have hM5 := hM4.later hbx
      have hR5 := hR4.later hbx
      have hB5 : Below w.heap.size w (w4.alloc (.cells #[.int .i64 x, .int .i64 y] 69)) := hB4.trans (hbx.mono hB4.size)
      have hne : bm < w4.heap.size := hM4.lt
      clear hM4 hR4 hB4 hbx
      refine (settle_any n bm u m e S x y _ hM5 hS HE.out x0 x1 y0 y1).mono ?_
      rintro r w6 ⟨rfl, hM6, hg6⟩
      have hR6 := hR5.kept hg6 (by simp; omega)
      have hB6 : Below w.heap.size w w6 := hB5.grown hg6 hB5.size (fun k hk => by cases hk; omega)
      have hf6 := hfb.kept hg6 (by simp; omega)
      have hT : (fun i => S i && atlB (u i) (m i) (e i) x y) = struck u (lo7 u m e) e S ov p := funext fun i => by
        unfold struck
        rw [atl_struck HG.out.1 HG.out.2.1 HG.out.2.2.1]
      have hT2 : (fun i => S i && !atlB (u i) (m i) (e i) x y) = left7 u (lo7 u m e) e S ov p := funext fun i => by
        unfold left7
        rw [atl_struck HG.out.1 HG.out.2.1 HG.out.2.2.1]
      rw [hT]
      rw [hT2] at hM6
      obtain ⟨gv, hgv⟩ : ∃ gv, sm n (sel (struck u (lo7 u m e) e S ov p) (slk u (lo7 u m e))) = gv := ⟨_, rfl⟩
      have HV : Hid (sm n (sel (struck u (lo7 u m e) e S ov p) (slk u (lo7 u m e))) = gv) := hgv
      rw [hgv]
      clear hgv hT hT2 hg6 hR5 hB5 hfb hM5
      obtain ⟨d0, d1⟩ := hf6
      have sf := World.block_lt_of_cell? _ _ d0
      by_cases hend : gv = 0 ∨ gv = ov
      · have HA : Hid (x = a ∧ y = b) := by
          refine (((HR.out.fin hsp HP.out (by rw [HV.out]; exact hend)).isF HG.out.1 HG.out.2.1 HG.out.2.2.1 HG.out.2.2.2).one HF.out)
        obtain ⟨⟨c0, c1⟩, f0, f1⟩ := hR6
        have sw := World.block_lt_of_cell? _ _ c0
        rcases hend with rfl | rfl
        · go_wp2_with fail
          refine bodyPost_ret (v := .agg #[.int .i64 x, .int .i64 y]) ?_ rfl ⟨by rw [HA.out.1, HA.out.2], (hB6.setCell (p := ⟨w.heap.size, 0, none⟩) (Nat.le_refl _) _).setCell (p := ⟨w.heap.size, 1, none⟩) (Nat.le_refl _) _⟩
          simp [results, Tryz.results45, go_sem, c0, c1]
        · by_cases hz : gv = 0
          · omega
          · go_wp2_with fail
            refine bodyPost_ret (v := .agg #[.int .i64 x, .int .i64 y]) ?_ rfl ⟨by rw [HA.out.1, HA.out.2], (hB6.setCell (p := ⟨w.heap.size, 0, none⟩) (Nat.le_refl _) _).setCell (p := ⟨w.heap.size, 1, none⟩) (Nat.le_refl _) _⟩
            simp [results, Tryz.results45, go_sem, c0, c1]
      · have hz0 : ¬ gv = 0 := fun h => hend (.inl h)
        have hz1 : ¬ gv = ov := fun h => hend (.inr h)
        obtain ⟨hN, _, hpos⟩ := HR.out.next hsp HP.out HV.out.symm hz0 hz1
        have n0 := hN.pos
        have HN : Hid (Rnd n u (lo7 u m e) e load (left7 u (lo7 u m e) e S ov p) (ov - gv) ov p) := hN
        have q0 : (gv == 0) = false := by simpa using hz0
        have q1 : (gv == ov) = false := by simpa using hz1
        clear hN hend
        go_wp2_with fail
        go_roundw
        case rel => exact ⟨_, ov - gv, ov, p, by go_num, by omega, by omega, HN.out, hM6, hR6, hB6⟩
        case measure => simp [intOf]; omega
end Go.Proofs.YtmiakknagjncpaaGreatDoor
/- Walks of package spring: Force and Press; the document's example. -/
namespace Go.Proofs.YtmiakknagjncpaaGreatDoor
open Go.RowKit

theorem roomB_of {n : Nat} {u m e : Nat → Int} {load : Int} (h : roomB n u m e load = true) : fitS n u m e ∧ (0 ≤ load ∧ load ≤ 1099511627776) ∧ sm n (lo7 u m e) ≤ load := by
  unfold roomB at h
  rw [Bool.and_eq_true, Bool.and_eq_true] at h
  exact ⟨sprB_of h.1, of_decide_eq_true (show decide (0 ≤ load ∧ load ≤ 1099511627776) = true from h.2.1), of_decide_eq_true h.2.2⟩
theorem roomB_yes {n : Nat} {u m e : Nat → Int} {load : Int} (h : fitS n u m e) (h0 : 0 ≤ load) (h1 : load ≤ 1099511627776) (h2 : sm n (lo7 u m e) ≤ load) : roomB n u m e load = true := by
  unfold roomB
  rw [sprB_yes h, decide_eq_true h2]
  have : wiB load 0 1099511627776 = true := decide_eq_true ⟨h0, h1⟩
  rw [this]; rfl

/-- The force: 0 and 0, if there is no room. -/
def Frc (n : Nat) (u m e : Nat → Int) (load a b : Int) (rb : Bool) : Prop := roomB n u m e load = rb ∧ (rb = true → IsF n u (lo7 u m e) e load a b) ∧ (rb = false → a = 0 ∧ b = 0)
theorem frc_exists (n : Nat) (u m e : Nat → Int) (load : Int) : ∃ a b rb, Frc n u m e load a b rb := by
  cases h : roomB n u m e load
  · exact ⟨0, 0, false, h, (fun h => by cases h), fun _ => ⟨rfl, rfl⟩⟩
  · obtain ⟨h1, _, h2⟩ := roomB_of h
    obtain ⟨a, b, hF, _⟩ := isF_exists h1.sp h2
    exact ⟨a, b, true, h, fun _ => hF, fun h => by cases h⟩
theorem Frc.one {n : Nat} {u m e : Nat → Int} {load a b a' b' : Int} {rb rb' : Bool} (h : Frc n u m e load a b rb) (h' : Frc n u m e load a' b' rb') : a = a' ∧ b = b' ∧ rb = rb' := by
  obtain ⟨h1, h2, h3⟩ := h
  obtain ⟨h1', h2', h3'⟩ := h'
  obtain rfl := h1.symm.trans h1'
  cases rb
  · obtain ⟨rfl, rfl⟩ := h3 rfl; obtain ⟨rfl, rfl⟩ := h3' rfl; exact ⟨rfl, rfl, rfl⟩
  · obtain ⟨rfl, rfl⟩ := (h2 rfl).one (h2' rfl); exact ⟨rfl, rfl, rfl⟩

/-- What Press tells. -/
def prs7 (n : Nat) (u m e : Nat → Int) (a b : Int) (rb : Bool) : List Int := bif rb then lst7 n (fun i => hasV (u i) (m i) (e i) a b) else []
def PrsE (B : Nat) (xs : List Int) (rb : Bool) (w : World) (r : Ending) (w' : World) : Prop :=
  ∃ x, r = .returned (.tuple #[x, .bool rb]) ∧ w'.ownsRow B 3 1 x xs.length (ivs xs) ∧ Below B w w'

set_option maxHeartbeats 1000000 in
set_option maxRecDepth 100000 in
theorem press7_any (n : Nat) (u m e : Nat → Int) (load a b : Int) (rb : Bool) (v : Value) (w : World) (h : Sprs w v n u m e) (hF : Frc n u m e load a b rb) (hL : Lim w) :
    Calls Tryz.prog 24 #[v, .int .i64 load] w (PrsE w.heap.size (prs7 n u m e a b rb) rb w) := by
  obtain ⟨hr, hy, hn⟩ := hF
  have HR : Hid (roomB n u m e load = rb) := hr
  cases rb
  · clear hr hy hn
    go_enter Tryz.func24, Tryz.ntmps24
    go_wp2_with fail
    refine (room7_any n u m e load v _ h hL).mono ?_
    rintro r w1 ⟨rfl, hb1⟩
    rw [HR.out]
    go_wp2
    exact bodyPost_ret (v := .tuple #[.slice none 0 0, .bool false]) (by simp [results, Tryz.results24, go_sem]) rfl ⟨_, rfl, ⟨rfl, .inl ⟨rfl, rfl⟩⟩, hb1⟩
  · have HF : Hid (IsF n u (lo7 u m e) e load a b) := hy rfl
    obtain ⟨hS, ⟨l0, l1⟩, hm⟩ := roomB_of hr
    clear hr hy hn
    have HM : Hid (sm n (lo7 u m e) ≤ load) := hm
    clear hm
    go_enter Tryz.func24, Tryz.ntmps24
    go_wp2_with fail
    refine (room7_any n u m e load v _ h hL).mono ?_
    rintro r w1 ⟨rfl, hb1⟩
    rw [HR.out]
    go_wp2_with fail
    refine (leastForce_any n u m e load a b v _ (h.later hb1) hS HM.out l0 l1 HF.out (hL.later hb1)).mono ?_
    rintro r w2 ⟨rfl, hb2⟩
    have hb : Below w.heap.size w w2 := hb1.trans (hb2.mono hb1.size)
    have hs := hb.size
    clear hb1 hb2
    go_wp2_with fail
    refine (has_at a b _).mono ?_
    rintro r w3 ⟨rfl, rfl⟩
    have hb3 : Below w.heap.size w (w2.alloc (.cells #[.int .i64 a, .int .i64 b] 69)) := hb.alloc hs _
    have hs3 := hb3.size
    go_wp2_with fail
    refine (each_has n u m e v _ a b w2.heap.size HF.out.a0 HF.out.abig HF.out.b1 HF.out.b32 (Duo.new _ _ _ _) hS (h.later hb3) hS.1).mono ?_
    rintro r w4 ⟨x, rfl, hown, hb4⟩
    go_wp2
    refine bodyPost_ret (v := .tuple #[x, .bool true]) (by simp [results, Tryz.results24, go_sem]) rfl ⟨x, rfl, ?_, hb3.trans (hb4.mono hs3)⟩
    have ho := hown.1
    rcases hown.2 with hz | ⟨g, cap, cur, hv, hg, hh⟩
    · exact ⟨ho, .inl hz⟩
    · exact ⟨ho, .inr ⟨g, cap, cur, hv, Nat.le_trans hs3 hg, hh⟩⟩
end Go.Proofs.YtmiakknagjncpaaGreatDoor
/- Walks of chapter 7: what is the same, the document's own least; the document's example. -/
namespace Go.Proofs.YtmiakknagjncpaaGreatDoor
open Go.RowKit
theorem refLeast7_any (u m e : Int) (w : World) :
    Calls Tryz.prog 51 #[.agg #[.int .i64 u, .int .i64 m, .int .i64 e]] w fun r w' => r = .returned (.int .i64 (lea u m e)) ∧ Below w.heap.size w w' := by
  by_cases h : e = 0
  · have H : Hid (lea u m e = u) := by show _ = _; unfold lea; rw [if_pos h]
    go_enter Tryz.func51, Tryz.ntmps51
    go_wp2
    go_ret
    exact ⟨ret_i H.out.symm, (Below.refl _ _).alloc (Nat.le_refl _) _⟩
  · have H : Hid (lea u m e = m) := by show _ = _; unfold lea; rw [if_neg h]
    go_enter Tryz.func51, Tryz.ntmps51
    go_wp2
    go_ret
    exact ⟨ret_i H.out.symm, (Below.refl _ _).alloc (Nat.le_refl _) _⟩
end Go.Proofs.YtmiakknagjncpaaGreatDoor
/- What follows of the least force: plain arithmetic. -/
namespace Go.Proofs.YtmiakknagjncpaaGreatDoor

/-- What each has, rounded down. -/
def hv (u m e : Nat → Int) (a b : Int) (i : Nat) : Int := hasV (u i) (m i) (e i) a b

section
variable {n : Nat} {u m e : Nat → Int} {a b load : Int}

theorem hv_floor (b1 : 1 ≤ b) {i : Nat} : b * hv u m e a b i ≤ hav u (lo7 u m e) e a b i ∧ hav u (lo7 u m e) e a b i + 1 ≤ b * hv u m e a b i + b := by
  unfold hv hasV hav
  show b * max (u i - cl (a * e i) b) (lo7 u m e i) ≤ _ ∧ _ ≤ b * max (u i - cl (a * e i) b) (lo7 u m e i) + b
  have h1 := cl_ge (a := a * e i) b1
  have h2 := cl_lt (a := a * e i) b1
  generalize cl (a * e i) b = q at *
  generalize lo7 u m e i = l at *
  generalize u i = x at *
  generalize a * e i = y at *
  have e1 : b * (x - q) = b * x - q * b := by rw [Int.mul_sub, Int.mul_comm b q]
  have e2 : (q - 1) * b = q * b - b := by rw [Int.sub_mul]; omega
  rw [e2] at h2
  by_cases c : x - q ≤ l
  · rw [Int.max_eq_right c]
    have := Int.mul_le_mul_of_nonneg_left c (show 0 ≤ b by omega)
    omega
  · rw [Int.max_eq_left (show l ≤ x - q by omega)]
    have := Int.mul_le_mul_of_nonneg_left (show l ≤ x - q by omega) (show 0 ≤ b by omega)
    omega
theorem hv_lo {i : Nat} : lo7 u m e i ≤ hv u m e a b i := by
  unfold hv hasV
  show lo7 u m e i ≤ max _ (lo7 u m e i)
  omega
theorem hv_up (h : fitS n u m e) (a0 : 0 ≤ a) (b1 : 1 ≤ b) {i : Nat} (hi : i < n) : hv u m e a b i ≤ u i := by
  have h1 := cl_ge (a := a * e i) b1
  have h2 : 0 ≤ cl (a * e i) b := le_cl_of b1 (by rw [Int.zero_sub, Int.neg_one_mul]; have := Int.mul_nonneg a0 (h.sp.e0 i hi); omega)
  have := h.sp.top i hi
  unfold hv hasV
  show max _ (lo7 u m e i) ≤ u i
  omega
theorem hv_bd (h : fitS n u m e) (a0 : 0 ≤ a) (b1 : 1 ≤ b) {i : Nat} (hi : i < n) : 0 ≤ hv u m e a b i ∧ hv u m e a b i ≤ 1048576 := by
  have := hv_up h a0 b1 hi
  have := hv_lo (u := u) (m := m) (e := e) (a := a) (b := b) (i := i)
  have := h.sp.low i hi
  have := h.sp.unit i hi
  omega

theorem fits_sum (hF : IsF n u (lo7 u m e) e load a b) : sm n (hv u m e a b) ≤ load := by
  have h1 := sm_le (n := n) (f := fun i => b * hv u m e a b i) (g := hav u (lo7 u m e) e a b) (fun i _ => (hv_floor hF.b1).1)
  rw [sm_mul] at h1
  exact Int.le_of_mul_le_mul_left (Int.le_trans h1 hF.enough) (by have := hF.b1; omega)
theorem fits_full (h : fitS n u m e) (hF : IsF n u (lo7 u m e) e load a b) (hl : sm n u ≤ load) : sm n (hv u m e a b) = sm n u := by
  obtain ⟨rfl, rfl⟩ := (isF_none h.sp hl).one hF
  refine sm_congr (fun i hi => ?_)
  have h1 : cl (0 * e i) 1 = 0 := by rw [Int.zero_mul]; decide
  unfold hv hasV
  rw [h1]
  have := h.sp.top i hi
  unfold lo7 at this
  omega
theorem fits_rest (h : fitS n u m e) (l0 : 0 ≤ load) (hF : IsF n u (lo7 u m e) e load a b) (hl : load < sm n u) : load < sm n (hv u m e a b) + n := by
  have hn : 1 ≤ n := by
    rcases Nat.eq_zero_or_pos n with rfl | h
    · have : load < 0 := hl; omega
    · exact h
  have h1 := sm_le (n := n) (f := fun i => hav u (lo7 u m e) e a b i + 1) (g := fun i => b * hv u m e a b i + b) (fun i _ => (hv_floor hF.b1).2)
  rw [sm_add n (hav u (lo7 u m e) e a b) (fun _ => 1), sm_add n (fun i => b * hv u m e a b i) (fun _ => b), sm_mul, sm_const, sm_const] at h1
  have h2 : sm n (hav u (lo7 u m e) e a b) = b * load := hF.just hl
  rw [h2] at h1
  have h3 : b * load < b * (sm n (hv u m e a b) + n) := by rw [Int.mul_add, Int.mul_comm b (n : Int)]; omega
  exact Int.lt_of_mul_lt_mul_left h3 (by have := hF.b1; omega)

end
end Go.Proofs.YtmiakknagjncpaaGreatDoor
/- The law: what is pressed has no more than the load. -/
namespace Go.Proofs.YtmiakknagjncpaaGreatDoor
open Go.RowKit

/-- A list that is read, by its length and what each is. -/
theorem nums_open {w : World} {v : Value} {n : Nat} {g : Nat → Int} (h : Nums w v (lst7 n g)) : ∃ a cap, v = .slice a n cap ∧ n ≤ cap ∧ cap ≤ maxLen ∧ (0 < n → ∃ b o, a = some ⟨b, o, none⟩ ∧ ∀ i, i < n → w.cell? ⟨b, o + i, none⟩ = some (.int .i64 (g i))) := by
  obtain ⟨a, cap, rfl, h1, h2, h3⟩ := h
  rw [lst7_len] at h1 h3
  refine ⟨a, cap, by rw [lst7_len], h1, h2, fun hn => ?_⟩
  obtain ⟨b, o, rfl, h4⟩ := h3 (by intro e; have := congrArg List.length e; rw [lst7_len, List.length_nil] at this; omega)
  exact ⟨b, o, rfl, fun i hi => by rw [h4 i hi, lst7_at hi]⟩
end Go.Proofs.YtmiakknagjncpaaGreatDoor
/- The law: in another order springs are pressed alike. -/
namespace Go.Proofs.YtmiakknagjncpaaGreatDoor
open Go.RowKit

/-- The other way round. -/
def rev7 (n : Nat) (g : Nat → Int) (i : Nat) : Int := g (n - 1 - i)
theorem rev7_fit {n : Nat} {u m e : Nat → Int} (h : fitS n u m e) : fitS n (rev7 n u) (rev7 n m) (rev7 n e) := ⟨h.1, fun i hi => h.2 (n - 1 - i) (by omega)⟩
theorem rev7_fit' {n : Nat} {u m e : Nat → Int} (h : fitS n (rev7 n u) (rev7 n m) (rev7 n e)) : fitS n u m e := ⟨h.1, fun i hi => by
  have := h.2 (n - 1 - i) (by omega)
  unfold rev7 at this
  have e : n - 1 - (n - 1 - i) = i := by omega
  rw [e] at this
  exact this⟩
theorem rev7_room (n : Nat) (u m e : Nat → Int) (load : Int) : roomB n (rev7 n u) (rev7 n m) (rev7 n e) load = roomB n u m e load := by
  have e1 : sprB n (rev7 n u) (rev7 n m) (rev7 n e) = sprB n u m e := by
    cases h : sprB n u m e
    · cases h' : sprB n (rev7 n u) (rev7 n m) (rev7 n e)
      · rfl
      · rw [sprB_yes (rev7_fit' (sprB_of h'))] at h; cases h
    · rw [sprB_yes (rev7_fit (sprB_of h))]
  have e2 : sm n (lo7 (rev7 n u) (rev7 n m) (rev7 n e)) = sm n (lo7 u m e) := sm_back n (lo7 u m e)
  unfold roomB
  rw [e1, e2]
theorem rev7_isF {n : Nat} {u m e : Nat → Int} {load a b : Int} (h : IsF n u (lo7 u m e) e load a b) : IsF n (rev7 n u) (lo7 (rev7 n u) (rev7 n m) (rev7 n e)) (rev7 n e) load a b := by
  have e1 : ∀ c d, tot n (rev7 n u) (lo7 (rev7 n u) (rev7 n m) (rev7 n e)) (rev7 n e) c d = tot n u (lo7 u m e) e c d := fun c d => sm_back n (hav u (lo7 u m e) e c d)
  have e2 : sm n (rev7 n u) = sm n u := sm_back n u
  exact ⟨h.a0, h.b1, h.b32, h.abig, h.cop, by rw [e1]; exact h.enough, fun hl => by rw [e1]; exact h.just (by rw [← e2]; exact hl), fun c d hc hd ht => h.least c d hc hd (by rw [← e1]; exact ht)⟩
theorem rev7_frc {n : Nat} {u m e : Nat → Int} {load a b : Int} {rb : Bool} (h : Frc n u m e load a b rb) : Frc n (rev7 n u) (rev7 n m) (rev7 n e) load a b rb :=
  ⟨by rw [rev7_room]; exact h.1, fun hr => rev7_isF (h.2.1 hr), h.2.2⟩

/-- Springs, as cells. -/
def flat7 (n : Nat) (u m e : Nat → Int) : List Value := (List.range n).flatMap fun i => [.int .i64 (u i), .int .i64 (m i), .int .i64 (e i)]
theorem flat7_succ (n : Nat) (u m e : Nat → Int) : flat7 (n + 1) u m e = flat7 n u m e ++ [.int .i64 (u n), .int .i64 (m n), .int .i64 (e n)] := by
  unfold flat7; rw [List.range_succ, List.flatMap_append]; rfl
theorem flat7_len (n : Nat) (u m e : Nat → Int) : (flat7 n u m e).length = n * 3 := by
  induction n with
  | zero => rfl
  | succ n ih => rw [flat7_succ, List.length_append, ih]; simp; omega
theorem flat7_at (n : Nat) (u m e : Nat → Int) (i : Nat) (h : i < n) : (flat7 n u m e)[i * 3]? = some (.int .i64 (u i)) ∧ (flat7 n u m e)[i * 3 + 1]? = some (.int .i64 (m i)) ∧ (flat7 n u m e)[i * 3 + 2]? = some (.int .i64 (e i)) := by
  induction n with
  | zero => omega
  | succ n ih =>
    rw [flat7_succ]
    have hl := flat7_len n u m e
    rcases Nat.lt_succ_iff_lt_or_eq.1 h with h1 | rfl
    · have := ih h1
      rw [List.getElem?_append_left (by omega), List.getElem?_append_left (by omega), List.getElem?_append_left (by omega)]
      exact this
    · rw [List.getElem?_append_right (by omega), List.getElem?_append_right (by omega), List.getElem?_append_right (by omega), hl]
      have e0 : i * 3 - i * 3 = 0 := by omega
      have e1 : i * 3 + 1 - i * 3 = 1 := by omega
      have e2 : i * 3 + 2 - i * 3 = 2 := by omega
      rw [e0, e1, e2]
      exact ⟨rfl, rfl, rfl⟩
theorem Sprs.own {w : World} {base : Nat} {v : Value} {n : Nat} {u m e : Nat → Int} (h : w.ownsRow base 47 3 v n (flat7 n u m e)) : Sprs w v n u m e := by
  have hcs := fun g hg => h.cells (g := g) hg
  obtain ⟨_, ⟨rfl, hz⟩ | ⟨g, cap, cur, rfl, hb, hh, h1, h2, _⟩⟩ := h
  · subst hz
    exact ⟨none, 0, rfl, by simp, by simp, fun _ => rfl, fun h => by omega⟩
  · refine ⟨_, cap, rfl, h1, h2, fun h => by simp at h, fun _ => ⟨g, 0, rfl, fun i hi => ?_⟩⟩
    obtain ⟨f0, f1, f2⟩ := flat7_at n u m e i hi
    have k0 := hcs g rfl _ _ f0
    have k1 := hcs g rfl _ _ f1
    have k2 := hcs g rfl _ _ f2
    rw [Go.WideShapes.add_plain] at k0 k1 k2
    exact ⟨k0, by rw [Nat.add_assoc]; exact k1, by rw [Nat.add_assoc]; exact k2⟩

theorem Tryz.infoSpr : (Tryz.prog.info? 47).map (fun i => (i.zero, i.size, i.bytes)) = some (some (.agg #[.int .i64 0, .int .i64 0, .int .i64 0]), 3, 24) := by kernel_rfl
/-- One spring more, behind those of the call's own. -/
theorem append_spr {w : World} {ops : Array Oper} {rest : List Oper} {o : Oper} {act : Act} {Q : Exit → Act → World → Prop} (hgd : o.guard = none) (s x : Operand)
    (ho : o.op = .call { callee := .builtin .append, args := #[s, x], argTypes := #[25, 25] }) (base : Nat) (v : Value) (k bb : Nat) (p q r : Int) (u m e : Nat → Int)
    (hs : act.eval s = v) (hown : w.ownsRow base 47 3 v k (flat7 k u m e)) (hx : act.eval x = .slice (some ⟨bb, 0, none⟩) 1 1) (hc : Thr w bb p q r) (hp : u k = p ∧ m k = q ∧ e k = r) (hn : (k + 1) * 24 ≤ 140737488355328) (hbase : base ≤ w.heap.size)
    (h : ∀ v' w', w'.ownsRow base 47 3 v' (k + 1) (flat7 (k + 1) u m e) → Below base w w' → wpList Tryz.prog ops Q rest (act.put o.dst v') w') : wpList Tryz.prog ops Q (o :: rest) act w := by
  obtain ⟨i0, hi, hz0, hz1, hz2⟩ := info_parts Tryz.infoSpr
  have hlow := hown.lt
  obtain ⟨rfl, rfl, rfl⟩ := hp
  refine wpList_append_own w hgd s x 25 ho base 47 i0 _ 3 24 Tryz.underlying25 hi hz0 hz1 hz2 rfl (by decide) v k (flat7 k u m e) hs hown ⟨bb, 0, none⟩ 1 1 [.int .i64 (u k), .int .i64 (m k), .int .i64 (e k)] hx rfl (fun j y hy => ?_) (fun y hy => ?_) (by unfold maxLen; omega) hn hbase ?_
  · rw [Go.WideShapes.add_plain]
    match j, hy with
    | 0, hy => simp at hy; subst hy; simpa using hc.1
    | 1, hy => simp at hy; subst hy; simpa using hc.2.1
    | 2, hy => simp at hy; subst hy; simpa using hc.2.2
  · simp at hy
    rcases hy with rfl | rfl | rfl <;> rfl
  · intro v' w' g1 g2 _
    rw [← flat7_succ] at g1
    exact h v' w' g1 ((Below.refl _ _).grown g2 hbase fun k hk => (hlow k hk).1)
end Go.Proofs.YtmiakknagjncpaaGreatDoor
/- The law: in another order springs are pressed alike: the walk. -/
namespace Go.Proofs.YtmiakknagjncpaaGreatDoor
open Go.RowKit

theorem prs_open {w : World} {v : Value} {n : Nat} {u m e : Nat → Int} {a b : Int} {rb : Bool} (h : Nums w v (prs7 n u m e a b rb)) : ∃ ax cap L, v = .slice ax L cap ∧ L ≤ cap ∧ cap ≤ maxLen ∧ (rb = true → L = n) ∧ (rb = false → L = 0) ∧ (0 < L → ∃ bk o, ax = some ⟨bk, o, none⟩ ∧ ∀ i, i < n → w.cell? ⟨bk, o + i, none⟩ = some (.int .i64 (hv u m e a b i))) := by
  cases rb
  · obtain ⟨ax, cap, rfl, h1, h2, _⟩ := h
    exact ⟨ax, cap, 0, rfl, h1, h2, (fun h => by cases h), fun _ => rfl, fun h => by omega⟩
  · obtain ⟨ax, cap, rfl, h1, h2, h3⟩ := nums_open (g := hv u m e a b) h
    exact ⟨ax, cap, n, rfl, h1, h2, fun _ => rfl, (fun h => by cases h), h3⟩
end Go.Proofs.YtmiakknagjncpaaGreatDoor
/- The law: no others have lesser squares. -/
namespace Go.Proofs.YtmiakknagjncpaaGreatDoor
open Go.RowKit

theorem lst7_succ (n : Nat) (g : Nat → Int) : lst7 (n + 1) g = lst7 n g ++ [g n] := by unfold lst7; rw [List.range_succ, List.map_append]; rfl
/-- One number more, behind those of the call's own. -/
theorem append_int {w : World} {ops : Array Oper} {rest : List Oper} {o : Oper} {act : Act} {Q : Exit → Act → World → Prop} (hgd : o.guard = none) (s x : Operand)
    (ho : o.op = .call { callee := .builtin .append, args := #[s, x], argTypes := #[51, 51] }) (base : Nat) (v : Value) (k bb : Nat) (y : Int) (g : Nat → Int)
    (hs : act.eval s = v) (hown : w.ownsRow base 3 1 v k (ivs (lst7 k g))) (hx : act.eval x = .slice (some ⟨bb, 0, none⟩) 1 1) (hc : w.cell? ⟨bb, 0, none⟩ = some (.int .i64 y)) (hy : g k = y) (hk : k ≤ 1000) (hbase : base ≤ w.heap.size)
    (h : ∀ v' w', w'.ownsRow base 3 1 v' (k + 1) (ivs (lst7 (k + 1) g)) → w.grownBy w' v.ownBlock → (v'.ownBlock = v.ownBlock ∨ v'.ownBlock = some w.heap.size) → wpList Tryz.prog ops Q rest (act.put o.dst v') w') : wpList Tryz.prog ops Q (o :: rest) act w := by
  obtain ⟨i0, hi, hz0, hz1, hz2⟩ := info_parts Tryz.infoInt
  subst hy
  refine wpList_append_own_at w hgd s x 51 ho base 3 i0 _ 1 8 Tryz.underlying51 hi hz0 hz1 hz2 rfl (by decide) v k (ivs (lst7 k g)) hs hown ⟨bb, 0, none⟩ 1 1 [.int .i64 (g k)] hx rfl (fun j y hy => ?_) (fun y hy => ?_) (by unfold maxLen; omega) (by omega) hbase ?_
  · match j, hy with
    | 0, hy => simp at hy; subst hy; simpa [Addr.add] using hc
  · simp at hy; subst hy; rfl
  · intro v' w' g1 g2 _ g4
    have e : ivs (lst7 k g) ++ [.int .i64 (g k)] = ivs (lst7 (k + 1) g) := by rw [lst7_succ, ivs_app]; rfl
    rw [e] at g1
    exact h v' w' g1 g2 g4
end Go.Proofs.YtmiakknagjncpaaGreatDoor
/- The document's own answer for springs: walks of its May, Room and total. -/
namespace Go.Proofs.YtmiakknagjncpaaGreatDoor
open Go.RowKit

set_option maxHeartbeats 1000000 in
set_option maxRecDepth 100000 in
theorem refMay7_any (n : Nat) (u m e : Nat → Int) (v : Value) (w : World) (h : Sprs w v n u m e) (hn : n ≤ 10) :
    Calls Tryz.prog 102 #[v] w fun r w' => r = .returned (.bool (sprB n u m e)) ∧ Below w.heap.size w w' := by
  obtain ⟨ad, cap, rfl, h1, h2, h0, h3⟩ := h
  go_enter Tryz.func102, Tryz.ntmps102
  go_wp2_with fail
  go_loopw [3] (fun i wr => ∃ (j : Nat), j ≤ n ∧ i = .int .i64 j ∧ Hid (∀ i, i < j → 1 ≤ m i ∧ m i ≤ u i ∧ u i ≤ 1048576 ∧ 0 ≤ e i ∧ e i ≤ 8) ∧ Below w.heap.size w wr) (fun i _ => ((n : Int) - intOf i).toNat)
  case atStart => exact ⟨0, by omega, rfl, (fun i hi => by omega), Below.refl _ _⟩
  case round =>
    obtain ⟨j, hj, rfl, HG, hbw⟩ := hrel
    by_cases hlt : (j : Int) < n
    · obtain ⟨bk, o, rfl, h4⟩ := h3 (by omega)
      obtain ⟨k0, k1, k2⟩ := h4 j (by omega)
      clear h4 h3
      have e0 := cell_later hbw k0
      have e1 := cell_later hbw k1
      have e2 := cell_later hbw k2
      clear k0 k1 k2
      have sw := hbw.size
      obtain ⟨uj, hu⟩ : ∃ x, u j = x := ⟨_, rfl⟩
      obtain ⟨mj, hm⟩ : ∃ x, m j = x := ⟨_, rfl⟩
      obtain ⟨ej, he⟩ : ∃ x, e j = x := ⟨_, rfl⟩
      have HU : Hid (u j = uj ∧ m j = mj ∧ e j = ej) := ⟨hu, hm, he⟩
      rw [hu] at e0; rw [hm] at e1; rw [he] at e2
      clear hu hm he
      have hbox : Below w.heap.size w (wr.alloc (.cells #[.int .i64 uj, .int .i64 mj, .int .i64 ej] 47)) := hbw.alloc sw _
      have HJ : Hid (¬ (1 ≤ mj ∧ mj ≤ uj ∧ uj ≤ 1048576 ∧ 0 ≤ ej ∧ ej ≤ 8) → sprB n u m e = false) := by
        show _ → _
        intro hc
        refine sprB_no (fun h => hc ?_)
        have := h.2 j (by omega)
        rw [HU.out.1, HU.out.2.1, HU.out.2.2] at this
        exact this
      by_cases c1 : mj < 1
      · have H : Hid (sprB n u m e = false) := HJ.out (by omega)
        go_wp2
        go_ret
        exact ⟨ret_b H.out.symm, hbox⟩
      by_cases c2 : uj < mj
      · have H : Hid (sprB n u m e = false) := HJ.out (by omega)
        go_wp2
        go_ret
        exact ⟨ret_b H.out.symm, hbox⟩
      by_cases c3 : uj > 1048576
      · have H : Hid (sprB n u m e = false) := HJ.out (by omega)
        go_wp2
        go_ret
        exact ⟨ret_b H.out.symm, hbox⟩
      by_cases c4 : ej < 0
      · have H : Hid (sprB n u m e = false) := HJ.out (by omega)
        go_wp2
        go_ret
        exact ⟨ret_b H.out.symm, hbox⟩
      by_cases c5 : ej > 8
      · have H : Hid (sprB n u m e = false) := HJ.out (by omega)
        go_wp2
        go_ret
        exact ⟨ret_b H.out.symm, hbox⟩
      have HN : Hid (∀ i, i < j + 1 → 1 ≤ m i ∧ m i ≤ u i ∧ u i ≤ 1048576 ∧ 0 ≤ e i ∧ e i ≤ 8) := by
        intro i hi
        rcases Nat.lt_succ_iff_lt_or_eq.1 hi with hi | rfl
        · exact HG.out i hi
        · rw [HU.out.1, HU.out.2.1, HU.out.2.2]; omega
      go_wp2_with fail
      go_roundw
      case rel => exact ⟨j + 1, by omega, by go_num, HN.out, hbox⟩
      case measure => simp [intOf]; omega
    · have hjk : j = n := by omega
      subst hjk
      have H : Hid (sprB j u m e = decide ((j : Int) ≤ 4)) := by
        show _ = _
        by_cases c : (j : Int) ≤ 4
        · rw [decide_eq_true c]; exact sprB_yes ⟨by omega, HG.out⟩
        · rw [decide_eq_false c]; exact sprB_no (fun h => c (by have := h.1; omega))
      obtain ⟨q, hq⟩ : ∃ q, decide ((j : Int) ≤ 4) = q := ⟨_, rfl⟩
      have HQ : Hid (sprB j u m e = q) := H.out.trans hq
      by_cases c : (j : Int) ≤ 4
      · have hq1 : q = true := by rw [← hq]; exact decide_eq_true c
        clear hq H
        go_wp2
        go_ret
        exact ⟨by rw [HQ.out, hq1]; simp, hbw⟩
      · have hq1 : q = false := by rw [← hq]; exact decide_eq_false c
        clear hq H
        go_wp2
        go_ret
        exact ⟨by rw [HQ.out, hq1]; simp, hbw⟩

set_option maxHeartbeats 1000000 in
set_option maxRecDepth 100000 in
theorem refRoom7_any (n : Nat) (u m e : Nat → Int) (load : Int) (v : Value) (w : World) (h : Sprs w v n u m e) (hn : n ≤ 10) :
    Calls Tryz.prog 71 #[v, .int .i64 load] w fun r w' => r = .returned (.bool (roomB n u m e load)) ∧ Below w.heap.size w w' := by
  cases hm : sprB n u m e
  · have HM : Hid (sprB n u m e = false) := hm
    have H : Hid (roomB n u m e load = false) := by show _ = _; unfold roomB; rw [hm]; rfl
    clear hm
    go_enter Tryz.func71, Tryz.ntmps71
    go_wp2_with fail
    refine (refMay7_any n u m e v _ h hn).mono ?_
    rintro r w1 ⟨rfl, hb1⟩
    rw [HM.out]
    obtain ⟨ad, cap, rfl, h1, h2, h0, h3⟩ := h.later hb1
    clear h
    go_wp2_with fail
    go_loopw [6, 7] (fun s6 s7 wr => ∃ (j : Nat) (z : Int), j ≤ n ∧ s6 = .int .i64 z ∧ s7 = .int .i64 j ∧ Below w1.heap.size w1 wr) (fun _ s7 _ => ((n : Int) - intOf s7).toNat)
    case atStart => exact ⟨0, 0, by omega, rfl, rfl, Below.refl _ _⟩
    case round =>
      obtain ⟨j, z, hj, rfl, rfl, hbw⟩ := hrel
      by_cases hlt : (j : Int) < n
      · obtain ⟨bk, o, rfl, h4⟩ := h3 (by omega)
        obtain ⟨k0, k1, k2⟩ := h4 j (by omega)
        have e0 := cell_later hbw k0
        have e1 := cell_later hbw k1
        have e2 := cell_later hbw k2
        clear h4 h3 k0 k1 k2
        generalize u j = uj at *
        generalize m j = mj at *
        generalize e j = ej at *
        go_wp2_with fail
        refine (refLeast7_any _ _ _ _).mono ?_
        rintro r w2 ⟨rfl, hb2⟩
        have hb : Below w1.heap.size w1 w2 := hbw.trans (hb2.mono hbw.size)
        clear hb2 e0 e1 e2
        generalize lea uj mj ej = lj at *
        go_wp2_with fail
        go_roundw
        case rel => exact ⟨j + 1, _, by omega, rfl, by go_num, hb⟩
        case measure => simp [intOf]; omega
      · have hB : Below w.heap.size w wr := hb1.trans (hbw.mono hb1.size)
        go_wp2
        go_ret
        exact ⟨ret_b H.out.symm, hB⟩
  · have HM : Hid (sprB n u m e = true) := hm
    have HS : Hid (fitS n u m e) := sprB_of hm
    have H : Hid (roomB n u m e load = (decide (0 ≤ load ∧ load ≤ 1099511627776) && decide (sm n (lo7 u m e) ≤ load))) := by show _ = _; unfold roomB; rw [hm]; rfl
    clear hm
    go_enter Tryz.func71, Tryz.ntmps71
    go_wp2_with fail
    refine (refMay7_any n u m e v _ h hn).mono ?_
    rintro r w1 ⟨rfl, hb1⟩
    rw [HM.out]
    obtain ⟨ad, cap, rfl, h1, h2, h0, h3⟩ := h.later hb1
    clear h
    go_wp2_with fail
    go_loopw [6, 7] (fun s6 s7 wr => ∃ (j : Nat) (z : Int), j ≤ n ∧ s6 = .int .i64 z ∧ s7 = .int .i64 j ∧ 0 ≤ z ∧ z ≤ j * 1048576 ∧ Hid (z = sm j (lo7 u m e)) ∧ Below w1.heap.size w1 wr) (fun _ s7 _ => ((n : Int) - intOf s7).toNat)
    case atStart => exact ⟨0, 0, by omega, rfl, rfl, by omega, by omega, rfl, Below.refl _ _⟩
    case round =>
      obtain ⟨j, z, hj, rfl, rfl, z0, z1, HV, hbw⟩ := hrel
      by_cases hlt : (j : Int) < n
      · obtain ⟨bk, o, rfl, h4⟩ := h3 (by omega)
        obtain ⟨k0, k1, k2⟩ := h4 j (by omega)
        have e0 := cell_later hbw k0
        have e1 := cell_later hbw k1
        have e2 := cell_later hbw k2
        have f1 := HS.out.sp.low j (by omega)
        have f2 := HS.out.sp.top j (by omega)
        have f3 := HS.out.sp.unit j (by omega)
        have HV2 : Hid (z + lo7 u m e j = sm (j + 1) (lo7 u m e)) := by show _ = _; rw [HV.out]; rfl
        have HLo : Hid (lo7 u m e j = lea (u j) (m j) (e j)) := rfl
        have n1 : ((j : Int) + 1) * 1048576 = j * 1048576 + 1048576 := by omega
        clear h4 h3 k0 k1 k2 HV
        generalize lo7 u m e j = lj at *
        generalize u j = uj at *
        generalize m j = mj at *
        generalize e j = ej at *
        go_wp2_with fail
        refine (refLeast7_any _ _ _ _).mono ?_
        rintro r w2 ⟨rfl, hb2⟩
        rw [← HLo.out]
        have hb : Below w1.heap.size w1 w2 := hbw.trans (hb2.mono hbw.size)
        clear hb2 e0 e1 e2
        go_wp2_with fail
        go_roundw
        case rel => exact ⟨j + 1, z + lj, by omega, by go_num, by go_num, by omega, by omega, HV2.out, hb⟩
        case measure => simp [intOf]; omega
      · have hjk : j = n := by omega
        subst hjk
        have hB : Below w.heap.size w wr := hb1.trans (hbw.mono hb1.size)
        have H2 : Hid (roomB j u m e load = (decide (0 ≤ load ∧ load ≤ 1099511627776) && decide (z ≤ load))) := by show _ = _; rw [HV.out]; exact H.out
        clear H h3 HV
        by_cases c1 : load ≥ 0
        · by_cases c2 : load ≤ 1099511627776
          · have H3 : Hid (roomB j u m e load = decide (z ≤ load)) := by show _ = _; rw [H2.out, decide_eq_true (show 0 ≤ load ∧ load ≤ 1099511627776 from ⟨c1, c2⟩)]; rfl
            go_wp2
            go_ret
            exact ⟨ret_b H3.out.symm, hB⟩
          · have H3 : Hid (roomB j u m e load = false) := by show _ = _; rw [H2.out, decide_eq_false (fun h => c2 h.2)]; rfl
            go_wp2
            go_ret
            exact ⟨ret_b H3.out.symm, hB⟩
        · have H3 : Hid (roomB j u m e load = false) := by show _ = _; rw [H2.out, decide_eq_false (fun h => c1 h.1)]; rfl
          go_wp2
          go_ret
          exact ⟨ret_b H3.out.symm, hB⟩

set_option maxHeartbeats 1000000 in
set_option maxRecDepth 100000 in
theorem refTotal_any (n : Nat) (u m e : Nat → Int) (a b : Int) (v : Value) (w : World) (h : Sprs w v n u m e) (hS : fitS n u m e) (a0 : 0 ≤ a) (a22 : a ≤ 4194304) (b1 : 1 ≤ b) (b32 : b ≤ 32) :
    Calls Tryz.prog 72 #[v, .int .i64 a, .int .i64 b] w fun r w' => r = .returned (.int .i64 (tot n u (lo7 u m e) e a b)) ∧ Below w.heap.size w w' := by
  obtain ⟨ad, cap, rfl, h1, h2, h0, h3⟩ := h
  have HS : Hid (fitS n u m e) := hS
  have hn := hS.1
  clear hS
  go_enter Tryz.func72, Tryz.ntmps72
  go_wp2_with fail
  go_loopw [7, 8] (fun s7 s8 wr => ∃ (j : Nat) (z : Int), j ≤ n ∧ s7 = .int .i64 z ∧ s8 = .int .i64 j ∧ 0 ≤ z ∧ z ≤ j * 33554432 ∧ Hid (z = sm j (hav u (lo7 u m e) e a b)) ∧ Below w.heap.size w wr) (fun _ s8 _ => ((n : Int) - intOf s8).toNat)
  case atStart => exact ⟨0, 0, by omega, rfl, rfl, by omega, by omega, rfl, Below.refl _ _⟩
  case round =>
    obtain ⟨j, z, hj, rfl, rfl, z0, z1, HV, hbw⟩ := hrel
    by_cases hlt : (j : Int) < n
    · obtain ⟨bk, o', rfl, h4⟩ := h3 (by omega)
      obtain ⟨k0, k1, k2⟩ := h4 j (by omega)
      have e0 := cell_later hbw k0
      have e1 := cell_later hbw k1
      have e2 := cell_later hbw k2
      have f0 := HS.out.sp.low j (by omega)
      have f1 := HS.out.sp.top j (by omega)
      have f3 := HS.out.sp.unit j (by omega)
      have f5 := HS.out.sp.e0 j (by omega)
      have f6 := HS.out.sp.e8 j (by omega)
      have HLo : Hid (lo7 u m e j = lea (u j) (m j) (e j)) := rfl
      have HH : Hid (hav u (lo7 u m e) e a b j = max (b * u j - a * e j) (b * lo7 u m e j)) := rfl
      have HVV : Hid (z + hav u (lo7 u m e) e a b j = sm (j + 1) (hav u (lo7 u m e) e a b)) := by show _ = _; rw [HV.out]; rfl
      clear h4 h3 HV
      generalize hav u (lo7 u m e) e a b j = hj' at *
      generalize lo7 u m e j = lj at *
      generalize u j = uj at *
      generalize m j = mj at *
      generalize e j = ej at *
      have p0 : 0 ≤ b * uj := Int.mul_nonneg (by omega) (by omega)
      have p1 : b * uj ≤ 33554432 := Int.le_trans (Int.mul_le_mul b32 f3 (by omega) (by omega)) (by omega)
      have p2 : 0 ≤ a * ej := Int.mul_nonneg a0 f5
      have p3 : a * ej ≤ 33554432 := Int.le_trans (Int.mul_le_mul a22 f6 f5 (by omega)) (by omega)
      have p4 : 0 ≤ b * lj := Int.mul_nonneg (by omega) (by omega)
      have p5 : b * lj ≤ b * uj := Int.mul_le_mul_of_nonneg_left f1 (by omega)
      have w1 : IntKind.i64.wrap (b * uj) = b * uj := by rw [IntKind.wrap_i64]; omega
      have w3 : IntKind.i64.wrap (a * ej) = a * ej := by rw [IntKind.wrap_i64]; omega
      have w4 : IntKind.i64.wrap (b * uj - a * ej) = b * uj - a * ej := by rw [IntKind.wrap_i64]; omega
      have w5 : IntKind.i64.wrap (b * lj) = b * lj := by rw [IntKind.wrap_i64]; omega
      have n1 : ((j : Int) + 1) * 33554432 = j * 33554432 + 33554432 := by omega
      go_wp2_with fail
      go_quiet (fail)
      have hW : Below w.heap.size w (wr.drewN nq) := ⟨hbw.os, hbw.tape, hbw.output, hbw.size, hbw.block⟩
      have e0' := cell_later hW k0
      have e1' := cell_later hW k1
      have e2' := cell_later hW k2
      clear hbw e0 e1 e2
      generalize wr.drewN nq = W at *
      go_wp2_with fail
      refine (refLeast7_any uj mj ej _).mono ?_
      rintro r w4 ⟨rfl, hb4⟩
      rw [← HLo.out]
      have hbw4 : Below w.heap.size w w4 := hW.trans (hb4.mono hW.size)
      clear hb4 hW e0' e1' e2'
      by_cases cX : b * uj - a * ej < b * lj
      · have HV2 : Hid (z + b * lj = sm (j + 1) (hav u (lo7 u m e) e a b)) := by show _ = _; rw [← HVV.out, HH.out]; omega
        go_wp2_with fail
        go_roundw
        case rel => exact ⟨j + 1, z + b * lj, by omega, by go_num, by go_num, by omega, by omega, HV2.out, hbw4⟩
        case measure => simp [intOf]; omega
      · have HV2 : Hid (z + (b * uj - a * ej) = sm (j + 1) (hav u (lo7 u m e) e a b)) := by show _ = _; rw [← HVV.out, HH.out]; omega
        go_wp2_with fail
        go_roundw
        case rel => exact ⟨j + 1, z + (b * uj - a * ej), by omega, by go_num, by go_num, by omega, by omega, HV2.out, hbw4⟩
        case measure => simp [intOf]; omega
    · have hjk : j = n := by omega
      subst hjk
      go_wp2
      go_ret
      exact ⟨ret_i HV.out, hbw⟩
end Go.Proofs.YtmiakknagjncpaaGreatDoor
/- The document's own force: by each set of springs: plain arithmetic. -/
namespace Go.Proofs.YtmiakknagjncpaaGreatDoor

/-- Is the i-th one of a set? -/
def bit7 (t i : Nat) : Bool := decide (t / 2 ^ i % 2 = 1)
/-- What a set asks for, and by how many it gives. -/
def cA7 (n : Nat) (u lo : Nat → Int) (load : Int) (t : Nat) : Int := sm n (fun i => if bit7 t i then u i else lo i) - load
def cB7 (n : Nat) (e : Nat → Int) (t : Nat) : Int := sm n (sel (bit7 t) e)
def Val7 (n : Nat) (u lo e : Nat → Int) (load : Int) (t : Nat) : Prop := cB7 n e t ≠ 0 ∧ 0 ≤ cA7 n u lo load t ∧ tot n u lo e (cA7 n u lo load t) (cB7 n e t) ≤ cB7 n e t * load

/-- Every choice of the first n is a set's. -/
theorem bit_of (n : Nat) (S : Nat → Bool) : ∃ t, t < 2 ^ n ∧ ∀ i, i < n → bit7 t i = S i := by
  induction n generalizing S with
  | zero => exact ⟨0, by decide, fun i hi => by omega⟩
  | succ n ih =>
    obtain ⟨t, ht, h⟩ := ih (fun i => S (i + 1))
    refine ⟨2 * t + (if S 0 then 1 else 0), ?_, fun i hi => ?_⟩
    · rw [Nat.pow_succ]; split <;> omega
    · cases i with
      | zero =>
        unfold bit7
        rw [Nat.pow_zero, Nat.div_one]
        cases S 0
        · simp
        · simp
      | succ i =>
        have := h i (by omega)
        rw [← this]
        unfold bit7
        have e : (2 * t + (if S 0 then 1 else 0)) / 2 ^ (i + 1) = t / 2 ^ i := by
          rw [Nat.pow_succ, Nat.mul_comm (2 ^ i) 2, ← Nat.div_div_eq_div_mul]
          congr 1
          split <;> omega
        rw [e]

section
variable {n : Nat} {u lo e : Nat → Int} {load : Int}

/-- The best of the sets below k. -/
def Bst (n : Nat) (u lo e : Nat → Int) (load : Int) (k : Nat) (A B : Int) : Prop :=
  (B = 0 ∧ A = 0 ∧ ∀ t, 1 ≤ t → t < k → ¬ Val7 n u lo e load t) ∨ (1 ≤ B ∧ 0 ≤ A ∧ tot n u lo e A B ≤ B * load ∧ ∀ t, 1 ≤ t → t < k → Val7 n u lo e load t → A * cB7 n e t ≤ cA7 n u lo load t * B)
theorem bst_start : Bst n u lo e load 1 0 0 := .inl ⟨rfl, rfl, fun t h1 h2 => by omega⟩
theorem bst_skip {k : Nat} {A B : Int} (h : Bst n u lo e load k A B) (hv : ¬ Val7 n u lo e load k) : Bst n u lo e load (k + 1) A B := by
  rcases h with ⟨h1, h2, h3⟩ | ⟨h1, h2, h3, h4⟩
  · refine .inl ⟨h1, h2, fun t t1 t2 => ?_⟩
    rcases Nat.lt_succ_iff_lt_or_eq.1 t2 with t2 | rfl
    · exact h3 t t1 t2
    · exact hv
  · refine .inr ⟨h1, h2, h3, fun t t1 t2 ht => ?_⟩
    rcases Nat.lt_succ_iff_lt_or_eq.1 t2 with t2 | rfl
    · exact h4 t t1 t2 ht
    · exact absurd ht hv
theorem bst_keep {k : Nat} {A B : Int} (h : Bst n u lo e load k A B) (hB : B ≠ 0) (hc : ¬ cA7 n u lo load k * B < A * cB7 n e k) : Bst n u lo e load (k + 1) A B := by
  rcases h with ⟨h1, _, _⟩ | ⟨h1, h2, h3, h4⟩
  · exact absurd h1 hB
  · refine .inr ⟨h1, h2, h3, fun t t1 t2 ht => ?_⟩
    rcases Nat.lt_succ_iff_lt_or_eq.1 t2 with t2 | rfl
    · exact h4 t t1 t2 ht
    · omega
theorem cB7_nonneg (he : ∀ i, i < n → 0 ≤ e i) (t : Nat) : 0 ≤ cB7 n e t := sm_nonneg (fun i hi => sel_nonneg (he i hi))
theorem bst_take {k : Nat} {A B : Int} (he : ∀ i, i < n → 0 ≤ e i) (h : Bst n u lo e load k A B) (hv : Val7 n u lo e load k) (hc : B = 0 ∨ cA7 n u lo load k * B < A * cB7 n e k) : Bst n u lo e load (k + 1) (cA7 n u lo load k) (cB7 n e k) := by
  have hk0 := cB7_nonneg he k
  refine .inr ⟨by have := hv.1; omega, hv.2.1, hv.2.2, fun t t1 t2 ht => ?_⟩
  rcases Nat.lt_succ_iff_lt_or_eq.1 t2 with t2 | rfl
  · rcases h with ⟨h1, _, h3⟩ | ⟨h1, h2, h3, h4⟩
    · exact absurd ht (h3 t t1 t2)
    · have h5 := h4 t t1 t2 ht
      have h6 : cA7 n u lo load k * B < A * cB7 n e k := by
        rcases hc with hc | hc
        · omega
        · exact hc
      have ht0 := cB7_nonneg he t
      generalize cA7 n u lo load k = a1 at *
      generalize cB7 n e k = b1 at *
      generalize cA7 n u lo load t = a2 at *
      generalize cB7 n e t = b2 at *
      have k1 : a1 * B * b2 ≤ A * b1 * b2 := Int.mul_le_mul_of_nonneg_right (by omega) ht0
      have k2 : A * b2 * b1 ≤ a2 * B * b1 := Int.mul_le_mul_of_nonneg_right h5 hk0
      have e1 : A * b1 * b2 = A * b2 * b1 := by rw [Int.mul_assoc, Int.mul_comm b1, Int.mul_assoc]
      have e2 : a1 * B * b2 = B * (a1 * b2) := by rw [Int.mul_comm a1 B, Int.mul_assoc]
      have e3 : a2 * B * b1 = B * (a2 * b1) := by rw [Int.mul_comm a2 B, Int.mul_assoc]
      rw [e1] at k1
      have k3 := Int.le_trans k1 k2
      rw [e2, e3] at k3
      exact Int.le_of_mul_le_mul_left k3 (by omega)
  · exact Int.le_refl _

/-- The best of all sets is the least force. -/
theorem bst_end {A B A0 B0 : Int} {S : Nat → Bool} (hn : n ≤ 4) (h : Bst n u lo e load 16 A B) (hF : Fin7 n u lo e load S A0 B0) : 1 ≤ B ∧ 0 ≤ A ∧ A * B0 = A0 * B := by
  obtain ⟨t, ht, hb⟩ := bit_of n S
  have p16 : 2 ^ n ≤ 2 ^ 4 := Nat.pow_le_pow_right (by decide) hn
  have eA : cA7 n u lo load t = A0 := by rw [hF.isA]; unfold cA7; rw [sm_congr (fun i hi => by rw [hb i hi])]
  have eB : cB7 n e t = B0 := by rw [hF.isB]; unfold cB7 sel; rw [sm_congr (fun i hi => by rw [hb i hi])]
  have hv : Val7 n u lo e load t := by
    unfold Val7
    rw [eA, eB]
    exact ⟨by have := hF.B1; omega, by have := hF.A0; omega, by rw [hF.all]; exact Int.le_refl _⟩
  have t1 : 1 ≤ t := by
    rcases Nat.eq_zero_or_pos t with rfl | h
    · exfalso
      have : cB7 n e 0 = 0 := by
        unfold cB7
        rw [← sm_zero n]
        exact sm_congr (fun i _ => by unfold sel bit7; simp)
      have := hF.B1
      omega
    · exact h
  rcases h with ⟨_, _, h3⟩ | ⟨h1, h2, h3, h4⟩
  · exact absurd hv (h3 t t1 (by have : (2 : Nat) ^ 4 = 16 := by decide
                                 omega))
  · refine ⟨h1, h2, Int.le_antisymm ?_ ?_⟩
    · have := h4 t t1 (by have : (2 : Nat) ^ 4 = 16 := by decide
                          omega) hv
      rwa [eA, eB] at this
    · exact hF.least A B h1 h3

end

/-- What is left of two numbers that were divided, as often as they could, by 2 to q - 1. -/
def Red7 (a b A B : Int) (q : Nat) : Prop := 0 ≤ A ∧ 1 ≤ B ∧ A * b = a * B ∧ ∀ k : Int, 2 ≤ k → k < q → ¬ (k ∣ A ∧ k ∣ B)
theorem red_step {a b A B : Int} {q : Nat} (hq : 2 ≤ q) (h : Red7 a b A B q) (hA : A % q = 0) (hB : B % q = 0) : Red7 a b (A / q) (B / q) q ∧ B / q < B := by
  obtain ⟨h1, h2, h3, h4⟩ := h
  obtain ⟨x, rfl⟩ := Int.dvd_of_emod_eq_zero hA
  obtain ⟨y, rfl⟩ := Int.dvd_of_emod_eq_zero hB
  have q0 : (0 : Int) < q := by omega
  rw [Int.mul_ediv_cancel_left _ (by omega), Int.mul_ediv_cancel_left _ (by omega)]
  have y1 : 1 ≤ y := by
    have := Int.pos_of_mul_pos_right (show 0 < (q : Int) * y by omega) (by omega)
    omega
  have x0 : 0 ≤ x := by
    by_cases c : 0 ≤ x
    · exact c
    · have := Int.mul_neg_of_pos_of_neg q0 (show x < 0 by omega); omega
  refine ⟨⟨x0, y1, ?_, fun k hk hkq hd => h4 k hk hkq ⟨Int.dvd_trans hd.1 (Int.dvd_mul_left _ _), Int.dvd_trans hd.2 (Int.dvd_mul_left _ _)⟩⟩, ?_⟩
  · have e1 : (q : Int) * x * b = q * (x * b) := Int.mul_assoc _ _ _
    have e2 : a * (q * y) = q * (a * y) := by rw [← Int.mul_assoc, Int.mul_comm a, Int.mul_assoc]
    rw [e1, e2] at h3
    exact Int.eq_of_mul_eq_mul_left (by omega) h3
  · have : 2 * y ≤ q * y := Int.mul_le_mul_of_nonneg_right (by omega) (by omega)
    omega
theorem red_next {a b A B : Int} {q : Nat} (h : Red7 a b A B q) (hn : ¬ (A % q = 0 ∧ B % q = 0)) : Red7 a b A B (q + 1) := by
  obtain ⟨h1, h2, h3, h4⟩ := h
  refine ⟨h1, h2, h3, fun k hk hkq hd => ?_⟩
  by_cases c : k < q
  · exact h4 k hk c hd
  · have : k = q := by omega
    subst this
    exact hn ⟨Int.emod_eq_zero_of_dvd hd.1, Int.emod_eq_zero_of_dvd hd.2⟩
theorem red_end {a b A B : Int} (h : Red7 a b A B 33) (hB : B ≤ 32) (b1 : 1 ≤ b) (hc : ∀ k : Int, 2 ≤ k → k ∣ a → k ∣ b → False) : A = a ∧ B = b := by
  obtain ⟨h1, h2, h3, h4⟩ := h
  exact cop_eq h2 b1 (fun k hk d1 d2 => h4 k hk (by have := Int.le_of_dvd (by omega) d2; omega) ⟨d1, d2⟩) hc h3
end Go.Proofs.YtmiakknagjncpaaGreatDoor
