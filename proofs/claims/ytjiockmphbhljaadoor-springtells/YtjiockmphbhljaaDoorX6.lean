/- Walks of package spring: two numbers in the least ones, and the least force. -/
import Derived.Test.YtjiockmphbhljaaDoorX5
import Derived.BigQuiet
namespace Go.Proofs.YtjiockmphbhljaaDoor
open Go.RowKit Go.Maps

theorem gcd_step {x y : Int} (hx : 0 ≤ x) (hy : 0 < y) : Int.gcd y (x % y) = Int.gcd x y := by
  obtain ⟨X, rfl⟩ := Int.eq_ofNat_of_zero_le hx
  obtain ⟨Y, rfl⟩ := Int.eq_ofNat_of_zero_le (show 0 ≤ y by omega)
  rw [← Int.natCast_emod, Int.gcd_natCast_natCast, Int.gcd_natCast_natCast, Nat.gcd_comm X Y, Nat.gcd_rec Y X, Nat.gcd_comm]

set_option maxHeartbeats 1000000 in
set_option maxRecDepth 100000 in
theorem lowest_any (A B g a b : Int) (w : World) (hA : 0 ≤ A) (hA1 : A ≤ 4194304) (hB : 1 ≤ B) (hB1 : B ≤ 32) (hg : g = Int.gcd A B) (ha : A = g * a) (hb : B = g * b) :
    Calls Tryd.prog 29 #[.int .i64 A, .int .i64 B] w fun r w' => r = .returned (.agg #[.int .i64 a, .int .i64 b]) ∧ Below w.heap.size w w' := by
  have g1 : 1 ≤ g := by
    rw [hg]
    have := Int.gcd_pos_of_ne_zero_right A (show B ≠ 0 by omega)
    omega
  have HA : Hid (A / g = a) := by show _ = _; rw [ha]; exact Int.mul_ediv_cancel_left _ (by omega)
  have HB : Hid (B / g = b) := by show _ = _; rw [hb]; exact Int.mul_ediv_cancel_left _ (by omega)
  have HG : Hid (g = Int.gcd A B) := hg
  have b1 : 0 ≤ A / g := Int.ediv_nonneg hA (by omega)
  have b2 : A / g ≤ A := Int.ediv_le_self _ hA
  have b3 : 0 ≤ B / g := Int.ediv_nonneg (by omega) (by omega)
  have b4 : B / g ≤ B := Int.ediv_le_self _ (by omega)
  clear ha hb hg
  have hbx : Below w.heap.size w (w.alloc (.cells #[.int .i64 0, .int .i64 0] 39)) := (Below.refl _ _).alloc (Nat.le_refl _) _
  go_enter Tryd.func29, Tryd.ntmps29
  go_wp2_with fail
  go_loopw [5, 6] (fun c r wr => ∃ x y : Int, c = .int .i64 x ∧ r = .int .i64 y ∧ 0 ≤ x ∧ x ≤ 4194304 ∧ 0 ≤ y ∧ y ≤ 4194304 ∧ Hid ((Int.gcd x y : Int) = g) ∧ Duo wr w.heap.size 0 0 ∧ wr.frozen? ⟨w.heap.size, 0, none⟩ = false ∧ wr.frozen? ⟨w.heap.size, 1, none⟩ = false ∧ Below w.heap.size w wr) (fun _ r _ => (intOf r).toNat)
  case atStart => exact ⟨A, B, rfl, rfl, hA, hA1, by omega, by omega, HG.out.symm, Duo.new _ _ _ _, by simp, by simp, hbx⟩
  case round =>
    obtain ⟨x, y, rfl, rfl, x0, x1, y0, y1, HV, ⟨c0, c1⟩, f0, f1, hbw⟩ := hrel
    have sw := World.block_lt_of_cell? _ _ c0
    by_cases hy : y > 0
    · have HV2 : Hid ((Int.gcd y (x % y) : Int) = g) := by show _ = _; rw [gcd_step x0 hy]; exact HV.out
      have r0 : 0 ≤ x % y := Int.emod_nonneg _ (by omega)
      have r1 : x % y < y := Int.emod_lt_of_pos _ hy
      go_wp2_with fail
      go_quiet (fail)
      go_wp2_with fail
      go_roundw
      case rel => exact ⟨y, x % y, rfl, rfl, y0, y1, r0, by omega, HV2.out, ⟨c0, c1⟩, f0, f1, ⟨hbw.os, hbw.tape, hbw.output, hbw.size, hbw.block⟩⟩
      case measure => simp [intOf]; omega
    · have hy0 : y = 0 := by omega
      subst hy0
      have hxg : x = g := by
        have := HV.out
        rw [Int.gcd_zero_right] at this
        omega
      subst hxg
      obtain ⟨qa, hqa⟩ : ∃ q, A / x = q := ⟨_, rfl⟩
      obtain ⟨qb, hqb⟩ : ∃ q, B / x = q := ⟨_, rfl⟩
      go_wp2_with fail
      go_region
      all_goals go_wp2
      all_goals
        refine bodyPost_ret (v := .agg #[.int .i64 qa, .int .i64 qb]) ?_ rfl ⟨by rw [← hqa, ← hqb, HA.out, HB.out], (hbw.drew.setCell (p := ⟨w.heap.size, 0, none⟩) (Nat.le_refl _) _).setCell (p := ⟨w.heap.size, 1, none⟩) (Nat.le_refl _) _⟩
        simp [results, Tryd.results29, go_sem, c0, c1]

/-- There is a last round. -/
theorem fin_of {n : Nat} {U L E : Nat → Int} {load : Int} (hs : Sp7 n U L E) : ∀ (k : Nat) (S : Nat → Bool) (ov a0 b0 : Int), ov.toNat ≤ k → Rnd n U L E load S ov a0 b0 → ∃ S A B, Fin7 n U L E load S A B := by
  intro k
  induction k with
  | zero => intro S ov a0 b0 hk h; have := h.pos; omega
  | succ k ih =>
    intro S ov a0 b0 hk h
    by_cases c0 : sm n (sel (struck U L E S ov (sm n (sel S E))) (slk U L)) = 0
    · exact ⟨S, _, _, h.fin hs rfl (.inl c0)⟩
    by_cases c1 : sm n (sel (struck U L E S ov (sm n (sel S E))) (slk U L)) = ov
    · exact ⟨S, _, _, h.fin hs rfl (.inr c1)⟩
    obtain ⟨h1, _, h2⟩ := h.next hs rfl rfl c0 c1
    exact ih _ _ _ _ (by have := h1.pos; omega) h1
theorem cop_gcd {A B g a b : Int} (hB : 1 ≤ B) (hg : g = Int.gcd A B) (ha : A = g * a) (hb : B = g * b) : 1 ≤ g ∧ ∀ k : Int, 2 ≤ k → k ∣ a → k ∣ b → False := by
  have g1 : 1 ≤ g := by
    rw [hg]
    have := Int.gcd_pos_of_ne_zero_right A (show B ≠ 0 by omega)
    omega
  refine ⟨g1, fun k hk h1 h2 => ?_⟩
  have d1 : g * k ∣ A := by rw [ha]; exact Int.mul_dvd_mul_left g h1
  have d2 : g * k ∣ B := by rw [hb]; exact Int.mul_dvd_mul_left g h2
  have d3 : g * k ∣ g := by have := Int.dvd_coe_gcd d1 d2; rwa [← hg] at this
  have := Int.le_of_dvd (by omega) d3
  have : g * 2 ≤ g * k := Int.mul_le_mul_of_nonneg_left hk (by omega)
  omega
theorem gcd_parts (A B : Int) : ∃ g a b : Int, g = Int.gcd A B ∧ A = g * a ∧ B = g * b := by
  obtain ⟨a, ha⟩ := Int.gcd_dvd_left A B
  obtain ⟨b, hb⟩ := Int.gcd_dvd_right A B
  exact ⟨_, a, b, rfl, ha, hb⟩
/-- Where there is room there is a least force; where not all fit some of them give just what the others leave. -/
theorem isF_exists {n : Nat} {U L E : Nat → Int} {load : Int} (hs : Sp7 n U L E) (hroom : sm n L ≤ load) : ∃ a b, IsF n U L E load a b ∧ (load < sm n U → ∃ S A B g, Fin7 n U L E load S A B ∧ 1 ≤ g ∧ A = g * a ∧ B = g * b) := by
  by_cases c : sm n U ≤ load
  · exact ⟨0, 1, isF_none hs c, fun h => by omega⟩
  · obtain ⟨S, A, B, hF⟩ := fin_of hs _ _ _ _ _ (Nat.le_refl _) (Rnd.start hs hroom (by omega))
    obtain ⟨g, a, b, hg, ha, hb⟩ := gcd_parts A B
    obtain ⟨g1, hc⟩ := cop_gcd hF.B1 hg ha hb
    exact ⟨a, b, hF.isF g1 ha hb hc, fun _ => ⟨S, A, B, g, hF, g1, ha, hb⟩⟩

/-- Two numbers that lie in a block, and may be written. -/
def Dup (w : World) (b : Nat) (x y : Int) : Prop := Duo w b x y ∧ w.frozen? ⟨b, 0, none⟩ = false ∧ w.frozen? ⟨b, 1, none⟩ = false
theorem Dup.kept {w w' : World} {c : Nat} {x y : Int} {row : Option Nat} (h : Dup w c x y) (hg : w.grownBy w' row) (hne : some c ≠ row) : Dup w' c x y := by
  have hb := hg.block c h.1.lt hne
  exact ⟨h.1.kept hg hne, (World.frozen?_of_block (w := w) (a := ⟨c, 0, none⟩) hb).trans h.2.1, (World.frozen?_of_block (w := w) (a := ⟨c, 1, none⟩) hb).trans h.2.2⟩
theorem Dup.later {w w' : World} {c : Nat} {x y : Int} (h : Dup w c x y) (hb : Below w.heap.size w w') : Dup w' c x y := h.kept (grown_of hb) (by simp)
theorem Dup.new (w : World) (x y : Int) (t : TypeId) : Dup (w.alloc (.cells #[.int .i64 x, .int .i64 y] t)) w.heap.size x y := ⟨Duo.new _ _ _ _, by simp, by simp⟩

theorem atl_struck {u m e : Nat → Int} {A B g a b : Int} (g1 : 1 ≤ g) (ha : A = g * a) (hb : B = g * b) (i : Nat) : atlB (u i) (m i) (e i) a b = decide (slk u (lo7 u m e) i * B ≤ A * e i) := by
  unfold atlB
  show decide (slk u (lo7 u m e) i * b ≤ e i * a) = _
  generalize slk u (lo7 u m e) i = x
  rw [ha, hb]
  have e1 : x * (g * b) = g * (x * b) := by rw [← Int.mul_assoc, Int.mul_comm x g, Int.mul_assoc]
  have e2 : g * a * e i = g * (e i * a) := by rw [Int.mul_assoc, Int.mul_comm a]
  rw [e1, e2]
  by_cases c : x * b ≤ e i * a
  · rw [decide_eq_true c, decide_eq_true (Int.mul_le_mul_of_nonneg_left c (by omega))]
  · rw [decide_eq_false c, decide_eq_false (fun h => c (Int.le_of_mul_le_mul_left h (by omega)))]

set_option maxHeartbeats 2000000 in
set_option maxRecDepth 100000 in
theorem leastForce_any (n : Nat) (u m e : Nat → Int) (load a b : Int) (v : Value) (w : World) (h : Sprs w v n u m e) (hS : fitS n u m e) (hroom : sm n (lo7 u m e) ≤ load) (l0 : 0 ≤ load) (l1 : load ≤ 1099511627776) (hF : IsF n u (lo7 u m e) e load a b) (hL : Lim w) :
    Calls Tryd.prog 20 #[v, .int .i64 load] w fun r w' => r = .returned (.agg #[.int .i64 a, .int .i64 b]) ∧ Below w.heap.size w w' := by
  have hsp := hS.sp
  have t0 : 0 ≤ sm n u := sm_nonneg (fun i hi => by have := hS.2 i hi; omega)
  have t1 : sm n u ≤ 4194304 := by
    have := sm_le (n := n) (f := u) (g := fun _ => 1048576) hsp.unit
    rw [sm_const] at this
    have := hS.1
    omega
  have hB0 : Below w.heap.size w (w.alloc (.cells #[.int .i64 0, .int .i64 0] 39)) := (Below.refl _ _).alloc (Nat.le_refl _) _
  have hR0 := Dup.new w 0 0 39
  have HF : Hid (IsF n u (lo7 u m e) e load a b) := hF
  have HM : Hid (sm n (lo7 u m e) ≤ load) := hroom
  clear hF hroom
  go_enter Tryd.func20, Tryd.ntmps20
  go_wp2_with fail
  refine (total_top n u m e v _ (h.later hB0) hS (hL.later hB0)).mono ?_
  rintro r w1 ⟨rfl, hb1⟩
  have hB1 : Below w.heap.size w w1 := hB0.trans (hb1.mono hB0.size)
  have hR1 := hR0.later hb1
  clear hR0 hb1 hB0 hL
  by_cases ho : sm n u - load ≤ 0
  · have HA : Hid (a = 0 ∧ b = 1) := by
      have := (isF_none hsp (show sm n u ≤ load by omega)).one HF.out
      exact ⟨this.1.symm, this.2.symm⟩
    obtain ⟨⟨c0, c1⟩, f0, f1⟩ := hR1
    have sw := World.block_lt_of_cell? _ _ c0
    generalize sm n u = q at *
    go_wp2_with fail
    refine bodyPost_ret (v := .agg #[.int .i64 0, .int .i64 1]) ?_ rfl ⟨by rw [HA.out.1, HA.out.2], (hB1.setCell (p := ⟨w.heap.size, 0, none⟩) (Nat.le_refl _) _).setCell (p := ⟨w.heap.size, 1, none⟩) (Nat.le_refl _) _⟩
    simp [results, Tryd.results20, go_sem, c0, c1]
  · have HR : Hid (Rnd n u (lo7 u m e) e load (fun i => decide (0 < slk u (lo7 u m e) i)) (sm n u - load) 0 1) := Rnd.start hsp HM.out (by omega)
    have sw1 := World.block_lt_of_cell? _ _ hR1.1.1
    generalize hq : sm n u = q at *
    clear hq
    go_wp2_with fail
    refine (yielding_any n u m e v _ (h.later hB1) hS).mono ?_
    rintro r w2 ⟨rfl, hM2, hb2⟩
    have hB2 : Below w.heap.size w w2 := hB1.trans (hb2.mono hB1.size)
    have hR2 := hR1.later hb2
    obtain ⟨bm, hbm⟩ : ∃ bm, w1.heap.size = bm := ⟨_, rfl⟩
    rw [hbm] at hM2 sw1 ⊢
    clear hR1 hb2 hB1 hbm
    go_wp2_with fail
    go_loopw [5] (fun s wr => ∃ (S : Nat → Bool) (ov a0 b0 : Int), s = .int .i64 ov ∧ 0 < ov ∧ ov ≤ 4194304 ∧ Hid (Rnd n u (lo7 u m e) e load S ov a0 b0) ∧ MapS wr bm n u m e S ∧ Dup wr w.heap.size 0 0 ∧ Below w.heap.size w wr) (fun s _ => (intOf s).toNat)
    case atStart => exact ⟨_, q - load, 0, 1, by go_num, by omega, by omega, HR.out, hM2, hR2, hB2⟩
    case round =>
      clear HR hM2 hR2 hB2
      obtain ⟨S, ov, a0, b0, rfl, o0, o1, HR, hM, hR, hB⟩ := hrel
      obtain ⟨p1, p32⟩ := HR.out.pull hsp
      have HE : Hid (∀ i, i < n → S i = true → 1 ≤ e i) := fun i hi hs => by
        have h1 := HR.out.give i hi hs
        have h2 := hsp.e0 i hi
        have h3 := hsp.stiff i hi
        unfold slk at h1
        by_cases c : e i = 0
        · have := h3 c; omega
        · omega
      go_wp2_with fail
      refine (pull_any n bm u m e S _ hM hS).mono ?_
      rintro r w3 ⟨rfl, hb3⟩
      have hM3 := hM.later hb3
      have hR3 := hR.later hb3
      have hB3 : Below w.heap.size w w3 := hB.trans (hb3.mono hB.size)
      clear hM hR hB hb3
      obtain ⟨p, hp⟩ : ∃ p, sm n (sel S e) = p := ⟨_, rfl⟩
      have HP : Hid (p = sm n (sel S e)) := hp.symm
      rw [hp] at p1 p32 ⊢
      clear hp
      obtain ⟨g, x, y, hg, hx, hy⟩ := gcd_parts ov p
      obtain ⟨g1, hc⟩ := cop_gcd p1 hg hx hy
      have HG : Hid (1 ≤ g ∧ ov = g * x ∧ p = g * y ∧ (∀ k : Int, 2 ≤ k → k ∣ x → k ∣ y → False)) := ⟨g1, hx, hy, hc⟩
      have HL : Hid (g = Int.gcd ov p) := hg
      have x0 : 0 ≤ x := by
        have : 0 < g * x := by rw [← hx]; exact o0
        have := Int.pos_of_mul_pos_right this (by omega)
        omega
      have x1 : x ≤ 4194304 := by
        have : 1 * x ≤ g * x := Int.mul_le_mul_of_nonneg_right g1 x0
        omega
      have y0 : 1 ≤ y := by
        have : 0 < g * y := by rw [← hy]; omega
        have := Int.pos_of_mul_pos_right this (by omega)
        omega
      have y1 : y ≤ 32 := by
        have : 1 * y ≤ g * y := Int.mul_le_mul_of_nonneg_right g1 (by omega)
        omega
      clear hg hx hy hc g1
      go_wp2_with fail
      refine (lowest_any ov p g x y _ (by omega) o1 p1 p32 HL.out HG.out.2.1 HG.out.2.2.1).mono ?_
      rintro r w4 ⟨rfl, hb4⟩
      have hM4 := hM3.later hb4
      have hR4 := hR3.later hb4
      have hB4 : Below w.heap.size w w4 := hB3.trans (hb4.mono hB3.size)
      clear hM3 hR3 hB3 hb4
      go_wp2_with fail
      have hbx : Below w4.heap.size w4 (w4.alloc (.cells #[.int .i64 x, .int .i64 y] 39)) := (Below.refl _ _).alloc (Nat.le_refl _) _
      have hfb := Duo.new w4 x y 39
      have hM5 := hM4.later hbx
      have hR5 := hR4.later hbx
      have hB5 : Below w.heap.size w (w4.alloc (.cells #[.int .i64 x, .int .i64 y] 39)) := hB4.trans (hbx.mono hB4.size)
      have hne : bm < w4.heap.size := hM4.lt
      clear hM4 hR4 hB4 hbx
      refine (settle_any n bm u m e S x y _ hM5 hS HE.out x0 x1 y0 y1).mono ?_
      rintro r w6 ⟨rfl, hM6, hg6⟩
      have hR6 := hR5.kept hg6 (by simp; omega)
      have hB6 : Below w.heap.size w w6 := hB5.grown hg6 hB5.size (fun k hk => by cases hk; omega)
      have hf6 := hfb.kept hg6 (by simp; omega)
      have hT : (fun i => S i && atlB (u i) (m i) (e i) x y) = struck u (lo7 u m e) e S ov p := funext fun i => by
        unfold struck
        rw [atl_struck HG.out.1 HG.out.2.1 HG.out.2.2.1]
      have hT2 : (fun i => S i && !atlB (u i) (m i) (e i) x y) = left7 u (lo7 u m e) e S ov p := funext fun i => by
        unfold left7
        rw [atl_struck HG.out.1 HG.out.2.1 HG.out.2.2.1]
      rw [hT]
      rw [hT2] at hM6
      obtain ⟨gv, hgv⟩ : ∃ gv, sm n (sel (struck u (lo7 u m e) e S ov p) (slk u (lo7 u m e))) = gv := ⟨_, rfl⟩
      have HV : Hid (sm n (sel (struck u (lo7 u m e) e S ov p) (slk u (lo7 u m e))) = gv) := hgv
      rw [hgv]
      clear hgv hT hT2 hg6 hR5 hB5 hfb hM5
      obtain ⟨d0, d1⟩ := hf6
      have sf := World.block_lt_of_cell? _ _ d0
      by_cases hend : gv = 0 ∨ gv = ov
      · have HA : Hid (x = a ∧ y = b) := by
          refine (((HR.out.fin hsp HP.out (by rw [HV.out]; exact hend)).isF HG.out.1 HG.out.2.1 HG.out.2.2.1 HG.out.2.2.2).one HF.out)
        obtain ⟨⟨c0, c1⟩, f0, f1⟩ := hR6
        have sw := World.block_lt_of_cell? _ _ c0
        rcases hend with rfl | rfl
        · go_wp2_with fail
          refine bodyPost_ret (v := .agg #[.int .i64 x, .int .i64 y]) ?_ rfl ⟨by rw [HA.out.1, HA.out.2], (hB6.setCell (p := ⟨w.heap.size, 0, none⟩) (Nat.le_refl _) _).setCell (p := ⟨w.heap.size, 1, none⟩) (Nat.le_refl _) _⟩
          simp [results, Tryd.results20, go_sem, c0, c1]
        · by_cases hz : gv = 0
          · omega
          · go_wp2_with fail
            refine bodyPost_ret (v := .agg #[.int .i64 x, .int .i64 y]) ?_ rfl ⟨by rw [HA.out.1, HA.out.2], (hB6.setCell (p := ⟨w.heap.size, 0, none⟩) (Nat.le_refl _) _).setCell (p := ⟨w.heap.size, 1, none⟩) (Nat.le_refl _) _⟩
            simp [results, Tryd.results20, go_sem, c0, c1]
      · have hz0 : ¬ gv = 0 := fun h => hend (.inl h)
        have hz1 : ¬ gv = ov := fun h => hend (.inr h)
        obtain ⟨hN, _, hpos⟩ := HR.out.next hsp HP.out HV.out.symm hz0 hz1
        have n0 := hN.pos
        have HN : Hid (Rnd n u (lo7 u m e) e load (left7 u (lo7 u m e) e S ov p) (ov - gv) ov p) := hN
        have q0 : (gv == 0) = false := by simpa using hz0
        have q1 : (gv == ov) = false := by simpa using hz1
        clear hN hend
        go_wp2_with fail
        go_roundw
        case rel => exact ⟨_, ov - gv, ov, p, by go_num, by omega, by omega, HN.out, hM6, hR6, hB6⟩
        case measure => simp [intOf]; omega
end Go.Proofs.YtjiockmphbhljaaDoor
