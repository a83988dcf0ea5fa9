/- Texts that belong together, one behind the other: X6, X7, X9, X10, X12, X13, X15, B1, B2, B3. -/
import Derived.Test.YtmiakknagjncpaaDoorY4
import Derived.BigQuiet
import Derived.Test.YtmiakknagjncpaaDoorY2
import Derived.Laws.AppendOwnNone
import Derived.Maps.AppendAt
import Derived.RangeFuncNested
import Derived.RangeFuncBound
import Derived.RangeFuncCalls
import Derived.RangeFuncLeaves
import Derived.RangeFuncBox
import Derived.Shelf.Abstract
import Derived.Shelf.RegionOpen
import Derived.WalkKit
import Derived.OwnWalkIn
import Derived.TacticsInMore
import Derived.LoopNIn
import Derived.LoopIn
/- Walks of package spring: two numbers in the least ones, and the least force. -/
namespace Go.Proofs.YtmiakknagjncpaaDoor
open Go.RowKit Go.Maps

theorem gcd_step {x y : Int} (hx : 0 ≤ x) (hy : 0 < y) : Int.gcd y (x % y) = Int.gcd x y := by
  obtain ⟨X, rfl⟩ := Int.eq_ofNat_of_zero_le hx
  obtain ⟨Y, rfl⟩ := Int.eq_ofNat_of_zero_le (show 0 ≤ y by omega)
  rw [← Int.natCast_emod, Int.gcd_natCast_natCast, Int.gcd_natCast_natCast, Nat.gcd_comm X Y, Nat.gcd_rec Y X, Nat.gcd_comm]

set_option maxHeartbeats 1000000 in
set_option maxRecDepth 100000 in
theorem lowest_any (A B g a b : Int) (w : World) (hA : 0 ≤ A) (hA1 : A ≤ 4194304) (hB : 1 ≤ B) (hB1 : B ≤ 32) (hg : g = Int.gcd A B) (ha : A = g * a) (hb : B = g * b) :
    Calls Tryd.prog 75 #[.int .i64 A, .int .i64 B] w fun r w' => r = .returned (.agg #[.int .i64 a, .int .i64 b]) ∧ Below w.heap.size w w' := by
  have g1 : 1 ≤ g := by
    rw [hg]
    have := Int.gcd_pos_of_ne_zero_right A (show B ≠ 0 by omega)
    omega
  have HA : Hid (A / g = a) := by show _ = _; rw [ha]; exact Int.mul_ediv_cancel_left _ (by omega)
  have HB : Hid (B / g = b) := by show _ = _; rw [hb]; exact Int.mul_ediv_cancel_left _ (by omega)
  have HG : Hid (g = Int.gcd A B) := hg
  have b1 : 0 ≤ A / g := Int.ediv_nonneg hA (by omega)
  have b2 : A / g ≤ A := Int.ediv_le_self _ hA
  have b3 : 0 ≤ B / g := Int.ediv_nonneg (by omega) (by omega)
  have b4 : B / g ≤ B := Int.ediv_le_self _ (by omega)
  clear ha hb hg
  have hbx : Below w.heap.size w (w.alloc (.cells #[.int .i64 0, .int .i64 0] 75)) := (Below.refl _ _).alloc (Nat.le_refl _) _
  go_enter Tryd.func75, Tryd.ntmps75
  go_wp2_with fail
  go_loopw [5, 6] (fun c r wr => ∃ x y : Int, c = .int .i64 x ∧ r = .int .i64 y ∧ 0 ≤ x ∧ x ≤ 4194304 ∧ 0 ≤ y ∧ y ≤ 4194304 ∧ Hid ((Int.gcd x y : Int) = g) ∧ Duo wr w.heap.size 0 0 ∧ wr.frozen? ⟨w.heap.size, 0, none⟩ = false ∧ wr.frozen? ⟨w.heap.size, 1, none⟩ = false ∧ Below w.heap.size w wr) (fun _ r _ => (intOf r).toNat)
  case atStart => exact ⟨A, B, rfl, rfl, hA, hA1, by omega, by omega, HG.out.symm, Duo.new _ _ _ _, by simp, by simp, hbx⟩
  case round =>
    obtain ⟨x, y, rfl, rfl, x0, x1, y0, y1, HV, ⟨c0, c1⟩, f0, f1, hbw⟩ := hrel
    have sw := World.block_lt_of_cell? _ _ c0
    by_cases hy : y > 0
    · have HV2 : Hid ((Int.gcd y (x % y) : Int) = g) := by show _ = _; rw [gcd_step x0 hy]; exact HV.out
      have r0 : 0 ≤ x % y := Int.emod_nonneg _ (by omega)
      have r1 : x % y < y := Int.emod_lt_of_pos _ hy
      go_wp2_with fail
      go_quiet (fail)
      go_wp2_with fail
      go_roundw
      case rel => exact ⟨y, x % y, rfl, rfl, y0, y1, r0, by omega, HV2.out, ⟨c0, c1⟩, f0, f1, ⟨hbw.os, hbw.tape, hbw.output, hbw.size, hbw.block⟩⟩
      case measure => simp [intOf]; omega
    · have hy0 : y = 0 := by omega
      subst hy0
      have hxg : x = g := by
        have := HV.out
        rw [Int.gcd_zero_right] at this
        omega
      subst hxg
      obtain ⟨qa, hqa⟩ : ∃ q, A / x = q := ⟨_, rfl⟩
      obtain ⟨qb, hqb⟩ : ∃ q, B / x = q := ⟨_, rfl⟩
      go_wp2_with fail
      go_region
      all_goals go_wp2
      all_goals
        refine bodyPost_ret (v := .agg #[.int .i64 qa, .int .i64 qb]) ?_ rfl ⟨by rw [← hqa, ← hqb, HA.out, HB.out], (hbw.drew.setCell (p := ⟨w.heap.size, 0, none⟩) (Nat.le_refl _) _).setCell (p := ⟨w.heap.size, 1, none⟩) (Nat.le_refl _) _⟩
        simp [results, Tryd.results75, go_sem, c0, c1]

/-- There is a last round. -/
theorem fin_of {n : Nat} {U L E : Nat → Int} {load : Int} (hs : Sp7 n U L E) : ∀ (k : Nat) (S : Nat → Bool) (ov a0 b0 : Int), ov.toNat ≤ k → Rnd n U L E load S ov a0 b0 → ∃ S A B, Fin7 n U L E load S A B := by
  intro k
  induction k with
  | zero => intro S ov a0 b0 hk h; have := h.pos; omega
  | succ k ih =>
    intro S ov a0 b0 hk h
    by_cases c0 : sm n (sel (struck U L E S ov (sm n (sel S E))) (slk U L)) = 0
    · exact ⟨S, _, _, h.fin hs rfl (.inl c0)⟩
    by_cases c1 : sm n (sel (struck U L E S ov (sm n (sel S E))) (slk U L)) = ov
    · exact ⟨S, _, _, h.fin hs rfl (.inr c1)⟩
    obtain ⟨h1, _, h2⟩ := h.next hs rfl rfl c0 c1
    exact ih _ _ _ _ (by have := h1.pos; omega) h1
theorem cop_gcd {A B g a b : Int} (hB : 1 ≤ B) (hg : g = Int.gcd A B) (ha : A = g * a) (hb : B = g * b) : 1 ≤ g ∧ ∀ k : Int, 2 ≤ k → k ∣ a → k ∣ b → False := by
  have g1 : 1 ≤ g := by
    rw [hg]
    have := Int.gcd_pos_of_ne_zero_right A (show B ≠ 0 by omega)
    omega
  refine ⟨g1, fun k hk h1 h2 => ?_⟩
  have d1 : g * k ∣ A := by rw [ha]; exact Int.mul_dvd_mul_left g h1
  have d2 : g * k ∣ B := by rw [hb]; exact Int.mul_dvd_mul_left g h2
  have d3 : g * k ∣ g := by have := Int.dvd_coe_gcd d1 d2; rwa [← hg] at this
  have := Int.le_of_dvd (by omega) d3
  have : g * 2 ≤ g * k := Int.mul_le_mul_of_nonneg_left hk (by omega)
  omega
theorem gcd_parts (A B : Int) : ∃ g a b : Int, g = Int.gcd A B ∧ A = g * a ∧ B = g * b := by
  obtain ⟨a, ha⟩ := Int.gcd_dvd_left A B
  obtain ⟨b, hb⟩ := Int.gcd_dvd_right A B
  exact ⟨_, a, b, rfl, ha, hb⟩
/-- Where there is room there is a least force; where not all fit some of them give just what the others leave. -/
theorem isF_exists {n : Nat} {U L E : Nat → Int} {load : Int} (hs : Sp7 n U L E) (hroom : sm n L ≤ load) : ∃ a b, IsF n U L E load a b ∧ (load < sm n U → ∃ S A B g, Fin7 n U L E load S A B ∧ 1 ≤ g ∧ A = g * a ∧ B = g * b) := by
  by_cases c : sm n U ≤ load
  · exact ⟨0, 1, isF_none hs c, fun h => by omega⟩
  · obtain ⟨S, A, B, hF⟩ := fin_of hs _ _ _ _ _ (Nat.le_refl _) (Rnd.start hs hroom (by omega))
    obtain ⟨g, a, b, hg, ha, hb⟩ := gcd_parts A B
    obtain ⟨g1, hc⟩ := cop_gcd hF.B1 hg ha hb
    exact ⟨a, b, hF.isF g1 ha hb hc, fun _ => ⟨S, A, B, g, hF, g1, ha, hb⟩⟩

/-- Two numbers that lie in a block, and may be written. -/
def Dup (w : World) (b : Nat) (x y : Int) : Prop := Duo w b x y ∧ w.frozen? ⟨b, 0, none⟩ = false ∧ w.frozen? ⟨b, 1, none⟩ = false
theorem Dup.kept {w w' : World} {c : Nat} {x y : Int} {row : Option Nat} (h : Dup w c x y) (hg : w.grownBy w' row) (hne : some c ≠ row) : Dup w' c x y := by
  have hb := hg.block c h.1.lt hne
  exact ⟨h.1.kept hg hne, (World.frozen?_of_block (w := w) (a := ⟨c, 0, none⟩) hb).trans h.2.1, (World.frozen?_of_block (w := w) (a := ⟨c, 1, none⟩) hb).trans h.2.2⟩
theorem Dup.later {w w' : World} {c : Nat} {x y : Int} (h : Dup w c x y) (hb : Below w.heap.size w w') : Dup w' c x y := h.kept (grown_of hb) (by simp)
theorem Dup.new (w : World) (x y : Int) (t : TypeId) : Dup (w.alloc (.cells #[.int .i64 x, .int .i64 y] t)) w.heap.size x y := ⟨Duo.new _ _ _ _, by simp, by simp⟩

theorem atl_struck {u m e : Nat → Int} {A B g a b : Int} (g1 : 1 ≤ g) (ha : A = g * a) (hb : B = g * b) (i : Nat) : atlB (u i) (m i) (e i) a b = decide (slk u (lo7 u m e) i * B ≤ A * e i) := by
  unfold atlB
  show decide (slk u (lo7 u m e) i * b ≤ e i * a) = _
  generalize slk u (lo7 u m e) i = x
  rw [ha, hb]
  have e1 : x * (g * b) = g * (x * b) := by rw [← Int.mul_assoc, Int.mul_comm x g, Int.mul_assoc]
  have e2 : g * a * e i = g * (e i * a) := by rw [Int.mul_assoc, Int.mul_comm a]
  rw [e1, e2]
  by_cases c : x * b ≤ e i * a
  · rw [decide_eq_true c, decide_eq_true (Int.mul_le_mul_of_nonneg_left c (by omega))]
  · rw [decide_eq_false c, decide_eq_false (fun h => c (Int.le_of_mul_le_mul_left h (by omega)))]

set_option maxHeartbeats 2000000 in
set_option maxRecDepth 100000 in
theorem leastForce_any (n : Nat) (u m e : Nat → Int) (load a b : Int) (v : Value) (w : World) (h : Sprs w v n u m e) (hS : fitS n u m e) (hroom : sm n (lo7 u m e) ≤ load) (l0 : 0 ≤ load) (l1 : load ≤ 1099511627776) (hF : IsF n u (lo7 u m e) e load a b) (hL : Lim w) :
    Calls Tryd.prog 42 #[v, .int .i64 load] w fun r w' => r = .returned (.agg #[.int .i64 a, .int .i64 b]) ∧ Below w.heap.size w w' := by
  have hsp := hS.sp
  have t0 : 0 ≤ sm n u := sm_nonneg (fun i hi => by have := hS.2 i hi; omega)
  have t1 : sm n u ≤ 4194304 := by
    have := sm_le (n := n) (f := u) (g := fun _ => 1048576) hsp.unit
    rw [sm_const] at this
    have := hS.1
    omega
  have hB0 : Below w.heap.size w (w.alloc (.cells #[.int .i64 0, .int .i64 0] 75)) := (Below.refl _ _).alloc (Nat.le_refl _) _
  have hR0 := Dup.new w 0 0 75
  have HF : Hid (IsF n u (lo7 u m e) e load a b) := hF
  have HM : Hid (sm n (lo7 u m e) ≤ load) := hroom
  clear hF hroom
  go_enter Tryd.func42, Tryd.ntmps42
  go_wp2_with fail
  refine (total_top n u m e v _ (h.later hB0) hS (hL.later hB0)).mono ?_
  rintro r w1 ⟨rfl, hb1⟩
  have hB1 : Below w.heap.size w w1 := hB0.trans (hb1.mono hB0.size)
  have hR1 := hR0.later hb1
  clear hR0 hb1 hB0 hL
  by_cases ho : sm n u - load ≤ 0
  · have HA : Hid (a = 0 ∧ b = 1) := by
      have := (isF_none hsp (show sm n u ≤ load by omega)).one HF.out
      exact ⟨this.1.symm, this.2.symm⟩
    obtain ⟨⟨c0, c1⟩, f0, f1⟩ := hR1
    have sw := World.block_lt_of_cell? _ _ c0
    generalize sm n u = q at *
    go_wp2_with fail
    refine bodyPost_ret (v := .agg #[.int .i64 0, .int .i64 1]) ?_ rfl ⟨by rw [HA.out.1, HA.out.2], (hB1.setCell (p := ⟨w.heap.size, 0, none⟩) (Nat.le_refl _) _).setCell (p := ⟨w.heap.size, 1, none⟩) (Nat.le_refl _) _⟩
    simp [results, Tryd.results42, go_sem, c0, c1]
  · have HR : Hid (Rnd n u (lo7 u m e) e load (fun i => decide (0 < slk u (lo7 u m e) i)) (sm n u - load) 0 1) := Rnd.start hsp HM.out (by omega)
    have sw1 := World.block_lt_of_cell? _ _ hR1.1.1
    generalize hq : sm n u = q at *
    clear hq
    go_wp2_with fail
    refine (yielding_any n u m e v _ (h.later hB1) hS).mono ?_
    rintro r w2 ⟨rfl, hM2, hb2⟩
    have hB2 : Below w.heap.size w w2 := hB1.trans (hb2.mono hB1.size)
    have hR2 := hR1.later hb2
    obtain ⟨bm, hbm⟩ : ∃ bm, w1.heap.size = bm := ⟨_, rfl⟩
    rw [hbm] at hM2 sw1 ⊢
    clear hR1 hb2 hB1 hbm
    go_wp2_with fail
    go_loopw [5] (fun s wr => ∃ (S : Nat → Bool) (ov a0 b0 : Int), s = .int .i64 ov ∧ 0 < ov ∧ ov ≤ 4194304 ∧ Hid (Rnd n u (lo7 u m e) e load S ov a0 b0) ∧ MapS wr bm n u m e S ∧ Dup wr w.heap.size 0 0 ∧ Below w.heap.size w wr) (fun s _ => (intOf s).toNat)
    case atStart => exact ⟨_, q - load, 0, 1, by go_num, by omega, by omega, HR.out, hM2, hR2, hB2⟩
    case round =>
      clear HR hM2 hR2 hB2
      obtain ⟨S, ov, a0, b0, rfl, o0, o1, HR, hM, hR, hB⟩ := hrel
      obtain ⟨p1, p32⟩ := HR.out.pull hsp
      have HE : Hid (∀ i, i < n → S i = true → 1 ≤ e i) := fun i hi hs => by
        have h1 := HR.out.give i hi hs
        have h2 := hsp.e0 i hi
        have h3 := hsp.stiff i hi
        unfold slk at h1
        by_cases c : e i = 0
        · have := h3 c; omega
        · omega
      go_wp2_with fail
      refine (pull_any n bm u m e S _ hM hS).mono ?_
      rintro r w3 ⟨rfl, hb3⟩
      have hM3 := hM.later hb3
      have hR3 := hR.later hb3
      have hB3 : Below w.heap.size w w3 := hB.trans (hb3.mono hB.size)
      clear hM hR hB hb3
      obtain ⟨p, hp⟩ : ∃ p, sm n (sel S e) = p := ⟨_, rfl⟩
      have HP : Hid (p = sm n (sel S e)) := hp.symm
      rw [hp] at p1 p32 ⊢
      clear hp
      obtain ⟨g, x, y, hg, hx, hy⟩ := gcd_parts ov p
      obtain ⟨g1, hc⟩ := cop_gcd p1 hg hx hy
      have HG : Hid (1 ≤ g ∧ ov = g * x ∧ p = g * y ∧ (∀ k : Int, 2 ≤ k → k ∣ x → k ∣ y → False)) := ⟨g1, hx, hy, hc⟩
      have HL : Hid (g = Int.gcd ov p) := hg
      have x0 : 0 ≤ x := by
        have : 0 < g * x := by rw [← hx]; exact o0
        have := Int.pos_of_mul_pos_right this (by omega)
        omega
      have x1 : x ≤ 4194304 := by
        have : 1 * x ≤ g * x := Int.mul_le_mul_of_nonneg_right g1 x0
        omega
      have y0 : 1 ≤ y := by
        have : 0 < g * y := by rw [← hy]; omega
        have := Int.pos_of_mul_pos_right this (by omega)
        omega
      have y1 : y ≤ 32 := by
        have : 1 * y ≤ g * y := Int.mul_le_mul_of_nonneg_right g1 (by omega)
        omega
      clear hg hx hy hc g1
      go_wp2_with fail
      refine (lowest_any ov p g x y _ (by omega) o1 p1 p32 HL.out HG.out.2.1 HG.out.2.2.1).mono ?_
      rintro r w4 ⟨rfl, hb4⟩
      have hM4 := hM3.later hb4
      have hR4 := hR3.later hb4
      have hB4 : Below w.heap.size w w4 := hB3.trans (hb4.mono hB3.size)
      clear hM3 hR3 hB3 hb4
      go_wp2_with fail
      have hbx : Below w4.heap.size w4 (w4.alloc (.cells #[.int .i64 x, .int .i64 y] 75)) := (Below.refl _ _).alloc (Nat.le_refl _) _
      have hfb := Duo.new w4 x y 75
      have hM5 := hM4.later hbx
      have hR5 := hR4.later hbx
      have hB5 : Below w.heap.size w (w4.alloc (.cells #[.int .i64 x, .int .i64 y] 75)) := hB4.trans (hbx.mono hB4.size)
      have hne : bm < w4.heap.size := hM4.lt
      clear hM4 hR4 hB4 hbx
      refine (settle_any n bm u m e S x y _ hM5 hS HE.out x0 x1 y0 y1).mono ?_
      rintro r w6 ⟨rfl, hM6, hg6⟩
      have hR6 := hR5.kept hg6 (by simp; omega)
      have hB6 : Below w.heap.size w w6 := hB5.grown hg6 hB5.size (fun k hk => by cases hk; omega)
      have hf6 := hfb.kept hg6 (by simp; omega)
      have hT : (fun i => S i && atlB (u i) (m i) (e i) x y) = struck u (lo7 u m e) e S ov p := funext fun i => by
        unfold struck
        rw [atl_struck HG.out.1 HG.out.2.1 HG.out.2.2.1]
      have hT2 : (fun i => S i && !atlB (u i) (m i) (e i) x y) = left7 u (lo7 u m e) e S ov p := funext fun i => by
        unfold left7
        rw [atl_struck HG.out.1 HG.out.2.1 HG.out.2.2.1]
      rw [hT]
      rw [hT2] at hM6
      obtain ⟨gv, hgv⟩ : ∃ gv, sm n (sel (struck u (lo7 u m e) e S ov p) (slk u (lo7 u m e))) = gv := ⟨_, rfl⟩
      have HV : Hid (sm n (sel (struck u (lo7 u m e) e S ov p) (slk u (lo7 u m e))) = gv) := hgv
      rw [hgv]
      clear hgv hT hT2 hg6 hR5 hB5 hfb hM5
      obtain ⟨d0, d1⟩ := hf6
      have sf := World.block_lt_of_cell? _ _ d0
      by_cases hend : gv = 0 ∨ gv = ov
      · have HA : Hid (x = a ∧ y = b) := by
          refine (((HR.out.fin hsp HP.out (by rw [HV.out]; exact hend)).isF HG.out.1 HG.out.2.1 HG.out.2.2.1 HG.out.2.2.2).one HF.out)
        obtain ⟨⟨c0, c1⟩, f0, f1⟩ := hR6
        have sw := World.block_lt_of_cell? _ _ c0
        rcases hend with rfl | rfl
        · go_wp2_with fail
          refine bodyPost_ret (v := .agg #[.int .i64 x, .int .i64 y]) ?_ rfl ⟨by rw [HA.out.1, HA.out.2], (hB6.setCell (p := ⟨w.heap.size, 0, none⟩) (Nat.le_refl _) _).setCell (p := ⟨w.heap.size, 1, none⟩) (Nat.le_refl _) _⟩
          simp [results, Tryd.results42, go_sem, c0, c1]
        · by_cases hz : gv = 0
          · omega
          · go_wp2_with fail
            refine bodyPost_ret (v := .agg #[.int .i64 x, .int .i64 y]) ?_ rfl ⟨by rw [HA.out.1, HA.out.2], (hB6.setCell (p := ⟨w.heap.size, 0, none⟩) (Nat.le_refl _) _).setCell (p := ⟨w.heap.size, 1, none⟩) (Nat.le_refl _) _⟩
            simp [results, Tryd.results42, go_sem, c0, c1]
      · have hz0 : ¬ gv = 0 := fun h => hend (.inl h)
        have hz1 : ¬ gv = ov := fun h => hend (.inr h)
        obtain ⟨hN, _, hpos⟩ := HR.out.next hsp HP.out HV.out.symm hz0 hz1
        have n0 := hN.pos
        have HN : Hid (Rnd n u (lo7 u m e) e load (left7 u (lo7 u m e) e S ov p) (ov - gv) ov p) := hN
        have q0 : (gv == 0) = false := by simpa using hz0
        have q1 : (gv == ov) = false := by simpa using hz1
        clear hN hend
        go_wp2_with fail
        go_roundw
        case rel => exact ⟨_, ov - gv, ov, p, by go_num, by omega, by omega, HN.out, hM6, hR6, hB6⟩
        case measure => simp [intOf]; omega
end Go.Proofs.YtmiakknagjncpaaDoor
/- Walks of package spring: Force and Press; the document's example. -/
namespace Go.Proofs.YtmiakknagjncpaaDoor
open Go.RowKit

theorem roomB_of {n : Nat} {u m e : Nat → Int} {load : Int} (h : roomB n u m e load = true) : fitS n u m e ∧ (0 ≤ load ∧ load ≤ 1099511627776) ∧ sm n (lo7 u m e) ≤ load := by
  unfold roomB at h
  rw [Bool.and_eq_true, Bool.and_eq_true] at h
  exact ⟨sprB_of h.1, of_decide_eq_true (show decide (0 ≤ load ∧ load ≤ 1099511627776) = true from h.2.1), of_decide_eq_true h.2.2⟩
theorem roomB_yes {n : Nat} {u m e : Nat → Int} {load : Int} (h : fitS n u m e) (h0 : 0 ≤ load) (h1 : load ≤ 1099511627776) (h2 : sm n (lo7 u m e) ≤ load) : roomB n u m e load = true := by
  unfold roomB
  rw [sprB_yes h, decide_eq_true h2]
  have : wiB load 0 1099511627776 = true := decide_eq_true ⟨h0, h1⟩
  rw [this]; rfl

/-- The force: 0 and 0, if there is no room. -/
def Frc (n : Nat) (u m e : Nat → Int) (load a b : Int) (rb : Bool) : Prop := roomB n u m e load = rb ∧ (rb = true → IsF n u (lo7 u m e) e load a b) ∧ (rb = false → a = 0 ∧ b = 0)
theorem frc_exists (n : Nat) (u m e : Nat → Int) (load : Int) : ∃ a b rb, Frc n u m e load a b rb := by
  cases h : roomB n u m e load
  · exact ⟨0, 0, false, h, (fun h => by cases h), fun _ => ⟨rfl, rfl⟩⟩
  · obtain ⟨h1, _, h2⟩ := roomB_of h
    obtain ⟨a, b, hF, _⟩ := isF_exists h1.sp h2
    exact ⟨a, b, true, h, fun _ => hF, fun h => by cases h⟩
theorem Frc.one {n : Nat} {u m e : Nat → Int} {load a b a' b' : Int} {rb rb' : Bool} (h : Frc n u m e load a b rb) (h' : Frc n u m e load a' b' rb') : a = a' ∧ b = b' ∧ rb = rb' := by
  obtain ⟨h1, h2, h3⟩ := h
  obtain ⟨h1', h2', h3'⟩ := h'
  obtain rfl := h1.symm.trans h1'
  cases rb
  · obtain ⟨rfl, rfl⟩ := h3 rfl; obtain ⟨rfl, rfl⟩ := h3' rfl; exact ⟨rfl, rfl, rfl⟩
  · obtain ⟨rfl, rfl⟩ := (h2 rfl).one (h2' rfl); exact ⟨rfl, rfl, rfl⟩

/-- What Press tells. -/
def prs7 (n : Nat) (u m e : Nat → Int) (a b : Int) (rb : Bool) : List Int := bif rb then lst7 n (fun i => hasV (u i) (m i) (e i) a b) else []
def PrsE (B : Nat) (xs : List Int) (rb : Bool) (w : World) (r : Ending) (w' : World) : Prop :=
  ∃ x, r = .returned (.tuple #[x, .bool rb]) ∧ w'.ownsRow B 3 1 x xs.length (ivs xs) ∧ Below B w w'

set_option maxHeartbeats 1000000 in
set_option maxRecDepth 100000 in
theorem press7_any (n : Nat) (u m e : Nat → Int) (load a b : Int) (rb : Bool) (v : Value) (w : World) (h : Sprs w v n u m e) (hF : Frc n u m e load a b rb) (hL : Lim w) :
    Calls Tryd.prog 21 #[v, .int .i64 load] w (PrsE w.heap.size (prs7 n u m e a b rb) rb w) := by
  obtain ⟨hr, hy, hn⟩ := hF
  have HR : Hid (roomB n u m e load = rb) := hr
  cases rb
  · clear hr hy hn
    go_enter Tryd.func21, Tryd.ntmps21
    go_wp2_with fail
    refine (room7_any n u m e load v _ h hL).mono ?_
    rintro r w1 ⟨rfl, hb1⟩
    rw [HR.out]
    go_wp2
    exact bodyPost_ret (v := .tuple #[.slice none 0 0, .bool false]) (by simp [results, Tryd.results21, go_sem]) rfl ⟨_, rfl, ⟨rfl, .inl ⟨rfl, rfl⟩⟩, hb1⟩
  · have HF : Hid (IsF n u (lo7 u m e) e load a b) := hy rfl
    obtain ⟨hS, ⟨l0, l1⟩, hm⟩ := roomB_of hr
    clear hr hy hn
    have HM : Hid (sm n (lo7 u m e) ≤ load) := hm
    clear hm
    go_enter Tryd.func21, Tryd.ntmps21
    go_wp2_with fail
    refine (room7_any n u m e load v _ h hL).mono ?_
    rintro r w1 ⟨rfl, hb1⟩
    rw [HR.out]
    go_wp2_with fail
    refine (leastForce_any n u m e load a b v _ (h.later hb1) hS HM.out l0 l1 HF.out (hL.later hb1)).mono ?_
    rintro r w2 ⟨rfl, hb2⟩
    have hb : Below w.heap.size w w2 := hb1.trans (hb2.mono hb1.size)
    have hs := hb.size
    clear hb1 hb2
    go_wp2_with fail
    refine (has_at a b _).mono ?_
    rintro r w3 ⟨rfl, rfl⟩
    have hb3 : Below w.heap.size w (w2.alloc (.cells #[.int .i64 a, .int .i64 b] 75)) := hb.alloc hs _
    have hs3 := hb3.size
    go_wp2_with fail
    refine (each_has n u m e v _ a b w2.heap.size HF.out.a0 HF.out.abig HF.out.b1 HF.out.b32 (Duo.new _ _ _ _) hS (h.later hb3) hS.1).mono ?_
    rintro r w4 ⟨x, rfl, hown, hb4⟩
    go_wp2
    refine bodyPost_ret (v := .tuple #[x, .bool true]) (by simp [results, Tryd.results21, go_sem]) rfl ⟨x, rfl, ?_, hb3.trans (hb4.mono hs3)⟩
    have ho := hown.1
    rcases hown.2 with hz | ⟨g, cap, cur, hv, hg, hh⟩
    · exact ⟨ho, .inl hz⟩
    · exact ⟨ho, .inr ⟨g, cap, cur, hv, Nat.le_trans hs3 hg, hh⟩⟩
end Go.Proofs.YtmiakknagjncpaaDoor
/- What follows of the least force: plain arithmetic. -/
namespace Go.Proofs.YtmiakknagjncpaaDoor

/-- What each has, rounded down. -/
def hv (u m e : Nat → Int) (a b : Int) (i : Nat) : Int := hasV (u i) (m i) (e i) a b

section
variable {n : Nat} {u m e : Nat → Int} {a b load : Int}

theorem hv_floor (b1 : 1 ≤ b) {i : Nat} : b * hv u m e a b i ≤ hav u (lo7 u m e) e a b i ∧ hav u (lo7 u m e) e a b i + 1 ≤ b * hv u m e a b i + b := by
  unfold hv hasV hav
  show b * max (u i - cl (a * e i) b) (lo7 u m e i) ≤ _ ∧ _ ≤ b * max (u i - cl (a * e i) b) (lo7 u m e i) + b
  have h1 := cl_ge (a := a * e i) b1
  have h2 := cl_lt (a := a * e i) b1
  generalize cl (a * e i) b = q at *
  generalize lo7 u m e i = l at *
  generalize u i = x at *
  generalize a * e i = y at *
  have e1 : b * (x - q) = b * x - q * b := by rw [Int.mul_sub, Int.mul_comm b q]
  have e2 : (q - 1) * b = q * b - b := by rw [Int.sub_mul]; omega
  rw [e2] at h2
  by_cases c : x - q ≤ l
  · rw [Int.max_eq_right c]
    have := Int.mul_le_mul_of_nonneg_left c (show 0 ≤ b by omega)
    omega
  · rw [Int.max_eq_left (show l ≤ x - q by omega)]
    have := Int.mul_le_mul_of_nonneg_left (show l ≤ x - q by omega) (show 0 ≤ b by omega)
    omega
theorem hv_lo {i : Nat} : lo7 u m e i ≤ hv u m e a b i := by
  unfold hv hasV
  show lo7 u m e i ≤ max _ (lo7 u m e i)
  omega
theorem hv_up (h : fitS n u m e) (a0 : 0 ≤ a) (b1 : 1 ≤ b) {i : Nat} (hi : i < n) : hv u m e a b i ≤ u i := by
  have h1 := cl_ge (a := a * e i) b1
  have h2 : 0 ≤ cl (a * e i) b := le_cl_of b1 (by rw [Int.zero_sub, Int.neg_one_mul]; have := Int.mul_nonneg a0 (h.sp.e0 i hi); omega)
  have := h.sp.top i hi
  unfold hv hasV
  show max _ (lo7 u m e i) ≤ u i
  omega
theorem fits_sum (hF : IsF n u (lo7 u m e) e load a b) : sm n (hv u m e a b) ≤ load := by
  have h1 := sm_le (n := n) (f := fun i => b * hv u m e a b i) (g := hav u (lo7 u m e) e a b) (fun i _ => (hv_floor hF.b1).1)
  rw [sm_mul] at h1
  exact Int.le_of_mul_le_mul_left (Int.le_trans h1 hF.enough) (by have := hF.b1; omega)
theorem fits_full (h : fitS n u m e) (hF : IsF n u (lo7 u m e) e load a b) (hl : sm n u ≤ load) : sm n (hv u m e a b) = sm n u := by
  obtain ⟨rfl, rfl⟩ := (isF_none h.sp hl).one hF
  refine sm_congr (fun i hi => ?_)
  have h1 : cl (0 * e i) 1 = 0 := by rw [Int.zero_mul]; decide
  unfold hv hasV
  rw [h1]
  have := h.sp.top i hi
  unfold lo7 at this
  omega
theorem fits_rest (h : fitS n u m e) (l0 : 0 ≤ load) (hF : IsF n u (lo7 u m e) e load a b) (hl : load < sm n u) : load < sm n (hv u m e a b) + n := by
  have hn : 1 ≤ n := by
    rcases Nat.eq_zero_or_pos n with rfl | h
    · have : load < 0 := hl; omega
    · exact h
  have h1 := sm_le (n := n) (f := fun i => hav u (lo7 u m e) e a b i + 1) (g := fun i => b * hv u m e a b i + b) (fun i _ => (hv_floor hF.b1).2)
  rw [sm_add n (hav u (lo7 u m e) e a b) (fun _ => 1), sm_add n (fun i => b * hv u m e a b i) (fun _ => b), sm_mul, sm_const, sm_const] at h1
  have h2 : sm n (hav u (lo7 u m e) e a b) = b * load := hF.just hl
  rw [h2] at h1
  have h3 : b * load < b * (sm n (hv u m e a b) + n) := by rw [Int.mul_add, Int.mul_comm b (n : Int)]; omega
  exact Int.lt_of_mul_lt_mul_left h3 (by have := hF.b1; omega)

end
end Go.Proofs.YtmiakknagjncpaaDoor
/- The law: what is pressed has no more than the load. -/
namespace Go.Proofs.YtmiakknagjncpaaDoor
open Go.RowKit

/-- A list that is read, by its length and what each is. -/
theorem nums_open {w : World} {v : Value} {n : Nat} {g : Nat → Int} (h : Nums w v (lst7 n g)) : ∃ a cap, v = .slice a n cap ∧ n ≤ cap ∧ cap ≤ maxLen ∧ (0 < n → ∃ b o, a = some ⟨b, o, none⟩ ∧ ∀ i, i < n → w.cell? ⟨b, o + i, none⟩ = some (.int .i64 (g i))) := by
  obtain ⟨a, cap, rfl, h1, h2, h3⟩ := h
  rw [lst7_len] at h1 h3
  refine ⟨a, cap, by rw [lst7_len], h1, h2, fun hn => ?_⟩
  obtain ⟨b, o, rfl, h4⟩ := h3 (by intro e; have := congrArg List.length e; rw [lst7_len, List.length_nil] at this; omega)
  exact ⟨b, o, rfl, fun i hi => by rw [h4 i hi, lst7_at hi]⟩
end Go.Proofs.YtmiakknagjncpaaDoor
/- The law: in another order springs are pressed alike. -/
namespace Go.Proofs.YtmiakknagjncpaaDoor
open Go.RowKit

/-- The other way round. -/
def rev7 (n : Nat) (g : Nat → Int) (i : Nat) : Int := g (n - 1 - i)
theorem rev7_fit {n : Nat} {u m e : Nat → Int} (h : fitS n u m e) : fitS n (rev7 n u) (rev7 n m) (rev7 n e) := ⟨h.1, fun i hi => h.2 (n - 1 - i) (by omega)⟩
theorem rev7_fit' {n : Nat} {u m e : Nat → Int} (h : fitS n (rev7 n u) (rev7 n m) (rev7 n e)) : fitS n u m e := ⟨h.1, fun i hi => by
  have := h.2 (n - 1 - i) (by omega)
  unfold rev7 at this
  have e : n - 1 - (n - 1 - i) = i := by omega
  rw [e] at this
  exact this⟩
theorem rev7_room (n : Nat) (u m e : Nat → Int) (load : Int) : roomB n (rev7 n u) (rev7 n m) (rev7 n e) load = roomB n u m e load := by
  have e1 : sprB n (rev7 n u) (rev7 n m) (rev7 n e) = sprB n u m e := by
    cases h : sprB n u m e
    · cases h' : sprB n (rev7 n u) (rev7 n m) (rev7 n e)
      · rfl
      · rw [sprB_yes (rev7_fit' (sprB_of h'))] at h; cases h
    · rw [sprB_yes (rev7_fit (sprB_of h))]
  have e2 : sm n (lo7 (rev7 n u) (rev7 n m) (rev7 n e)) = sm n (lo7 u m e) := sm_back n (lo7 u m e)
  unfold roomB
  rw [e1, e2]
theorem rev7_isF {n : Nat} {u m e : Nat → Int} {load a b : Int} (h : IsF n u (lo7 u m e) e load a b) : IsF n (rev7 n u) (lo7 (rev7 n u) (rev7 n m) (rev7 n e)) (rev7 n e) load a b := by
  have e1 : ∀ c d, tot n (rev7 n u) (lo7 (rev7 n u) (rev7 n m) (rev7 n e)) (rev7 n e) c d = tot n u (lo7 u m e) e c d := fun c d => sm_back n (hav u (lo7 u m e) e c d)
  have e2 : sm n (rev7 n u) = sm n u := sm_back n u
  exact ⟨h.a0, h.b1, h.b32, h.abig, h.cop, by rw [e1]; exact h.enough, fun hl => by rw [e1]; exact h.just (by rw [← e2]; exact hl), fun c d hc hd ht => h.least c d hc hd (by rw [← e1]; exact ht)⟩
theorem rev7_frc {n : Nat} {u m e : Nat → Int} {load a b : Int} {rb : Bool} (h : Frc n u m e load a b rb) : Frc n (rev7 n u) (rev7 n m) (rev7 n e) load a b rb :=
  ⟨by rw [rev7_room]; exact h.1, fun hr => rev7_isF (h.2.1 hr), h.2.2⟩

/-- Springs, as cells. -/
def flat7 (n : Nat) (u m e : Nat → Int) : List Value := (List.range n).flatMap fun i => [.int .i64 (u i), .int .i64 (m i), .int .i64 (e i)]
theorem flat7_succ (n : Nat) (u m e : Nat → Int) : flat7 (n + 1) u m e = flat7 n u m e ++ [.int .i64 (u n), .int .i64 (m n), .int .i64 (e n)] := by
  unfold flat7; rw [List.range_succ, List.flatMap_append]; rfl
theorem flat7_len (n : Nat) (u m e : Nat → Int) : (flat7 n u m e).length = n * 3 := by
  induction n with
  | zero => rfl
  | succ n ih => rw [flat7_succ, List.length_append, ih]; simp; omega
theorem flat7_at (n : Nat) (u m e : Nat → Int) (i : Nat) (h : i < n) : (flat7 n u m e)[i * 3]? = some (.int .i64 (u i)) ∧ (flat7 n u m e)[i * 3 + 1]? = some (.int .i64 (m i)) ∧ (flat7 n u m e)[i * 3 + 2]? = some (.int .i64 (e i)) := by
  induction n with
  | zero => omega
  | succ n ih =>
    rw [flat7_succ]
    have hl := flat7_len n u m e
    rcases Nat.lt_succ_iff_lt_or_eq.1 h with h1 | rfl
    · have := ih h1
      rw [List.getElem?_append_left (by omega), List.getElem?_append_left (by omega), List.getElem?_append_left (by omega)]
      exact this
    · rw [List.getElem?_append_right (by omega), List.getElem?_append_right (by omega), List.getElem?_append_right (by omega), hl]
      have e0 : i * 3 - i * 3 = 0 := by omega
      have e1 : i * 3 + 1 - i * 3 = 1 := by omega
      have e2 : i * 3 + 2 - i * 3 = 2 := by omega
      rw [e0, e1, e2]
      exact ⟨rfl, rfl, rfl⟩
theorem Sprs.own {w : World} {base : Nat} {v : Value} {n : Nat} {u m e : Nat → Int} (h : w.ownsRow base 59 3 v n (flat7 n u m e)) : Sprs w v n u m e := by
  have hcs := fun g hg => h.cells (g := g) hg
  obtain ⟨_, ⟨rfl, hz⟩ | ⟨g, cap, cur, rfl, hb, hh, h1, h2, _⟩⟩ := h
  · subst hz
    exact ⟨none, 0, rfl, by simp, by simp, fun _ => rfl, fun h => by omega⟩
  · refine ⟨_, cap, rfl, h1, h2, fun h => by simp at h, fun _ => ⟨g, 0, rfl, fun i hi => ?_⟩⟩
    obtain ⟨f0, f1, f2⟩ := flat7_at n u m e i hi
    have k0 := hcs g rfl _ _ f0
    have k1 := hcs g rfl _ _ f1
    have k2 := hcs g rfl _ _ f2
    rw [Go.WideShapes.add_plain] at k0 k1 k2
    exact ⟨k0, by rw [Nat.add_assoc]; exact k1, by rw [Nat.add_assoc]; exact k2⟩

theorem Tryd.infoSpr : (Tryd.prog.info? 59).map (fun i => (i.zero, i.size, i.bytes)) = some (some (.agg #[.int .i64 0, .int .i64 0, .int .i64 0]), 3, 24) := by kernel_rfl
/-- One spring more, behind those of the call's own. -/
theorem append_spr {w : World} {ops : Array Oper} {rest : List Oper} {o : Oper} {act : Act} {Q : Exit → Act → World → Prop} (hgd : o.guard = none) (s x : Operand)
    (ho : o.op = .call { callee := .builtin .append, args := #[s, x], argTypes := #[35, 35] }) (base : Nat) (v : Value) (k bb : Nat) (p q r : Int) (u m e : Nat → Int)
    (hs : act.eval s = v) (hown : w.ownsRow base 59 3 v k (flat7 k u m e)) (hx : act.eval x = .slice (some ⟨bb, 0, none⟩) 1 1) (hc : Thr w bb p q r) (hp : u k = p ∧ m k = q ∧ e k = r) (hn : (k + 1) * 24 ≤ 140737488355328) (hbase : base ≤ w.heap.size)
    (h : ∀ v' w', w'.ownsRow base 59 3 v' (k + 1) (flat7 (k + 1) u m e) → Below base w w' → wpList Tryd.prog ops Q rest (act.put o.dst v') w') : wpList Tryd.prog ops Q (o :: rest) act w := by
  obtain ⟨i0, hi, hz0, hz1, hz2⟩ := info_parts Tryd.infoSpr
  have hlow := hown.lt
  obtain ⟨rfl, rfl, rfl⟩ := hp
  refine wpList_append_own w hgd s x 35 ho base 59 i0 _ 3 24 Tryd.underlying35 hi hz0 hz1 hz2 rfl (by decide) v k (flat7 k u m e) hs hown ⟨bb, 0, none⟩ 1 1 [.int .i64 (u k), .int .i64 (m k), .int .i64 (e k)] hx rfl (fun j y hy => ?_) (fun y hy => ?_) (by unfold maxLen; omega) hn hbase ?_
  · rw [Go.WideShapes.add_plain]
    match j, hy with
    | 0, hy => simp at hy; subst hy; simpa using hc.1
    | 1, hy => simp at hy; subst hy; simpa using hc.2.1
    | 2, hy => simp at hy; subst hy; simpa using hc.2.2
  · simp at hy
    rcases hy with rfl | rfl | rfl <;> rfl
  · intro v' w' g1 g2 _
    rw [← flat7_succ] at g1
    exact h v' w' g1 ((Below.refl _ _).grown g2 hbase fun k hk => (hlow k hk).1)
end Go.Proofs.YtmiakknagjncpaaDoor
/- The law: in another order springs are pressed alike: the walk. -/
namespace Go.Proofs.YtmiakknagjncpaaDoor
open Go.RowKit

theorem prs_open {w : World} {v : Value} {n : Nat} {u m e : Nat → Int} {a b : Int} {rb : Bool} (h : Nums w v (prs7 n u m e a b rb)) : ∃ ax cap L, v = .slice ax L cap ∧ L ≤ cap ∧ cap ≤ maxLen ∧ (rb = true → L = n) ∧ (rb = false → L = 0) ∧ (0 < L → ∃ bk o, ax = some ⟨bk, o, none⟩ ∧ ∀ i, i < n → w.cell? ⟨bk, o + i, none⟩ = some (.int .i64 (hv u m e a b i))) := by
  cases rb
  · obtain ⟨ax, cap, rfl, h1, h2, _⟩ := h
    exact ⟨ax, cap, 0, rfl, h1, h2, (fun h => by cases h), fun _ => rfl, fun h => by omega⟩
  · obtain ⟨ax, cap, rfl, h1, h2, h3⟩ := nums_open (g := hv u m e a b) h
    exact ⟨ax, cap, n, rfl, h1, h2, fun _ => rfl, (fun h => by cases h), h3⟩
end Go.Proofs.YtmiakknagjncpaaDoor
/- The law: no others have lesser squares. -/
namespace Go.Proofs.YtmiakknagjncpaaDoor
open Go.RowKit

theorem lst7_succ (n : Nat) (g : Nat → Int) : lst7 (n + 1) g = lst7 n g ++ [g n] := by unfold lst7; rw [List.range_succ, List.map_append]; rfl
end Go.Proofs.YtmiakknagjncpaaDoor
/- Runs of numbers: what a round of a loop over one keeps; walks of each, of what over makes of it, of over and of periods of package period. -/
namespace Go.Proofs.YtmiakknagjncpaaDoor
open Go.RowKit Go.Shelf
attribute [local go_sem] Oper.semAt_some

/-- The numbers of a run, one by one. -/
def rn (f s : Int) (i : Nat) : Int := f + i * s
/-- A run has so many numbers. -/
structure Runs (f s last : Int) (N : Nat) : Prop where
  f0 : 0 ≤ f
  f1 : f ≤ 4398046511104
  s0 : 1 ≤ s
  s1 : s ≤ 4398046511104
  l1 : last ≤ 4398046511104
  lo : ∀ i, i < N → rn f s i ≤ last
  hi : last < rn f s N
theorem rn_zero (f s : Int) : rn f s 0 = f := by unfold rn; simp
theorem rn_succ (f s : Int) (i : Nat) : rn f s (i + 1) = rn f s i + s := by
  unfold rn; rw [Int.natCast_add, Int.add_mul]; simp; omega
theorem rn_ge {f s : Int} (h : 1 ≤ s) (i : Nat) : f + i ≤ rn f s i := by
  induction i with
  | zero => rw [rn_zero]; simp
  | succ i ih => rw [rn_succ]; omega

/-- What a round keeps: each block that holds a run lies as it lay. -/
def RunKept (W W' : World) : Prop := W.heap.size ≤ W'.heap.size ∧ ∀ (k : Nat) (cs : Array Value) (fr : Nat × Nat), W.heap[k]? = some (.cells cs 99 fr) → W'.heap[k]? = some (.cells cs 99 fr)
theorem runKept_t {A B C : World} (h : RunKept A B) (k : RunKept B C) : RunKept A C := ⟨Nat.le_trans h.1 k.1, fun i cs fr hi => k.2 i cs fr (h.2 i cs fr hi)⟩
theorem RunKept.refl (W : World) : RunKept W W := ⟨Nat.le_refl _, fun _ _ _ h => h⟩
theorem RunKept.of_below {W W' : World} (h : Below W.heap.size W W') : RunKept W W' := ⟨h.size, fun k _ _ hk => (h.block k (Array.getElem?_eq_some_iff.1 hk).1).trans hk⟩
theorem RunKept.of_grown {W W' : World} {row : Option Nat} (hg : W.grownBy W' row) (hr : ∀ k o, row = some k → W.heap[k]? = some o → ∀ cs fr, o ≠ .cells cs 99 fr) : RunKept W W' :=
  ⟨hg.size, fun k cs fr hk => (hg.block k (Array.getElem?_eq_some_iff.1 hk).1 (fun e => hr k _ e.symm hk cs fr rfl)).trans hk⟩
theorem runKept_b {w : World} (W : World) (l : Nat) (o o' : Obj) (_ : w.heap.size ≤ l) (h : W.heap[l]? = some o) (hc : o.isCells = false) (_ : o.isWalk = false) : RunKept W (W.putObj l o') :=
  RunKept.of_grown (grownBy_putObj' W l o') (fun k q e hq _ _ => by cases e; rw [h] at hq; cases hq; intro e; subst e; cases hc)

/-- A block that holds a run. -/
def RunAt (W : World) (b : Nat) (f s last : Int) : Prop := W.heap[b]? = some (.cells #[.int .i64 f, .int .i64 s, .int .i64 last] 99 (0, 0))
theorem RunAt.kept {W W' : World} {b : Nat} {f s last : Int} (h : RunAt W b f s last) (hk : RunKept W W') : RunAt W' b f s last := hk.2 _ _ _ h
theorem RunAt.cells {W : World} {b : Nat} {f s last : Int} (h : RunAt W b f s last) : W.cell? ⟨b, 0, none⟩ = some (.int .i64 f) ∧ W.cell? ⟨b, 1, none⟩ = some (.int .i64 s) ∧ W.cell? ⟨b, 2, none⟩ = some (.int .i64 last) := by
  have h' : W.heap[b]? = _ := h
  refine ⟨?_, ?_, ?_⟩ <;> simp [World.cell?, h']
theorem RunAt.new (W : World) (f s last : Int) : RunAt (W.alloc (.cells #[.int .i64 f, .int .i64 s, .int .i64 last] 99)) W.heap.size f s last := World.alloc_heap_new W _

theorem round_any {m m' : Nat} {P : Program} {l : Nat} {args : Array Value} {W : World} {R : Ending → World → Prop} (h : YieldAt Fence.wide m P l args W R) : YieldAt Fence.wide m' P l args W R := by
  obtain ⟨fn, tmps, assign, body, hy, hR⟩ := h
  exact ⟨fn, tmps, assign, body, hy, hR.1, fun c cs _ => hR.2 c cs (room_wide _)⟩

/-- The rounds that a loop over a run has: as long as it goes on, what it says holds of what came. -/
def RoundsAt (m l N : Nat) (J Jx : List Int → World → Prop) : Prop :=
  ∀ pre x W1, J pre W1 → pre.length < N → YieldAt Fence.wide m Tryd.prog l #[.int .i64 x] W1 fun e W' =>
    (e = .returned (.bool true) ∧ J (pre ++ [x]) W' ∧ RunKept W1 W') ∨ (e = .returned (.bool false) ∧ Jx (pre ++ [x]) W')

set_option maxHeartbeats 1000000 in
set_option maxRecDepth 100000 in
/-- A run hands its numbers on, in order, till no more are wanted. -/
theorem each_in (n l : Nat) (f s last : Int) (N : Nat) (hN : Runs f s last N) (J Jx : List Int → World → Prop) (hY : ∀ m, RoundsAt m l N J Jx) (W : World) (hJ : AbidesFrom W.heap.size J) (h0 : J [] W) :
    CallsIn Fence.wide n Tryd.prog 80 #[.agg #[.int .i64 f, .int .i64 s, .int .i64 last], .func (.yield l) #[] #[]] W fun e W' => (∃ v, e = .returned v) ∧
      ((∃ ys, ys = lst7 N (rn f s) ∧ J ys W') ∨ (∃ pre, (∃ k, k ≤ N ∧ pre = lst7 k (rn f s)) ∧ Jx pre W')) := by
  obtain ⟨f0, f1, s0, s1, l1, lo, hi⟩ := hN
  refine callsIn_of_wp Tryd.func80 rfl trivial ?_ rfl
  simp only [Tryd.ntmps80, List.size_toArray, List.length_cons, List.length_nil, Nat.reduceAdd, Nat.reduceSub, Array.replicate_succ, Array.replicate_zero, List.push_toArray, List.append_toArray, List.nil_append, List.cons_append]
  gi_wp2
  have hR0 := RunAt.new W f s last
  have hJ0 : J [] (W.alloc (.cells #[.int .i64 f, .int .i64 s, .int .i64 last] 99)) := hJ _ _ _ none h0 (World.grownBy_alloc W _ none) (fun r e => by cases e)
  gi_loopw [4] (fun v wr => ∃ k : Nat, k ≤ N ∧ v = .int .i64 (rn f s k) ∧ J (lst7 k (rn f s)) wr ∧ RunAt wr W.heap.size f s last) (fun v _ => (last + 1 - intOf v).toNat)
  case atStart => exact ⟨0, Nat.zero_le _, by rw [rn_zero], hJ0, hR0⟩
  case round =>
    obtain ⟨k, hk, rfl, hJs, hR⟩ := hrel
    obtain ⟨a0, a1, a2⟩ := hR.cells
    by_cases hlt : k < N
    · obtain ⟨fn, tmps, assign, body, hy, hRd⟩ := hY (n - 1) _ (rn f s k) wr hJs (by rw [lst7_len]; exact hlt)
      have g1 := lo k hlt
      have g2 := rn_ge (f := f) s0 k
      have g3 := rn_succ f s k
      obtain ⟨x, hx⟩ : ∃ x, rn f s k = x := ⟨_, rfl⟩
      have HX : Hid (rn f s k = x) := hx
      rw [hx] at g1 g2 g3 hy
      rw [hx]
      clear hx
      gi_wp2
      refine ⟨fun h => (by cases h), hRd.mono ?_⟩
      rintro e W3 (⟨rfl, hJ3, hk3⟩ | ⟨rfl, hJx3⟩)
      · have hR3 := hR.kept hk3
        obtain ⟨b0, b1, b2⟩ := hR3.cells
        gi_wp2
        go_roundw
        case rel =>
          exact ⟨k + 1, by omega, by rw [g3], by rw [lst7_succ]; exact hJ3, hR3⟩
        case measure => simp [intOf]; omega
      · gi_wp2
        refine bodyPost_ret (results_none rfl _ _ _) rfl ?_
        exact ⟨⟨_, rfl⟩, .inr ⟨_, ⟨k + 1, by omega, (lst7_succ _ _).symm⟩, hJx3⟩⟩
    · obtain rfl : k = N := by omega
      gi_wp2
      go_end0
      exact ⟨⟨_, rfl⟩, .inl ⟨_, rfl, hJs⟩⟩
end Go.Proofs.YtmiakknagjncpaaDoor
/- What may be ranged over; walks of over, of periods and of list of package period. -/
namespace Go.Proofs.YtmiakknagjncpaaDoor
open Go.RowKit Go.Shelf
attribute [local go_sem] Oper.semAt_some

/-- A function that may be ranged over, for a run. -/
def IsSeq (w : World) (v : Value) (f s last : Int) : Prop :=
  ∃ Bh Br, v = .func (.func 88) #[] #[.pointer (some ⟨Bh, 0, none⟩), .pointer (some ⟨Br, 0, none⟩)] ∧ Boxed w Bh 97 (.func (.func 80) #[] #[]) ∧ RunAt w Br f s last
theorem RunAt.later {w w' : World} {b : Nat} {f s last : Int} (h : RunAt w b f s last) (hb : Below w.heap.size w w') : RunAt w' b f s last := h.kept (RunKept.of_below hb)
theorem Boxed.later {w w' : World} {b : Nat} {t : TypeId} {v : Value} (h : Boxed w b t v) (hb : Below w.heap.size w w') : Boxed w' b t v := (hb.block b h.lt).trans h
theorem IsSeq.later {w w' : World} {v : Value} {f s last : Int} (h : IsSeq w v f s last) (hb : Below w.heap.size w w') : IsSeq w' v f s last := by
  obtain ⟨Bh, Br, rfl, h1, h2⟩ := h
  exact ⟨Bh, Br, rfl, Boxed.later h1 hb, h2.later hb⟩

/-- A round that appends keeps runs. -/
theorem run_appended {W w1 : World} {n0 B k : Nat} {v u : Value} {xs : List Value} {tmp : Array Value} (hrow : W.ownsRow n0 3 1 v k xs) (hg : (W.alloc (.cells tmp 3)).grownBy w1 v.ownBlock) (hv1 : Boxed w1 B 46 u) (y : Value) : RunKept W (w1.setCell ⟨B, 0, none⟩ y) := by
  refine runKept_t (runKept_t (B := W.alloc (.cells tmp 3)) (RunKept.of_below ((Below.refl _ _).alloc (Nat.le_refl _) _)) (RunKept.of_grown hg (fun j o ej hj cs fr e => ?_))) (RunKept.of_grown (grownBy_setCell' w1 B y) (fun j o ej hj cs fr e => ?_))
  · rcases (hrow.alloc (.cells tmp 3)).2 with ⟨rfl, _⟩ | ⟨g, cap, cur, rfl, _, hgb, _⟩
    · simp [Value.ownBlock] at ej
    · obtain rfl : g = j := by simpa [Value.ownBlock] using ej
      rw [hgb] at hj; cases hj; cases e
  · cases ej
    rw [show w1.heap[B]? = _ from hv1] at hj
    cases hj; cases e

set_option maxHeartbeats 1000000 in
set_option maxRecDepth 100000 in
theorem seq_stops (n Bh Br : Nat) (f s last : Int) (N : Nat) (hN : Runs f s last N) (w : World) (h1 : Boxed w Bh 97 (.func (.func 80) #[] #[])) (h2 : RunAt w Br f s last) :
    SeqStopsK Fence.wide n Tryd.prog 88 #[.pointer (some ⟨Bh, 0, none⟩), .pointer (some ⟨Br, 0, none⟩)] (fun x : Int => #[Value.int .i64 x]) RunKept (fun ys => ys = lst7 N (rn f s)) (fun pre => ∃ k, k ≤ N ∧ pre = lst7 k (rn f s)) N w := fun l J Jx W hW hJ _ hY h0 => by
  have c0 := (Boxed.later h1 hW).cell
  obtain ⟨c1, c2, c3⟩ := (h2.later hW).cells
  have H := each_in (n - 1) l f s last N hN J Jx (fun m pre x W1 a b => round_any (hY pre x W1 a b)) W hJ h0
  refine callsIn_of_wp Tryd.func88 rfl trivial ?_ rfl
  simp only [Tryd.ntmps88, List.size_toArray, List.length_cons, List.length_nil, Nat.reduceAdd, Nat.reduceSub, Array.replicate_succ, Array.replicate_zero, List.push_toArray, List.append_toArray, List.nil_append, List.cons_append]
  gi_wp2
  refine ⟨trivial, fun h => (by cases h), H.mono ?_⟩
  rintro e w1 ⟨⟨u, rfl⟩, hR⟩
  gi_wp2
  go_end0
  exact ⟨⟨_, rfl⟩, hR⟩

set_option maxHeartbeats 1000000 in
set_option maxRecDepth 100000 in
theorem over_any (f s last : Int) (w : World) :
    Calls Tryd.prog 79 #[.func (.func 80) #[] #[], .agg #[.int .i64 f, .int .i64 s, .int .i64 last]] w fun r w' => ∃ u, r = .returned u ∧ IsSeq w' u f s last ∧ Below w.heap.size w w' := by
  have b1 := (Boxed.new w 97 (.func (.func 80) #[] #[])).alloc (.cells #[.int .i64 f, .int .i64 s, .int .i64 last] 99)
  have b2 := RunAt.new (w.alloc (.cells #[.func (.func 80) #[] #[]] 97)) f s last
  rw [World.size_alloc] at b2
  go_enter Tryd.func79, Tryd.ntmps79
  go_wp2_with fail
  go_ret
  exact ⟨_, rfl, ⟨_, _, rfl, b1, b2⟩, ((Below.refl _ _).alloc (by simp) _).alloc (by simp) _⟩

set_option maxHeartbeats 1000000 in
set_option maxRecDepth 100000 in
theorem periods_any (c t x m k e : Int) (w : World) :
    Calls Tryd.prog 45 #[.agg #[.int .i64 c, .int .i64 t, .int .i64 x, .int .i64 m, .int .i64 k, .int .i64 e]] w fun r w' => ∃ u, r = .returned u ∧ IsSeq w' u t 1 x ∧ Below w.heap.size w w' := by
  have hS : Six (w.alloc (.cells #[.int .i64 c, .int .i64 t, .int .i64 x, .int .i64 m, .int .i64 k, .int .i64 e] 31)) w.heap.size (Sp.at ⟨c, t, x, m, k, e⟩) := Six.new w ⟨c, t, x, m, k, e⟩
  obtain ⟨a0, a1, a2, a3, a4, a5, b0, b1, b2, b3, b4, b5⟩ := hS.sp
  go_enter Tryd.func45, Tryd.ntmps45
  go_wp2_with fail
  refine (over_any t 1 x _).mono ?_
  rintro r w1 ⟨u, rfl, hs, hb⟩
  go_wp2_with fail
  go_ret
  exact ⟨u, rfl, hs, ((Below.refl _ _).alloc (by simp) _).trans (hb.mono (by simp))⟩

set_option maxHeartbeats 2000000 in
set_option maxRecDepth 100000 in
/-- What is handed on, in order. -/
theorem perlist_any (f s last : Int) (N : Nat) (hN : Runs f s last N) (hN1 : N ≤ 100000) (v : Value) (w : World) (h : IsSeq w v f s last) :
    Calls Tryd.prog 82 #[v] w fun r w' => ∃ u, r = .returned u ∧ w'.ownsRow w.heap.size 3 1 u N (ivs (lst7 N (rn f s))) ∧ Below w.heap.size w w' := by
  obtain ⟨Bh, Br, rfl, h1, h2⟩ := h
  obtain ⟨i0, hi, hz0, hz1, hz2⟩ := info_parts Tryd.infoInt
  refine (callsIn_wide (n := 3)).1 ?_
  refine callsIn_of_wp_marks Tryd.func82 rfl trivial ?_ rfl
  simp only [Tryd.ntmps82, List.size_toArray, List.length_cons, List.length_nil, Nat.reduceAdd, Nat.reduceSub, Array.replicate_succ, Array.replicate_zero, List.push_toArray, List.append_toArray, List.nil_append, List.cons_append]
  gi_wp2
  have bO := Boxed.new w 46 (.slice none 0 0)
  have hB0 : Below w.heap.size w (w.alloc (.cells #[.slice none 0 0] 46)) := (Below.refl _ w).alloc (Nat.le_refl _) _
  refine wpIn_rangeFunc_ownG rfl (by omega) (gf := 88) (lb := #[.pointer (some ⟨Bh, 0, none⟩), .pointer (some ⟨Br, 0, none⟩)]) rfl trivial (enters_of Tryd.func88 (by kernel_rfl) rfl)
    (seq_stops _ Bh Br f s last N hN _ (Boxed.later h1 hB0) (h2.later hB0)) runKept_t runKept_b (Below.refl _ _) (fun _ => rfl)
    (fun pre W => (∃ v, Boxed W w.heap.size 46 v ∧ W.ownsRow w.heap.size 3 1 v pre.length (ivs pre) ∧ True) ∧ Below w.heap.size w W)
    (fun _ _ _ => False)
    (OwnFrom.and (Own.from (holdsRow_own w.heap.size w.heap.size 46 3 1 (fun pre => pre.length) (fun pre => ivs pre) (fun _ _ => True)) _) (ownFrom_below (Nat.le_refl _) (by simp)))
    (fun _ _ _ _ _ hs _ _ => hs)
    ⟨⟨_, bO, World.ownsRow_nil _ _ _ _, trivial⟩, hB0⟩
    (fun x => { tmps := #[.func (.func 88) #[] #[.pointer (some ⟨Bh, 0, none⟩), .pointer (some ⟨Br, 0, none⟩)], undef, .slice none 0 0, .pointer (some ⟨w.heap.size, 0, none⟩), .int .i64 x, .func (.func 88) #[] #[.pointer (some ⟨Bh, 0, none⟩), .pointer (some ⟨Br, 0, none⟩)], .int .i64 x, undef, undef, undef, undef, undef], defers := [] }) ?assign ?body ?done ?stop
  case assign =>
    intro l x W K hK
    gi_wp2
    exact hK
  case body =>
    rintro l pre x W ⟨⟨v, hv, hrow, _⟩, hB⟩ hlt
    have hc := hv.cell
    gi_wp2_with (gi_at_builtin; refine wpListIn_append_own _ rfl _ _ 46 rfl w.heap.size 3 i0 (.int .i64 0) 1 8 Tryd.underlying46 hi hz0 hz1 hz2 rfl (by decide) _ _ _ rfl (hrow.alloc _) ⟨W.heap.size, 0, none⟩ 1 1 [.int .i64 x] rfl rfl (cell_one_new _ _ _) (by simp [Value.oneCell']) (by unfold maxLen; omega) (by omega) (by have := hB.size; simp; omega) ?_; intro v' w1 hown' hgrow _; obtain ⟨g', cap', rfl⟩ := ownsRow_succ hown'; obtain ⟨hv1, hv2, hr2, hk2, hb2⟩ := hv.appended (by decide) hrow hB.size (Nat.le_refl _) hown' hgrow; have hc1 := hv1.cell; have hf1 := hv1.frozen; have hrk := run_appended hrow hgrow hv1)
    exact ⟨hk2.from _, hrk _, ⟨_, hv2, by simpa [ivs] using hr2, trivial⟩, hB.trans hb2⟩
  case done =>
    rintro D ys W hD rfl ⟨⟨v, hv, hrow, _⟩, hB⟩ hK
    have hc := hv.cell
    gi_wp2
    refine ⟨by simp, .inl ⟨_, _, rfl, run_takeDeferred hK, ?_⟩⟩
    refine ⟨_, results_tmp rfl _ _ _, v, rfl, ?_, hB.trans (belowK_b (w := w) (Nat.le_refl _) W D _ _ (by simp at hD; omega) hK rfl rfl)⟩
    have := ownsRow_putObj hrow (.deferred none) hK rfl
    rwa [lst7_len] at this
  case stop =>
    rintro D c pre W _ _ h _
    exact h.elim
end Go.Proofs.YtmiakknagjncpaaDoor
/- The least period of units: walks of within and Of of package period. -/
namespace Go.Proofs.YtmiakknagjncpaaDoor
open Go.RowKit Go.Shelf
attribute [local go_sem] Oper.semAt_some

/-- How many periods a task may have, and which. -/
def perN (s : Sp) : Nat := (s.x - s.t + 1).toNat
def perL (s : Sp) : List Int := lst7 (perN s) (rn s.t 1)
/-- The least of them at which it has no more than u units. -/
def ofO (s : Sp) (u : Int) : Option Int := bif maySp s && wiB u 1 1048576 then (perL s).find? (fun p => decide (atV s p ≤ u)) else none
def ofP (s : Sp) (u : Int) : Int := (ofO s u).getD 0
def ofB (s : Sp) (u : Int) : Bool := (ofO s u).isSome

theorem per_runs {s : Sp} (h : maySp s = true) : Runs s.t 1 s.x (perN s) := by
  obtain ⟨c0, c1, f2, f3, f4, _⟩ := may_facts h
  have e : ((perN s : Nat) : Int) = s.x - s.t + 1 := by unfold perN; omega
  refine ⟨by omega, by omega, by omega, by omega, by omega, fun i hi => ?_, ?_⟩
  · unfold rn; have : (i : Int) < perN s := by exact_mod_cast hi
    omega
  · unfold rn; omega

set_option maxHeartbeats 1000000 in
set_option maxRecDepth 100000 in
theorem pwithin_any (n lo hi : Int) (w : World) : Calls Tryd.prog 44 #[.int .i64 n, .int .i64 lo, .int .i64 hi] w fun r w' => r = .returned (.bool (wiB n lo hi)) ∧ w' = w := by
  by_cases h : lo ≤ n
  · by_cases h' : n ≤ hi
    · have H : Hid (wiB n lo hi = true) := decide_eq_true ⟨h, h'⟩
      go_enter Tryd.func44, Tryd.ntmps44
      go_wp2_with fail
      go_ret
      exact ⟨ret_b H.out.symm, rfl⟩
    · have H : Hid (wiB n lo hi = false) := decide_eq_false (fun q => h' q.2)
      go_enter Tryd.func44, Tryd.ntmps44
      go_wp2_with fail
      go_ret
      exact ⟨ret_b H.out.symm, rfl⟩
  · have H : Hid (wiB n lo hi = false) := decide_eq_false (fun q => h q.1)
    go_enter Tryd.func44, Tryd.ntmps44
    go_wp2_with fail
    go_ret
    exact ⟨ret_b H.out.symm, rfl⟩

theorem of_no1 {s : Sp} {u : Int} (h : maySp s = false) : ofO s u = none := by unfold ofO; rw [h]; rfl
theorem of_no2 {s : Sp} {u : Int} (h : wiB u 1 1048576 = false) : ofO s u = none := by unfold ofO; rw [h, Bool.and_false]; rfl
theorem of_yes {s : Sp} {u : Int} (h : maySp s = true) (h' : wiB u 1 1048576 = true) : ofO s u = (perL s).find? (fun p => decide (atV s p ≤ u)) := by unfold ofO; rw [h, h']; rfl

/-- What Of keeps: the task, the units, and its two answers. -/
structure OfAt (W : World) (n : Nat) (s : Sp) (u p : Int) (b : Bool) : Prop where
  sp : Six W n s.at
  un : Boxed W (n + 1) 3 (.int .i64 u)
  pe : Boxed W (n + 1 + 1) 3 (.int .i64 p)
  is : Boxed W (n + 1 + 1 + 1) 4 (.bool b)
theorem OfAt.new (w : World) (c t x m k e u : Int) : OfAt ((((w.alloc (.cells #[.int .i64 c, .int .i64 t, .int .i64 x, .int .i64 m, .int .i64 k, .int .i64 e] 31)).alloc (.cells #[.int .i64 u] 3)).alloc (.cells #[.int .i64 0] 3)).alloc (.cells #[.bool false] 4)) w.heap.size ⟨c, t, x, m, k, e⟩ u 0 false := by
  have q0 : Six (w.alloc (.cells #[.int .i64 c, .int .i64 t, .int .i64 x, .int .i64 m, .int .i64 k, .int .i64 e] 31)) w.heap.size (Sp.at ⟨c, t, x, m, k, e⟩) := Six.new w ⟨c, t, x, m, k, e⟩
  have q1 := Boxed.alloc (Boxed.alloc (Boxed.new (w.alloc (.cells #[.int .i64 c, .int .i64 t, .int .i64 x, .int .i64 m, .int .i64 k, .int .i64 e] 31)) 3 (.int .i64 u)) (.cells #[.int .i64 0] 3)) (.cells #[.bool false] 4)
  have q2 := Boxed.alloc (Boxed.new ((w.alloc (.cells #[.int .i64 c, .int .i64 t, .int .i64 x, .int .i64 m, .int .i64 k, .int .i64 e] 31)).alloc (.cells #[.int .i64 u] 3)) 3 (.int .i64 0)) (.cells #[.bool false] 4)
  have q3 := Boxed.new (((w.alloc (.cells #[.int .i64 c, .int .i64 t, .int .i64 x, .int .i64 m, .int .i64 k, .int .i64 e] 31)).alloc (.cells #[.int .i64 u] 3)).alloc (.cells #[.int .i64 0] 3)) 4 (.bool false)
  simp only [World.size_alloc] at q1 q2 q3
  exact ⟨q0.later ((((Below.refl _ _).alloc (by simp) _).alloc (by simp) _).alloc (by simp) _), q1, q2, q3⟩
theorem OfAt.later {w w' : World} {n : Nat} {s : Sp} {u p : Int} {b : Bool} (h : OfAt w n s u p b) (hb : Below w.heap.size w w') : OfAt w' n s u p b :=
  ⟨h.sp.later hb, Boxed.later h.un hb, Boxed.later h.pe hb, Boxed.later h.is hb⟩
theorem Boxed.beside {W : World} {B b : Nat} {t : TypeId} {v : Value} (h : Boxed W B t v) (hn : B ≠ b) (y : Value) : Boxed (W.setCell ⟨b, 0, none⟩ y) B t v := h.kept (grownBy_setCell' W b y) (by simpa using hn)
theorem six_beside {w : World} {b c : Nat} {f : Nat → Int} (h : Six w b f) (hc : b ≠ c) (v : Value) : Six (w.setCell ⟨c, 0, none⟩ v) b f := fun i hi =>
  ⟨(World.cell?_of_block ((grownBy_setCell' w c v).block b (World.block_lt_of_cell? _ _ (h 0 (by omega)).1) (by simpa using hc))).trans (h i hi).1, (World.frozen?_of_block ((grownBy_setCell' w c v).block b (World.block_lt_of_cell? _ _ (h 0 (by omega)).1) (by simpa using hc))).trans (h i hi).2⟩
/-- What is answered is there behind the call. -/
theorem OfAt.put {W : World} {n : Nat} {s : Sp} {u p p' : Int} {b b' : Bool} (h : OfAt W n s u p b) : OfAt ((W.setCell ⟨n + 1 + 1, 0, none⟩ (.int .i64 p')).setCell ⟨n + 1 + 1 + 1, 0, none⟩ (.bool b')) n s u p' b' :=
  ⟨six_beside (six_beside h.sp (by omega) _) (by omega) _, Boxed.beside (Boxed.beside h.un (by omega) _) (by omega) _, Boxed.beside (h.pe.set _) (by omega) _, (Boxed.beside h.is (by omega) _).set _⟩
theorem two_below {w W : World} {n : Nat} {u v : Value} (h : Below w.heap.size w W) (hn : w.heap.size ≤ n) : Below w.heap.size w ((W.setCell ⟨n + 1 + 1, 0, none⟩ u).setCell ⟨n + 1 + 1 + 1, 0, none⟩ v) :=
  (h.setCell (p := ⟨n + 1 + 1, 0, none⟩) (by simp; omega) _).setCell (p := ⟨n + 1 + 1 + 1, 0, none⟩) (by simp; omega) _

set_option maxHeartbeats 1000000 in
set_option maxRecDepth 100000 in
theorem of_out1 (c t x m k e u : Int) (w : World) (h1 : maySp ⟨c, t, x, m, k, e⟩ = false) :
    Calls Tryd.prog 24 #[.agg #[.int .i64 c, .int .i64 t, .int .i64 x, .int .i64 m, .int .i64 k, .int .i64 e], .int .i64 u] w fun r w' => r = .returned (.tuple #[.int .i64 0, .bool false]) ∧ Below w.heap.size w w' := by
  have H1 : Hid (maySp ⟨c, t, x, m, k, e⟩ = false) := h1
  clear h1
  refine (callsIn_wide (n := 4)).1 ?_
  refine callsIn_of_wp_marks Tryd.func24 rfl trivial ?_ rfl
  simp only [Tryd.ntmps24, List.size_toArray, List.length_cons, List.length_nil, Nat.reduceAdd, Nat.reduceSub, Array.replicate_succ, Array.replicate_zero, List.push_toArray, List.append_toArray, List.nil_append, List.cons_append]
  have hO := OfAt.new w c t x m k e u
  have hb0 : Below w.heap.size w ((((w.alloc (.cells #[.int .i64 c, .int .i64 t, .int .i64 x, .int .i64 m, .int .i64 k, .int .i64 e] 31)).alloc (.cells #[.int .i64 u] 3)).alloc (.cells #[.int .i64 0] 3)).alloc (.cells #[.bool false] 4)) := ((((Below.refl _ w).alloc (Nat.le_refl _) _).alloc (by simp) _).alloc (by simp; omega) _).alloc (by simp; omega) _
  gi_wp2_with fail
  refine ⟨trivial, (callsIn_wide.2 (spmay_any c t x m k e _)).mono ?_⟩
  rintro r w1 ⟨rfl, hb1⟩
  have hO1 := hO.later hb1
  replace hb1 := hb0.trans (hb1.mono hb0.size)
  clear hO hb0
  obtain ⟨hS, hU, hP, hB⟩ := hO1
  obtain ⟨a0, a1, a2, a3, a4, a5, b0, b1, b2, b3, b4, b5⟩ := hS.sp
  have cU := hU.cell
  have cP := hP.cell
  have dP := hP.frozen
  have cB := hB.cell
  have dB := hB.frozen
  rw [H1.out]
  gi_wp2_with fail
  refine ⟨trivial, ?_⟩
  gi_wp2_with fail
  have hR := OfAt.put (p' := 0) (b' := false) ⟨hS, hU, hP, hB⟩
  have z1 := hR.pe.cell
  have z2 := hR.is.cell
  refine ⟨.tuple #[.int .i64 0, .bool false], ?_, rfl, two_below hb1 (Nat.le_refl _)⟩
  simp [results, Tryd.results24, go_sem, z1, z2]

set_option maxHeartbeats 1000000 in
set_option maxRecDepth 100000 in
theorem of_out2 (c t x m k e u : Int) (w : World) (h1 : maySp ⟨c, t, x, m, k, e⟩ = true) (h2 : wiB u 1 1048576 = false) :
    Calls Tryd.prog 24 #[.agg #[.int .i64 c, .int .i64 t, .int .i64 x, .int .i64 m, .int .i64 k, .int .i64 e], .int .i64 u] w fun r w' => r = .returned (.tuple #[.int .i64 0, .bool false]) ∧ Below w.heap.size w w' := by
  have H1 : Hid (maySp ⟨c, t, x, m, k, e⟩ = true) := h1
  have H2 : Hid (wiB u 1 1048576 = false) := h2
  clear h1 h2
  refine (callsIn_wide (n := 4)).1 ?_
  refine callsIn_of_wp_marks Tryd.func24 rfl trivial ?_ rfl
  simp only [Tryd.ntmps24, List.size_toArray, List.length_cons, List.length_nil, Nat.reduceAdd, Nat.reduceSub, Array.replicate_succ, Array.replicate_zero, List.push_toArray, List.append_toArray, List.nil_append, List.cons_append]
  have hO := OfAt.new w c t x m k e u
  have hb0 : Below w.heap.size w ((((w.alloc (.cells #[.int .i64 c, .int .i64 t, .int .i64 x, .int .i64 m, .int .i64 k, .int .i64 e] 31)).alloc (.cells #[.int .i64 u] 3)).alloc (.cells #[.int .i64 0] 3)).alloc (.cells #[.bool false] 4)) := ((((Below.refl _ w).alloc (Nat.le_refl _) _).alloc (by simp) _).alloc (by simp; omega) _).alloc (by simp; omega) _
  gi_wp2_with fail
  refine ⟨trivial, (callsIn_wide.2 (spmay_any c t x m k e _)).mono ?_⟩
  rintro r w1 ⟨rfl, hb1⟩
  have hO1 := hO.later hb1
  replace hb1 := hb0.trans (hb1.mono hb0.size)
  clear hO hb0
  obtain ⟨hS, hU, hP, hB⟩ := hO1
  obtain ⟨a0, a1, a2, a3, a4, a5, b0, b1, b2, b3, b4, b5⟩ := hS.sp
  have cU := hU.cell
  have cP := hP.cell
  have dP := hP.frozen
  have cB := hB.cell
  have dB := hB.frozen
  rw [H1.out]
  gi_wp2_with fail
  refine ⟨trivial, (callsIn_wide.2 (pwithin_any u 1 1048576 _)).mono ?_⟩
  rintro r w2 ⟨rfl, hw⟩
  obtain rfl := hw.symm
  rw [H2.out]
  gi_wp2_with fail
  have hR := OfAt.put (p' := 0) (b' := false) ⟨hS, hU, hP, hB⟩
  have z1 := hR.pe.cell
  have z2 := hR.is.cell
  refine ⟨.tuple #[.int .i64 0, .bool false], ?_, rfl, two_below hb1 (Nat.le_refl _)⟩
  simp [results, Tryd.results24, go_sem, z1, z2]
end Go.Proofs.YtmiakknagjncpaaDoor
