/- Rings as they come in the statements; the walk of awake. -/
import Derived.Test.YtiagcihghalomaaR8
import Derived.Test.YtiagcihghalomaaR6
namespace Go.Proofs.Ytiagcihghalomaa
open Go.RowKit

theorem rmay_ring (zs : List Bool) (w : World) (hl : zs.length ≤ 60) :
    Calls Try.prog 9 #[.agg #[.int .i64 zs.length, .int .u64 (val zs)]] w fun e w' => e = .returned (.bool true) ∧ Below w.heap.size w w' := by
  have := rmay_any zs.length (val zs) w
  rwa [mayR_val hl] at this
theorem good_ring (zs : List Bool) (n : Int) (w : World) (hl : zs.length ≤ 60) :
    Calls Try.prog 18 #[.agg #[.int .i64 zs.length, .int .u64 (val zs)], .int .i64 n] w fun e w' => e = .returned (.int .i64 (goodR zs n)) ∧ Below w.heap.size w w' := by
  have := good_any zs.length (val zs) n w (by omega)
  rwa [ringOf_val hl] at this
theorem list_ring (zs : List Bool) (w : World) (hl : zs.length ≤ 60) :
    Calls Try.prog 16 #[.agg #[.int .i64 zs.length, .int .u64 (val zs)]] w fun e w' => ∃ v, e = .returned v ∧ w'.ownsRow w.heap.size 4 1 v zs.length (bvs zs.reverse) ∧ Below w.heap.size w w' := by
  have := list_any zs.length (val zs) w (by omega)
  rwa [ringOf_val hl] at this
theorem fine_ring (zs : List Bool) (m k : Int) (w : World) (hl : zs.length ≤ 60) (m0 : 1 ≤ m) (mk : m ≤ k) (k6 : k ≤ 6) :
    Calls Try.prog 20 #[.agg #[.int .i64 zs.length, .int .u64 (val zs)], .int .i64 m, .int .i64 k] w fun e w' => e = .returned (.bool (fineB zs m k.toNat)) ∧ Below w.heap.size w w' := by
  obtain ⟨K, rfl⟩ := Int.eq_ofNat_of_zero_le (show 0 ≤ k by omega)
  have := fine_in zs.length (val zs) m K w (by omega) m0 mk k6
  rwa [ringOf_val hl] at this
theorem far_ring (zs : List Bool) (m k : Int) (w : World) (hl : zs.length ≤ 60) (m0 : 1 ≤ m) (mk : m ≤ k) (k6 : k ≤ 6) :
    Calls Try.prog 22 #[.agg #[.int .i64 zs.length, .int .u64 (val zs)], .int .i64 m, .int .i64 k] w fun e w' => ∃ n : Nat, e = .returned (.int .i64 n) ∧ IsFar zs m k.toNat n ∧ Below w.heap.size w w' := by
  obtain ⟨K, rfl⟩ := Int.eq_ofNat_of_zero_le (show 0 ≤ k by omega)
  have := far_in zs.length (val zs) m K w (by omega) m0 mk k6
  rwa [ringOf_val hl] at this

set_option maxHeartbeats 1000000 in
set_option maxRecDepth 100000 in
theorem awake3_any (w : World) : Calls Try.prog 8 #[] w fun e w' => e = .returned (.bool true) ∧ Below w.heap.size w w' := by
  go_enter Try.func8, Try.ntmps8
  go_wp2_with fail
  refine (of_any [true, false, true] _ _ ?r (by decide)).mono ?_
  case r => exact ⟨_, 3, rfl, by decide, by decide, fun _ => ⟨_, 0, rfl, fun i x hi => by
    match i, hi with
    | 0, hi => simp at hi; subst hi; simp
    | 1, hi => simp at hi; subst hi; simp
    | 2, hi => simp at hi; subst hi; simp⟩⟩
  rintro e w1 ⟨rfl, hb1⟩
  have hb : Below w.heap.size w w1 := ((Below.refl _ _).alloc (by simp) _).trans (hb1.mono (by simp))
  clear hb1
  have s1 := hb.size
  have hz : ofZ [true, false, true] = [true, false, true] := rfl
  rw [hz]; clear hz
  have hl : ([true, false, true] : List Bool).length ≤ 60 := by decide
  have HG : Hid (goodR [true, false, true] 3 = 2) := by show _ = _; decide
  have HF : Hid (IsFar [true, false, true] 2 (3 : Int).toNat 1) := by show IsFar _ _ _ _; exact ⟨by decide, by decide, by decide⟩
  have HI : Hid (fineB [true, false, true] 2 (3 : Int).toNat = true) := by show _ = _; decide
  generalize hq : ([true, false, true] : List Bool) = q at *
  have HQ : Hid ([true, false, true] = q) := hq
  clear hq
  unfold ringV
  go_wp2_with fail
  refine (rmay_ring q _ hl).mono ?_
  rintro e w2 ⟨rfl, hb2⟩
  have a0 : w2.cell? ⟨w1.heap.size, 0, none⟩ = some (.int .i64 q.length) := (hb2.cell (p := ⟨w1.heap.size, 0, none⟩) (by simp)).trans (by simp)
  have a1 : w2.cell? ⟨w1.heap.size, 1, none⟩ = some (.int .u64 (val q)) := (hb2.cell (p := ⟨w1.heap.size, 1, none⟩) (by simp)).trans (by simp)
  replace hb2 : Below w.heap.size w w2 := (hb.alloc s1 _).trans (hb2.mono (by simp; omega))
  clear hb
  go_wp2_with fail
  refine (good_ring q 3 _ hl).mono ?_
  rintro e w3 ⟨rfl, hb3⟩
  rw [HG.out]
  have c0 := cell_later hb3 a0
  have c1 := cell_later hb3 a1
  replace hb3 := hb2.trans (hb3.mono hb2.size)
  clear a0 a1 hb2
  go_wp2_with fail
  refine (far_ring q 2 3 _ hl (by omega) (by omega) (by omega)).mono ?_
  rintro e w4 ⟨n, rfl, hn, hb4⟩
  obtain rfl := hn.unique HF.out
  have d0 := cell_later hb4 c0
  have d1 := cell_later hb4 c1
  replace hb4 := hb3.trans (hb4.mono hb3.size)
  clear c0 c1 hb3 hn
  go_wp2_with fail
  refine (fine_ring q 2 3 _ hl (by omega) (by omega) (by omega)).mono ?_
  rintro e w5 ⟨rfl, hb5⟩
  rw [HI.out]
  have e0 := cell_later hb5 d0
  have e1 := cell_later hb5 d1
  replace hb5 := hb4.trans (hb5.mono hb4.size)
  clear d0 d1 hb4
  go_wp2_with fail
  refine (put_ring q false _ hl).mono ?_
  rintro e w6 ⟨rfl, hb6⟩
  replace hb6 := hb5.trans (hb6.mono hb5.size)
  obtain ⟨q1, h1⟩ : ∃ q1, (false :: q).take 60 = q1 := ⟨_, rfl⟩
  rw [h1]
  have H1 : Hid ((false :: q).take 60 = q1) := h1
  have hl1 : q1.length ≤ 60 := by rw [← h1]; simp; omega
  clear h1
  unfold ringV
  go_wp2_with fail
  refine (put_ring q1 false _ hl1).mono ?_
  rintro e w7 ⟨rfl, hb7⟩
  replace hb7 := hb6.trans (hb7.mono hb6.size)
  obtain ⟨q2, h2⟩ : ∃ q2, (false :: q1).take 60 = q2 := ⟨_, rfl⟩
  rw [h2]
  have H2 : Hid ((false :: q1).take 60 = q2) := h2
  have hl2 : q2.length ≤ 60 := by rw [← h2]; simp; omega
  clear h2
  unfold ringV
  go_wp2_with fail
  refine (fine_ring q2 2 3 _ hl2 (by omega) (by omega) (by omega)).mono ?_
  rintro e w8 ⟨rfl, hb8⟩
  have HJ' : Hid (fineB q2 2 (3 : Int).toNat = false) := by show _ = _; rw [← H2.out, ← H1.out, ← HQ.out]; decide
  rw [HJ'.out]
  replace hb8 := hb7.trans (hb8.mono hb7.size)
  go_wp2
  go_ret
  exact ⟨rfl, hb8⟩
end Go.Proofs.Ytiagcihghalomaa
