/- The walk of the statement RingBack: it returns true, and writes nothing that was there. -/
import Derived.Test.YtiagcihghalomaaV2
namespace Go.Proofs.Ytiagcihghalomaa
open Go.RowKit

set_option maxHeartbeats 2000000 in
set_option maxRecDepth 100000 in
theorem law_back (xs : List Bool) (v : Value) (g : Bool) (w : World) (h : Row w v xs) :
    Calls Try.prog 4 #[v, .bool g] w fun e w' => e = .returned (.bool true) ∧ Below w.heap.size w w' := by
  have h' := h
  obtain ⟨a, cap, rfl, r1, r2, r3⟩ := h'
  unfold maxLen at r2
  by_cases c : 200 < xs.length
  · clear r3
    go_enter Try.func4, Try.ntmps4
    go_wp2_with fail
    refine (awake3_any _).mono ?_
    rintro e w1 ⟨rfl, hb1⟩
    go_wp2
    go_ret
    exact ⟨rfl, hb1⟩
  · have hzl := ofZ_len xs
    have hback := ofZ_back xs
    generalize hz : ofZ xs = zs at *
    have HZ : Hid (ofZ xs = zs) := hz
    have HB : Hid (zs.reverse = xs.drop (xs.length - 60)) := hback
    clear hz hback
    have hv := val_bd hzl
    obtain ⟨ps, hps⟩ : ∃ ps, (g :: zs).take 60 = ps := ⟨_, rfl⟩
    have HP : Hid ((g :: zs).take 60 = ps) := hps
    have hpl : ps.length ≤ 60 := by rw [← hps]; simp; omega
    have hp0 : 0 < ps.length := by rw [← hps]; simp
    have HPg : Hid (gd ps 0 = g) := by show _ = _; rw [← hps]; rfl
    have hpv := val_bd hpl
    clear hps
    by_cases c60 : 60 < xs.length
    · obtain ⟨b, o, rfl, _⟩ := r3 (by intro e; subst e; simp at c60)
      clear r3
      go_enter Try.func4, Try.ntmps4
      go_wp2_with fail
      refine (awake3_any _).mono ?_
      rintro e w1 ⟨rfl, hb1⟩
      have q1 := h.later hb1
      go_wp2_with fail
      refine (of_any xs _ _ q1 (by omega)).mono ?_
      rintro e w2 ⟨rfl, hb2⟩
      rw [HZ.out]
      have q2 := q1.later hb2
      replace hb2 := hb1.trans (hb2.mono hb1.size)
      clear hb1 q1
      unfold ringV
      go_wp2_with fail
      refine (put_ring zs g _ hzl).mono ?_
      rintro e w3 ⟨rfl, hb3⟩
      rw [HP.out]
      have m0 : w3.cell? ⟨w2.heap.size, 0, none⟩ = some (.int .i64 zs.length) := (hb3.cell (p := ⟨w2.heap.size, 0, none⟩) (by simp)).trans (by simp)
      have m1 : w3.cell? ⟨w2.heap.size, 1, none⟩ = some (.int .u64 (val zs)) := (hb3.cell (p := ⟨w2.heap.size, 1, none⟩) (by simp)).trans (by simp)
      have hb23 : Below w2.heap.size w2 w3 := ((Below.refl _ _).alloc (by simp) _).trans (hb3.mono (by simp))
      replace q2 := q2.later hb23
      replace hb3 := hb2.trans (hb23.mono hb2.size)
      clear hb2 hb23
      unfold ringV
      go_wp2_with fail
      refine (list_ring ps _ hpl).mono ?_
      rintro e w4 ⟨vl, rfl, hown, hb4⟩
      obtain ⟨gl, capl, rfl, _, _, hcl⟩ := own_open hown hp0
      have k0 : w4.cell? ⟨w3.heap.size, 0, none⟩ = some (.int .i64 ps.length) := (hb4.cell (p := ⟨w3.heap.size, 0, none⟩) (by simp)).trans (by simp)
      have k1 : w4.cell? ⟨w3.heap.size, 1, none⟩ = some (.int .u64 (val ps)) := (hb4.cell (p := ⟨w3.heap.size, 1, none⟩) (by simp)).trans (by simp)
      have hb34 : Below w3.heap.size w3 w4 := ((Below.refl _ _).alloc (by simp) _).trans (hb4.mono (by simp))
      replace q2 := q2.later hb34
      replace m0 := cell_later hb34 m0
      replace m1 := cell_later hb34 m1
      replace hb4 := hb3.trans (hb34.mono hb3.size)
      clear hb3 hb34 hown
      have kl : w4.cell? ⟨gl, ps.length - 1, none⟩ = some (.bool g) := by
        have := hcl (ps.length - 1) (.bool (gd ps 0)) (by rw [bvs_at (rev_at (by omega))]; congr 3; omega)
        rwa [HPg.out] at this
      clear hcl
      have hwant : Row w4 (.slice (some ⟨b, o + (xs.length - 60), none⟩) (xs.length - (xs.length - 60)) (cap - (xs.length - 60))) zs.reverse := by
        rw [HB.out]; exact q2.tail (by omega)
      have hd1 : decide ((0 : Int) < ps.length) = true := decide_eq_true (by omega)
      have hd2 : decide ((ps.length : Int) ≤ 60) = true := decide_eq_true (by omega)
      have hw1 : IntKind.i64.wrap ((ps.length : Int) - 1) = ps.length - 1 := by rw [IntKind.wrap_i64]; omega
      have hgg : (((g.toNat : Nat) : Int) == 1) = g := by cases g <;> rfl
      have HG : Hid (goodR ps 1 = g.toNat) := by
        show _ = _
        have := goodR_nat ps 1
        rw [show min 1 ps.length = 1 by omega, cnt, cnt] at this
        simp only [Nat.zero_add, HPg.out] at this
        exact this
      have MK : Hid (∀ w', Below w4.heap.size w4 w' → ((w'.cell? ⟨w2.heap.size, 0, none⟩ = some (.int .i64 zs.length) ∧ w'.cell? ⟨w2.heap.size, 1, none⟩ = some (.int .u64 (val zs)) ∧ w'.cell? ⟨w3.heap.size, 0, none⟩ = some (.int .i64 ps.length) ∧ w'.cell? ⟨w3.heap.size, 1, none⟩ = some (.int .u64 (val ps)) ∧ w'.cell? ⟨gl, ps.length - 1, none⟩ = some (.bool g)) ∧ Below w4.heap.size w4 w')) :=
        fun w' hb => ⟨⟨cell_later hb m0, cell_later hb m1, cell_later hb k0, cell_later hb k1, cell_later hb kl⟩, hb⟩
      go_wp2_with fail
      refine (rmay_ring zs _ hzl).mono ?_
      rintro e w5 ⟨rfl, hb5⟩
      obtain ⟨⟨a0, a1, a2, a3, a4⟩, hb5'⟩ := MK.out _ hb5
      go_wp2_with fail
      refine (rmay_ring ps _ hpl).mono ?_
      rintro e w6 ⟨rfl, hb6⟩
      clear a0 a1 a2 a3 a4
      obtain ⟨⟨a0, a1, a2, a3, a4⟩, hb6'⟩ := MK.out _ (below_step hb6 hb5')
      go_wp2_with fail
      refine (list_ring zs _ hzl).mono ?_
      rintro e w7 ⟨vr, rfl, hownr, hb7⟩
      have hrr := Row.own hownr (by simp)
      clear a0 a1 a2 a3 a4
      obtain ⟨⟨a0, a1, a2, a3, a4⟩, hb7'⟩ := MK.out _ (below_step hb7 hb6')
      go_wp2_with fail
      refine (bools_eq zs.reverse _ _ _ hrr (hwant.later hb7') (by simp; omega)).mono ?_
      rintro e w8 ⟨rfl, hb8⟩
      clear a0 a1 a2 a3 a4
      obtain ⟨⟨a0, a1, a2, a3, a4⟩, hb8'⟩ := MK.out _ (below_step hb8 hb7')
      go_wp2_with fail
      refine (good_ring ps 1 _ hpl).mono ?_
      rintro e w9 ⟨rfl, hb9⟩
      rw [HG.out]
      have hb9' := below_step hb9 hb8'
      go_wp2
      go_ret
      exact ⟨by first | rfl | exact ret_b (by simp), hb4.trans (hb9'.mono hb4.size)⟩
    · clear r3
      go_enter Try.func4, Try.ntmps4
      go_wp2_with fail
      refine (awake3_any _).mono ?_
      rintro e w1 ⟨rfl, hb1⟩
      have q1 := h.later hb1
      go_wp2_with fail
      refine (of_any xs _ _ q1 (by omega)).mono ?_
      rintro e w2 ⟨rfl, hb2⟩
      rw [HZ.out]
      have q2 := q1.later hb2
      replace hb2 := hb1.trans (hb2.mono hb1.size)
      clear hb1 q1
      unfold ringV
      go_wp2_with fail
      refine (put_ring zs g _ hzl).mono ?_
      rintro e w3 ⟨rfl, hb3⟩
      rw [HP.out]
      have m0 : w3.cell? ⟨w2.heap.size, 0, none⟩ = some (.int .i64 zs.length) := (hb3.cell (p := ⟨w2.heap.size, 0, none⟩) (by simp)).trans (by simp)
      have m1 : w3.cell? ⟨w2.heap.size, 1, none⟩ = some (.int .u64 (val zs)) := (hb3.cell (p := ⟨w2.heap.size, 1, none⟩) (by simp)).trans (by simp)
      have hb23 : Below w2.heap.size w2 w3 := ((Below.refl _ _).alloc (by simp) _).trans (hb3.mono (by simp))
      replace q2 := q2.later hb23
      replace hb3 := hb2.trans (hb23.mono hb2.size)
      clear hb2 hb23
      unfold ringV
      go_wp2_with fail
      refine (list_ring ps _ hpl).mono ?_
      rintro e w4 ⟨vl, rfl, hown, hb4⟩
      obtain ⟨gl, capl, rfl, _, _, hcl⟩ := own_open hown hp0
      have k0 : w4.cell? ⟨w3.heap.size, 0, none⟩ = some (.int .i64 ps.length) := (hb4.cell (p := ⟨w3.heap.size, 0, none⟩) (by simp)).trans (by simp)
      have k1 : w4.cell? ⟨w3.heap.size, 1, none⟩ = some (.int .u64 (val ps)) := (hb4.cell (p := ⟨w3.heap.size, 1, none⟩) (by simp)).trans (by simp)
      have hb34 : Below w3.heap.size w3 w4 := ((Below.refl _ _).alloc (by simp) _).trans (hb4.mono (by simp))
      replace q2 := q2.later hb34
      replace m0 := cell_later hb34 m0
      replace m1 := cell_later hb34 m1
      replace hb4 := hb3.trans (hb34.mono hb3.size)
      clear hb3 hb34 hown
      have kl : w4.cell? ⟨gl, ps.length - 1, none⟩ = some (.bool g) := by
        have := hcl (ps.length - 1) (.bool (gd ps 0)) (by rw [bvs_at (rev_at (by omega))]; congr 3; omega)
        rwa [HPg.out] at this
      clear hcl
      have hwant : Row w4 (.slice a xs.length cap) zs.reverse := by
        rw [HB.out, show xs.length - 60 = 0 by omega]; exact q2
      have hd1 : decide ((0 : Int) < ps.length) = true := decide_eq_true (by omega)
      have hd2 : decide ((ps.length : Int) ≤ 60) = true := decide_eq_true (by omega)
      have hw1 : IntKind.i64.wrap ((ps.length : Int) - 1) = ps.length - 1 := by rw [IntKind.wrap_i64]; omega
      have hgg : (((g.toNat : Nat) : Int) == 1) = g := by cases g <;> rfl
      have HG : Hid (goodR ps 1 = g.toNat) := by
        show _ = _
        have := goodR_nat ps 1
        rw [show min 1 ps.length = 1 by omega, cnt, cnt] at this
        simp only [Nat.zero_add, HPg.out] at this
        exact this
      have MK : Hid (∀ w', Below w4.heap.size w4 w' → ((w'.cell? ⟨w2.heap.size, 0, none⟩ = some (.int .i64 zs.length) ∧ w'.cell? ⟨w2.heap.size, 1, none⟩ = some (.int .u64 (val zs)) ∧ w'.cell? ⟨w3.heap.size, 0, none⟩ = some (.int .i64 ps.length) ∧ w'.cell? ⟨w3.heap.size, 1, none⟩ = some (.int .u64 (val ps)) ∧ w'.cell? ⟨gl, ps.length - 1, none⟩ = some (.bool g)) ∧ Below w4.heap.size w4 w')) :=
        fun w' hb => ⟨⟨cell_later hb m0, cell_later hb m1, cell_later hb k0, cell_later hb k1, cell_later hb kl⟩, hb⟩
      go_wp2_with fail
      refine (rmay_ring zs _ hzl).mono ?_
      rintro e w5 ⟨rfl, hb5⟩
      obtain ⟨⟨a0, a1, a2, a3, a4⟩, hb5'⟩ := MK.out _ hb5
      go_wp2_with fail
      refine (rmay_ring ps _ hpl).mono ?_
      rintro e w6 ⟨rfl, hb6⟩
      clear a0 a1 a2 a3 a4
      obtain ⟨⟨a0, a1, a2, a3, a4⟩, hb6'⟩ := MK.out _ (below_step hb6 hb5')
      go_wp2_with fail
      refine (list_ring zs _ hzl).mono ?_
      rintro e w7 ⟨vr, rfl, hownr, hb7⟩
      have hrr := Row.own hownr (by simp)
      clear a0 a1 a2 a3 a4
      obtain ⟨⟨a0, a1, a2, a3, a4⟩, hb7'⟩ := MK.out _ (below_step hb7 hb6')
      go_wp2_with fail
      refine (bools_eq zs.reverse _ _ _ hrr (hwant.later hb7') (by simp; omega)).mono ?_
      rintro e w8 ⟨rfl, hb8⟩
      clear a0 a1 a2 a3 a4
      obtain ⟨⟨a0, a1, a2, a3, a4⟩, hb8'⟩ := MK.out _ (below_step hb8 hb7')
      go_wp2_with fail
      refine (good_ring ps 1 _ hpl).mono ?_
      rintro e w9 ⟨rfl, hb9⟩
      rw [HG.out]
      have hb9' := below_step hb9 hb8'
      go_wp2
      go_ret
      exact ⟨by first | rfl | exact ret_b (by simp), hb4.trans (hb9'.mono hb4.size)⟩
end Go.Proofs.Ytiagcihghalomaa
