/- What the statement PlanWhy comes to. -/
import Derived.Test.YtmiakknagjncpaaDoorC11
namespace Go.Proofs.YtmiakknagjncpaaDoor
open Go.RowKit Go.Shelf

/-- May the first j be? -/
theorem sps_succ (j : Nat) (s : Nat → Sp) : spsB (j + 1) s = (spsB j s && maySp (s j)) := by
  unfold spsB
  rw [List.range_succ, List.all_append]
  simp
theorem lea_sum (s : Nat → Sp) (j : Nat) : 0 ≤ sm j (leaF s) ∧ sm j (leaF s) ≤ 1048576 * j := by
  induction j with
  | zero => exact ⟨Int.le_refl _, Int.le_refl _⟩
  | succ j ih =>
    have := lea_bd s j
    have e : sm (j + 1) (leaF s) = sm j (leaF s) + leaF s j := rfl
    omega

set_option maxHeartbeats 2000000 in
set_option maxRecDepth 100000 in
theorem law_pwhy (n : Nat) (s : Nat → Sp) (v : Value) (w : World) (h : Sps w v n s) (hL : Lim w) :
    Calls Tryd.prog 4 #[v] w fun e w' => e = .returned (.bool true) ∧ Below w.heap.size w w' := by
  have HX0 : Hid (Sps w v n s ∧ Lim w) := ⟨h, hL⟩
  obtain ⟨ad, cap, rfl, h1, h2, h0, h3⟩ := h
  clear hL h0
  obtain ⟨a, b, rb, hF⟩ := frT_exists n s
  have HF : Hid (FrT n s a b rb) := hF
  clear hF
  go_enter Tryd.func4, Tryd.ntmps4
  go_wp2_with fail
  refine (awake10_any _ HX0.out.2).mono ?_
  rintro e w1 ⟨rfl, hb1⟩
  have HX1 : Hid (Sps w1 (.slice ad n cap) n s ∧ Lim w1) := ⟨HX0.out.1.later hb1, HX0.out.2.later hb1⟩
  clear HX0
  by_cases hn : (n : Int) > 4
  · clear h3
    go_wp2
    go_ret
    exact ⟨by first | rfl | exact ret_b (by simp) | exact ret_b (decide_eq_true (by omega)) | exact ret_b (by simp; omega), hb1⟩
  · go_wp2_with fail
    refine (target_any n s a b rb _ _ HX1.out.1 HF.out HX1.out.2).mono ?_
    rintro r w2 ⟨y, rfl, hy, hb2⟩
    have HX2 : Hid (Sps w2 (.slice ad n cap) n s ∧ Lim w2) := ⟨HX1.out.1.later hb2, HX1.out.2.later hb2⟩
    replace hb2 := hb1.trans (hb2.mono hb1.size)
    clear hb1 HX1 hy
    obtain ⟨E, hE⟩ : ∃ E, errV n s a b rb = E := ⟨_, rfl⟩
    have HE : Hid (errV n s a b rb = E) := hE
    rw [hE]
    clear hE
    go_wp2_with fail
    refine (spgs_any n s _ _ HX2.out.1).mono ?_
    rintro r w3 ⟨z, rfl, hz, hb3⟩
    have HZ3 : Hid (Sprs w3 z (spgN n s) (topF s) (leaF s) (elF s)) := hz
    have HL3 : Hid (Lim w3) := HX2.out.2.later hb3
    replace hb3 := hb2.trans (hb3.mono hb2.size)
    clear hb2 HX2 hz
    obtain ⟨G, hG⟩ : ∃ G, spgB n s = G := ⟨_, rfl⟩
    have HG : Hid (spgB n s = G) := hG
    rw [hG]
    clear hG
    go_wp2_with fail
    go_loopw [8, 9, 10] (fun s8 s9 i wr => ∃ (j : Nat), j ≤ n ∧ i = .int .i64 j ∧ s8 = .bool (spsB j s) ∧ s9 = .int .i64 (sm j (leaF s)) ∧ Below w3.heap.size w3 wr) (fun _ _ i _ => ((n : Int) - intOf i).toNat)
    case atStart => exact ⟨0, by omega, rfl, rfl, rfl, Below.refl _ _⟩
    case round =>
      obtain ⟨j, hj, rfl, rfl, rfl, hbw⟩ := hrel
      have hbW : Below w.heap.size w wr := hb3.trans (hbw.mono hb3.size)
      have hq := lea_sum s j
      by_cases hlt : (j : Int) < n
      · obtain ⟨bk, o, rfl, h4⟩ := h3 (by omega)
        have hrow := rowS_open (f := s j) (h4 j (by omega))
        clear h4 h3
        obtain ⟨⟨cj, tj, xj, mj, kj, ej⟩, hf⟩ : ∃ y, s j = y := ⟨_, rfl⟩
        have HF_ : Hid (s j = ⟨cj, tj, xj, mj, kj, ej⟩) := hf
        rw [hf] at hrow
        clear hf
        obtain ⟨k0, k1, k2, k3, k4, k5⟩ := hrow
        simp only at k0 k1 k2 k3 k4 k5
        have e0 := cell_later hbW k0
        have e1 := cell_later hbW k1
        have e2 := cell_later hbW k2
        have e3 := cell_later hbW k3
        have e4 := cell_later hbW k4
        have e5 := cell_later hbW k5
        have sb := World.block_lt_of_cell? _ _ k0
        clear k0 k1 k2 k3 k4 k5
        have sw := hbW.size
        have hlb := lea_bd s j
        have HE1 : Hid (sm (j + 1) (leaF s) = sm j (leaF s) + leastV ⟨cj, tj, xj, mj, kj, ej⟩) := by show _ = _; show sm j (leaF s) + leastV (s j) = _; rw [HF_.out]
        have HE2 : Hid (spsB (j + 1) s = (spsB j s && maySp ⟨cj, tj, xj, mj, kj, ej⟩)) := by show _ = _; rw [sps_succ, HF_.out]
        unfold leaF at hlb
        rw [HF_.out] at hlb
        obtain ⟨L, hLL⟩ : ∃ L, leastV ⟨cj, tj, xj, mj, kj, ej⟩ = L := ⟨_, rfl⟩
        have HLL : Hid (leastV ⟨cj, tj, xj, mj, kj, ej⟩ = L) := hLL
        rw [hLL] at hlb HE1
        clear hLL
        generalize sm j (leaF s) = q at *
        obtain ⟨q0, q1⟩ := hq
        obtain ⟨l0, l1⟩ := hlb
        have a1 : IntKind.i64.wrap (q + L) = q + L := by rw [IntKind.wrap_i64]; omega
        cases hk : spsB j s with
        | false =>
          have HE3 : Hid (spsB (j + 1) s = false) := by show _ = _; rw [HE2.out, hk]; rfl
          clear hk HE2
          go_wp2_with fail
          refine (least_any cj tj xj mj kj ej _).mono ?_
          rintro r w4 ⟨rfl, hb4⟩
          rw [HLL.out]
          go_wp2_with fail
          go_roundw
          case rel => exact ⟨j + 1, by omega, by go_num, by rw [HE3.out], by rw [HE1.out], hbw.trans (hb4.mono hbw.size)⟩
          case measure => simp [intOf]; omega
        | true =>
          have HE3 : Hid (spsB (j + 1) s = maySp ⟨cj, tj, xj, mj, kj, ej⟩) := by show _ = _; rw [HE2.out, hk]; rfl
          clear hk HE2
          go_wp2_with fail
          refine (spmay_any cj tj xj mj kj ej _).mono ?_
          rintro r w4 ⟨rfl, hb4⟩
          obtain ⟨M, hM⟩ : ∃ M, maySp ⟨cj, tj, xj, mj, kj, ej⟩ = M := ⟨_, rfl⟩
          rw [hM] at HE3 ⊢
          clear hM
          have x0 := cell_later hb4 e0
          have x1 := cell_later hb4 e1
          have x2 := cell_later hb4 e2
          have x3 := cell_later hb4 e3
          have x4 := cell_later hb4 e4
          have x5 := cell_later hb4 e5
          replace hb4 := hbw.trans (hb4.mono hbw.size)
          clear e0 e1 e2 e3 e4 e5
          go_wp2_with fail
          refine (least_any cj tj xj mj kj ej _).mono ?_
          rintro r w5 ⟨rfl, hb5⟩
          rw [HLL.out]
          go_wp2_with fail
          go_roundw
          case rel => exact ⟨j + 1, by omega, by go_num, by rw [HE3.out], by rw [HE1.out], hb4.trans (hb5.mono hb4.size)⟩
          case measure => simp [intOf]; omega
      · obtain rfl : j = n := by omega
        clear h3
        have hle := frT_room (a := a) (b := b) (rb := rb) (n := j) (s := s) (by omega)
        rcases err_cases (n := j) (s := s) (a := a) (b := b) (rb := rb) with ⟨hn', he⟩ | ⟨hn', hs, he⟩ | ⟨hn', hs, hr, he⟩ | ⟨hn', hs, hr, ht, he⟩ | ⟨hn', hs, hr, ht, he⟩
        · omega
        · have hE := HE.out
          have hG := HG.out
          rw [he] at hE
          rw [(spg_no hs).1] at hG
          subst hE
          subst hG
          rw [hs]
          clear he hs hle hq
          go_wp2
          go_ret
          exact ⟨by first | rfl | exact ret_b (by simp) | exact ret_b (decide_eq_true (by omega)) | exact ret_b (by simp; omega), hbW⟩
        all_goals
          have hE := HE.out
          have hG := HG.out
          rw [he] at hE
          rw [(spg_yes hn' hs).1] at hG
          have hl := hle hs HF.out
          have hR : roomB j (topF s) (leaF s) (elF s) 983040 = rb := HF.out.1
          have HZ4 : Hid (Sprs wr z j (topF s) (leaF s) (elF s)) := by have := HZ3.out.later hbw; rwa [(spg_yes hn' hs).2] at this
          subst hE
          subst hG
          subst hr
          have HR : Hid (roomB j (topF s) (leaF s) (elF s) 983040 = _) := hR
          rw [hs]
          generalize sm j (leaF s) = q at *
        · have hq' : q > 983040 := by have := of_decide_eq_false hl.symm; omega
          clear he hs hle hq hl hR
          go_wp2_with fail
          refine (room7_any j _ _ _ 983040 _ _ HZ4.out (HL3.out.later hbw)).mono ?_
          rintro r w6 ⟨rfl, hb6⟩
          rw [HR.out]
          go_wp2
          go_ret
          exact ⟨by first | rfl | exact ret_b (by simp) | exact ret_b (decide_eq_true (by omega)) | exact ret_b (by simp; omega), hbW.trans (hb6.mono hbW.size)⟩
        all_goals
          have hq' : ¬ q > 983040 := by have := of_decide_eq_true hl.symm; omega
          clear he hs hle hq hl hR ht
          go_wp2_with fail
          refine (room7_any j _ _ _ 983040 _ _ HZ4.out (HL3.out.later hbw)).mono ?_
          rintro r w6 ⟨rfl, hb6⟩
          rw [HR.out]
          go_wp2
          go_ret
          exact ⟨by first | rfl | exact ret_b (by simp) | exact ret_b (decide_eq_true (by omega)) | exact ret_b (by simp; omega), hbW.trans (hb6.mono hbW.size)⟩
end Go.Proofs.YtmiakknagjncpaaDoor
