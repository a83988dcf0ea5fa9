/- What the statement PlanAlone comes to. -/
import Derived.Test.YtmiakknagjncpaaDoorC11
namespace Go.Proofs.YtmiakknagjncpaaDoor
open Go.RowKit Go.Shelf

theorem sps_one1 (s : Sp) : spsB 1 (fun _ => s) = maySp s := by
  cases h : maySp s with
  | true => exact sps_yes fun _ _ => h
  | false => exact sps_no (i := 0) (by omega) h

set_option maxHeartbeats 2000000 in
set_option maxRecDepth 100000 in
theorem law_palone (c t x m k e : Int) (w : World) (hL : Lim w) :
    Calls Tryd.prog 7 #[.agg #[.int .i64 c, .int .i64 t, .int .i64 x, .int .i64 m, .int .i64 k, .int .i64 e]] w fun e w' => e = .returned (.bool true) ∧ Below w.heap.size w w' := by
  have hS : Six (w.alloc (.cells #[.int .i64 c, .int .i64 t, .int .i64 x, .int .i64 m, .int .i64 k, .int .i64 e] 31)) w.heap.size (Sp.at ⟨c, t, x, m, k, e⟩) := Six.new w ⟨c, t, x, m, k, e⟩
  have hE : Below w.heap.size w (w.alloc (.cells #[.int .i64 c, .int .i64 t, .int .i64 x, .int .i64 m, .int .i64 k, .int .i64 e] 31)) := (Below.refl _ _).alloc (Nat.le_refl _) _
  have HL0 : Hid (Lim (w.alloc (.cells #[.int .i64 c, .int .i64 t, .int .i64 x, .int .i64 m, .int .i64 k, .int .i64 e] 31))) := hL.later hE
  have s1 := sps_one1 ⟨c, t, x, m, k, e⟩
  obtain ⟨S1, hS1⟩ : ∃ S1 : Nat → Sp, (fun _ => (⟨c, t, x, m, k, e⟩ : Sp)) = S1 := ⟨_, rfl⟩
  have HS1 : Hid ((fun _ => (⟨c, t, x, m, k, e⟩ : Sp)) = S1) := hS1
  have HS0 : Hid (S1 0 = ⟨c, t, x, m, k, e⟩) := by show _ = _; rw [← hS1]
  rw [hS1] at s1
  clear hS1 hL
  obtain ⟨a, b, rb, hF⟩ := frT_exists 1 S1
  have HF : Hid (FrT 1 S1 a b rb) := hF
  go_enter Tryd.func7, Tryd.ntmps7
  go_wp2_with fail
  refine (awake10_any _ HL0.out).mono ?_
  rintro r w1 ⟨rfl, hb1⟩
  have hT1 := hS.later hb1
  have HL1 := HL0.out.later hb1
  replace hb1 := hE.trans (hb1.mono hE.size)
  obtain ⟨a0, a1, a2, a3, a4, a5, _⟩ := hT1.sp
  have sl := hT1.lt
  have hSp : Sps (w1.alloc (.cells #[.int .i64 c, .int .i64 t, .int .i64 x, .int .i64 m, .int .i64 k, .int .i64 e] 31)) (.slice (some ⟨w1.heap.size, 0, none⟩) 1 1) 1 S1 := by rw [← HS1.out]; exact Sps.one (Six.new w1 ⟨c, t, x, m, k, e⟩)
  have hbn : Below w1.heap.size w1 (w1.alloc (.cells #[.int .i64 c, .int .i64 t, .int .i64 x, .int .i64 m, .int .i64 k, .int .i64 e] 31)) := (Below.refl _ _).alloc (Nat.le_refl _) _
  clear hS HL0 hE
  go_wp2_with fail
  refine (target_any 1 S1 a b rb _ _ hSp HF.out (HL1.later hbn)).mono ?_
  rintro r w2 ⟨y, rfl, hy, hb2⟩
  replace hb2 := hbn.trans (hb2.mono hbn.size)
  have hT2 := hT1.later hb2
  replace hb2 := hb1.trans (hb2.mono hb1.size)
  clear hT1 hSp hbn hb1 HL1 a0 a1 a2 a3 a4 a5 sl
  obtain ⟨a0, a1, a2, a3, a4, a5, _⟩ := hT2.sp
  cases hm : maySp ⟨c, t, x, m, k, e⟩ with
  | false =>
    have HM : Hid (maySp ⟨c, t, x, m, k, e⟩ = false) := hm
    have HE : Hid (errV 1 S1 a b rb = 1) := err_arg (by omega) (s1.trans hm)
    rw [HE.out]
    clear hm hF hy s1
    go_wp2_with fail
    refine (spmay_any c t x m k e _).mono ?_
    rintro r w3 ⟨rfl, hb3⟩
    rw [HM.out]
    go_wp2
    go_ret
    exact ⟨by first | rfl | exact ret_b (by simp) | exact ret_b (decide_eq_true (by omega)) | exact ret_b (by simp; omega), hb2.trans (hb3.mono hb2.size)⟩
  | true =>
    have HM : Hid (maySp ⟨c, t, x, m, k, e⟩ = true) := hm
    have hs : spsB 1 S1 = true := s1.trans hm
    have hr := frT_room (by omega) hs hF
    have hsm : sm 1 (leaF S1) = leastV ⟨c, t, x, m, k, e⟩ := by show 0 + leastV (S1 0) = _; rw [HS0.out, Int.zero_add]
    rw [hsm] at hr
    by_cases hl : leastV ⟨c, t, x, m, k, e⟩ ≤ 983040
    · rw [decide_eq_true hl] at hr
      subst hr
      have hI := frT_is hF
      have ht : tst9 1 (tgF S1 a b) = true := tst_one (tg_may (by omega) hs hI)
      have HE : Hid (errV 1 S1 a b true = 0) := err_ok (by omega) hs ht
      obtain ⟨_, g1, g2, _, _⟩ := tg_facts (by omega) hs hI (i := 0) (by omega)
      obtain ⟨f1, f2⟩ := tg_alone hs (by omega) hI
      obtain ⟨m0, m1, m2, m3, m4, _⟩ := may_facts hm
      rw [HS0.out] at g1 g2 f1 f2
      simp only at g1 g2 f2 m0 m1 m2 m3 m4
      rw [tg_ok HE.out] at hy
      rw [HE.out]
      obtain ⟨ay, cy, rfl, _, _, _, y3⟩ := hy
      obtain ⟨bk, o, rfl, y4⟩ := y3 (by omega)
      have c6 : w2.cell? ⟨bk, o + 6, none⟩ = some (.int .i64 (prF S1 a b 0)) := by have := y4 0 (by omega) 6 (by omega); simp only [Nat.zero_mul, Nat.add_zero] at this; exact this
      clear y3 y4 hI ht hs hF s1 hm hsm
      generalize prF S1 a b 0 = p at *
      have HLe : Hid (leastV ⟨c, t, x, m, k, e⟩ ≤ 983040) := hl
      obtain ⟨L, hL⟩ : ∃ L, leastV ⟨c, t, x, m, k, e⟩ = L := ⟨_, rfl⟩
      have HLL : Hid (leastV ⟨c, t, x, m, k, e⟩ = L) := hL
      rw [hL] at hl
      clear hL
      obtain ⟨A, hA⟩ : ∃ A, atV ⟨c, t, x, m, k, e⟩ p = A := ⟨_, rfl⟩
      have HA : Hid (atV ⟨c, t, x, m, k, e⟩ p = A) := hA
      rw [hA] at f1
      clear hA
      have w1 : IntKind.i64.wrap (p - 1) = p - 1 := by rw [IntKind.wrap_i64]; omega
      go_wp2_with fail
      refine (spmay_any c t x m k e _).mono ?_
      rintro r w3 ⟨rfl, hb3⟩
      rw [HM.out]
      have hT3 := hT2.later hb3
      have d6 := cell_later hb3 c6
      replace hb3 := hb2.trans (hb3.mono hb2.size)
      clear hT2 c6 hb2 a0 a1 a2 a3 a4 a5
      obtain ⟨a0, a1, a2, a3, a4, a5, _⟩ := hT3.sp
      go_wp2_with fail
      refine (least_any c t x m k e _).mono ?_
      rintro r w4 ⟨rfl, hb4⟩
      rw [HLL.out]
      have hT4 := hT3.later hb4
      have c6 := cell_later hb4 d6
      replace hb4 := hb3.trans (hb4.mono hb3.size)
      clear hT3 d6 hb3 a0 a1 a2 a3 a4 a5
      obtain ⟨a0, a1, a2, a3, a4, a5, _⟩ := hT4.sp
      go_wp2_with fail
      refine (at_any c t x m k e p _).mono ?_
      rintro r w5 ⟨rfl, hb5⟩
      rw [HA.out]
      have hT5 := hT4.later hb5
      replace hb5 := hb4.trans (hb5.mono hb4.size)
      clear hT4 c6 hb4 a0 a1 a2 a3 a4 a5
      obtain ⟨a0, a1, a2, a3, a4, a5, _⟩ := hT5.sp
      by_cases hp : p = t
      · subst hp
        go_wp2
        go_ret
        exact ⟨by first | rfl | exact ret_b (by simp) | exact ret_b (decide_eq_true (by omega)) | exact ret_b (by simp; omega), hb5⟩
      · have hf : 983040 < atV ⟨c, t, x, m, k, e⟩ (p - 1) := by
          rcases f2 with f2 | f2
          · exact absurd f2 hp
          · exact f2
        obtain ⟨B, hB⟩ : ∃ B, atV ⟨c, t, x, m, k, e⟩ (p - 1) = B := ⟨_, rfl⟩
        have HBB : Hid (atV ⟨c, t, x, m, k, e⟩ (p - 1) = B) := hB
        rw [hB] at hf
        clear hB f2
        go_wp2_with fail
        refine (at_any c t x m k e (p - 1) _).mono ?_
        rintro r w6 ⟨rfl, hb6⟩
        rw [HBB.out]
        go_wp2
        go_ret
        exact ⟨by first | rfl | exact ret_b (by simp) | exact ret_b (decide_eq_true (by omega)) | exact ret_b (by simp; omega), hb5.trans (hb6.mono hb5.size)⟩
    · rw [decide_eq_false hl] at hr
      subst hr
      have HE : Hid (errV 1 S1 a b false = 5) := err_load (by omega) hs
      rw [HE.out]
      obtain ⟨L, hL⟩ : ∃ L, leastV ⟨c, t, x, m, k, e⟩ = L := ⟨_, rfl⟩
      have HLL : Hid (leastV ⟨c, t, x, m, k, e⟩ = L) := hL
      rw [hL] at hl
      clear hL hs hF s1 hm hsm hy
      go_wp2_with fail
      refine (spmay_any c t x m k e _).mono ?_
      rintro r w3 ⟨rfl, hb3⟩
      rw [HM.out]
      have hT3 := hT2.later hb3
      replace hb3 := hb2.trans (hb3.mono hb2.size)
      clear hT2 hb2 a0 a1 a2 a3 a4 a5
      obtain ⟨a0, a1, a2, a3, a4, a5, _⟩ := hT3.sp
      go_wp2_with fail
      refine (least_any c t x m k e _).mono ?_
      rintro r w4 ⟨rfl, hb4⟩
      rw [HLL.out]
      go_wp2
      go_ret
      exact ⟨by first | rfl | exact ret_b (by simp) | exact ret_b (decide_eq_true (by omega)) | exact ret_b (by simp; omega), hb3.trans (hb4.mono hb3.size)⟩
end Go.Proofs.YtmiakknagjncpaaDoor
