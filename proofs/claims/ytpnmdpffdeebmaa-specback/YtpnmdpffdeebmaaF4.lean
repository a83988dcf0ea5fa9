/- What the statement SpecBack comes to. -/
import Derived.Test.YtpnmdpffdeebmaaE14
namespace Go.Proofs.Ytpnmdpffdeebmaa
open Go.RowKit

set_option maxHeartbeats 1000000 in
set_option maxRecDepth 100000 in
theorem back_long (c t x m k e : Int) (ks : List Int) (v : Value) (w : World) (hk : Bys w v ks) (hl : 100 < ks.length) :
    Calls Try.prog 4 #[.agg #[.int .i64 c, .int .i64 t, .int .i64 x, .int .i64 m, .int .i64 k, .int .i64 e], v] w fun r w' => r = .returned (.bool true) ∧ Below w.heap.size w w' := by
  have hS : Six (w.alloc (.cells #[.int .i64 c, .int .i64 t, .int .i64 x, .int .i64 m, .int .i64 k, .int .i64 e] 23)) w.heap.size (Sp.at ⟨c, t, x, m, k, e⟩) := Six.new w ⟨c, t, x, m, k, e⟩
  have HK : Hid (Bys w v ks) := hk
  obtain ⟨a, cap, rfl, h1, h2, h3, h4, h5⟩ := hk
  clear h3 h4 h5
  have hl' : (100 : Int) < ks.length := by omega
  go_enter Try.func4, Try.ntmps4
  go_wp2_with fail
  refine (awake5_any _).mono ?_
  rintro r w1 ⟨rfl, hb1⟩
  have hS1 := hS.later hb1
  replace hb1 : Below w.heap.size w w1 := ((Below.refl _ _).alloc (by simp) _).trans (hb1.mono (by simp))
  have s1 := hS1.lt
  obtain ⟨a0, a1, a2, a3, a4, a5, b0, b1, b2, b3, b4, b5⟩ := hS1.sp
  clear hS
  go_wp2_with fail
  go_ret
  exact ⟨rfl, hb1⟩

theorem bys_lit1 (w : World) (n : Int) (h0 : 0 ≤ n) (h1 : n ≤ 255) : Bys (w.alloc (.cells #[.int .u8 n] 5)) (.slice (some ⟨w.heap.size, 0, none⟩) 1 1) [n] := by
  refine ⟨_, 1, rfl, Nat.le_refl _, (by unfold maxLen; omega), (fun h => by cases h), fun i hi => ?_, fun _ => ⟨_, 0, rfl, fun i hi => ?_⟩⟩ <;> (have hi' : i < 1 := hi) <;> obtain rfl : i = 0 := by omega
  · exact ⟨h0, h1⟩
  · simp
theorem more_bd {s : Sp} (h : maySp s = true) : ∀ i, i < (lst s ++ [0]).length → 0 ≤ (lst s ++ [0]).getD i 0 ∧ (lst s ++ [0]).getD i 0 ≤ 255 := by
  intro i hi
  have hi' : i < 7 := hi
  by_cases h6 : i < 6
  · have := lst_bd h i h6
    rwa [List.getD, List.getElem?_append_left (by exact h6)]
  · obtain rfl : i = 6 := by omega
    exact (show (0 : Int) ≤ 0 ∧ (0 : Int) ≤ 255 from ⟨by decide, by decide⟩)

set_option maxHeartbeats 1000000 in
set_option maxRecDepth 100000 in
theorem back_no0 (c t x m k e : Int) (ks : List Int) (v : Value) (w : World) (hk : Bys w v ks) (hl : ks.length ≤ 100) (hm : maySp ⟨c, t, x, m, k, e⟩ = false) (hg : maySp (gotS ks) = false) :
    Calls Try.prog 4 #[.agg #[.int .i64 c, .int .i64 t, .int .i64 x, .int .i64 m, .int .i64 k, .int .i64 e], v] w fun r w' => r = .returned (.bool true) ∧ Below w.heap.size w w' := by
  have hS : Six (w.alloc (.cells #[.int .i64 c, .int .i64 t, .int .i64 x, .int .i64 m, .int .i64 k, .int .i64 e] 23)) w.heap.size (Sp.at ⟨c, t, x, m, k, e⟩) := Six.new w ⟨c, t, x, m, k, e⟩
  have HK : Hid (Bys w v ks) := hk
  obtain ⟨a, cap, rfl, h1, h2, h3, h4, h5⟩ := hk
  clear h3 h4 h5
  have HM : Hid (maySp ⟨c, t, x, m, k, e⟩ = false) := hm
  clear hm
  have HG : Hid (knS (gotS ks) = ⟨0, 0, 0, 0, 0, 0⟩ ∧ maySp (gotS ks) = false) := ⟨knS_no hg, hg⟩
  have HZ : Hid (maySp ⟨0, 0, 0, 0, 0, 0⟩ = false) := spZ_no
  clear hg
  go_enter Try.func4, Try.ntmps4
  go_wp2_with fail
  refine (awake5_any _).mono ?_
  rintro r w1 ⟨rfl, hb1⟩
  have hS1 := hS.later hb1
  replace hb1 : Below w.heap.size w w1 := ((Below.refl _ _).alloc (by simp) _).trans (hb1.mono (by simp))
  have s1 := hS1.lt
  obtain ⟨a0, a1, a2, a3, a4, a5, b0, b1, b2, b3, b4, b5⟩ := hS1.sp
  clear hS
  go_wp2_with fail
  refine (spput_any c t x m k e _).mono ?_
  rintro r w2 ⟨va, rfl, hva, hb2⟩
  rw [HM.out]
  have hS2 := hS1.later hb2
  replace hb2 := hb1.trans (hb2.mono hb1.size)
  clear hS1 hb1 s1 a0 a1 a2 a3 a4 a5 b0 b1 b2 b3 b4 b5
  obtain ⟨a0, a1, a2, a3, a4, a5, b0, b1, b2, b3, b4, b5⟩ := hS2.sp
  have s2 := hS2.lt
  clear b0 b1 b2 b3 b4 b5
  go_wp2_with fail
  refine (spmay_any c t x m k e _).mono ?_
  rintro r w3 ⟨rfl, hb3⟩
  rw [HM.out]
  replace hb3 := hb2.trans (hb3.mono hb2.size)
  clear hS2 hb2 s2 hva a0 a1 a2 a3 a4 a5
  go_wp2_with fail
  refine (spget_any ks _ _ (HK.out.later hb3)).mono ?_
  rintro r z4 ⟨rfl, hz4⟩
  rw [HG.out.1, HG.out.2]
  replace hz4 := hb3.trans (hz4.mono hb3.size)
  unfold spV
  go_wp2_with fail
  refine (spput_any 0 0 0 0 0 0 _).mono ?_
  rintro r z5 ⟨vb, rfl, hvb, hz5⟩
  rw [HZ.out]
  replace hz5 := (hz4.alloc hz4.size _).trans (hz5.mono (by have := hz4.size; simp; omega))
  go_wp2_with fail
  go_ret
  exact ⟨rfl, hz5⟩

set_option maxHeartbeats 1000000 in
set_option maxRecDepth 100000 in
theorem back_no1 (c t x m k e : Int) (ks : List Int) (v : Value) (w : World) (hk : Bys w v ks) (hl : ks.length ≤ 100) (hm : maySp ⟨c, t, x, m, k, e⟩ = false) (hg : maySp (gotS ks) = true) :
    Calls Try.prog 4 #[.agg #[.int .i64 c, .int .i64 t, .int .i64 x, .int .i64 m, .int .i64 k, .int .i64 e], v] w fun r w' => r = .returned (.bool true) ∧ Below w.heap.size w w' := by
  have hS : Six (w.alloc (.cells #[.int .i64 c, .int .i64 t, .int .i64 x, .int .i64 m, .int .i64 k, .int .i64 e] 23)) w.heap.size (Sp.at ⟨c, t, x, m, k, e⟩) := Six.new w ⟨c, t, x, m, k, e⟩
  have HK : Hid (Bys w v ks) := hk
  obtain ⟨a, cap, rfl, h1, h2, h3, h4, h5⟩ := hk
  clear h3 h4 h5
  have HM : Hid (maySp ⟨c, t, x, m, k, e⟩ = false) := hm
  clear hm
  have hlg := lst_got hg
  obtain ⟨⟨g0, g1, g2, g3, g4, g5⟩, hgs⟩ : ∃ q, gotS ks = q := ⟨_, rfl⟩
  rw [hgs] at hg hlg
  have HG : Hid (knS (gotS ks) = ⟨g0, g1, g2, g3, g4, g5⟩ ∧ maySp (gotS ks) = true) := by rw [hgs]; exact ⟨knS_yes hg, hg⟩
  have HZ : Hid (maySp ⟨g0, g1, g2, g3, g4, g5⟩ = true) := hg
  have HY : Hid (byS ⟨g0, g1, g2, g3, g4, g5⟩ = ks ∧ sameB ks ks = true) := ⟨(byS_yes hg).trans hlg.1, decide_eq_true rfl⟩
  clear hg hlg hgs
  go_enter Try.func4, Try.ntmps4
  go_wp2_with fail
  refine (awake5_any _).mono ?_
  rintro r w1 ⟨rfl, hb1⟩
  have hS1 := hS.later hb1
  replace hb1 : Below w.heap.size w w1 := ((Below.refl _ _).alloc (by simp) _).trans (hb1.mono (by simp))
  have s1 := hS1.lt
  obtain ⟨a0, a1, a2, a3, a4, a5, b0, b1, b2, b3, b4, b5⟩ := hS1.sp
  clear hS
  go_wp2_with fail
  refine (spput_any c t x m k e _).mono ?_
  rintro r w2 ⟨va, rfl, hva, hb2⟩
  rw [HM.out]
  have hS2 := hS1.later hb2
  replace hb2 := hb1.trans (hb2.mono hb1.size)
  clear hS1 hb1 s1 a0 a1 a2 a3 a4 a5 b0 b1 b2 b3 b4 b5
  obtain ⟨a0, a1, a2, a3, a4, a5, b0, b1, b2, b3, b4, b5⟩ := hS2.sp
  have s2 := hS2.lt
  clear b0 b1 b2 b3 b4 b5
  go_wp2_with fail
  refine (spmay_any c t x m k e _).mono ?_
  rintro r w3 ⟨rfl, hb3⟩
  rw [HM.out]
  replace hb3 := hb2.trans (hb3.mono hb2.size)
  clear hS2 hb2 s2 hva a0 a1 a2 a3 a4 a5
  go_wp2_with fail
  refine (spget_any ks _ _ (HK.out.later hb3)).mono ?_
  rintro r z4 ⟨rfl, hz4⟩
  rw [HG.out.1, HG.out.2]
  replace hz4 := hb3.trans (hz4.mono hb3.size)
  unfold spV
  go_wp2_with fail
  refine (spput_any g0 g1 g2 g3 g4 g5 _).mono ?_
  rintro r z5 ⟨vb, rfl, hvb, hz5⟩
  rw [HZ.out]
  replace hz5 := (hz4.alloc hz4.size _).trans (hz5.mono (by have := hz4.size; simp; omega))
  rw [HY.out.1] at hvb
  go_wp2_with fail
  refine (bytes_any ks ks vb _ _ hvb (HK.out.later hz5) (by omega)).mono ?_
  rintro r z6 ⟨rfl, hz6⟩
  rw [HY.out.2]
  replace hz6 := hz5.trans (hz6.mono hz5.size)
  go_wp2_with fail
  go_ret
  exact ⟨rfl, hz6⟩

set_option maxHeartbeats 1000000 in
set_option maxRecDepth 100000 in
theorem back_yes0 (c t x m k e : Int) (ks : List Int) (v : Value) (w : World) (hk : Bys w v ks) (hl : ks.length ≤ 100) (hm : maySp ⟨c, t, x, m, k, e⟩ = true) (hg : maySp (gotS ks) = false) :
    Calls Try.prog 4 #[.agg #[.int .i64 c, .int .i64 t, .int .i64 x, .int .i64 m, .int .i64 k, .int .i64 e], v] w fun r w' => r = .returned (.bool true) ∧ Below w.heap.size w w' := by
  have hS : Six (w.alloc (.cells #[.int .i64 c, .int .i64 t, .int .i64 x, .int .i64 m, .int .i64 k, .int .i64 e] 23)) w.heap.size (Sp.at ⟨c, t, x, m, k, e⟩) := Six.new w ⟨c, t, x, m, k, e⟩
  have HK : Hid (Bys w v ks) := hk
  obtain ⟨a, cap, rfl, h1, h2, h3, h4, h5⟩ := hk
  clear h3 h4 h5
  have HM : Hid (maySp ⟨c, t, x, m, k, e⟩ = true) := hm
  have HP : Hid (byS ⟨c, t, x, m, k, e⟩ = (lst ⟨c, t, x, m, k, e⟩) ∧ knS (gotS (lst ⟨c, t, x, m, k, e⟩)) = ⟨c, t, x, m, k, e⟩ ∧ maySp (gotS (lst ⟨c, t, x, m, k, e⟩)) = true) := ⟨byS_yes hm, knS_yes hm, hm⟩
  have HP2 : Hid (∀ i, i < ((lst ⟨c, t, x, m, k, e⟩) ++ [0]).length → 0 ≤ ((lst ⟨c, t, x, m, k, e⟩) ++ [0]).getD i 0 ∧ ((lst ⟨c, t, x, m, k, e⟩) ++ [0]).getD i 0 ≤ 255) := more_bd hm
  have HP3 : Hid (knS (gotS ((lst ⟨c, t, x, m, k, e⟩) ++ [0])) = ⟨0, 0, 0, 0, 0, 0⟩ ∧ maySp (gotS ((lst ⟨c, t, x, m, k, e⟩) ++ [0])) = false) := ⟨knS_no spZ_no, spZ_no⟩
  clear hm
  have HG : Hid (knS (gotS ks) = ⟨0, 0, 0, 0, 0, 0⟩ ∧ maySp (gotS ks) = false) := ⟨knS_no hg, hg⟩
  have HZ : Hid (maySp ⟨0, 0, 0, 0, 0, 0⟩ = false) := spZ_no
  clear hg
  go_enter Try.func4, Try.ntmps4
  go_wp2_with fail
  refine (awake5_any _).mono ?_
  rintro r w1 ⟨rfl, hb1⟩
  have hS1 := hS.later hb1
  replace hb1 : Below w.heap.size w w1 := ((Below.refl _ _).alloc (by simp) _).trans (hb1.mono (by simp))
  have s1 := hS1.lt
  obtain ⟨a0, a1, a2, a3, a4, a5, b0, b1, b2, b3, b4, b5⟩ := hS1.sp
  clear hS
  go_wp2_with fail
  refine (spput_any c t x m k e _).mono ?_
  rintro r w2 ⟨va, rfl, hva, hb2⟩
  rw [HM.out]
  have hS2 := hS1.later hb2
  replace hb2 := hb1.trans (hb2.mono hb1.size)
  clear hS1 hb1 s1 a0 a1 a2 a3 a4 a5 b0 b1 b2 b3 b4 b5
  obtain ⟨a0, a1, a2, a3, a4, a5, b0, b1, b2, b3, b4, b5⟩ := hS2.sp
  have s2 := hS2.lt
  clear b0 b1 b2 b3 b4 b5
  go_wp2_with fail
  refine (spmay_any c t x m k e _).mono ?_
  rintro r w3 ⟨rfl, hb3⟩
  rw [HM.out]
  have hS3 := hS2.later hb3
  have hv3 := hva.later hb3
  replace hb3 := hb2.trans (hb3.mono hb2.size)
  clear hS2 hb2 s2 hva a0 a1 a2 a3 a4 a5
  rw [HP.out.1] at hv3
  have HV : Hid (Bys w3 va (lst ⟨c, t, x, m, k, e⟩)) := hv3
  obtain ⟨aa, ca, rfl, v1, v2, _, _, _⟩ := hv3
  have e6 : (lst ⟨c, t, x, m, k, e⟩).length = 6 := rfl
  rw [e6] at HV v1 ⊢
  clear e6
  go_wp2_with fail
  refine (spget_any (lst ⟨c, t, x, m, k, e⟩) _ _ HV.out).mono ?_
  rintro r w4 ⟨rfl, hb4⟩
  rw [HP.out.2.1, HP.out.2.2]
  have HV4 : Hid (Bys (w4.alloc (.cells #[.int .i64 c, .int .i64 t, .int .i64 x, .int .i64 m, .int .i64 k, .int .i64 e] 23)) (.slice aa 6 ca) (lst ⟨c, t, x, m, k, e⟩)) := (HV.out.later hb4).later ((Below.refl _ _).alloc (Nat.le_refl _) _)
  have hS4 := hS3.later hb4
  have hX4 : Six (w4.alloc (.cells #[.int .i64 c, .int .i64 t, .int .i64 x, .int .i64 m, .int .i64 k, .int .i64 e] 23)) w4.heap.size (Sp.at ⟨c, t, x, m, k, e⟩) := Six.new w4 ⟨c, t, x, m, k, e⟩
  replace hb4 := hb3.trans (hb4.mono hb3.size)
  have s4 := hS4.lt
  clear hS3 hb3 HV
  have hS5 := hS4.later ((Below.refl _ _).alloc (Nat.le_refl _) (.cells #[.int .i64 c, .int .i64 t, .int .i64 x, .int .i64 m, .int .i64 k, .int .i64 e] 23))
  have HR : Hid (Six (w4.alloc (.cells #[.int .i64 c, .int .i64 t, .int .i64 x, .int .i64 m, .int .i64 k, .int .i64 e] 23)) w.heap.size (Sp.at ⟨c, t, x, m, k, e⟩) ∧ Six (w4.alloc (.cells #[.int .i64 c, .int .i64 t, .int .i64 x, .int .i64 m, .int .i64 k, .int .i64 e] 23)) w4.heap.size (Sp.at ⟨c, t, x, m, k, e⟩) ∧ Below w.heap.size w (w4.alloc (.cells #[.int .i64 c, .int .i64 t, .int .i64 x, .int .i64 m, .int .i64 k, .int .i64 e] 23))) := ⟨hS5, hX4, hb4.alloc hb4.size _⟩
  clear hS4 hS5 hX4 hb4
  unfold spV
  go_wp2_with (first
    | (at_builtin; refine append_bys rfl _ _ rfl (w4.heap.size + 1) (.slice none 0 0) _ 0 [] (lst ⟨c, t, x, m, k, e⟩) (by rfl) (World.ownsRow_nil _ _ _ _) (by rfl) HV4.out (by simp [lst]) (by simp) ?_; intro u1 w5 hown1 hb5)
    | (at_builtin; refine append_bys rfl _ _ rfl (w4.heap.size + 1) u1 _ (0 + (lst ⟨c, t, x, m, k, e⟩).length) ([] ++ (lst ⟨c, t, x, m, k, e⟩)) [0] (by rfl) (hown1.alloc _) (by rfl) (bys_lit1 w5 0 (by omega) (by omega)) (by simp [lst]) (by have := hb5.size; simp at this; simp; omega) ?_; intro u2 w6 hown2 hb6))
  have hB6 : Below (w4.heap.size + 1) (w4.alloc (.cells #[.int .i64 c, .int .i64 t, .int .i64 x, .int .i64 m, .int .i64 k, .int .i64 e] 23)) w6 := (hb5.alloc (by have := hb5.size; simp at this; omega) _).trans hb6
  have q6 : (w4.alloc (.cells #[.int .i64 c, .int .i64 t, .int .i64 x, .int .i64 m, .int .i64 k, .int .i64 e] 23)).heap.size = w4.heap.size + 1 := by simp
  rw [← q6] at hB6
  have HO : Hid (Bys w6 u2 ((lst ⟨c, t, x, m, k, e⟩) ++ [0])) := Bys.own hown2 (by simp [lst]) HP2.out
  have hS6 := HR.out.1.later hB6
  have hX6 := HR.out.2.1.later hB6
  have hb6' : Below w.heap.size w w6 := HR.out.2.2.trans (hB6.mono HR.out.2.2.size)
  clear hown1 hown2 hb5 hb6 hB6 q6 HR HV4
  go_wp2_with fail
  refine (spget_any ((lst ⟨c, t, x, m, k, e⟩) ++ [0]) _ _ HO.out).mono ?_
  rintro r w7 ⟨rfl, hb7⟩
  rw [HP3.out.1, HP3.out.2]
  have hS7 := hS6.later hb7
  have hX7 := hX6.later hb7
  replace hb7 := hb6'.trans (hb7.mono hb6'.size)
  clear hS6 hX6 hb6' HO
  have s7 := hS7.lt
  have s8 := hX7.lt
  obtain ⟨a0, a1, a2, a3, a4, a5, b0, b1, b2, b3, b4, b5⟩ := hS7.sp
  clear b0 b1 b2 b3 b4 b5
  obtain ⟨y0, y1, y2, y3, y4, y5, b0, b1, b2, b3, b4, b5⟩ := hX7.sp
  clear b0 b1 b2 b3 b4 b5 hS7 hX7
  have hN : ∀ w, (binOp .neq 23 (.agg #[.int .i64 c, .int .i64 t, .int .i64 x, .int .i64 m, .int .i64 k, .int .i64 e]) (.agg #[.int .i64 c, .int .i64 t, .int .i64 x, .int .i64 m, .int .i64 k, .int .i64 e])).run Try.prog w = .ok (.bool false) w := fun w => by rw [sp_neq, spB_self]; rfl
  unfold spV
  have hb8 := hb7.alloc hb7.size (.cells #[.int .i64 0, .int .i64 0, .int .i64 0, .int .i64 0, .int .i64 0, .int .i64 0] 23)
  clear hb7
  go_wp2_with fail
  refine (spget_any ks _ _ (HK.out.later hb8)).mono ?_
  rintro r z4 ⟨rfl, hz4⟩
  rw [HG.out.1, HG.out.2]
  replace hz4 := hb8.trans (hz4.mono hb8.size)
  unfold spV
  go_wp2_with fail
  refine (spput_any 0 0 0 0 0 0 _).mono ?_
  rintro r z5 ⟨vb, rfl, hvb, hz5⟩
  rw [HZ.out]
  replace hz5 := (hz4.alloc hz4.size _).trans (hz5.mono (by have := hz4.size; simp; omega))
  go_wp2_with fail
  go_ret
  exact ⟨rfl, hz5⟩

set_option maxHeartbeats 1000000 in
set_option maxRecDepth 100000 in
theorem back_yes1 (c t x m k e : Int) (ks : List Int) (v : Value) (w : World) (hk : Bys w v ks) (hl : ks.length ≤ 100) (hm : maySp ⟨c, t, x, m, k, e⟩ = true) (hg : maySp (gotS ks) = true) :
    Calls Try.prog 4 #[.agg #[.int .i64 c, .int .i64 t, .int .i64 x, .int .i64 m, .int .i64 k, .int .i64 e], v] w fun r w' => r = .returned (.bool true) ∧ Below w.heap.size w w' := by
  have hS : Six (w.alloc (.cells #[.int .i64 c, .int .i64 t, .int .i64 x, .int .i64 m, .int .i64 k, .int .i64 e] 23)) w.heap.size (Sp.at ⟨c, t, x, m, k, e⟩) := Six.new w ⟨c, t, x, m, k, e⟩
  have HK : Hid (Bys w v ks) := hk
  obtain ⟨a, cap, rfl, h1, h2, h3, h4, h5⟩ := hk
  clear h3 h4 h5
  have HM : Hid (maySp ⟨c, t, x, m, k, e⟩ = true) := hm
  have HP : Hid (byS ⟨c, t, x, m, k, e⟩ = (lst ⟨c, t, x, m, k, e⟩) ∧ knS (gotS (lst ⟨c, t, x, m, k, e⟩)) = ⟨c, t, x, m, k, e⟩ ∧ maySp (gotS (lst ⟨c, t, x, m, k, e⟩)) = true) := ⟨byS_yes hm, knS_yes hm, hm⟩
  have HP2 : Hid (∀ i, i < ((lst ⟨c, t, x, m, k, e⟩) ++ [0]).length → 0 ≤ ((lst ⟨c, t, x, m, k, e⟩) ++ [0]).getD i 0 ∧ ((lst ⟨c, t, x, m, k, e⟩) ++ [0]).getD i 0 ≤ 255) := more_bd hm
  have HP3 : Hid (knS (gotS ((lst ⟨c, t, x, m, k, e⟩) ++ [0])) = ⟨0, 0, 0, 0, 0, 0⟩ ∧ maySp (gotS ((lst ⟨c, t, x, m, k, e⟩) ++ [0])) = false) := ⟨knS_no spZ_no, spZ_no⟩
  clear hm
  have hlg := lst_got hg
  obtain ⟨⟨g0, g1, g2, g3, g4, g5⟩, hgs⟩ : ∃ q, gotS ks = q := ⟨_, rfl⟩
  rw [hgs] at hg hlg
  have HG : Hid (knS (gotS ks) = ⟨g0, g1, g2, g3, g4, g5⟩ ∧ maySp (gotS ks) = true) := by rw [hgs]; exact ⟨knS_yes hg, hg⟩
  have HZ : Hid (maySp ⟨g0, g1, g2, g3, g4, g5⟩ = true) := hg
  have HY : Hid (byS ⟨g0, g1, g2, g3, g4, g5⟩ = ks ∧ sameB ks ks = true) := ⟨(byS_yes hg).trans hlg.1, decide_eq_true rfl⟩
  clear hg hlg hgs
  go_enter Try.func4, Try.ntmps4
  go_wp2_with fail
  refine (awake5_any _).mono ?_
  rintro r w1 ⟨rfl, hb1⟩
  have hS1 := hS.later hb1
  replace hb1 : Below w.heap.size w w1 := ((Below.refl _ _).alloc (by simp) _).trans (hb1.mono (by simp))
  have s1 := hS1.lt
  obtain ⟨a0, a1, a2, a3, a4, a5, b0, b1, b2, b3, b4, b5⟩ := hS1.sp
  clear hS
  go_wp2_with fail
  refine (spput_any c t x m k e _).mono ?_
  rintro r w2 ⟨va, rfl, hva, hb2⟩
  rw [HM.out]
  have hS2 := hS1.later hb2
  replace hb2 := hb1.trans (hb2.mono hb1.size)
  clear hS1 hb1 s1 a0 a1 a2 a3 a4 a5 b0 b1 b2 b3 b4 b5
  obtain ⟨a0, a1, a2, a3, a4, a5, b0, b1, b2, b3, b4, b5⟩ := hS2.sp
  have s2 := hS2.lt
  clear b0 b1 b2 b3 b4 b5
  go_wp2_with fail
  refine (spmay_any c t x m k e _).mono ?_
  rintro r w3 ⟨rfl, hb3⟩
  rw [HM.out]
  have hS3 := hS2.later hb3
  have hv3 := hva.later hb3
  replace hb3 := hb2.trans (hb3.mono hb2.size)
  clear hS2 hb2 s2 hva a0 a1 a2 a3 a4 a5
  rw [HP.out.1] at hv3
  have HV : Hid (Bys w3 va (lst ⟨c, t, x, m, k, e⟩)) := hv3
  obtain ⟨aa, ca, rfl, v1, v2, _, _, _⟩ := hv3
  have e6 : (lst ⟨c, t, x, m, k, e⟩).length = 6 := rfl
  rw [e6] at HV v1 ⊢
  clear e6
  go_wp2_with fail
  refine (spget_any (lst ⟨c, t, x, m, k, e⟩) _ _ HV.out).mono ?_
  rintro r w4 ⟨rfl, hb4⟩
  rw [HP.out.2.1, HP.out.2.2]
  have HV4 : Hid (Bys (w4.alloc (.cells #[.int .i64 c, .int .i64 t, .int .i64 x, .int .i64 m, .int .i64 k, .int .i64 e] 23)) (.slice aa 6 ca) (lst ⟨c, t, x, m, k, e⟩)) := (HV.out.later hb4).later ((Below.refl _ _).alloc (Nat.le_refl _) _)
  have hS4 := hS3.later hb4
  have hX4 : Six (w4.alloc (.cells #[.int .i64 c, .int .i64 t, .int .i64 x, .int .i64 m, .int .i64 k, .int .i64 e] 23)) w4.heap.size (Sp.at ⟨c, t, x, m, k, e⟩) := Six.new w4 ⟨c, t, x, m, k, e⟩
  replace hb4 := hb3.trans (hb4.mono hb3.size)
  have s4 := hS4.lt
  clear hS3 hb3 HV
  have hS5 := hS4.later ((Below.refl _ _).alloc (Nat.le_refl _) (.cells #[.int .i64 c, .int .i64 t, .int .i64 x, .int .i64 m, .int .i64 k, .int .i64 e] 23))
  have HR : Hid (Six (w4.alloc (.cells #[.int .i64 c, .int .i64 t, .int .i64 x, .int .i64 m, .int .i64 k, .int .i64 e] 23)) w.heap.size (Sp.at ⟨c, t, x, m, k, e⟩) ∧ Six (w4.alloc (.cells #[.int .i64 c, .int .i64 t, .int .i64 x, .int .i64 m, .int .i64 k, .int .i64 e] 23)) w4.heap.size (Sp.at ⟨c, t, x, m, k, e⟩) ∧ Below w.heap.size w (w4.alloc (.cells #[.int .i64 c, .int .i64 t, .int .i64 x, .int .i64 m, .int .i64 k, .int .i64 e] 23))) := ⟨hS5, hX4, hb4.alloc hb4.size _⟩
  clear hS4 hS5 hX4 hb4
  unfold spV
  go_wp2_with (first
    | (at_builtin; refine append_bys rfl _ _ rfl (w4.heap.size + 1) (.slice none 0 0) _ 0 [] (lst ⟨c, t, x, m, k, e⟩) (by rfl) (World.ownsRow_nil _ _ _ _) (by rfl) HV4.out (by simp [lst]) (by simp) ?_; intro u1 w5 hown1 hb5)
    | (at_builtin; refine append_bys rfl _ _ rfl (w4.heap.size + 1) u1 _ (0 + (lst ⟨c, t, x, m, k, e⟩).length) ([] ++ (lst ⟨c, t, x, m, k, e⟩)) [0] (by rfl) (hown1.alloc _) (by rfl) (bys_lit1 w5 0 (by omega) (by omega)) (by simp [lst]) (by have := hb5.size; simp at this; simp; omega) ?_; intro u2 w6 hown2 hb6))
  have hB6 : Below (w4.heap.size + 1) (w4.alloc (.cells #[.int .i64 c, .int .i64 t, .int .i64 x, .int .i64 m, .int .i64 k, .int .i64 e] 23)) w6 := (hb5.alloc (by have := hb5.size; simp at this; omega) _).trans hb6
  have q6 : (w4.alloc (.cells #[.int .i64 c, .int .i64 t, .int .i64 x, .int .i64 m, .int .i64 k, .int .i64 e] 23)).heap.size = w4.heap.size + 1 := by simp
  rw [← q6] at hB6
  have HO : Hid (Bys w6 u2 ((lst ⟨c, t, x, m, k, e⟩) ++ [0])) := Bys.own hown2 (by simp [lst]) HP2.out
  have hS6 := HR.out.1.later hB6
  have hX6 := HR.out.2.1.later hB6
  have hb6' : Below w.heap.size w w6 := HR.out.2.2.trans (hB6.mono HR.out.2.2.size)
  clear hown1 hown2 hb5 hb6 hB6 q6 HR HV4
  go_wp2_with fail
  refine (spget_any ((lst ⟨c, t, x, m, k, e⟩) ++ [0]) _ _ HO.out).mono ?_
  rintro r w7 ⟨rfl, hb7⟩
  rw [HP3.out.1, HP3.out.2]
  have hS7 := hS6.later hb7
  have hX7 := hX6.later hb7
  replace hb7 := hb6'.trans (hb7.mono hb6'.size)
  clear hS6 hX6 hb6' HO
  have s7 := hS7.lt
  have s8 := hX7.lt
  obtain ⟨a0, a1, a2, a3, a4, a5, b0, b1, b2, b3, b4, b5⟩ := hS7.sp
  clear b0 b1 b2 b3 b4 b5
  obtain ⟨y0, y1, y2, y3, y4, y5, b0, b1, b2, b3, b4, b5⟩ := hX7.sp
  clear b0 b1 b2 b3 b4 b5 hS7 hX7
  have hN : ∀ w, (binOp .neq 23 (.agg #[.int .i64 c, .int .i64 t, .int .i64 x, .int .i64 m, .int .i64 k, .int .i64 e]) (.agg #[.int .i64 c, .int .i64 t, .int .i64 x, .int .i64 m, .int .i64 k, .int .i64 e])).run Try.prog w = .ok (.bool false) w := fun w => by rw [sp_neq, spB_self]; rfl
  unfold spV
  have hb8 := hb7.alloc hb7.size (.cells #[.int .i64 0, .int .i64 0, .int .i64 0, .int .i64 0, .int .i64 0, .int .i64 0] 23)
  clear hb7
  go_wp2_with fail
  refine (spget_any ks _ _ (HK.out.later hb8)).mono ?_
  rintro r z4 ⟨rfl, hz4⟩
  rw [HG.out.1, HG.out.2]
  replace hz4 := hb8.trans (hz4.mono hb8.size)
  unfold spV
  go_wp2_with fail
  refine (spput_any g0 g1 g2 g3 g4 g5 _).mono ?_
  rintro r z5 ⟨vb, rfl, hvb, hz5⟩
  rw [HZ.out]
  replace hz5 := (hz4.alloc hz4.size _).trans (hz5.mono (by have := hz4.size; simp; omega))
  rw [HY.out.1] at hvb
  go_wp2_with fail
  refine (bytes_any ks ks vb _ _ hvb (HK.out.later hz5) (by omega)).mono ?_
  rintro r z6 ⟨rfl, hz6⟩
  rw [HY.out.2]
  replace hz6 := hz5.trans (hz6.mono hz5.size)
  go_wp2_with fail
  go_ret
  exact ⟨rfl, hz6⟩

theorem law_back (c t x m k e : Int) (ks : List Int) (v : Value) (w : World) (hk : Bys w v ks) :
    Calls Try.prog 4 #[.agg #[.int .i64 c, .int .i64 t, .int .i64 x, .int .i64 m, .int .i64 k, .int .i64 e], v] w fun r w' => r = .returned (.bool true) ∧ Below w.heap.size w w' := by
  by_cases hl : ks.length ≤ 100
  · cases hm : maySp ⟨c, t, x, m, k, e⟩ <;> cases hg : maySp (gotS ks)
    · exact back_no0 c t x m k e ks v w hk hl hm hg
    · exact back_no1 c t x m k e ks v w hk hl hm hg
    · exact back_yes0 c t x m k e ks v w hk hl hm hg
    · exact back_yes1 c t x m k e ks v w hk hl hm hg
  · exact back_long c t x m k e ks v w hk (by omega)
end Go.Proofs.Ytpnmdpffdeebmaa
