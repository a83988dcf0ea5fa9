/- What the statement PlanLess comes to. -/
import Derived.Test.YtmiakknagjncpaaDoorC11
namespace Go.Proofs.YtmiakknagjncpaaDoor
open Go.RowKit Go.Shelf

section
variable {n t : Nat} {s : Nat → Sp} {a b c d : Int} {rb rd : Bool}
theorem less_err (hn : n ≤ 4) (ht : t < n) (hF : FrT n s a b rb) (hG : FrT (n - 1) (lessF s t) c d rd) (h : errV (n - 1) (lessF s t) c d rd = 5 ∨ errV (n - 1) (lessF s t) c d rd = 1) : errV n s a b rb = 5 ∨ errV n s a b rb = 1 := by
  obtain ⟨N, rfl⟩ : ∃ N, n = N + 1 := ⟨n - 1, by omega⟩
  rw [Nat.add_sub_cancel] at hG h
  cases hs : spsB (N + 1) s with
  | false => exact .inr (err_arg hn hs)
  | true =>
    have hl : spsB N (lessF s t) = true := less_sps hs
    have h1 := frT_room hn hs hF
    have h2 := frT_room (by omega) hl hG
    by_cases hr : sm (N + 1) (leaF s) ≤ 983040
    · have h3 := less_room hs ht hr
      rw [decide_eq_true h3] at h2
      subst h2
      rcases err_cases (n := N) (s := lessF s t) (a := c) (b := d) (rb := true) with ⟨_, he⟩ | ⟨_, hx, he⟩ | ⟨_, _, hx, he⟩ | ⟨_, _, _, _, he⟩ | ⟨_, _, _, _, he⟩
      · omega
      · rw [hl] at hx; cases hx
      · cases hx
      · omega
      · omega
    · rw [decide_eq_false hr] at h1
      subst h1
      exact .inl (err_load hn hs)
theorem less_p (hn : n ≤ 4) (ht : t < n) (hF : FrT n s a b rb) (hG : FrT (n - 1) (lessF s t) c d rd) (h : errV n s a b rb = 0) (h' : errV (n - 1) (lessF s t) c d rd = 0) (i : Nat) (hi : i < n - 1) : prF (lessF s t) c d i ≤ prF s a b (skI t i) := by
  obtain ⟨N, rfl⟩ : ∃ N, n = N + 1 := ⟨n - 1, by omega⟩
  rw [Nat.add_sub_cancel] at hG h' hi
  rcases err_cases (n := N + 1) (s := s) (a := a) (b := b) (rb := rb) with ⟨_, he⟩ | ⟨_, _, he⟩ | ⟨_, _, _, he⟩ | ⟨_, _, _, _, he⟩ | ⟨_, hs, hr, _, _⟩
  · omega
  · omega
  · omega
  · omega
  · rcases err_cases (n := N) (s := lessF s t) (a := c) (b := d) (rb := rd) with ⟨_, he⟩ | ⟨_, _, he⟩ | ⟨_, _, _, he⟩ | ⟨_, _, _, _, he⟩ | ⟨_, _, hr', _, _⟩
    · omega
    · omega
    · omega
    · omega
    · subst hr hr'
      exact less_pr hn hs ht (frT_is hF) (frT_is hG) hi
end
theorem cat_lessS (s : Nat → Sp) (t i : Nat) : catS t s (fun i => s (t + 1 + i)) i = lessF s t i := by
  unfold catS lessF
  by_cases c : i < t
  · rw [if_pos c, if_pos c]
  · rw [if_neg c, if_neg c]
    show s (t + 1 + (i - t)) = _
    rw [show t + 1 + (i - t) = i + 1 by omega]
theorem less_sl {w : World} {B l t : Nat} {v : Value} {f : Nat → Sp} (h : OwnS w B v (0 + t + (l - (t + 1))) (catS (0 + t) (catS 0 f f) (fun i => f (t + 1 + i)))) (ht : t < l) : Sps w v (l - 1) (lessF f t) := by
  have hg := h.two
  rw [show t + (l - (t + 1)) = l - 1 by omega] at hg
  exact hg.congr fun i _ => cat_lessS f t i

set_option maxHeartbeats 4000000 in
set_option maxRecDepth 100000 in
theorem law_pless (n : Nat) (s : Nat → Sp) (i : Int) (v : Value) (w : World) (h : Sps w v n s) (hL : Lim w) :
    Calls Tryd.prog 5 #[v, .int .i64 i] w fun e w' => e = .returned (.bool true) ∧ Below w.heap.size w w' := by
  have HX0 : Hid (Sps w v n s ∧ Lim w) := ⟨h, hL⟩
  obtain ⟨ad, cap, rfl, h1, h2, h0, h3⟩ := h
  clear hL h0
  go_enter Tryd.func5, Tryd.ntmps5
  go_wp2_with fail
  refine (awake10_any _ HX0.out.2).mono ?_
  rintro e w1 ⟨rfl, hb1⟩
  have HX1 : Hid (Sps w1 (.slice ad n cap) n s ∧ Lim w1) := ⟨HX0.out.1.later hb1, HX0.out.2.later hb1⟩
  clear HX0
  by_cases hn : (n : Int) > 4
  · clear h3
    go_wp2
    go_ret
    exact ⟨by first | rfl | exact ret_b (by simp) | exact ret_b (decide_eq_true (by omega)) | exact ret_b (by simp; omega), hb1⟩
  · by_cases g0 : i < 0
    · clear h3
      go_wp2
      go_ret
      exact ⟨by first | rfl | exact ret_b (by simp) | exact ret_b (decide_eq_true (by omega)) | exact ret_b (by simp; omega), hb1⟩
    · by_cases g1 : i ≥ n
      · clear h3
        go_wp2
        go_ret
        exact ⟨by first | rfl | exact ret_b (by simp) | exact ret_b (decide_eq_true (by omega)) | exact ret_b (by simp; omega), hb1⟩
      · have i0 : 0 ≤ i := by omega
        obtain ⟨t, rfl⟩ := Int.eq_ofNat_of_zero_le i0
        have g2 : (t : Int) < n := by omega
        obtain ⟨a, b, rb, hF⟩ := frT_exists n s
        have HF : Hid (FrT n s a b rb) := hF
        obtain ⟨c, d, rd, hG⟩ := frT_exists (n - 1) (lessF s t)
        have HG : Hid (FrT (n - 1) (lessF s t) c d rd) := hG
        clear hF hG
        go_wp2_with fail
        refine (target_any n s a b rb _ _ HX1.out.1 HF.out HX1.out.2).mono ?_
        rintro r w2 ⟨y, rfl, hy, hb2⟩
        have HY : Hid (Fxs w2 y (tgN n s a b rb) (tgF s a b)) := hy
        have HX : Hid (Sps w2 (.slice ad n cap) n s ∧ Lim w2) := ⟨HX1.out.1.later hb2, HX1.out.2.later hb2⟩
        replace hb2 := hb1.trans (hb2.mono hb1.size)
        clear hb1 HX1 hy
        obtain ⟨E, hE⟩ : ∃ E, errV n s a b rb = E := ⟨_, rfl⟩
        have HE : Hid (errV n s a b rb = E) := hE
        rw [hE]
        clear hE
        obtain ⟨bb, o, rfl, _⟩ := h3 (by omega)
        clear h3
        have q1 : (0 : Int) ≤ (t : Int) := by omega
        have q2 : (t : Int) ≤ cap := by omega
        have q3 : (0 : Int) ≤ (t : Int) + 1 := by omega
        have q4 : (t : Int) + 1 ≤ (n : Int) := by omega
        have q5 : (t : Int) ≤ (n : Int) := by omega
        have q7 : IntKind.i64.wrap ((t : Int) + 1) = (t : Int) + 1 := by rw [IntKind.wrap_i64]; omega
        have ht : t ≤ n := by omega
        have ht1 : t + 1 ≤ n := by omega
        have z1 : 0 + t ≤ 100000 := by omega
        have z2 : 0 + t + (n - (t + 1)) ≤ 100000 := by omega
        rcases (show t + 1 < cap ∨ t + 1 = cap by omega) with hc | hc
        · have hc' : (t : Int) + 1 < cap := by omega
          have hcn : cap ≠ t + 1 := by omega
          have hs2 := hb2.size
          go_wp2_with fail
          go_region_held3 (fun _ => True) (exact trivial) (first
            | (have hw3 := hown3; refine step_append_sps (by rfl) _ _ (by rfl) w2.heap.size v3 _ (0 + t) (n - (t + 1)) (catS 0 s s) (fun i => s (t + 1 + i)) (by rfl) hw3 (by rfl) ((HX.out.1.later ((Below.refl _ _).drew.trans hb3)).tail ht1) z2 hb3.size ?_; intro v4 w4 hown4 hb4)
            | (refine step_append_sps (by rfl) _ _ (by rfl) w2.heap.size (.slice none 0 0) _ 0 t s s (by rfl) (OwnS.nil _ _ s) (by rfl) ((HX.out.1.later (Below.refl _ _).drew).front ht) z1 (Nat.le_refl _) ?_; intro v3 w3 hown3 hb3))
          all_goals
            have hB4 : Below w2.heap.size w2 w4 := (Below.refl _ _).drew.trans (hb3.trans hb4)
            have HLs : Hid (Sps w4 v4 (n - 1) (lessF s t) ∧ Lim w4) := ⟨less_sl hown4 (by omega), HX.out.2.later hB4⟩
            have HY4 : Hid (Fxs w4 y (tgN n s a b rb) (tgF s a b)) := HY.out.later hB4
            have hb04 : Below w.heap.size w w4 := hb2.trans (hB4.mono hb2.size)
            clear hown4 hown3 hw3 hb3 hb4 hB4 HX HY hb2
            go_wp2_with fail
            refine (target_any (n - 1) (lessF s t) c d rd _ _ HLs.out.1 HG.out HLs.out.2).mono ?_
            rintro r w5 ⟨z, rfl, hz, hb5⟩
            have hy := HY4.out.later hb5
            replace hb5 := hb04.trans (hb5.mono hb04.size)
            clear hb04 HLs HY4
            obtain ⟨G, hG⟩ : ∃ G, errV (n - 1) (lessF s t) c d rd = G := ⟨_, rfl⟩
            have HR : Hid (G = 5 ∨ G = 1 → E = 5 ∨ E = 1) := fun hg => by rw [← HE.out]; exact less_err (by omega) (by omega) HF.out HG.out (by rw [hG]; exact hg)
            have HZ : Hid (G ≠ 0 → tgN (n - 1) (lessF s t) c d rd = 0) := fun h => tg_no (by rw [hG]; exact h)
            have HZ0 : Hid (G = 0 → tgN (n - 1) (lessF s t) c d rd = n - 1) := fun h => tg_ok (hG.trans h)
            have HP0 : Hid (E = 0 → G = 0 → ∀ i, i < n - 1 → prF (lessF s t) c d i ≤ prF s a b (skI t i)) := fun he hg => less_p (by omega) (by omega) HF.out HG.out (HE.out.trans he) (hG.trans hg)
            rw [hG]
            clear hG
            by_cases h5 : G = 5
            · rcases HR.out (.inl h5) with he | he
              · subst h5 he
                clear hy hz
                go_wp2
                go_ret
                exact ⟨by first | rfl | exact ret_b (by simp) | exact ret_b (decide_eq_true (by omega)) | exact ret_b (by simp; omega), hb5⟩
              · subst h5 he
                clear hy hz
                go_wp2
                go_ret
                exact ⟨by first | rfl | exact ret_b (by simp) | exact ret_b (decide_eq_true (by omega)) | exact ret_b (by simp; omega), hb5⟩
            · by_cases h6 : G = 1
              · rcases HR.out (.inr h6) with he | he
                · subst h6 he
                  clear hy hz
                  go_wp2
                  go_ret
                  exact ⟨by first | rfl | exact ret_b (by simp) | exact ret_b (decide_eq_true (by omega)) | exact ret_b (by simp; omega), hb5⟩
                · subst h6 he
                  clear hy hz
                  go_wp2
                  go_ret
                  exact ⟨by first | rfl | exact ret_b (by simp) | exact ret_b (decide_eq_true (by omega)) | exact ret_b (by simp; omega), hb5⟩
              · have b5 : (G == 5) = false := by simpa using h5
                have b6 : (G == 1) = false := by simpa using h6
                obtain ⟨L, hLL⟩ : ∃ L, tgN (n - 1) (lessF s t) c d rd = L := ⟨_, rfl⟩
                have hLc : L = 0 ∨ (G = 0 ∧ L = n - 1) := by
                  by_cases cG : G = 0
                  · exact .inr ⟨cG, hLL.symm.trans (HZ0.out cG)⟩
                  · exact .inl (hLL.symm.trans (HZ.out cG))
                rw [hLL] at hz
                clear hLL HZ HZ0 HR
                obtain ⟨az, cz, rfl, z1, z2, z0, z3⟩ := hz
                by_cases he : E = 0
                · have e0 : tgN n s a b rb = n := tg_ok (HE.out.trans he)
                  rw [e0] at hy
                  obtain ⟨ay, cy, rfl, y1, y2, y0, y3⟩ := hy
                  clear y0 z0 e0
                  have HP1 : Hid (0 < L → ∀ i, i < n - 1 → prF (lessF s t) c d i ≤ prF s a b (skI t i)) := fun hl => HP0.out he (by omega)
                  subst he
                  go_wp2_with fail
                  go_loopw [11] (fun s11 wx => ∃ j : Nat, j ≤ L ∧ s11 = .int .i64 j ∧ Below w5.heap.size w5 wx) (fun s11 _ => ((L : Int) - intOf s11).toNat)
                  case atStart => exact ⟨0, by omega, rfl, Below.refl _ _⟩
                  case round =>
                    obtain ⟨j, hj, rfl, hbx⟩ := hrel
                    have hbX : Below w.heap.size w wr := hb5.trans (hbx.mono hb5.size)
                    by_cases hlt : (j : Int) < L
                    · obtain ⟨by', oy, rfl, y4⟩ := y3 (by omega)
                      obtain ⟨bz, oz, rfl, z4⟩ := z3 (by omega)
                      have HP : Hid (∀ i, i < n - 1 → prF (lessF s t) c d i ≤ prF s a b (skI t i)) := HP1.out (by omega)
                      clear HP0 HP1
                      by_cases hjt : (j : Int) ≥ t
                      · obtain ⟨k, hk⟩ : ∃ k : Nat, j + 1 = k := ⟨_, rfl⟩
                        have a1 : IntKind.i64.wrap ((j : Int) + 1) = (k : Int) := by rw [IntKind.wrap_i64]; omega
                        have hcy := cell_later hbx (y4 k (by omega) 6 (by omega))
                        have hcz := cell_later hbx (z4 j (by omega) 6 (by omega))
                        have hle := HP.out j (by omega)
                        rw [show skI t j = k by unfold skI; rw [if_neg (by omega)]; exact hk] at hle
                        rw [show (tgF s a b k).at 6 = prF s a b k from rfl] at hcy
                        rw [show (tgF (lessF s t) c d j).at 6 = prF (lessF s t) c d j from rfl] at hcz
                        obtain ⟨py, hpy⟩ : ∃ p, prF s a b k = p := ⟨_, rfl⟩
                        obtain ⟨pz, hpz⟩ : ∃ p, prF (lessF s t) c d j = p := ⟨_, rfl⟩
                        rw [hpy] at hcy hle
                        rw [hpz] at hcz hle
                        clear hpy hpz y4 z4 y3 z3
                        have i0 : (0 : Int) ≤ (j : Int) := by omega
                        have i1 : (j : Int) < (L : Int) := by omega
                        have i2 : (0 : Int) ≤ (k : Int) := by omega
                        have i3 : (k : Int) < (n : Int) := by omega
                        have d1 : decide ((n : Int) ≤ (k : Int)) = false := decide_eq_false (by omega)
                        have d2 : decide ((k : Int) ≥ (n : Int)) = false := decide_eq_false (by omega)
                        have d5 : decide (n ≤ k) = false := decide_eq_false (by omega)
                        have d6 : k < n := by omega
                        have d3 : decide (py < pz) = false := decide_eq_false (by omega)
                        have d4 : decide (pz > py) = false := decide_eq_false (by omega)
                        obtain ⟨w6, hw6⟩ : ∃ w6, wr = w6 := ⟨_, rfl⟩
                        subst hw6
                        have MK : Hid (∀ w' : World, Below wr.heap.size wr w' → (w'.cell? ⟨bz, oz + j * 7 + 6, none⟩ = some (.int .i64 pz) ∧ w'.cell? ⟨by', oy + k * 7 + 6, none⟩ = some (.int .i64 py)) ∧ Below wr.heap.size wr w') := fun w' hb => ⟨⟨cell_later hb hcz, cell_later hb hcy⟩, hb⟩
                        clear hcz hcy
                        go_wp2_with fail
                        go_region_held3 (fun w' => (w'.cell? ⟨bz, oz + j * 7 + 6, none⟩ = some (.int .i64 pz) ∧ w'.cell? ⟨by', oy + k * 7 + 6, none⟩ = some (.int .i64 py)) ∧ Below wr.heap.size wr w')
                          (exact MK.out _ (Below.refl _ _).drew)
                          (fail)
                        all_goals
                          go_wp2_with fail
                          go_roundw
                          case rel => exact ⟨j + 1, by omega, by first | go_num | (rw [← hk]), hbx.trans ((sBel (by assumption)).mono hbx.size)⟩
                          case measure => simp [intOf]; omega
                      · have hcy := cell_later hbx (y4 j (by omega) 6 (by omega))
                        have hcz := cell_later hbx (z4 j (by omega) 6 (by omega))
                        have hle := HP.out j (by omega)
                        rw [show skI t j = j by unfold skI; rw [if_pos (by omega)]] at hle
                        rw [show (tgF s a b j).at 6 = prF s a b j from rfl] at hcy
                        rw [show (tgF (lessF s t) c d j).at 6 = prF (lessF s t) c d j from rfl] at hcz
                        obtain ⟨py, hpy⟩ : ∃ p, prF s a b j = p := ⟨_, rfl⟩
                        obtain ⟨pz, hpz⟩ : ∃ p, prF (lessF s t) c d j = p := ⟨_, rfl⟩
                        rw [hpy] at hcy hle
                        rw [hpz] at hcz hle
                        clear hpy hpz y4 z4 y3 z3
                        have i0 : (0 : Int) ≤ (j : Int) := by omega
                        have i1 : (j : Int) < (L : Int) := by omega
                        have i2 : (0 : Int) ≤ (j : Int) := by omega
                        have i3 : (j : Int) < (n : Int) := by omega
                        have d1 : decide ((n : Int) ≤ (j : Int)) = false := decide_eq_false (by omega)
                        have d2 : decide ((j : Int) ≥ (n : Int)) = false := decide_eq_false (by omega)
                        have d5 : decide (n ≤ j) = false := decide_eq_false (by omega)
                        have d6 : j < n := by omega
                        have d3 : decide (py < pz) = false := decide_eq_false (by omega)
                        have d4 : decide (pz > py) = false := decide_eq_false (by omega)
                        obtain ⟨w6, hw6⟩ : ∃ w6, wr = w6 := ⟨_, rfl⟩
                        subst hw6
                        have MK : Hid (∀ w' : World, Below wr.heap.size wr w' → (w'.cell? ⟨bz, oz + j * 7 + 6, none⟩ = some (.int .i64 pz) ∧ w'.cell? ⟨by', oy + j * 7 + 6, none⟩ = some (.int .i64 py)) ∧ Below wr.heap.size wr w') := fun w' hb => ⟨⟨cell_later hb hcz, cell_later hb hcy⟩, hb⟩
                        clear hcz hcy
                        go_wp2_with fail
                        go_region_held3 (fun w' => (w'.cell? ⟨bz, oz + j * 7 + 6, none⟩ = some (.int .i64 pz) ∧ w'.cell? ⟨by', oy + j * 7 + 6, none⟩ = some (.int .i64 py)) ∧ Below wr.heap.size wr w')
                          (exact MK.out _ (Below.refl _ _).drew)
                          (fail)
                        all_goals
                          go_wp2_with fail
                          go_roundw
                          case rel => exact ⟨j + 1, by omega, by first | go_num, hbx.trans ((sBel (by assumption)).mono hbx.size)⟩
                          case measure => simp [intOf]; omega
                    · go_wp2
                      go_ret
                      exact ⟨by first | rfl | exact ret_b (by simp) | exact ret_b (decide_eq_true (by omega)) | exact ret_b (by simp; omega), hbX⟩
                · have be : (E == 0) = false := by simpa using he
                  clear hy z3
                  go_wp2_with fail
                  go_loopw [11] (fun s11 wx => s11 = .int .i64 0 ∧ Below w5.heap.size w5 wx) (fun _ _ => 0)
                  case atStart => exact ⟨rfl, Below.refl _ _⟩
                  case round =>
                    obtain ⟨rfl, hbx⟩ := hrel
                    have hbX : Below w.heap.size w wr := hb5.trans (hbx.mono hb5.size)
                    by_cases hz0 : (0 : Int) < L
                    · go_wp2
                      go_ret
                      exact ⟨by first | rfl | exact ret_b (by simp) | exact ret_b (decide_eq_true (by omega)) | exact ret_b (by simp; omega), hbX⟩
                    · go_wp2
                      go_ret
                      exact ⟨by first | rfl | exact ret_b (by simp) | exact ret_b (decide_eq_true (by omega)) | exact ret_b (by simp; omega), hbX⟩
        · subst hc
          have q8 : (t : Int) ≤ (t : Int) + 1 := by omega
          have q9 : t ≤ t + 1 := by omega
          have htl : n - (t + 1) = 0 := by omega
          have hs2 := hb2.size
          go_wp2_with fail
          go_region_held3 (fun _ => True) (exact trivial) (first
            | (have hw3 := hown3; refine step_append_sps (by rfl) _ _ (by rfl) w2.heap.size v3 _ (0 + t) (n - (t + 1)) (catS 0 s s) (fun i => s (t + 1 + i)) (by rfl) hw3 (by rfl) (Sps.zero (by first | rfl | assumption | omega) htl (Nat.zero_le _)) z2 hb3.size ?_; intro v4 w4 hown4 hb4)
            | (refine step_append_sps (by rfl) _ _ (by rfl) w2.heap.size (.slice none 0 0) _ 0 t s s (by rfl) (OwnS.nil _ _ s) (by rfl) ((HX.out.1.later (Below.refl _ _).drew).front ht) z1 (Nat.le_refl _) ?_; intro v3 w3 hown3 hb3))
          all_goals
            have hB4 : Below w2.heap.size w2 w4 := (Below.refl _ _).drew.trans (hb3.trans hb4)
            have HLs : Hid (Sps w4 v4 (n - 1) (lessF s t) ∧ Lim w4) := ⟨less_sl hown4 (by omega), HX.out.2.later hB4⟩
            have HY4 : Hid (Fxs w4 y (tgN n s a b rb) (tgF s a b)) := HY.out.later hB4
            have hb04 : Below w.heap.size w w4 := hb2.trans (hB4.mono hb2.size)
            clear hown4 hown3 hw3 hb3 hb4 hB4 HX HY hb2
            go_wp2_with fail
            refine (target_any (n - 1) (lessF s t) c d rd _ _ HLs.out.1 HG.out HLs.out.2).mono ?_
            rintro r w5 ⟨z, rfl, hz, hb5⟩
            have hy := HY4.out.later hb5
            replace hb5 := hb04.trans (hb5.mono hb04.size)
            clear hb04 HLs HY4
            obtain ⟨G, hG⟩ : ∃ G, errV (n - 1) (lessF s t) c d rd = G := ⟨_, rfl⟩
            have HR : Hid (G = 5 ∨ G = 1 → E = 5 ∨ E = 1) := fun hg => by rw [← HE.out]; exact less_err (by omega) (by omega) HF.out HG.out (by rw [hG]; exact hg)
            have HZ : Hid (G ≠ 0 → tgN (n - 1) (lessF s t) c d rd = 0) := fun h => tg_no (by rw [hG]; exact h)
            have HZ0 : Hid (G = 0 → tgN (n - 1) (lessF s t) c d rd = n - 1) := fun h => tg_ok (hG.trans h)
            have HP0 : Hid (E = 0 → G = 0 → ∀ i, i < n - 1 → prF (lessF s t) c d i ≤ prF s a b (skI t i)) := fun he hg => less_p (by omega) (by omega) HF.out HG.out (HE.out.trans he) (hG.trans hg)
            rw [hG]
            clear hG
            by_cases h5 : G = 5
            · rcases HR.out (.inl h5) with he | he
              · subst h5 he
                clear hy hz
                go_wp2
                go_ret
                exact ⟨by first | rfl | exact ret_b (by simp) | exact ret_b (decide_eq_true (by omega)) | exact ret_b (by simp; omega), hb5⟩
              · subst h5 he
                clear hy hz
                go_wp2
                go_ret
                exact ⟨by first | rfl | exact ret_b (by simp) | exact ret_b (decide_eq_true (by omega)) | exact ret_b (by simp; omega), hb5⟩
            · by_cases h6 : G = 1
              · rcases HR.out (.inr h6) with he | he
                · subst h6 he
                  clear hy hz
                  go_wp2
                  go_ret
                  exact ⟨by first | rfl | exact ret_b (by simp) | exact ret_b (decide_eq_true (by omega)) | exact ret_b (by simp; omega), hb5⟩
                · subst h6 he
                  clear hy hz
                  go_wp2
                  go_ret
                  exact ⟨by first | rfl | exact ret_b (by simp) | exact ret_b (decide_eq_true (by omega)) | exact ret_b (by simp; omega), hb5⟩
              · have b5 : (G == 5) = false := by simpa using h5
                have b6 : (G == 1) = false := by simpa using h6
                obtain ⟨L, hLL⟩ : ∃ L, tgN (n - 1) (lessF s t) c d rd = L := ⟨_, rfl⟩
                have hLc : L = 0 ∨ (G = 0 ∧ L = n - 1) := by
                  by_cases cG : G = 0
                  · exact .inr ⟨cG, hLL.symm.trans (HZ0.out cG)⟩
                  · exact .inl (hLL.symm.trans (HZ.out cG))
                rw [hLL] at hz
                clear hLL HZ HZ0 HR
                obtain ⟨az, cz, rfl, z1, z2, z0, z3⟩ := hz
                by_cases he : E = 0
                · have e0 : tgN n s a b rb = n := tg_ok (HE.out.trans he)
                  rw [e0] at hy
                  obtain ⟨ay, cy, rfl, y1, y2, y0, y3⟩ := hy
                  clear y0 z0 e0
                  have HP1 : Hid (0 < L → ∀ i, i < n - 1 → prF (lessF s t) c d i ≤ prF s a b (skI t i)) := fun hl => HP0.out he (by omega)
                  subst he
                  go_wp2_with fail
                  go_loopw [11] (fun s11 wx => ∃ j : Nat, j ≤ L ∧ s11 = .int .i64 j ∧ Below w5.heap.size w5 wx) (fun s11 _ => ((L : Int) - intOf s11).toNat)
                  case atStart => exact ⟨0, by omega, rfl, Below.refl _ _⟩
                  case round =>
                    obtain ⟨j, hj, rfl, hbx⟩ := hrel
                    have hbX : Below w.heap.size w wr := hb5.trans (hbx.mono hb5.size)
                    by_cases hlt : (j : Int) < L
                    · obtain ⟨by', oy, rfl, y4⟩ := y3 (by omega)
                      obtain ⟨bz, oz, rfl, z4⟩ := z3 (by omega)
                      have HP : Hid (∀ i, i < n - 1 → prF (lessF s t) c d i ≤ prF s a b (skI t i)) := HP1.out (by omega)
                      clear HP0 HP1
                      by_cases hjt : (j : Int) ≥ t
                      · obtain ⟨k, hk⟩ : ∃ k : Nat, j + 1 = k := ⟨_, rfl⟩
                        have a1 : IntKind.i64.wrap ((j : Int) + 1) = (k : Int) := by rw [IntKind.wrap_i64]; omega
                        have hcy := cell_later hbx (y4 k (by omega) 6 (by omega))
                        have hcz := cell_later hbx (z4 j (by omega) 6 (by omega))
                        have hle := HP.out j (by omega)
                        rw [show skI t j = k by unfold skI; rw [if_neg (by omega)]; exact hk] at hle
                        rw [show (tgF s a b k).at 6 = prF s a b k from rfl] at hcy
                        rw [show (tgF (lessF s t) c d j).at 6 = prF (lessF s t) c d j from rfl] at hcz
                        obtain ⟨py, hpy⟩ : ∃ p, prF s a b k = p := ⟨_, rfl⟩
                        obtain ⟨pz, hpz⟩ : ∃ p, prF (lessF s t) c d j = p := ⟨_, rfl⟩
                        rw [hpy] at hcy hle
                        rw [hpz] at hcz hle
                        clear hpy hpz y4 z4 y3 z3
                        have i0 : (0 : Int) ≤ (j : Int) := by omega
                        have i1 : (j : Int) < (L : Int) := by omega
                        have i2 : (0 : Int) ≤ (k : Int) := by omega
                        have i3 : (k : Int) < (n : Int) := by omega
                        have d1 : decide ((n : Int) ≤ (k : Int)) = false := decide_eq_false (by omega)
                        have d2 : decide ((k : Int) ≥ (n : Int)) = false := decide_eq_false (by omega)
                        have d5 : decide (n ≤ k) = false := decide_eq_false (by omega)
                        have d6 : k < n := by omega
                        have d3 : decide (py < pz) = false := decide_eq_false (by omega)
                        have d4 : decide (pz > py) = false := decide_eq_false (by omega)
                        obtain ⟨w6, hw6⟩ : ∃ w6, wr = w6 := ⟨_, rfl⟩
                        subst hw6
                        have MK : Hid (∀ w' : World, Below wr.heap.size wr w' → (w'.cell? ⟨bz, oz + j * 7 + 6, none⟩ = some (.int .i64 pz) ∧ w'.cell? ⟨by', oy + k * 7 + 6, none⟩ = some (.int .i64 py)) ∧ Below wr.heap.size wr w') := fun w' hb => ⟨⟨cell_later hb hcz, cell_later hb hcy⟩, hb⟩
                        clear hcz hcy
                        go_wp2_with fail
                        go_region_held3 (fun w' => (w'.cell? ⟨bz, oz + j * 7 + 6, none⟩ = some (.int .i64 pz) ∧ w'.cell? ⟨by', oy + k * 7 + 6, none⟩ = some (.int .i64 py)) ∧ Below wr.heap.size wr w')
                          (exact MK.out _ (Below.refl _ _).drew)
                          (fail)
                        all_goals
                          go_wp2_with fail
                          go_roundw
                          case rel => exact ⟨j + 1, by omega, by first | go_num | (rw [← hk]), hbx.trans ((sBel (by assumption)).mono hbx.size)⟩
                          case measure => simp [intOf]; omega
                      · have hcy := cell_later hbx (y4 j (by omega) 6 (by omega))
                        have hcz := cell_later hbx (z4 j (by omega) 6 (by omega))
                        have hle := HP.out j (by omega)
                        rw [show skI t j = j by unfold skI; rw [if_pos (by omega)]] at hle
                        rw [show (tgF s a b j).at 6 = prF s a b j from rfl] at hcy
                        rw [show (tgF (lessF s t) c d j).at 6 = prF (lessF s t) c d j from rfl] at hcz
                        obtain ⟨py, hpy⟩ : ∃ p, prF s a b j = p := ⟨_, rfl⟩
                        obtain ⟨pz, hpz⟩ : ∃ p, prF (lessF s t) c d j = p := ⟨_, rfl⟩
                        rw [hpy] at hcy hle
                        rw [hpz] at hcz hle
                        clear hpy hpz y4 z4 y3 z3
                        have i0 : (0 : Int) ≤ (j : Int) := by omega
                        have i1 : (j : Int) < (L : Int) := by omega
                        have i2 : (0 : Int) ≤ (j : Int) := by omega
                        have i3 : (j : Int) < (n : Int) := by omega
                        have d1 : decide ((n : Int) ≤ (j : Int)) = false := decide_eq_false (by omega)
                        have d2 : decide ((j : Int) ≥ (n : Int)) = false := decide_eq_false (by omega)
                        have d5 : decide (n ≤ j) = false := decide_eq_false (by omega)
                        have d6 : j < n := by omega
                        have d3 : decide (py < pz) = false := decide_eq_false (by omega)
                        have d4 : decide (pz > py) = false := decide_eq_false (by omega)
                        obtain ⟨w6, hw6⟩ : ∃ w6, wr = w6 := ⟨_, rfl⟩
                        subst hw6
                        have MK : Hid (∀ w' : World, Below wr.heap.size wr w' → (w'.cell? ⟨bz, oz + j * 7 + 6, none⟩ = some (.int .i64 pz) ∧ w'.cell? ⟨by', oy + j * 7 + 6, none⟩ = some (.int .i64 py)) ∧ Below wr.heap.size wr w') := fun w' hb => ⟨⟨cell_later hb hcz, cell_later hb hcy⟩, hb⟩
                        clear hcz hcy
                        go_wp2_with fail
                        go_region_held3 (fun w' => (w'.cell? ⟨bz, oz + j * 7 + 6, none⟩ = some (.int .i64 pz) ∧ w'.cell? ⟨by', oy + j * 7 + 6, none⟩ = some (.int .i64 py)) ∧ Below wr.heap.size wr w')
                          (exact MK.out _ (Below.refl _ _).drew)
                          (fail)
                        all_goals
                          go_wp2_with fail
                          go_roundw
                          case rel => exact ⟨j + 1, by omega, by first | go_num, hbx.trans ((sBel (by assumption)).mono hbx.size)⟩
                          case measure => simp [intOf]; omega
                    · go_wp2
                      go_ret
                      exact ⟨by first | rfl | exact ret_b (by simp) | exact ret_b (decide_eq_true (by omega)) | exact ret_b (by simp; omega), hbX⟩
                · have be : (E == 0) = false := by simpa using he
                  clear hy z3
                  go_wp2_with fail
                  go_loopw [11] (fun s11 wx => s11 = .int .i64 0 ∧ Below w5.heap.size w5 wx) (fun _ _ => 0)
                  case atStart => exact ⟨rfl, Below.refl _ _⟩
                  case round =>
                    obtain ⟨rfl, hbx⟩ := hrel
                    have hbX : Below w.heap.size w wr := hb5.trans (hbx.mono hb5.size)
                    by_cases hz0 : (0 : Int) < L
                    · go_wp2
                      go_ret
                      exact ⟨by first | rfl | exact ret_b (by simp) | exact ret_b (decide_eq_true (by omega)) | exact ret_b (by simp; omega), hbX⟩
                    · go_wp2
                      go_ret
                      exact ⟨by first | rfl | exact ret_b (by simp) | exact ret_b (decide_eq_true (by omega)) | exact ret_b (by simp; omega), hbX⟩
end Go.Proofs.YtmiakknagjncpaaDoor
