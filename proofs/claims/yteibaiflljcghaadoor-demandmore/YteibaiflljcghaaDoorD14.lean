import Derived.Test.YteibaiflljcghaaDoorD16
/- What the statement DemandMore comes to. -/
namespace Go.Proofs.YteibaiflljcghaaDoor
open Go.RowKit Go.Shelf

theorem all_more {l : Nat} (f : Nat → Fx) (x : Fx) (n : Int) (h : l ≤ 10) : allV9 (l + 1) (cat9 l f (fun _ => x)) n = allV9 l f n + ofV9 x n := by
  rw [all9_in (by omega), all9_in (by omega), all_cat]
  show _ + (0 + ofV9 x n) = _
  rw [Int.zero_add]

/-- An operation that its guard passes over: taken first, it leaves all as it is. -/
theorem held_skipB {P : Program} {md : Region.Mode} {ops : Array Oper} {Q : Exit → Act → World → Prop} {S : World → Prop} {i : Nat} {oi : Oper} {fuel : Nat} {listed : Array Bool} {a : Act} {w : World} (hi : ops[i]? = some oi)
    (hs : Region.noSelect ops = true) (hf : Region.free md ops listed i = true) (hr : (Region.ready md ops listed).contains i = true)
    (hQ : ∀ c a w, Q (.panic c) (a.put oi.dst undef) w → Q (.panic c) a w) (hw : Region.wanted oi (yielded ops a.tmps) = false) (hp : a.put oi.dst undef = a) (hS : S w)
    (h : wpAnyH P md ops Q S fuel (listed.setIfInBounds i true) a w) : wpAnyH P md ops Q S (fuel + 1) listed a w :=
  wpAnyH_take hi hs hf hr hQ (Or.inr ⟨hw, rfl⟩) hS (by rw [hp]; exact h)

set_option maxHeartbeats 4000000 in
set_option maxRecDepth 100000 in
theorem law_dmore (l : Nat) (f : Nat → Fx) (c t x m k e p q n N : Int) (v : Value) (w : World) (h : Fxs w v l f) (hL : Lim w) :
    Calls Tryd.prog 6 #[v, .agg #[.int .i64 c, .int .i64 t, .int .i64 x, .int .i64 m, .int .i64 k, .int .i64 e, .int .i64 p], .int .i64 q, .int .i64 n, .int .i64 N] w fun r w' => r = .returned (.bool true) ∧ Below w.heap.size w w' := by
  have hS := Sev.new w c t x m k e p
  have hE : Hid (Below w.heap.size w (w.alloc (.cells #[.int .i64 c, .int .i64 t, .int .i64 x, .int .i64 m, .int .i64 k, .int .i64 e, .int .i64 p] 26))) := (Below.refl _ _).alloc (Nat.le_refl _) _
  have HX0 : Hid (Fxs w v l f ∧ Lim w) := ⟨h, hL⟩
  obtain ⟨a, cap, rfl, h1, h2, _, _⟩ := h
  clear hL
  go_enter Tryd.func6, Tryd.ntmps6
  go_wp2_with fail
  refine (awake9_any _ (HX0.out.2.later hE.out)).mono ?_
  rintro r w3 ⟨rfl, hb3⟩
  have hS3 := hS.later hb3
  replace hb3 : Below w.heap.size w w3 := hE.out.trans (hb3.mono hE.out.size)
  have HX : Hid (Fxs w3 (.slice a l cap) l f ∧ Lim w3) := ⟨HX0.out.1.later hb3, HX0.out.2.later hb3⟩
  clear hS HX0
  obtain ⟨a0, a1, a2, a3, a4, a5, a6⟩ := hS3.fx
  by_cases g0 : (l : Int) > 10
  · go_wp2_with fail
    go_ret
    exact ⟨by first | rfl | exact ret_b (by simp) | exact ret_b (decide_eq_true (by omega)) | exact ret_b (by simp; omega), hb3⟩
  · have o0 := g0
    by_cases g1 : n < 0
    · go_wp2_with fail
      go_ret
      exact ⟨by first | rfl | exact ret_b (by simp) | exact ret_b (decide_eq_true (by omega)) | exact ret_b (by simp; omega), hb3⟩
    · have o1 := g1
      by_cases g2 : N < n
      · go_wp2_with fail
        go_ret
        exact ⟨by first | rfl | exact ret_b (by simp) | exact ret_b (decide_eq_true (by omega)) | exact ret_b (by simp; omega), hb3⟩
      · have o2 := g2
        by_cases g3 : N > 1099511627776
        · go_wp2_with fail
          go_ret
          exact ⟨by first | rfl | exact ret_b (by simp) | exact ret_b (decide_eq_true (by omega)) | exact ret_b (by simp; omega), hb3⟩
        · have o3 := g3
          clear o0 o1 o2 o3
          have n0 : 0 ≤ n := by omega
          have n1 : n ≤ N := by omega
          have n2 : N ≤ 1099511627776 := by omega
          have HLn : Hid (l ≤ 10 ∧ 0 + l ≤ 100000 ∧ 0 + l + 1 ≤ 100000) := by show _ ∧ _ ∧ _; omega
          have hl : (l : Int) ≤ 10 := by omega
          clear g0 g1 g2 g3 h1 h2
          have hE4 : Below w3.heap.size w3 (w3.alloc (.cells #[.int .i64 c, .int .i64 t, .int .i64 x, .int .i64 m, .int .i64 k, .int .i64 e, .int .i64 q] 26)) := (Below.refl _ _).alloc (Nat.le_refl _) _
          have hSx := hS3.later hE4
          have hSy := Sev.new w3 c t x m k e q
          have s3 := hS3.lt
          have hB4 : Below w.heap.size w (w3.alloc (.cells #[.int .i64 c, .int .i64 t, .int .i64 x, .int .i64 m, .int .i64 k, .int .i64 e, .int .i64 q] 26)) := hb3.trans (hE4.mono hb3.size)
          have HX4 : Hid (Fxs (w3.alloc (.cells #[.int .i64 c, .int .i64 t, .int .i64 x, .int .i64 m, .int .i64 k, .int .i64 e, .int .i64 q] 26)) (.slice a l cap) l f ∧ Lim (w3.alloc (.cells #[.int .i64 c, .int .i64 t, .int .i64 x, .int .i64 m, .int .i64 k, .int .i64 e, .int .i64 q] 26))) := ⟨HX.out.1.later hE4, HX.out.2.later hE4⟩
          have s4 : w.heap.size < w3.heap.size + 1 := by omega
          go_wp2_with fail
          generalize (w3.alloc (.cells #[.int .i64 c, .int .i64 t, .int .i64 x, .int .i64 m, .int .i64 k, .int .i64 e, .int .i64 q] 26)) = W at *
          clear hE4 HX hS3 a0 a1 a2 a3 a4 a5 a6 hb3
          have MK : Hid (∀ w' : World, Below W.heap.size W w' → (w'.cell? ⟨w.heap.size, 0, none⟩ = some (.int .i64 c) ∧ w'.cell? ⟨w.heap.size, 1, none⟩ = some (.int .i64 t) ∧ w'.cell? ⟨w.heap.size, 2, none⟩ = some (.int .i64 x) ∧ w'.cell? ⟨w.heap.size, 3, none⟩ = some (.int .i64 m) ∧ w'.cell? ⟨w.heap.size, 4, none⟩ = some (.int .i64 k) ∧ w'.cell? ⟨w.heap.size, 5, none⟩ = some (.int .i64 e) ∧ w'.cell? ⟨w.heap.size, 6, none⟩ = some (.int .i64 p)) ∧ Below W.heap.size W w') := fun w' hb => ⟨(hSx.later hb).fx, hb⟩
          have HXY : Hid (Sev W w.heap.size ⟨c, t, x, m, k, e, p⟩ ∧ Sev W w3.heap.size ⟨c, t, x, m, k, e, q⟩) := ⟨hSx, hSy⟩
          clear hSx hSy
          go_region_held3 (fun w' => (w'.cell? ⟨w.heap.size, 0, none⟩ = some (.int .i64 c) ∧ w'.cell? ⟨w.heap.size, 1, none⟩ = some (.int .i64 t) ∧ w'.cell? ⟨w.heap.size, 2, none⟩ = some (.int .i64 x) ∧ w'.cell? ⟨w.heap.size, 3, none⟩ = some (.int .i64 m) ∧ w'.cell? ⟨w.heap.size, 4, none⟩ = some (.int .i64 k) ∧ w'.cell? ⟨w.heap.size, 5, none⟩ = some (.int .i64 e) ∧ w'.cell? ⟨w.heap.size, 6, none⟩ = some (.int .i64 p)) ∧ Below W.heap.size W w')
            (first | exact MK.out _ (bstep (by assumption) (sBel (by assumption))) | exact MK.out _ ((sBel (by assumption)).alloc (sBel (by assumption)).size _) | exact MK.out _ ((sBel (by assumption)).trans (Below.mono hb6 (by first | simp | exact (sBel (by assumption)).size))) | exact MK.out _ (Below.refl _ _).drew)
            (first
            | (have hown8 := hown5; refine step_append_fix (by rfl) _ _ (by rfl) _ v5 (.slice (some ⟨w5.heap.size, 0, none⟩) 1 1) (0 + l) 1 (cat9 0 f f) (fun _ => ⟨c, t, x, m, k, e, p⟩) (by rfl) (own_laterF hown8 ((Below.refl _ _).alloc (Nat.le_refl _) _)) (by rfl) (Fxs.one (Sev.new w5 c t x m k e p)) HLn.out.2.2 (Nat.le_trans hb5.size (by simp)) ?_; intro v6 w6 hown6 hb6)
            | (have hown8 := hown5; refine step_append_fix (by rfl) _ _ (by rfl) _ v5 (.slice (some ⟨W.heap.size, 0, none⟩) 1 1) (0 + l) 1 (cat9 0 f f) (fun _ => ⟨c, t, x, m, k, e, p⟩) (by rfl) hown8 (by rfl) (Fxs.one (((Sev.new W c t x m k e p).later (Below.refl _ _).drew).later hb5)) HLn.out.2.2 hb5.size ?_; intro v6 w6 hown6 hb6)
            | (refine step_append_fix (by rfl) _ _ (by rfl) _ (.slice none 0 0) (.slice a l cap) 0 l f f (by rfl) (OwnF.nil _ _ f) (by rfl) (HX4.out.1.later (sBel (by assumption))) HLn.out.2.1 (Nat.le_refl _) ?_; intro v5 w5 hown5 hb5))
          all_goals
            have hb7 := sBel (by assumption)
            have hg6 : Fxs w6 v6 (l + 1) (cat9 l f (fun _ => ⟨c, t, x, m, k, e, p⟩)) := hown6.two
            have HX6 : Hid (Fxs w6 (.slice a l cap) l f ∧ Fxs w6 v6 (l + 1) (cat9 l f (fun _ => ⟨c, t, x, m, k, e, p⟩)) ∧ Lim w6) := ⟨HX4.out.1.later hb7, hg6, HX4.out.2.later hb7⟩
            have HS6 : Hid (Sev w6 w.heap.size ⟨c, t, x, m, k, e, p⟩ ∧ Sev w6 w3.heap.size ⟨c, t, x, m, k, e, q⟩) := ⟨HXY.out.1.later hb7, HXY.out.2.later hb7⟩
            have HB6 : Hid (Below w.heap.size w w6) := hB4.trans (hb7.mono hB4.size)
            clear hb7 hg6 hown6 hb6 hown5 hb5 hown8 HX4 HXY MK hB4
            obtain ⟨A, hA⟩ : ∃ y, ofV9 ⟨c, t, x, m, k, e, p⟩ n = y := ⟨_, rfl⟩
            obtain ⟨A2, hA2⟩ : ∃ y, ofV9 ⟨c, t, x, m, k, e, p⟩ N = y := ⟨_, rfl⟩
            obtain ⟨B, hB⟩ : ∃ y, allV9 l f n = y := ⟨_, rfl⟩
            obtain ⟨B2, hB2⟩ : ∃ y, allV9 l f N = y := ⟨_, rfl⟩
            have u1 : A ≤ A2 := by rw [← hA, ← hA2]; exact of_mono n0 n1 n2
            have u2 : B ≤ B2 := by rw [← hB, ← hB2, all9_in (by omega), all9_in (by omega)]; exact all_mono n0 n1 n2
            have u3 := of_bd ⟨c, t, x, m, k, e, p⟩ n
            have u4 := allS_bd l f n
            rw [hA] at u3
            rw [← all9_in (show l ≤ 1000 by omega), hB] at u4
            have HV : Hid (ofV9 ⟨c, t, x, m, k, e, p⟩ n = A ∧ ofV9 ⟨c, t, x, m, k, e, p⟩ N = A2 ∧ allV9 l f n = B ∧ allV9 l f N = B2 ∧ allV9 (l + 1) (cat9 l f (fun _ => ⟨c, t, x, m, k, e, p⟩)) n = B + A) := ⟨hA, hA2, hB, hB2, by rw [all_more f _ n HLn.out.1, hB, hA]⟩
            have v1 : decide (A2 < A) = false := decide_eq_false (by omega)
            have v2 : decide (B2 < B) = false := decide_eq_false (by omega)
            have v3 : IntKind.i64.wrap (B + A) = B + A := by rw [IntKind.wrap_i64]; omega
            have v4 : ¬ (A2 < A) := by omega
            have v5' : ¬ (B2 < B) := by omega
            clear hA hA2 hB hB2 u3 u4
            have MK : Hid (∀ w' : World, Below w6.heap.size w6 w' → (w'.cell? ⟨w.heap.size, 0, none⟩ = some (.int .i64 c) ∧ w'.cell? ⟨w.heap.size, 1, none⟩ = some (.int .i64 t) ∧ w'.cell? ⟨w.heap.size, 2, none⟩ = some (.int .i64 x) ∧ w'.cell? ⟨w.heap.size, 3, none⟩ = some (.int .i64 m) ∧ w'.cell? ⟨w.heap.size, 4, none⟩ = some (.int .i64 k) ∧ w'.cell? ⟨w.heap.size, 5, none⟩ = some (.int .i64 e) ∧ w'.cell? ⟨w.heap.size, 6, none⟩ = some (.int .i64 p)) ∧ Below w6.heap.size w6 w') := fun w' hb => ⟨(HS6.out.1.later hb).fx, hb⟩
            go_wp2_with fail
            go_region_held3 (fun w' => (w'.cell? ⟨w.heap.size, 0, none⟩ = some (.int .i64 c) ∧ w'.cell? ⟨w.heap.size, 1, none⟩ = some (.int .i64 t) ∧ w'.cell? ⟨w.heap.size, 2, none⟩ = some (.int .i64 x) ∧ w'.cell? ⟨w.heap.size, 3, none⟩ = some (.int .i64 m) ∧ w'.cell? ⟨w.heap.size, 4, none⟩ = some (.int .i64 k) ∧ w'.cell? ⟨w.heap.size, 5, none⟩ = some (.int .i64 e) ∧ w'.cell? ⟨w.heap.size, 6, none⟩ = some (.int .i64 p)) ∧ Below w6.heap.size w6 w')
              (first | exact MK.out _ (bstep (by assumption) (sBel (by assumption))) | exact MK.out _ (Below.refl _ _).drew)
              (first
              | (go_at_call 13; refine (of9_any c t x m k e p _ _).mono ?_; rintro r w10 ⟨rfl, hb10⟩; first | rw [HV.out.1] | rw [HV.out.2.1])
              | (go_at_call 15; refine (all9_any _ _ _ _ _ (by first | exact HX6.out.1.later (sBel (by assumption)) | exact HX6.out.2.1.later (sBel (by assumption)))).mono ?_; rintro r w11 ⟨rfl, hb11⟩; first | rw [HV.out.2.2.1] | rw [HV.out.2.2.2.1] | rw [HV.out.2.2.2.2]))
            all_goals
              have hb12 := sBel (by assumption)
              have hSx := HS6.out.1.later hb12
              have hSy := HS6.out.2.later hb12
              have hB := HB6.out.trans (hb12.mono HB6.out.size)
              have hX := HX6.out.2.2.later hb12
              clear HS6 HB6 HX6 HV MK v1 v2 v3 v4 v5' hb12
              obtain ⟨a0, a1, a2, a3, a4, a5, a6⟩ := hSx.fx
              have MK9 : Hid (∀ w' : World, Below w10.heap.size w10 w' → ((w'.cell? ⟨w.heap.size, 0, none⟩ = some (.int .i64 c) ∧ w'.cell? ⟨w.heap.size, 1, none⟩ = some (.int .i64 t) ∧ w'.cell? ⟨w.heap.size, 2, none⟩ = some (.int .i64 x) ∧ w'.cell? ⟨w.heap.size, 3, none⟩ = some (.int .i64 m) ∧ w'.cell? ⟨w.heap.size, 4, none⟩ = some (.int .i64 k) ∧ w'.cell? ⟨w.heap.size, 5, none⟩ = some (.int .i64 e) ∧ w'.cell? ⟨w.heap.size, 6, none⟩ = some (.int .i64 p)) ∧ (w'.cell? ⟨w3.heap.size, 0, none⟩ = some (.int .i64 c) ∧ w'.cell? ⟨w3.heap.size, 1, none⟩ = some (.int .i64 t) ∧ w'.cell? ⟨w3.heap.size, 2, none⟩ = some (.int .i64 x) ∧ w'.cell? ⟨w3.heap.size, 3, none⟩ = some (.int .i64 m) ∧ w'.cell? ⟨w3.heap.size, 4, none⟩ = some (.int .i64 k) ∧ w'.cell? ⟨w3.heap.size, 5, none⟩ = some (.int .i64 e) ∧ w'.cell? ⟨w3.heap.size, 6, none⟩ = some (.int .i64 q))) ∧ Below w10.heap.size w10 w') := fun w' hb => ⟨⟨(hSx.later hb).fx, (hSy.later hb).fx⟩, hb⟩
              have HLim : Hid (Lim w10) := hX
              clear hX hSx hSy a0 a1 a2 a3 a4 a5 a6
              go_wp2_with fail
              by_cases c1 : q < p
              · have d1 : decide (q < p) = true := decide_eq_true c1
                refine wp_region_held_drew (S := (fun w' : World => ((w'.cell? ⟨w.heap.size, 0, none⟩ = some (.int .i64 c) ∧ w'.cell? ⟨w.heap.size, 1, none⟩ = some (.int .i64 t) ∧ w'.cell? ⟨w.heap.size, 2, none⟩ = some (.int .i64 x) ∧ w'.cell? ⟨w.heap.size, 3, none⟩ = some (.int .i64 m) ∧ w'.cell? ⟨w.heap.size, 4, none⟩ = some (.int .i64 k) ∧ w'.cell? ⟨w.heap.size, 5, none⟩ = some (.int .i64 e) ∧ w'.cell? ⟨w.heap.size, 6, none⟩ = some (.int .i64 p)) ∧ (w'.cell? ⟨w3.heap.size, 0, none⟩ = some (.int .i64 c) ∧ w'.cell? ⟨w3.heap.size, 1, none⟩ = some (.int .i64 t) ∧ w'.cell? ⟨w3.heap.size, 2, none⟩ = some (.int .i64 x) ∧ w'.cell? ⟨w3.heap.size, 3, none⟩ = some (.int .i64 m) ∧ w'.cell? ⟨w3.heap.size, 4, none⟩ = some (.int .i64 k) ∧ w'.cell? ⟨w3.heap.size, 5, none⟩ = some (.int .i64 e) ∧ w'.cell? ⟨w3.heap.size, 6, none⟩ = some (.int .i64 q))) ∧ Below w10.heap.size w10 w')) (by kernel_rfl) ?_ (fun hHeld => ?_)
                · exact MK9.out _ (Below.refl _ _).drew
                refine wpAnyH_take (i := 0) (oi := { dst := some 73, op := Op.move (Operand.tmp 2), type := 3, pos := _, after := _, guard := none }) (v := ?_) rfl (by kernel_rfl) (by kernel_rfl) (by kernel_rfl) (fun _ _ _ h => h) (Or.inl ⟨by rfl, ?_⟩) (by assumption) ?_
                rotate_left
                · intro wS hSw
                  (try dsimp only at hSw)
                  go_simp
                  first | done | with_reducible rfl
                try simp only [Act.put, List.setIfInBounds_toArray, List.set_cons_zero, List.set_cons_succ]
                refine wpAnyH_take (i := 1) (oi := { dst := some 74, op := Op.fieldAddr 26 (Operand.tmp 6) 1, type := 0, pos := _, after := _, guard := none }) (v := ?_) rfl (by kernel_rfl) (by kernel_rfl) (by kernel_rfl) (fun _ _ _ h => h) (Or.inl ⟨by rfl, ?_⟩) (by assumption) ?_
                rotate_left
                · intro wS hSw
                  (try dsimp only at hSw)
                  go_simp
                  first | done | with_reducible rfl
                try simp only [Act.put, List.setIfInBounds_toArray, List.set_cons_zero, List.set_cons_succ]
                refine wpAnyH_take (i := 2) (oi := { dst := some 75, op := Op.load 3 (Operand.tmp 74), type := 3, pos := _, after := _, guard := none }) (v := ?_) rfl (by kernel_rfl) (by kernel_rfl) (by kernel_rfl) (fun _ _ _ h => h) (Or.inl ⟨by rfl, ?_⟩) (by assumption) ?_
                rotate_left
                · intro wS hSw
                  (try dsimp only at hSw)
                  go_simp
                  first | done | with_reducible rfl
                try simp only [Act.put, List.setIfInBounds_toArray, List.set_cons_zero, List.set_cons_succ]
                refine wpAnyH_take (i := 3) (oi := { dst := some 76, op := Op.binOp BinOp.lss 3 (Operand.tmp 73) (Operand.tmp 75) 3, type := 4, pos := _, after := _, guard := none }) (v := ?_) rfl (by kernel_rfl) (by kernel_rfl) (by kernel_rfl) (fun _ _ _ h => h) (Or.inl ⟨by rfl, ?_⟩) (by assumption) ?_
                rotate_left
                · intro wS hSw
                  (try dsimp only at hSw)
                  go_simp
                  first | done | with_reducible rfl
                try simp only [Act.put, List.setIfInBounds_toArray, List.set_cons_zero, List.set_cons_succ]
                refine wpAnyH_take (i := 4) (oi := { dst := some 77, op := Op.move (Operand.tmp 76), type := 4, pos := _, after := _, guard := none }) (v := ?_) rfl (by kernel_rfl) (by kernel_rfl) (by kernel_rfl) (fun _ _ _ h => h) (Or.inl ⟨by rfl, ?_⟩) (by assumption) ?_
                rotate_left
                · intro wS hSw
                  (try dsimp only at hSw)
                  go_simp
                  first | done | with_reducible rfl
                try simp only [Act.put, List.setIfInBounds_toArray, List.set_cons_zero, List.set_cons_succ]
                refine held_skipB (i := 5) (oi := { dst := some 78, op := Op.move (Operand.tmp 2), type := 3, pos := _, after := _, guard := some (4, false) }) rfl (by kernel_rfl) (by kernel_rfl) (by kernel_rfl) (fun _ _ _ h => h) (by rfl) (by rfl) (by assumption) ?_
                refine held_skipB (i := 6) (oi := { dst := some 79, op := Op.fieldAddr 26 (Operand.tmp 6) 0, type := 0, pos := _, after := _, guard := some (4, false) }) rfl (by kernel_rfl) (by kernel_rfl) (by kernel_rfl) (fun _ _ _ h => h) (by rfl) (by rfl) (by assumption) ?_
                refine held_skipB (i := 7) (oi := { dst := some 80, op := Op.fieldAddr 24 (Operand.tmp 79) 2, type := 0, pos := _, after := _, guard := some (4, false) }) rfl (by kernel_rfl) (by kernel_rfl) (by kernel_rfl) (fun _ _ _ h => h) (by rfl) (by rfl) (by assumption) ?_
                refine held_skipB (i := 8) (oi := { dst := some 81, op := Op.load 3 (Operand.tmp 80), type := 3, pos := _, after := _, guard := some (4, false) }) rfl (by kernel_rfl) (by kernel_rfl) (by kernel_rfl) (fun _ _ _ h => h) (by rfl) (by rfl) (by assumption) ?_
                refine held_skipB (i := 9) (oi := { dst := some 82, op := Op.binOp BinOp.gtr 3 (Operand.tmp 78) (Operand.tmp 81) 3, type := 4, pos := _, after := _, guard := some (4, false) }) rfl (by kernel_rfl) (by kernel_rfl) (by kernel_rfl) (fun _ _ _ h => h) (by rfl) (by rfl) (by assumption) ?_
                refine wpAnyH_take (i := 10) (oi := { dst := some 83, op := Op.pick (Operand.tmp 77) (Operand.const (Value.bool true)) (Operand.tmp 82), type := 4, pos := _, after := _, guard := none }) (v := ?_) rfl (by kernel_rfl) (by kernel_rfl) (by kernel_rfl) (fun _ _ _ h => h) (Or.inl ⟨by rfl, ?_⟩) (by assumption) ?_
                rotate_left
                · intro wS hSw
                  (try dsimp only at hSw)
                  go_simp
                  first | done | with_reducible rfl
                try simp only [Act.put, List.setIfInBounds_toArray, List.set_cons_zero, List.set_cons_succ]
                refine wpAnyH_take (i := 11) (oi := { dst := some 84, op := Op.move (Operand.tmp 83), type := 4, pos := _, after := _, guard := none }) (v := ?_) rfl (by kernel_rfl) (by kernel_rfl) (by kernel_rfl) (fun _ _ _ h => h) (Or.inl ⟨by rfl, ?_⟩) (by assumption) ?_
                rotate_left
                · intro wS hSw
                  (try dsimp only at hSw)
                  go_simp
                  first | done | with_reducible rfl
                try simp only [Act.put, List.setIfInBounds_toArray, List.set_cons_zero, List.set_cons_succ]
                refine held_skipB (i := 12) (oi := { dst := some 85, op := Op.load 26 (Operand.tmp 6), type := 26, pos := _, after := _, guard := some (11, false) }) rfl (by kernel_rfl) (by kernel_rfl) (by kernel_rfl) (fun _ _ _ h => h) (by rfl) (by rfl) (by assumption) ?_
                refine held_skipB (i := 13) (oi := { dst := some 86, op := Op.buildSlice 22 1 #[(0, Operand.tmp 85)], type := 22, pos := _, after := _, guard := some (11, false) }) rfl (by kernel_rfl) (by kernel_rfl) (by kernel_rfl) (fun _ _ _ h => h) (by rfl) (by rfl) (by assumption) ?_
                refine held_skipB (i := 14) (oi := { dst := some 87, op := Op.call { callee := Callee.value (Operand.func 11), args := #[Operand.tmp 86], argTypes := #[22] }, type := 4, pos := _, after := _, guard := some (11, false) }) rfl (by kernel_rfl) (by kernel_rfl) (by kernel_rfl) (fun _ _ _ h => h) (by rfl) (by rfl) (by assumption) ?_
                refine held_skipB (i := 15) (oi := { dst := some 88, op := Op.unOp UnOp.not 4 (Operand.tmp 87), type := 4, pos := _, after := _, guard := some (11, false) }) rfl (by kernel_rfl) (by kernel_rfl) (by kernel_rfl) (fun _ _ _ h => h) (by rfl) (by rfl) (by assumption) ?_
                refine wpAnyH_take (i := 16) (oi := { dst := some 89, op := Op.pick (Operand.tmp 84) (Operand.const (Value.bool true)) (Operand.tmp 88), type := 4, pos := _, after := _, guard := none }) (v := ?_) rfl (by kernel_rfl) (by kernel_rfl) (by kernel_rfl) (fun _ _ _ h => h) (Or.inl ⟨by rfl, ?_⟩) (by assumption) ?_
                rotate_left
                · intro wS hSw
                  (try dsimp only at hSw)
                  go_simp
                  first | done | with_reducible rfl
                try simp only [Act.put, List.setIfInBounds_toArray, List.set_cons_zero, List.set_cons_succ]
                refine wpAnyH_take (i := 17) (oi := { dst := some 90, op := Op.move (Operand.tmp 89), type := 4, pos := _, after := _, guard := none }) (v := ?_) rfl (by kernel_rfl) (by kernel_rfl) (by kernel_rfl) (fun _ _ _ h => h) (Or.inl ⟨by rfl, ?_⟩) (by assumption) ?_
                rotate_left
                · intro wS hSw
                  (try dsimp only at hSw)
                  go_simp
                  first | done | with_reducible rfl
                try simp only [Act.put, List.setIfInBounds_toArray, List.set_cons_zero, List.set_cons_succ]
                refine held_skipB (i := 18) (oi := { dst := some 91, op := Op.load 26 (Operand.tmp 12), type := 26, pos := _, after := _, guard := some (17, false) }) rfl (by kernel_rfl) (by kernel_rfl) (by kernel_rfl) (fun _ _ _ h => h) (by rfl) (by rfl) (by assumption) ?_
                refine held_skipB (i := 19) (oi := { dst := some 92, op := Op.move (Operand.tmp 3), type := 3, pos := _, after := _, guard := some (17, false) }) rfl (by kernel_rfl) (by kernel_rfl) (by kernel_rfl) (fun _ _ _ h => h) (by rfl) (by rfl) (by assumption) ?_
                refine held_skipB (i := 21) (oi := { dst := some 94, op := Op.load 26 (Operand.tmp 6), type := 26, pos := _, after := _, guard := some (17, false) }) rfl (by kernel_rfl) (by kernel_rfl) (by kernel_rfl) (fun _ _ _ h => h) (by rfl) (by rfl) (by assumption) ?_
                refine held_skipB (i := 22) (oi := { dst := some 95, op := Op.move (Operand.tmp 3), type := 3, pos := _, after := _, guard := some (17, false) }) rfl (by kernel_rfl) (by kernel_rfl) (by kernel_rfl) (fun _ _ _ h => h) (by rfl) (by rfl) (by assumption) ?_
                refine held_skipB (i := 20) (oi := { dst := some 93, op := Op.call { callee := Callee.value (Operand.func 13), args := #[Operand.tmp 91, Operand.tmp 92], argTypes := #[26, 3] }, type := 3, pos := _, after := _, guard := some (17, false) }) rfl (by kernel_rfl) (by kernel_rfl) (by kernel_rfl) (fun _ _ _ h => h) (by rfl) (by rfl) (by assumption) ?_
                refine held_skipB (i := 23) (oi := { dst := some 96, op := Op.call { callee := Callee.value (Operand.func 13), args := #[Operand.tmp 94, Operand.tmp 95], argTypes := #[26, 3] }, type := 3, pos := _, after := _, guard := some (17, false) }) rfl (by kernel_rfl) (by kernel_rfl) (by kernel_rfl) (fun _ _ _ h => h) (by rfl) (by rfl) (by assumption) ?_
                refine held_skipB (i := 24) (oi := { dst := some 97, op := Op.binOp BinOp.leq 3 (Operand.tmp 93) (Operand.tmp 96) 3, type := 4, pos := _, after := _, guard := some (17, false) }) rfl (by kernel_rfl) (by kernel_rfl) (by kernel_rfl) (fun _ _ _ h => h) (by rfl) (by rfl) (by assumption) ?_
                refine wpAnyH_take (i := 25) (oi := { dst := some 98, op := Op.pick (Operand.tmp 90) (Operand.const (Value.bool true)) (Operand.tmp 97), type := 4, pos := _, after := _, guard := none }) (v := ?_) rfl (by kernel_rfl) (by kernel_rfl) (by kernel_rfl) (fun _ _ _ h => h) (Or.inl ⟨by rfl, ?_⟩) (by assumption) ?_
                rotate_left
                · intro wS hSw
                  (try dsimp only at hSw)
                  go_simp
                  first | done | with_reducible rfl
                try simp only [Act.put, List.setIfInBounds_toArray, List.set_cons_zero, List.set_cons_succ]
                refine wpAnyH_take (i := 26) (oi := { dst := some 10, op := Op.assign (Operand.tmp 98), type := 4, pos := _, after := _, guard := none }) (v := ?_) rfl (by kernel_rfl) (by kernel_rfl) (by kernel_rfl) (fun _ _ _ h => h) (Or.inl ⟨by rfl, ?_⟩) (by assumption) ?_
                rotate_left
                · intro wS hSw
                  (try dsimp only at hSw)
                  go_simp
                  first | done | with_reducible rfl
                try simp only [Act.put, List.setIfInBounds_toArray, List.set_cons_zero, List.set_cons_succ]
                refine wpAnyH_done (by kernel_rfl) ?_ _
                go_wp2
                go_ret
                exact ⟨by first | rfl | exact ret_b (by simp), hB.trans ((sBel (by assumption)).mono hB.size)⟩
              · have d1 : decide (q < p) = false := decide_eq_false c1
                by_cases c2 : q > x
                · have d2 : decide (x < q) = true := decide_eq_true c2
                  refine wp_region_held_drew (S := (fun w' : World => ((w'.cell? ⟨w.heap.size, 0, none⟩ = some (.int .i64 c) ∧ w'.cell? ⟨w.heap.size, 1, none⟩ = some (.int .i64 t) ∧ w'.cell? ⟨w.heap.size, 2, none⟩ = some (.int .i64 x) ∧ w'.cell? ⟨w.heap.size, 3, none⟩ = some (.int .i64 m) ∧ w'.cell? ⟨w.heap.size, 4, none⟩ = some (.int .i64 k) ∧ w'.cell? ⟨w.heap.size, 5, none⟩ = some (.int .i64 e) ∧ w'.cell? ⟨w.heap.size, 6, none⟩ = some (.int .i64 p)) ∧ (w'.cell? ⟨w3.heap.size, 0, none⟩ = some (.int .i64 c) ∧ w'.cell? ⟨w3.heap.size, 1, none⟩ = some (.int .i64 t) ∧ w'.cell? ⟨w3.heap.size, 2, none⟩ = some (.int .i64 x) ∧ w'.cell? ⟨w3.heap.size, 3, none⟩ = some (.int .i64 m) ∧ w'.cell? ⟨w3.heap.size, 4, none⟩ = some (.int .i64 k) ∧ w'.cell? ⟨w3.heap.size, 5, none⟩ = some (.int .i64 e) ∧ w'.cell? ⟨w3.heap.size, 6, none⟩ = some (.int .i64 q))) ∧ Below w10.heap.size w10 w')) (by kernel_rfl) ?_ (fun hHeld => ?_)
                  · exact MK9.out _ (Below.refl _ _).drew
                  refine wpAnyH_take (i := 0) (oi := { dst := some 73, op := Op.move (Operand.tmp 2), type := 3, pos := _, after := _, guard := none }) (v := ?_) rfl (by kernel_rfl) (by kernel_rfl) (by kernel_rfl) (fun _ _ _ h => h) (Or.inl ⟨by rfl, ?_⟩) (by assumption) ?_
                  rotate_left
                  · intro wS hSw
                    (try dsimp only at hSw)
                    go_simp
                    first | done | with_reducible rfl
                  try simp only [Act.put, List.setIfInBounds_toArray, List.set_cons_zero, List.set_cons_succ]
                  refine wpAnyH_take (i := 1) (oi := { dst := some 74, op := Op.fieldAddr 26 (Operand.tmp 6) 1, type := 0, pos := _, after := _, guard := none }) (v := ?_) rfl (by kernel_rfl) (by kernel_rfl) (by kernel_rfl) (fun _ _ _ h => h) (Or.inl ⟨by rfl, ?_⟩) (by assumption) ?_
                  rotate_left
                  · intro wS hSw
                    (try dsimp only at hSw)
                    go_simp
                    first | done | with_reducible rfl
                  try simp only [Act.put, List.setIfInBounds_toArray, List.set_cons_zero, List.set_cons_succ]
                  refine wpAnyH_take (i := 2) (oi := { dst := some 75, op := Op.load 3 (Operand.tmp 74), type := 3, pos := _, after := _, guard := none }) (v := ?_) rfl (by kernel_rfl) (by kernel_rfl) (by kernel_rfl) (fun _ _ _ h => h) (Or.inl ⟨by rfl, ?_⟩) (by assumption) ?_
                  rotate_left
                  · intro wS hSw
                    (try dsimp only at hSw)
                    go_simp
                    first | done | with_reducible rfl
                  try simp only [Act.put, List.setIfInBounds_toArray, List.set_cons_zero, List.set_cons_succ]
                  refine wpAnyH_take (i := 3) (oi := { dst := some 76, op := Op.binOp BinOp.lss 3 (Operand.tmp 73) (Operand.tmp 75) 3, type := 4, pos := _, after := _, guard := none }) (v := ?_) rfl (by kernel_rfl) (by kernel_rfl) (by kernel_rfl) (fun _ _ _ h => h) (Or.inl ⟨by rfl, ?_⟩) (by assumption) ?_
                  rotate_left
                  · intro wS hSw
                    (try dsimp only at hSw)
                    go_simp
                    first | done | with_reducible rfl
                  try simp only [Act.put, List.setIfInBounds_toArray, List.set_cons_zero, List.set_cons_succ]
                  refine wpAnyH_take (i := 4) (oi := { dst := some 77, op := Op.move (Operand.tmp 76), type := 4, pos := _, after := _, guard := none }) (v := ?_) rfl (by kernel_rfl) (by kernel_rfl) (by kernel_rfl) (fun _ _ _ h => h) (Or.inl ⟨by rfl, ?_⟩) (by assumption) ?_
                  rotate_left
                  · intro wS hSw
                    (try dsimp only at hSw)
                    go_simp
                    first | done | with_reducible rfl
                  try simp only [Act.put, List.setIfInBounds_toArray, List.set_cons_zero, List.set_cons_succ]
                  refine wpAnyH_take (i := 5) (oi := { dst := some 78, op := Op.move (Operand.tmp 2), type := 3, pos := _, after := _, guard := some (4, false) }) (v := ?_) rfl (by kernel_rfl) (by kernel_rfl) (by kernel_rfl) (fun _ _ _ h => h) (Or.inl ⟨by rfl, ?_⟩) (by assumption) ?_
                  rotate_left
                  · intro wS hSw
                    (try dsimp only at hSw)
                    go_simp
                    first | done | with_reducible rfl
                  try simp only [Act.put, List.setIfInBounds_toArray, List.set_cons_zero, List.set_cons_succ]
                  refine wpAnyH_take (i := 6) (oi := { dst := some 79, op := Op.fieldAddr 26 (Operand.tmp 6) 0, type := 0, pos := _, after := _, guard := some (4, false) }) (v := ?_) rfl (by kernel_rfl) (by kernel_rfl) (by kernel_rfl) (fun _ _ _ h => h) (Or.inl ⟨by rfl, ?_⟩) (by assumption) ?_
                  rotate_left
                  · intro wS hSw
                    (try dsimp only at hSw)
                    go_simp
                    first | done | with_reducible rfl
                  try simp only [Act.put, List.setIfInBounds_toArray, List.set_cons_zero, List.set_cons_succ]
                  refine wpAnyH_take (i := 7) (oi := { dst := some 80, op := Op.fieldAddr 24 (Operand.tmp 79) 2, type := 0, pos := _, after := _, guard := some (4, false) }) (v := ?_) rfl (by kernel_rfl) (by kernel_rfl) (by kernel_rfl) (fun _ _ _ h => h) (Or.inl ⟨by rfl, ?_⟩) (by assumption) ?_
                  rotate_left
                  · intro wS hSw
                    (try dsimp only at hSw)
                    go_simp
                    first | done | with_reducible rfl
                  try simp only [Act.put, List.setIfInBounds_toArray, List.set_cons_zero, List.set_cons_succ]
                  refine wpAnyH_take (i := 8) (oi := { dst := some 81, op := Op.load 3 (Operand.tmp 80), type := 3, pos := _, after := _, guard := some (4, false) }) (v := ?_) rfl (by kernel_rfl) (by kernel_rfl) (by kernel_rfl) (fun _ _ _ h => h) (Or.inl ⟨by rfl, ?_⟩) (by assumption) ?_
                  rotate_left
                  · intro wS hSw
                    (try dsimp only at hSw)
                    go_simp
                    first | done | with_reducible rfl
                  try simp only [Act.put, List.setIfInBounds_toArray, List.set_cons_zero, List.set_cons_succ]
                  refine wpAnyH_take (i := 9) (oi := { dst := some 82, op := Op.binOp BinOp.gtr 3 (Operand.tmp 78) (Operand.tmp 81) 3, type := 4, pos := _, after := _, guard := some (4, false) }) (v := ?_) rfl (by kernel_rfl) (by kernel_rfl) (by kernel_rfl) (fun _ _ _ h => h) (Or.inl ⟨by rfl, ?_⟩) (by assumption) ?_
                  rotate_left
                  · intro wS hSw
                    (try dsimp only at hSw)
                    go_simp
                    first | done | with_reducible rfl
                  try simp only [Act.put, List.setIfInBounds_toArray, List.set_cons_zero, List.set_cons_succ]
                  refine wpAnyH_take (i := 10) (oi := { dst := some 83, op := Op.pick (Operand.tmp 77) (Operand.const (Value.bool true)) (Operand.tmp 82), type := 4, pos := _, after := _, guard := none }) (v := ?_) rfl (by kernel_rfl) (by kernel_rfl) (by kernel_rfl) (fun _ _ _ h => h) (Or.inl ⟨by rfl, ?_⟩) (by assumption) ?_
                  rotate_left
                  · intro wS hSw
                    (try dsimp only at hSw)
                    go_simp
                    first | done | with_reducible rfl
                  try simp only [Act.put, List.setIfInBounds_toArray, List.set_cons_zero, List.set_cons_succ]
                  refine wpAnyH_take (i := 11) (oi := { dst := some 84, op := Op.move (Operand.tmp 83), type := 4, pos := _, after := _, guard := none }) (v := ?_) rfl (by kernel_rfl) (by kernel_rfl) (by kernel_rfl) (fun _ _ _ h => h) (Or.inl ⟨by rfl, ?_⟩) (by assumption) ?_
                  rotate_left
                  · intro wS hSw
                    (try dsimp only at hSw)
                    go_simp
                    first | done | with_reducible rfl
                  try simp only [Act.put, List.setIfInBounds_toArray, List.set_cons_zero, List.set_cons_succ]
                  refine held_skipB (i := 12) (oi := { dst := some 85, op := Op.load 26 (Operand.tmp 6), type := 26, pos := _, after := _, guard := some (11, false) }) rfl (by kernel_rfl) (by kernel_rfl) (by kernel_rfl) (fun _ _ _ h => h) (by rfl) (by rfl) (by assumption) ?_
                  refine held_skipB (i := 13) (oi := { dst := some 86, op := Op.buildSlice 22 1 #[(0, Operand.tmp 85)], type := 22, pos := _, after := _, guard := some (11, false) }) rfl (by kernel_rfl) (by kernel_rfl) (by kernel_rfl) (fun _ _ _ h => h) (by rfl) (by rfl) (by assumption) ?_
                  refine held_skipB (i := 14) (oi := { dst := some 87, op := Op.call { callee := Callee.value (Operand.func 11), args := #[Operand.tmp 86], argTypes := #[22] }, type := 4, pos := _, after := _, guard := some (11, false) }) rfl (by kernel_rfl) (by kernel_rfl) (by kernel_rfl) (fun _ _ _ h => h) (by rfl) (by rfl) (by assumption) ?_
                  refine held_skipB (i := 15) (oi := { dst := some 88, op := Op.unOp UnOp.not 4 (Operand.tmp 87), type := 4, pos := _, after := _, guard := some (11, false) }) rfl (by kernel_rfl) (by kernel_rfl) (by kernel_rfl) (fun _ _ _ h => h) (by rfl) (by rfl) (by assumption) ?_
                  refine wpAnyH_take (i := 16) (oi := { dst := some 89, op := Op.pick (Operand.tmp 84) (Operand.const (Value.bool true)) (Operand.tmp 88), type := 4, pos := _, after := _, guard := none }) (v := ?_) rfl (by kernel_rfl) (by kernel_rfl) (by kernel_rfl) (fun _ _ _ h => h) (Or.inl ⟨by rfl, ?_⟩) (by assumption) ?_
                  rotate_left
                  · intro wS hSw
                    (try dsimp only at hSw)
                    go_simp
                    first | done | with_reducible rfl
                  try simp only [Act.put, List.setIfInBounds_toArray, List.set_cons_zero, List.set_cons_succ]
                  refine wpAnyH_take (i := 17) (oi := { dst := some 90, op := Op.move (Operand.tmp 89), type := 4, pos := _, after := _, guard := none }) (v := ?_) rfl (by kernel_rfl) (by kernel_rfl) (by kernel_rfl) (fun _ _ _ h => h) (Or.inl ⟨by rfl, ?_⟩) (by assumption) ?_
                  rotate_left
                  · intro wS hSw
                    (try dsimp only at hSw)
                    go_simp
                    first | done | with_reducible rfl
                  try simp only [Act.put, List.setIfInBounds_toArray, List.set_cons_zero, List.set_cons_succ]
                  refine held_skipB (i := 18) (oi := { dst := some 91, op := Op.load 26 (Operand.tmp 12), type := 26, pos := _, after := _, guard := some (17, false) }) rfl (by kernel_rfl) (by kernel_rfl) (by kernel_rfl) (fun _ _ _ h => h) (by rfl) (by rfl) (by assumption) ?_
                  refine held_skipB (i := 19) (oi := { dst := some 92, op := Op.move (Operand.tmp 3), type := 3, pos := _, after := _, guard := some (17, false) }) rfl (by kernel_rfl) (by kernel_rfl) (by kernel_rfl) (fun _ _ _ h => h) (by rfl) (by rfl) (by assumption) ?_
                  refine held_skipB (i := 21) (oi := { dst := some 94, op := Op.load 26 (Operand.tmp 6), type := 26, pos := _, after := _, guard := some (17, false) }) rfl (by kernel_rfl) (by kernel_rfl) (by kernel_rfl) (fun _ _ _ h => h) (by rfl) (by rfl) (by assumption) ?_
                  refine held_skipB (i := 22) (oi := { dst := some 95, op := Op.move (Operand.tmp 3), type := 3, pos := _, after := _, guard := some (17, false) }) rfl (by kernel_rfl) (by kernel_rfl) (by kernel_rfl) (fun _ _ _ h => h) (by rfl) (by rfl) (by assumption) ?_
                  refine held_skipB (i := 20) (oi := { dst := some 93, op := Op.call { callee := Callee.value (Operand.func 13), args := #[Operand.tmp 91, Operand.tmp 92], argTypes := #[26, 3] }, type := 3, pos := _, after := _, guard := some (17, false) }) rfl (by kernel_rfl) (by kernel_rfl) (by kernel_rfl) (fun _ _ _ h => h) (by rfl) (by rfl) (by assumption) ?_
                  refine held_skipB (i := 23) (oi := { dst := some 96, op := Op.call { callee := Callee.value (Operand.func 13), args := #[Operand.tmp 94, Operand.tmp 95], argTypes := #[26, 3] }, type := 3, pos := _, after := _, guard := some (17, false) }) rfl (by kernel_rfl) (by kernel_rfl) (by kernel_rfl) (fun _ _ _ h => h) (by rfl) (by rfl) (by assumption) ?_
                  refine held_skipB (i := 24) (oi := { dst := some 97, op := Op.binOp BinOp.leq 3 (Operand.tmp 93) (Operand.tmp 96) 3, type := 4, pos := _, after := _, guard := some (17, false) }) rfl (by kernel_rfl) (by kernel_rfl) (by kernel_rfl) (fun _ _ _ h => h) (by rfl) (by rfl) (by assumption) ?_
                  refine wpAnyH_take (i := 25) (oi := { dst := some 98, op := Op.pick (Operand.tmp 90) (Operand.const (Value.bool true)) (Operand.tmp 97), type := 4, pos := _, after := _, guard := none }) (v := ?_) rfl (by kernel_rfl) (by kernel_rfl) (by kernel_rfl) (fun _ _ _ h => h) (Or.inl ⟨by rfl, ?_⟩) (by assumption) ?_
                  rotate_left
                  · intro wS hSw
                    (try dsimp only at hSw)
                    go_simp
                    first | done | with_reducible rfl
                  try simp only [Act.put, List.setIfInBounds_toArray, List.set_cons_zero, List.set_cons_succ]
                  refine wpAnyH_take (i := 26) (oi := { dst := some 10, op := Op.assign (Operand.tmp 98), type := 4, pos := _, after := _, guard := none }) (v := ?_) rfl (by kernel_rfl) (by kernel_rfl) (by kernel_rfl) (fun _ _ _ h => h) (Or.inl ⟨by rfl, ?_⟩) (by assumption) ?_
                  rotate_left
                  · intro wS hSw
                    (try dsimp only at hSw)
                    go_simp
                    first | done | with_reducible rfl
                  try simp only [Act.put, List.setIfInBounds_toArray, List.set_cons_zero, List.set_cons_succ]
                  refine wpAnyH_done (by kernel_rfl) ?_ _
                  go_wp2
                  go_ret
                  exact ⟨by first | rfl | exact ret_b (by simp), hB.trans ((sBel (by assumption)).mono hB.size)⟩
                · have d2 : decide (x < q) = false := decide_eq_false c2
                  cases hm : may9 1 (fun _ => (⟨c, t, x, m, k, e, p⟩ : Fx)) with
                  | false =>
                    have HM : Hid (may9 1 (fun _ => (⟨c, t, x, m, k, e, p⟩ : Fx)) = false) := hm
                    clear hm
                    refine wp_region_held_drew (S := (fun w' : World => ((w'.cell? ⟨w.heap.size, 0, none⟩ = some (.int .i64 c) ∧ w'.cell? ⟨w.heap.size, 1, none⟩ = some (.int .i64 t) ∧ w'.cell? ⟨w.heap.size, 2, none⟩ = some (.int .i64 x) ∧ w'.cell? ⟨w.heap.size, 3, none⟩ = some (.int .i64 m) ∧ w'.cell? ⟨w.heap.size, 4, none⟩ = some (.int .i64 k) ∧ w'.cell? ⟨w.heap.size, 5, none⟩ = some (.int .i64 e) ∧ w'.cell? ⟨w.heap.size, 6, none⟩ = some (.int .i64 p)) ∧ (w'.cell? ⟨w3.heap.size, 0, none⟩ = some (.int .i64 c) ∧ w'.cell? ⟨w3.heap.size, 1, none⟩ = some (.int .i64 t) ∧ w'.cell? ⟨w3.heap.size, 2, none⟩ = some (.int .i64 x) ∧ w'.cell? ⟨w3.heap.size, 3, none⟩ = some (.int .i64 m) ∧ w'.cell? ⟨w3.heap.size, 4, none⟩ = some (.int .i64 k) ∧ w'.cell? ⟨w3.heap.size, 5, none⟩ = some (.int .i64 e) ∧ w'.cell? ⟨w3.heap.size, 6, none⟩ = some (.int .i64 q))) ∧ Below w10.heap.size w10 w')) (by kernel_rfl) ?_ (fun hHeld => ?_)
                    · exact MK9.out _ (Below.refl _ _).drew
                    refine wpAnyH_take (i := 0) (oi := { dst := some 73, op := Op.move (Operand.tmp 2), type := 3, pos := _, after := _, guard := none }) (v := ?_) rfl (by kernel_rfl) (by kernel_rfl) (by kernel_rfl) (fun _ _ _ h => h) (Or.inl ⟨by rfl, ?_⟩) (by assumption) ?_
                    rotate_left
                    · intro wS hSw
                      (try dsimp only at hSw)
                      go_simp
                      first | done | with_reducible rfl
                    try simp only [Act.put, List.setIfInBounds_toArray, List.set_cons_zero, List.set_cons_succ]
                    refine wpAnyH_take (i := 1) (oi := { dst := some 74, op := Op.fieldAddr 26 (Operand.tmp 6) 1, type := 0, pos := _, after := _, guard := none }) (v := ?_) rfl (by kernel_rfl) (by kernel_rfl) (by kernel_rfl) (fun _ _ _ h => h) (Or.inl ⟨by rfl, ?_⟩) (by assumption) ?_
                    rotate_left
                    · intro wS hSw
                      (try dsimp only at hSw)
                      go_simp
                      first | done | with_reducible rfl
                    try simp only [Act.put, List.setIfInBounds_toArray, List.set_cons_zero, List.set_cons_succ]
                    refine wpAnyH_take (i := 2) (oi := { dst := some 75, op := Op.load 3 (Operand.tmp 74), type := 3, pos := _, after := _, guard := none }) (v := ?_) rfl (by kernel_rfl) (by kernel_rfl) (by kernel_rfl) (fun _ _ _ h => h) (Or.inl ⟨by rfl, ?_⟩) (by assumption) ?_
                    rotate_left
                    · intro wS hSw
                      (try dsimp only at hSw)
                      go_simp
                      first | done | with_reducible rfl
                    try simp only [Act.put, List.setIfInBounds_toArray, List.set_cons_zero, List.set_cons_succ]
                    refine wpAnyH_take (i := 3) (oi := { dst := some 76, op := Op.binOp BinOp.lss 3 (Operand.tmp 73) (Operand.tmp 75) 3, type := 4, pos := _, after := _, guard := none }) (v := ?_) rfl (by kernel_rfl) (by kernel_rfl) (by kernel_rfl) (fun _ _ _ h => h) (Or.inl ⟨by rfl, ?_⟩) (by assumption) ?_
                    rotate_left
                    · intro wS hSw
                      (try dsimp only at hSw)
                      go_simp
                      first | done | with_reducible rfl
                    try simp only [Act.put, List.setIfInBounds_toArray, List.set_cons_zero, List.set_cons_succ]
                    refine wpAnyH_take (i := 4) (oi := { dst := some 77, op := Op.move (Operand.tmp 76), type := 4, pos := _, after := _, guard := none }) (v := ?_) rfl (by kernel_rfl) (by kernel_rfl) (by kernel_rfl) (fun _ _ _ h => h) (Or.inl ⟨by rfl, ?_⟩) (by assumption) ?_
                    rotate_left
                    · intro wS hSw
                      (try dsimp only at hSw)
                      go_simp
                      first | done | with_reducible rfl
                    try simp only [Act.put, List.setIfInBounds_toArray, List.set_cons_zero, List.set_cons_succ]
                    refine wpAnyH_take (i := 5) (oi := { dst := some 78, op := Op.move (Operand.tmp 2), type := 3, pos := _, after := _, guard := some (4, false) }) (v := ?_) rfl (by kernel_rfl) (by kernel_rfl) (by kernel_rfl) (fun _ _ _ h => h) (Or.inl ⟨by rfl, ?_⟩) (by assumption) ?_
                    rotate_left
                    · intro wS hSw
                      (try dsimp only at hSw)
                      go_simp
                      first | done | with_reducible rfl
                    try simp only [Act.put, List.setIfInBounds_toArray, List.set_cons_zero, List.set_cons_succ]
                    refine wpAnyH_take (i := 6) (oi := { dst := some 79, op := Op.fieldAddr 26 (Operand.tmp 6) 0, type := 0, pos := _, after := _, guard := some (4, false) }) (v := ?_) rfl (by kernel_rfl) (by kernel_rfl) (by kernel_rfl) (fun _ _ _ h => h) (Or.inl ⟨by rfl, ?_⟩) (by assumption) ?_
                    rotate_left
                    · intro wS hSw
                      (try dsimp only at hSw)
                      go_simp
                      first | done | with_reducible rfl
                    try simp only [Act.put, List.setIfInBounds_toArray, List.set_cons_zero, List.set_cons_succ]
                    refine wpAnyH_take (i := 7) (oi := { dst := some 80, op := Op.fieldAddr 24 (Operand.tmp 79) 2, type := 0, pos := _, after := _, guard := some (4, false) }) (v := ?_) rfl (by kernel_rfl) (by kernel_rfl) (by kernel_rfl) (fun _ _ _ h => h) (Or.inl ⟨by rfl, ?_⟩) (by assumption) ?_
                    rotate_left
                    · intro wS hSw
                      (try dsimp only at hSw)
                      go_simp
                      first | done | with_reducible rfl
                    try simp only [Act.put, List.setIfInBounds_toArray, List.set_cons_zero, List.set_cons_succ]
                    refine wpAnyH_take (i := 8) (oi := { dst := some 81, op := Op.load 3 (Operand.tmp 80), type := 3, pos := _, after := _, guard := some (4, false) }) (v := ?_) rfl (by kernel_rfl) (by kernel_rfl) (by kernel_rfl) (fun _ _ _ h => h) (Or.inl ⟨by rfl, ?_⟩) (by assumption) ?_
                    rotate_left
                    · intro wS hSw
                      (try dsimp only at hSw)
                      go_simp
                      first | done | with_reducible rfl
                    try simp only [Act.put, List.setIfInBounds_toArray, List.set_cons_zero, List.set_cons_succ]
                    refine wpAnyH_take (i := 9) (oi := { dst := some 82, op := Op.binOp BinOp.gtr 3 (Operand.tmp 78) (Operand.tmp 81) 3, type := 4, pos := _, after := _, guard := some (4, false) }) (v := ?_) rfl (by kernel_rfl) (by kernel_rfl) (by kernel_rfl) (fun _ _ _ h => h) (Or.inl ⟨by rfl, ?_⟩) (by assumption) ?_
                    rotate_left
                    · intro wS hSw
                      (try dsimp only at hSw)
                      go_simp
                      first | done | with_reducible rfl
                    try simp only [Act.put, List.setIfInBounds_toArray, List.set_cons_zero, List.set_cons_succ]
                    refine wpAnyH_take (i := 10) (oi := { dst := some 83, op := Op.pick (Operand.tmp 77) (Operand.const (Value.bool true)) (Operand.tmp 82), type := 4, pos := _, after := _, guard := none }) (v := ?_) rfl (by kernel_rfl) (by kernel_rfl) (by kernel_rfl) (fun _ _ _ h => h) (Or.inl ⟨by rfl, ?_⟩) (by assumption) ?_
                    rotate_left
                    · intro wS hSw
                      (try dsimp only at hSw)
                      go_simp
                      first | done | with_reducible rfl
                    try simp only [Act.put, List.setIfInBounds_toArray, List.set_cons_zero, List.set_cons_succ]
                    refine wpAnyH_take (i := 11) (oi := { dst := some 84, op := Op.move (Operand.tmp 83), type := 4, pos := _, after := _, guard := none }) (v := ?_) rfl (by kernel_rfl) (by kernel_rfl) (by kernel_rfl) (fun _ _ _ h => h) (Or.inl ⟨by rfl, ?_⟩) (by assumption) ?_
                    rotate_left
                    · intro wS hSw
                      (try dsimp only at hSw)
                      go_simp
                      first | done | with_reducible rfl
                    try simp only [Act.put, List.setIfInBounds_toArray, List.set_cons_zero, List.set_cons_succ]
                    refine wpAnyH_take (i := 12) (oi := { dst := some 85, op := Op.load 26 (Operand.tmp 6), type := 26, pos := _, after := _, guard := some (11, false) }) (v := ?_) rfl (by kernel_rfl) (by kernel_rfl) (by kernel_rfl) (fun _ _ _ h => h) (Or.inl ⟨by rfl, ?_⟩) (by assumption) ?_
                    rotate_left
                    · intro wS hSw
                      (try dsimp only at hSw)
                      go_simp
                      first | done | with_reducible rfl
                    try simp only [Act.put, List.setIfInBounds_toArray, List.set_cons_zero, List.set_cons_succ]
                    refine wpAnyH_ready (rs := [13]) (by kernel_rfl) (by simp) ?_
                    refine AllReadyH.cons (o := { dst := some 86, op := Op.buildSlice 22 1 #[(0, Operand.tmp 85)], type := 22, pos := _, after := _, guard := some (11, false) }) rfl (fun K hK => ?_) AllReadyH.nil
                    go_simp
                    refine hK.out _ _ ?_ (fun hHeld => ?_)
                    · exact MK9.out _ ((sBel (by assumption)).alloc (sBel (by assumption)).size _)
                    clear hK K
                    try simp only [Act.put, List.setIfInBounds_toArray, List.set_cons_zero, List.set_cons_succ]
                    refine wpAnyH_ready (rs := [14]) (by kernel_rfl) (by simp) ?_
                    refine AllReadyH.cons (o := { dst := some 87, op := Op.call { callee := Callee.value (Operand.func 11), args := #[Operand.tmp 86], argTypes := #[22] }, type := 4, pos := _, after := _, guard := some (11, false) }) rfl (fun K hK => ?_) AllReadyH.nil
                    go_simp
                    refine (may9_any 1 (fun _ => ⟨c, t, x, m, k, e, p⟩) _ _ (by first | exact Fxs.one ((Sev.new w10 c t x m k e p).later (Below.refl _ _).drew) | exact Fxs.one (Sev.new _ c t x m k e p)) (HLim.out.later (sBel (by assumption)))).mono ?_
                    rintro r w20 ⟨rfl, hb20⟩
                    rw [HM.out]
                    go_wp2_with fail
                    refine hK.out _ _ ?_ (fun hHeld => ?_)
                    · exact MK9.out _ (bstep (by assumption) (sBel (by assumption)))
                    clear hK K
                    try simp only [Act.put, List.setIfInBounds_toArray, List.set_cons_zero, List.set_cons_succ]
                    refine wpAnyH_take (i := 15) (oi := { dst := some 88, op := Op.unOp UnOp.not 4 (Operand.tmp 87), type := 4, pos := _, after := _, guard := some (11, false) }) (v := ?_) rfl (by kernel_rfl) (by kernel_rfl) (by kernel_rfl) (fun _ _ _ h => h) (Or.inl ⟨by rfl, ?_⟩) (by assumption) ?_
                    rotate_left
                    · intro wS hSw
                      (try dsimp only at hSw)
                      go_simp
                      first | done | with_reducible rfl
                    try simp only [Act.put, List.setIfInBounds_toArray, List.set_cons_zero, List.set_cons_succ]
                    refine wpAnyH_take (i := 16) (oi := { dst := some 89, op := Op.pick (Operand.tmp 84) (Operand.const (Value.bool true)) (Operand.tmp 88), type := 4, pos := _, after := _, guard := none }) (v := ?_) rfl (by kernel_rfl) (by kernel_rfl) (by kernel_rfl) (fun _ _ _ h => h) (Or.inl ⟨by rfl, ?_⟩) (by assumption) ?_
                    rotate_left
                    · intro wS hSw
                      (try dsimp only at hSw)
                      go_simp
                      first | done | with_reducible rfl
                    try simp only [Act.put, List.setIfInBounds_toArray, List.set_cons_zero, List.set_cons_succ]
                    refine wpAnyH_take (i := 17) (oi := { dst := some 90, op := Op.move (Operand.tmp 89), type := 4, pos := _, after := _, guard := none }) (v := ?_) rfl (by kernel_rfl) (by kernel_rfl) (by kernel_rfl) (fun _ _ _ h => h) (Or.inl ⟨by rfl, ?_⟩) (by assumption) ?_
                    rotate_left
                    · intro wS hSw
                      (try dsimp only at hSw)
                      go_simp
                      first | done | with_reducible rfl
                    try simp only [Act.put, List.setIfInBounds_toArray, List.set_cons_zero, List.set_cons_succ]
                    refine held_skipB (i := 18) (oi := { dst := some 91, op := Op.load 26 (Operand.tmp 12), type := 26, pos := _, after := _, guard := some (17, false) }) rfl (by kernel_rfl) (by kernel_rfl) (by kernel_rfl) (fun _ _ _ h => h) (by rfl) (by rfl) (by assumption) ?_
                    refine held_skipB (i := 19) (oi := { dst := some 92, op := Op.move (Operand.tmp 3), type := 3, pos := _, after := _, guard := some (17, false) }) rfl (by kernel_rfl) (by kernel_rfl) (by kernel_rfl) (fun _ _ _ h => h) (by rfl) (by rfl) (by assumption) ?_
                    refine held_skipB (i := 21) (oi := { dst := some 94, op := Op.load 26 (Operand.tmp 6), type := 26, pos := _, after := _, guard := some (17, false) }) rfl (by kernel_rfl) (by kernel_rfl) (by kernel_rfl) (fun _ _ _ h => h) (by rfl) (by rfl) (by assumption) ?_
                    refine held_skipB (i := 22) (oi := { dst := some 95, op := Op.move (Operand.tmp 3), type := 3, pos := _, after := _, guard := some (17, false) }) rfl (by kernel_rfl) (by kernel_rfl) (by kernel_rfl) (fun _ _ _ h => h) (by rfl) (by rfl) (by assumption) ?_
                    refine held_skipB (i := 20) (oi := { dst := some 93, op := Op.call { callee := Callee.value (Operand.func 13), args := #[Operand.tmp 91, Operand.tmp 92], argTypes := #[26, 3] }, type := 3, pos := _, after := _, guard := some (17, false) }) rfl (by kernel_rfl) (by kernel_rfl) (by kernel_rfl) (fun _ _ _ h => h) (by rfl) (by rfl) (by assumption) ?_
                    refine held_skipB (i := 23) (oi := { dst := some 96, op := Op.call { callee := Callee.value (Operand.func 13), args := #[Operand.tmp 94, Operand.tmp 95], argTypes := #[26, 3] }, type := 3, pos := _, after := _, guard := some (17, false) }) rfl (by kernel_rfl) (by kernel_rfl) (by kernel_rfl) (fun _ _ _ h => h) (by rfl) (by rfl) (by assumption) ?_
                    refine held_skipB (i := 24) (oi := { dst := some 97, op := Op.binOp BinOp.leq 3 (Operand.tmp 93) (Operand.tmp 96) 3, type := 4, pos := _, after := _, guard := some (17, false) }) rfl (by kernel_rfl) (by kernel_rfl) (by kernel_rfl) (fun _ _ _ h => h) (by rfl) (by rfl) (by assumption) ?_
                    refine wpAnyH_take (i := 25) (oi := { dst := some 98, op := Op.pick (Operand.tmp 90) (Operand.const (Value.bool true)) (Operand.tmp 97), type := 4, pos := _, after := _, guard := none }) (v := ?_) rfl (by kernel_rfl) (by kernel_rfl) (by kernel_rfl) (fun _ _ _ h => h) (Or.inl ⟨by rfl, ?_⟩) (by assumption) ?_
                    rotate_left
                    · intro wS hSw
                      (try dsimp only at hSw)
                      go_simp
                      first | done | with_reducible rfl
                    try simp only [Act.put, List.setIfInBounds_toArray, List.set_cons_zero, List.set_cons_succ]
                    refine wpAnyH_take (i := 26) (oi := { dst := some 10, op := Op.assign (Operand.tmp 98), type := 4, pos := _, after := _, guard := none }) (v := ?_) rfl (by kernel_rfl) (by kernel_rfl) (by kernel_rfl) (fun _ _ _ h => h) (Or.inl ⟨by rfl, ?_⟩) (by assumption) ?_
                    rotate_left
                    · intro wS hSw
                      (try dsimp only at hSw)
                      go_simp
                      first | done | with_reducible rfl
                    try simp only [Act.put, List.setIfInBounds_toArray, List.set_cons_zero, List.set_cons_succ]
                    refine wpAnyH_done (by kernel_rfl) ?_ _
                    go_wp2
                    go_ret
                    exact ⟨by first | rfl | exact ret_b (by simp), hB.trans ((sBel (by assumption)).mono hB.size)⟩
                  | true =>
                    have HM : Hid (may9 1 (fun _ => (⟨c, t, x, m, k, e, p⟩ : Fx)) = true) := hm
                    have hk : knB ⟨c, t, x, m, k, e, p⟩ = true := knAll_of (may9_facts hm).2.1 (i := 0) (by omega)
                    have hle : ofV9 ⟨c, t, x, m, k, e, q⟩ n ≤ ofV9 ⟨c, t, x, m, k, e, p⟩ n := of_per (f := ⟨c, t, x, m, k, e, p⟩) (p := q) hk (show p ≤ q by omega) (show q ≤ x by omega) n0 (by omega)
                    obtain ⟨X1, h1⟩ : ∃ y, ofV9 ⟨c, t, x, m, k, e, q⟩ n = y := ⟨_, rfl⟩
                    obtain ⟨X2, h2⟩ : ∃ y, ofV9 ⟨c, t, x, m, k, e, p⟩ n = y := ⟨_, rfl⟩
                    have HO : Hid (ofV9 ⟨c, t, x, m, k, e, q⟩ n = X1 ∧ ofV9 ⟨c, t, x, m, k, e, p⟩ n = X2) := ⟨h1, h2⟩
                    rw [h1, h2] at hle
                    have hd9 : decide (X1 ≤ X2) = true := decide_eq_true hle
                    clear hm hk h1 h2
                    go_region_held3 (fun w' => ((w'.cell? ⟨w.heap.size, 0, none⟩ = some (.int .i64 c) ∧ w'.cell? ⟨w.heap.size, 1, none⟩ = some (.int .i64 t) ∧ w'.cell? ⟨w.heap.size, 2, none⟩ = some (.int .i64 x) ∧ w'.cell? ⟨w.heap.size, 3, none⟩ = some (.int .i64 m) ∧ w'.cell? ⟨w.heap.size, 4, none⟩ = some (.int .i64 k) ∧ w'.cell? ⟨w.heap.size, 5, none⟩ = some (.int .i64 e) ∧ w'.cell? ⟨w.heap.size, 6, none⟩ = some (.int .i64 p)) ∧ (w'.cell? ⟨w3.heap.size, 0, none⟩ = some (.int .i64 c) ∧ w'.cell? ⟨w3.heap.size, 1, none⟩ = some (.int .i64 t) ∧ w'.cell? ⟨w3.heap.size, 2, none⟩ = some (.int .i64 x) ∧ w'.cell? ⟨w3.heap.size, 3, none⟩ = some (.int .i64 m) ∧ w'.cell? ⟨w3.heap.size, 4, none⟩ = some (.int .i64 k) ∧ w'.cell? ⟨w3.heap.size, 5, none⟩ = some (.int .i64 e) ∧ w'.cell? ⟨w3.heap.size, 6, none⟩ = some (.int .i64 q))) ∧ Below w10.heap.size w10 w')
                      (first | exact MK9.out _ (bstep (by assumption) (sBel (by assumption))) | exact MK9.out _ ((sBel (by assumption)).alloc (sBel (by assumption)).size _) | exact MK9.out _ (Below.refl _ _).drew)
                      (first
                      | (go_at_call 11; refine (may9_any 1 (fun _ => ⟨c, t, x, m, k, e, p⟩) _ _ (by first | exact Fxs.one ((Sev.new w10 c t x m k e p).later (Below.refl _ _).drew) | exact Fxs.one (Sev.new _ c t x m k e p)) (HLim.out.later (sBel (by assumption)))).mono ?_; rintro r w20 ⟨rfl, hb20⟩; rw [HM.out])
                      | (go_at_call 13; refine (of9_any c t x m k e _ n _).mono ?_; rintro r w21 ⟨rfl, hb21⟩; first | rw [HO.out.1] | rw [HO.out.2]))
                    all_goals
                      go_wp2
                      go_ret
                      exact ⟨by first | rfl | exact ret_b (by simp) | exact ret_b (by simp; omega), hB.trans ((sBel (by assumption)).mono hB.size)⟩
end Go.Proofs.YteibaiflljcghaaDoor
