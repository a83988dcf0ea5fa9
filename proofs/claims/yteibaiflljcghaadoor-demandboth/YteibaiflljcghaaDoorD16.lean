import Derived.Test.YteibaiflljcghaaDoorD10
/- What the statement DemandBoth comes to. -/
namespace Go.Proofs.YteibaiflljcghaaDoor
open Go.RowKit Go.Shelf

theorem cat_zero (f g : Nat → Fx) (i : Nat) : cat9 0 f g i = g i := by rw [cat9_right (Nat.zero_le _)]; rfl
theorem all_cat {l m : Nat} (f g : Nat → Fx) (n : Int) : allS (l + m) (cat9 l f g) n = allS l f n + allS m g n := by
  induction m with
  | zero =>
    show allS l (cat9 l f g) n = allS l f n + 0
    rw [Int.add_zero]
    exact sm_congr fun i hi => by rw [cat9_left hi]
  | succ m ih => rw [← Nat.add_assoc, allS_succ, ih, allS_succ, cat9_right (by omega), show l + m - l = m by omega, Int.add_assoc]
theorem OwnF.open {w : World} {base : Nat} {v : Value} {n : Nat} {f : Nat → Fx} (h : OwnF w base v n f) : (v = .slice none 0 0 ∧ n = 0) ∨ ∃ g cap, v = .slice (some ⟨g, 0, none⟩) n cap ∧ base ≤ g ∧ n ≤ cap ∧ cap ≤ maxLen := by
  obtain ⟨_, h1 | ⟨g, cap, cur, h2, h3, _, h4, h5, _⟩⟩ := h
  · exact .inl h1
  · exact .inr ⟨g, cap, h2, h3, h4, h5⟩
/-- Two, one behind the other, in a list of the call's own. -/
theorem OwnF.two {w : World} {B l m : Nat} {v : Value} {f g : Nat → Fx} (h : OwnF w B v (0 + l + m) (cat9 (0 + l) (cat9 0 f f) g)) : Fxs w v (l + m) (cat9 l f g) := by
  have hg := h.fxs
  rw [show 0 + l + m = l + m by omega] at hg
  refine hg.congr fun i _ => ?_
  rw [Nat.zero_add]
  by_cases c : i < l
  · rw [cat9_left c, cat9_left c, cat_zero]
  · rw [cat9_right (by omega), cat9_right (by omega)]
theorem OwnF.same {w : World} {B l : Nat} {v : Value} {f g : Nat → Fx} (h : OwnF w B v (0 + l) (cat9 0 f g)) : OwnF w B v l g := by
  unfold OwnF at h ⊢
  rw [Nat.zero_add] at h
  rwa [flatF_congr (g := g) fun i _ => cat_zero f g i] at h
/-- One number of one of them is written. -/
theorem flatF_set {n : Nat} {f g : Nat → Fx} {i j : Nat} {x : Int} (hj : j < 7) (hg : ∀ a, a < n → a ≠ i → g a = f a) (hgi : ∀ b, b < 7 → b ≠ j → (g i).at b = (f i).at b) (hx : (g i).at j = x) :
    (flatF n f).set (i * 7 + j) (.int .i64 x) = flatF n g := by
  apply List.ext_getElem?
  intro t
  have hl := flatF_len n f
  have hl' := flatF_len n g
  by_cases ht : t < n * 7
  · have e : t = t / 7 * 7 + t % 7 := by omega
    have k1 := flatF_at n f (t / 7) (t % 7) (by omega) (by omega)
    have k2 := flatF_at n g (t / 7) (t % 7) (by omega) (by omega)
    rw [← e] at k1 k2
    rw [k2, List.getElem?_set]
    by_cases c : i * 7 + j = t
    · have c1 : t / 7 = i := by omega
      have c2 : t % 7 = j := by omega
      rw [if_pos c, if_pos (by omega), c1, c2, hx]
    · rw [if_neg c, k1]
      by_cases c1 : t / 7 = i
      · rw [c1, hgi (t % 7) (by omega) (by omega)]
      · rw [hg (t / 7) (by omega) c1]
  · rw [List.getElem?_eq_none (by simp; omega), List.getElem?_eq_none (by omega)]
theorem OwnF.cell {w : World} {base g n cap : Nat} {f : Nat → Fx} (h : OwnF w base (.slice (some ⟨g, 0, none⟩) n cap) n f) {i j : Nat} (hi : i < n) (hj : j < 7) : w.cell? ⟨g, i * 7 + j, none⟩ = some (.int .i64 ((f i).at j)) ∧ w.frozen? ⟨g, i * 7 + j, none⟩ = false := by
  unfold OwnF at h
  exact ⟨(h.cellAt (i * 7 + j) (by omega)).trans (flatF_at n f i j hi hj), h.frozenAt _⟩
theorem OwnF.set {w : World} {base g n cap : Nat} {f f' : Nat → Fx} (h : OwnF w base (.slice (some ⟨g, 0, none⟩) n cap) n f) {i j : Nat} {x : Int} (hj : j < 7) (hg : ∀ a, a < n → a ≠ i → f' a = f a) (hgi : ∀ b, b < 7 → b ≠ j → (f' i).at b = (f i).at b) (hx : (f' i).at j = x) :
    OwnF (w.setCell ⟨g, i * 7 + j, none⟩ (.int .i64 x)) base (.slice (some ⟨g, 0, none⟩) n cap) n f' := by
  unfold OwnF at h ⊢
  have := (h.stored (i * 7 + j) (.int .i64 x)).1
  rwa [flatF_set hj hg hgi hx] at this
/-- The first j of them, all jobs of which are mandatory. -/
def fuF (f : Nat → Fx) (j i : Nat) : Fx := if i < j then (f i).full else f i
theorem fuF_other {f : Nat → Fx} {i b : Nat} (h : b ≠ i) : fuF f (i + 1) b = fuF f i b := by
  unfold fuF
  by_cases c : b < i
  · rw [if_pos c, if_pos (by omega)]
  · rw [if_neg c, if_neg (by omega)]
theorem fuF_self (f : Nat → Fx) (i : Nat) : fuF f (i + 1) i = (f i).full := if_pos (by omega)
theorem full_at (f : Fx) {b : Nat} (hb : b < 7) (hne : b ≠ 3) : f.full.at b = f.at b := by
  rcases (show b = 0 ∨ b = 1 ∨ b = 2 ∨ b = 4 ∨ b = 5 ∨ b = 6 by omega) with rfl | rfl | rfl | rfl | rfl | rfl <;> rfl

set_option maxHeartbeats 8000000 in
set_option maxRecDepth 100000 in
theorem law_dboth (l l2 : Nat) (f f2 : Nat → Fx) (n : Int) (v u : Value) (w : World) (h : Fxs w v l f) (h' : Fxs w u l2 f2) (hL : Lim w) :
    Calls Tryd.prog 9 #[v, u, .int .i64 n] w fun r w' => r = .returned (.bool true) ∧ Below w.heap.size w w' := by
  have HX0 : Hid (Fxs w v l f ∧ Fxs w u l2 f2 ∧ Lim w) := ⟨h, h', hL⟩
  obtain ⟨a, cap, rfl, _, _, _, _⟩ := h
  obtain ⟨a', cap', rfl, _, _, _, _⟩ := h'
  clear hL
  go_enter Tryd.func9, Tryd.ntmps9
  go_wp2_with fail
  refine (awake9_any _ HX0.out.2.2).mono ?_
  rintro r w1 ⟨rfl, hb1⟩
  have HX : Hid (Fxs w1 (.slice a l cap) l f ∧ Fxs w1 (.slice a' l2 cap') l2 f2 ∧ Lim w1) := ⟨HX0.out.1.later hb1, HX0.out.2.1.later hb1, HX0.out.2.2.later hb1⟩
  clear HX0
  by_cases g0 : (l : Int) > 10
  · go_wp2_with fail
    go_ret
    exact ⟨by first | rfl | exact ret_b (by simp) | exact ret_b (decide_eq_true (by omega)) | exact ret_b (by simp; omega), hb1⟩
  · have o0 := g0
    by_cases g1 : (l2 : Int) > 10
    · go_wp2_with fail
      go_ret
      exact ⟨by first | rfl | exact ret_b (by simp) | exact ret_b (decide_eq_true (by omega)) | exact ret_b (by simp; omega), hb1⟩
    · have o1 := g1
      by_cases g2 : n < 0
      · go_wp2_with fail
        go_ret
        exact ⟨by first | rfl | exact ret_b (by simp) | exact ret_b (decide_eq_true (by omega)) | exact ret_b (by simp; omega), hb1⟩
      · have o2 := g2
        by_cases g3 : n > 1099511627776
        · go_wp2_with fail
          go_ret
          exact ⟨by first | rfl | exact ret_b (by simp) | exact ret_b (decide_eq_true (by omega)) | exact ret_b (by simp; omega), hb1⟩
        · have o3 := g3
          clear o0 o1 o2 o3
          have n0 : 0 ≤ n := by omega
          have n1 : n ≤ 1099511627776 := by omega
          have l0 : (l : Int) ≤ 10 := by omega
          have l1 : (l2 : Int) ≤ 10 := by omega
          have z1 : 0 + l ≤ 100000 := by omega
          have z2 : 0 + l + l2 ≤ 100000 := by omega
          clear g0 g1 g2 g3
          go_wp2_with (first
            | (at_builtin; have hw9 := hown3; refine append_fix rfl _ _ rfl w3.heap.size (.slice none 0 0) _ 0 l f f rfl (OwnF.nil _ _ f) rfl (HX.out.1.later (hb2.trans hb3)) z1 (Nat.le_refl _) ?_; intro v4 w4 hown4 hb4)
            | (at_builtin; have hw3 := hown2; refine append_fix rfl _ _ rfl w1.heap.size _ _ (0 + l) l2 (cat9 0 f f) f2 rfl hw3 rfl (HX.out.2.1.later hb2) z2 hb2.size ?_; intro v3 w3 hown3 hb3)
            | (at_builtin; refine append_fix rfl _ _ rfl w1.heap.size (.slice none 0 0) _ 0 l f f rfl (OwnF.nil _ _ f) rfl HX.out.1 z1 (Nat.le_refl _) ?_; intro v2 w2 hown2 hb2))
          have hB3 : Below w1.heap.size w1 w3 := hb2.trans hb3
          have HX3 : Hid (Fxs w3 (.slice a l cap) l f ∧ Fxs w3 (.slice a' l2 cap') l2 f2 ∧ Fxs w3 v3 (l + l2) (cat9 l f f2)) := ⟨HX.out.1.later hB3, HX.out.2.1.later hB3, hown3.two⟩
          have HB3 : Hid (Below w.heap.size w w3) := hb1.trans (hB3.mono hb1.size)
          have hO4 : OwnF w4 w3.heap.size v4 l f := hown4.same
          clear hw9 hw3 hown2 hown3 hown4 hB3 hb2 hb3 hb1 HX
          have u1 := allS_bd l f n
          have u2 := allS_bd l2 f2 n
          have e1 : ∀ x, allV9 l f x = allS l f x := fun x => all9_in (by omega)
          have e2 : ∀ x, allV9 l2 f2 x = allS l2 f2 x := fun x => all9_in (by omega)
          have e3 : allV9 (l + l2) (cat9 l f f2) n = allS l f n + allS l2 f2 n := by rw [all9_in (by omega)]; exact all_cat f f2 n
          have e4 : allV9 l (fun i => (f i).full) n = allS l (fun i => (f i).full) n := all9_in (by omega)
          have u3 : allS l f n ≤ allS l (fun i => (f i).full) n := sm_le fun i _ => of_full n0 n1
          obtain ⟨A, hA⟩ : ∃ y, allS l f n = y := ⟨_, rfl⟩
          obtain ⟨B, hB⟩ : ∃ y, allS l2 f2 n = y := ⟨_, rfl⟩
          obtain ⟨C, hC⟩ : ∃ y, allS l (fun i => (f i).full) n = y := ⟨_, rfl⟩
          rw [hA] at u1 u3 e3
          rw [hB] at u2 e3
          rw [hC] at u3 e4
          have HV : Hid (allV9 l f n = A ∧ allV9 l2 f2 n = B ∧ allV9 (l + l2) (cat9 l f f2) n = A + B ∧ allV9 l (fun i => (f i).full) n = C) := ⟨(e1 n).trans hA, (e2 n).trans hB, e3, e4⟩
          have v1 : IntKind.i64.wrap (A + B) = A + B := by rw [IntKind.wrap_i64]; omega
          clear e1 e2 e3 e4 hA hB hC u1 u2
          rcases hO4.open with ⟨rfl, rfl⟩ | ⟨g, cp, rfl, hg, hc1, hc2⟩
          · go_wp2_with fail
            go_loopw [10] (fun s wr => s = .int .i64 0 ∧ wr = w4) (fun _ _ => 0)
            case atStart => exact ⟨rfl, rfl⟩
            case round =>
              obtain ⟨rfl, hwr⟩ := hrel
              obtain rfl := hwr.symm
              have HF : Hid (Fxs w4 (.slice none 0 0) 0 (fun i => (f i).full)) := hO4.fxs.congr fun i hi => by omega
              have hB4 : Below w.heap.size w w4 := HB3.out.trans (hb4.mono HB3.out.size)
              have hc4 : Below w3.heap.size w3 w4 := hb4
              clear hb4
              have hd4 : Below w4.heap.size w4 w4 := Below.refl _ _
              go_wp2_with fail
              refine (all9_any _ _ n _ _ (HX3.out.2.2.later hc4)).mono ?_
              rintro r w14 ⟨rfl, hb14⟩
              rw [HV.out.2.2.1]
              have hc5 := hc4.trans (hb14.mono hc4.size)
              have hd5 := hd4.trans (hb14.mono hd4.size)
              have hB5 := hB4.trans (hb14.mono hB4.size)
              clear hc4 hd4 hB4 hb14
              go_wp2_with fail
              refine (all9_any _ _ n _ _ (HX3.out.1.later hc5)).mono ?_
              rintro r w15 ⟨rfl, hb15⟩
              rw [HV.out.1]
              have hc6 := hc5.trans (hb15.mono hc5.size)
              have hd6 := hd5.trans (hb15.mono hd5.size)
              have hB6 := hB5.trans (hb15.mono hB5.size)
              clear hc5 hd5 hB5 hb15
              go_wp2_with fail
              refine (all9_any _ _ n _ _ (HX3.out.2.1.later hc6)).mono ?_
              rintro r w16 ⟨rfl, hb16⟩
              rw [HV.out.2.1]
              have hc7 := hc6.trans (hb16.mono hc6.size)
              have hd7 := hd6.trans (hb16.mono hd6.size)
              have hB7 := hB6.trans (hb16.mono hB6.size)
              clear hc6 hd6 hB6 hb16
              go_wp2_with fail
              refine (all9_any _ _ n _ _ (HF.out.later hd7)).mono ?_
              rintro r w17 ⟨rfl, hb17⟩
              rw [HV.out.2.2.2]
              have hc8 := hc7.trans (hb17.mono hc7.size)
              have hd8 := hd7.trans (hb17.mono hd7.size)
              have hB8 := hB7.trans (hb17.mono hB7.size)
              clear hc7 hd7 hB7 hb17
              go_wp2_with fail
              refine (all9_any _ _ n _ _ (HX3.out.1.later hc8)).mono ?_
              rintro r w18 ⟨rfl, hb18⟩
              rw [HV.out.1]
              have hc9 := hc8.trans (hb18.mono hc8.size)
              have hd9 := hd8.trans (hb18.mono hd8.size)
              have hB9 := hB8.trans (hb18.mono hB8.size)
              clear hc8 hd8 hB8 hb18
              go_wp2_with fail
              go_ret
              exact ⟨by first | rfl | exact ret_b (by simp) | exact ret_b (decide_eq_true (by omega)) | exact ret_b (by simp; omega), hB9⟩
          · go_wp2_with fail
            go_loopw [10] (fun s wr => ∃ j : Nat, j ≤ l ∧ s = .int .i64 j ∧ OwnF wr w3.heap.size (.slice (some ⟨g, 0, none⟩) l cp) l (fuF f j) ∧ Below w3.heap.size w3 wr) (fun s _ => ((l : Int) - intOf s).toNat)
            case atStart => exact ⟨0, by omega, rfl, hO4, hb4⟩
            case round =>
              clear hO4 hb4
              obtain ⟨j, hj, rfl, hO, hbw⟩ := hrel
              by_cases hlt : (j : Int) < l
              · have hfj : fuF f j j = f j := if_neg (by omega)
                obtain ⟨k4, _⟩ := hO.cell (i := j) (j := 4) (by omega) (by omega)
                obtain ⟨k3, z3⟩ := hO.cell (i := j) (j := 3) (by omega) (by omega)
                rw [hfj] at k4 k3
                have hset := hO.set (f' := fuF f (j + 1)) (i := j) (j := 3) (x := (f j).k) (by omega) (fun b _ hb => fuF_other hb) (fun b hb hne => by rw [hfj, fuF_self]; exact full_at _ hb hne) (by rw [fuF_self]; rfl)
                have hbs := hbw.setCell (p := ⟨g, j * 7 + 3, none⟩) hg (.int .i64 (f j).k)
                simp only [Fx.at] at k4 k3
                generalize (f j).k = kj at *
                generalize (f j).m = mj at *
                clear hO hfj
                go_wp2_with fail
                go_roundw
                case rel => exact ⟨j + 1, by omega, by go_num, hset, hbs⟩
                case measure => simp [intOf]; omega
              · obtain rfl : j = l := by omega
                have HF : Hid (Fxs wr (.slice (some ⟨g, 0, none⟩) j cp) j (fun i => (f i).full)) := hO.fxs.congr fun i hi => if_pos hi
                have hb4 := hbw
                have hB4 : Below w.heap.size w wr := HB3.out.trans (hb4.mono HB3.out.size)
                have hc4 : Below w3.heap.size w3 wr := hb4
                clear hb4
                have hd4 : Below wr.heap.size wr wr := Below.refl _ _
                go_wp2_with fail
                refine (all9_any _ _ n _ _ (HX3.out.2.2.later hc4)).mono ?_
                rintro r w14 ⟨rfl, hb14⟩
                rw [HV.out.2.2.1]
                have hc5 := hc4.trans (hb14.mono hc4.size)
                have hd5 := hd4.trans (hb14.mono hd4.size)
                have hB5 := hB4.trans (hb14.mono hB4.size)
                clear hc4 hd4 hB4 hb14
                go_wp2_with fail
                refine (all9_any _ _ n _ _ (HX3.out.1.later hc5)).mono ?_
                rintro r w15 ⟨rfl, hb15⟩
                rw [HV.out.1]
                have hc6 := hc5.trans (hb15.mono hc5.size)
                have hd6 := hd5.trans (hb15.mono hd5.size)
                have hB6 := hB5.trans (hb15.mono hB5.size)
                clear hc5 hd5 hB5 hb15
                go_wp2_with fail
                refine (all9_any _ _ n _ _ (HX3.out.2.1.later hc6)).mono ?_
                rintro r w16 ⟨rfl, hb16⟩
                rw [HV.out.2.1]
                have hc7 := hc6.trans (hb16.mono hc6.size)
                have hd7 := hd6.trans (hb16.mono hd6.size)
                have hB7 := hB6.trans (hb16.mono hB6.size)
                clear hc6 hd6 hB6 hb16
                go_wp2_with fail
                refine (all9_any _ _ n _ _ (HF.out.later hd7)).mono ?_
                rintro r w17 ⟨rfl, hb17⟩
                rw [HV.out.2.2.2]
                have hc8 := hc7.trans (hb17.mono hc7.size)
                have hd8 := hd7.trans (hb17.mono hd7.size)
                have hB8 := hB7.trans (hb17.mono hB7.size)
                clear hc7 hd7 hB7 hb17
                go_wp2_with fail
                refine (all9_any _ _ n _ _ (HX3.out.1.later hc8)).mono ?_
                rintro r w18 ⟨rfl, hb18⟩
                rw [HV.out.1]
                have hc9 := hc8.trans (hb18.mono hc8.size)
                have hd9 := hd8.trans (hb18.mono hd8.size)
                have hB9 := hB8.trans (hb18.mono hB8.size)
                clear hc8 hd8 hB8 hb18
                go_wp2_with fail
                go_ret
                exact ⟨by first | rfl | exact ret_b (by simp) | exact ret_b (decide_eq_true (by omega)) | exact ret_b (by simp; omega), hB9⟩
end Go.Proofs.YteibaiflljcghaaDoor
