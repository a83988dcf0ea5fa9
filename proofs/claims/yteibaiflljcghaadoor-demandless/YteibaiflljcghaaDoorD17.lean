import Derived.Test.YteibaiflljcghaaDoorD16
import Derived.Deep.RegionWith
/- What the statement DemandLess comes to. -/
namespace Go.Proofs.YteibaiflljcghaaDoor
open Go.RowKit Go.Shelf

theorem Fxs.front {w : World} {b o n cap t : Nat} {f : Nat → Fx} (h : Fxs w (.slice (some ⟨b, o, none⟩) n cap) n f) (ht : t ≤ n) : Fxs w (.slice (some ⟨b, o, none⟩) t cap) t f := by
  obtain ⟨a, cap', e, h1, h2, h0, h3⟩ := h
  simp only [Value.slice.injEq, true_and] at e
  obtain ⟨rfl, rfl⟩ := e
  refine ⟨_, _, rfl, by omega, h2, h0, fun hx => ?_⟩
  obtain ⟨b', o', e', h4⟩ := h3 (by omega)
  exact ⟨b', o', e', fun i hi j hj => h4 i (by omega) j hj⟩
theorem Fxs.tail {w : World} {b o n cap t : Nat} {f : Nat → Fx} (h : Fxs w (.slice (some ⟨b, o, none⟩) n cap) n f) (ht : t ≤ n) : Fxs w (.slice (some ⟨b, o + t * 7, none⟩) (n - t) (cap - t)) (n - t) (fun i => f (t + i)) := by
  obtain ⟨a, cap', e, h1, h2, h0, h3⟩ := h
  simp only [Value.slice.injEq, true_and] at e
  obtain ⟨rfl, rfl⟩ := e
  refine ⟨_, _, rfl, by omega, by omega, fun h => by simp at h, fun hx => ?_⟩
  obtain ⟨b', o', e', h4⟩ := h3 (by omega)
  simp only [Option.some.injEq, Addr.mk.injEq, and_true] at e'
  obtain ⟨rfl, rfl⟩ := e'
  refine ⟨b, o + t * 7, rfl, fun i hi j hj => ?_⟩
  have := h4 (t + i) (by omega) j hj
  rwa [show o + (t + i) * 7 + j = o + t * 7 + i * 7 + j by omega] at this
theorem Fxs.zero {w : World} {ad : Addr} {m n cap : Nat} {f : Nat → Fx} (hm : m = 0) (hn : n = 0) (hc : cap ≤ maxLen) : Fxs w (.slice (some ad) m cap) n f := by
  subst hm hn
  exact ⟨_, _, rfl, Nat.zero_le _, hc, fun h => by simp at h, fun h => by omega⟩
/-- All but one. -/
def lessF {α : Type} (f : Nat → α) (t i : Nat) : α := if i < t then f i else f (i + 1)
theorem cat_less (f : Nat → Fx) (t i : Nat) : cat9 t f (fun i => f (t + 1 + i)) i = lessF f t i := by
  unfold cat9 lessF
  by_cases c : i < t
  · rw [if_pos c, if_pos c]
  · rw [if_neg c, if_neg c]
    show f (t + 1 + (i - t)) = _
    rw [show t + 1 + (i - t) = i + 1 by omega]
theorem sm_less {l : Nat} (g : Nat → Int) {t : Nat} (ht : t < l + 1) : sm (l + 1) g = sm l (lessF g t) + g t := by
  induction l with
  | zero =>
    obtain rfl : t = 0 := by omega
    rfl
  | succ l ih =>
    by_cases c : t = l + 1
    · subst c
      show sm (l + 1) g + g (l + 1) = _
      rw [sm_congr (f := g) (g := lessF g (l + 1)) fun i hi => (if_pos hi).symm]
    · show sm (l + 1) g + g (l + 1) = sm l (lessF g t) + lessF g t l + g t
      rw [ih (by omega), show lessF g t l = g (l + 1) from if_neg (by omega)]
      omega
theorem sm_lessf {α : Type} {l : Nat} (f : Nat → α) (g : α → Int) {t : Nat} (ht : t < l + 1) : sm (l + 1) (fun i => g (f i)) = sm l (fun i => g (lessF f t i)) + g (f t) := by
  rw [sm_less (fun i => g (f i)) ht]
  congr 1
  refine sm_congr fun i _ => ?_
  unfold lessF
  by_cases c : i < t
  · rw [if_pos c, if_pos c]
  · rw [if_neg c, if_neg c]
theorem less_kn {l : Nat} {f : Nat → Fx} {t : Nat} (h : knAll (l + 1) f = true) (i : Nat) (hi : i < l) : knB (lessF f t i) = true := by
  unfold lessF
  by_cases c : i < t
  · rw [if_pos c]; exact knAll_of h (by omega)
  · rw [if_neg c]; exact knAll_of h (by omega)
/-- What passes passes with one task less. -/
theorem tst_less {l : Nat} {f : Nat → Fx} {t : Nat} (h : tst9 (l + 1) f = true) (ht : t < l + 1) : tst9 l (lessF f t) = true := by
  obtain ⟨hm, ha⟩ := tst_iff.1 h
  obtain ⟨l4, hk, hu⟩ := may9_facts hm
  refine tst_iff.2 ⟨may9_yes (by omega) (knAll_yes fun i hi => less_kn hk i hi) ?_, fun n n0 n1 => ?_⟩
  · have e : sm (l + 1) (uns f) = sm l (uns (lessF f t)) + uns f t := sm_lessf f (fun x => atV x.sp x.p) ht
    have := (un_bd (knAll_of hk ht)).1
    unfold uns at e hu ⊢
    omega
  · have e : allS (l + 1) f n = allS l (lessF f t) n + ofV9 (f t) n := sm_lessf f (fun x => ofV9 x n) ht
    have := ha n n0 n1
    have := (of_bd (f t) n).1
    omega
/-- One at another period. -/
def longF (f : Nat → Fx) (t : Nat) (p : Int) (i : Nat) : Fx := if i = t then (f t).per p else f i
/-- What passes passes with a longer period of one. -/
theorem tst_long {l : Nat} {f : Nat → Fx} {t : Nat} {p : Int} (h : tst9 l f = true) (ht : t < l) (h0 : (f t).p ≤ p) (h1 : p ≤ (f t).x) : tst9 l (longF f t p) = true := by
  obtain ⟨hm, ha⟩ := tst_iff.1 h
  obtain ⟨l4, hk, hu⟩ := may9_facts hm
  refine tst_iff.2 ⟨may9_yes l4 (knAll_yes fun i hi => ?_) (Int.le_trans (sm_le fun i hi => ?_) hu), fun n n0 n1 => Int.le_trans (sm_le fun i hi => ?_) (ha n n0 n1)⟩
  · unfold longF
    by_cases c : i = t
    · rw [if_pos c]; exact kn_per (knAll_of hk ht) h0 h1
    · rw [if_neg c]; exact knAll_of hk hi
  · unfold uns longF
    by_cases c : i = t
    · rw [if_pos c]; subst c; exact un_per (knAll_of hk ht) h0 h1
    · rw [if_neg c]; exact Int.le_refl _
  · unfold longF
    by_cases c : i = t
    · rw [if_pos c]; subst c; exact of_per (knAll_of hk ht) h0 h1 n0 n1
    · rw [if_neg c]; exact Int.le_refl _
theorem less_fxs {w : World} {B l t : Nat} {v : Value} {f : Nat → Fx} (h : OwnF w B v (0 + t + (l - (t + 1))) (cat9 (0 + t) (cat9 0 f f) (fun i => f (t + 1 + i)))) (ht : t < l) : Fxs w v (l - 1) (lessF f t) := by
  have hg := h.two
  rw [show t + (l - (t + 1)) = l - 1 by omega] at hg
  exact hg.congr fun i _ => cat_less f t i
theorem own_some {w : World} {B l : Nat} {v : Value} {f : Nat → Fx} (h : OwnF w B v (0 + l) (cat9 0 f f)) (hl : 0 < l) : ∃ g cap, v = .slice (some ⟨g, 0, none⟩) l cap ∧ OwnF w B (.slice (some ⟨g, 0, none⟩) l cap) l f ∧ B ≤ g ∧ l ≤ cap ∧ cap ≤ maxLen := by
  have h' := h.same
  rcases h'.open with ⟨_, e⟩ | ⟨g, cap, rfl, h1, h2, h3⟩
  · omega
  · exact ⟨g, cap, rfl, h', h1, h2, h3⟩
theorem longF_other {f : Nat → Fx} {t i : Nat} {p : Int} (h : i ≠ t) : longF f t p i = f i := if_neg h
theorem longF_self (f : Nat → Fx) (t : Nat) (p : Int) : longF f t p t = (f t).per p := if_pos rfl
theorem fxper_at (f : Fx) (p : Int) {b : Nat} (hb : b < 7) (hne : b ≠ 6) : (f.per p).at b = f.at b := by
  rcases (show b = 0 ∨ b = 1 ∨ b = 2 ∨ b = 3 ∨ b = 4 ∨ b = 5 by omega) with rfl | rfl | rfl | rfl | rfl | rfl <;> rfl
/-- An operation that its guard passes over: taken first, it leaves all as it is. -/
theorem held_skip {P : Program} {md : Region.Mode} {ops : Array Oper} {Q : Exit → Act → World → Prop} {S : World → Prop} {i : Nat} {oi : Oper} {fuel : Nat} {listed : Array Bool} {a : Act} {w : World} (hi : ops[i]? = some oi)
    (hs : Region.noSelect ops = true) (hf : Region.free md ops listed i = true) (hr : (Region.ready md ops listed).contains i = true)
    (hQ : ∀ c a w, Q (.panic c) (a.put oi.dst undef) w → Q (.panic c) a w) (hw : Region.wanted oi (yielded ops a.tmps) = false) (hp : a.put oi.dst undef = a) (hS : S w)
    (h : wpAnyH P md ops Q S fuel (listed.setIfInBounds i true) a w) : wpAnyH P md ops Q S (fuel + 1) listed a w :=
  wpAnyH_take hi hs hf hr hQ (Or.inr ⟨hw, rfl⟩) hS (by rw [hp]; exact h)

set_option maxHeartbeats 2000000 in
set_option maxRecDepth 100000 in
theorem law_dless (l : Nat) (f : Nat → Fx) (i more : Int) (v : Value) (w : World) (h : Fxs w v l f) (hL : Lim w) :
    Calls Tryd.prog 8 #[v, .int .i64 i, .int .i64 more] w fun r w' => r = .returned (.bool true) ∧ Below w.heap.size w w' := by
  have HX0 : Hid (Fxs w v l f ∧ Lim w) := ⟨h, hL⟩
  obtain ⟨a, cap, rfl, _, _, _, _⟩ := h
  clear hL
  go_enter Tryd.func8, Tryd.ntmps8
  go_wp2_with fail
  refine (awake9_any _ HX0.out.2).mono ?_
  rintro r w1 ⟨rfl, hb1⟩
  have HX1 : Hid (Fxs w1 (.slice a l cap) l f ∧ Lim w1) := ⟨HX0.out.1.later hb1, HX0.out.2.later hb1⟩
  clear HX0
  by_cases g0 : i < 0
  · go_wp2_with fail
    go_ret
    exact ⟨by first | rfl | exact ret_b (by simp) | exact ret_b (decide_eq_true (by omega)) | exact ret_b (by simp; omega), hb1⟩
  · have o0 := g0
    by_cases g1 : i ≥ l
    · go_wp2_with fail
      go_ret
      exact ⟨by first | rfl | exact ret_b (by simp) | exact ret_b (decide_eq_true (by omega)) | exact ret_b (by simp; omega), hb1⟩
    · have o1 := g1
      by_cases g2 : more < 0
      · go_wp2_with fail
        go_ret
        exact ⟨by first | rfl | exact ret_b (by simp) | exact ret_b (decide_eq_true (by omega)) | exact ret_b (by simp; omega), hb1⟩
      · have o2 := g2
        by_cases g3 : more > 48
        · go_wp2_with fail
          go_ret
          exact ⟨by first | rfl | exact ret_b (by simp) | exact ret_b (decide_eq_true (by omega)) | exact ret_b (by simp; omega), hb1⟩
        · have o3 := g3
          clear o0 o1 o2 o3
          have m0 : 0 ≤ more := by omega
          have m1 : more ≤ 48 := by omega
          have i0 : 0 ≤ i := by omega
          have i1 : i < l := by omega
          obtain ⟨t, rfl⟩ := Int.eq_ofNat_of_zero_le i0
          clear g0 g1 g2 g3
          go_wp2_with fail
          refine (test9_any l f _ _ HX1.out.1 HX1.out.2).mono ?_
          rintro r w2 ⟨rfl, hb2⟩
          have HX : Hid (Fxs w2 (.slice a l cap) l f ∧ Lim w2) := ⟨HX1.out.1.later hb2, HX1.out.2.later hb2⟩
          replace hb2 := hb1.trans (hb2.mono hb1.size)
          clear hb1 HX1
          cases hT : tst9 l f with
          | false =>
            go_wp2_with fail
            go_ret
            exact ⟨by first | rfl | exact ret_b (by simp) | exact ret_b (decide_eq_true (by omega)) | exact ret_b (by simp; omega), hb2⟩
          | true =>
            have HL : Hid (tst9 (l - 1) (lessF f t) = true) := by
              obtain ⟨L, rfl⟩ : ∃ L, l = L + 1 := ⟨l - 1, by omega⟩
              exact tst_less hT (by omega)
            have hl4 : l ≤ 4 := (may9_facts (tst_iff.1 hT).1).1
            have hkn := kn_facts (knAll_of (may9_facts (tst_iff.1 hT).1).2.1 (i := t) (by omega))
            have HLong : Hid (∀ p, (f t).p ≤ p → p ≤ (f t).x → tst9 (l) (longF f t p) = true) := fun p => tst_long hT (by omega)
            obtain ⟨a1, cap1, he, c1, c2, _, c3⟩ := HX.out.1
            simp only [Value.slice.injEq, true_and] at he
            obtain ⟨rfl, rfl⟩ := he
            obtain ⟨b, o, rfl, h4⟩ := c3 (by omega)
            have hrow := row_open (h4 t (by omega))
            obtain ⟨_, _, k2, _, _, _, k6⟩ := hrow
            obtain ⟨p, hp⟩ : ∃ p, (f t).p = p := ⟨_, rfl⟩
            obtain ⟨x, hx⟩ : ∃ x, (f t).x = x := ⟨_, rfl⟩
            rw [hp] at k6 hkn HLong
            rw [hx] at k2 hkn HLong
            obtain ⟨_, _, _, _, _, p1, x1, _⟩ := hkn
            have p0 : 1 ≤ p := by omega
            clear h4 c3 hT
            have q1 : (0 : Int) ≤ (t : Int) := by omega
            have q2 : (t : Int) ≤ cap := by omega
            have q3 : (0 : Int) ≤ (t : Int) + 1 := by omega
            have q4 : (t : Int) + 1 ≤ (l : Int) := by omega
            have q5 : (t : Int) ≤ (l : Int) := by omega
            have q7 : IntKind.i64.wrap ((t : Int) + 1) = (t : Int) + 1 := by rw [IntKind.wrap_i64]; omega
            have ht : t ≤ l := by omega
            have ht1 : t + 1 ≤ l := by omega
            have z1 : 0 + t ≤ 100000 := by omega
            have z2 : 0 + t + (l - (t + 1)) ≤ 100000 := by omega
            rcases (show t + 1 < cap ∨ t + 1 = cap by omega) with hc | hc
            · have hc' : (t : Int) + 1 < cap := by omega
              have hcn : cap ≠ t + 1 := by omega
              have hs2 := hb2.size
              go_wp2_with fail
              go_region_held3 (fun _ => True) (exact trivial) (first
                | (have hw3 := hown3; refine step_append_fix (by rfl) _ _ (by rfl) w2.heap.size v3 _ (0 + t) (l - (t + 1)) (cat9 0 f f) (fun i => f (t + 1 + i)) (by rfl) hw3 (by rfl) ((HX.out.1.later ((Below.refl _ _).drew.trans hb3)).tail ht1) z2 hb3.size ?_; intro v4 w4 hown4 hb4)
                | (refine step_append_fix (by rfl) _ _ (by rfl) w2.heap.size (.slice none 0 0) _ 0 t f f (by rfl) (OwnF.nil _ _ f) (by rfl) ((HX.out.1.later (Below.refl _ _).drew).front ht) z1 (Nat.le_refl _) ?_; intro v3 w3 hown3 hb3))
              all_goals
                have hB4 : Below w2.heap.size w2 w4 := (Below.refl _ _).drew.trans (hb3.trans hb4)
                have HLs : Hid (Fxs w4 v4 (l - 1) (lessF f t)) := less_fxs hown4 (by omega)
                have HX4 : Hid (Fxs w4 (.slice (some ⟨b, o, none⟩) l cap) l f ∧ Lim w4) := ⟨HX.out.1.later hB4, HX.out.2.later hB4⟩
                have k2a := cell_later hB4 k2
                have k6a := cell_later hB4 k6
                have sb := World.block_lt_of_cell? _ _ k6a
                have HB4 : Hid (Below w.heap.size w w4) := hb2.trans (hB4.mono hb2.size)
                clear hown4 hown3 hw3 hb3 hb4 hB4 HX k2 k6 hb2
                have hl0 : 0 < l := by omega
                have htl0 : t < l := by omega
                have z5 : 0 + l ≤ 100000 := by omega
                have hw1 : IntKind.i64.wrap (p + more) = p + more := by rw [IntKind.wrap_i64]; omega
                go_wp2_with (first
                  | (at_builtin; refine append_fix rfl _ _ rfl w4.heap.size (.slice none 0 0) _ 0 l f f rfl (OwnF.nil _ _ f) rfl HX4.out.1 z5 (Nat.le_refl _) ?_; intro v5 w5 hown5 hb5; obtain ⟨g, cp, rfl, hO5, hg, hcp1, hcp2⟩ := own_some hown5 hl0; obtain ⟨j6, y6⟩ := hO5.cell (i := t) (j := 6) htl0 (by omega); rw [show (f t).at 6 = p from hp] at j6; have k6b := cell_later hb5 k6a; have k2b := cell_later hb5 k2a))
                have hO6 : OwnF (w5.setCell ⟨g, t * 7 + 6, none⟩ (.int .i64 (p + more))) w4.heap.size (.slice (some ⟨g, 0, none⟩) l cp) l (longF f t (p + more)) := hO5.set (i := t) (j := 6) (by omega) (fun b' _ hb' => longF_other hb') (fun b' hb' hne => by rw [longF_self]; exact fxper_at _ _ hb' hne) (by rw [longF_self]; rfl)
                have hb6 : Below w4.heap.size w4 (w5.setCell ⟨g, t * 7 + 6, none⟩ (.int .i64 (p + more))) := hb5.setCell (p := ⟨g, t * 7 + 6, none⟩) hg _
                have k2c := cell_later hb6 k2a
                obtain ⟨j6c, _⟩ := hO6.cell (i := t) (j := 6) htl0 (by omega)
                rw [longF_self, show ((f t).per (p + more)).at 6 = p + more from rfl] at j6c
                have HX6 : Hid (Fxs (w5.setCell ⟨g, t * 7 + 6, none⟩ (.int .i64 (p + more))) v4 (l - 1) (lessF f t) ∧ Fxs (w5.setCell ⟨g, t * 7 + 6, none⟩ (.int .i64 (p + more))) (.slice (some ⟨g, 0, none⟩) l cp) l (longF f t (p + more)) ∧ Lim (w5.setCell ⟨g, t * 7 + 6, none⟩ (.int .i64 (p + more)))) := ⟨HLs.out.later hb6, hO6.fxs, HX4.out.2.later hb6⟩
                have hB6 : Below w.heap.size w (w5.setCell ⟨g, t * 7 + 6, none⟩ (.int .i64 (p + more))) := HB4.out.trans (hb6.mono HB4.out.size)
                clear hO5 hO6 hown5 hb5 hb6 j6 y6 k6b k2b k6a k2a HLs HX4 HB4
                generalize (w5.setCell ⟨g, t * 7 + 6, none⟩ (.int .i64 (p + more))) = W6 at *
                have MK : Hid (∀ w' : World, Below W6.heap.size W6 w' → (w'.cell? ⟨g, t * 7 + 6, none⟩ = some (.int .i64 (p + more)) ∧ w'.cell? ⟨b, o + t * 7 + 2, none⟩ = some (.int .i64 x)) ∧ Below W6.heap.size W6 w') := fun w' hb => ⟨⟨cell_later hb j6c, cell_later hb k2c⟩, hb⟩
                have f1 : (t : Int) < l := by omega
                have f2 : (0 : Int) ≤ t := by omega
                by_cases hpx : p + more > x
                · have hd : decide (x < p + more) = true := decide_eq_true hpx
                  refine wp_region_held_drew (S := (fun w' : World => (w'.cell? ⟨g, t * 7 + 6, none⟩ = some (.int .i64 (p + more)) ∧ w'.cell? ⟨b, o + t * 7 + 2, none⟩ = some (.int .i64 x)) ∧ Below W6.heap.size W6 w')) (by kernel_rfl) ?_ (fun hHeld => ?_)
                  · exact MK.out _ (Below.refl _ _).drew
                  refine wpAnyH_take (i := 0) (oi := { dst := some 59, op := Op.move (Operand.tmp 8), type := 22, pos := _, after := _, guard := none }) (v := ?_) rfl (by kernel_rfl) (by kernel_rfl) (by kernel_rfl) (fun _ _ _ h => h) (Or.inl ⟨by rfl, ?_⟩) (by assumption) ?_
                  rotate_left
                  · intro wS hSw
                    (try dsimp only at hSw)
                    go_simp
                    first | done | with_reducible rfl
                  try simp only [Act.put, List.setIfInBounds_toArray, List.set_cons_zero, List.set_cons_succ]
                  refine wpAnyH_ready (rs := [1]) (by kernel_rfl) (by simp) ?_
                  refine AllReadyH.cons (o := { dst := some 60, op := Op.call { callee := Callee.value (Operand.func 21), args := #[Operand.tmp 59], argTypes := #[22] }, type := 4, pos := _, after := _, guard := none }) rfl (fun K hK => ?_) AllReadyH.nil
                  go_simp
                  refine (test9_any (l - 1) (lessF f t) _ _ (HX6.out.1.later (sBel (by assumption))) (HX6.out.2.2.later (sBel (by assumption)))).mono ?_
                  rintro r w8 ⟨rfl, hb8⟩
                  rw [HL.out]
                  go_wp2_with fail
                  refine hK.out _ _ ?_ (fun hHeld => ?_)
                  · exact MK.out _ (bstep (by assumption) (sBel (by assumption)))
                  clear hK K
                  try simp only [Act.put, List.setIfInBounds_toArray, List.set_cons_zero, List.set_cons_succ]
                  refine wpAnyH_take (i := 2) (oi := { dst := some 61, op := Op.move (Operand.tmp 60), type := 4, pos := _, after := _, guard := none }) (v := ?_) rfl (by kernel_rfl) (by kernel_rfl) (by kernel_rfl) (fun _ _ _ h => h) (Or.inl ⟨by rfl, ?_⟩) (by assumption) ?_
                  rotate_left
                  · intro wS hSw
                    (try dsimp only at hSw)
                    go_simp
                    first | done | with_reducible rfl
                  try simp only [Act.put, List.setIfInBounds_toArray, List.set_cons_zero, List.set_cons_succ]
                  refine wpAnyH_take (i := 3) (oi := { dst := some 62, op := Op.move (Operand.tmp 9), type := 22, pos := _, after := _, guard := some (2, true) }) (v := ?_) rfl (by kernel_rfl) (by kernel_rfl) (by kernel_rfl) (fun _ _ _ h => h) (Or.inl ⟨by rfl, ?_⟩) (by assumption) ?_
                  rotate_left
                  · intro wS hSw
                    (try dsimp only at hSw)
                    go_simp
                    first | done | with_reducible rfl
                  try simp only [Act.put, List.setIfInBounds_toArray, List.set_cons_zero, List.set_cons_succ]
                  refine wpAnyH_take (i := 4) (oi := { dst := some 63, op := Op.move (Operand.tmp 1), type := 3, pos := _, after := _, guard := some (2, true) }) (v := ?_) rfl (by kernel_rfl) (by kernel_rfl) (by kernel_rfl) (fun _ _ _ h => h) (Or.inl ⟨by rfl, ?_⟩) (by assumption) ?_
                  rotate_left
                  · intro wS hSw
                    (try dsimp only at hSw)
                    go_simp
                    first | done | with_reducible rfl
                  try simp only [Act.put, List.setIfInBounds_toArray, List.set_cons_zero, List.set_cons_succ]
                  refine wpAnyH_take (i := 5) (oi := { dst := some 64, op := Op.indexAddr 22 (Operand.tmp 62) (Operand.tmp 63), type := 0, pos := _, after := _, guard := some (2, true) }) (v := ?_) rfl (by kernel_rfl) (by kernel_rfl) (by kernel_rfl) (fun _ _ _ h => h) (Or.inl ⟨by rfl, ?_⟩) (by assumption) ?_
                  rotate_left
                  · intro wS hSw
                    (try dsimp only at hSw)
                    go_simp
                    first | done | with_reducible rfl
                  try simp only [Act.put, List.setIfInBounds_toArray, List.set_cons_zero, List.set_cons_succ]
                  refine wpAnyH_take (i := 6) (oi := { dst := some 65, op := Op.fieldAddr 26 (Operand.tmp 64) 1, type := 0, pos := _, after := _, guard := some (2, true) }) (v := ?_) rfl (by kernel_rfl) (by kernel_rfl) (by kernel_rfl) (fun _ _ _ h => h) (Or.inl ⟨by rfl, ?_⟩) (by assumption) ?_
                  rotate_left
                  · intro wS hSw
                    (try dsimp only at hSw)
                    go_simp
                    first | done | with_reducible rfl
                  try simp only [Act.put, List.setIfInBounds_toArray, List.set_cons_zero, List.set_cons_succ]
                  refine wpAnyH_take (i := 7) (oi := { dst := some 66, op := Op.load 3 (Operand.tmp 65), type := 3, pos := _, after := _, guard := some (2, true) }) (v := ?_) rfl (by kernel_rfl) (by kernel_rfl) (by kernel_rfl) (fun _ _ _ h => h) (Or.inl ⟨by rfl, ?_⟩) (by assumption) ?_
                  rotate_left
                  · intro wS hSw
                    (try dsimp only at hSw)
                    go_simp
                    first | done | with_reducible rfl
                  try simp only [Act.put, List.setIfInBounds_toArray, List.set_cons_zero, List.set_cons_succ]
                  refine wpAnyH_take (i := 8) (oi := { dst := some 67, op := Op.move (Operand.tmp 0), type := 22, pos := _, after := _, guard := some (2, true) }) (v := ?_) rfl (by kernel_rfl) (by kernel_rfl) (by kernel_rfl) (fun _ _ _ h => h) (Or.inl ⟨by rfl, ?_⟩) (by assumption) ?_
                  rotate_left
                  · intro wS hSw
                    (try dsimp only at hSw)
                    go_simp
                    first | done | with_reducible rfl
                  try simp only [Act.put, List.setIfInBounds_toArray, List.set_cons_zero, List.set_cons_succ]
                  refine wpAnyH_take (i := 9) (oi := { dst := some 68, op := Op.move (Operand.tmp 1), type := 3, pos := _, after := _, guard := some (2, true) }) (v := ?_) rfl (by kernel_rfl) (by kernel_rfl) (by kernel_rfl) (fun _ _ _ h => h) (Or.inl ⟨by rfl, ?_⟩) (by assumption) ?_
                  rotate_left
                  · intro wS hSw
                    (try dsimp only at hSw)
                    go_simp
                    first | done | with_reducible rfl
                  try simp only [Act.put, List.setIfInBounds_toArray, List.set_cons_zero, List.set_cons_succ]
                  refine wpAnyH_take (i := 10) (oi := { dst := some 69, op := Op.indexAddr 22 (Operand.tmp 67) (Operand.tmp 68), type := 0, pos := _, after := _, guard := some (2, true) }) (v := ?_) rfl (by kernel_rfl) (by kernel_rfl) (by kernel_rfl) (fun _ _ _ h => h) (Or.inl ⟨by rfl, ?_⟩) (by assumption) ?_
                  rotate_left
                  · intro wS hSw
                    (try dsimp only at hSw)
                    go_simp
                    first | done | with_reducible rfl
                  try simp only [Act.put, List.setIfInBounds_toArray, List.set_cons_zero, List.set_cons_succ]
                  refine wpAnyH_take (i := 11) (oi := { dst := some 70, op := Op.fieldAddr 26 (Operand.tmp 69) 0, type := 0, pos := _, after := _, guard := some (2, true) }) (v := ?_) rfl (by kernel_rfl) (by kernel_rfl) (by kernel_rfl) (fun _ _ _ h => h) (Or.inl ⟨by rfl, ?_⟩) (by assumption) ?_
                  rotate_left
                  · intro wS hSw
                    (try dsimp only at hSw)
                    go_simp
                    first | done | with_reducible rfl
                  try simp only [Act.put, List.setIfInBounds_toArray, List.set_cons_zero, List.set_cons_succ]
                  refine wpAnyH_take (i := 12) (oi := { dst := some 71, op := Op.fieldAddr 24 (Operand.tmp 70) 2, type := 0, pos := _, after := _, guard := some (2, true) }) (v := ?_) rfl (by kernel_rfl) (by kernel_rfl) (by kernel_rfl) (fun _ _ _ h => h) (Or.inl ⟨by rfl, ?_⟩) (by assumption) ?_
                  rotate_left
                  · intro wS hSw
                    (try dsimp only at hSw)
                    go_simp
                    first | done | with_reducible rfl
                  try simp only [Act.put, List.setIfInBounds_toArray, List.set_cons_zero, List.set_cons_succ]
                  refine wpAnyH_take (i := 13) (oi := { dst := some 72, op := Op.load 3 (Operand.tmp 71), type := 3, pos := _, after := _, guard := some (2, true) }) (v := ?_) rfl (by kernel_rfl) (by kernel_rfl) (by kernel_rfl) (fun _ _ _ h => h) (Or.inl ⟨by rfl, ?_⟩) (by assumption) ?_
                  rotate_left
                  · intro wS hSw
                    (try dsimp only at hSw)
                    go_simp
                    first | done | with_reducible rfl
                  try simp only [Act.put, List.setIfInBounds_toArray, List.set_cons_zero, List.set_cons_succ]
                  refine wpAnyH_take (i := 14) (oi := { dst := some 73, op := Op.binOp BinOp.gtr 3 (Operand.tmp 66) (Operand.tmp 72) 3, type := 4, pos := _, after := _, guard := some (2, true) }) (v := ?_) rfl (by kernel_rfl) (by kernel_rfl) (by kernel_rfl) (fun _ _ _ h => h) (Or.inl ⟨by rfl, ?_⟩) (by assumption) ?_
                  rotate_left
                  · intro wS hSw
                    (try dsimp only at hSw)
                    go_simp
                    first | done | with_reducible rfl
                  try simp only [Act.put, List.setIfInBounds_toArray, List.set_cons_zero, List.set_cons_succ]
                  refine wpAnyH_take (i := 15) (oi := { dst := some 74, op := Op.move (Operand.tmp 73), type := 4, pos := _, after := _, guard := some (2, true) }) (v := ?_) rfl (by kernel_rfl) (by kernel_rfl) (by kernel_rfl) (fun _ _ _ h => h) (Or.inl ⟨by rfl, ?_⟩) (by assumption) ?_
                  rotate_left
                  · intro wS hSw
                    (try dsimp only at hSw)
                    go_simp
                    first | done | with_reducible rfl
                  try simp only [Act.put, List.setIfInBounds_toArray, List.set_cons_zero, List.set_cons_succ]
                  refine held_skip (i := 16) (oi := { dst := some 75, op := Op.move (Operand.tmp 9), type := 22, pos := _, after := _, guard := some (15, false) }) rfl (by kernel_rfl) (by kernel_rfl) (by kernel_rfl) (fun _ _ _ h => h) (by rfl) (by rfl) (by assumption) ?_
                  refine held_skip (i := 17) (oi := { dst := some 76, op := Op.call { callee := Callee.value (Operand.func 21), args := #[Operand.tmp 75], argTypes := #[22] }, type := 4, pos := _, after := _, guard := some (15, false) }) rfl (by kernel_rfl) (by kernel_rfl) (by kernel_rfl) (fun _ _ _ h => h) (by rfl) (by rfl) (by assumption) ?_
                  refine wpAnyH_take (i := 18) (oi := { dst := some 77, op := Op.pick (Operand.tmp 74) (Operand.const (Value.bool true)) (Operand.tmp 76), type := 4, pos := _, after := _, guard := some (2, true) }) (v := ?_) rfl (by kernel_rfl) (by kernel_rfl) (by kernel_rfl) (fun _ _ _ h => h) (Or.inl ⟨by rfl, ?_⟩) (by assumption) ?_
                  rotate_left
                  · intro wS hSw
                    (try dsimp only at hSw)
                    go_simp
                    first | done | with_reducible rfl
                  try simp only [Act.put, List.setIfInBounds_toArray, List.set_cons_zero, List.set_cons_succ]
                  refine wpAnyH_take (i := 19) (oi := { dst := some 78, op := Op.pick (Operand.tmp 61) (Operand.tmp 77) (Operand.const (Value.bool false)), type := 4, pos := _, after := _, guard := none }) (v := ?_) rfl (by kernel_rfl) (by kernel_rfl) (by kernel_rfl) (fun _ _ _ h => h) (Or.inl ⟨by rfl, ?_⟩) (by assumption) ?_
                  rotate_left
                  · intro wS hSw
                    (try dsimp only at hSw)
                    go_simp
                    first | done | with_reducible rfl
                  try simp only [Act.put, List.setIfInBounds_toArray, List.set_cons_zero, List.set_cons_succ]
                  refine wpAnyH_take (i := 20) (oi := { dst := some 6, op := Op.assign (Operand.tmp 78), type := 4, pos := _, after := _, guard := none }) (v := ?_) rfl (by kernel_rfl) (by kernel_rfl) (by kernel_rfl) (fun _ _ _ h => h) (Or.inl ⟨by rfl, ?_⟩) (by assumption) ?_
                  rotate_left
                  · intro wS hSw
                    (try dsimp only at hSw)
                    go_simp
                    first | done | with_reducible rfl
                  try simp only [Act.put, List.setIfInBounds_toArray, List.set_cons_zero, List.set_cons_succ]
                  refine wpAnyH_done (by kernel_rfl) ?_ _
                  go_wp2
                  go_ret
                  exact ⟨by first | rfl | exact ret_b (by simp), hB6.trans ((sBel (by assumption)).mono hB6.size)⟩
                · have HLo : Hid (tst9 l (longF f t (p + more)) = true) := HLong.out (p + more) (by omega) (by omega)
                  have hd : decide (x < p + more) = false := decide_eq_false hpx
                  go_region_held3 (fun w' => (w'.cell? ⟨g, t * 7 + 6, none⟩ = some (.int .i64 (p + more)) ∧ w'.cell? ⟨b, o + t * 7 + 2, none⟩ = some (.int .i64 x)) ∧ Below W6.heap.size W6 w')
                    (first | exact MK.out _ (bstep (by assumption) (sBel (by assumption))) | exact MK.out _ (Below.refl _ _).drew)
                    (first
                    | (go_at_call 21; refine (test9_any _ _ _ _ (by first | exact HX6.out.1.later (sBel (by assumption)) | exact HX6.out.2.1.later (sBel (by assumption))) (HX6.out.2.2.later (sBel (by assumption)))).mono ?_; rintro r w8 ⟨rfl, hb8⟩; first | rw [HL.out] | rw [HLo.out]))
                  all_goals
                    go_wp2
                    go_ret
                    exact ⟨by first | rfl | exact ret_b (by simp), hB6.trans ((sBel (by assumption)).mono hB6.size)⟩
            · subst hc
              have q8 : (t : Int) ≤ (t : Int) + 1 := by omega
              have q9 : t ≤ t + 1 := by omega
              have htl : l - (t + 1) = 0 := by omega
              have hs2 := hb2.size
              go_wp2_with fail
              go_region_held3 (fun _ => True) (exact trivial) (first
                | (have hw3 := hown3; refine step_append_fix (by rfl) _ _ (by rfl) w2.heap.size v3 _ (0 + t) (l - (t + 1)) (cat9 0 f f) (fun i => f (t + 1 + i)) (by rfl) hw3 (by rfl) (Fxs.zero (by first | rfl | assumption | omega) htl (Nat.zero_le _)) z2 hb3.size ?_; intro v4 w4 hown4 hb4)
                | (refine step_append_fix (by rfl) _ _ (by rfl) w2.heap.size (.slice none 0 0) _ 0 t f f (by rfl) (OwnF.nil _ _ f) (by rfl) ((HX.out.1.later (Below.refl _ _).drew).front ht) z1 (Nat.le_refl _) ?_; intro v3 w3 hown3 hb3))
              all_goals
                have hB4 : Below w2.heap.size w2 w4 := (Below.refl _ _).drew.trans (hb3.trans hb4)
                have HLs : Hid (Fxs w4 v4 (l - 1) (lessF f t)) := less_fxs hown4 (by omega)
                have HX4 : Hid (Fxs w4 (.slice (some ⟨b, o, none⟩) l (t + 1)) l f ∧ Lim w4) := ⟨HX.out.1.later hB4, HX.out.2.later hB4⟩
                have k2a := cell_later hB4 k2
                have k6a := cell_later hB4 k6
                have sb := World.block_lt_of_cell? _ _ k6a
                have HB4 : Hid (Below w.heap.size w w4) := hb2.trans (hB4.mono hb2.size)
                clear hown4 hown3 hw3 hb3 hb4 hB4 HX k2 k6 hb2
                have hl0 : 0 < l := by omega
                have htl0 : t < l := by omega
                have z5 : 0 + l ≤ 100000 := by omega
                have hw1 : IntKind.i64.wrap (p + more) = p + more := by rw [IntKind.wrap_i64]; omega
                go_wp2_with (first
                  | (at_builtin; refine append_fix rfl _ _ rfl w4.heap.size (.slice none 0 0) _ 0 l f f rfl (OwnF.nil _ _ f) rfl HX4.out.1 z5 (Nat.le_refl _) ?_; intro v5 w5 hown5 hb5; obtain ⟨g, cp, rfl, hO5, hg, hcp1, hcp2⟩ := own_some hown5 hl0; obtain ⟨j6, y6⟩ := hO5.cell (i := t) (j := 6) htl0 (by omega); rw [show (f t).at 6 = p from hp] at j6; have k6b := cell_later hb5 k6a; have k2b := cell_later hb5 k2a))
                have hO6 : OwnF (w5.setCell ⟨g, t * 7 + 6, none⟩ (.int .i64 (p + more))) w4.heap.size (.slice (some ⟨g, 0, none⟩) l cp) l (longF f t (p + more)) := hO5.set (i := t) (j := 6) (by omega) (fun b' _ hb' => longF_other hb') (fun b' hb' hne => by rw [longF_self]; exact fxper_at _ _ hb' hne) (by rw [longF_self]; rfl)
                have hb6 : Below w4.heap.size w4 (w5.setCell ⟨g, t * 7 + 6, none⟩ (.int .i64 (p + more))) := hb5.setCell (p := ⟨g, t * 7 + 6, none⟩) hg _
                have k2c := cell_later hb6 k2a
                obtain ⟨j6c, _⟩ := hO6.cell (i := t) (j := 6) htl0 (by omega)
                rw [longF_self, show ((f t).per (p + more)).at 6 = p + more from rfl] at j6c
                have HX6 : Hid (Fxs (w5.setCell ⟨g, t * 7 + 6, none⟩ (.int .i64 (p + more))) v4 (l - 1) (lessF f t) ∧ Fxs (w5.setCell ⟨g, t * 7 + 6, none⟩ (.int .i64 (p + more))) (.slice (some ⟨g, 0, none⟩) l cp) l (longF f t (p + more)) ∧ Lim (w5.setCell ⟨g, t * 7 + 6, none⟩ (.int .i64 (p + more)))) := ⟨HLs.out.later hb6, hO6.fxs, HX4.out.2.later hb6⟩
                have hB6 : Below w.heap.size w (w5.setCell ⟨g, t * 7 + 6, none⟩ (.int .i64 (p + more))) := HB4.out.trans (hb6.mono HB4.out.size)
                clear hO5 hO6 hown5 hb5 hb6 j6 y6 k6b k2b k6a k2a HLs HX4 HB4
                generalize (w5.setCell ⟨g, t * 7 + 6, none⟩ (.int .i64 (p + more))) = W6 at *
                have MK : Hid (∀ w' : World, Below W6.heap.size W6 w' → (w'.cell? ⟨g, t * 7 + 6, none⟩ = some (.int .i64 (p + more)) ∧ w'.cell? ⟨b, o + t * 7 + 2, none⟩ = some (.int .i64 x)) ∧ Below W6.heap.size W6 w') := fun w' hb => ⟨⟨cell_later hb j6c, cell_later hb k2c⟩, hb⟩
                have f1 : (t : Int) < l := by omega
                have f2 : (0 : Int) ≤ t := by omega
                by_cases hpx : p + more > x
                · have hd : decide (x < p + more) = true := decide_eq_true hpx
                  refine wp_region_held_drew (S := (fun w' : World => (w'.cell? ⟨g, t * 7 + 6, none⟩ = some (.int .i64 (p + more)) ∧ w'.cell? ⟨b, o + t * 7 + 2, none⟩ = some (.int .i64 x)) ∧ Below W6.heap.size W6 w')) (by kernel_rfl) ?_ (fun hHeld => ?_)
                  · exact MK.out _ (Below.refl _ _).drew
                  refine wpAnyH_take (i := 0) (oi := { dst := some 59, op := Op.move (Operand.tmp 8), type := 22, pos := _, after := _, guard := none }) (v := ?_) rfl (by kernel_rfl) (by kernel_rfl) (by kernel_rfl) (fun _ _ _ h => h) (Or.inl ⟨by rfl, ?_⟩) (by assumption) ?_
                  rotate_left
                  · intro wS hSw
                    (try dsimp only at hSw)
                    go_simp
                    first | done | with_reducible rfl
                  try simp only [Act.put, List.setIfInBounds_toArray, List.set_cons_zero, List.set_cons_succ]
                  refine wpAnyH_ready (rs := [1]) (by kernel_rfl) (by simp) ?_
                  refine AllReadyH.cons (o := { dst := some 60, op := Op.call { callee := Callee.value (Operand.func 21), args := #[Operand.tmp 59], argTypes := #[22] }, type := 4, pos := _, after := _, guard := none }) rfl (fun K hK => ?_) AllReadyH.nil
                  go_simp
                  refine (test9_any (l - 1) (lessF f t) _ _ (HX6.out.1.later (sBel (by assumption))) (HX6.out.2.2.later (sBel (by assumption)))).mono ?_
                  rintro r w8 ⟨rfl, hb8⟩
                  rw [HL.out]
                  go_wp2_with fail
                  refine hK.out _ _ ?_ (fun hHeld => ?_)
                  · exact MK.out _ (bstep (by assumption) (sBel (by assumption)))
                  clear hK K
                  try simp only [Act.put, List.setIfInBounds_toArray, List.set_cons_zero, List.set_cons_succ]
                  refine wpAnyH_take (i := 2) (oi := { dst := some 61, op := Op.move (Operand.tmp 60), type := 4, pos := _, after := _, guard := none }) (v := ?_) rfl (by kernel_rfl) (by kernel_rfl) (by kernel_rfl) (fun _ _ _ h => h) (Or.inl ⟨by rfl, ?_⟩) (by assumption) ?_
                  rotate_left
                  · intro wS hSw
                    (try dsimp only at hSw)
                    go_simp
                    first | done | with_reducible rfl
                  try simp only [Act.put, List.setIfInBounds_toArray, List.set_cons_zero, List.set_cons_succ]
                  refine wpAnyH_take (i := 3) (oi := { dst := some 62, op := Op.move (Operand.tmp 9), type := 22, pos := _, after := _, guard := some (2, true) }) (v := ?_) rfl (by kernel_rfl) (by kernel_rfl) (by kernel_rfl) (fun _ _ _ h => h) (Or.inl ⟨by rfl, ?_⟩) (by assumption) ?_
                  rotate_left
                  · intro wS hSw
                    (try dsimp only at hSw)
                    go_simp
                    first | done | with_reducible rfl
                  try simp only [Act.put, List.setIfInBounds_toArray, List.set_cons_zero, List.set_cons_succ]
                  refine wpAnyH_take (i := 4) (oi := { dst := some 63, op := Op.move (Operand.tmp 1), type := 3, pos := _, after := _, guard := some (2, true) }) (v := ?_) rfl (by kernel_rfl) (by kernel_rfl) (by kernel_rfl) (fun _ _ _ h => h) (Or.inl ⟨by rfl, ?_⟩) (by assumption) ?_
                  rotate_left
                  · intro wS hSw
                    (try dsimp only at hSw)
                    go_simp
                    first | done | with_reducible rfl
                  try simp only [Act.put, List.setIfInBounds_toArray, List.set_cons_zero, List.set_cons_succ]
                  refine wpAnyH_take (i := 5) (oi := { dst := some 64, op := Op.indexAddr 22 (Operand.tmp 62) (Operand.tmp 63), type := 0, pos := _, after := _, guard := some (2, true) }) (v := ?_) rfl (by kernel_rfl) (by kernel_rfl) (by kernel_rfl) (fun _ _ _ h => h) (Or.inl ⟨by rfl, ?_⟩) (by assumption) ?_
                  rotate_left
                  · intro wS hSw
                    (try dsimp only at hSw)
                    go_simp
                    first | done | with_reducible rfl
                  try simp only [Act.put, List.setIfInBounds_toArray, List.set_cons_zero, List.set_cons_succ]
                  refine wpAnyH_take (i := 6) (oi := { dst := some 65, op := Op.fieldAddr 26 (Operand.tmp 64) 1, type := 0, pos := _, after := _, guard := some (2, true) }) (v := ?_) rfl (by kernel_rfl) (by kernel_rfl) (by kernel_rfl) (fun _ _ _ h => h) (Or.inl ⟨by rfl, ?_⟩) (by assumption) ?_
                  rotate_left
                  · intro wS hSw
                    (try dsimp only at hSw)
                    go_simp
                    first | done | with_reducible rfl
                  try simp only [Act.put, List.setIfInBounds_toArray, List.set_cons_zero, List.set_cons_succ]
                  refine wpAnyH_take (i := 7) (oi := { dst := some 66, op := Op.load 3 (Operand.tmp 65), type := 3, pos := _, after := _, guard := some (2, true) }) (v := ?_) rfl (by kernel_rfl) (by kernel_rfl) (by kernel_rfl) (fun _ _ _ h => h) (Or.inl ⟨by rfl, ?_⟩) (by assumption) ?_
                  rotate_left
                  · intro wS hSw
                    (try dsimp only at hSw)
                    go_simp
                    first | done | with_reducible rfl
                  try simp only [Act.put, List.setIfInBounds_toArray, List.set_cons_zero, List.set_cons_succ]
                  refine wpAnyH_take (i := 8) (oi := { dst := some 67, op := Op.move (Operand.tmp 0), type := 22, pos := _, after := _, guard := some (2, true) }) (v := ?_) rfl (by kernel_rfl) (by kernel_rfl) (by kernel_rfl) (fun _ _ _ h => h) (Or.inl ⟨by rfl, ?_⟩) (by assumption) ?_
                  rotate_left
                  · intro wS hSw
                    (try dsimp only at hSw)
                    go_simp
                    first | done | with_reducible rfl
                  try simp only [Act.put, List.setIfInBounds_toArray, List.set_cons_zero, List.set_cons_succ]
                  refine wpAnyH_take (i := 9) (oi := { dst := some 68, op := Op.move (Operand.tmp 1), type := 3, pos := _, after := _, guard := some (2, true) }) (v := ?_) rfl (by kernel_rfl) (by kernel_rfl) (by kernel_rfl) (fun _ _ _ h => h) (Or.inl ⟨by rfl, ?_⟩) (by assumption) ?_
                  rotate_left
                  · intro wS hSw
                    (try dsimp only at hSw)
                    go_simp
                    first | done | with_reducible rfl
                  try simp only [Act.put, List.setIfInBounds_toArray, List.set_cons_zero, List.set_cons_succ]
                  refine wpAnyH_take (i := 10) (oi := { dst := some 69, op := Op.indexAddr 22 (Operand.tmp 67) (Operand.tmp 68), type := 0, pos := _, after := _, guard := some (2, true) }) (v := ?_) rfl (by kernel_rfl) (by kernel_rfl) (by kernel_rfl) (fun _ _ _ h => h) (Or.inl ⟨by rfl, ?_⟩) (by assumption) ?_
                  rotate_left
                  · intro wS hSw
                    (try dsimp only at hSw)
                    go_simp
                    first | done | with_reducible rfl
                  try simp only [Act.put, List.setIfInBounds_toArray, List.set_cons_zero, List.set_cons_succ]
                  refine wpAnyH_take (i := 11) (oi := { dst := some 70, op := Op.fieldAddr 26 (Operand.tmp 69) 0, type := 0, pos := _, after := _, guard := some (2, true) }) (v := ?_) rfl (by kernel_rfl) (by kernel_rfl) (by kernel_rfl) (fun _ _ _ h => h) (Or.inl ⟨by rfl, ?_⟩) (by assumption) ?_
                  rotate_left
                  · intro wS hSw
                    (try dsimp only at hSw)
                    go_simp
                    first | done | with_reducible rfl
                  try simp only [Act.put, List.setIfInBounds_toArray, List.set_cons_zero, List.set_cons_succ]
                  refine wpAnyH_take (i := 12) (oi := { dst := some 71, op := Op.fieldAddr 24 (Operand.tmp 70) 2, type := 0, pos := _, after := _, guard := some (2, true) }) (v := ?_) rfl (by kernel_rfl) (by kernel_rfl) (by kernel_rfl) (fun _ _ _ h => h) (Or.inl ⟨by rfl, ?_⟩) (by assumption) ?_
                  rotate_left
                  · intro wS hSw
                    (try dsimp only at hSw)
                    go_simp
                    first | done | with_reducible rfl
                  try simp only [Act.put, List.setIfInBounds_toArray, List.set_cons_zero, List.set_cons_succ]
                  refine wpAnyH_take (i := 13) (oi := { dst := some 72, op := Op.load 3 (Operand.tmp 71), type := 3, pos := _, after := _, guard := some (2, true) }) (v := ?_) rfl (by kernel_rfl) (by kernel_rfl) (by kernel_rfl) (fun _ _ _ h => h) (Or.inl ⟨by rfl, ?_⟩) (by assumption) ?_
                  rotate_left
                  · intro wS hSw
                    (try dsimp only at hSw)
                    go_simp
                    first | done | with_reducible rfl
                  try simp only [Act.put, List.setIfInBounds_toArray, List.set_cons_zero, List.set_cons_succ]
                  refine wpAnyH_take (i := 14) (oi := { dst := some 73, op := Op.binOp BinOp.gtr 3 (Operand.tmp 66) (Operand.tmp 72) 3, type := 4, pos := _, after := _, guard := some (2, true) }) (v := ?_) rfl (by kernel_rfl) (by kernel_rfl) (by kernel_rfl) (fun _ _ _ h => h) (Or.inl ⟨by rfl, ?_⟩) (by assumption) ?_
                  rotate_left
                  · intro wS hSw
                    (try dsimp only at hSw)
                    go_simp
                    first | done | with_reducible rfl
                  try simp only [Act.put, List.setIfInBounds_toArray, List.set_cons_zero, List.set_cons_succ]
                  refine wpAnyH_take (i := 15) (oi := { dst := some 74, op := Op.move (Operand.tmp 73), type := 4, pos := _, after := _, guard := some (2, true) }) (v := ?_) rfl (by kernel_rfl) (by kernel_rfl) (by kernel_rfl) (fun _ _ _ h => h) (Or.inl ⟨by rfl, ?_⟩) (by assumption) ?_
                  rotate_left
                  · intro wS hSw
                    (try dsimp only at hSw)
                    go_simp
                    first | done | with_reducible rfl
                  try simp only [Act.put, List.setIfInBounds_toArray, List.set_cons_zero, List.set_cons_succ]
                  refine held_skip (i := 16) (oi := { dst := some 75, op := Op.move (Operand.tmp 9), type := 22, pos := _, after := _, guard := some (15, false) }) rfl (by kernel_rfl) (by kernel_rfl) (by kernel_rfl) (fun _ _ _ h => h) (by rfl) (by rfl) (by assumption) ?_
                  refine held_skip (i := 17) (oi := { dst := some 76, op := Op.call { callee := Callee.value (Operand.func 21), args := #[Operand.tmp 75], argTypes := #[22] }, type := 4, pos := _, after := _, guard := some (15, false) }) rfl (by kernel_rfl) (by kernel_rfl) (by kernel_rfl) (fun _ _ _ h => h) (by rfl) (by rfl) (by assumption) ?_
                  refine wpAnyH_take (i := 18) (oi := { dst := some 77, op := Op.pick (Operand.tmp 74) (Operand.const (Value.bool true)) (Operand.tmp 76), type := 4, pos := _, after := _, guard := some (2, true) }) (v := ?_) rfl (by kernel_rfl) (by kernel_rfl) (by kernel_rfl) (fun _ _ _ h => h) (Or.inl ⟨by rfl, ?_⟩) (by assumption) ?_
                  rotate_left
                  · intro wS hSw
                    (try dsimp only at hSw)
                    go_simp
                    first | done | with_reducible rfl
                  try simp only [Act.put, List.setIfInBounds_toArray, List.set_cons_zero, List.set_cons_succ]
                  refine wpAnyH_take (i := 19) (oi := { dst := some 78, op := Op.pick (Operand.tmp 61) (Operand.tmp 77) (Operand.const (Value.bool false)), type := 4, pos := _, after := _, guard := none }) (v := ?_) rfl (by kernel_rfl) (by kernel_rfl) (by kernel_rfl) (fun _ _ _ h => h) (Or.inl ⟨by rfl, ?_⟩) (by assumption) ?_
                  rotate_left
                  · intro wS hSw
                    (try dsimp only at hSw)
                    go_simp
                    first | done | with_reducible rfl
                  try simp only [Act.put, List.setIfInBounds_toArray, List.set_cons_zero, List.set_cons_succ]
                  refine wpAnyH_take (i := 20) (oi := { dst := some 6, op := Op.assign (Operand.tmp 78), type := 4, pos := _, after := _, guard := none }) (v := ?_) rfl (by kernel_rfl) (by kernel_rfl) (by kernel_rfl) (fun _ _ _ h => h) (Or.inl ⟨by rfl, ?_⟩) (by assumption) ?_
                  rotate_left
                  · intro wS hSw
                    (try dsimp only at hSw)
                    go_simp
                    first | done | with_reducible rfl
                  try simp only [Act.put, List.setIfInBounds_toArray, List.set_cons_zero, List.set_cons_succ]
                  refine wpAnyH_done (by kernel_rfl) ?_ _
                  go_wp2
                  go_ret
                  exact ⟨by first | rfl | exact ret_b (by simp), hB6.trans ((sBel (by assumption)).mono hB6.size)⟩
                · have HLo : Hid (tst9 l (longF f t (p + more)) = true) := HLong.out (p + more) (by omega) (by omega)
                  have hd : decide (x < p + more) = false := decide_eq_false hpx
                  go_region_held3 (fun w' => (w'.cell? ⟨g, t * 7 + 6, none⟩ = some (.int .i64 (p + more)) ∧ w'.cell? ⟨b, o + t * 7 + 2, none⟩ = some (.int .i64 x)) ∧ Below W6.heap.size W6 w')
                    (first | exact MK.out _ (bstep (by assumption) (sBel (by assumption))) | exact MK.out _ (Below.refl _ _).drew)
                    (first
                    | (go_at_call 21; refine (test9_any _ _ _ _ (by first | exact HX6.out.1.later (sBel (by assumption)) | exact HX6.out.2.1.later (sBel (by assumption))) (HX6.out.2.2.later (sBel (by assumption)))).mono ?_; rintro r w8 ⟨rfl, hb8⟩; first | rw [HL.out] | rw [HLo.out]))
                  all_goals
                    go_wp2
                    go_ret
                    exact ⟨by first | rfl | exact ret_b (by simp), hB6.trans ((sBel (by assumption)).mono hB6.size)⟩
end Go.Proofs.YteibaiflljcghaaDoor
