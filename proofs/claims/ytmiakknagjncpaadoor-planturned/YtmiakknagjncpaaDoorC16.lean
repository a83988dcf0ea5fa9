/- What the statement PlanTurned comes to. -/
import Derived.Test.YtmiakknagjncpaaDoorC11
namespace Go.Proofs.YtmiakknagjncpaaDoor
open Go.RowKit Go.Shelf

theorem OwnS.later {w w' : World} {base : Nat} {v : Value} {n : Nat} {f : Nat → Sp} (h : OwnS w base v n f) (hb : Below w.heap.size w w') : OwnS w' base v n f := own_laterF h hb
theorem OwnS.congr {w : World} {base : Nat} {v : Value} {n : Nat} {f g : Nat → Sp} (h : OwnS w base v n f) (hg : ∀ i, i < n → f i = g i) : OwnS w base v n g := by
  unfold OwnS at h ⊢
  rwa [flatS_congr hg] at h
theorem revS_at {n k : Nat} {s : Nat → Sp} (h : k < n) : revS n s (n - (k + 1)) = s k := by
  unfold revS
  rw [show n - 1 - (n - (k + 1)) = k by omega]

set_option maxHeartbeats 2000000 in
set_option maxRecDepth 100000 in
theorem law_pturned (n : Nat) (s : Nat → Sp) (v : Value) (w : World) (h : Sps w v n s) (hL : Lim w) :
    Calls Tryd.prog 6 #[v] w fun e w' => e = .returned (.bool true) ∧ Below w.heap.size w w' := by
  have HX0 : Hid (Sps w v n s ∧ Lim w) := ⟨h, hL⟩
  obtain ⟨ad, cap, rfl, h1, h2, h0, h3⟩ := h
  clear hL h0
  obtain ⟨a, b, rb, hF⟩ := frT_exists n s
  have HF : Hid (FrT n s a b rb) := hF
  have HG : Hid (FrT n (revS n s) a b rb) := rev_frT hF
  clear hF
  go_enter Tryd.func6, Tryd.ntmps6
  go_wp2_with fail
  refine (awake10_any _ HX0.out.2).mono ?_
  rintro e w1 ⟨rfl, hb1⟩
  have HX1 : Hid (Sps w1 (.slice ad n cap) n s ∧ Lim w1) := ⟨HX0.out.1.later hb1, HX0.out.2.later hb1⟩
  clear HX0
  by_cases hn : (n : Int) > 4
  · clear h3
    go_wp2
    go_ret
    exact ⟨by first | rfl | exact ret_b (by simp) | exact ret_b (decide_eq_true (by omega)) | exact ret_b (by simp; omega), hb1⟩
  · have s1 := hb1.size
    go_wp2_with fail
    go_loopw [4, 5] (fun s4 s5 wr => ∃ r : Nat, r ≤ n ∧ s5 = .int .i64 r ∧ Hid (OwnS wr w1.heap.size s4 (n - r) (revS n s)) ∧ Below w1.heap.size w1 wr) (fun _ s5 _ => (intOf s5).toNat)
    case atStart => exact ⟨n, by omega, rfl, by rw [Nat.sub_self]; exact OwnS.nil _ _ _, Below.refl _ _⟩
    case round =>
      obtain ⟨r, hr, rfl, HO, hbw⟩ := hrel
      cases r with
      | zero =>
        have HS : Hid (Sps wr u4 n (revS n s)) := HO.out.sps
        have HX2 : Hid (Sps wr (.slice ad n cap) n s ∧ Lim wr) := ⟨HX1.out.1.later hbw, HX1.out.2.later hbw⟩
        have hb2 : Below w.heap.size w wr := hb1.trans (hbw.mono s1)
        clear h3 hbw HO HX1
        go_wp2_with fail
        refine (target_any n s a b rb _ _ HX2.out.1 HF.out HX2.out.2).mono ?_
        rintro r w3 ⟨y, rfl, hy, hb3⟩
        have HY : Hid (Fxs w3 y (tgN n s a b rb) (tgF s a b)) := hy
        have HS3 : Hid (Sps w3 u4 n (revS n s) ∧ Lim w3) := ⟨HS.out.later hb3, HX2.out.2.later hb3⟩
        replace hb3 := hb2.trans (hb3.mono hb2.size)
        clear hb2 HX2 HS hy
        obtain ⟨E, hE⟩ : ∃ E, errV n s a b rb = E := ⟨_, rfl⟩
        have HE : Hid (errV n s a b rb = E) := hE
        rw [hE]
        clear hE
        go_wp2_with fail
        refine (target_any n (revS n s) a b rb _ _ HS3.out.1 HG.out HS3.out.2).mono ?_
        rintro r w4 ⟨z, rfl, hz, hb4⟩
        rw [rev_err, HE.out]
        have e2 : tgN n (revS n s) a b rb = tgN n s a b rb := by unfold tgN; rw [rev_err]
        rw [e2] at hz
        have hy := HY.out.later hb4
        replace hb4 := hb3.trans (hb4.mono hb3.size)
        have hN : tgN n s a b rb = 0 ∨ tgN n s a b rb = n := by
          by_cases c : errV n s a b rb = 0
          · exact .inr (tg_ok c)
          · exact .inl (tg_no c)
        obtain ⟨L, hLL⟩ : ∃ L, tgN n s a b rb = L := ⟨_, rfl⟩
        rw [hLL] at hy hz hN
        clear hb3 HY HS3 e2 hLL
        obtain ⟨ay, cy, rfl, y1, y2, y0, y3⟩ := hy
        obtain ⟨az, cz, rfl, z1, z2, z0, z3⟩ := hz
        clear y0 z0
        go_wp2_with fail
        go_loopw [10] (fun s10 wx => ∃ j : Nat, j ≤ L ∧ s10 = .int .i64 j ∧ Below w4.heap.size w4 wx) (fun s10 _ => ((L : Int) - intOf s10).toNat)
        case atStart => exact ⟨0, by omega, rfl, Below.refl _ _⟩
        case round =>
          obtain ⟨j, hj, rfl, hbx⟩ := hrel
          have hbX : Below w.heap.size w wr := hb4.trans (hbx.mono hb4.size)
          by_cases hlt : (j : Int) < L
          · obtain ⟨by', oy, rfl, y4⟩ := y3 (by omega)
            obtain ⟨bz, oz, rfl, z4⟩ := z3 (by omega)
            have hLn : L = n := by omega
            have hrowY := row_open (f := tgF s a b j) (fun q hq => cell_later hbx (y4 j (by omega) q hq))
            obtain ⟨t, ht⟩ : ∃ t : Nat, L - 1 - j = t := ⟨_, rfl⟩
            have hrowZ := row_open (f := tgF (revS n s) a b t) (fun q hq => cell_later hbx (z4 t (by omega) q hq))
            have e3 : tgF (revS n s) a b t = tgF s a b j := by rw [rev_tg, show n - 1 - t = j by omega]
            rw [e3] at hrowZ
            have ht3 : IntKind.i64.wrap ((L : Int) - 1) = L - 1 := by rw [IntKind.wrap_i64]; omega
            have ht4 : t < L := by omega
            have ht5 : (L : Int) - 1 - j = t := by omega
            have ht6 : IntKind.i64.wrap (t : Int) = t := by rw [IntKind.wrap_i64]; omega
            have hL4 : L ≤ 4 := by omega
            clear y3 y4 z3 z4 ht hLn hN e3
            obtain ⟨⟨cj, tj, xj, mj, kj, ej, pj⟩, hf⟩ : ∃ y, tgF s a b j = y := ⟨_, rfl⟩
            rw [hf] at hrowY hrowZ
            clear hf
            obtain ⟨c0, c1, c2, c3, c4, c5, c6⟩ := hrowY
            obtain ⟨d0, d1, d2, d3, d4, d5, d6⟩ := hrowZ
            simp only at c0 c1 c2 c3 c4 c5 c6 d0 d1 d2 d3 d4 d5 d6
            have hN7 : ∀ w, (binOp .neq 33 (.agg #[.int .i64 cj, .int .i64 tj, .int .i64 xj, .int .i64 mj, .int .i64 kj, .int .i64 ej, .int .i64 pj]) (.agg #[.int .i64 cj, .int .i64 tj, .int .i64 xj, .int .i64 mj, .int .i64 kj, .int .i64 ej, .int .i64 pj])).run Tryd.prog w = .ok (.bool false) w := fun w => by simp [go_sem]
            go_wp2_with fail
            go_region
            all_goals
              go_wp2_with fail
              go_roundw
              case rel => exact ⟨j + 1, by omega, by go_num, hbx.drew⟩
              case measure => simp [intOf]; omega
          · go_wp2
            go_ret
            exact ⟨by first | rfl | exact ret_b (by simp) | exact ret_b (decide_eq_true (by omega)) | exact ret_b (by simp; omega), hbX⟩
      | succ k =>
        have hbW : Below w.heap.size w wr := hb1.trans (hbw.mono s1)
        obtain ⟨bk, o, rfl, h4⟩ := h3 (by omega)
        have hrow := rowS_open (f := s k) (h4 k (by omega))
        clear h4 h3
        obtain ⟨⟨cj, tj, xj, mj, kj, ej⟩, hf⟩ : ∃ y, s k = y := ⟨_, rfl⟩
        have HFk : Hid (s k = ⟨cj, tj, xj, mj, kj, ej⟩) := hf
        rw [hf] at hrow
        clear hf
        obtain ⟨k0, k1, k2, k3, k4, k5⟩ := hrow
        simp only at k0 k1 k2 k3 k4 k5
        have e0 := cell_later hbW k0
        have e1 := cell_later hbW k1
        have e2 := cell_later hbW k2
        have e3 := cell_later hbW k3
        have e4 := cell_later hbW k4
        have e5 := cell_later hbW k5
        have sb := World.block_lt_of_cell? _ _ k0
        clear k0 k1 k2 k3 k4 k5
        have sw0 := hbW.size
        have sw := hbw.size
        have hw1 : IntKind.i64.wrap (((k + 1 : Nat) : Int) - 1) = k := by rw [IntKind.wrap_i64]; omega
        have HU : Hid (revS n s (n - (k + 1)) = ⟨cj, tj, xj, mj, kj, ej⟩) := by show _ = _; rw [revS_at (by omega), HFk.out]
        have hown1 : OwnS (wr.alloc (.cells #[.int .i64 cj, .int .i64 tj, .int .i64 xj, .int .i64 mj, .int .i64 kj, .int .i64 ej] 31)) w1.heap.size u4 (n - (k + 1)) (revS n s) := HO.out.later ((Below.refl _ _).alloc (Nat.le_refl _) _)
        have hlit : Sps (wr.alloc (.cells #[.int .i64 cj, .int .i64 tj, .int .i64 xj, .int .i64 mj, .int .i64 kj, .int .i64 ej] 31)) (.slice (some ⟨wr.heap.size, 0, none⟩) 1 1) 1 (fun _ => ⟨cj, tj, xj, mj, kj, ej⟩) := Sps.one (Six.new wr ⟨cj, tj, xj, mj, kj, ej⟩)
        go_wp2_with (first
          | (at_builtin; refine append_sps rfl _ _ rfl w1.heap.size _ _ _ _ _ _ rfl hown1 rfl hlit (by omega) (by simp; omega) ?_; intro v' w3 hown3 hb3))
        have hb5 : Below w1.heap.size w1 w3 := (hbw.alloc sw _).trans hb3
        have HO3 : Hid (OwnS w3 w1.heap.size v' (n - k) (revS n s)) := by
          have ek : n - (k + 1) + 1 = n - k := by omega
          rw [ek] at hown3
          refine hown3.congr fun i hi => ?_
          by_cases c : i < n - (k + 1)
          · rw [catS_left c]
          · rw [catS_right (by omega), show i = n - (k + 1) by omega, HU.out]
        clear hown3 hown1 hlit hb3 hbw HO
        go_wp2_with fail
        go_roundw
        case rel => exact ⟨k, by omega, by go_num, HO3.out, hb5⟩
        case measure => simp [intOf]
end Go.Proofs.YtmiakknagjncpaaDoor
