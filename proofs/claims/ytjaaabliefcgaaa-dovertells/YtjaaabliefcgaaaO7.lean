/- Walks of dover's Fits and Order. -/
import Derived.Test.YtjaaabliefcgaaaO6
import Derived.Test.YtjaaabliefcgaaaU9
namespace Go.Proofs.Ytjaaabliefcgaaa
open Go.RowKit Go.Maps Go.Shelf

theorem fitL_next {L : List Ap} {j : Nat} (h : j < L.length) (nw : Int) : fitL nw (L.drop j) = (decide (nw + ((atA L j).c - (atA L j).r) ≤ (atA L j).due) && fitL (nw + ((atA L j).c - (atA L j).r)) (L.drop (j + 1))) := by
  rw [dropA_next h]; rfl

set_option maxHeartbeats 1000000 in
set_option maxRecDepth 100000 in
theorem fits13_any (xs : List Ap) (v : Value) (now : Int) (w : World) (h : Aps w v xs) (hx : xs.length ≤ 10) (hw : ∀ a ∈ xs, wfK a.key) (hn : nearL xs) (h0 : -4503599627370496 ≤ now) (h1 : now ≤ 4503599627370496) :
    Calls Try.prog 18 #[v, .int .i64 now] w fun e w' => e = .returned (.bool (fitsA xs now)) ∧ Below w.heap.size w w' := by
  have HN : Hid (nearL (ordA xs)) := nearL_ord hn
  have HW : Hid (∀ a ∈ xs, wfK a.key) := hw
  have HF : Hid (fitsA xs now = fitL now ((ordA xs).drop 0)) := rfl
  have hL : (ordA xs).length = xs.length := ordA_len xs
  clear hn hw
  go_enter Try.func18, Try.ntmps18
  go_wp2_with fail
  refine (from_any now _).mono ?_
  rintro e w1 ⟨rfl, hc1, hb1⟩
  have hA1 := h.later hb1
  have lp := hc1.lt
  unfold endV
  go_wp2_with fail
  refine (inOrder_any xs v w1 hA1 (by omega) HW.out).mono ?_
  rintro e w2 ⟨u, rfl, hu, hb2⟩
  have hc2 := hc1.later hb2
  have hb12 := hb1.trans (hb2.mono hb1.size)
  have sz2 := hb2.size
  obtain ⟨au, capu, rfl, u1, u2, _, u3⟩ := hu.aps.open
  rw [hL] at u1 u3
  rw [hL]
  have H2 : Hid (CellN w2 w.heap.size now ∧ OwnA w2 w1.heap.size (.slice au xs.length capu) (ordA xs) ∧ Below w.heap.size w w2) := ⟨hc2, by rw [hL] at hu; exact hu, hb12⟩
  clear hc1 hb1 hA1 hb2 hu hc2 hb12 u3 h
  go_wp2_with fail
  go_loopw [13] (fun i wr => ∃ (j : Nat) (nw : Int), j ≤ xs.length ∧ i = .int .i64 j ∧ Hid (CellN wr w.heap.size nw ∧ OwnA wr w1.heap.size (.slice au xs.length capu) (ordA xs) ∧ Below w.heap.size w wr) ∧ Hid (fitsA xs now = fitL nw ((ordA xs).drop j)) ∧ -4503599627370496 - 2251799813685248 * (j : Int) ≤ nw ∧ nw ≤ 4503599627370496 + 2251799813685248 * (j : Int)) (fun i _ => ((xs.length : Int) - intOf i).toNat)
  case atStart => exact ⟨0, now, by omega, rfl, H2.out, HF.out, by omega, by omega⟩
  case round =>
    clear H2 HF
    obtain ⟨j, nw, hj, rfl, HH, HF, n0, n1⟩ := hrel
    by_cases hlt : (j : Int) < xs.length
    · have hjL : j < (ordA xs).length := by omega
      obtain ⟨a', cap', e', _, _, _, h4⟩ := HH.out.2.1.aps.open
      rw [hL] at e' h4
      simp only [Value.slice.injEq, true_and] at e'
      obtain ⟨rfl, rfl⟩ := e'
      obtain ⟨bu, ou, rfl, h5⟩ := h4 (by omega)
      obtain ⟨k0, k1, k2, k3, k4⟩ := h5 j (by omega)
      have hnr := HN.out _ (atA_mem hjL)
      have HFN : Hid (fitsA xs now = (decide (nw + ((atA (ordA xs) j).c - (atA (ordA xs) j).r) ≤ (atA (ordA xs) j).due) && fitL (nw + ((atA (ordA xs) j).c - (atA (ordA xs) j).r)) ((ordA xs).drop (j + 1)))) := HF.out.trans (fitL_next hjL nw)
      clear h5 h4 HF
      generalize atA (ordA xs) j = a at *
      obtain ⟨ii, dd, cc, vv, rr⟩ := a
      simp only at k0 k1 k2 k3 k4
      unfold nearA at hnr
      simp only at hnr
      obtain ⟨m0, m1, m2, m3, m4, m5⟩ := hnr
      have HFM : Hid (fitsA xs now = (decide (nw + (cc - rr) ≤ dd) && fitL (nw + (cc - rr)) ((ordA xs).drop (j + 1)))) := HFN.out
      have HQ : Hid (IntKind.i64.wrap (cc - rr) = cc - rr ∧ IntKind.i64.wrap (nw + (cc - rr)) = nw + (cc - rr)) := ⟨wrap_near (by omega) (by omega), wrap_near (by omega) (by omega)⟩
      have HNB : Hid (-4503599627370496 - 2251799813685248 * ((j + 1 : Nat) : Int) ≤ nw + (cc - rr) ∧ nw + (cc - rr) ≤ 4503599627370496 + 2251799813685248 * ((j + 1 : Nat) : Int)) := ⟨by omega, by omega⟩
      clear m0 m1 m2 m3 m4 m5 n0 n1 HFN
      have hgW : wr.grownBy (wr.alloc (.cells #[.int .i64 ii, .int .i64 dd, .int .i64 cc, .int .i64 vv, .int .i64 rr] 30)).drew none := grown_then (World.grownBy_alloc _ _ _) (grown_drew _)
      have HX : Hid (∀ W0 : World, W0 = (wr.alloc (.cells #[.int .i64 ii, .int .i64 dd, .int .i64 cc, .int .i64 vv, .int .i64 rr] 30)).drew → Bx5 W0 wr.heap.size ii dd cc vv rr ∧ CellN W0 w.heap.size nw ∧ OwnA W0 w1.heap.size (.slice (some ⟨bu, ou, none⟩) xs.length capu) (ordA xs) ∧ Below w.heap.size w W0) := by
        rintro W0 rfl
        have hbW : Below wr.heap.size wr (wr.alloc (.cells #[.int .i64 ii, .int .i64 dd, .int .i64 cc, .int .i64 vv, .int .i64 rr] 30)).drew := ((Below.refl _ _).alloc (Nat.le_refl _) _).drew
        exact ⟨Bx5.new wr ii dd cc vv rr 30, HH.out.1.later hbW, HH.out.2.1.later hbW, HH.out.2.2.trans (hbW.mono HH.out.2.2.size)⟩
      have hpr : w.heap.size < wr.heap.size := HH.out.1.lt
      go_wp2_with fail
      clear k0 k1 k2 k3 k4 hgW HH
      obtain ⟨W, hW⟩ : ∃ W, wr.alloc (.cells #[.int .i64 ii, .int .i64 dd, .int .i64 cc, .int .i64 vv, .int .i64 rr] 30) = W := ⟨_, rfl⟩
      rw [hW] at HX ⊢
      clear hW
      obtain ⟨W0, hW0⟩ : ∃ W0, W.drew = W0 := ⟨_, rfl⟩
      obtain ⟨⟨x0, x1, x2, x3, x4⟩, hC0, hO0, hB0⟩ := HX.out W0 hW0.symm
      have HC0 : Hid (CellN W0 w.heap.size nw) := hC0
      have HOB : Hid (OwnA W0 w1.heap.size (.slice (some ⟨bu, ou, none⟩) xs.length capu) (ordA xs) ∧ Below w.heap.size w W0) := ⟨hO0, hB0⟩
      clear HX hC0 hO0 hB0
      refine wp_region_held_drew (S := (fun w' : World => w'.cell? ⟨wr.heap.size, 0, none⟩ = some (.int .i64 ii) ∧ w'.cell? ⟨wr.heap.size, 1, none⟩ = some (.int .i64 dd) ∧ w'.cell? ⟨wr.heap.size, 2, none⟩ = some (.int .i64 cc) ∧ w'.cell? ⟨wr.heap.size, 3, none⟩ = some (.int .i64 vv) ∧ w'.cell? ⟨wr.heap.size, 4, none⟩ = some (.int .i64 rr))) (by kernel_rfl) ?_ (fun hHeld => ?_)
      · rw [hW0]; exact ⟨x0, x1, x2, x3, x4⟩
      rw [hW0] at hHeld ⊢
      clear hW0 W
      refine wpAnyH_take (i := 0) (oi := { dst := some 17, op := Op.move (Operand.tmp 5), type := 43, pos := _, after := _, guard := none }) (v := ?_) rfl (by kernel_rfl) (by kernel_rfl) (by kernel_rfl) (fun _ _ _ h => h) (Or.inl ⟨by rfl, ?_⟩) (by assumption) ?_
      rotate_left
      · intro wS hSw; (try dsimp only at hSw); go_simp; first | done | with_reducible rfl
      try simp only [Act.put, List.setIfInBounds_toArray, List.set_cons_zero, List.set_cons_succ]
      refine wpAnyH_take (i := 1) (oi := { dst := some 18, op := Op.load 30 (Operand.tmp 7), type := 30, pos := _, after := _, guard := none }) (v := ?_) rfl (by kernel_rfl) (by kernel_rfl) (by kernel_rfl) (fun _ _ _ h => h) (Or.inl ⟨by rfl, ?_⟩) (by assumption) ?_
      rotate_left
      · intro wS hSw; (try dsimp only at hSw); go_simp; first | done | with_reducible rfl
      try simp only [Act.put, List.setIfInBounds_toArray, List.set_cons_zero, List.set_cons_succ]
      refine wpAnyH_take (i := 3) (oi := { dst := some 20, op := Op.fieldAddr 30 (Operand.tmp 7) 1, type := 0, pos := _, after := _, guard := none }) (v := ?_) rfl (by kernel_rfl) (by kernel_rfl) (by kernel_rfl) (fun _ _ _ h => h) (Or.inl ⟨by rfl, ?_⟩) (by assumption) ?_
      rotate_left
      · intro wS hSw; (try dsimp only at hSw); go_simp; first | done | with_reducible rfl
      try simp only [Act.put, List.setIfInBounds_toArray, List.set_cons_zero, List.set_cons_succ]
      refine wpAnyH_take (i := 4) (oi := { dst := some 21, op := Op.load 3 (Operand.tmp 20), type := 3, pos := _, after := _, guard := none }) (v := ?_) rfl (by kernel_rfl) (by kernel_rfl) (by kernel_rfl) (fun _ _ _ h => h) (Or.inl ⟨by rfl, ?_⟩) (by assumption) ?_
      rotate_left
      · intro wS hSw; (try dsimp only at hSw); go_simp; first | done | with_reducible rfl
      try simp only [Act.put, List.setIfInBounds_toArray, List.set_cons_zero, List.set_cons_succ]
      refine wpAnyH_ready (rs := [2]) (by kernel_rfl) (by simp) ?_
      refine AllReadyH.cons (o := { dst := some 19, op := Op.call { callee := Callee.value (Operand.tmp 17), args := #[Operand.tmp 18], argTypes := #[30] }, type := 3, pos := _, after := _, guard := none }) rfl (fun K hK => ?_) AllReadyH.nil
      go_simp
      refine (end_any ii dd cc vv rr nw _ _ HC0.out HQ.out.1 HQ.out.2).mono ?_
      rintro e w3 ⟨rfl, hc3, hg3⟩
      have x0 := cell_grown hg3 (by simp; omega) x0
      have x1 := cell_grown hg3 (by simp; omega) x1
      have x2 := cell_grown hg3 (by simp; omega) x2
      have x3 := cell_grown hg3 (by simp; omega) x3
      have x4 := cell_grown hg3 (by simp; omega) x4
      go_wp2_with fail
      refine hK.out _ _ ?_ (fun hHeld => ?_)
      · exact ⟨x0, x1, x2, x3, x4⟩
      clear hK K
      try simp only [Act.put, List.setIfInBounds_toArray, List.set_cons_zero, List.set_cons_succ]
      refine wpAnyH_take (i := 5) (oi := { dst := some 22, op := Op.binOp BinOp.gtr 3 (Operand.tmp 19) (Operand.tmp 21) 3, type := 4, pos := _, after := _, guard := none }) (v := ?_) rfl (by kernel_rfl) (by kernel_rfl) (by kernel_rfl) (fun _ _ _ h => h) (Or.inl ⟨by rfl, ?_⟩) (by assumption) ?_
      rotate_left
      · intro wS hSw; (try dsimp only at hSw); go_simp; first | done | with_reducible rfl
      try simp only [Act.put, List.setIfInBounds_toArray, List.set_cons_zero, List.set_cons_succ]
      refine wpAnyH_done (by kernel_rfl) ?_ _
      have H3 : Hid (CellN w3 w.heap.size (nw + (cc - rr)) ∧ OwnA w3 w1.heap.size (.slice (some ⟨bu, ou, none⟩) xs.length capu) (ordA xs) ∧ Below w.heap.size w w3) := ⟨hc3, HOB.out.1.kept hg3 (fun k hk => by cases hk; exact lp), HOB.out.2.grown hg3 HOB.out.2.size (fun k hk => by cases hk; exact Nat.le_refl _)⟩
      clear hc3 hg3 HC0 HOB x0 x1 x2 x3 x4
      obtain ⟨s, hs⟩ : ∃ s, nw + (cc - rr) = s := ⟨_, rfl⟩
      rw [hs] at H3 HFM HNB ⊢
      clear hs HQ
      by_cases hd : s ≤ dd
      · have HG : Hid (fitsA xs now = fitL s ((ordA xs).drop (j + 1))) := by show _ = _; rw [HFM.out, decide_eq_true hd, Bool.true_and]
        go_wp2_with fail
        go_roundw
        case rel => exact ⟨j + 1, s, by omega, by go_num, H3.out, HG.out, HNB.out.1, HNB.out.2⟩
        case measure => simp [intOf]; omega
      · have HG : Hid (fitsA xs now = false) := by show _ = _; rw [HFM.out, decide_eq_false hd, Bool.false_and]
        go_wp2_with fail
        go_ret
        exact ⟨ret_b HG.out.symm, H3.out.2.2⟩
    · obtain rfl : j = xs.length := by omega
      have HG : Hid (fitsA xs now = true) := by show _ = _; rw [HF.out, List.drop_eq_nil_of_le (by omega)]; rfl
      go_wp2_with fail
      go_ret
      exact ⟨ret_b HG.out.symm, HH.out.2.2⟩
end Go.Proofs.Ytjaaabliefcgaaa
