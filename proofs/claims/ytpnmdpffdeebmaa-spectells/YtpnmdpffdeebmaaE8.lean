/- Walks of package spec: Get. -/
import Derived.Test.YtpnmdpffdeebmaaE7
import Derived.Test.YtpnmdpffdeebmaaE6
import Derived.Deep.RegionHeld3
namespace Go.Proofs.Ytpnmdpffdeebmaa
open Go.RowKit

theorem cell_set {w w' : World} {b i c j : Nat} {v : Value} (h : w' = w.setCell ⟨b, i, none⟩ v) (hc : b ≠ c) : w'.cell? ⟨c, j, none⟩ = w.cell? ⟨c, j, none⟩ := by
  rw [h, World.cell?_setCell_other _ _ _ _ (fun h => hc (congrArg Addr.block h))]
theorem cell_below_w {w w' : World} (h : Below w.heap.size w w') : Below w.heap.size w w' := h
set_option maxHeartbeats 1000000 in
set_option maxRecDepth 100000 in
theorem spget_any (ks : List Int) (v : Value) (w : World) (h : Bys w v ks) :
    Calls Try.prog 11 #[v] w fun r w' => r = .returned (.tuple #[spV (knS (gotS ks)), .bool (maySp (gotS ks))]) ∧ Below w.heap.size w w' := by
  by_cases hl : ks.length = 6
  · obtain ⟨k0, k1, k2, k3, k4, k5, rfl⟩ := len6 hl
    have HG : Hid (gotS [k0, k1, k2, k3, k4, k5] = ⟨k0, k1, k2, k3, k4, k5⟩) := rfl
    obtain ⟨a, cap, rfl, h1, h2, h3, h4, h5⟩ := h
    obtain ⟨b, o, rfl, h6⟩ := h5 (by simp)
    have HC : Hid (∀ i, i < 6 → w.cell? ⟨b, o + i, none⟩ = some (.int .u8 (Sp.at ⟨k0, k1, k2, k3, k4, k5⟩ i)) ∧ 0 ≤ Sp.at ⟨k0, k1, k2, k3, k4, k5⟩ i ∧ Sp.at ⟨k0, k1, k2, k3, k4, k5⟩ i ≤ 255) := by
      intro i hi
      rw [← at_lst ⟨k0, k1, k2, k3, k4, k5⟩ i hi]
      exact ⟨h6 i hi, h4 i hi⟩
    have hlen : ([k0, k1, k2, k3, k4, k5] : List Int).length = 6 := rfl
    rw [hlen] at h1 ⊢
    have hbl : b < w.heap.size := World.block_lt_of_cell? _ _ (h6 0 (by simp))
    clear h3 h4 h5 h6 hl hlen
    go_enter Try.func11, Try.ntmps11
    go_wp2_with fail
    have hR : Six ((w.alloc (.cells #[.int .i64 0, .int .i64 0, .int .i64 0, .int .i64 0, .int .i64 0, .int .i64 0] 23)).alloc (.cells #[.int .i64 0, .int .i64 0, .int .i64 0, .int .i64 0, .int .i64 0, .int .i64 0] 23)) w.heap.size (Sp.at ⟨0, 0, 0, 0, 0, 0⟩) := (Six.new w spZ).later ((Below.refl _ _).alloc (Nat.le_refl _) _)
    have hS : Six ((w.alloc (.cells #[.int .i64 0, .int .i64 0, .int .i64 0, .int .i64 0, .int .i64 0, .int .i64 0] 23)).alloc (.cells #[.int .i64 0, .int .i64 0, .int .i64 0, .int .i64 0, .int .i64 0, .int .i64 0] 23)) (w.heap.size + 1) (Sp.at ⟨0, 0, 0, 0, 0, 0⟩) := by have := Six.new (w.alloc (.cells #[.int .i64 0, .int .i64 0, .int .i64 0, .int .i64 0, .int .i64 0, .int .i64 0] 23)) spZ; simp only [World.size_alloc] at this; exact this
    refine (parts_any _).mono ?_
    rintro r w1 ⟨rfl, hb1⟩
    have hR1 := hR.later hb1
    have hS1 := (hS.later hb1).zero ⟨k0, k1, k2, k3, k4, k5⟩
    replace hb1 : Below w.heap.size w w1 := (((Below.refl _ _).alloc (by simp) _).alloc (by simp) _).trans (hb1.mono (by simp; omega))
    clear hR hS
    go_wp2_with fail
    go_loopw [12] (fun i wr => ∃ (j : Nat), j ≤ 6 ∧ i = .int .i64 j ∧ Below w.heap.size w wr ∧ Six wr w.heap.size (Sp.at ⟨0, 0, 0, 0, 0, 0⟩) ∧ Six wr (w.heap.size + 1) (gN ⟨k0, k1, k2, k3, k4, k5⟩ j)) (fun i _ => ((6 : Int) - intOf i).toNat)
    case atStart => exact ⟨0, by omega, rfl, hb1, hR1, hS1⟩
    case round =>
      obtain ⟨j, hj, rfl, hbw, hRr, hSr⟩ := hrel
      clear hb1 hR1 hS1
      have s0 := hbw.size
      have s2 := hRr.lt
      have s3 := hSr.lt
      rcases (show j = 0 ∨ j = 1 ∨ j = 2 ∨ j = 3 ∨ j = 4 ∨ j = 5 ∨ j = 6 by omega) with rfl | rfl | rfl | rfl | rfl | rfl | rfl
      · have hix := idx0
        obtain ⟨d0, d1, d2⟩ := HC.out 0 (by omega)
        have d3 : w.cell? ⟨b, o, none⟩ = some (.int .u8 k0) := d0
        replace d1 : 0 ≤ k0 := d1
        replace d2 : k0 ≤ 255 := d2
        replace d3 := cell_later (cell_below_w hbw) d3
        have HT : Hid (Six wr w.heap.size (Sp.at ⟨0, 0, 0, 0, 0, 0⟩) ∧ Six wr (w.heap.size + 1) (gN ⟨k0, k1, k2, k3, k4, k5⟩ 0) ∧ Below w.heap.size w wr) := ⟨hRr, hSr, hbw⟩
        clear hSr hRr d0 hbw
        go_wp2_with fail
        have q1 : (wr.alloc (.cells #[.func (.func 22) #[] #[], .func (.func 23) #[] #[], .func (.func 24) #[] #[]] 42)).cell? ⟨wr.heap.size, 1, none⟩ = some (.func (.func 23) #[] #[]) := by simp
        have q2 : (wr.alloc (.cells #[.func (.func 22) #[] #[], .func (.func 23) #[] #[], .func (.func 24) #[] #[]] 42)).cell? ⟨b, o, none⟩ = some (.int .u8 k0) := (World.cell?_alloc_old _ _ _ (by simp; omega)).trans d3
        have q3 := (Below.refl wr.heap.size wr).alloc (Nat.le_refl _) (.cells #[.func (.func 22) #[] #[], .func (.func 23) #[] #[], .func (.func 24) #[] #[]] 42)
        have HQ : Hid (Six (wr.alloc (.cells #[.func (.func 22) #[] #[], .func (.func 23) #[] #[], .func (.func 24) #[] #[]] 42)) w.heap.size (Sp.at ⟨0, 0, 0, 0, 0, 0⟩) ∧ Six (wr.alloc (.cells #[.func (.func 22) #[] #[], .func (.func 23) #[] #[], .func (.func 24) #[] #[]] 42)) (w.heap.size + 1) (gN ⟨k0, k1, k2, k3, k4, k5⟩ 0) ∧ Below w.heap.size w (wr.alloc (.cells #[.func (.func 22) #[] #[], .func (.func 23) #[] #[], .func (.func 24) #[] #[]] 42))) := ⟨HT.out.1.later q3, HT.out.2.1.later q3, HT.out.2.2.trans (q3.mono s0)⟩
        clear HT d3 q3 hix
        generalize wr.alloc (.cells #[.func (.func 22) #[] #[], .func (.func 23) #[] #[], .func (.func 24) #[] #[]] 42) = W at *
        have hd : Six W.drew (w.heap.size + 1) (gN ⟨k0, k1, k2, k3, k4, k5⟩ 0) := HQ.out.2.1
        have q6 : IntKind.i64.wrap k0 = k0 := by rw [IntKind.wrap_i64]; omega
        go_region_held3 (fun w' => w'.cell? ⟨wr.heap.size, 1, none⟩ = some (.func (.func 23) #[] #[]) ∧ w'.cell? ⟨b, o, none⟩ = some (.int .u8 k0)) (first | exact ⟨q1, q2⟩ | exact ⟨q4, q5⟩)
          (first | (go_at_call 23; refine (set0_any _ _ _ W.drew hd).mono ?_; rintro r w6 ⟨rfl, hw6⟩; have HW : Hid (w6 = W.drew.setCell ⟨w.heap.size + 1, 0, none⟩ (.int .i64 k0)) := hw6; clear hw6; have q4 : w6.cell? ⟨wr.heap.size, 1, none⟩ = some (.func (.func 23) #[] #[]) := (cell_set HW.out (by omega)).trans q1; have q5 : w6.cell? ⟨b, o, none⟩ = some (.int .u8 k0) := (cell_set HW.out (by omega)).trans q2))
        all_goals
          have HE : Hid (Six w6 w.heap.size (Sp.at ⟨0, 0, 0, 0, 0, 0⟩) ∧ Six w6 (w.heap.size + 1) (gN ⟨k0, k1, k2, k3, k4, k5⟩ (0 + 1)) ∧ Below w.heap.size w w6) := by
            rw [HW.out]
            exact ⟨Six.other (w := W.drew) HQ.out.1 (by omega) _, hd.step (by omega), Below.setCell (Below.drew HQ.out.2.2) (by simp) _⟩
          clear HQ hd HW q1 q2 q4 q5
          go_wp2_with fail
          go_roundw
          case rel => exact ⟨1, by omega, by go_num, HE.out.2.2, HE.out.1, HE.out.2.1⟩
          case measure => simp [intOf]
      · have hix := idx1
        obtain ⟨d0, d1, d2⟩ := HC.out 1 (by omega)
        have d3 : w.cell? ⟨b, o + 1, none⟩ = some (.int .u8 k1) := d0
        replace d1 : 0 ≤ k1 := d1
        replace d2 : k1 ≤ 255 := d2
        replace d3 := cell_later (cell_below_w hbw) d3
        have HT : Hid (Six wr w.heap.size (Sp.at ⟨0, 0, 0, 0, 0, 0⟩) ∧ Six wr (w.heap.size + 1) (gN ⟨k0, k1, k2, k3, k4, k5⟩ 1) ∧ Below w.heap.size w wr) := ⟨hRr, hSr, hbw⟩
        clear hSr hRr d0 hbw
        go_wp2_with fail
        have q1 : (wr.alloc (.cells #[.func (.func 26) #[] #[], .func (.func 27) #[] #[], .func (.func 28) #[] #[]] 42)).cell? ⟨wr.heap.size, 1, none⟩ = some (.func (.func 27) #[] #[]) := by simp
        have q2 : (wr.alloc (.cells #[.func (.func 26) #[] #[], .func (.func 27) #[] #[], .func (.func 28) #[] #[]] 42)).cell? ⟨b, o + 1, none⟩ = some (.int .u8 k1) := (World.cell?_alloc_old _ _ _ (by simp; omega)).trans d3
        have q3 := (Below.refl wr.heap.size wr).alloc (Nat.le_refl _) (.cells #[.func (.func 26) #[] #[], .func (.func 27) #[] #[], .func (.func 28) #[] #[]] 42)
        have HQ : Hid (Six (wr.alloc (.cells #[.func (.func 26) #[] #[], .func (.func 27) #[] #[], .func (.func 28) #[] #[]] 42)) w.heap.size (Sp.at ⟨0, 0, 0, 0, 0, 0⟩) ∧ Six (wr.alloc (.cells #[.func (.func 26) #[] #[], .func (.func 27) #[] #[], .func (.func 28) #[] #[]] 42)) (w.heap.size + 1) (gN ⟨k0, k1, k2, k3, k4, k5⟩ 1) ∧ Below w.heap.size w (wr.alloc (.cells #[.func (.func 26) #[] #[], .func (.func 27) #[] #[], .func (.func 28) #[] #[]] 42))) := ⟨HT.out.1.later q3, HT.out.2.1.later q3, HT.out.2.2.trans (q3.mono s0)⟩
        clear HT d3 q3 hix
        generalize wr.alloc (.cells #[.func (.func 26) #[] #[], .func (.func 27) #[] #[], .func (.func 28) #[] #[]] 42) = W at *
        have hd : Six W.drew (w.heap.size + 1) (gN ⟨k0, k1, k2, k3, k4, k5⟩ 1) := HQ.out.2.1
        have q6 : IntKind.i64.wrap k1 = k1 := by rw [IntKind.wrap_i64]; omega
        go_region_held3 (fun w' => w'.cell? ⟨wr.heap.size, 1, none⟩ = some (.func (.func 27) #[] #[]) ∧ w'.cell? ⟨b, o + 1, none⟩ = some (.int .u8 k1)) (first | exact ⟨q1, q2⟩ | exact ⟨q4, q5⟩)
          (first | (go_at_call 27; refine (set1_any _ _ _ W.drew hd).mono ?_; rintro r w6 ⟨rfl, hw6⟩; have HW : Hid (w6 = W.drew.setCell ⟨w.heap.size + 1, 1, none⟩ (.int .i64 k1)) := hw6; clear hw6; have q4 : w6.cell? ⟨wr.heap.size, 1, none⟩ = some (.func (.func 27) #[] #[]) := (cell_set HW.out (by omega)).trans q1; have q5 : w6.cell? ⟨b, o + 1, none⟩ = some (.int .u8 k1) := (cell_set HW.out (by omega)).trans q2))
        all_goals
          have HE : Hid (Six w6 w.heap.size (Sp.at ⟨0, 0, 0, 0, 0, 0⟩) ∧ Six w6 (w.heap.size + 1) (gN ⟨k0, k1, k2, k3, k4, k5⟩ (1 + 1)) ∧ Below w.heap.size w w6) := by
            rw [HW.out]
            exact ⟨Six.other (w := W.drew) HQ.out.1 (by omega) _, hd.step (by omega), Below.setCell (Below.drew HQ.out.2.2) (by simp) _⟩
          clear HQ hd HW q1 q2 q4 q5
          go_wp2_with fail
          go_roundw
          case rel => exact ⟨2, by omega, by go_num, HE.out.2.2, HE.out.1, HE.out.2.1⟩
          case measure => simp [intOf]
      · have hix := idx2
        obtain ⟨d0, d1, d2⟩ := HC.out 2 (by omega)
        have d3 : w.cell? ⟨b, o + 2, none⟩ = some (.int .u8 k2) := d0
        replace d1 : 0 ≤ k2 := d1
        replace d2 : k2 ≤ 255 := d2
        replace d3 := cell_later (cell_below_w hbw) d3
        have HT : Hid (Six wr w.heap.size (Sp.at ⟨0, 0, 0, 0, 0, 0⟩) ∧ Six wr (w.heap.size + 1) (gN ⟨k0, k1, k2, k3, k4, k5⟩ 2) ∧ Below w.heap.size w wr) := ⟨hRr, hSr, hbw⟩
        clear hSr hRr d0 hbw
        go_wp2_with fail
        have q1 : (wr.alloc (.cells #[.func (.func 30) #[] #[], .func (.func 31) #[] #[], .func (.func 32) #[] #[]] 42)).cell? ⟨wr.heap.size, 1, none⟩ = some (.func (.func 31) #[] #[]) := by simp
        have q2 : (wr.alloc (.cells #[.func (.func 30) #[] #[], .func (.func 31) #[] #[], .func (.func 32) #[] #[]] 42)).cell? ⟨b, o + 2, none⟩ = some (.int .u8 k2) := (World.cell?_alloc_old _ _ _ (by simp; omega)).trans d3
        have q3 := (Below.refl wr.heap.size wr).alloc (Nat.le_refl _) (.cells #[.func (.func 30) #[] #[], .func (.func 31) #[] #[], .func (.func 32) #[] #[]] 42)
        have HQ : Hid (Six (wr.alloc (.cells #[.func (.func 30) #[] #[], .func (.func 31) #[] #[], .func (.func 32) #[] #[]] 42)) w.heap.size (Sp.at ⟨0, 0, 0, 0, 0, 0⟩) ∧ Six (wr.alloc (.cells #[.func (.func 30) #[] #[], .func (.func 31) #[] #[], .func (.func 32) #[] #[]] 42)) (w.heap.size + 1) (gN ⟨k0, k1, k2, k3, k4, k5⟩ 2) ∧ Below w.heap.size w (wr.alloc (.cells #[.func (.func 30) #[] #[], .func (.func 31) #[] #[], .func (.func 32) #[] #[]] 42))) := ⟨HT.out.1.later q3, HT.out.2.1.later q3, HT.out.2.2.trans (q3.mono s0)⟩
        clear HT d3 q3 hix
        generalize wr.alloc (.cells #[.func (.func 30) #[] #[], .func (.func 31) #[] #[], .func (.func 32) #[] #[]] 42) = W at *
        have hd : Six W.drew (w.heap.size + 1) (gN ⟨k0, k1, k2, k3, k4, k5⟩ 2) := HQ.out.2.1
        have q6 : IntKind.i64.wrap k2 = k2 := by rw [IntKind.wrap_i64]; omega
        go_region_held3 (fun w' => w'.cell? ⟨wr.heap.size, 1, none⟩ = some (.func (.func 31) #[] #[]) ∧ w'.cell? ⟨b, o + 2, none⟩ = some (.int .u8 k2)) (first | exact ⟨q1, q2⟩ | exact ⟨q4, q5⟩)
          (first | (go_at_call 31; refine (set2_any _ _ _ W.drew hd).mono ?_; rintro r w6 ⟨rfl, hw6⟩; have HW : Hid (w6 = W.drew.setCell ⟨w.heap.size + 1, 2, none⟩ (.int .i64 k2)) := hw6; clear hw6; have q4 : w6.cell? ⟨wr.heap.size, 1, none⟩ = some (.func (.func 31) #[] #[]) := (cell_set HW.out (by omega)).trans q1; have q5 : w6.cell? ⟨b, o + 2, none⟩ = some (.int .u8 k2) := (cell_set HW.out (by omega)).trans q2))
        all_goals
          have HE : Hid (Six w6 w.heap.size (Sp.at ⟨0, 0, 0, 0, 0, 0⟩) ∧ Six w6 (w.heap.size + 1) (gN ⟨k0, k1, k2, k3, k4, k5⟩ (2 + 1)) ∧ Below w.heap.size w w6) := by
            rw [HW.out]
            exact ⟨Six.other (w := W.drew) HQ.out.1 (by omega) _, hd.step (by omega), Below.setCell (Below.drew HQ.out.2.2) (by simp) _⟩
          clear HQ hd HW q1 q2 q4 q5
          go_wp2_with fail
          go_roundw
          case rel => exact ⟨3, by omega, by go_num, HE.out.2.2, HE.out.1, HE.out.2.1⟩
          case measure => simp [intOf]
      · have hix := idx3
        obtain ⟨d0, d1, d2⟩ := HC.out 3 (by omega)
        have d3 : w.cell? ⟨b, o + 3, none⟩ = some (.int .u8 k3) := d0
        replace d1 : 0 ≤ k3 := d1
        replace d2 : k3 ≤ 255 := d2
        replace d3 := cell_later (cell_below_w hbw) d3
        have HT : Hid (Six wr w.heap.size (Sp.at ⟨0, 0, 0, 0, 0, 0⟩) ∧ Six wr (w.heap.size + 1) (gN ⟨k0, k1, k2, k3, k4, k5⟩ 3) ∧ Below w.heap.size w wr) := ⟨hRr, hSr, hbw⟩
        clear hSr hRr d0 hbw
        go_wp2_with fail
        have q1 : (wr.alloc (.cells #[.func (.func 33) #[] #[], .func (.func 34) #[] #[], .func (.func 35) #[] #[]] 42)).cell? ⟨wr.heap.size, 1, none⟩ = some (.func (.func 34) #[] #[]) := by simp
        have q2 : (wr.alloc (.cells #[.func (.func 33) #[] #[], .func (.func 34) #[] #[], .func (.func 35) #[] #[]] 42)).cell? ⟨b, o + 3, none⟩ = some (.int .u8 k3) := (World.cell?_alloc_old _ _ _ (by simp; omega)).trans d3
        have q3 := (Below.refl wr.heap.size wr).alloc (Nat.le_refl _) (.cells #[.func (.func 33) #[] #[], .func (.func 34) #[] #[], .func (.func 35) #[] #[]] 42)
        have HQ : Hid (Six (wr.alloc (.cells #[.func (.func 33) #[] #[], .func (.func 34) #[] #[], .func (.func 35) #[] #[]] 42)) w.heap.size (Sp.at ⟨0, 0, 0, 0, 0, 0⟩) ∧ Six (wr.alloc (.cells #[.func (.func 33) #[] #[], .func (.func 34) #[] #[], .func (.func 35) #[] #[]] 42)) (w.heap.size + 1) (gN ⟨k0, k1, k2, k3, k4, k5⟩ 3) ∧ Below w.heap.size w (wr.alloc (.cells #[.func (.func 33) #[] #[], .func (.func 34) #[] #[], .func (.func 35) #[] #[]] 42))) := ⟨HT.out.1.later q3, HT.out.2.1.later q3, HT.out.2.2.trans (q3.mono s0)⟩
        clear HT d3 q3 hix
        generalize wr.alloc (.cells #[.func (.func 33) #[] #[], .func (.func 34) #[] #[], .func (.func 35) #[] #[]] 42) = W at *
        have hd : Six W.drew (w.heap.size + 1) (gN ⟨k0, k1, k2, k3, k4, k5⟩ 3) := HQ.out.2.1
        have q6 : IntKind.i64.wrap k3 = k3 := by rw [IntKind.wrap_i64]; omega
        go_region_held3 (fun w' => w'.cell? ⟨wr.heap.size, 1, none⟩ = some (.func (.func 34) #[] #[]) ∧ w'.cell? ⟨b, o + 3, none⟩ = some (.int .u8 k3)) (first | exact ⟨q1, q2⟩ | exact ⟨q4, q5⟩)
          (first | (go_at_call 34; refine (set3_any _ _ _ W.drew hd).mono ?_; rintro r w6 ⟨rfl, hw6⟩; have HW : Hid (w6 = W.drew.setCell ⟨w.heap.size + 1, 3, none⟩ (.int .i64 k3)) := hw6; clear hw6; have q4 : w6.cell? ⟨wr.heap.size, 1, none⟩ = some (.func (.func 34) #[] #[]) := (cell_set HW.out (by omega)).trans q1; have q5 : w6.cell? ⟨b, o + 3, none⟩ = some (.int .u8 k3) := (cell_set HW.out (by omega)).trans q2))
        all_goals
          have HE : Hid (Six w6 w.heap.size (Sp.at ⟨0, 0, 0, 0, 0, 0⟩) ∧ Six w6 (w.heap.size + 1) (gN ⟨k0, k1, k2, k3, k4, k5⟩ (3 + 1)) ∧ Below w.heap.size w w6) := by
            rw [HW.out]
            exact ⟨Six.other (w := W.drew) HQ.out.1 (by omega) _, hd.step (by omega), Below.setCell (Below.drew HQ.out.2.2) (by simp) _⟩
          clear HQ hd HW q1 q2 q4 q5
          go_wp2_with fail
          go_roundw
          case rel => exact ⟨4, by omega, by go_num, HE.out.2.2, HE.out.1, HE.out.2.1⟩
          case measure => simp [intOf]
      · have hix := idx4
        obtain ⟨d0, d1, d2⟩ := HC.out 4 (by omega)
        have d3 : w.cell? ⟨b, o + 4, none⟩ = some (.int .u8 k4) := d0
        replace d1 : 0 ≤ k4 := d1
        replace d2 : k4 ≤ 255 := d2
        replace d3 := cell_later (cell_below_w hbw) d3
        have HT : Hid (Six wr w.heap.size (Sp.at ⟨0, 0, 0, 0, 0, 0⟩) ∧ Six wr (w.heap.size + 1) (gN ⟨k0, k1, k2, k3, k4, k5⟩ 4) ∧ Below w.heap.size w wr) := ⟨hRr, hSr, hbw⟩
        clear hSr hRr d0 hbw
        go_wp2_with fail
        have q1 : (wr.alloc (.cells #[.func (.func 36) #[] #[], .func (.func 37) #[] #[], .func (.func 35) #[] #[]] 42)).cell? ⟨wr.heap.size, 1, none⟩ = some (.func (.func 37) #[] #[]) := by simp
        have q2 : (wr.alloc (.cells #[.func (.func 36) #[] #[], .func (.func 37) #[] #[], .func (.func 35) #[] #[]] 42)).cell? ⟨b, o + 4, none⟩ = some (.int .u8 k4) := (World.cell?_alloc_old _ _ _ (by simp; omega)).trans d3
        have q3 := (Below.refl wr.heap.size wr).alloc (Nat.le_refl _) (.cells #[.func (.func 36) #[] #[], .func (.func 37) #[] #[], .func (.func 35) #[] #[]] 42)
        have HQ : Hid (Six (wr.alloc (.cells #[.func (.func 36) #[] #[], .func (.func 37) #[] #[], .func (.func 35) #[] #[]] 42)) w.heap.size (Sp.at ⟨0, 0, 0, 0, 0, 0⟩) ∧ Six (wr.alloc (.cells #[.func (.func 36) #[] #[], .func (.func 37) #[] #[], .func (.func 35) #[] #[]] 42)) (w.heap.size + 1) (gN ⟨k0, k1, k2, k3, k4, k5⟩ 4) ∧ Below w.heap.size w (wr.alloc (.cells #[.func (.func 36) #[] #[], .func (.func 37) #[] #[], .func (.func 35) #[] #[]] 42))) := ⟨HT.out.1.later q3, HT.out.2.1.later q3, HT.out.2.2.trans (q3.mono s0)⟩
        clear HT d3 q3 hix
        generalize wr.alloc (.cells #[.func (.func 36) #[] #[], .func (.func 37) #[] #[], .func (.func 35) #[] #[]] 42) = W at *
        have hd : Six W.drew (w.heap.size + 1) (gN ⟨k0, k1, k2, k3, k4, k5⟩ 4) := HQ.out.2.1
        have q6 : IntKind.i64.wrap k4 = k4 := by rw [IntKind.wrap_i64]; omega
        go_region_held3 (fun w' => w'.cell? ⟨wr.heap.size, 1, none⟩ = some (.func (.func 37) #[] #[]) ∧ w'.cell? ⟨b, o + 4, none⟩ = some (.int .u8 k4)) (first | exact ⟨q1, q2⟩ | exact ⟨q4, q5⟩)
          (first | (go_at_call 37; refine (set4_any _ _ _ W.drew hd).mono ?_; rintro r w6 ⟨rfl, hw6⟩; have HW : Hid (w6 = W.drew.setCell ⟨w.heap.size + 1, 4, none⟩ (.int .i64 k4)) := hw6; clear hw6; have q4 : w6.cell? ⟨wr.heap.size, 1, none⟩ = some (.func (.func 37) #[] #[]) := (cell_set HW.out (by omega)).trans q1; have q5 : w6.cell? ⟨b, o + 4, none⟩ = some (.int .u8 k4) := (cell_set HW.out (by omega)).trans q2))
        all_goals
          have HE : Hid (Six w6 w.heap.size (Sp.at ⟨0, 0, 0, 0, 0, 0⟩) ∧ Six w6 (w.heap.size + 1) (gN ⟨k0, k1, k2, k3, k4, k5⟩ (4 + 1)) ∧ Below w.heap.size w w6) := by
            rw [HW.out]
            exact ⟨Six.other (w := W.drew) HQ.out.1 (by omega) _, hd.step (by omega), Below.setCell (Below.drew HQ.out.2.2) (by simp) _⟩
          clear HQ hd HW q1 q2 q4 q5
          go_wp2_with fail
          go_roundw
          case rel => exact ⟨5, by omega, by go_num, HE.out.2.2, HE.out.1, HE.out.2.1⟩
          case measure => simp [intOf]
      · have hix := idx5
        obtain ⟨d0, d1, d2⟩ := HC.out 5 (by omega)
        have d3 : w.cell? ⟨b, o + 5, none⟩ = some (.int .u8 k5) := d0
        replace d1 : 0 ≤ k5 := d1
        replace d2 : k5 ≤ 255 := d2
        replace d3 := cell_later (cell_below_w hbw) d3
        have HT : Hid (Six wr w.heap.size (Sp.at ⟨0, 0, 0, 0, 0, 0⟩) ∧ Six wr (w.heap.size + 1) (gN ⟨k0, k1, k2, k3, k4, k5⟩ 5) ∧ Below w.heap.size w wr) := ⟨hRr, hSr, hbw⟩
        clear hSr hRr d0 hbw
        go_wp2_with fail
        have q1 : (wr.alloc (.cells #[.func (.func 38) #[] #[], .func (.func 39) #[] #[], .func (.func 40) #[] #[]] 42)).cell? ⟨wr.heap.size, 1, none⟩ = some (.func (.func 39) #[] #[]) := by simp
        have q2 : (wr.alloc (.cells #[.func (.func 38) #[] #[], .func (.func 39) #[] #[], .func (.func 40) #[] #[]] 42)).cell? ⟨b, o + 5, none⟩ = some (.int .u8 k5) := (World.cell?_alloc_old _ _ _ (by simp; omega)).trans d3
        have q3 := (Below.refl wr.heap.size wr).alloc (Nat.le_refl _) (.cells #[.func (.func 38) #[] #[], .func (.func 39) #[] #[], .func (.func 40) #[] #[]] 42)
        have HQ : Hid (Six (wr.alloc (.cells #[.func (.func 38) #[] #[], .func (.func 39) #[] #[], .func (.func 40) #[] #[]] 42)) w.heap.size (Sp.at ⟨0, 0, 0, 0, 0, 0⟩) ∧ Six (wr.alloc (.cells #[.func (.func 38) #[] #[], .func (.func 39) #[] #[], .func (.func 40) #[] #[]] 42)) (w.heap.size + 1) (gN ⟨k0, k1, k2, k3, k4, k5⟩ 5) ∧ Below w.heap.size w (wr.alloc (.cells #[.func (.func 38) #[] #[], .func (.func 39) #[] #[], .func (.func 40) #[] #[]] 42))) := ⟨HT.out.1.later q3, HT.out.2.1.later q3, HT.out.2.2.trans (q3.mono s0)⟩
        clear HT d3 q3 hix
        generalize wr.alloc (.cells #[.func (.func 38) #[] #[], .func (.func 39) #[] #[], .func (.func 40) #[] #[]] 42) = W at *
        have hd : Six W.drew (w.heap.size + 1) (gN ⟨k0, k1, k2, k3, k4, k5⟩ 5) := HQ.out.2.1
        have q6 : IntKind.i64.wrap k5 = k5 := by rw [IntKind.wrap_i64]; omega
        go_region_held3 (fun w' => w'.cell? ⟨wr.heap.size, 1, none⟩ = some (.func (.func 39) #[] #[]) ∧ w'.cell? ⟨b, o + 5, none⟩ = some (.int .u8 k5)) (first | exact ⟨q1, q2⟩ | exact ⟨q4, q5⟩)
          (first | (go_at_call 39; refine (set5_any _ _ _ W.drew hd).mono ?_; rintro r w6 ⟨rfl, hw6⟩; have HW : Hid (w6 = W.drew.setCell ⟨w.heap.size + 1, 5, none⟩ (.int .i64 k5)) := hw6; clear hw6; have q4 : w6.cell? ⟨wr.heap.size, 1, none⟩ = some (.func (.func 39) #[] #[]) := (cell_set HW.out (by omega)).trans q1; have q5 : w6.cell? ⟨b, o + 5, none⟩ = some (.int .u8 k5) := (cell_set HW.out (by omega)).trans q2))
        all_goals
          have HE : Hid (Six w6 w.heap.size (Sp.at ⟨0, 0, 0, 0, 0, 0⟩) ∧ Six w6 (w.heap.size + 1) (gN ⟨k0, k1, k2, k3, k4, k5⟩ (5 + 1)) ∧ Below w.heap.size w w6) := by
            rw [HW.out]
            exact ⟨Six.other (w := W.drew) HQ.out.1 (by omega) _, hd.step (by omega), Below.setCell (Below.drew HQ.out.2.2) (by simp) _⟩
          clear HQ hd HW q1 q2 q4 q5
          go_wp2_with fail
          go_roundw
          case rel => exact ⟨6, by omega, by go_num, HE.out.2.2, HE.out.1, HE.out.2.1⟩
          case measure => simp [intOf]
      · have hSa := hSr.all
        clear hSr
        have HR : Hid (Six wr w.heap.size (Sp.at ⟨0, 0, 0, 0, 0, 0⟩)) := hRr
        clear hRr
        obtain ⟨a0, a1, a2, a3, a4, a5, b0, b1, b2, b3, b4, b5⟩ := hSa.sp
        clear hSa
        go_wp2_with fail
        refine (known_any k0 k1 k2 k3 k4 k5 _).mono ?_
        rintro r w7 ⟨rfl, hb7⟩
        have hZ := HR.out.later hb7
        have hb8 := hbw.trans (hb7.mono s0)
        clear hb7 hbw a0 a1 a2 a3 a4 a5 b0 b1 b2 b3 b4 b5
        have s7 := hZ.lt
        obtain ⟨z0, z1, z2, z3, z4, z5, y0, y1, y2, y3, y4, y5⟩ := hZ.sp
        generalize hq : knS ⟨k0, k1, k2, k3, k4, k5⟩ = q at *
        have HQ : Hid (knS ⟨k0, k1, k2, k3, k4, k5⟩ = q) := hq
        clear hq
        obtain ⟨q0, q1, q2, q3, q4, q5⟩ := q
        unfold spV
        go_wp2_with fail
        refine bodyPost_ret (v := .tuple #[spV ⟨q0, q1, q2, q3, q4, q5⟩, .bool (maySp ⟨k0, k1, k2, k3, k4, k5⟩)]) ?_ rfl ⟨by rw [HG.out, HQ.out], below6 hb8 (by simp) q0 q1 q2 q3 q4 q5⟩
        simp [results, Try.results11, go_sem, spV, z0, z1, z2, z3, z4, z5]
  · have HG : Hid (gotS ks = spZ) := by show _ = _; unfold gotS; rw [if_neg hl]
    have HZ : Hid (maySp spZ = false ∧ knS spZ = spZ) := ⟨spZ_no, knS_no spZ_no⟩
    obtain ⟨a, cap, rfl, h1, h2, _⟩ := h
    go_enter Try.func11, Try.ntmps11
    go_wp2_with fail
    refine bodyPost_ret (v := .tuple #[spV spZ, .bool false]) ?_ rfl ⟨by rw [HG.out, HZ.out.1, HZ.out.2], ?_⟩
    · simp [results, Try.results11, go_sem, spV, spZ]
    · exact (Below.refl _ _).alloc (by simp) _
end Go.Proofs.Ytpnmdpffdeebmaa
