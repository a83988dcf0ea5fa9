/- The walk of the statement UnitsOrder: it returns true, and writes nothing that was there. -/
import Derived.Test.YtchhniejahbgcaaDoorU6
import Derived.Test.YtchhniejahbgcaaDoorU9
namespace Go.Proofs.YtchhniejahbgcaaDoor
open Go.RowKit

theorem sumB_rev (ks : List Int) : sumB ks.reverse = sumB ks := by unfold sumB; rw [List.length_reverse, List.all_reverse]
theorem sum_rev (ks : List Int) : ks.reverse.sum = ks.sum := by
  induction ks with
  | nil => rfl
  | cons x xs ih => rw [List.reverse_cons, List.sum_append, ih]; simp; omega
theorem sumV_rev (ks : List Int) : sumV ks.reverse = sumV ks := by unfold sumV; rw [sumB_rev, sum_rev]
theorem fitB_rev (ks : List Int) : fitB6 ks.reverse = fitB6 ks := by unfold fitB6; rw [sumB_rev, sumV_rev]
theorem sumB_end {ks : List Int} (x : Int) (h : ks.length ≤ 500) : sumB (ks.reverse ++ [x]) = (sumB ks && unB x) := by
  unfold sumB
  rw [List.all_append, List.all_reverse, List.length_append, List.length_reverse]
  rw [decide_eq_true (show ks.length + [x].length ≤ 1000 by simp; omega), decide_eq_true (show ks.length ≤ 1000 by omega)]
  simp
theorem sumV_end {ks : List Int} {x : Int} (h : ks.length ≤ 500) (h1 : sumB ks = true) (h2 : unB x = true) : sumV (ks.reverse ++ [x]) = sumV ks + x := by
  have h3 : sumB (ks.reverse ++ [x]) = true := by rw [sumB_end x h, h1, h2]; rfl
  rw [sum_yes h3, sum_yes h1, List.sum_append, sum_rev]; simp
theorem sumV_bd {ks : List Int} (h : ks.length ≤ 1100) : 0 ≤ sumV ks ∧ sumV ks ≤ 1209462790553600 := by
  cases hb : sumB ks
  · rw [sum_no hb]; omega
  · rw [sum_yes hb]
    have : ks.all unB = true := by unfold sumB at hb; rw [Bool.and_eq_true] at hb; exact hb.2
    have := sum_le this
    omega
theorem rev_take {ks : List Int} {j : Nat} (h : j < ks.length) : ks.reverse.take (j + 1) = ks.reverse.take j ++ [ks.getD (ks.length - j - 1) 0] := by
  have h' : j < ks.reverse.length := by simpa using h
  rw [List.take_add_one, List.getElem?_eq_getElem h']
  have : ks.getD (ks.length - j - 1) 0 = ks.reverse[j] := by
    rw [List.getElem_reverse]
    simp only [List.getD]
    rw [List.getElem?_eq_getElem (by omega)]
    simp only [Option.getD_some]
    congr 1; omega
  rw [this]; rfl

set_option maxHeartbeats 2000000 in
set_option maxRecDepth 100000 in
theorem law_uorder (ks : List Int) (v : Value) (x : Int) (w : World) (h : Nums w v ks) (hL : Lim w) :
    Calls Tryd.prog 7 #[v, .int .i64 x] w fun e w' => e = .returned (.bool true) ∧ Below w.heap.size w w' := by
  have HN : Hid (Nums w v ks ∧ Lim w) := ⟨h, hL⟩
  obtain ⟨a, cap, rfl, h1, h2, h3⟩ := h
  have H3 : Hid (ks ≠ [] → ∃ b o, a = some ⟨b, o, none⟩ ∧ ∀ i, i < ks.length → w.cell? ⟨b, o + i, none⟩ = some (.int .i64 (ks.getD i 0))) := h3
  clear h3
  go_enter Tryd.func7, Tryd.ntmps7
  go_wp2_with fail
  refine (awake6_any _ hL).mono ?_
  rintro e w1 ⟨rfl, hb1⟩
  clear hL
  have HB1 : Hid (Below w.heap.size w w1) := hb1
  clear hb1
  by_cases cl : (ks.length : Int) > 500
  · go_wp2
    go_ret
    exact ⟨rfl, HB1.out⟩
  · go_wp2_with fail
    go_loopw [6, 7] (fun l i wr => ∃ (j : Nat), j ≤ ks.length ∧ i = .int .i64 ((ks.length : Int) - j) ∧ Hid (wr.ownsRow w1.heap.size 3 1 l j (ivs (ks.reverse.take j))) ∧ Hid (Below w1.heap.size w1 wr)) (fun _ i _ => (intOf i).toNat)
    case atStart => exact ⟨0, by omega, by simp, World.ownsRow_nil _ _ _ _, Below.refl _ _⟩
    case round =>
      obtain ⟨j, hj, rfl, HO, HW⟩ := hrel
      by_cases hlt : (j : Int) < ks.length
      · obtain ⟨b, o, rfl, h4⟩ := H3.out (by intro e; rw [e, List.length_nil] at hlt; omega)
        have hc := cell_later HW.out (cell_later HB1.out (h4 (ks.length - j - 1) (by omega))) 
        have HT : Hid (ks.reverse.take (j + 1) = ks.reverse.take j ++ [ks.getD (ks.length - j - 1) 0]) := rev_take (by omega)
        clear h4
        generalize ks.getD (ks.length - j - 1) 0 = y at *
        obtain ⟨q, hq⟩ : ∃ q : Nat, ks.length - j - 1 = q := ⟨_, rfl⟩
        rw [hq] at hc
        have hq' : (ks.length : Int) - j = q + 1 := by omega
        rw [hq']
        have s3 := HW.out.size
        have hown1 := HO.out.alloc (.cells #[.int .i64 y] 3)
        have hlit := nums_one wr y
        have hnc : NilCap (.slice (some ⟨wr.heap.size, 0, none⟩) 1 1) := fun c h => by simp at h
        clear hq
        go_wp2_with (first
          | (at_builtin; refine append_nums rfl _ _ rfl w1.heap.size _ _ _ _ [y] rfl hown1 rfl hlit hnc (by simp; omega) (by simp; omega) ?_))
        intro v' w4 hown' _ hb4
        have HO4 : Hid (w4.ownsRow w1.heap.size 3 1 v' (j + 1) (ivs (ks.reverse.take (j + 1)))) := by show World.ownsRow _ _ _ _ _ _ _; rw [HT.out]; exact hown'
        have HB4 : Hid (Below w1.heap.size w1 w4) := (HW.out.alloc s3 _).trans hb4
        clear hown' hown1 hlit hnc hb4
        go_wp2_with fail
        go_roundw
        case rel => exact ⟨j + 1, by omega, by go_num, HO4.out, HB4.out⟩
        case measure => simp [intOf]
      · obtain rfl : j = ks.length := by omega
        have HO2 : Hid (wr.ownsRow w1.heap.size 3 1 u6 ks.length (ivs ks.reverse)) := by
          have := HO.out
          rw [show ks.reverse.take ks.length = ks.reverse by rw [← List.length_reverse, List.take_length]] at this
          exact this
        have HB2 : Hid (Below w.heap.size w wr) := HB1.out.trans (HW.out.mono HB1.out.size)
        clear HO
        go_wp2_with fail
        have HB3 : Hid (Below w1.heap.size w1 wr) := HW.out
        obtain ⟨s, hs⟩ : ∃ s, sumV ks = s := ⟨_, rfl⟩
        have hsb := sumV_bd (ks := ks) (by omega)
        rw [hs] at hsb
        have HV : Hid (sumV ks = s) := hs
        clear hs HW
        by_cases f0 : 0 ≤ x
        · by_cases f1 : x ≤ 1099511627776
          · cases hE : sumB ks
            · have hU : unB x = true := by unfold unB wiB; exact decide_eq_true ⟨f0, f1⟩
              have HE : Hid (sumB ks = false) := hE
              have HG : Hid (sumB (ks.reverse ++ [x]) = false) := by show _ = _; rw [sumB_end x (by omega), hE, hU]; rfl
              clear hE hU
              refine (sum_any ks _ _ (HN.out.1.later HB2.out) (HN.out.2.later HB2.out)).mono ?_
              rintro e w2 ⟨rfl, rfl⟩
              rw [HE.out, HV.out]
              go_wp2_with fail
              refine (sum_any ks.reverse _ _ (Nums.own HO2.out).1 (HN.out.2.later HB2.out)).mono ?_
              rintro e w3 ⟨rfl, rfl⟩
              rw [sumV_rev, sumB_rev, HE.out, HV.out]
              have hown1 := HO2.out.alloc (.cells #[.int .i64 x] 3)
              have hlit := nums_one w3 x
              have hnc : NilCap (.slice (some ⟨w3.heap.size, 0, none⟩) 1 1) := fun c h => by simp at h
              have s3 := HB3.out.size
              go_wp2_with (first
                | (at_builtin; refine append_nums rfl _ _ rfl w1.heap.size _ _ _ _ [x] rfl hown1 rfl hlit hnc (by simp; omega) (by simp; omega) ?_))
              intro v' w4 hown' hkeep hb4
              have HB4 : Hid (Below w.heap.size w w4) := (HB2.out.alloc HB2.out.size _).trans (hb4.mono HB1.out.size)
              have HK : Hid (Nums w4 v' (ks.reverse ++ [x]) ∧ Nums w4 u6 ks.reverse) := ⟨(Nums.own hown').1, (Nums.own hkeep).1⟩
              clear hown' hkeep hb4 hown1 hlit hnc
              go_wp2_with fail
              refine (sum_any _ _ _ HK.out.1 (HN.out.2.later HB4.out)).mono ?_
              rintro e w5 ⟨rfl, rfl⟩
              rw [HG.out, sum_no HG.out]
              go_wp2_with fail
              refine (fits_any ks _ _ (HN.out.1.later HB4.out) (HN.out.2.later HB4.out)).mono ?_
              rintro e w6 ⟨rfl, rfl⟩
              go_wp2_with fail
              refine (fits_any ks.reverse _ _ HK.out.2 (HN.out.2.later HB4.out)).mono ?_
              rintro e w7 ⟨rfl, rfl⟩
              rw [fitB_rev]
              go_wp2
              go_ret
              exact ⟨by first | rfl | (simp; done) | (simp; omega), HB4.out⟩
            · have hU : unB x = true := by unfold unB wiB; exact decide_eq_true ⟨f0, f1⟩
              have HE : Hid (sumB ks = true) := hE
              have HG : Hid (sumB (ks.reverse ++ [x]) = true) := by show _ = _; rw [sumB_end x (by omega), hE, hU]; rfl
              have HS : Hid (sumV (ks.reverse ++ [x]) = s + x) := by show _ = _; rw [sumV_end (by omega) hE hU, HV.out]
              clear hE hU
              refine (sum_any ks _ _ (HN.out.1.later HB2.out) (HN.out.2.later HB2.out)).mono ?_
              rintro e w2 ⟨rfl, rfl⟩
              rw [HE.out, HV.out]
              go_wp2_with fail
              refine (sum_any ks.reverse _ _ (Nums.own HO2.out).1 (HN.out.2.later HB2.out)).mono ?_
              rintro e w3 ⟨rfl, rfl⟩
              rw [sumV_rev, sumB_rev, HE.out, HV.out]
              have hown1 := HO2.out.alloc (.cells #[.int .i64 x] 3)
              have hlit := nums_one w3 x
              have hnc : NilCap (.slice (some ⟨w3.heap.size, 0, none⟩) 1 1) := fun c h => by simp at h
              have s3 := HB3.out.size
              go_wp2_with (first
                | (at_builtin; refine append_nums rfl _ _ rfl w1.heap.size _ _ _ _ [x] rfl hown1 rfl hlit hnc (by simp; omega) (by simp; omega) ?_))
              intro v' w4 hown' hkeep hb4
              have HB4 : Hid (Below w.heap.size w w4) := (HB2.out.alloc HB2.out.size _).trans (hb4.mono HB1.out.size)
              have HK : Hid (Nums w4 v' (ks.reverse ++ [x]) ∧ Nums w4 u6 ks.reverse) := ⟨(Nums.own hown').1, (Nums.own hkeep).1⟩
              clear hown' hkeep hb4 hown1 hlit hnc
              go_wp2_with fail
              refine (sum_any _ _ _ HK.out.1 (HN.out.2.later HB4.out)).mono ?_
              rintro e w5 ⟨rfl, rfl⟩
              rw [HG.out, HS.out]
              go_wp2_with fail
              refine (fits_any ks _ _ (HN.out.1.later HB4.out) (HN.out.2.later HB4.out)).mono ?_
              rintro e w6 ⟨rfl, rfl⟩
              go_wp2_with fail
              refine (fits_any ks.reverse _ _ HK.out.2 (HN.out.2.later HB4.out)).mono ?_
              rintro e w7 ⟨rfl, rfl⟩
              rw [fitB_rev]
              go_wp2
              go_ret
              exact ⟨by first | rfl | (simp; done) | (simp; omega), HB4.out⟩
          · cases hE : sumB ks
            · have hU : unB x = false := by unfold unB wiB; exact decide_eq_false (by omega)
              have HE : Hid (sumB ks = false) := hE
              have HG : Hid (sumB (ks.reverse ++ [x]) = false) := by show _ = _; rw [sumB_end x (by omega), hE, hU]; rfl
              clear hE hU
              refine (sum_any ks _ _ (HN.out.1.later HB2.out) (HN.out.2.later HB2.out)).mono ?_
              rintro e w2 ⟨rfl, rfl⟩
              rw [HE.out, HV.out]
              go_wp2_with fail
              refine (sum_any ks.reverse _ _ (Nums.own HO2.out).1 (HN.out.2.later HB2.out)).mono ?_
              rintro e w3 ⟨rfl, rfl⟩
              rw [sumV_rev, sumB_rev, HE.out, HV.out]
              have hown1 := HO2.out.alloc (.cells #[.int .i64 x] 3)
              have hlit := nums_one w3 x
              have hnc : NilCap (.slice (some ⟨w3.heap.size, 0, none⟩) 1 1) := fun c h => by simp at h
              have s3 := HB3.out.size
              go_wp2_with (first
                | (at_builtin; refine append_nums rfl _ _ rfl w1.heap.size _ _ _ _ [x] rfl hown1 rfl hlit hnc (by simp; omega) (by simp; omega) ?_))
              intro v' w4 hown' hkeep hb4
              have HB4 : Hid (Below w.heap.size w w4) := (HB2.out.alloc HB2.out.size _).trans (hb4.mono HB1.out.size)
              have HK : Hid (Nums w4 v' (ks.reverse ++ [x]) ∧ Nums w4 u6 ks.reverse) := ⟨(Nums.own hown').1, (Nums.own hkeep).1⟩
              clear hown' hkeep hb4 hown1 hlit hnc
              go_wp2_with fail
              refine (sum_any _ _ _ HK.out.1 (HN.out.2.later HB4.out)).mono ?_
              rintro e w5 ⟨rfl, rfl⟩
              rw [HG.out, sum_no HG.out]
              go_wp2_with fail
              refine (fits_any ks _ _ (HN.out.1.later HB4.out) (HN.out.2.later HB4.out)).mono ?_
              rintro e w6 ⟨rfl, rfl⟩
              go_wp2_with fail
              refine (fits_any ks.reverse _ _ HK.out.2 (HN.out.2.later HB4.out)).mono ?_
              rintro e w7 ⟨rfl, rfl⟩
              rw [fitB_rev]
              go_wp2
              go_ret
              exact ⟨by first | rfl | (simp; done) | (simp; omega), HB4.out⟩
            · have hU : unB x = false := by unfold unB wiB; exact decide_eq_false (by omega)
              have HE : Hid (sumB ks = true) := hE
              have HG : Hid (sumB (ks.reverse ++ [x]) = false) := by show _ = _; rw [sumB_end x (by omega), hE, hU]; rfl
              clear hE hU
              refine (sum_any ks _ _ (HN.out.1.later HB2.out) (HN.out.2.later HB2.out)).mono ?_
              rintro e w2 ⟨rfl, rfl⟩
              rw [HE.out, HV.out]
              go_wp2_with fail
              refine (sum_any ks.reverse _ _ (Nums.own HO2.out).1 (HN.out.2.later HB2.out)).mono ?_
              rintro e w3 ⟨rfl, rfl⟩
              rw [sumV_rev, sumB_rev, HE.out, HV.out]
              have hown1 := HO2.out.alloc (.cells #[.int .i64 x] 3)
              have hlit := nums_one w3 x
              have hnc : NilCap (.slice (some ⟨w3.heap.size, 0, none⟩) 1 1) := fun c h => by simp at h
              have s3 := HB3.out.size
              go_wp2_with (first
                | (at_builtin; refine append_nums rfl _ _ rfl w1.heap.size _ _ _ _ [x] rfl hown1 rfl hlit hnc (by simp; omega) (by simp; omega) ?_))
              intro v' w4 hown' hkeep hb4
              have HB4 : Hid (Below w.heap.size w w4) := (HB2.out.alloc HB2.out.size _).trans (hb4.mono HB1.out.size)
              have HK : Hid (Nums w4 v' (ks.reverse ++ [x]) ∧ Nums w4 u6 ks.reverse) := ⟨(Nums.own hown').1, (Nums.own hkeep).1⟩
              clear hown' hkeep hb4 hown1 hlit hnc
              go_wp2_with fail
              refine (sum_any _ _ _ HK.out.1 (HN.out.2.later HB4.out)).mono ?_
              rintro e w5 ⟨rfl, rfl⟩
              rw [HG.out, sum_no HG.out]
              go_wp2_with fail
              refine (fits_any ks _ _ (HN.out.1.later HB4.out) (HN.out.2.later HB4.out)).mono ?_
              rintro e w6 ⟨rfl, rfl⟩
              go_wp2_with fail
              refine (fits_any ks.reverse _ _ HK.out.2 (HN.out.2.later HB4.out)).mono ?_
              rintro e w7 ⟨rfl, rfl⟩
              rw [fitB_rev]
              go_wp2
              go_ret
              exact ⟨by first | rfl | (simp; done) | (simp; omega), HB4.out⟩
        · cases hE : sumB ks
          · have hU : unB x = false := by unfold unB wiB; exact decide_eq_false (by omega)
            have HE : Hid (sumB ks = false) := hE
            have HG : Hid (sumB (ks.reverse ++ [x]) = false) := by show _ = _; rw [sumB_end x (by omega), hE, hU]; rfl
            clear hE hU
            refine (sum_any ks _ _ (HN.out.1.later HB2.out) (HN.out.2.later HB2.out)).mono ?_
            rintro e w2 ⟨rfl, rfl⟩
            rw [HE.out, HV.out]
            go_wp2_with fail
            refine (sum_any ks.reverse _ _ (Nums.own HO2.out).1 (HN.out.2.later HB2.out)).mono ?_
            rintro e w3 ⟨rfl, rfl⟩
            rw [sumV_rev, sumB_rev, HE.out, HV.out]
            have hown1 := HO2.out.alloc (.cells #[.int .i64 x] 3)
            have hlit := nums_one w3 x
            have hnc : NilCap (.slice (some ⟨w3.heap.size, 0, none⟩) 1 1) := fun c h => by simp at h
            have s3 := HB3.out.size
            go_wp2_with (first
              | (at_builtin; refine append_nums rfl _ _ rfl w1.heap.size _ _ _ _ [x] rfl hown1 rfl hlit hnc (by simp; omega) (by simp; omega) ?_))
            intro v' w4 hown' hkeep hb4
            have HB4 : Hid (Below w.heap.size w w4) := (HB2.out.alloc HB2.out.size _).trans (hb4.mono HB1.out.size)
            have HK : Hid (Nums w4 v' (ks.reverse ++ [x]) ∧ Nums w4 u6 ks.reverse) := ⟨(Nums.own hown').1, (Nums.own hkeep).1⟩
            clear hown' hkeep hb4 hown1 hlit hnc
            go_wp2_with fail
            refine (sum_any _ _ _ HK.out.1 (HN.out.2.later HB4.out)).mono ?_
            rintro e w5 ⟨rfl, rfl⟩
            rw [HG.out, sum_no HG.out]
            go_wp2_with fail
            refine (fits_any ks _ _ (HN.out.1.later HB4.out) (HN.out.2.later HB4.out)).mono ?_
            rintro e w6 ⟨rfl, rfl⟩
            go_wp2_with fail
            refine (fits_any ks.reverse _ _ HK.out.2 (HN.out.2.later HB4.out)).mono ?_
            rintro e w7 ⟨rfl, rfl⟩
            rw [fitB_rev]
            go_wp2
            go_ret
            exact ⟨by first | rfl | (simp; done) | (simp; omega), HB4.out⟩
          · have hU : unB x = false := by unfold unB wiB; exact decide_eq_false (by omega)
            have HE : Hid (sumB ks = true) := hE
            have HG : Hid (sumB (ks.reverse ++ [x]) = false) := by show _ = _; rw [sumB_end x (by omega), hE, hU]; rfl
            clear hE hU
            refine (sum_any ks _ _ (HN.out.1.later HB2.out) (HN.out.2.later HB2.out)).mono ?_
            rintro e w2 ⟨rfl, rfl⟩
            rw [HE.out, HV.out]
            go_wp2_with fail
            refine (sum_any ks.reverse _ _ (Nums.own HO2.out).1 (HN.out.2.later HB2.out)).mono ?_
            rintro e w3 ⟨rfl, rfl⟩
            rw [sumV_rev, sumB_rev, HE.out, HV.out]
            have hown1 := HO2.out.alloc (.cells #[.int .i64 x] 3)
            have hlit := nums_one w3 x
            have hnc : NilCap (.slice (some ⟨w3.heap.size, 0, none⟩) 1 1) := fun c h => by simp at h
            have s3 := HB3.out.size
            go_wp2_with (first
              | (at_builtin; refine append_nums rfl _ _ rfl w1.heap.size _ _ _ _ [x] rfl hown1 rfl hlit hnc (by simp; omega) (by simp; omega) ?_))
            intro v' w4 hown' hkeep hb4
            have HB4 : Hid (Below w.heap.size w w4) := (HB2.out.alloc HB2.out.size _).trans (hb4.mono HB1.out.size)
            have HK : Hid (Nums w4 v' (ks.reverse ++ [x]) ∧ Nums w4 u6 ks.reverse) := ⟨(Nums.own hown').1, (Nums.own hkeep).1⟩
            clear hown' hkeep hb4 hown1 hlit hnc
            go_wp2_with fail
            refine (sum_any _ _ _ HK.out.1 (HN.out.2.later HB4.out)).mono ?_
            rintro e w5 ⟨rfl, rfl⟩
            rw [HG.out, sum_no HG.out]
            go_wp2_with fail
            refine (fits_any ks _ _ (HN.out.1.later HB4.out) (HN.out.2.later HB4.out)).mono ?_
            rintro e w6 ⟨rfl, rfl⟩
            go_wp2_with fail
            refine (fits_any ks.reverse _ _ HK.out.2 (HN.out.2.later HB4.out)).mono ?_
            rintro e w7 ⟨rfl, rfl⟩
            rw [fitB_rev]
            go_wp2
            go_ret
            exact ⟨by first | rfl | (simp; done) | (simp; omega), HB4.out⟩
end Go.Proofs.YtchhniejahbgcaaDoor
