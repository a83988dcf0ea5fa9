/- The walk of the statement UnitsParts: it returns true, and writes nothing that was there. -/
import Derived.Test.YtchhniejahbgcaaDoorU10
namespace Go.Proofs.YtchhniejahbgcaaDoor
open Go.RowKit

theorem sumB_app {ks ls : List Int} (h : ks.length ≤ 500) (h' : ls.length ≤ 500) : sumB (ks ++ ls) = (sumB ks && sumB ls) := by
  unfold sumB
  rw [List.all_append, List.length_append, decide_eq_true (show ks.length + ls.length ≤ 1000 by omega), decide_eq_true (show ks.length ≤ 1000 by omega), decide_eq_true (show ls.length ≤ 1000 by omega)]
  simp
theorem sumV_app {ks ls : List Int} (h : ks.length ≤ 500) (h' : ls.length ≤ 500) (h1 : sumB ks = true) (h2 : sumB ls = true) : sumV (ks ++ ls) = sumV ks + sumV ls := by
  have h3 : sumB (ks ++ ls) = true := by rw [sumB_app h h', h1, h2]; rfl
  rw [sum_yes h3, sum_yes h1, sum_yes h2, List.sum_append]
theorem fit_parts {ks ls : List Int} (h : ks.length ≤ 500) (h' : ls.length ≤ 500) (hf : fitB6 (ks ++ ls) = true) : fitB6 ks = true ∧ fitB6 ls = true := by
  unfold fitB6 at hf ⊢
  rw [Bool.and_eq_true, sumB_app h h', Bool.and_eq_true] at hf
  obtain ⟨⟨h1, h2⟩, h3⟩ := hf
  have h4 := of_decide_eq_true h3
  rw [sumV_app h h' h1 h2] at h4
  have b1 := sumV_bd (ks := ks) (by omega)
  have b2 := sumV_bd (ks := ls) (by omega)
  rw [h1, h2, decide_eq_true (show sumV ks ≤ 983040 by omega), decide_eq_true (show sumV ls ≤ 983040 by omega)]
  exact ⟨rfl, rfl⟩

set_option maxHeartbeats 2000000 in
set_option maxRecDepth 100000 in
theorem law_parts (ks ls : List Int) (u v : Value) (w : World) (h : Nums w u ks) (h' : Nums w v ls) (hn : NilCap u) (hn' : NilCap v) (hL : Lim w) :
    Calls Tryd.prog 5 #[u, v] w fun e w' => e = .returned (.bool true) ∧ Below w.heap.size w w' := by
  have HN : Hid (Nums w u ks ∧ Nums w v ls ∧ Lim w) := ⟨h, h', hL⟩
  have HC : Hid (NilCap u ∧ NilCap v) := ⟨hn, hn'⟩
  clear hn hn'
  obtain ⟨a, cap, rfl, h1, h2, h3⟩ := h
  obtain ⟨a', cap', rfl, h1', h2', h3'⟩ := h'
  clear h3 h3'
  go_enter Tryd.func5, Tryd.ntmps5
  go_wp2_with fail
  refine (awake6_any _ hL).mono ?_
  rintro e w1 ⟨rfl, hb1⟩
  clear hL
  have HB1 : Hid (Below w.heap.size w w1) := hb1
  clear hb1
  by_cases cl : (ks.length : Int) > 500
  · go_wp2
    go_ret
    exact ⟨rfl, HB1.out⟩
  · by_cases cl' : (ls.length : Int) > 500
    · go_wp2
      go_ret
      exact ⟨rfl, HB1.out⟩
    · have hr1 := HN.out.1.later HB1.out
      have hown0 := World.ownsRow_nil w1 w1.heap.size 3 1
      have hc1 := HC.out.1
      go_wp2_with (first
        | (at_builtin; refine append_nums rfl _ _ rfl w1.heap.size _ _ 0 [] ks rfl hown0 rfl hr1 hc1 (by omega) (Nat.le_refl _) ?_))
      intro v1 w2 hown1 _ hb2
      have HB2 : Hid (Below w.heap.size w w2) := HB1.out.trans (hb2.mono HB1.out.size)
      have s2 := hb2.size
      replace hown1 : w2.ownsRow w1.heap.size 3 1 v1 ks.length (ivs ks) := by simpa using hown1
      have hr2 := HN.out.2.1.later HB2.out
      have hc2 := HC.out.2
      clear hown0 hc1 hr1 hb2
      go_wp2_with (first
        | (at_builtin; refine append_nums rfl _ _ rfl w1.heap.size _ _ ks.length ks ls rfl hown1 rfl hr2 hc2 (by omega) s2 ?_))
      intro v2 w3 hown2 _ hb3
      have HB3 : Hid (Below w.heap.size w w3) := HB2.out.trans (hb3.mono HB1.out.size)
      have HA : Hid (Nums w3 v2 (ks ++ ls)) := (Nums.own hown2).1
      have HM : Hid (Nums w3 (.slice a ks.length cap) ks ∧ Nums w3 (.slice a' ls.length cap') ls ∧ Lim w3) := ⟨HN.out.1.later HB3.out, HN.out.2.1.later HB3.out, HN.out.2.2.later HB3.out⟩
      clear hown1 hown2 hr2 hc2 hb3 HC
      have k1 : ks.length ≤ 500 := by omega
      have k2 : ls.length ≤ 500 := by omega
      have HP : Hid (fitB6 (ks ++ ls) = true → fitB6 ks = true ∧ fitB6 ls = true) := fit_parts k1 k2
      have b1 := sumV_bd (ks := ks) (by omega)
      have b2 := sumV_bd (ks := ls) (by omega)
      have HS : Hid (sumB (ks ++ ls) = (sumB ks && sumB ls)) := sumB_app k1 k2
      have HT : Hid (sumB ks = true → sumB ls = true → sumV (ks ++ ls) = sumV ks + sumV ls) := sumV_app k1 k2
      obtain ⟨s, hs⟩ : ∃ s, sumV ks = s := ⟨_, rfl⟩
      obtain ⟨t, ht⟩ : ∃ t, sumV ls = t := ⟨_, rfl⟩
      rw [hs] at b1
      rw [ht] at b2
      have HV : Hid (sumV ks = s ∧ sumV ls = t) := ⟨hs, ht⟩
      clear hs ht
      go_wp2_with fail
      cases hE : sumB ks <;> cases hF : sumB ls
      · have HE : Hid (sumB ks = false ∧ sumB ls = false) := ⟨hE, hF⟩
        have HG : Hid (sumB (ks ++ ls) = false) := by show _ = _; rw [HS.out, hE, hF]; rfl
        clear hE hF
        refine (sum_any ks _ _ HM.out.1 HM.out.2.2).mono ?_
        rintro e w4 ⟨rfl, rfl⟩
        rw [HE.out.1, HV.out.1]
        go_wp2_with fail
        refine (sum_any ls _ _ HM.out.2.1 HM.out.2.2).mono ?_
        rintro e w5 ⟨rfl, rfl⟩
        rw [HE.out.2, HV.out.2]
        go_wp2_with fail
        refine (sum_any _ _ _ HA.out HM.out.2.2).mono ?_
        rintro e w6 ⟨rfl, rfl⟩
        rw [HG.out, sum_no HG.out]
        go_wp2_with fail
        refine (fits_any _ _ _ HA.out HM.out.2.2).mono ?_
        rintro e w7 ⟨rfl, rfl⟩
        cases hf : fitB6 (ks ++ ls)
        · go_wp2
          go_ret
          exact ⟨rfl, HB3.out⟩
        · have HF : Hid (fitB6 ks = true ∧ fitB6 ls = true) := HP.out hf
          clear hf
          go_wp2_with fail
          refine (fits_any ks _ _ HM.out.1 HM.out.2.2).mono ?_
          rintro e w8 ⟨rfl, rfl⟩
          rw [HF.out.1]
          go_wp2_with fail
          refine (fits_any ls _ _ HM.out.2.1 HM.out.2.2).mono ?_
          rintro e w9 ⟨rfl, rfl⟩
          rw [HF.out.2]
          go_wp2
          go_ret
          exact ⟨rfl, HB3.out⟩
      · have HE : Hid (sumB ks = false ∧ sumB ls = true) := ⟨hE, hF⟩
        have HG : Hid (sumB (ks ++ ls) = false) := by show _ = _; rw [HS.out, hE, hF]; rfl
        clear hE hF
        refine (sum_any ks _ _ HM.out.1 HM.out.2.2).mono ?_
        rintro e w4 ⟨rfl, rfl⟩
        rw [HE.out.1, HV.out.1]
        go_wp2_with fail
        refine (sum_any ls _ _ HM.out.2.1 HM.out.2.2).mono ?_
        rintro e w5 ⟨rfl, rfl⟩
        rw [HE.out.2, HV.out.2]
        go_wp2_with fail
        refine (sum_any _ _ _ HA.out HM.out.2.2).mono ?_
        rintro e w6 ⟨rfl, rfl⟩
        rw [HG.out, sum_no HG.out]
        go_wp2_with fail
        refine (fits_any _ _ _ HA.out HM.out.2.2).mono ?_
        rintro e w7 ⟨rfl, rfl⟩
        cases hf : fitB6 (ks ++ ls)
        · go_wp2
          go_ret
          exact ⟨rfl, HB3.out⟩
        · have HF : Hid (fitB6 ks = true ∧ fitB6 ls = true) := HP.out hf
          clear hf
          go_wp2_with fail
          refine (fits_any ks _ _ HM.out.1 HM.out.2.2).mono ?_
          rintro e w8 ⟨rfl, rfl⟩
          rw [HF.out.1]
          go_wp2_with fail
          refine (fits_any ls _ _ HM.out.2.1 HM.out.2.2).mono ?_
          rintro e w9 ⟨rfl, rfl⟩
          rw [HF.out.2]
          go_wp2
          go_ret
          exact ⟨rfl, HB3.out⟩
      · have HE : Hid (sumB ks = true ∧ sumB ls = false) := ⟨hE, hF⟩
        have HG : Hid (sumB (ks ++ ls) = false) := by show _ = _; rw [HS.out, hE, hF]; rfl
        clear hE hF
        refine (sum_any ks _ _ HM.out.1 HM.out.2.2).mono ?_
        rintro e w4 ⟨rfl, rfl⟩
        rw [HE.out.1, HV.out.1]
        go_wp2_with fail
        refine (sum_any ls _ _ HM.out.2.1 HM.out.2.2).mono ?_
        rintro e w5 ⟨rfl, rfl⟩
        rw [HE.out.2, HV.out.2]
        go_wp2_with fail
        refine (sum_any _ _ _ HA.out HM.out.2.2).mono ?_
        rintro e w6 ⟨rfl, rfl⟩
        rw [HG.out, sum_no HG.out]
        go_wp2_with fail
        refine (fits_any _ _ _ HA.out HM.out.2.2).mono ?_
        rintro e w7 ⟨rfl, rfl⟩
        cases hf : fitB6 (ks ++ ls)
        · go_wp2
          go_ret
          exact ⟨rfl, HB3.out⟩
        · have HF : Hid (fitB6 ks = true ∧ fitB6 ls = true) := HP.out hf
          clear hf
          go_wp2_with fail
          refine (fits_any ks _ _ HM.out.1 HM.out.2.2).mono ?_
          rintro e w8 ⟨rfl, rfl⟩
          rw [HF.out.1]
          go_wp2_with fail
          refine (fits_any ls _ _ HM.out.2.1 HM.out.2.2).mono ?_
          rintro e w9 ⟨rfl, rfl⟩
          rw [HF.out.2]
          go_wp2
          go_ret
          exact ⟨rfl, HB3.out⟩
      · have HE : Hid (sumB ks = true ∧ sumB ls = true) := ⟨hE, hF⟩
        have HG : Hid (sumB (ks ++ ls) = true) := by show _ = _; rw [HS.out, hE, hF]; rfl
        have HU : Hid (sumV (ks ++ ls) = s + t) := by show _ = _; rw [HT.out hE hF, HV.out.1, HV.out.2]
        clear hE hF
        refine (sum_any ks _ _ HM.out.1 HM.out.2.2).mono ?_
        rintro e w4 ⟨rfl, rfl⟩
        rw [HE.out.1, HV.out.1]
        go_wp2_with fail
        refine (sum_any ls _ _ HM.out.2.1 HM.out.2.2).mono ?_
        rintro e w5 ⟨rfl, rfl⟩
        rw [HE.out.2, HV.out.2]
        go_wp2_with fail
        refine (sum_any _ _ _ HA.out HM.out.2.2).mono ?_
        rintro e w6 ⟨rfl, rfl⟩
        rw [HG.out, HU.out]
        go_wp2_with fail
        refine (fits_any _ _ _ HA.out HM.out.2.2).mono ?_
        rintro e w7 ⟨rfl, rfl⟩
        cases hf : fitB6 (ks ++ ls)
        · go_wp2
          go_ret
          exact ⟨rfl, HB3.out⟩
        · have HF : Hid (fitB6 ks = true ∧ fitB6 ls = true) := HP.out hf
          clear hf
          go_wp2_with fail
          refine (fits_any ks _ _ HM.out.1 HM.out.2.2).mono ?_
          rintro e w8 ⟨rfl, rfl⟩
          rw [HF.out.1]
          go_wp2_with fail
          refine (fits_any ls _ _ HM.out.2.1 HM.out.2.2).mono ?_
          rintro e w9 ⟨rfl, rfl⟩
          rw [HF.out.2]
          go_wp2
          go_ret
          exact ⟨rfl, HB3.out⟩
end Go.Proofs.YtchhniejahbgcaaDoor
