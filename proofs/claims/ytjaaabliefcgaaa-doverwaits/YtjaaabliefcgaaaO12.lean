/- Who runs, and who is gone: in numbers; walk of dover's Pick. -/
import Derived.Test.YtjaaabliefcgaaaO7
import Derived.Test.YtjaaabliefcgaaaO11
namespace Go.Proofs.Ytjaaabliefcgaaa
open Go.RowKit Go.Maps Go.Shelf

theorem dstA_nodup {xs : List Ap} : ∀ {j : Nat}, j ≤ xs.length → (dstA xs j = j ↔ (idsA (xs.take j)).Nodup)
  | 0, _ => by simp [dstA, idsA]
  | j + 1, h => by
    have ih := dstA_nodup (xs := xs) (j := j) (by omega)
    have hle := dstA_le xs j
    have e : idsA (xs.take (j + 1)) = idsA (xs.take j) ++ [(atA xs j).id] := (idsA_next (by omega)).symm
    have hh : hasA xs j (atA xs j).id = true ↔ (atA xs j).id ∈ idsA (xs.take j) := by
      unfold hasA idsA
      simp only [List.any_eq_true, decide_eq_true_eq, List.mem_map]
    rw [e, List.nodup_append]
    show (if hasA xs j (atA xs j).id = true then dstA xs j else dstA xs j + 1) = j + 1 ↔ _
    by_cases c : hasA xs j (atA xs j).id = true
    · rw [if_pos c]
      constructor
      · intro e2; omega
      · rintro ⟨_, _, k⟩
        exact absurd rfl (k _ (hh.1 c) _ (List.mem_singleton.2 rfl))
    · rw [if_neg c]
      constructor
      · intro e2
        refine ⟨ih.1 (by omega), by simp, fun a ha b hb e3 => ?_⟩
        rw [List.mem_singleton] at hb
        exact c (hh.2 (by rw [← hb, ← e3]; exact ha))
      · rintro ⟨k, _, _⟩
        rw [ih.2 k]
theorem mayL_iff {xs : List Ap} {now : Int} : mayL xs now = true ↔ xs.length ≤ 4 ∧ (0 ≤ now ∧ now ≤ 549755813888) ∧ (idsA xs).Nodup ∧ ∀ a ∈ xs, mayA a = true := by
  have h := dstA_nodup (xs := xs) (Nat.le_refl _)
  rw [List.take_length] at h
  unfold mayL
  simp only [Bool.and_eq_true, decide_eq_true_eq, List.all_eq_true]
  rw [h]
theorem mayA_near {a : Ap} (h : mayA a = true) : nearA a := by
  have := mayA_iff.1 h
  unfold nearA
  omega
theorem mayA_wf {a : Ap} (h : mayA a = true) : wfK a.key := by
  have := mayA_iff.1 h
  unfold wfK okI Ap.key
  simp only
  omega
theorem able_sub {xs : List Ap} {now : Int} {a : Ap} (h : a ∈ ableA xs now) : a ∈ xs := (List.mem_filter.1 h).1
theorem able_nodup {xs : List Ap} (now : Int) (h : (idsA xs).Nodup) : (idsA (ableA xs now)).Nodup := by
  unfold idsA ableA at *
  exact h.sublist (List.filter_sublist.map _)

def pickA (xs : List Ap) (cur now : Int) : Int × List Int :=
  if mayL xs now = true then
    if (ableA xs now).length = 0 then (-1, lateA xs now)
    else if fitsA (ableA xs now) now = true then ((atA (ordA (ableA xs now)) 0).id, lateA xs now)
    else ((contA (ableA xs now) cur now).1, lateA xs now ++ (contA (ableA xs now) cur now).2)
  else (-1, [])
def PickE (xs : List Ap) (cur now : Int) (w : World) (e : Ending) (w' : World) : Prop :=
  ∃ g, e = .returned (.tuple #[.int .i64 (pickA xs cur now).1, g]) ∧ OwnN w' w.heap.size g (pickA xs cur now).2 ∧ Below w.heap.size w w'

set_option maxHeartbeats 1000000 in
set_option maxRecDepth 100000 in
theorem pick13_any (xs : List Ap) (v : Value) (cur now : Int) (w : World) (h : Aps w v xs) (hw : ∀ a ∈ xs, wfK a.key) (hc : okI cur) :
    Calls Try.prog 12 #[v, .int .i64 cur, .int .i64 now] w (PickE xs cur now w) := by
  have HA : Hid (Aps w v xs) := h
  have HC : Hid (okI cur) := hc
  clear h hc
  go_enter Try.func12, Try.ntmps12
  go_wp2_with fail
  refine (may13_any xs v now w HA.out hw).mono ?_
  rintro e w1 ⟨rfl, hb1⟩
  obtain ⟨p, hp⟩ : ∃ p, mayL xs now = p := ⟨_, rfl⟩
  rw [hp]
  cases p
  · have HP : Hid (pickA xs cur now = (-1, [])) := by show _ = _; unfold pickA; rw [hp]; rfl
    clear hp hw
    go_wp2_with fail
    go_ret2
    refine ⟨_, by rw [HP.out]; rfl, ?_, hb1⟩
    rw [HP.out]
    exact OwnN.nil _ _
  obtain ⟨n4, ⟨now0, now1⟩, nd, hm⟩ := mayL_iff.1 hp
  have hnl : nearL xs := fun a ha => mayA_near (hm a ha)
  have HS : Hid ((∀ a ∈ ableA xs now, wfK a.key) ∧ nearL (ableA xs now) ∧ (idsA (ableA xs now)).Nodup) := ⟨fun a ha => hw a (able_sub ha), fun a ha => hnl a (able_sub ha), able_nodup now nd⟩
  have HN : Hid (nearL xs) := hnl
  have HPI : Hid (pickA xs cur now = if (ableA xs now).length = 0 then (-1, lateA xs now) else if fitsA (ableA xs now) now = true then ((atA (ordA (ableA xs now)) 0).id, lateA xs now) else ((contA (ableA xs now) cur now).1, lateA xs now ++ (contA (ableA xs now) cur now).2)) := by show _ = _; unfold pickA; rw [hp]; rfl
  have hal := ableA_len xs now
  have hll := lateA_len xs now
  clear hp nd hm hnl hw
  have hA1 := HA.out.later hb1
  go_wp2_with fail
  refine (part_any xs v now w1 hA1 (by omega) HN.out (by omega) (by omega)).mono ?_
  rintro e w2 ⟨u, g, rfl, hu, hg, hb2⟩
  have hb12 := hb1.trans (hb2.mono hb1.size)
  have s1 := hb1.size
  have s2 := hb2.size
  clear hA1 hb1 hb2
  obtain ⟨bs, ha⟩ : ∃ bs, ableA xs now = bs := ⟨_, rfl⟩
  obtain ⟨ls, hls⟩ : ∃ ls, lateA xs now = ls := ⟨_, rfl⟩
  rw [ha] at hu HS HPI hal
  rw [hls] at hg HPI hll
  clear ha hls
  have HU : Hid (OwnA w2 w1.heap.size u bs ∧ OwnN w2 w1.heap.size g ls ∧ Below w.heap.size w w2) := ⟨hu, hg, hb12⟩
  obtain ⟨au, capu, rfl, l1, l2, l3, l4⟩ := hu.aps.open
  clear hu hg hb12 l4
  by_cases hz : bs.length = 0
  · have HP : Hid (pickA xs cur now = (-1, ls)) := by show _ = _; rw [HPI.out, if_pos hz]
    have hz' : (bs.length : Int) = 0 := by omega
    go_wp2_with fail
    go_ret2
    refine ⟨g, by rw [HP.out]; rfl, ?_, HU.out.2.2⟩
    rw [HP.out]
    exact own_low HU.out.2.1 s1
  have hz' : ((bs.length : Int) == 0) = false := by simpa using hz
  have HPJ : Hid (pickA xs cur now = if fitsA bs now = true then ((atA (ordA bs) 0).id, ls) else ((contA bs cur now).1, ls ++ (contA bs cur now).2)) := by show _ = _; rw [HPI.out, if_neg hz]
  clear HPI
  go_wp2_with fail
  refine (fits13_any bs _ now w2 HU.out.1.aps (by omega) HS.out.1 HS.out.2.1 (by omega) (by omega)).mono ?_
  rintro e w3 ⟨rfl, hb3⟩
  have HU3 : Hid (OwnA w3 w1.heap.size (.slice au bs.length capu) bs ∧ OwnN w3 w1.heap.size g ls ∧ Below w.heap.size w w3) := ⟨HU.out.1.later hb3, HU.out.2.1.later hb3, HU.out.2.2.trans (hb3.mono HU.out.2.2.size)⟩
  have s3 : w1.heap.size ≤ w3.heap.size := Nat.le_trans s2 hb3.size
  clear HU hb3
  obtain ⟨f, hf⟩ : ∃ f, fitsA bs now = f := ⟨_, rfl⟩
  rw [hf] at HPJ ⊢
  clear hf
  cases f
  · have HP : Hid (pickA xs cur now = ((contA bs cur now).1, ls ++ (contA bs cur now).2)) := HPJ.out
    have hcl : (contA bs cur now).2.length ≤ bs.length := by
      have := runA_len now (lkA bs bs.length cur) (ordA bs)
      rw [ordA_len] at this
      exact this
    clear HPJ
    go_wp2_with fail
    refine (contend_any bs _ cur now w3 HU3.out.1.aps (by omega) (by omega) HS.out.1 HS.out.2.1 HS.out.2.2 HC.out (by omega) (by omega)).mono ?_
    rintro e w4 ⟨k, rfl, hk, hb4⟩
    have HG4 : Hid (OwnN w4 w1.heap.size g ls) := HU3.out.2.1.later hb4
    have HB4 : Hid (Below w.heap.size w w4) := HU3.out.2.2.trans (hb4.mono HU3.out.2.2.size)
    have s4 : w1.heap.size ≤ w4.heap.size := Nat.le_trans s3 hb4.size
    have HK : Hid (Nums w4 k (contA bs cur now).2 ∧ NilCap k) := hk.nums
    clear hk hb4 HU3
    go_wp2_with (first
      | (at_builtin; refine append_nums rfl _ _ rfl w1.heap.size g k ls.length ls (contA bs cur now).2 rfl HG4.out rfl HK.out.1 HK.out.2 (by omega) s4 ?_; intro v' w5 hv5 _ hb5))
    go_ret2
    refine ⟨v', by rw [HP.out]; rfl, ?_, HB4.out.trans (hb5.mono s1)⟩
    rw [HP.out]
    show World.ownsRow _ _ _ _ _ _ _
    rw [List.length_append]
    exact own_low hv5 s1
  · have HP : Hid (pickA xs cur now = ((atA (ordA bs) 0).id, ls)) := HPJ.out
    clear HPJ
    go_wp2_with fail
    refine (order13_any bs _ w3 HU3.out.1.aps (by omega) HS.out.1).mono ?_
    rintro e w4 ⟨k, rfl, hk, hb4⟩
    have HG4 : Hid (OwnN w4 w1.heap.size g ls) := HU3.out.2.1.later hb4
    have HB4 : Hid (Below w.heap.size w w4) := HU3.out.2.2.trans (hb4.mono HU3.out.2.2.size)
    obtain ⟨go, cap, rfl, c1⟩ : ∃ go cap, k = .slice (some ⟨go, 0, none⟩) bs.length cap ∧ bs.length ≤ cap := by
      rcases hk.2 with ⟨_, h⟩ | ⟨g, cap, cur, rfl, b1, _, b2, b3, _⟩
      · omega
      · exact ⟨g, cap, rfl, b2⟩
    have k0 := (hk.cellAt 0 (by omega)).trans (ivs_at (by rw [idsA_len, ordA_len]; omega))
    have e0 : (idsA (ordA bs)).getD 0 0 = (atA (ordA bs) 0).id := by
      have := atA_ordId (xs := bs) (j := 0) (by omega)
      simp [List.getD, this]
    rw [e0] at k0
    clear hk hb4 HU3 e0
    have hpos : (0 : Int) < bs.length := by omega
    go_wp2_with fail
    go_ret2
    refine ⟨g, by rw [HP.out]; rfl, ?_, HB4.out⟩
    rw [HP.out]
    exact own_low HG4.out s1
end Go.Proofs.Ytjaaabliefcgaaa
