/- Texts that belong together, one behind the other: O12, O13, O15, O16, O17, O18, O19, O20, O21, O22, O23. -/
import Derived.Test.YtjaaabliefcgaaaO7
import Derived.Test.YtjaaabliefcgaaaO11
import Derived.BigQuiet
/- Who runs, and who is gone: in numbers; walk of dover's Pick. -/
namespace Go.Proofs.Ytjaaabliefcgaaa
open Go.RowKit Go.Maps Go.Shelf

theorem dstA_nodup {xs : List Ap} : ∀ {j : Nat}, j ≤ xs.length → (dstA xs j = j ↔ (idsA (xs.take j)).Nodup)
  | 0, _ => by simp [dstA, idsA]
  | j + 1, h => by
    have ih := dstA_nodup (xs := xs) (j := j) (by omega)
    have hle := dstA_le xs j
    have e : idsA (xs.take (j + 1)) = idsA (xs.take j) ++ [(atA xs j).id] := (idsA_next (by omega)).symm
    have hh : hasA xs j (atA xs j).id = true ↔ (atA xs j).id ∈ idsA (xs.take j) := by
      unfold hasA idsA
      simp only [List.any_eq_true, decide_eq_true_eq, List.mem_map]
    rw [e, List.nodup_append]
    show (if hasA xs j (atA xs j).id = true then dstA xs j else dstA xs j + 1) = j + 1 ↔ _
    by_cases c : hasA xs j (atA xs j).id = true
    · rw [if_pos c]
      constructor
      · intro e2; omega
      · rintro ⟨_, _, k⟩
        exact absurd rfl (k _ (hh.1 c) _ (List.mem_singleton.2 rfl))
    · rw [if_neg c]
      constructor
      · intro e2
        refine ⟨ih.1 (by omega), by simp, fun a ha b hb e3 => ?_⟩
        rw [List.mem_singleton] at hb
        exact c (hh.2 (by rw [← hb, ← e3]; exact ha))
      · rintro ⟨k, _, _⟩
        rw [ih.2 k]
theorem mayL_iff {xs : List Ap} {now : Int} : mayL xs now = true ↔ xs.length ≤ 4 ∧ (0 ≤ now ∧ now ≤ 549755813888) ∧ (idsA xs).Nodup ∧ ∀ a ∈ xs, mayA a = true := by
  have h := dstA_nodup (xs := xs) (Nat.le_refl _)
  rw [List.take_length] at h
  unfold mayL
  simp only [Bool.and_eq_true, decide_eq_true_eq, List.all_eq_true]
  rw [h]
theorem mayA_near {a : Ap} (h : mayA a = true) : nearA a := by
  have := mayA_iff.1 h
  unfold nearA
  omega
theorem mayA_wf {a : Ap} (h : mayA a = true) : wfK a.key := by
  have := mayA_iff.1 h
  unfold wfK okI Ap.key
  simp only
  omega
theorem able_sub {xs : List Ap} {now : Int} {a : Ap} (h : a ∈ ableA xs now) : a ∈ xs := (List.mem_filter.1 h).1
theorem able_nodup {xs : List Ap} (now : Int) (h : (idsA xs).Nodup) : (idsA (ableA xs now)).Nodup := by
  unfold idsA ableA at *
  exact h.sublist (List.filter_sublist.map _)

def pickA (xs : List Ap) (cur now : Int) : Int × List Int :=
  if mayL xs now = true then
    if (ableA xs now).length = 0 then (-1, lateA xs now)
    else if fitsA (ableA xs now) now = true then ((atA (ordA (ableA xs now)) 0).id, lateA xs now)
    else ((contA (ableA xs now) cur now).1, lateA xs now ++ (contA (ableA xs now) cur now).2)
  else (-1, [])
def PickE (xs : List Ap) (cur now : Int) (w : World) (e : Ending) (w' : World) : Prop :=
  ∃ g, e = .returned (.tuple #[.int .i64 (pickA xs cur now).1, g]) ∧ OwnN w' w.heap.size g (pickA xs cur now).2 ∧ Below w.heap.size w w'

set_option maxHeartbeats 1000000 in
set_option maxRecDepth 100000 in
theorem pick13_any (xs : List Ap) (v : Value) (cur now : Int) (w : World) (h : Aps w v xs) (hw : ∀ a ∈ xs, wfK a.key) (hc : okI cur) :
    Calls Try.prog 12 #[v, .int .i64 cur, .int .i64 now] w (PickE xs cur now w) := by
  have HA : Hid (Aps w v xs) := h
  have HC : Hid (okI cur) := hc
  clear h hc
  go_enter Try.func12, Try.ntmps12
  go_wp2_with fail
  refine (may13_any xs v now w HA.out hw).mono ?_
  rintro e w1 ⟨rfl, hb1⟩
  obtain ⟨p, hp⟩ : ∃ p, mayL xs now = p := ⟨_, rfl⟩
  rw [hp]
  cases p
  · have HP : Hid (pickA xs cur now = (-1, [])) := by show _ = _; unfold pickA; rw [hp]; rfl
    clear hp hw
    go_wp2_with fail
    go_ret2
    refine ⟨_, by rw [HP.out]; rfl, ?_, hb1⟩
    rw [HP.out]
    exact OwnN.nil _ _
  obtain ⟨n4, ⟨now0, now1⟩, nd, hm⟩ := mayL_iff.1 hp
  have hnl : nearL xs := fun a ha => mayA_near (hm a ha)
  have HS : Hid ((∀ a ∈ ableA xs now, wfK a.key) ∧ nearL (ableA xs now) ∧ (idsA (ableA xs now)).Nodup) := ⟨fun a ha => hw a (able_sub ha), fun a ha => hnl a (able_sub ha), able_nodup now nd⟩
  have HN : Hid (nearL xs) := hnl
  have HPI : Hid (pickA xs cur now = if (ableA xs now).length = 0 then (-1, lateA xs now) else if fitsA (ableA xs now) now = true then ((atA (ordA (ableA xs now)) 0).id, lateA xs now) else ((contA (ableA xs now) cur now).1, lateA xs now ++ (contA (ableA xs now) cur now).2)) := by show _ = _; unfold pickA; rw [hp]; rfl
  have hal := ableA_len xs now
  have hll := lateA_len xs now
  clear hp nd hm hnl hw
  have hA1 := HA.out.later hb1
  go_wp2_with fail
  refine (part_any xs v now w1 hA1 (by omega) HN.out (by omega) (by omega)).mono ?_
  rintro e w2 ⟨u, g, rfl, hu, hg, hb2⟩
  have hb12 := hb1.trans (hb2.mono hb1.size)
  have s1 := hb1.size
  have s2 := hb2.size
  clear hA1 hb1 hb2
  obtain ⟨bs, ha⟩ : ∃ bs, ableA xs now = bs := ⟨_, rfl⟩
  obtain ⟨ls, hls⟩ : ∃ ls, lateA xs now = ls := ⟨_, rfl⟩
  rw [ha] at hu HS HPI hal
  rw [hls] at hg HPI hll
  clear ha hls
  have HU : Hid (OwnA w2 w1.heap.size u bs ∧ OwnN w2 w1.heap.size g ls ∧ Below w.heap.size w w2) := ⟨hu, hg, hb12⟩
  obtain ⟨au, capu, rfl, l1, l2, l3, l4⟩ := hu.aps.open
  clear hu hg hb12 l4
  by_cases hz : bs.length = 0
  · have HP : Hid (pickA xs cur now = (-1, ls)) := by show _ = _; rw [HPI.out, if_pos hz]
    have hz' : (bs.length : Int) = 0 := by omega
    go_wp2_with fail
    go_ret2
    refine ⟨g, by rw [HP.out]; rfl, ?_, HU.out.2.2⟩
    rw [HP.out]
    exact own_low HU.out.2.1 s1
  have hz' : ((bs.length : Int) == 0) = false := by simpa using hz
  have HPJ : Hid (pickA xs cur now = if fitsA bs now = true then ((atA (ordA bs) 0).id, ls) else ((contA bs cur now).1, ls ++ (contA bs cur now).2)) := by show _ = _; rw [HPI.out, if_neg hz]
  clear HPI
  go_wp2_with fail
  refine (fits13_any bs _ now w2 HU.out.1.aps (by omega) HS.out.1 HS.out.2.1 (by omega) (by omega)).mono ?_
  rintro e w3 ⟨rfl, hb3⟩
  have HU3 : Hid (OwnA w3 w1.heap.size (.slice au bs.length capu) bs ∧ OwnN w3 w1.heap.size g ls ∧ Below w.heap.size w w3) := ⟨HU.out.1.later hb3, HU.out.2.1.later hb3, HU.out.2.2.trans (hb3.mono HU.out.2.2.size)⟩
  have s3 : w1.heap.size ≤ w3.heap.size := Nat.le_trans s2 hb3.size
  clear HU hb3
  obtain ⟨f, hf⟩ : ∃ f, fitsA bs now = f := ⟨_, rfl⟩
  rw [hf] at HPJ ⊢
  clear hf
  cases f
  · have HP : Hid (pickA xs cur now = ((contA bs cur now).1, ls ++ (contA bs cur now).2)) := HPJ.out
    have hcl : (contA bs cur now).2.length ≤ bs.length := by
      have := runA_len now (lkA bs bs.length cur) (ordA bs)
      rw [ordA_len] at this
      exact this
    clear HPJ
    go_wp2_with fail
    refine (contend_any bs _ cur now w3 HU3.out.1.aps (by omega) (by omega) HS.out.1 HS.out.2.1 HS.out.2.2 HC.out (by omega) (by omega)).mono ?_
    rintro e w4 ⟨k, rfl, hk, hb4⟩
    have HG4 : Hid (OwnN w4 w1.heap.size g ls) := HU3.out.2.1.later hb4
    have HB4 : Hid (Below w.heap.size w w4) := HU3.out.2.2.trans (hb4.mono HU3.out.2.2.size)
    have s4 : w1.heap.size ≤ w4.heap.size := Nat.le_trans s3 hb4.size
    have HK : Hid (Nums w4 k (contA bs cur now).2 ∧ NilCap k) := hk.nums
    clear hk hb4 HU3
    go_wp2_with (first
      | (at_builtin; refine append_nums rfl _ _ rfl w1.heap.size g k ls.length ls (contA bs cur now).2 rfl HG4.out rfl HK.out.1 HK.out.2 (by omega) s4 ?_; intro v' w5 hv5 _ hb5))
    go_ret2
    refine ⟨v', by rw [HP.out]; rfl, ?_, HB4.out.trans (hb5.mono s1)⟩
    rw [HP.out]
    show World.ownsRow _ _ _ _ _ _ _
    rw [List.length_append]
    exact own_low hv5 s1
  · have HP : Hid (pickA xs cur now = ((atA (ordA bs) 0).id, ls)) := HPJ.out
    clear HPJ
    go_wp2_with fail
    refine (order13_any bs _ w3 HU3.out.1.aps (by omega) HS.out.1).mono ?_
    rintro e w4 ⟨k, rfl, hk, hb4⟩
    have HG4 : Hid (OwnN w4 w1.heap.size g ls) := HU3.out.2.1.later hb4
    have HB4 : Hid (Below w.heap.size w w4) := HU3.out.2.2.trans (hb4.mono HU3.out.2.2.size)
    obtain ⟨go, cap, rfl, c1⟩ : ∃ go cap, k = .slice (some ⟨go, 0, none⟩) bs.length cap ∧ bs.length ≤ cap := by
      rcases hk.2 with ⟨_, h⟩ | ⟨g, cap, cur, rfl, b1, _, b2, b3, _⟩
      · omega
      · exact ⟨g, cap, rfl, b2⟩
    have k0 := (hk.cellAt 0 (by omega)).trans (ivs_at (by rw [idsA_len, ordA_len]; omega))
    have e0 : (idsA (ordA bs)).getD 0 0 = (atA (ordA bs) 0).id := by
      have := atA_ordId (xs := bs) (j := 0) (by omega)
      simp [List.getD, this]
    rw [e0] at k0
    clear hk hb4 HU3 e0
    have hpos : (0 : Int) < bs.length := by omega
    go_wp2_with fail
    go_ret2
    refine ⟨g, by rw [HP.out]; rfl, ?_, HB4.out⟩
    rw [HP.out]
    exact own_low HG4.out s1
end Go.Proofs.Ytjaaabliefcgaaa
/- Lists of one and two; the document's own Ints; the chapter's example. -/
namespace Go.Proofs.Ytjaaabliefcgaaa
open Go.RowKit Go.Maps Go.Shelf

theorem Aps.two (w : World) (i d c v r i' d' c' v' r' : Int) : Aps (w.alloc (.cells #[.int .i64 i, .int .i64 d, .int .i64 c, .int .i64 v, .int .i64 r, .int .i64 i', .int .i64 d', .int .i64 c', .int .i64 v', .int .i64 r'] 30)) (.slice (some ⟨w.heap.size, 0, none⟩) 2 2) [⟨i, d, c, v, r⟩, ⟨i', d', c', v', r'⟩] := by
  refine ⟨_, 2, rfl, Nat.le_refl _, by unfold maxLen; omega, fun h => by simp at h, fun _ => ⟨_, 0, rfl, fun a ha j hj => ?_⟩⟩
  have ha' : a < 2 := ha
  have hj' : j < 5 := hj
  rcases (show a = 0 ∨ a = 1 by omega) with rfl | rfl <;> rcases (show j = 0 ∨ j = 1 ∨ j = 2 ∨ j = 3 ∨ j = 4 by omega) with rfl | rfl | rfl | rfl | rfl <;> simp [recA, Ap.row, atA]
theorem Aps.one (w : World) (i d c v r : Int) : Aps (w.alloc (.cells #[.int .i64 i, .int .i64 d, .int .i64 c, .int .i64 v, .int .i64 r] 30)) (.slice (some ⟨w.heap.size, 0, none⟩) 1 1) [⟨i, d, c, v, r⟩] := by
  refine ⟨_, 1, rfl, Nat.le_refl _, by unfold maxLen; omega, fun h => by simp at h, fun _ => ⟨_, 0, rfl, fun a ha j hj => ?_⟩⟩
  have ha' : a < 1 := ha
  have hj' : j < 5 := hj
  obtain rfl : a = 0 := by omega
  rcases (show j = 0 ∨ j = 1 ∨ j = 2 ∨ j = 3 ∨ j = 4 by omega) with rfl | rfl | rfl | rfl | rfl <;> simp [recA, Ap.row, atA]
theorem Aps.at5 {w : World} {b o n cap : Nat} {xs : List Ap} (h : Aps w (.slice (some ⟨b, o, none⟩) n cap) xs) {i : Nat} (hi : i < xs.length) : w.cell? ⟨b, o + i * 5, none⟩ = some (.int .i64 (atA xs i).id) ∧ w.cell? ⟨b, o + i * 5 + 1, none⟩ = some (.int .i64 (atA xs i).due) ∧ w.cell? ⟨b, o + i * 5 + 2, none⟩ = some (.int .i64 (atA xs i).c) ∧ w.cell? ⟨b, o + i * 5 + 3, none⟩ = some (.int .i64 (atA xs i).v) ∧ w.cell? ⟨b, o + i * 5 + 4, none⟩ = some (.int .i64 (atA xs i).r) := by
  obtain ⟨a, cap', e, _, _, _, h4⟩ := h.open
  obtain ⟨b', o', rfl, h5⟩ := h4 (by omega)
  simp only [Value.slice.injEq, Option.some.injEq, Addr.mk.injEq, and_true] at e
  obtain ⟨⟨rfl, rfl⟩, _⟩ := e
  exact h5 i hi
theorem Aps.first {w : World} {b n cap : Nat} {a : Ap} {xs : List Ap} (h : Aps w (.slice (some ⟨b, 0, none⟩) n cap) (a :: xs)) (hn : n = xs.length + 1) : Aps w (.slice (some ⟨b, 0, none⟩) 1 cap) [a] := by
  subst hn
  have := Rws.front (R := recA) (t := 1) h (by simp)
  exact this.congr (fun i hi => by have e : i = 0 := (by omega); rw [e]; rfl)

/-- The chapter's two jobs. -/
def ex1 : Ap := ⟨1, 4, 4, 10, 0⟩
def ex2 : Ap := ⟨2, 4, 4, 90, 0⟩
theorem ex_facts : pickA [ex1, ex2] 1 0 = (2, []) ∧ pickA [ex1] (-1) 0 = (1, []) ∧ mayL [ex1, ex2] 0 = true ∧ fitsA [ex1, ex2] 0 = false ∧ laxA ex1 0 = 0 := by
  refine ⟨?_, ?_, ?_, ?_, ?_⟩ <;> decide

set_option maxHeartbeats 1000000 in
set_option maxRecDepth 100000 in
theorem awake13_any (w : World) :
    Calls Try.prog 10 #[] w fun r w' => r = .returned (.bool true) ∧ Below w.heap.size w w' := by
  have HF : Hid (pickA [ex1, ex2] 1 0 = (2, []) ∧ pickA [ex1] (-1) 0 = (1, []) ∧ mayL [ex1, ex2] 0 = true ∧ fitsA [ex1, ex2] 0 = false ∧ laxA ex1 0 = 0) := ex_facts
  have HW : Hid ((∀ a ∈ [ex1, ex2], wfK a.key) ∧ nearL [ex1, ex2] ∧ nearA ex1) := by
    refine ⟨fun a ha => ?_, fun a ha => ?_, ?_⟩
    · simp at ha
      rcases ha with rfl | rfl <;> (unfold wfK okI Ap.key; decide)
    · simp at ha
      rcases ha with rfl | rfl <;> (unfold nearA; decide)
    · unfold nearA; decide
  have HL : Hid (Aps (w.alloc (.cells #[.int .i64 1, .int .i64 4, .int .i64 4, .int .i64 10, .int .i64 0, .int .i64 2, .int .i64 4, .int .i64 4, .int .i64 90, .int .i64 0] 30)) (.slice (some ⟨w.heap.size, 0, none⟩) 2 2) [ex1, ex2]) := Aps.two w 1 4 4 10 0 2 4 4 90 0
  have HB : Hid (Below w.heap.size w (w.alloc (.cells #[.int .i64 1, .int .i64 4, .int .i64 4, .int .i64 10, .int .i64 0, .int .i64 2, .int .i64 4, .int .i64 4, .int .i64 90, .int .i64 0] 30))) := (Below.refl _ _).alloc (Nat.le_refl _) _
  go_enter Try.func10, Try.ntmps10
  go_wp2_with fail
  refine (pick13_any [ex1, ex2] _ 1 0 _ HL.out HW.out.1 (by unfold okI; omega)).mono ?_
  rintro e w1 ⟨g1, rfl, hg1, hb1⟩
  rw [HF.out.1] at hg1 ⊢
  have HL1 : Hid (Aps w1 (.slice (some ⟨w.heap.size, 0, none⟩) 2 2) [ex1, ex2]) := HL.out.later hb1
  have HB1 : Hid (Below w.heap.size w w1) := HB.out.trans (hb1.mono HB.out.size)
  obtain ⟨a1, c1, rfl, _⟩ := hg1.nums.1
  clear hg1 hb1 HL HB
  go_wp2_with fail
  refine (pick13_any [ex1] _ (-1) 0 _ (HL1.out.first rfl) (fun a ha => HW.out.1 a (by simp at ha; simp [ha])) (by unfold okI; omega)).mono ?_
  rintro e w2 ⟨g2, rfl, hg2, hb2⟩
  rw [HF.out.2.1] at hg2 ⊢
  have HL2 : Hid (Aps w2 (.slice (some ⟨w.heap.size, 0, none⟩) 2 2) [ex1, ex2]) := HL1.out.later hb2
  have HB2 : Hid (Below w.heap.size w w2) := HB1.out.trans (hb2.mono HB1.out.size)
  obtain ⟨a2, c2, rfl, _⟩ := hg2.nums.1
  clear hg2 hb2 HL1 HB1
  go_wp2_with fail
  refine (may13_any [ex1, ex2] _ 0 _ HL2.out HW.out.1).mono ?_
  rintro e w3 ⟨rfl, hb3⟩
  rw [HF.out.2.2.1]
  have HL3 : Hid (Aps w3 (.slice (some ⟨w.heap.size, 0, none⟩) 2 2) [ex1, ex2]) := HL2.out.later hb3
  have HB3 : Hid (Below w.heap.size w w3) := HB2.out.trans (hb3.mono HB2.out.size)
  clear hb3 HL2 HB2
  go_wp2_with fail
  refine (fits13_any [ex1, ex2] _ 0 _ HL3.out (by decide) HW.out.1 HW.out.2.1 (by omega) (by omega)).mono ?_
  rintro e w4 ⟨rfl, hb4⟩
  rw [HF.out.2.2.2.1]
  have HL4 : Hid (Aps w4 (.slice (some ⟨w.heap.size, 0, none⟩) 2 2) [ex1, ex2]) := HL3.out.later hb4
  have HB4 : Hid (Below w.heap.size w w4) := HB3.out.trans (hb4.mono HB3.out.size)
  obtain ⟨k0, k1, k2, k3, k4⟩ := HL4.out.at5 (i := 0) (by decide)
  simp [atA, ex1] at k0 k1 k2 k3 k4
  clear hb4 HL3 HB3
  go_wp2_with fail
  refine (lax_any 1 4 4 10 0 0 _ HW.out.2.2 (by omega) (by omega)).mono ?_
  rintro e w5 ⟨rfl, hb5⟩
  have e5 : laxA ⟨1, 4, 4, 10, 0⟩ 0 = 0 := HF.out.2.2.2.2
  rw [e5]
  have HB5 : Hid (Below w.heap.size w w5) := HB4.out.trans (hb5.mono HB4.out.size)
  clear hb5 e5
  go_wp2_with fail
  go_ret
  exact ⟨rfl, HB5.out⟩

theorem same13_of {xs ys : List Int} (hl : xs.length = ys.length) (h : ∀ i, i < xs.length → xs.getD i 0 = ys.getD i 0) : xs = ys := by
  apply List.ext_getElem hl
  intro i h1 h2
  have := h i h1
  simpa [List.getD, h1, h2] using this

set_option maxHeartbeats 1000000 in
set_option maxRecDepth 100000 in
theorem ints13_any (xs ys : List Int) (v v' : Value) (w : World) (h : Nums w v xs) (h' : Nums w v' ys) (hx : xs.length ≤ 100000) :
    Calls Try.prog 20 #[v, v'] w fun r w' => r = .returned (.bool (decide (xs = ys))) ∧ Below w.heap.size w w' := by
  obtain ⟨a, cap, rfl, h1, h2, h3⟩ := h
  obtain ⟨a', cap', rfl, h1', h2', h3'⟩ := h'
  by_cases hl : xs.length = ys.length
  · have hl1 : ((xs.length : Int)) = ys.length := by omega
    have HL : Hid (xs.length = ys.length) := hl
    clear hl1
    generalize hy : ys.length = ly at *
    have HY : Hid (ys.length = ly) := hy
    clear hy
    subst hl
    go_enter Try.func20, Try.ntmps20
    go_wp2_with fail
    go_loopw [5] (fun i wr => ∃ (j : Nat), j ≤ xs.length ∧ i = .int .i64 j ∧ Hid (∀ i, i < j → xs.getD i 0 = ys.getD i 0) ∧ Below w.heap.size w wr) (fun i _ => ((xs.length : Int) - intOf i).toNat)
    case atStart => exact ⟨0, by omega, rfl, (fun i hi => by omega), Below.refl _ _⟩
    case round =>
      obtain ⟨j, hj, rfl, HG, hbw⟩ := hrel
      by_cases hlt : (j : Int) < xs.length
      · obtain ⟨b, o, rfl, h4⟩ := h3 (by intro e; rw [e, List.length_nil] at hlt; omega)
        obtain ⟨b', o', rfl, h4'⟩ := h3' (by intro e; have := HY.out; rw [e, List.length_nil] at this; omega)
        have c0 := cell_later hbw (h4 j (by omega))
        have c1 := cell_later hbw (h4' j (by have := HY.out; omega))
        clear h3 h3' h4 h4'
        obtain ⟨x, hx⟩ : ∃ x, xs.getD j 0 = x := ⟨_, rfl⟩
        obtain ⟨y, hy⟩ : ∃ y, ys.getD j 0 = y := ⟨_, rfl⟩
        have HX : Hid (xs.getD j 0 = x) := hx
        have HZ : Hid (ys.getD j 0 = y) := hy
        rw [hx] at c0
        rw [hy] at c1
        clear hx hy
        by_cases hxy : x = y
        · subst hxy
          have HN : Hid (∀ i, i < j + 1 → xs.getD i 0 = ys.getD i 0) := by
            intro i hi
            rcases Nat.lt_succ_iff_lt_or_eq.1 hi with hi | rfl
            · exact HG.out i hi
            · rw [HX.out, HZ.out]
          go_wp2_with fail
          go_quiet (fail)
          go_wp2_with fail
          go_roundw
          case rel => exact ⟨j + 1, by omega, by go_num, HN.out, ⟨hbw.os, hbw.tape, hbw.output, hbw.size, hbw.block⟩⟩
          case measure => simp [intOf]; omega
        · have H : Hid (decide (xs = ys) = false) := decide_eq_false (fun e => hxy (by rw [← HX.out, ← HZ.out, e]))
          have q1 : (x == y) = false := by simpa using hxy
          go_wp2_with fail
          go_quiet (fail)
          go_wp2
          go_ret
          exact ⟨ret_b H.out.symm, ⟨hbw.os, hbw.tape, hbw.output, hbw.size, hbw.block⟩⟩
      · have hjk : j = xs.length := by omega
        have H : Hid (decide (xs = ys) = true) := decide_eq_true (same13_of HY.out.symm (fun i hi => HG.out i (by omega)))
        subst hjk
        go_wp2
        go_ret
        exact ⟨ret_b H.out.symm, hbw⟩
  · have H : Hid (decide (xs = ys) = false) := decide_eq_false (fun e => hl (by rw [e]))
    have hl1 : ¬ ((xs.length : Int)) = ys.length := by omega
    have q1 : ((xs.length : Int) == ys.length) = false := by simpa using hl1
    go_enter Try.func20, Try.ntmps20
    go_wp2
    go_ret
    exact ⟨ret_b H.out.symm, Below.refl _ _⟩
end Go.Proofs.Ytjaaabliefcgaaa
/- Jobs in their order, as one of them runs: in numbers. -/
namespace Go.Proofs.Ytjaaabliefcgaaa
open Go.RowKit Go.Maps Go.Shelf

theorem key_same {xs : List Ap} (hd : (idsA xs).Nodup) {a b : Ap} (ha : a ∈ xs) (hb : b ∈ xs) (h : a.id = b.id) : a = b := by
  have h1 := lkA_mem hd ha
  have h2 := lkA_mem hd hb
  rw [h] at h1
  exact h1.symm.trans h2
/-- Of jobs no two of which are of one ID there is one order. -/
theorem ord_uniq {xs L : List Ap} (hd : (idsA xs).Nodup) (hs : srtd (keysA L)) (hp : L.Perm xs) : L = ordA xs := by
  have h1 : L.Pairwise (fun a b => ile a.key b.key) := List.pairwise_map.1 hs
  have h2 : (ordA xs).Pairwise (fun a b => ile a.key b.key) := List.pairwise_map.1 (ordA_srtd xs)
  refine List.Perm.eq_of_pairwise (fun a b ha hb hab hba => ?_) h1 h2 (hp.trans (ordA_perm xs).symm)
  have e := ile_anti hab hba
  unfold Ap.key at e
  simp only [Prod.mk.injEq] at e
  exact key_same hd (hp.mem_iff.1 ha) ((ordA_perm xs).mem_iff.1 hb) e.2
theorem ids_perm {xs ys : List Ap} (h : xs.Perm ys) : (idsA xs).Perm (idsA ys) := h.map _
theorem ids_ord {xs : List Ap} (hd : (idsA xs).Nodup) : (idsA (ordA xs)).Nodup := (ids_perm (ordA_perm xs)).nodup_iff.2 hd

/-- One that has run once more. -/
def bmp (id : Int) (a : Ap) : Ap := if a.id = id then ⟨a.id, a.due, a.c, a.v, a.r + 1⟩ else a
def keepB (a : Ap) : Bool := decide (a.r < a.c)
/-- Those that are there behind that. -/
def rstA (xs : List Ap) (id : Int) : List Ap := (xs.map (bmp id)).filter keepB
theorem bmp_id (id : Int) (a : Ap) : (bmp id a).id = a.id := by unfold bmp; split <;> rfl
theorem bmp_key (id : Int) (a : Ap) : (bmp id a).key = a.key := by unfold bmp; split <;> rfl
theorem bmp_ids (id : Int) (xs : List Ap) : idsA (xs.map (bmp id)) = idsA xs := by
  unfold idsA; rw [List.map_map]; exact List.map_congr_left (fun a _ => bmp_id id a)
theorem bmp_keys (id : Int) (xs : List Ap) : keysA (xs.map (bmp id)) = keysA xs := by
  unfold keysA; rw [List.map_map]; exact List.map_congr_left (fun a _ => bmp_key id a)
theorem rst_nodup {xs : List Ap} (id : Int) (hd : (idsA xs).Nodup) : (idsA (rstA xs id)).Nodup := by
  rw [← bmp_ids id xs] at hd
  exact hd.sublist (List.filter_sublist.map _)
theorem rst_ord {xs : List Ap} (id : Int) (hd : (idsA xs).Nodup) : rstA (ordA xs) id = ordA (rstA xs id) := by
  refine ord_uniq (rst_nodup id hd) ?_ (((ordA_perm xs).map _).filter _)
  have h := ordA_srtd xs
  rw [← bmp_keys id (ordA xs)] at h
  exact h.sublist (List.filter_sublist.map _)
theorem rst_next {xs : List Ap} {j : Nat} (h : j < xs.length) (id : Int) : rstA (xs.take (j + 1)) id = if keepB (bmp id (atA xs j)) = true then rstA (xs.take j) id ++ [bmp id (atA xs j)] else rstA (xs.take j) id := by
  rw [takeA_next h]
  unfold rstA
  rw [List.map_append, List.filter_append]
  cases c : keepB (bmp id (atA xs j)) <;> simp [c]
theorem rst_len (xs : List Ap) (id : Int) : (rstA xs id).length ≤ xs.length := by
  unfold rstA
  have := List.length_filter_le keepB (xs.map (bmp id))
  rwa [List.length_map] at this
/-- What is left of all of them. -/
def totA : List Ap → Int
  | [] => 0
  | a :: as' => (a.c - a.r) + totA as'
theorem totA_perm {xs ys : List Ap} (h : xs.Perm ys) : totA xs = totA ys := by
  induction h with
  | nil => rfl
  | cons a _ ih => show _ + _ = _ + _; rw [ih]
  | swap a b l => show _ + (_ + _) = _ + (_ + _); omega
  | trans _ _ ih1 ih2 => exact ih1.trans ih2
theorem rst_other {T : List Ap} {id : Int} (hn : ∀ a ∈ T, a.id ≠ id) (hk : ∀ a ∈ T, a.r < a.c) : rstA T id = T := by
  induction T with
  | nil => rfl
  | cons a T ih =>
    have e : bmp id a = a := by unfold bmp; rw [if_neg (hn a (by simp))]
    unfold rstA at ih ⊢
    rw [List.map_cons, e, List.filter_cons, if_pos (show keepB a = true from decide_eq_true (hk a (by simp)))]
    rw [ih (fun b hb => hn b (by simp [hb])) (fun b hb => hk b (by simp [hb]))]
theorem mayA_run {a : Ap} (h : mayA a = true) : a.r < a.c := by have := mayA_iff.1 h; omega
theorem fitL_lax {L : List Ap} : ∀ {now : Int}, fitL now L = true → (∀ a ∈ L, a.r ≤ a.c) → ∀ a ∈ L, now + (a.c - a.r) ≤ a.due := by
  induction L with
  | nil => intro now _ _ a ha; simp at ha
  | cons b L ih =>
    intro now h hk a ha
    unfold fitL at h
    rw [Bool.and_eq_true] at h
    have h1 := of_decide_eq_true h.1
    rcases List.mem_cons.1 ha with rfl | ha
    · exact h1
    · have := ih h.2 (fun c hc => hk c (by simp [hc])) a ha
      have := hk b (by simp)
      omega
theorem fits_able {xs : List Ap} {now : Int} (hm : ∀ a ∈ xs, mayA a = true) (h : fitsA xs now = true) : (∀ a ∈ xs, now + (a.c - a.r) ≤ a.due) ∧ ableA xs now = xs ∧ lateA xs now = [] := by
  have h1 : ∀ a ∈ xs, now + (a.c - a.r) ≤ a.due := fun a ha => fitL_lax h (fun b hb => by have := mayA_run (hm b ((ordA_perm xs).mem_iff.1 hb)); omega) a ((ordA_perm xs).mem_iff.2 ha)
  refine ⟨h1, ?_, ?_⟩
  · unfold ableA
    rw [List.filter_eq_self]
    intro a ha
    have := h1 a ha
    unfold ableB laxA
    exact decide_eq_true (by omega)
  · unfold lateA
    have : (xs.filter fun a => !ableB now a) = [] := by
      rw [List.filter_eq_nil_iff]
      intro a ha
      have := h1 a ha
      unfold ableB laxA
      rw [decide_eq_true (by omega)]
      simp
    rw [this]; rfl
theorem pick_fits {xs : List Ap} {cur now : Int} (hm : mayL xs now = true) (hf : fitsA xs now = true) (hl : 0 < xs.length) : pickA xs cur now = ((atA (ordA xs) 0).id, []) := by
  obtain ⟨_, _, _, hall⟩ := mayL_iff.1 hm
  obtain ⟨_, h2, h3⟩ := fits_able hall hf
  unfold pickA
  rw [hm, h2, h3, hf]
  simp only [if_true]
  rw [if_neg (by omega)]
/-- One time further. -/
theorem fit_step {xs : List Ap} {now : Int} (hm : mayL xs now = true) (hf : fitsA xs now = true) (hl : 0 < xs.length) (hn : now < 549755813888) :
    mayL (rstA xs (atA (ordA xs) 0).id) (now + 1) = true ∧ fitsA (rstA xs (atA (ordA xs) 0).id) (now + 1) = true ∧ totA (rstA xs (atA (ordA xs) 0).id) = totA xs - 1 ∧ ∀ a ∈ xs, keepB (bmp (atA (ordA xs) 0).id a) = false → now + 1 ≤ a.due := by
  obtain ⟨n4, ⟨n0, n1⟩, nd, hall⟩ := mayL_iff.1 hm
  have hol : (ordA xs).length = xs.length := ordA_len xs
  have hallo : ∀ a ∈ ordA xs, mayA a = true := fun a ha => hall a ((ordA_perm xs).mem_iff.1 ha)
  have ndo := ids_ord nd
  have hfo : fitL now (ordA xs) = true := hf
  have hte : totA (ordA xs) = totA xs := totA_perm (ordA_perm xs)
  have hro := rst_ord (xs := xs) (atA (ordA xs) 0).id nd
  obtain ⟨h, T, e⟩ : ∃ h T, ordA xs = h :: T := by
    cases c : ordA xs with
    | nil => rw [c] at hol; simp at hol; omega
    | cons h T => exact ⟨h, T, rfl⟩
  rw [e] at hallo ndo hfo hte hro ⊢
  have e0 : atA (h :: T) 0 = h := rfl
  rw [e0] at hro ⊢
  have hh := mayA_iff.1 (hallo h (by simp))
  have hT : rstA T h.id = T := by
    refine rst_other (fun a ha e2 => ?_) (fun a ha => mayA_run (hallo a (by simp [ha])))
    unfold idsA at ndo
    rw [List.map_cons, List.nodup_cons] at ndo
    exact ndo.1 (List.mem_map.2 ⟨a, ha, e2⟩)
  have hb : bmp h.id h = ⟨h.id, h.due, h.c, h.v, h.r + 1⟩ := by unfold bmp; rw [if_pos rfl]
  have hr : rstA (h :: T) h.id = if h.r + 1 < h.c then ⟨h.id, h.due, h.c, h.v, h.r + 1⟩ :: T else T := by
    unfold rstA at hT ⊢
    rw [List.map_cons, hb, List.filter_cons]
    unfold keepB at hT ⊢
    simp only [decide_eq_true_eq]
    split
    · rw [hT]
    · exact hT
  unfold fitL at hfo
  rw [Bool.and_eq_true] at hfo
  have f1 := of_decide_eq_true hfo.1
  have hal : ∀ a ∈ xs, a ∈ h :: T := fun a ha => by rw [← e]; exact (ordA_perm xs).mem_iff.2 ha
  refine ⟨?_, ?_, ?_, ?_⟩
  · refine mayL_iff.2 ⟨by have := rst_len xs h.id; omega, ⟨by omega, by omega⟩, rst_nodup _ nd, fun a ha => ?_⟩
    unfold rstA at ha
    obtain ⟨h1, h2⟩ := List.mem_filter.1 ha
    obtain ⟨b, hb1, rfl⟩ := List.mem_map.1 h1
    have hmb := mayA_iff.1 (hall b hb1)
    have h3 := of_decide_eq_true h2
    unfold bmp at h3 ⊢
    split at h3
    · next c => rw [if_pos c]; rw [mayA_iff]; simp only at h3 ⊢; omega
    · next c => rw [if_neg c]; exact hall b hb1
  · unfold fitsA
    rw [← hro, hr]
    split
    · unfold fitL
      simp only
      rw [Bool.and_eq_true]
      exact ⟨decide_eq_true (by omega), by rw [show now + 1 + (h.c - (h.r + 1)) = now + (h.c - h.r) by omega]; exact hfo.2⟩
    · rw [show now + 1 = now + (h.c - h.r) by omega]; exact hfo.2
  · rw [← totA_perm (ordA_perm (rstA xs h.id)), ← hro, hr, ← hte]
    split
    · show _ + totA T = _ + totA T - 1
      simp only
      omega
    · show totA T = _ + totA T - 1
      omega
  · intro a ha hk
    have hma := mayA_iff.1 (hall a ha)
    unfold keepB bmp at hk
    have hk' := of_decide_eq_false hk
    split at hk'
    · next c =>
      have : a = h := by
        have nd2 : (idsA (h :: T)).Nodup := ndo
        exact key_same nd2 (hal a ha) (by simp) c
      subst this
      simp only at hk'
      omega
    · omega
theorem totA_bd {xs : List Ap} (h : ∀ a ∈ xs, mayA a = true) : (xs.length : Int) ≤ totA xs ∧ totA xs ≤ 40 * xs.length := by
  induction xs with
  | nil => simp [totA]
  | cons a xs ih =>
    have := ih (fun b hb => h b (by simp [hb]))
    have ha := mayA_iff.1 (h a (by simp))
    unfold totA
    rw [List.length_cons]
    omega
end Go.Proofs.Ytjaaabliefcgaaa
/- What the statement DoverFits comes to. -/
namespace Go.Proofs.Ytjaaabliefcgaaa
open Go.RowKit Go.Maps Go.Shelf

theorem own_some {w : World} {base n : Nat} {v : Value} {xs : List Int} (h : w.ownsRow base 3 1 v n (ivs xs)) (hn : 0 < n) : ∃ g cap, v = .slice (some ⟨g, 0, none⟩) n cap ∧ n ≤ cap := by
  rcases h.2 with ⟨_, e⟩ | ⟨g, cap, cur, rfl, _, _, b2, _⟩
  · omega
  · exact ⟨g, cap, rfl, b2⟩
theorem ord_cell {w : World} {base g cap : Nat} {xs : List Ap} (h : w.ownsRow base 3 1 (.slice (some ⟨g, 0, none⟩) xs.length cap) xs.length (ivs (idsA (ordA xs)))) {j : Nat} (hj : j < xs.length) : w.cell? ⟨g, j, none⟩ = some (.int .i64 (atA (ordA xs) j).id) := by
  have k0 := (h.cellAt j (by omega)).trans (ivs_at (by rw [idsA_len, ordA_len]; exact hj))
  have e0 : (idsA (ordA xs)).getD j 0 = (atA (ordA xs) j).id := by
    have := atA_ordId hj
    simp [List.getD, this]
  rwa [e0] at k0

set_option maxHeartbeats 1000000 in
set_option maxRecDepth 100000 in
theorem law_dfits (xs : List Ap) (v : Value) (cur now : Int) (w : World) (h : Aps w v xs) (hw : ∀ a ∈ xs, wfK a.key) (hc : okI cur) :
    Calls Try.prog 5 #[v, .int .i64 cur, .int .i64 now] w fun e w' => e = .returned (.bool true) ∧ Below w.heap.size w w' := by
  obtain ⟨a0, ha, ha0, ha1, ha2⟩ := info_parts Try.infoApe
  have HA : Hid (Aps w v xs) := h
  have HC : Hid (okI cur) := hc
  have HW : Hid (∀ a ∈ xs, wfK a.key) := hw
  clear h hc hw
  go_enter Try.func5, Try.ntmps5
  go_wp2_with fail
  refine (awake13_any _).mono ?_
  rintro e w1 ⟨rfl, hb1⟩
  have HA1 : Hid (Aps w1 v xs) := HA.out.later hb1
  go_wp2_with fail
  refine (may13_any xs v now w1 HA1.out HW.out).mono ?_
  rintro e w2 ⟨rfl, hb2⟩
  have hB2 := hb1.trans (hb2.mono hb1.size)
  have HA2 : Hid (Aps w2 v xs) := HA1.out.later hb2
  obtain ⟨p, hp⟩ : ∃ p, mayL xs now = p := ⟨_, rfl⟩
  have HM : Hid (mayL xs now = p) := hp
  rw [hp]
  clear hp hb1 hb2 HA1 HA
  cases p
  · go_wp2_with fail
    go_ret
    exact ⟨rfl, hB2⟩
  obtain ⟨n4, ⟨n0, n1⟩, _, hall⟩ := mayL_iff.1 HM.out
  have HNL : Hid (nearL xs) := fun a ha => mayA_near (hall a ha)
  have HTB : Hid (totA xs ≤ 160) := by have := (totA_bd hall).2; show _ ≤ _; omega
  clear hall
  by_cases hn38 : 274877906944 < now
  · go_wp2_with fail
    go_ret
    exact ⟨rfl, hB2⟩
  go_wp2_with fail
  refine (fits13_any xs v now w2 HA2.out (by omega) HW.out HNL.out (by omega) (by omega)).mono ?_
  rintro e w3 ⟨rfl, hb3⟩
  have hB3 := hB2.trans (hb3.mono hB2.size)
  have HA3 : Hid (Aps w3 v xs) := HA2.out.later hb3
  obtain ⟨p, hp⟩ : ∃ p, fitsA xs now = p := ⟨_, rfl⟩
  have HF : Hid (fitsA xs now = p) := hp
  rw [hp]
  clear hp hb3 HA2 hB2
  cases p
  · go_wp2_with fail
    go_ret
    exact ⟨rfl, hB3⟩
  have HS : Hid (Aps w3 v xs ∧ mayL xs now = true ∧ fitsA xs now = true ∧ totA xs ≤ 160 - ((0 : Nat) : Int) ∧ okI cur ∧ Below w.heap.size w w3) := ⟨HA3.out, HM.out, HF.out, by have := HTB.out; omega, HC.out, hB3⟩
  clear HA3 HM HF HTB hB3 HC HW HNL
  go_wp2_with fail
  go_loopw [0, 1, 2, 8] (fun l c n kk wr => ∃ (k : Nat) (ys : List Ap) (lv : Value) (cu nw : Int), lv = l ∧ c = .int .i64 cu ∧ n = .int .i64 nw ∧ kk = .int .i64 k ∧ k ≤ 200 ∧ nw ≤ 274877906944 + k ∧ Hid (Aps wr lv ys ∧ mayL ys nw = true ∧ fitsA ys nw = true ∧ totA ys ≤ 160 - (k : Int) ∧ okI cu ∧ Below w.heap.size w wr)) (fun _ _ _ kk _ => ((200 : Int) - intOf kk).toNat)
  case atStart => exact ⟨0, xs, _, _, _, rfl, rfl, rfl, rfl, by omega, by omega, HS.out⟩
  case round =>
    clear HS n4 n0 n1 hn38
    obtain ⟨k, ys, lv, cu, nw, rfl, rfl, rfl, rfl, hk, hnw, HS⟩ := hrel
    obtain ⟨n4, ⟨n0, n1⟩, _, hall⟩ := mayL_iff.1 HS.out.2.1
    have htot := totA_bd hall
    have HWF : Hid (∀ a ∈ ys, wfK a.key) := fun a ha => mayA_wf (hall a ha)
    obtain ⟨ad, cap, rfl, l1, l2, l3, l4⟩ := HS.out.1.open
    clear hall l4
    by_cases hz : ys.length = 0
    · have hz' : (ys.length : Int) = 0 := by omega
      have HB : Hid (Below w.heap.size w wr) := HS.out.2.2.2.2.2
      clear HS HWF htot
      by_cases hk2 : (k : Int) < 200
      · go_wp2_with fail
        go_ret
        exact ⟨rfl, HB.out⟩
      · go_wp2_with fail
        go_ret
        exact ⟨rfl, HB.out⟩
    have hk2 : (k : Int) < 200 := by have := HS.out.2.2.2.1; omega
    have hpos : (0 : Int) < ys.length := by omega
    have HPK : Hid (pickA ys cu nw = ((atA (ordA ys) 0).id, [])) := pick_fits HS.out.2.1 HS.out.2.2.1 (by omega)
    obtain ⟨s1, s2, s3, s4⟩ := fit_step HS.out.2.1 HS.out.2.2.1 (by omega) (by omega)
    have HOI : Hid (okI (atA (ordA ys) 0).id) := (HWF.out _ ((ordA_perm ys).mem_iff.1 (atA_mem (by rw [ordA_len]; omega)))).2
    have HST : Hid (mayL (rstA ys (atA (ordA ys) 0).id) (nw + 1) = true ∧ fitsA (rstA ys (atA (ordA ys) 0).id) (nw + 1) = true ∧ totA (rstA ys (atA (ordA ys) 0).id) ≤ 160 - ((k + 1 : Nat) : Int) ∧ ∀ a ∈ ys, keepB (bmp (atA (ordA ys) 0).id a) = false → nw + 1 ≤ a.due) := ⟨s1, s2, by have := HS.out.2.2.2.1; omega, s4⟩
    have hwn : IntKind.i64.wrap (nw + 1) = nw + 1 := wrap_near (by omega) (by omega)
    have HMY : Hid (mayL ys nw = true) := HS.out.2.1
    clear s1 s2 s3 s4 htot
    go_wp2_with fail
    refine (pick13_any ys _ cu nw wr HS.out.1 HWF.out HS.out.2.2.2.2.1).mono ?_
    rintro e w4 ⟨g, rfl, hg, hb4⟩
    rw [HPK.out] at hg ⊢
    obtain ⟨ga, gc, rfl, _⟩ := hg.nums.1
    have HS4 : Hid (Aps w4 (.slice ad ys.length cap) ys ∧ Below w.heap.size w w4) := ⟨HS.out.1.later hb4, HS.out.2.2.2.2.2.trans (hb4.mono HS.out.2.2.2.2.2.size)⟩
    clear hg hb4 HS HPK
    go_wp2_with fail
    refine (order13_any ys _ w4 HS4.out.1 (by omega) HWF.out).mono ?_
    rintro e w5 ⟨u, rfl, hu, hb5⟩
    obtain ⟨go, oc, rfl, _⟩ := own_some hu (by omega)
    have c0 := ord_cell hu (j := 0) (by omega)
    have HS5 : Hid (Aps w5 (.slice ad ys.length cap) ys ∧ Below w.heap.size w w5) := ⟨HS4.out.1.later hb5, HS4.out.2.trans (hb5.mono HS4.out.2.size)⟩
    obtain ⟨oi, ho⟩ : ∃ oi, (atA (ordA ys) 0).id = oi := ⟨_, rfl⟩
    rw [ho] at c0 HST HOI ⊢
    clear ho hu hb5 HS4 HWF
    go_wp2_with fail
    clear c0
    go_loopw [12, 13] (fun rv i wr => ∃ (j : Nat) (rest : Value), rest = rv ∧ j ≤ ys.length ∧ i = .int .i64 j ∧ Hid (OwnA wr w5.heap.size rest (rstA (ys.take j) oi)) ∧ Below w5.heap.size w5 wr) (fun _ i _ => ((ys.length : Int) - intOf i).toNat)
    case atStart => exact ⟨0, _, rfl, by omega, rfl, OwnA.nil _ _, Below.refl _ _⟩
    case round =>
      obtain ⟨j, rest, rfl, hj, rfl, HO, hbw⟩ := hrel
      by_cases hjl : (j : Int) < ys.length
      rotate_left
      · obtain rfl : j = ys.length := by omega
        have HO2 : Hid (OwnA wr w5.heap.size rest (rstA ys oi)) := by have := HO.out; rwa [List.take_length] at this
        have HB2 : Hid (Below w.heap.size w wr) := HS5.out.2.trans (hbw.mono HS5.out.2.size)
        have HWR : Hid (∀ a ∈ rstA ys oi, wfK a.key) := fun a ha => mayA_wf ((mayL_iff.1 HST.out.1).2.2.2 a ha)
        have HNR : Hid (nearL (rstA ys oi)) := fun a ha => mayA_near ((mayL_iff.1 HST.out.1).2.2.2 a ha)
        have hrl := rst_len ys oi
        clear HO hbw HS5
        go_wp2_with fail
        refine (fits13_any (rstA ys oi) _ (nw + 1) _ HO2.out.aps (by omega) HWR.out HNR.out (by omega) (by omega)).mono ?_
        rintro e w6 ⟨rfl, hb6⟩
        rw [HST.out.2.1]
        have HS6 : Hid (Aps w6 rest (rstA ys oi) ∧ mayL (rstA ys oi) (nw + 1) = true ∧ fitsA (rstA ys oi) (nw + 1) = true ∧ totA (rstA ys oi) ≤ 160 - ((k + 1 : Nat) : Int) ∧ okI oi ∧ Below w.heap.size w w6) := ⟨HO2.out.aps.later hb6, HST.out.1, HST.out.2.1, HST.out.2.2.1, HOI.out, HB2.out.trans (hb6.mono HB2.out.size)⟩
        clear HO2 HB2 HWR HNR hb6
        go_wp2_with fail
        go_roundw
        case rel => exact ⟨k + 1, rstA ys oi, rest, oi, nw + 1, rfl, rfl, rfl, by go_num, by omega, by omega, HS6.out⟩
        case measure => simp [intOf]; omega
      obtain ⟨bk, o, hbk, _⟩ : ∃ bk o, ad = some ⟨bk, o, none⟩ ∧ True := by
        obtain ⟨_, _, e', _, _, _, h4⟩ := HS5.out.1.open
        obtain ⟨b, o, e2, _⟩ := h4 (by omega)
        simp only [Value.slice.injEq] at e'
        exact ⟨b, o, by rw [e'.1, e2], trivial⟩
      subst hbk
      obtain ⟨k0, k1, k2, k3, k4⟩ := HS5.out.1.at5 (i := j) (by omega)
      have sb : bk < w5.heap.size := World.block_lt_of_cell? _ _ k0
      have c0 := cell_later hbw k0
      have c1 := cell_later hbw k1
      have c2 := cell_later hbw k2
      have c3 := cell_later hbw k3
      have c4 := cell_later hbw k4
      have hsw := hbw.size
      have HRN : Hid (rstA (ys.take (j + 1)) oi = if keepB (bmp oi (atA ys j)) = true then rstA (ys.take j) oi ++ [bmp oi (atA ys j)] else rstA (ys.take j) oi) := rst_next (by omega) oi
      have HDL : Hid (keepB (bmp oi (atA ys j)) = false → nw + 1 ≤ (atA ys j).due) := HST.out.2.2.2 _ (atA_mem (by omega))
      have hma := mayA_iff.1 ((mayL_iff.1 (show mayL ys nw = true from HMY.out)).2.2.2 _ (atA_mem (show j < ys.length by omega)))
      have hrl := rst_len (ys.take j) oi
      rw [List.length_take] at hrl
      clear k0 k1 k2 k3 k4
      generalize atA ys j = a at *
      obtain ⟨ii, dd, cc, vv, rr⟩ := a
      simp only at c0 c1 c2 c3 c4 hma HDL
      have hwr : IntKind.i64.wrap (rr + 1) = rr + 1 := wrap_near (by omega) (by omega)
      clear hma
      by_cases hi : ii = oi
      · have he : (ii == oi) = true := by simpa using hi
        have HBM : Hid (bmp oi ⟨ii, dd, cc, vv, rr⟩ = ⟨ii, dd, cc, vv, rr + 1⟩) := by show _ = _; unfold bmp; rw [if_pos hi]
        by_cases hk : rr + 1 < cc
        · have HR : Hid (rstA (ys.take (j + 1)) oi = rstA (ys.take j) oi ++ [⟨ii, dd, cc, vv, rr + 1⟩]) := by show _ = _; rw [HRN.out, HBM.out, if_pos (show keepB _ = true from decide_eq_true hk)]
          clear HRN HDL HBM hi
          have HB5 : Hid (Below w5.heap.size w5 ((wr.alloc (.cells #[.int .i64 ii, .int .i64 dd, .int .i64 cc, .int .i64 vv, .int .i64 (rr + 1)] 30)).alloc (.cells #[.int .i64 ii, .int .i64 dd, .int .i64 cc, .int .i64 vv, .int .i64 (rr + 1)] 30))) := (hbw.alloc hsw _).alloc (by simp; omega) _
          have HO5 : Hid (OwnA ((wr.alloc (.cells #[.int .i64 ii, .int .i64 dd, .int .i64 cc, .int .i64 vv, .int .i64 (rr + 1)] 30)).alloc (.cells #[.int .i64 ii, .int .i64 dd, .int .i64 cc, .int .i64 vv, .int .i64 (rr + 1)] 30)) w5.heap.size rest (rstA (ys.take j) oi)) := (HO.out.later ((Below.refl _ _).alloc (Nat.le_refl _) _)).later ((Below.refl _ _).alloc (Nat.le_refl _) _)
          have HX5 : Hid (Bx5 ((wr.alloc (.cells #[.int .i64 ii, .int .i64 dd, .int .i64 cc, .int .i64 vv, .int .i64 (rr + 1)] 30)).alloc (.cells #[.int .i64 ii, .int .i64 dd, .int .i64 cc, .int .i64 vv, .int .i64 (rr + 1)] 30)) (wr.heap.size + 1) ii dd cc vv (rr + 1)) := by
            have := Bx5.new (wr.alloc (.cells #[.int .i64 ii, .int .i64 dd, .int .i64 cc, .int .i64 vv, .int .i64 (rr + 1)] 30)) ii dd cc vv (rr + 1) 30
            rwa [World.size_alloc] at this
          go_wp2_with (first
            | (at_builtin; refine wpList_append_own_at _ rfl _ _ 22 rfl w5.heap.size 30 a0 _ 5 40 Try.underlying22 ha ha0 ha1 ha2 rfl (by decide) rest _ _ rfl HO5.out ⟨wr.heap.size + 1, 0, none⟩ 1 1 (Ap.row ⟨ii, dd, cc, vv, rr + 1⟩) rfl rfl HX5.out.news (recA.one ⟨ii, dd, cc, vv, rr + 1⟩) (by unfold maxLen; omega) (by omega) (by simp; omega) ?_; intro v' w6 hown6 hg6 _ hat6))
          have HO6 : Hid (OwnA w6 w5.heap.size v' (rstA (ys.take (j + 1)) oi)) := by
            show OwnA _ _ _ _
            rw [HR.out]
            unfold OwnA
            rw [List.length_append, flatA_app, flatA_one]
            exact hown6
          have HB6 : Hid (Below w5.heap.size w5 w6) := HB5.out.grown hg6 HB5.out.size (fun k hk => HO5.out.low k hk)
          clear HB5 HO5 HX5 hown6 hg6 hat6 HO hbw
          go_wp2_with fail
          go_roundw
          case rel => exact ⟨j + 1, _, rfl, by omega, by go_num, HO6.out, HB6.out⟩
          case measure => simp [intOf]; omega
        · have HR : Hid (rstA (ys.take (j + 1)) oi = rstA (ys.take j) oi) := by show _ = _; rw [HRN.out, HBM.out, if_neg (by simp [keepB]; omega)]
          have HDL : Hid (True → nw + 1 ≤ dd) := fun _ => HDL.out (by rw [HBM.out]; exact decide_eq_false hk)
          clear HRN HBM hi
          have HB5 : Hid (Below w5.heap.size w5 (wr.alloc (.cells #[.int .i64 ii, .int .i64 dd, .int .i64 cc, .int .i64 vv, .int .i64 (rr + 1)] 30))) := hbw.alloc hsw _
          have HO6 : Hid (OwnA (wr.alloc (.cells #[.int .i64 ii, .int .i64 dd, .int .i64 cc, .int .i64 vv, .int .i64 (rr + 1)] 30)) w5.heap.size rest (rstA (ys.take (j + 1)) oi)) := by
            show OwnA _ _ _ _
            rw [HR.out]
            exact HO.out.later ((Below.refl _ _).alloc (Nat.le_refl _) _)
          have hdd := HDL.out (by trivial)
          clear HO hbw
          go_wp2_with fail
          go_roundw
          case rel => exact ⟨j + 1, _, rfl, by omega, by go_num, HO6.out, HB5.out⟩
          case measure => simp [intOf]; omega
      · have he : (ii == oi) = false := by simpa using hi
        have HBM : Hid (bmp oi ⟨ii, dd, cc, vv, rr⟩ = ⟨ii, dd, cc, vv, rr⟩) := by show _ = _; unfold bmp; rw [if_neg hi]
        by_cases hk : rr < cc
        · have HR : Hid (rstA (ys.take (j + 1)) oi = rstA (ys.take j) oi ++ [⟨ii, dd, cc, vv, rr⟩]) := by show _ = _; rw [HRN.out, HBM.out, if_pos (show keepB _ = true from decide_eq_true hk)]
          clear HRN HDL HBM hi
          have HB5 : Hid (Below w5.heap.size w5 ((wr.alloc (.cells #[.int .i64 ii, .int .i64 dd, .int .i64 cc, .int .i64 vv, .int .i64 (rr)] 30)).alloc (.cells #[.int .i64 ii, .int .i64 dd, .int .i64 cc, .int .i64 vv, .int .i64 (rr)] 30))) := (hbw.alloc hsw _).alloc (by simp; omega) _
          have HO5 : Hid (OwnA ((wr.alloc (.cells #[.int .i64 ii, .int .i64 dd, .int .i64 cc, .int .i64 vv, .int .i64 (rr)] 30)).alloc (.cells #[.int .i64 ii, .int .i64 dd, .int .i64 cc, .int .i64 vv, .int .i64 (rr)] 30)) w5.heap.size rest (rstA (ys.take j) oi)) := (HO.out.later ((Below.refl _ _).alloc (Nat.le_refl _) _)).later ((Below.refl _ _).alloc (Nat.le_refl _) _)
          have HX5 : Hid (Bx5 ((wr.alloc (.cells #[.int .i64 ii, .int .i64 dd, .int .i64 cc, .int .i64 vv, .int .i64 (rr)] 30)).alloc (.cells #[.int .i64 ii, .int .i64 dd, .int .i64 cc, .int .i64 vv, .int .i64 (rr)] 30)) (wr.heap.size + 1) ii dd cc vv (rr)) := by
            have := Bx5.new (wr.alloc (.cells #[.int .i64 ii, .int .i64 dd, .int .i64 cc, .int .i64 vv, .int .i64 (rr)] 30)) ii dd cc vv (rr) 30
            rwa [World.size_alloc] at this
          go_wp2_with (first
            | (at_builtin; refine wpList_append_own_at _ rfl _ _ 22 rfl w5.heap.size 30 a0 _ 5 40 Try.underlying22 ha ha0 ha1 ha2 rfl (by decide) rest _ _ rfl HO5.out ⟨wr.heap.size + 1, 0, none⟩ 1 1 (Ap.row ⟨ii, dd, cc, vv, rr⟩) rfl rfl HX5.out.news (recA.one ⟨ii, dd, cc, vv, rr⟩) (by unfold maxLen; omega) (by omega) (by simp; omega) ?_; intro v' w6 hown6 hg6 _ hat6))
          have HO6 : Hid (OwnA w6 w5.heap.size v' (rstA (ys.take (j + 1)) oi)) := by
            show OwnA _ _ _ _
            rw [HR.out]
            unfold OwnA
            rw [List.length_append, flatA_app, flatA_one]
            exact hown6
          have HB6 : Hid (Below w5.heap.size w5 w6) := HB5.out.grown hg6 HB5.out.size (fun k hk => HO5.out.low k hk)
          clear HB5 HO5 HX5 hown6 hg6 hat6 HO hbw
          go_wp2_with fail
          go_roundw
          case rel => exact ⟨j + 1, _, rfl, by omega, by go_num, HO6.out, HB6.out⟩
          case measure => simp [intOf]; omega
        · have HR : Hid (rstA (ys.take (j + 1)) oi = rstA (ys.take j) oi) := by show _ = _; rw [HRN.out, HBM.out, if_neg (by simp [keepB]; omega)]
          have HDL : Hid (True → nw + 1 ≤ dd) := fun _ => HDL.out (by rw [HBM.out]; exact decide_eq_false hk)
          clear HRN HBM hi
          have HB5 : Hid (Below w5.heap.size w5 (wr.alloc (.cells #[.int .i64 ii, .int .i64 dd, .int .i64 cc, .int .i64 vv, .int .i64 (rr)] 30))) := hbw.alloc hsw _
          have HO6 : Hid (OwnA (wr.alloc (.cells #[.int .i64 ii, .int .i64 dd, .int .i64 cc, .int .i64 vv, .int .i64 (rr)] 30)) w5.heap.size rest (rstA (ys.take (j + 1)) oi)) := by
            show OwnA _ _ _ _
            rw [HR.out]
            exact HO.out.later ((Below.refl _ _).alloc (Nat.le_refl _) _)
          have hdd := HDL.out (by trivial)
          clear HO hbw
          go_wp2_with fail
          go_roundw
          case rel => exact ⟨j + 1, _, rfl, by omega, by go_num, HO6.out, HB5.out⟩
          case measure => simp [intOf]; omega
end Go.Proofs.Ytjaaabliefcgaaa
/- Who is gone, in numbers; walk of find; what the statement DoverCan comes to. -/
namespace Go.Proofs.Ytjaaabliefcgaaa
open Go.RowKit Go.Maps Go.Shelf

/-- The first one of that ID. -/
def fdA (xs : List Ap) (id : Int) : Option Ap := xs.find? fun a => decide (a.id = id)
theorem fd_at {xs : List Ap} {j : Nat} {id : Int} (hj : j < xs.length) (h : (atA xs j).id = id) (hb : ∀ t, t < j → (atA xs t).id ≠ id) : fdA xs id = some (atA xs j) := by
  unfold fdA
  have e : xs = xs.take j ++ atA xs j :: xs.drop (j + 1) := by rw [← dropA_next hj, List.take_append_drop]
  rw [e, List.find?_append]
  have h1 : (xs.take j).find? (fun a => decide (a.id = id)) = none := by
    rw [List.find?_eq_none]
    intro a ha
    obtain ⟨t, ht, et⟩ := List.getElem_of_mem ha
    rw [List.length_take] at ht
    have := hb t (by omega)
    rw [List.getElem_take] at et
    rw [atA_of (List.getElem?_eq_getElem (show t < xs.length by omega)), et] at this
    simpa using this
  rw [h1]
  have e2 : atA (xs.take j ++ atA xs j :: xs.drop (j + 1)) j = atA xs j := by rw [← e]
  rw [e2]
  simp [h]
theorem fd_none {xs : List Ap} {id : Int} (hb : ∀ t, t < xs.length → (atA xs t).id ≠ id) : fdA xs id = none := by
  unfold fdA
  rw [List.find?_eq_none]
  intro a ha
  obtain ⟨t, ht, et⟩ := List.getElem_of_mem ha
  have := hb t ht
  rw [atA_of (List.getElem?_eq_getElem ht), et] at this
  simpa using this
theorem fd_mem {xs : List Ap} (hd : (idsA xs).Nodup) {a : Ap} (ha : a ∈ xs) : fdA xs a.id = some a := by
  obtain ⟨i, hi, e⟩ := List.getElem_of_mem ha
  have e1 : atA xs i = a := by rw [atA_of (List.getElem?_eq_getElem hi), e]
  have := fd_at (xs := xs) (id := a.id) hi (by rw [e1]) (fun t ht e2 => by
    have := key_same hd (atA_mem (show t < xs.length by omega)) ha e2
    have h1 : (idsA xs)[t]? = some a.id := by unfold idsA; rw [List.getElem?_map, atA_get (by omega), this]; rfl
    have h2 : (idsA xs)[i]? = some a.id := by unfold idsA; rw [List.getElem?_map, atA_get hi, e1]; rfl
    have := (List.getElem?_inj (i := t) (by rw [idsA_len]; omega) hd).1 (h1.trans h2.symm)
    omega)
  rw [this, e1]
theorem fd_not {xs : List Ap} {id : Int} (h : id ∉ idsA xs) : fdA xs id = none := by
  unfold fdA
  rw [List.find?_eq_none]
  intro a ha e
  exact h (by rw [← of_decide_eq_true e]; exact List.mem_map_of_mem ha)
def put5 (w : World) (b : Nat) (a : Ap) : World := set5 w b a.id a.due a.c a.v a.r
set_option maxHeartbeats 1000000 in
set_option maxRecDepth 100000 in
theorem find13_any (xs : List Ap) (v : Value) (id : Int) (w : World) (h : Aps w v xs) :
    Calls Try.prog 23 #[v, .int .i64 id] w fun e w' => e = .returned (.tuple #[apV ((fdA xs id).getD apZ), .bool (fdA xs id).isSome]) ∧ Below w.heap.size w w' := by
  obtain ⟨ad, cap, rfl, h1, h2, h0, h3⟩ := h.open
  have HZ : Hid (Bx5 (w.alloc (.cells #[.int .i64 0, .int .i64 0, .int .i64 0, .int .i64 0, .int .i64 0] 30)) w.heap.size 0 0 0 0 0) := Bx5.new _ _ _ _ _ _ _
  have HB : Hid (Below w.heap.size w (w.alloc (.cells #[.int .i64 0, .int .i64 0, .int .i64 0, .int .i64 0, .int .i64 0] 30))) := (Below.refl _ _).alloc (Nat.le_refl _) _
  have HF : Hid (Fr5 (w.alloc (.cells #[.int .i64 0, .int .i64 0, .int .i64 0, .int .i64 0, .int .i64 0] 30)) w.heap.size) := Fr5.new _ _ _ _ _ _ _
  have hlm : xs.length ≤ 9223372036854775807 := by unfold maxLen at h2; omega
  clear h
  go_enter Try.func23, Try.ntmps23
  go_wp2_with fail
  go_loop [6] (fun i => ∃ (j : Nat), j ≤ xs.length ∧ i = .int .i64 j ∧ Hid (∀ t, t < j → (atA xs t).id ≠ id)) (fun i => ((xs.length : Int) - intOf i).toNat)
  case atStart => exact ⟨0, by omega, rfl, fun t ht => by omega⟩
  case round =>
    obtain ⟨j, hj, rfl, HJ⟩ := hrel
    by_cases hlt : (j : Int) < xs.length
    · obtain ⟨b, o, rfl, h4⟩ := h3 (by omega)
      obtain ⟨k0, k1, k2, k3, k4⟩ := h4 j (by omega)
      have hb := HB.out
      have c0 := cell_later hb k0
      have c1 := cell_later hb k1
      have c2 := cell_later hb k2
      have c3 := cell_later hb k3
      have c4 := cell_later hb k4
      have sb : b < w.heap.size := World.block_lt_of_cell? _ _ k0
      have HN : Hid ((atA xs j).id ≠ id → ∀ t, t < j + 1 → (atA xs t).id ≠ id) := fun e t ht => by
        rcases (show t = j ∨ t < j by omega) with rfl | h
        · exact e
        · exact HJ.out t h
      have HY : Hid ((atA xs j).id = id → fdA xs id = some (atA xs j)) := fun e => fd_at (by omega) e HJ.out
      clear h3 h4 hb HJ k0 k1 k2 k3 k4
      generalize atA xs j = a at *
      obtain ⟨ii, dd, cc, vv, rr⟩ := a
      simp only at c0 c1 c2 c3 c4 HN HY
      by_cases e : ii = id
      · have e' : (ii == id) = true := by simpa using e
        have HE : Hid (fdA xs id = some ⟨ii, dd, cc, vv, rr⟩) := HY.out e
        clear e HN HY
        go_wp2_with fail
        refine bodyPost_ret (v := .tuple #[apV ⟨ii, dd, cc, vv, rr⟩, .bool true]) ?_ rfl ⟨by rw [HE.out]; rfl, (Below.refl _ _).alloc (Nat.le_refl _) _⟩
        simp [results, Try.results23, go_sem, apV]
      · have e' : (ii == id) = false := by simpa using e
        have HN2 : Hid (∀ t, t < j + 1 → (atA xs t).id ≠ id) := HN.out e
        clear e HN HY
        go_wp2_with fail
        go_round
        case rel => exact ⟨j + 1, by omega, by go_num, HN2.out⟩
        case measure => simp [intOf]; omega
    · have HE : Hid (fdA xs id = none) := fd_none (fun t ht => HJ.out t (by omega))
      go_wp2_with fail
      refine bodyPost_ret (v := .tuple #[apV apZ, .bool false]) ?_ rfl ⟨by rw [HE.out]; rfl, (Below.refl _ _).alloc (Nat.le_refl _) _⟩
      simp [results, Try.results23, go_sem, apV, apZ]

/-- What holds of who is gone, as they are asked one by one. -/
structure GonR (xs : List Ap) (now : Int) (P : List Ap) (r : Ap) (gs : List Int) : Prop where
  sub : gs.Sublist (idsA P)
  lax : ∀ x ∈ gs, ∃ a ∈ P, a.id = x ∧ laxA a now ≤ 0
  zero : r = apZ → gs = []
  not : r ≠ apZ → r.id ∉ gs
theorem gon_step {xs P : List Ap} {now : Int} {r a : Ap} {gs : List Int} (h : GonR xs now P r gs) (hd : (idsA (P ++ [a])).Nodup) (hr : r = apZ ∨ r ∈ xs) (hx : (idsA xs).Nodup) (ha : a ∈ xs) (hz : a ≠ apZ) : GonR xs now (P ++ [a]) (stpA now (r, gs) a).1 (stpA now (r, gs) a).2 := by
  have e : idsA (P ++ [a]) = idsA P ++ [a.id] := by unfold idsA; rw [List.map_append]; rfl
  have more : ∀ x ∈ gs, ∃ b ∈ P ++ [a], b.id = x ∧ laxA b now ≤ 0 := fun x hx => by
    obtain ⟨b, hb, h1, h2⟩ := h.lax x hx
    exact ⟨b, by simp [hb], h1, h2⟩
  have wide : gs.Sublist (idsA (P ++ [a])) := by rw [e]; exact h.sub.trans (List.sublist_append_left _ _)
  have fresh : a.id ∉ gs := fun hm => by
    rw [e, List.nodup_append] at hd
    exact hd.2.2 _ (h.sub.subset hm) _ (by simp) rfl
  unfold stpA
  split
  · exact ⟨wide, more, h.zero, h.not⟩
  · next c =>
    have c1 : eqA a r = false := by
      cases q : eqA a r
      · rfl
      · exact absurd (.inl q) c
    have c2 : laxA a now ≤ 0 := by
      have : ¬ 0 < laxA a now := fun q => c (.inr q)
      omega
    split
    · exact ⟨wide, more, fun e2 => absurd e2 hz, fun _ => fresh⟩
    · next y =>
      refine ⟨by rw [e]; exact List.Sublist.append h.sub (List.Sublist.refl _), fun x hx => ?_, fun e2 => ?_, fun e2 => ?_⟩
      · rcases List.mem_append.1 hx with hx | hx
        · exact more x hx
        · rw [List.mem_singleton] at hx
          exact ⟨a, by simp, hx.symm, c2⟩
      · exfalso
        apply y
        unfold yldB
        rw [show eqA r apZ = true from eqA_iff.2 e2, Bool.true_or]
      · intro hm
        rcases List.mem_append.1 hm with hm | hm
        · exact h.not e2 hm
        · rw [List.mem_singleton] at hm
          rcases hr with hr | hr
          · exact e2 hr
          · exact (eqA_no.1 c1) (key_same hx ha hr hm.symm)
theorem gon_run {xs L : List Ap} {now : Int} (hx : (idsA xs).Nodup) (hL : ∀ a ∈ L, a ∈ xs) (hz : ∀ a ∈ xs, a ≠ apZ) : ∀ (M P : List Ap) (r : Ap) (gs : List Int), P ++ M = L → (idsA L).Nodup → (r = apZ ∨ r ∈ xs) → GonR xs now P r gs → GonR xs now L (M.foldl (stpA now) (r, gs)).1 (M.foldl (stpA now) (r, gs)).2 := by
  intro M
  induction M with
  | nil => intro P r gs e _ _ h; rw [List.append_nil] at e; subst e; exact h
  | cons a M ih =>
    intro P r gs e hd hr h
    have hal : a ∈ xs := hL a (by rw [← e]; simp)
    rw [List.foldl_cons]
    have hr' : (stpA now (r, gs) a).1 = apZ ∨ (stpA now (r, gs) a).1 ∈ xs := by
      unfold stpA
      split
      · exact hr
      · split
        · exact .inr hal
        · exact hr
    have hd' : (idsA (P ++ [a])).Nodup := by
      have e2 : L = (P ++ [a]) ++ M := by rw [← e]; simp
      rw [e2] at hd
      unfold idsA at hd ⊢
      rw [List.map_append] at hd
      exact (List.nodup_append.1 hd).1
    exact ih (P ++ [a]) (stpA now (r, gs) a).1 (stpA now (r, gs) a).2 (by rw [← e]; simp) hd hr' (gon_step h hd' hr hx hal (hz a hal))
theorem two_len (xs : List Ap) (now : Int) : (lateA xs now).length + (ableA xs now).length = xs.length := by
  unfold lateA ableA
  rw [idsA_len]
  induction xs with
  | nil => rfl
  | cons a xs ih =>
    rw [List.filter_cons, List.filter_cons]
    cases c : ableB now a <;> simp at ih ⊢ <;> omega
theorem late_in {xs : List Ap} {now x : Int} (h : x ∈ lateA xs now) : ∃ a ∈ xs, a.id = x ∧ laxA a now < 0 := by
  unfold lateA idsA at h
  obtain ⟨a, ha, e⟩ := List.mem_map.1 h
  obtain ⟨h1, h2⟩ := List.mem_filter.1 ha
  refine ⟨a, h1, e, ?_⟩
  unfold ableB at h2
  simp at h2
  exact h2
theorem late_nodup {xs : List Ap} (now : Int) (h : (idsA xs).Nodup) : (lateA xs now).Nodup := by
  unfold idsA lateA at *
  exact h.sublist (List.filter_sublist.map _)
/-- What holds of who runs, and of who is gone. -/
structure CanR (xs : List Ap) (now : Int) (p : Int) (g : List Int) : Prop where
  lax : ∀ x ∈ g, ∃ a ∈ xs, a.id = x ∧ laxA a now ≤ 0 ∧ x ≠ p
  nodup : g.Nodup
  out : p ∉ idsA xs → p = -1 ∧ g.length = xs.length
  ins : ∀ a ∈ xs, a.id = p → 0 ≤ laxA a now ∧ g.length < xs.length
theorem pick_can {xs : List Ap} {cur now : Int} (hm : mayL xs now = true) : CanR xs now (pickA xs cur now).1 (pickA xs cur now).2 := by
  obtain ⟨_, _, nd, hall⟩ := mayL_iff.1 hm
  have htl := two_len xs now
  have hln := late_nodup now nd
  have neg : ∀ a ∈ xs, a.id ≠ -1 := fun a ha e => by have := (mayA_iff.1 (hall a ha)).1; omega
  have able_lax : ∀ a ∈ ableA xs now, 0 ≤ laxA a now := fun a ha => by
    have := (List.mem_filter.1 ha).2
    unfold ableB at this
    simpa using this
  have apart : ∀ x ∈ lateA xs now, ∀ a ∈ ableA xs now, x ≠ a.id := fun x hx a ha e => by
    obtain ⟨b, hb, e1, e2⟩ := late_in hx
    have e3 : b = a := key_same nd hb (able_sub ha) (by omega)
    have := able_lax a ha
    rw [e3] at e2
    omega
  -- of one that is picked among those that can
  have main : ∀ (a : Ap) (gs : List Int), a ∈ ableA xs now → gs.Sublist (idsA (ordA (ableA xs now))) → (∀ x ∈ gs, ∃ b ∈ ordA (ableA xs now), b.id = x ∧ laxA b now ≤ 0) → a.id ∉ gs → CanR xs now a.id (lateA xs now ++ gs) := by
    intro a gs ha hs hl hn
    have ndo : (idsA (ordA (ableA xs now))).Nodup := ids_ord (able_nodup now nd)
    have hmo : ∀ b ∈ ordA (ableA xs now), b ∈ ableA xs now := fun b hb => (ordA_perm _).mem_iff.1 hb
    have hlen : gs.length < (ableA xs now).length := by
      have h1 := hs.length_le
      rw [idsA_len, ordA_len] at h1
      rcases Nat.lt_or_eq_of_le h1 with h2 | h2
      · exact h2
      · exfalso
        have : gs = idsA (ordA (ableA xs now)) := hs.eq_of_length (by rw [idsA_len, ordA_len]; exact h2)
        apply hn
        rw [this]
        exact List.mem_map_of_mem ((ordA_perm _).mem_iff.2 ha)
    refine ⟨fun x hx => ?_, ?_, fun h => absurd (List.mem_map_of_mem (able_sub ha)) h, fun b hb e => ?_⟩
    · rcases List.mem_append.1 hx with hx | hx
      · obtain ⟨b, hb, e1, e2⟩ := late_in hx
        exact ⟨b, hb, e1, by omega, apart x hx a ha⟩
      · obtain ⟨b, hb, e1, e2⟩ := hl x hx
        exact ⟨b, able_sub (hmo b hb), e1, e2, fun e => hn (by rw [← e]; exact hx)⟩
    · rw [List.nodup_append]
      refine ⟨hln, ndo.sublist hs, fun x hx y hy e => ?_⟩
      obtain ⟨b, hb, e1, _⟩ := hl y hy
      exact apart x hx b (hmo b hb) (by omega)
    · have : b = a := key_same nd hb (able_sub ha) e
      rw [this]
      refine ⟨able_lax a ha, ?_⟩
      rw [List.length_append]
      omega
  have first : (ableA xs now).length ≠ 0 → atA (ordA (ableA xs now)) 0 ∈ ableA xs now := fun h => (ordA_perm _).mem_iff.1 (atA_mem (by rw [ordA_len]; omega))
  unfold pickA
  rw [hm]
  simp only [if_true]
  split
  · next hz =>
    simp only
    refine ⟨fun x hx => ?_, hln, fun _ => ⟨rfl, by omega⟩, fun a ha e => absurd e (neg a ha)⟩
    obtain ⟨b, hb, e1, e2⟩ := late_in hx
    exact ⟨b, hb, e1, by omega, fun e => neg b hb (by omega)⟩
  · next hz =>
    split
    · have := main _ [] (first hz) (List.nil_sublist _) (fun x hx => by simp at hx) (by simp)
      rwa [List.append_nil] at this
    · simp only
      have hmo : ∀ b ∈ ordA (ableA xs now), b ∈ ableA xs now := fun b hb => (ordA_perm _).mem_iff.1 hb
      have nz : ∀ a ∈ ableA xs now, a ≠ apZ := fun a ha e => by
        have := (mayA_iff.1 (hall a (able_sub ha))).2.1
        rw [e] at this
        simp [apZ] at this
      have hin := lkA_in (xs := ableA xs now) (j := (ableA xs now).length) (id := cur) (Nat.le_refl _)
      have hG := gon_run (xs := ableA xs now) (L := ordA (ableA xs now)) (now := now) (able_nodup now nd) hmo nz (ordA (ableA xs now)) [] (lkA (ableA xs now) (ableA xs now).length cur) [] rfl (ids_ord (able_nodup now nd)) hin
        ⟨List.nil_sublist _, fun x hx => by simp at hx, fun _ => rfl, fun _ => by simp⟩
      have hri := runA_in (now := now) (r := lkA (ableA xs now) (ableA xs now).length cur) hin hmo
      unfold contA
      simp only
      change GonR _ _ _ (runA now (lkA (ableA xs now) (ableA xs now).length cur) (ordA (ableA xs now))).1 (runA now (lkA (ableA xs now) (ableA xs now).length cur) (ordA (ableA xs now))).2 at hG
      generalize runA now (lkA (ableA xs now) (ableA xs now).length cur) (ordA (ableA xs now)) = s at *
      split
      · next c =>
        have := hG.zero (eqA_iff.1 c)
        rw [this]
        exact main _ [] (first hz) (List.nil_sublist _) (fun x hx => by simp at hx) (by simp)
      · next c =>
        have hne : s.1 ≠ apZ := fun e => c (eqA_iff.2 e)
        rcases hri with h | h
        · exact absurd h hne
        · exact main _ s.2 h hG.sub hG.lax (hG.not hne)
end Go.Proofs.Ytjaaabliefcgaaa
/- What the statement DoverCan comes to. -/
namespace Go.Proofs.Ytjaaabliefcgaaa
open Go.RowKit Go.Maps Go.Shelf

theorem getD_mem {gl : List Int} {j : Nat} (h : j < gl.length) : gl.getD j 0 ∈ gl := by
  simp [List.getD, h]
theorem getD_ne {gl : List Int} (hd : gl.Nodup) {j k : Nat} (hk : k < j) (hj : j < gl.length) : gl.getD k 0 ≠ gl.getD j 0 := by
  intro e
  have h1 : gl[k]? = some (gl.getD k 0) := by simp [List.getD, show k < gl.length by omega]
  have h2 : gl[j]? = some (gl.getD j 0) := by simp [List.getD, hj]
  rw [e, ← h2] at h1
  have := (List.getElem?_inj (i := k) (by omega) hd).1 h1
  omega
set_option maxHeartbeats 2000000 in
set_option maxRecDepth 100000 in
theorem law_dcan (xs : List Ap) (v : Value) (cur now : Int) (w : World) (h : Aps w v xs) (hw : ∀ a ∈ xs, wfK a.key) (hc : okI cur) :
    Calls Try.prog 4 #[v, .int .i64 cur, .int .i64 now] w fun e w' => e = .returned (.bool true) ∧ Below w.heap.size w w' := by
  have HA : Hid (Aps w v xs) := h
  have HC : Hid (okI cur) := hc
  have HW : Hid (∀ a ∈ xs, wfK a.key) := hw
  clear h hc hw
  go_enter Try.func4, Try.ntmps4
  go_wp2_with fail
  refine (awake13_any _).mono ?_
  rintro e w1 ⟨rfl, hb1⟩
  have HA1 : Hid (Aps w1 v xs) := HA.out.later hb1
  go_wp2_with fail
  refine (may13_any xs v now w1 HA1.out HW.out).mono ?_
  rintro e w2 ⟨rfl, hb2⟩
  have hB2 := hb1.trans (hb2.mono hb1.size)
  have HA2 : Hid (Aps w2 v xs) := HA1.out.later hb2
  obtain ⟨p, hp⟩ : ∃ p, mayL xs now = p := ⟨_, rfl⟩
  have HM : Hid (mayL xs now = p) := hp
  rw [hp]
  clear hp hb1 hb2 HA1 HA
  cases p
  · go_wp2_with fail
    go_ret
    exact ⟨rfl, hB2⟩
  obtain ⟨n4, ⟨n0, n1⟩, nd, hall⟩ := mayL_iff.1 HM.out
  have HND : Hid ((idsA xs).Nodup ∧ ∀ a ∈ xs, nearA a) := ⟨nd, fun a ha => mayA_near (hall a ha)⟩
  have HCAN : Hid (CanR xs now (pickA xs cur now).1 (pickA xs cur now).2) := pick_can HM.out
  clear nd hall
  go_wp2_with fail
  refine (pick13_any xs v cur now w2 HA2.out HW.out HC.out).mono ?_
  rintro e w3 ⟨g, rfl, hg, hb3⟩
  obtain ⟨⟨p, gl⟩, hpk⟩ : ∃ s, pickA xs cur now = s := ⟨_, rfl⟩
  rw [hpk] at hg HCAN ⊢
  have HS3 : Hid (Aps w3 v xs ∧ Below w.heap.size w w3) := ⟨HA2.out.later hb3, hB2.trans (hb3.mono hB2.size)⟩
  obtain ⟨ga, gc, rfl, g1, g2, g3⟩ := hg.nums.1
  have HCA : Hid (CanR xs now p gl) := HCAN.out
  have hgl : gl.length ≤ 4 := by
    by_cases c : p ∈ idsA xs
    · obtain ⟨a, ha, e⟩ := List.mem_map.1 c
      have := (HCA.out.ins a ha e).2
      omega
    · have := (HCA.out.out c).2
      omega
  clear hpk hg hb3 HCAN hB2 HA2 HM
  go_wp2_with fail
  go_loopw [10] (fun i wr => ∃ (j : Nat), j ≤ gl.length ∧ i = .int .i64 j ∧ Below w3.heap.size w3 wr) (fun i _ => ((gl.length : Int) - intOf i).toNat)
  case atStart => exact ⟨0, by omega, rfl, Below.refl _ _⟩
  case round =>
    obtain ⟨j, hj, rfl, hbw⟩ := hrel
    by_cases hjl : (j : Int) < gl.length
    · obtain ⟨gb, go, rfl, g4⟩ := g3 (by intro e; rw [e] at hjl; simp at hjl; omega)
      have c0 := cell_later hbw (g4 j (by omega))
      have sgb : gb < w3.heap.size := World.block_lt_of_cell? _ _ (g4 j (by omega))
      have HG4 : Hid (∀ i, i < gl.length → w3.cell? ⟨gb, go + i, none⟩ = some (.int .i64 (gl.getD i 0))) := g4
      obtain ⟨a, ha, e1, e2, e3⟩ := HCA.out.lax _ (getD_mem (show j < gl.length by omega))
      have HFD : Hid (fdA xs (gl.getD j 0) = some a) := by show _ = _; rw [← e1]; exact fd_mem HND.out.1 ha
      have HNR : Hid (nearA a) := HND.out.2 a ha
      have HNE : Hid (∀ k, k < j → gl.getD k 0 ≠ gl.getD j 0) := fun k hk => getD_ne HCA.out.nodup hk (by omega)
      have HAW : Hid (Aps wr v xs) := HS3.out.1.later hbw
      clear g4 g3 ha e1
      obtain ⟨x, hx⟩ : ∃ x, gl.getD j 0 = x := ⟨_, rfl⟩
      have HX : Hid (gl.getD j 0 = x) := hx
      rw [hx] at c0 HFD e3 HNE
      clear hx
      have e3' : (x == p) = false := by simpa using e3
      clear e3
      go_wp2_with fail
      refine (find13_any xs v x wr HAW.out).mono ?_
      rintro e w4 ⟨rfl, hb4⟩
      rw [HFD.out]
      have hB4 := hbw.trans (hb4.mono hbw.size)
      have c1 : w4.cell? ⟨gb, go + j, none⟩ = some (.int .i64 x) := cell_later hb4 c0
      have sg4 : gb < w4.heap.size := Nat.lt_of_lt_of_le sgb hB4.size
      obtain ⟨ii, dd, cc, vv, rr⟩ := a
      change Hid (nearA ⟨ii, dd, cc, vv, rr⟩) at HNR
      simp only [Option.getD_some, Option.isSome_some, apV]
      have hbX := (Below.refl w4.heap.size w4).alloc (Nat.le_refl _) (.cells #[.int .i64 ii, .int .i64 dd, .int .i64 cc, .int .i64 vv, .int .i64 rr] 30)
      have hB5 := hB4.alloc hB4.size (.cells #[.int .i64 ii, .int .i64 dd, .int .i64 cc, .int .i64 vv, .int .i64 rr] 30)
      have c2 := cell_later hbX c1
      clear hbX hb4 hbw c0
      go_wp2_with fail
      refine (lax_any ii dd cc vv rr now _ HNR.out (by omega) (by omega)).mono ?_
      rintro e w5 ⟨rfl, hb5⟩
      have hB6 := hB5.trans (hb5.mono hB5.size)
      obtain ⟨lx, hlx⟩ : ∃ lx, laxA ⟨ii, dd, cc, vv, rr⟩ now = lx := ⟨_, rfl⟩
      rw [hlx] at e2 ⊢
      have hl0 : ¬ 0 < lx := by omega
      clear hlx hb5 hB5 hB4 c1 c2 sg4 e2 HFD HAW
      go_wp2_with fail
      go_loopw [13] (fun i wr => ∃ (k : Nat), k ≤ j ∧ i = .int .i64 k ∧ Below w3.heap.size w3 wr) (fun i _ => ((j : Int) - intOf i).toNat)
      case atStart => exact ⟨0, by omega, rfl, hB6⟩
      case round =>
        clear hB6
        obtain ⟨k, hk, rfl, hbw⟩ := hrel
        by_cases hkj : (k : Int) < j
        · have d0 := cell_later hbw (HG4.out k (by omega))
          have d1 := cell_later hbw (HG4.out j (by omega))
          rw [HX.out] at d1
          have hne := HNE.out k (by omega)
          obtain ⟨y, hy⟩ : ∃ y, gl.getD k 0 = y := ⟨_, rfl⟩
          rw [hy] at d0 hne
          clear hy
          have hne' : (y == x) = false := by simpa using hne
          clear hne
          go_wp2_with fail
          go_quiet (fail)
          go_wp2_with fail
          go_roundw
          case rel => exact ⟨k + 1, by omega, by go_num, ⟨hbw.os, hbw.tape, hbw.output, hbw.size, hbw.block⟩⟩
          case measure => simp [intOf]; omega
        · obtain rfl : k = j := by omega
          go_wp2_with fail
          go_roundw
          case rel => exact ⟨k + 1, by omega, by go_num, hbw⟩
          case measure => simp [intOf]; omega
    · obtain rfl : j = gl.length := by omega
      have HAW : Hid (Aps wr v xs) := HS3.out.1.later hbw
      have HBW : Hid (Below w.heap.size w wr) := HS3.out.2.trans (hbw.mono HS3.out.2.size)
      obtain ⟨ad, cap, rfl, _⟩ := HAW.out.open
      clear g3 hbw
      by_cases hin : p ∈ idsA xs
      · obtain ⟨a, ha, e1⟩ := List.mem_map.1 hin
        have HFD : Hid (fdA xs p = some a) := by show _ = _; rw [← e1]; exact fd_mem HND.out.1 ha
        obtain ⟨i1, i2⟩ := HCA.out.ins a ha e1
        have HNR : Hid (nearA a) := HND.out.2 a ha
        clear hin ha e1
        go_wp2_with fail
        refine (find13_any xs _ p wr HAW.out).mono ?_
        rintro e w4 ⟨rfl, hb4⟩
        rw [HFD.out]
        have hB4 := HBW.out.trans (hb4.mono HBW.out.size)
        obtain ⟨ii, dd, cc, vv, rr⟩ := a
        change Hid (nearA ⟨ii, dd, cc, vv, rr⟩) at HNR
        simp only [Option.getD_some, Option.isSome_some, apV]
        have hB5 := hB4.alloc hB4.size (.cells #[.int .i64 ii, .int .i64 dd, .int .i64 cc, .int .i64 vv, .int .i64 rr] 30)
        have hlen : (gl.length : Int) < xs.length := by omega
        clear hb4 HBW
        go_wp2_with fail
        refine (lax_any ii dd cc vv rr now _ HNR.out (by omega) (by omega)).mono ?_
        rintro e w5 ⟨rfl, hb5⟩
        have hB6 := hB5.trans (hb5.mono hB5.size)
        obtain ⟨lx, hlx⟩ : ∃ lx, laxA ⟨ii, dd, cc, vv, rr⟩ now = lx := ⟨_, rfl⟩
        rw [hlx] at i1 ⊢
        clear hlx hb5
        go_wp2_with fail
        go_ret
        exact ⟨by first | rfl | exact ret_b (by simp; omega), hB6⟩
      · obtain ⟨o1, o2⟩ := HCA.out.out hin
        have O1 : Hid (p = -1) := o1
        have O2 : Hid (gl.length = xs.length) := o2
        clear o1 o2
        have HFD : Hid (fdA xs p = none) := fd_not hin
        clear hin
        go_wp2_with fail
        refine (find13_any xs _ p wr HAW.out).mono ?_
        rintro e w4 ⟨rfl, hb4⟩
        rw [HFD.out]
        have hB4 := HBW.out.trans (hb4.mono HBW.out.size)
        simp only [Option.getD_none, Option.isSome_none, apV, apZ]
        have hB5 := hB4.alloc hB4.size (.cells #[.int .i64 0, .int .i64 0, .int .i64 0, .int .i64 0, .int .i64 0] 30)
        have hlen : ((gl.length : Int) == xs.length) = true := by have := O2.out; simpa using (by omega : (gl.length : Int) = xs.length)
        have o1 := O1.out
        subst o1
        clear hb4 HBW O1
        go_wp2_with fail
        go_ret
        exact ⟨by first | rfl | exact ret_b (by simpa using hlen), hB5⟩
end Go.Proofs.Ytjaaabliefcgaaa
/- What the statement DoverTurned comes to. -/
namespace Go.Proofs.Ytjaaabliefcgaaa
open Go.RowKit Go.Maps Go.Shelf

theorem lkA_not {xs : List Ap} {id : Int} (h : id ∉ idsA xs) : ∀ j, j ≤ xs.length → lkA xs j id = apZ
  | 0, _ => rfl
  | j + 1, hj => by
    unfold lkA
    rw [if_neg (fun e => h (by rw [← e]; exact List.mem_map_of_mem (atA_mem (by omega))))]
    exact lkA_not h j (by omega)
theorem lkA_turned {xs ys : List Ap} (hd : (idsA xs).Nodup) (hp : ys.Perm xs) (id : Int) : lkA ys ys.length id = lkA xs xs.length id := by
  have hdy : (idsA ys).Nodup := (ids_perm hp).nodup_iff.2 hd
  by_cases c : id ∈ idsA xs
  · obtain ⟨a, ha, e⟩ := List.mem_map.1 c
    rw [← e, lkA_mem hd ha, lkA_mem hdy (hp.mem_iff.2 ha)]
  · rw [lkA_not c _ (Nat.le_refl _), lkA_not (fun h => c ((ids_perm hp).mem_iff.1 h)) _ (Nat.le_refl _)]
theorem ord_turned {xs ys : List Ap} (hd : (idsA xs).Nodup) (hp : ys.Perm xs) : ordA ys = ordA xs := ord_uniq hd (ordA_srtd ys) ((ordA_perm ys).trans hp)
theorem may_turned {xs ys : List Ap} {now : Int} (hm : mayL xs now = true) (hp : ys.Perm xs) : mayL ys now = true := by
  obtain ⟨h1, h2, h3, h4⟩ := mayL_iff.1 hm
  exact mayL_iff.2 ⟨by rw [hp.length_eq]; exact h1, h2, (ids_perm hp).nodup_iff.2 h3, fun a ha => h4 a (hp.mem_iff.1 ha)⟩
theorem pick_turned {xs ys : List Ap} {cur now : Int} (hm : mayL xs now = true) (hp : ys.Perm xs) : (pickA ys cur now).1 = (pickA xs cur now).1 ∧ (pickA ys cur now).2.length = (pickA xs cur now).2.length ∧ ∀ x ∈ (pickA xs cur now).2, x ∈ (pickA ys cur now).2 := by
  have nd := (mayL_iff.1 hm).2.2.1
  have hab : (ableA ys now).Perm (ableA xs now) := hp.filter _
  have hla : (lateA ys now).Perm (lateA xs now) := ids_perm (hp.filter _)
  have hda := able_nodup now nd
  have ho : ordA (ableA ys now) = ordA (ableA xs now) := ord_turned hda hab
  have hl : (ableA ys now).length = (ableA xs now).length := hab.length_eq
  have hf : fitsA (ableA ys now) now = fitsA (ableA xs now) now := by unfold fitsA; rw [ho]
  have hc : contA (ableA ys now) cur now = contA (ableA xs now) cur now := by unfold contA; rw [ho, lkA_turned hda hab]
  unfold pickA
  rw [hm, may_turned hm hp, hl, hf, hc, ho]
  simp only [if_true]
  split
  · exact ⟨rfl, hla.length_eq, fun x hx => hla.mem_iff.2 hx⟩
  · split
    · exact ⟨rfl, hla.length_eq, fun x hx => hla.mem_iff.2 hx⟩
    · refine ⟨rfl, by simp [hla.length_eq], fun x hx => ?_⟩
      rcases List.mem_append.1 hx with h | h
      · exact List.mem_append.2 (.inl (hla.mem_iff.2 h))
      · exact List.mem_append.2 (.inr h)
theorem any_next {hl : List Int} {k : Nat} (h : k < hl.length) (x : Int) : (hl.take (k + 1)).any (fun y => y == x) = ((hl.take k).any (fun y => y == x) || (hl.getD k 0 == x)) := by
  have e : hl[k]? = some (hl.getD k 0) := by simp [List.getD, h]
  rw [List.take_add_one, e, List.any_append]
  simp
theorem rev_next {xs : List Ap} {m : Nat} (h : m < xs.length) : (xs.drop m).reverse = (xs.drop (m + 1)).reverse ++ [atA xs m] := by
  rw [dropA_next h, List.reverse_cons]

set_option maxHeartbeats 2000000 in
set_option maxRecDepth 100000 in
theorem law_dturned (xs : List Ap) (v : Value) (cur now : Int) (w : World) (h : Aps w v xs) (hw : ∀ a ∈ xs, wfK a.key) (hc : okI cur) :
    Calls Try.prog 7 #[v, .int .i64 cur, .int .i64 now] w fun e w' => e = .returned (.bool true) ∧ Below w.heap.size w w' := by
  obtain ⟨a0, ha, ha0, ha1, ha2⟩ := info_parts Try.infoApe
  have HA : Hid (Aps w v xs) := h
  have HC : Hid (okI cur) := hc
  have HW : Hid (∀ a ∈ xs, wfK a.key) := hw
  clear h hc hw
  go_enter Try.func7, Try.ntmps7
  go_wp2_with fail
  refine (awake13_any _).mono ?_
  rintro e w1 ⟨rfl, hb1⟩
  have HA1 : Hid (Aps w1 v xs) := HA.out.later hb1
  go_wp2_with fail
  refine (may13_any xs v now w1 HA1.out HW.out).mono ?_
  rintro e w2 ⟨rfl, hb2⟩
  have hB2 := hb1.trans (hb2.mono hb1.size)
  have HA2 : Hid (Aps w2 v xs) := HA1.out.later hb2
  obtain ⟨p, hp⟩ : ∃ p, mayL xs now = p := ⟨_, rfl⟩
  have HM : Hid (mayL xs now = p) := hp
  rw [hp]
  clear hp hb1 hb2 HA1 HA
  cases p
  · go_wp2_with fail
    go_ret
    exact ⟨rfl, hB2⟩
  obtain ⟨n4, ⟨n0, n1⟩, nd, hall⟩ := mayL_iff.1 HM.out
  have hpm : xs.reverse.Perm xs := List.reverse_perm xs
  have HNX : Hid (nearL xs ∧ (∀ a ∈ xs.reverse, wfK a.key) ∧ nearL xs.reverse) := ⟨fun a ha => mayA_near (hall a ha), fun a ha => HW.out a (hpm.mem_iff.1 ha), fun a ha => mayA_near (hall a (hpm.mem_iff.1 ha))⟩
  have HTP : Hid ((pickA xs.reverse cur now).1 = (pickA xs cur now).1 ∧ (pickA xs.reverse cur now).2.length = (pickA xs cur now).2.length ∧ ∀ x ∈ (pickA xs cur now).2, x ∈ (pickA xs.reverse cur now).2) := pick_turned HM.out hpm
  have HTO : Hid (ordA xs.reverse = ordA xs) := ord_turned nd hpm
  have HGL : Hid ((pickA xs cur now).2.length ≤ 4) := by
    have hcan := pick_can (cur := cur) HM.out
    show _ ≤ _
    by_cases c : (pickA xs cur now).1 ∈ idsA xs
    · obtain ⟨a, ha, e⟩ := List.mem_map.1 c
      have := (hcan.ins a ha e).2
      omega
    · have := (hcan.out c).2
      omega
  have HS : Hid (Aps w2 v xs ∧ Below w.heap.size w w2) := ⟨HA2.out, hB2⟩
  obtain ⟨ad, cap, rfl, l1, l2, l3, l4⟩ := HA2.out.open
  clear nd hall hpm HA2 hB2 HM l4
  go_wp2_with fail
  go_loopw [8, 9] (fun bv i wr => ∃ (m : Nat) (bk : Value), bk = bv ∧ m ≤ xs.length ∧ i = .int .i64 m ∧ Hid (OwnA wr w2.heap.size bk (xs.drop m).reverse) ∧ Below w2.heap.size w2 wr) (fun _ i _ => (intOf i).toNat)
  case atStart => exact ⟨xs.length, _, rfl, by omega, rfl, by show OwnA _ _ _ _; rw [List.drop_length]; exact OwnA.nil _ _, Below.refl _ _⟩
  case round =>
    obtain ⟨m, bk, rfl, hm, rfl, HO, hbw⟩ := hrel
    by_cases hm0 : (0 : Int) < m
    · obtain ⟨m, rfl⟩ : ∃ k, m = k + 1 := ⟨m - 1, by omega⟩
      obtain ⟨bb, o, hbk, _⟩ : ∃ bk o, ad = some ⟨bk, o, none⟩ ∧ True := by
        obtain ⟨_, _, e', _, _, _, h4⟩ := HS.out.1.open
        obtain ⟨b, o, e2, _⟩ := h4 (by omega)
        simp only [Value.slice.injEq] at e'
        exact ⟨b, o, by rw [e'.1, e2], trivial⟩
      subst hbk
      obtain ⟨k0, k1, k2, k3, k4⟩ := HS.out.1.at5 (i := m) (by omega)
      have sb : bb < w2.heap.size := World.block_lt_of_cell? _ _ k0
      have c0 := cell_later hbw k0
      have c1 := cell_later hbw k1
      have c2 := cell_later hbw k2
      have c3 := cell_later hbw k3
      have c4 := cell_later hbw k4
      have hsw := hbw.size
      have HR : Hid ((xs.drop m).reverse = (xs.drop (m + 1)).reverse ++ [atA xs m]) := rev_next (by omega)
      have hrl : (xs.drop (m + 1)).reverse.length ≤ 4 := by rw [List.length_reverse, List.length_drop]; omega
      clear k0 k1 k2 k3 k4
      generalize atA xs m = a at *
      obtain ⟨ii, dd, cc, vv, rr⟩ := a
      simp only at c0 c1 c2 c3 c4
      have HB5 : Hid (Below w2.heap.size w2 (wr.alloc (.cells #[.int .i64 ii, .int .i64 dd, .int .i64 cc, .int .i64 vv, .int .i64 rr] 30))) := hbw.alloc hsw _
      have HO5 : Hid (OwnA (wr.alloc (.cells #[.int .i64 ii, .int .i64 dd, .int .i64 cc, .int .i64 vv, .int .i64 rr] 30)) w2.heap.size bk (xs.drop (m + 1)).reverse) := HO.out.later ((Below.refl _ _).alloc (Nat.le_refl _) _)
      have HX5 : Hid (Bx5 (wr.alloc (.cells #[.int .i64 ii, .int .i64 dd, .int .i64 cc, .int .i64 vv, .int .i64 rr] 30)) wr.heap.size ii dd cc vv rr) := Bx5.new _ _ _ _ _ _ _
      have hwm : IntKind.i64.wrap (((m + 1 : Nat) : Int) - 1) = (m : Int) := by rw [show ((m + 1 : Nat) : Int) - 1 = (m : Int) by omega]; exact wrap_near (by omega) (by omega)
      clear HO hbw
      go_wp2_with (first
        | (at_builtin; refine wpList_append_own_at _ rfl _ _ 22 rfl w2.heap.size 30 a0 _ 5 40 Try.underlying22 ha ha0 ha1 ha2 rfl (by decide) bk _ _ rfl HO5.out ⟨wr.heap.size, 0, none⟩ 1 1 (Ap.row ⟨ii, dd, cc, vv, rr⟩) rfl rfl HX5.out.news (recA.one ⟨ii, dd, cc, vv, rr⟩) (by unfold maxLen; omega) (by omega) (by simp; omega) ?_; intro v' w6 hown6 hg6 _ hat6))
      have HO6 : Hid (OwnA w6 w2.heap.size v' (xs.drop m).reverse) := by
        show OwnA _ _ _ _
        rw [HR.out]
        unfold OwnA
        rw [List.length_append, flatA_app, flatA_one]
        exact hown6
      have HB6 : Hid (Below w2.heap.size w2 w6) := HB5.out.grown hg6 HB5.out.size (fun k hk => HO5.out.low k hk)
      clear HB5 HO5 HX5 hown6 hg6 hat6 HR
      go_wp2_with fail
      go_roundw
      case rel => exact ⟨m, _, rfl, by omega, by first | rfl | go_num, HO6.out, HB6.out⟩
      case measure => simp [intOf]
    · obtain rfl : m = 0 := by omega
      have HO2 : Hid (OwnA wr w2.heap.size bk xs.reverse) := HO.out
      have HA3 : Hid (Aps wr (.slice ad xs.length cap) xs) := HS.out.1.later hbw
      have HB3 : Hid (Below w.heap.size w wr) := HS.out.2.trans (hbw.mono HS.out.2.size)
      clear HO hbw HS
      go_wp2_with fail
      refine (pick13_any xs _ cur now wr HA3.out HW.out HC.out).mono ?_
      rintro e w3 ⟨g, rfl, hg, hb3⟩
      obtain ⟨⟨p, gl⟩, hpk⟩ : ∃ s, pickA xs cur now = s := ⟨_, rfl⟩
      rw [hpk] at hg HTP HGL ⊢
      have HB4 : Hid (Below w.heap.size w w3) := HB3.out.trans (hb3.mono HB3.out.size)
      have HA4 : Hid (Aps w3 (.slice ad xs.length cap) xs ∧ Aps w3 bk xs.reverse ∧ Nums w3 g gl) := ⟨HA3.out.later hb3, HO2.out.aps.later hb3, hg.nums.1⟩
      clear hpk hg hb3 HA3 HB3 HO2
      go_wp2_with fail
      refine (pick13_any xs.reverse _ cur now w3 HA4.out.2.1 HNX.out.2.1 HC.out).mono ?_
      rintro e w4 ⟨h, rfl, hh, hb4⟩
      obtain ⟨⟨p2, hl⟩, hpk⟩ : ∃ s, pickA xs.reverse cur now = s := ⟨_, rfl⟩
      rw [hpk] at hh HTP ⊢
      have HB5 : Hid (Below w.heap.size w w4) := HB4.out.trans (hb4.mono HB4.out.size)
      have HA5 : Hid (Aps w4 (.slice ad xs.length cap) xs ∧ Aps w4 bk xs.reverse) := ⟨HA4.out.1.later hb4, HA4.out.2.1.later hb4⟩
      have hgn : Nums w4 g gl := HA4.out.2.2.later hb4
      have hhn : Nums w4 h hl := hh.nums.1
      obtain ⟨t1, t2, t3⟩ := HTP.out
      simp only at t1 t2 t3
      subst t1
      have HT3 : Hid (∀ x ∈ gl, x ∈ hl) := t3
      have HT2 : Hid (hl.length = gl.length) := t2
      have hg4 : gl.length ≤ 4 := HGL.out
      obtain ⟨ga, gc, rfl, g1, g2, g3⟩ := hgn
      obtain ⟨hha, hc', rfl, h1, h2, h3⟩ := hhn
      clear hpk hh hb4 HA4 HB4 HTP t2 t3 HGL
      go_wp2_with fail
      go_loopw [14] (fun i wr => ∃ (j : Nat), j ≤ gl.length ∧ i = .int .i64 j ∧ Below w4.heap.size w4 wr) (fun i _ => ((gl.length : Int) - intOf i).toNat)
      case atStart => exact ⟨0, by omega, rfl, Below.refl _ _⟩
      case round =>
        obtain ⟨j, hj, rfl, hbw⟩ := hrel
        by_cases hjl : (j : Int) < gl.length
        · obtain ⟨gb, go, rfl, g4⟩ := g3 (by intro e; rw [e] at hjl; simp at hjl; omega)
          have HG0 : Hid (w4.cell? ⟨gb, go + j, none⟩ = some (.int .i64 (gl.getD j 0))) := g4 j (by omega)
          have HIN : Hid (gl.getD j 0 ∈ hl) := HT3.out _ (getD_mem (by omega))
          clear g4 g3
          obtain ⟨x, hx⟩ : ∃ x, gl.getD j 0 = x := ⟨_, rfl⟩
          rw [hx] at HG0 HIN
          clear hx
          have HAN : Hid (hl.any (fun y => y == x) = true) := by show _ = _; rw [List.any_eq_true]; exact ⟨x, HIN.out, by simp⟩
          go_wp2_with fail
          go_loopw [15, 16] (fun b i wr => ∃ (k : Nat) (q : Bool), k ≤ hl.length ∧ i = .int .i64 k ∧ b = .bool q ∧ Hid ((hl.take k).any (fun y => y == x) = q) ∧ Below w4.heap.size w4 wr) (fun _ i _ => ((hl.length : Int) - intOf i).toNat)
          case atStart => exact ⟨0, false, by omega, rfl, rfl, (by rfl : Hid _), hbw⟩
          case round =>
            clear hbw
            obtain ⟨k, q, hk, rfl, rfl, HQ, hbw⟩ := hrel
            by_cases hkl : (k : Int) < hl.length
            · obtain ⟨hb, ho, rfl, h4⟩ := h3 (by intro e; rw [e] at hkl; simp at hkl; omega)
              have c0 := cell_later hbw HG0.out
              have c1 := cell_later hbw (h4 k (by omega))
              have hl4 : hl.length ≤ 4 := by have := HT2.out; omega
              have HN : Hid ((hl.take (k + 1)).any (fun y => y == x) = (q || (hl.getD k 0 == x))) := by show _ = _; rw [any_next (by omega), HQ.out]
              clear h4 h3 HQ
              generalize hl.getD k 0 = y at *
              cases q
              · have HN2 : Hid ((hl.take (k + 1)).any (fun y => y == x) = (y == x)) := HN.out
                obtain ⟨z, hz⟩ : ∃ z, (y == x) = z := ⟨_, rfl⟩
                rw [hz] at HN2
                go_wp2_with fail
                go_quiet (fail)
                go_wp2_with fail
                go_roundw
                case rel => exact ⟨k + 1, z, by omega, by go_num, by first | rfl | rw [hz], HN2.out, ⟨hbw.os, hbw.tape, hbw.output, hbw.size, hbw.block⟩⟩
                case measure => simp [intOf]; omega
              · have HN2 : Hid ((hl.take (k + 1)).any (fun y => y == x) = true) := HN.out
                go_wp2_with fail
                go_quiet (fail)
                go_wp2_with fail
                go_roundw
                case rel => exact ⟨k + 1, true, by omega, by go_num, rfl, HN2.out, ⟨hbw.os, hbw.tape, hbw.output, hbw.size, hbw.block⟩⟩
                case measure => simp [intOf]; omega
            · obtain rfl : k = hl.length := by omega
              obtain rfl : q = true := by have := HQ.out; rw [List.take_length, HAN.out] at this; exact this.symm
              go_wp2_with fail
              go_roundw
              case rel => exact ⟨j + 1, by omega, by go_num, hbw⟩
              case measure => simp [intOf]; omega
        · obtain rfl : j = gl.length := by omega
          have HA6 : Hid (Aps wr (.slice ad xs.length cap) xs ∧ Aps wr bk xs.reverse) := ⟨HA5.out.1.later hbw, HA5.out.2.later hbw⟩
          have HB6 : Hid (Below w.heap.size w wr) := HB5.out.trans (hbw.mono HB5.out.size)
          have hlen : ((gl.length : Int) == hl.length) = true := by have := HT2.out; simpa using (by omega : (gl.length : Int) = hl.length)
          clear hbw HA5 HB5 g3 h3
          go_wp2_with fail
          refine (fits13_any xs _ now wr HA6.out.1 (by omega) HW.out HNX.out.1 (by omega) (by omega)).mono ?_
          rintro e w5 ⟨rfl, hb5⟩
          have HA7 : Hid (Aps w5 (.slice ad xs.length cap) xs ∧ Aps w5 bk xs.reverse) := ⟨HA6.out.1.later hb5, HA6.out.2.later hb5⟩
          have HB7 : Hid (Below w.heap.size w w5) := HB6.out.trans (hb5.mono HB6.out.size)
          have HFE : Hid (fitsA xs.reverse now = fitsA xs now) := by show _ = _; unfold fitsA; rw [HTO.out]
          obtain ⟨f, hf⟩ : ∃ f, fitsA xs now = f := ⟨_, rfl⟩
          rw [hf] at HFE ⊢
          clear hb5 HA6 HB6 hf
          go_wp2_with fail
          refine (fits13_any xs.reverse _ now w5 HA7.out.2 (by rw [List.length_reverse]; omega) HNX.out.2.1 HNX.out.2.2 (by omega) (by omega)).mono ?_
          rintro e w6 ⟨rfl, hb6⟩
          rw [HFE.out]
          have HA8 : Hid (Aps w6 (.slice ad xs.length cap) xs ∧ Aps w6 bk xs.reverse) := ⟨HA7.out.1.later hb6, HA7.out.2.later hb6⟩
          have HB8 : Hid (Below w.heap.size w w6) := HB7.out.trans (hb6.mono HB7.out.size)
          clear hb6 HA7 HB7
          have hff : (f == f) = true := by simp
          go_wp2_with fail
          refine (order13_any xs _ w6 HA8.out.1 (by omega) HW.out).mono ?_
          rintro e w7 ⟨u1, rfl, hu1, hb7⟩
          have HA9 : Hid (Aps w7 bk xs.reverse ∧ Nums w7 u1 (idsA (ordA xs))) := ⟨HA8.out.2.later hb7, (Nums.own hu1).1⟩
          have HB9 : Hid (Below w.heap.size w w7) := HB8.out.trans (hb7.mono HB8.out.size)
          clear hb7 HA8 HB8 hu1
          go_wp2_with fail
          refine (order13_any xs.reverse _ w7 HA9.out.1 (by rw [List.length_reverse]; omega) HNX.out.2.1).mono ?_
          rintro e w8 ⟨u2, rfl, hu2, hb8⟩
          rw [HTO.out] at hu2
          have HN1 : Hid (Nums w8 u1 (idsA (ordA xs)) ∧ Nums w8 u2 (idsA (ordA xs))) := ⟨HA9.out.2.later hb8, (Nums.own hu2).1⟩
          have HB10 : Hid (Below w.heap.size w w8) := HB9.out.trans (hb8.mono HB9.out.size)
          have hol : (idsA (ordA xs)).length ≤ 100000 := by rw [idsA_len, ordA_len]; omega
          clear hb8 HA9 HB9 hu2
          go_wp2_with fail
          refine (ints13_any _ _ _ _ w8 HN1.out.1 HN1.out.2 hol).mono ?_
          rintro e w9 ⟨rfl, hb9⟩
          have HB11 : Hid (Below w.heap.size w w9) := HB10.out.trans (hb9.mono HB10.out.size)
          go_wp2_with fail
          go_ret
          exact ⟨ret_b (by simp), HB11.out⟩
end Go.Proofs.Ytjaaabliefcgaaa
/- What the statement DoverRival comes to: in numbers. -/
namespace Go.Proofs.Ytjaaabliefcgaaa
open Go.RowKit Go.Maps Go.Shelf

/-- One that runs at a time, if it may. -/
def rvF (now : Int) (t : Nat) (id : Int) (a : Ap) : Ap := if a.id = id ∧ a.r < a.c ∧ now + t < a.due then ⟨a.id, a.due, a.c, a.v, a.r + 1⟩ else a
/-- What is left of those that must have ended by a time. -/
def totD (D : Int) (xs : List Ap) : Int := totA (xs.filter fun a => decide (a.due ≤ D))
def cntT (now D : Int) : Nat → Int
  | 0 => 0
  | t + 1 => cntT now D t + if now + t < D then 1 else 0
theorem cntT_le (now D : Int) : ∀ t, 0 ≤ cntT now D t ∧ (D ≤ now → cntT now D t = 0) ∧ (now ≤ D → cntT now D t ≤ D - now ∧ cntT now D t ≤ t)
  | 0 => by unfold cntT; omega
  | t + 1 => by
    obtain ⟨h1, h2, h3⟩ := cntT_le now D t
    unfold cntT
    refine ⟨by split <;> omega, fun h => ?_, fun h => ?_⟩
    · have := h2 h
      rw [if_neg (by omega)]
      omega
    · have := h3 h
      split
      · omega
      · omega
theorem rvF_id (now : Int) (t : Nat) (id : Int) (a : Ap) : (rvF now t id a).id = a.id ∧ (rvF now t id a).due = a.due ∧ (rvF now t id a).c = a.c := by unfold rvF; split <;> exact ⟨rfl, rfl, rfl⟩
theorem rvF_other {now : Int} {t : Nat} {id : Int} {a : Ap} (h : a.id ≠ id) : rvF now t id a = a := by unfold rvF; rw [if_neg (fun e => h e.1)]
theorem rvF_map {now : Int} {t : Nat} {id : Int} {xs : List Ap} (h : id ∉ idsA xs) : xs.map (rvF now t id) = xs := by
  induction xs with
  | nil => rfl
  | cons a xs ih =>
    unfold idsA at h ih
    simp only [List.map_cons, List.mem_cons, not_or] at h
    rw [List.map_cons, rvF_other (fun e => h.1 e.symm), ih h.2]
theorem totD_cons (D : Int) (a : Ap) (xs : List Ap) : totD D (a :: xs) = (if a.due ≤ D then a.c - a.r else 0) + totD D xs := by
  unfold totD
  rw [List.filter_cons]
  by_cases h : a.due ≤ D
  · rw [if_pos (decide_eq_true h), if_pos h]; rfl
  · rw [if_neg (by simp [h]), if_neg h]; omega
theorem totD_step (now D : Int) (t : Nat) (id : Int) {xs : List Ap} (hd : (idsA xs).Nodup) : totD D xs - (if now + t < D then 1 else 0) ≤ totD D (xs.map (rvF now t id)) := by
  induction xs with
  | nil => simp [totD, totA]; split <;> omega
  | cons a xs ih =>
    have hd0 := hd
    unfold idsA at hd
    rw [List.map_cons, List.nodup_cons] at hd
    rw [List.map_cons, totD_cons, totD_cons]
    by_cases c : a.id = id
    · rw [rvF_map (xs := xs) (by rw [← c]; exact hd.1)]
      unfold rvF
      by_cases k : a.id = id ∧ a.r < a.c ∧ now + t < a.due
      · rw [if_pos k]
        simp only
        by_cases e : a.due ≤ D
        · rw [if_pos e, if_pos e, if_pos (by omega)]
          omega
        · rw [if_neg e, if_neg e]
          split <;> omega
      · rw [if_neg k]
        split <;> split <;> omega
    · rw [rvF_other c]
      have := ih hd.2
      omega
theorem totD_nonneg {D : Int} {xs : List Ap} (h : ∀ a ∈ xs, a.r ≤ a.c) : 0 ≤ totD D xs := by
  induction xs with
  | nil => simp [totD, totA]
  | cons a xs ih =>
    rw [totD_cons]
    have := ih (fun b hb => h b (by simp [hb]))
    have := h a (by simp)
    split <;> omega
theorem totA_app (P Q : List Ap) : totA (P ++ Q) = totA P + totA Q := by
  induction P with
  | nil => simp [totA]
  | cons a P ih => show _ + totA (P ++ Q) = _ + totA P + totA Q; rw [ih]; omega
theorem totD_pre {D : Int} {P Q : List Ap} (hp : ∀ a ∈ P, a.due ≤ D) (hq : ∀ a ∈ Q, a.r ≤ a.c) : totA P ≤ totD D (P ++ Q) := by
  have e : totD D (P ++ Q) = totA P + totD D Q := by
    unfold totD
    rw [List.filter_append, totA_app, List.filter_eq_self.2 (fun a ha => decide_eq_true (hp a ha))]
  have := totD_nonneg (D := D) hq
  omega
/-- If by no time more must be done than there is till then, each ends in time, in their order. -/
theorem fitL_of {L : List Ap} {now : Int} (hs : L.Pairwise (fun a b => ile a.key b.key)) (hr : ∀ a ∈ L, a.r < a.c) (hD : ∀ D, totD D L ≤ 0 ∨ totD D L ≤ D - now) : ∀ (M P : List Ap), P ++ M = L → fitL (now + totA P) M = true := by
  intro M
  induction M with
  | nil => intro P _; rfl
  | cons a M ih =>
    intro P e
    have e2 : (P ++ [a]) ++ M = L := by rw [← e]; simp
    have hdue : ∀ b ∈ P ++ [a], b.due ≤ a.due := fun b hb => by
      rcases List.mem_append.1 hb with hb | hb
      · have h2 := hs
        rw [← e, List.pairwise_append] at h2
        have := ile_iff.1 (h2.2.2 b hb a (by simp))
        unfold Ap.key at this
        simp only at this
        omega
      · rw [List.mem_singleton] at hb
        rw [hb]; omega
    have h1 := totD_pre (D := a.due) (P := P ++ [a]) (Q := M) hdue (fun b hb => by have := hr b (by rw [← e]; simp [hb]); omega)
    rw [e2, totA_app] at h1
    have h2 : totA [a] = a.c - a.r := by show _ + 0 = _; omega
    have h3 := hr a (by rw [← e]; simp)
    have h4 : 0 ≤ totA P := by
      have hP : ∀ b ∈ P, b.r < b.c := fun b hb => hr b (by rw [← e]; simp [hb])
      clear ih e e2 hdue h1 h2 h3 hs hD
      induction P with
      | nil => simp [totA]
      | cons b P ihP =>
        have := ihP (fun c hc => hP c (by simp [hc]))
        have := hP b (by simp)
        show 0 ≤ _ + totA P
        omega
    have h5 := hD a.due
    unfold fitL
    rw [Bool.and_eq_true]
    refine ⟨decide_eq_true (by omega), ?_⟩
    have := ih (P ++ [a]) e2
    rw [totA_app, h2, ← Int.add_assoc] at this
    exact this
/-- What holds ahead of each time. -/
structure RvI (xs ys : List Ap) (now : Int) (t : Nat) : Prop where
  ids : idsA ys = idsA xs
  ok : ∀ a ∈ ys, 0 ≤ a.r ∧ a.r ≤ a.c ∧ a.c ≤ 40
  tot : ∀ D, totD D xs - cntT now D t ≤ totD D ys
theorem RvI.start {xs : List Ap} {now : Int} (h : ∀ a ∈ xs, mayA a = true) : RvI xs xs now 0 :=
  ⟨rfl, fun a ha => by have := mayA_iff.1 (h a ha); omega, fun D => by unfold cntT; omega⟩
theorem RvI.step {xs ys : List Ap} {now : Int} {t : Nat} (h : RvI xs ys now t) (hd : (idsA xs).Nodup) (id : Int) : RvI xs (ys.map (rvF now t id)) now (t + 1) := by
  have hdy : (idsA ys).Nodup := by rw [h.ids]; exact hd
  refine ⟨?_, fun a ha => ?_, fun D => ?_⟩
  · rw [← h.ids]
    unfold idsA
    rw [List.map_map]
    exact List.map_congr_left (fun a _ => (rvF_id now t id a).1)
  · obtain ⟨b, hb, rfl⟩ := List.mem_map.1 ha
    have := h.ok b hb
    unfold rvF
    split
    · next c => simp only; omega
    · exact this
  · have h1 := totD_step now D t id hdy
    have h2 := h.tot D
    have h3 : cntT now D (t + 1) = cntT now D t + if now + t < D then 1 else 0 := rfl
    omega
theorem RvI.done {xs ys : List Ap} {now : Int} {t : Nat} (h : RvI xs ys now t) (hm : ∀ a ∈ xs, mayA a = true) (hall : ∀ a ∈ ys, ¬ a.r < a.c) : fitsA xs now = true := by
  have hz : ∀ D, totD D ys = 0 := fun D => by
    have hok := h.ok
    clear h
    induction ys with
    | nil => simp [totD, totA]
    | cons a ys ih =>
      rw [totD_cons, ih (fun b hb => hall b (by simp [hb])) (fun b hb => hok b (by simp [hb]))]
      have h1 := hok a (by simp)
      have h2 := hall a (by simp)
      split <;> omega
  have hso : (ordA xs).Pairwise (fun a b => ile a.key b.key) := List.pairwise_map.1 (ordA_srtd xs)
  have := fitL_of (L := ordA xs) (now := now) hso (fun a ha => mayA_run (hm a ((ordA_perm xs).mem_iff.1 ha))) (fun D => ?_) (ordA xs) [] rfl
  · have e : now + totA [] = now := by show now + 0 = now; omega
    rw [e] at this
    exact this
  · have e : totD D (ordA xs) = totD D xs := totA_perm ((ordA_perm xs).filter _)
    have h1 := h.tot D
    rw [hz D] at h1
    obtain ⟨c1, c2, c3⟩ := cntT_le now D t
    rw [e]
    by_cases hD : D ≤ now
    · have := c2 hD; exact .inl (by omega)
    · have := c3 (by omega); exact .inr (by omega)
def mixF (f : Ap → Ap) (ys : List Ap) (i k : Nat) : Ap := if k < i then f (atA ys k) else atA ys k
theorem mix_up (f : Ap → Ap) (ys : List Ap) (i k : Nat) : upR (mixF f ys i) i (f (atA ys i)) k = mixF f ys (i + 1) k := by
  unfold upR mixF
  by_cases c : k = i
  · subst c; rw [if_pos rfl, if_pos (by omega)]
  · rw [if_neg c]
    by_cases d : k < i
    · rw [if_pos d, if_pos (by omega)]
    · rw [if_neg d, if_neg (by omega)]
theorem mix_same {f : Ap → Ap} {ys : List Ap} {i : Nat} (h : f (atA ys i) = atA ys i) (k : Nat) : mixF f ys i k = mixF f ys (i + 1) k := by
  unfold mixF
  by_cases c : k = i
  · subst c; rw [if_neg (by omega), if_pos (by omega), h]
  · by_cases d : k < i
    · rw [if_pos d, if_pos (by omega)]
    · rw [if_neg d, if_neg (by omega)]
theorem mix_end (f : Ap → Ap) (ys : List Ap) {k : Nat} (h : k < ys.length) : mixF f ys ys.length k = atA (ys.map f) k := by
  unfold mixF
  rw [if_pos h]
  exact (atA_of (by rw [List.getElem?_map, atA_get h]; rfl)).symm
end Go.Proofs.Ytjaaabliefcgaaa
/- What the statement DoverRival comes to. -/
namespace Go.Proofs.Ytjaaabliefcgaaa
open Go.RowKit Go.Maps Go.Shelf

theorem OwnR.at5 {w : World} {base b n cap : Nat} {f : Nat → Ap} (h : OwnR recA w base 30 (.slice (some ⟨b, 0, none⟩) n cap) n f) {i : Nat} (hi : i < n) : w.cell? ⟨b, i * 5, none⟩ = some (.int .i64 (f i).id) ∧ w.cell? ⟨b, i * 5 + 1, none⟩ = some (.int .i64 (f i).due) ∧ w.cell? ⟨b, i * 5 + 2, none⟩ = some (.int .i64 (f i).c) ∧ w.cell? ⟨b, i * 5 + 3, none⟩ = some (.int .i64 (f i).v) ∧ w.cell? ⟨b, i * 5 + 4, none⟩ = some (.int .i64 (f i).r) ∧ w.frozen? ⟨b, i * 5 + 4, none⟩ = false :=
  ⟨(h.cell hi (j := 0) (by decide)).1, (h.cell hi (j := 1) (by decide)).1, (h.cell hi (j := 2) (by decide)).1, (h.cell hi (j := 3) (by decide)).1, (h.cell hi (j := 4) (by decide)).1, (h.cell hi (j := 4) (by decide)).2⟩
theorem OwnR.set4 {w : World} {base b n cap : Nat} {f : Nat → Ap} (h : OwnR recA w base 30 (.slice (some ⟨b, 0, none⟩) n cap) n f) {i : Nat} (hi : i < n) {a : Ap} (ha : f i = a) (r : Int) : OwnR recA (w.setCell ⟨b, i * 5 + 4, none⟩ (.int .i64 r)) base 30 (.slice (some ⟨b, 0, none⟩) n cap) n (upR f i ⟨a.id, a.due, a.c, a.v, r⟩) :=
  OwnR.set (R := recA) h hi (j := 4) (by decide) (by rw [ha]; rfl)
theorem OwnR.keptB {w w' : World} {base n : Nat} {v : Value} {f : Nat → Ap} (h : OwnR recA w base 30 v n f) (hb : Below w.heap.size w w') : OwnR recA w' base 30 v n f := OwnR.later h hb

set_option maxHeartbeats 2000000 in
set_option maxRecDepth 100000 in
theorem law_drival (xs : List Ap) (v : Value) (now : Int) (who : List Int) (u : Value) (w : World) (h : Aps w v xs) (hw : ∀ a ∈ xs, wfK a.key) (hu : Nums w u who) :
    Calls Try.prog 6 #[v, .int .i64 now, u] w fun e w' => e = .returned (.bool true) ∧ Below w.heap.size w w' := by
  have HA : Hid (Aps w v xs) := h
  have HW : Hid (∀ a ∈ xs, wfK a.key) := hw
  have HU : Hid (Nums w u who) := hu
  obtain ⟨ua, uc, rfl, q1, q2, _⟩ := hu
  clear h hw
  go_enter Try.func6, Try.ntmps6
  go_wp2_with fail
  refine (awake13_any _).mono ?_
  rintro e w1 ⟨rfl, hb1⟩
  have HA1 : Hid (Aps w1 v xs) := HA.out.later hb1
  go_wp2_with fail
  refine (may13_any xs v now w1 HA1.out HW.out).mono ?_
  rintro e w2 ⟨rfl, hb2⟩
  have hB2 := hb1.trans (hb2.mono hb1.size)
  have HA2 : Hid (Aps w2 v xs) := HA1.out.later hb2
  obtain ⟨p, hp⟩ : ∃ p, mayL xs now = p := ⟨_, rfl⟩
  have HM : Hid (mayL xs now = p) := hp
  rw [hp]
  clear hp hb1 hb2 HA1
  cases p
  · go_wp2_with fail
    go_ret
    exact ⟨rfl, hB2⟩
  obtain ⟨n4, ⟨n0, n1⟩, nd, hall⟩ := mayL_iff.1 HM.out
  have HMX : Hid ((∀ a ∈ xs, mayA a = true) ∧ (idsA xs).Nodup ∧ nearL xs) := ⟨hall, nd, fun a ha => mayA_near (hall a ha)⟩
  clear nd hall
  by_cases hwl : (400 : Int) < who.length
  · go_wp2_with fail
    go_ret
    exact ⟨rfl, hB2⟩
  by_cases hn38 : 274877906944 < now
  · go_wp2_with fail
    go_ret
    exact ⟨rfl, hB2⟩
  have HU2 : Hid (Nums w2 (.slice ua who.length uc) who) := HU.out.later hB2
  go_wp2_with (first
    | (at_builtin; refine append_rws (R := recA) Try.underlying22 Try.infoApe rfl (by omega) rfl _ _ rfl w2.heap.size (.slice none 0 0) v 0 xs.length (fun _ => apZ) (atA xs) rfl (OwnR.nil _ _ _ _ _) rfl HA2.out (by omega) (Nat.le_refl _) ?_; intro lv w3 ho3 hb3))
  have hO3 := OwnR.same (f := fun _ => apZ) (by exact ho3)
  have hl3 := OwnR.open hO3
  obtain ⟨la, lcap, rfl, ll⟩ : ∃ la lcap, lv = .slice la xs.length lcap ∧ (0 < xs.length → ∃ g, la = some ⟨g, 0, none⟩) := by
    rcases hl3 with ⟨rfl, e⟩ | ⟨g, cap, rfl, _⟩
    · rw [e]; exact ⟨none, 0, rfl, fun h => by omega⟩
    · exact ⟨_, _, rfl, fun _ => ⟨g, rfl⟩⟩
  have H3 : Hid (OwnR recA w3 w2.heap.size 30 (.slice la xs.length lcap) xs.length (atA xs) ∧ xs.length = xs.length ∧ RvI xs xs now 0 ∧ Below w2.heap.size w2 w3) := ⟨hO3, rfl, RvI.start HMX.out.1, hb3⟩
  clear hO3 hl3 ho3 hb3
  go_wp2_with fail
  go_loopw [9] (fun i wr => ∃ (t : Nat) (ys : List Ap), t ≤ who.length ∧ i = .int .i64 t ∧ Hid (OwnR recA wr w2.heap.size 30 (.slice la xs.length lcap) xs.length (atA ys) ∧ ys.length = xs.length ∧ RvI xs ys now t ∧ Below w2.heap.size w2 wr)) (fun i _ => ((who.length : Int) - intOf i).toNat)
  case atStart => exact ⟨0, xs, by omega, rfl, ⟨H3.out.1, rfl, H3.out.2.2.1, H3.out.2.2.2⟩⟩
  case round =>
    clear H3
    obtain ⟨t, ys, ht, rfl, HH⟩ := hrel
    by_cases htl : (t : Int) < who.length
    · obtain ⟨id, hid⟩ : ∃ id, who.getD t 0 = id := ⟨_, rfl⟩
      obtain ⟨ub, uo, hub, _⟩ : ∃ b o, ua = some ⟨b, o, none⟩ ∧ True := by
        obtain ⟨_, _, e', _, _, h4⟩ := HU2.out
        obtain ⟨b, o, e2, _⟩ := h4 (by intro e; rw [e] at htl; simp at htl; omega)
        simp only [Value.slice.injEq] at e'
        exact ⟨b, o, by rw [e'.1, e2], trivial⟩
      subst hub
      have HUC : Hid (w2.cell? ⟨ub, uo + t, none⟩ = some (.int .i64 id)) := by
        obtain ⟨_, _, e', _, _, h4⟩ := HU2.out
        obtain ⟨b, o, e2, h5⟩ := h4 (by intro e; rw [e] at htl; simp at htl; omega)
        simp only [Value.slice.injEq] at e'
        rw [e2] at e'
        simp only [Option.some.injEq, Addr.mk.injEq, and_true] at e'
        obtain ⟨⟨rfl, rfl⟩, _⟩ := e'
        show w2.cell? _ = _
        rw [← hid]
        exact h5 t (by omega)
      clear hid
      have HRI : Hid (RvI xs ys now t ∧ ys.length = xs.length) := ⟨HH.out.2.2.1, HH.out.2.1⟩
      have H4 : Hid (OwnR recA wr w2.heap.size 30 (.slice la xs.length lcap) xs.length (mixF (rvF now t id) ys 0) ∧ Below w2.heap.size w2 wr) := ⟨OwnR.congr HH.out.1 (fun k _ => by unfold mixF; rw [if_neg (Nat.not_lt_zero k)]), HH.out.2.2.2⟩
      have hnt : IntKind.i64.wrap (now + (t : Int)) = now + t := wrap_near (by omega) (by omega)
      clear HH
      go_wp2_with fail
      go_loopw [10] (fun i wr => ∃ (k : Nat), k ≤ xs.length ∧ i = .int .i64 k ∧ Hid (OwnR recA wr w2.heap.size 30 (.slice la xs.length lcap) xs.length (mixF (rvF now t id) ys k) ∧ Below w2.heap.size w2 wr)) (fun i _ => ((xs.length : Int) - intOf i).toNat)
      case atStart => exact ⟨0, by omega, rfl, H4.out⟩
      case round =>
        clear H4
        obtain ⟨k, hk, rfl, HK⟩ := hrel
        by_cases hkl : (k : Int) < xs.length
        rotate_left
        · obtain rfl : k = xs.length := by omega
          have H5 : Hid (OwnR recA wr w2.heap.size 30 (.slice la xs.length lcap) xs.length (atA (ys.map (rvF now t id))) ∧ (ys.map (rvF now t id)).length = xs.length ∧ RvI xs (ys.map (rvF now t id)) now (t + 1) ∧ Below w2.heap.size w2 wr) := by
            have e1 := HRI.out.2
            refine ⟨OwnR.congr HK.out.1 (fun i hi => ?_), by rw [List.length_map]; exact e1, HRI.out.1.step HMX.out.2.1 id, HK.out.2⟩
            rw [← e1] at hi ⊢
            exact mix_end _ _ hi
          clear HK
          go_wp2_with fail
          go_roundw
          case rel => exact ⟨t + 1, _, by omega, by go_num, H5.out⟩
          case measure => simp [intOf]; omega
        obtain ⟨g, hg⟩ := ll (by omega)
        subst hg
        obtain ⟨c0, c1, c2, _, c4, f4⟩ := OwnR.at5 HK.out.1 (i := k) (by omega)
        have emx : mixF (rvF now t id) ys k k = atA ys k := by unfold mixF; rw [if_neg (Nat.lt_irrefl k)]
        rw [emx] at c0 c1 c2 c4
        have cw := cell_later HK.out.2 HUC.out
        have hok := HRI.out.1.ok _ (atA_mem (show k < ys.length by have := HRI.out.2; omega))
        have HUP : Hid (∀ i, upR (mixF (rvF now t id) ys k) k (rvF now t id (atA ys k)) i = mixF (rvF now t id) ys (k + 1) i) := mix_up _ _ _
        have HSM : Hid (rvF now t id (atA ys k) = atA ys k → ∀ i, mixF (rvF now t id) ys k i = mixF (rvF now t id) ys (k + 1) i) := fun e => mix_same e
        have HEM : Hid (mixF (rvF now t id) ys k k = atA ys k) := emx
        clear emx ll
        generalize atA ys k = a at *
        obtain ⟨ii, dd, cc, vv, rr⟩ := a
        simp only at c0 c1 c2 c4 hok
        by_cases e1 : ii = id
        rotate_left
        · have e1' : (ii == id) = false := by simpa using e1
          have H6 : Hid (OwnR recA wr w2.heap.size 30 (.slice (some ⟨g, 0, none⟩) xs.length lcap) xs.length (mixF (rvF now t id) ys (k + 1)) ∧ Below w2.heap.size w2 wr) := ⟨OwnR.congr HK.out.1 (fun i _ => HSM.out (rvF_other e1) i), HK.out.2⟩
          clear e1 HK HUP HSM HEM
          go_wp2_with fail
          go_quiet (fail)
          go_wp2_with fail
          go_roundw
          case rel => exact ⟨k + 1, by omega, by go_num, H6.out.1, ⟨H6.out.2.os, H6.out.2.tape, H6.out.2.output, H6.out.2.size, H6.out.2.block⟩⟩
          case measure => simp [intOf]; omega
        have e1' : (ii == id) = true := by simpa using e1
        by_cases e2 : rr < cc
        rotate_left
        · have e2' : decide (rr < cc) = false := decide_eq_false e2
          have H6 : Hid (OwnR recA wr w2.heap.size 30 (.slice (some ⟨g, 0, none⟩) xs.length lcap) xs.length (mixF (rvF now t id) ys (k + 1)) ∧ Below w2.heap.size w2 wr) := ⟨OwnR.congr HK.out.1 (fun i _ => HSM.out (by unfold rvF; rw [if_neg (fun q => e2 q.2.1)]) i), HK.out.2⟩
          clear e1 HK HUP HSM HEM
          go_wp2_with fail
          go_quiet (fail)
          go_wp2_with fail
          go_roundw
          case rel => exact ⟨k + 1, by omega, by go_num, H6.out.1, ⟨H6.out.2.os, H6.out.2.tape, H6.out.2.output, H6.out.2.size, H6.out.2.block⟩⟩
          case measure => simp [intOf]; omega
        have e2' : decide (rr < cc) = true := decide_eq_true e2
        by_cases e3 : now + (t : Int) < dd
        rotate_left
        · have e3' : decide (now + (t : Int) < dd) = false := decide_eq_false e3
          have H6 : Hid (OwnR recA wr w2.heap.size 30 (.slice (some ⟨g, 0, none⟩) xs.length lcap) xs.length (mixF (rvF now t id) ys (k + 1)) ∧ Below w2.heap.size w2 wr) := ⟨OwnR.congr HK.out.1 (fun i _ => HSM.out (by unfold rvF; rw [if_neg (fun q => e3 q.2.2)]) i), HK.out.2⟩
          clear e1 HK HUP HSM HEM
          go_wp2_with fail
          go_quiet (fail)
          go_wp2_with fail
          go_roundw
          case rel => exact ⟨k + 1, by omega, by go_num, H6.out.1, ⟨H6.out.2.os, H6.out.2.tape, H6.out.2.output, H6.out.2.size, H6.out.2.block⟩⟩
          case measure => simp [intOf]; omega
        have e3' : decide (now + (t : Int) < dd) = true := decide_eq_true e3
        have hwr : IntKind.i64.wrap (rr + 1) = rr + 1 := wrap_near (by omega) (by omega)
        have H6 : Hid (OwnR recA (wr.setCell ⟨g, k * 5 + 4, none⟩ (.int .i64 (rr + 1))) w2.heap.size 30 (.slice (some ⟨g, 0, none⟩) xs.length lcap) xs.length (mixF (rvF now t id) ys (k + 1)) ∧ Below w2.heap.size w2 (wr.setCell ⟨g, k * 5 + 4, none⟩ (.int .i64 (rr + 1)))) := by
          refine ⟨OwnR.congr (OwnR.set4 HK.out.1 (i := k) (by omega) HEM.out (rr + 1)) (fun i _ => ?_), HK.out.2.setCell (p := ⟨g, k * 5 + 4, none⟩) (by have := HK.out.1; unfold OwnR at this; exact (this.lt g rfl).1) _⟩
          have e : rvF now t id ⟨ii, dd, cc, vv, rr⟩ = ⟨ii, dd, cc, vv, rr + 1⟩ := by unfold rvF; rw [if_pos ⟨e1, e2, e3⟩]
          rw [← HUP.out i, e]
        clear e1 HK HUP HSM HEM
        go_wp2_with fail
        go_quiet (fail)
        go_wp2_with fail
        go_roundw
        case rel => exact ⟨k + 1, by omega, by go_num, H6.out.1, ⟨H6.out.2.os, H6.out.2.tape, H6.out.2.output, H6.out.2.size, H6.out.2.block⟩⟩
        case measure => simp [intOf]; omega
    · obtain rfl : t = who.length := by omega
      have HB3 : Hid (Below w.heap.size w wr) := hB2.trans (HH.out.2.2.2.mono hB2.size)
      have HA3 : Hid (Aps wr v xs) := HA2.out.later HH.out.2.2.2
      clear htl
      generalize hwo : wr = wo at *
      clear hwo
      go_wp2_with fail
      go_loopw [11] (fun i wz => ∃ (k : Nat), k ≤ xs.length ∧ i = .int .i64 k ∧ Hid (∀ j, j < k → (atA ys j).c ≤ (atA ys j).r) ∧ Below wo.heap.size wo wz) (fun i _ => ((xs.length : Int) - intOf i).toNat)
      case atStart => exact ⟨0, by omega, rfl, fun j hj => by omega, Below.refl _ _⟩
      case round =>
        obtain ⟨k, hk, rfl, HJ, hbw⟩ := hrel
        by_cases hkl : (k : Int) < xs.length
        · obtain ⟨g, hg⟩ := ll (by omega)
          subst hg
          obtain ⟨_, _, c2, _, c4, _⟩ := OwnR.at5 HH.out.1 (i := k) (by omega)
          have d2 := cell_later hbw c2
          have d4 := cell_later hbw c4
          have HN : Hid ((atA ys k).c ≤ (atA ys k).r → ∀ j, j < k + 1 → (atA ys j).c ≤ (atA ys j).r) := fun e j hj => by
            rcases (show j = k ∨ j < k by omega) with rfl | h
            · exact e
            · exact HJ.out j h
          clear c2 c4 ll HJ
          generalize atA ys k = a at *
          obtain ⟨ii, dd, cc, vv, rr⟩ := a
          simp only at d2 d4 HN
          by_cases e2 : rr < cc
          · have e2' : decide (rr < cc) = true := decide_eq_true e2
            clear HN
            go_wp2_with fail
            go_quiet (fail)
            go_wp2_with fail
            go_ret
            exact ⟨rfl, HB3.out.trans (Below.mono ⟨hbw.os, hbw.tape, hbw.output, hbw.size, hbw.block⟩ HB3.out.size)⟩
          · have e2' : decide (rr < cc) = false := decide_eq_false e2
            have HN2 : Hid (∀ j, j < k + 1 → (atA ys j).c ≤ (atA ys j).r) := HN.out (by omega)
            clear HN
            go_wp2_with fail
            go_quiet (fail)
            go_wp2_with fail
            go_roundw
            case rel => exact ⟨k + 1, by omega, by go_num, HN2.out, ⟨hbw.os, hbw.tape, hbw.output, hbw.size, hbw.block⟩⟩
            case measure => simp [intOf]; omega
        · obtain rfl : k = xs.length := by omega
          have HF : Hid (fitsA xs now = true) := HH.out.2.2.1.done HMX.out.1 (fun a ha => by
            obtain ⟨j, hj, e⟩ := List.getElem_of_mem ha
            have := HJ.out j (by have := HH.out.2.1; omega)
            rw [atA_of (List.getElem?_eq_getElem hj), e] at this
            omega)
          have HA4 : Hid (Aps wr v xs) := HA3.out.later hbw
          have HB4 : Hid (Below w.heap.size w wr) := HB3.out.trans (hbw.mono HB3.out.size)
          clear hbw HJ HH HA3 HB3
          go_wp2_with fail
          refine (fits13_any xs v now _ HA4.out (by omega) HW.out HMX.out.2.2 (by omega) (by omega)).mono ?_
          rintro e w9 ⟨rfl, hb9⟩
          rw [HF.out]
          go_wp2_with fail
          go_ret
          exact ⟨rfl, HB4.out.trans (hb9.mono HB4.out.size)⟩
end Go.Proofs.Ytjaaabliefcgaaa
/- What the statement DoverWaits comes to: in numbers. -/
namespace Go.Proofs.Ytjaaabliefcgaaa
open Go.RowKit Go.Maps Go.Shelf

theorem totD_none {D : Int} {xs : List Ap} (h : ∀ a ∈ xs, ¬ a.due ≤ D) : totD D xs = 0 := by
  unfold totD
  rw [List.filter_eq_nil_iff.2 (fun a ha => by simpa using h a ha)]
  rfl
theorem fitL_tot {L : List Ap} : ∀ {now : Int}, L.Pairwise (fun a b => ile a.key b.key) → fitL now L = true → ∀ D, (∃ a ∈ L, a.due ≤ D) → now + totD D L ≤ D := by
  induction L with
  | nil => intro now _ _ D h; obtain ⟨a, ha, _⟩ := h; simp at ha
  | cons a M ih =>
    intro now hs hf D hex
    rw [List.pairwise_cons] at hs
    unfold fitL at hf
    rw [Bool.and_eq_true] at hf
    have h1 := of_decide_eq_true hf.1
    rw [totD_cons]
    by_cases c : ∃ b ∈ M, b.due ≤ D
    · have h2 := ih hs.2 hf.2 D c
      obtain ⟨b, hb, hbd⟩ := c
      have h3 := ile_iff.1 (hs.1 b hb)
      unfold Ap.key at h3
      simp only at h3
      rw [if_pos (by omega)]
      omega
    · have h2 : totD D M = 0 := totD_none (fun b hb hbd => c ⟨b, hb, hbd⟩)
      have h3 : a.due ≤ D := by
        obtain ⟨b, hb, hbd⟩ := hex
        rcases List.mem_cons.1 hb with rfl | hb
        · exact hbd
        · exact absurd ⟨b, hb, hbd⟩ c
      rw [if_pos h3, h2]
      omega
theorem fitL_of2 {L : List Ap} {now : Int} (hs : L.Pairwise (fun a b => ile a.key b.key)) (hr : ∀ a ∈ L, a.r ≤ a.c) (hD : ∀ a ∈ L, now + totD a.due L ≤ a.due) : ∀ (M P : List Ap), P ++ M = L → fitL (now + totA P) M = true := by
  intro M
  induction M with
  | nil => intro P _; rfl
  | cons a M ih =>
    intro P e
    have e2 : (P ++ [a]) ++ M = L := by rw [← e]; simp
    have hdue : ∀ b ∈ P ++ [a], b.due ≤ a.due := fun b hb => by
      rcases List.mem_append.1 hb with hb | hb
      · have h2 := hs
        rw [← e, List.pairwise_append] at h2
        have := ile_iff.1 (h2.2.2 b hb a (by simp))
        unfold Ap.key at this
        simp only at this
        omega
      · rw [List.mem_singleton] at hb
        rw [hb]; omega
    have h1 := totD_pre (D := a.due) (P := P ++ [a]) (Q := M) hdue (fun b hb => hr b (by rw [← e]; simp [hb]))
    rw [e2, totA_app] at h1
    have h2 : totA [a] = a.c - a.r := by show _ + 0 = _; omega
    have h5 := hD a (by rw [← e]; simp)
    unfold fitL
    rw [Bool.and_eq_true]
    refine ⟨decide_eq_true (by omega), ?_⟩
    have := ih (P ++ [a]) e2
    rw [totA_app, h2, ← Int.add_assoc] at this
    exact this
theorem fits_tot {xs : List Ap} {now : Int} (h : fitsA xs now = true) : ∀ a ∈ xs, now + totD a.due xs ≤ a.due := fun a ha => by
  have hso : (ordA xs).Pairwise (fun a b => ile a.key b.key) := List.pairwise_map.1 (ordA_srtd xs)
  have := fitL_tot hso h a.due ⟨a, (ordA_perm xs).mem_iff.2 ha, Int.le_refl _⟩
  have e : totD a.due (ordA xs) = totD a.due xs := totA_perm ((ordA_perm xs).filter _)
  rwa [e] at this
theorem fits_of_tot {xs : List Ap} {now : Int} (hr : ∀ a ∈ xs, a.r ≤ a.c) (h : ∀ a ∈ xs, now + totD a.due xs ≤ a.due) : fitsA xs now = true := by
  have hso : (ordA xs).Pairwise (fun a b => ile a.key b.key) := List.pairwise_map.1 (ordA_srtd xs)
  have hm : ∀ a ∈ ordA xs, a ∈ xs := fun a ha => (ordA_perm xs).mem_iff.1 ha
  have := fitL_of2 hso (now := now) (fun a ha => hr a (hm a ha)) (fun a ha => by
    have e : totD a.due (ordA xs) = totD a.due xs := totA_perm ((ordA_perm xs).filter _)
    rw [e]
    exact h a (hm a ha)) (ordA xs) [] rfl
  have e : now + totA [] = now := by show now + 0 = now; omega
  rw [e] at this
  exact this
theorem totD_app (D : Int) (P Q : List Ap) : totD D (P ++ Q) = totD D P + totD D Q := by
  unfold totD
  rw [List.filter_append, totA_app]
/-- Without one. -/
def lesA (xs : List Ap) (i : Nat) : List Ap := xs.take i ++ xs.drop (i + 1)
def shtA (xs : List Ap) (i : Nat) (b : Ap) : List Ap := xs.take i ++ b :: xs.drop (i + 1)
theorem split_at {xs : List Ap} {i : Nat} (h : i < xs.length) : xs = xs.take i ++ atA xs i :: xs.drop (i + 1) := by
  rw [← dropA_next h, List.take_append_drop]
theorem fits_less {xs : List Ap} {now : Int} {i : Nat} (hi : i < xs.length) (hr : ∀ a ∈ xs, a.r ≤ a.c) (h : fitsA xs now = true) : fitsA (lesA xs i) now = true := by
  have hs := split_at hi
  have hsub : ∀ a ∈ lesA xs i, a ∈ xs := fun a ha => by
    rw [hs]
    unfold lesA at ha
    rcases List.mem_append.1 ha with ha | ha
    · exact List.mem_append.2 (.inl ha)
    · exact List.mem_append.2 (.inr (List.mem_cons_of_mem _ ha))
  refine fits_of_tot (fun a ha => hr a (hsub a ha)) (fun a ha => ?_)
  have h1 := fits_tot h a (hsub a ha)
  have h2 : totD a.due xs = totD a.due (xs.take i) + ((if (atA xs i).due ≤ a.due then (atA xs i).c - (atA xs i).r else 0) + totD a.due (xs.drop (i + 1))) := by
    conv => lhs; rw [hs]
    rw [totD_app, totD_cons]
  have h3 : totD a.due (lesA xs i) = totD a.due (xs.take i) + totD a.due (xs.drop (i + 1)) := totD_app _ _ _
  have h4 := hr _ (atA_mem hi)
  split at h2 <;> omega
theorem fits_short {xs : List Ap} {now : Int} {i : Nat} (hi : i < xs.length) (hr : ∀ a ∈ xs, a.r < a.c) (h : fitsA xs now = true) : fitsA (shtA xs i ⟨(atA xs i).id, (atA xs i).due, (atA xs i).c, (atA xs i).v, (atA xs i).r + 1⟩) now = true := by
  have hs := split_at hi
  have h4 := hr _ (atA_mem hi)
  have hsub : ∀ a ∈ shtA xs i ⟨(atA xs i).id, (atA xs i).due, (atA xs i).c, (atA xs i).v, (atA xs i).r + 1⟩, (∃ b ∈ xs, b.due = a.due) ∧ a.r ≤ a.c := fun a ha => by
    unfold shtA at ha
    rcases List.mem_append.1 ha with ha | ha
    · have hx : a ∈ xs := by rw [hs]; exact List.mem_append.2 (.inl ha)
      have := hr a hx
      exact ⟨⟨a, hx, rfl⟩, by omega⟩
    · rcases List.mem_cons.1 ha with rfl | ha
      · exact ⟨⟨atA xs i, atA_mem hi, rfl⟩, by simp only; omega⟩
      · have hx : a ∈ xs := by rw [hs]; exact List.mem_append.2 (.inr (List.mem_cons_of_mem _ ha))
        have := hr a hx
        exact ⟨⟨a, hx, rfl⟩, by omega⟩
  refine fits_of_tot (fun a ha => (hsub a ha).2) (fun a ha => ?_)
  obtain ⟨⟨b, hb, e⟩, _⟩ := hsub a ha
  have h1 := fits_tot h b hb
  rw [e] at h1
  have h2 : totD a.due xs = totD a.due (xs.take i) + ((if (atA xs i).due ≤ a.due then (atA xs i).c - (atA xs i).r else 0) + totD a.due (xs.drop (i + 1))) := by
    conv => lhs; rw [hs]
    rw [totD_app, totD_cons]
  have h3 : totD a.due (shtA xs i ⟨(atA xs i).id, (atA xs i).due, (atA xs i).c, (atA xs i).v, (atA xs i).r + 1⟩) = totD a.due (xs.take i) + ((if (atA xs i).due ≤ a.due then (atA xs i).c - ((atA xs i).r + 1) else 0) + totD a.due (xs.drop (i + 1))) := by
    unfold shtA
    rw [totD_app, totD_cons]
  split at h2 <;> split at h3 <;> omega
theorem fits_one (a : Ap) (now : Int) : fitsA [a] now = decide (0 ≤ laxA a now) := by
  have e : fitsA [a] now = (decide (now + (a.c - a.r) ≤ a.due) && true) := rfl
  rw [e, Bool.and_true]
  unfold laxA
  exact decide_eq_decide.2 (by omega)
theorem les_len (xs : List Ap) (i : Nat) : (lesA xs i).length ≤ xs.length := by
  unfold lesA; rw [List.length_append, List.length_take, List.length_drop]; omega
theorem sht_len {xs : List Ap} {i : Nat} (h : i < xs.length) (b : Ap) : (shtA xs i b).length = xs.length := by
  unfold shtA; rw [List.length_append, List.length_cons, List.length_take, List.length_drop]; omega
theorem sht_at {xs : List Ap} {i : Nat} (h : i < xs.length) (b : Ap) (k : Nat) : atA (shtA xs i b) k = upR (atA xs) i b k := by
  have hs := split_at h
  have hl : (xs.take i).length = i := by rw [List.length_take]; omega
  have get : ∀ (c : Ap), (xs.take i ++ c :: xs.drop (i + 1))[k]? = if k < i then (xs.take i)[k]? else if k = i then some c else (xs.drop (i + 1))[k - i - 1]? := fun c => by
    by_cases c1 : k < i
    · rw [if_pos c1, List.getElem?_append_left (by omega)]
    · rw [if_neg c1, List.getElem?_append_right (by omega), hl]
      by_cases c2 : k = i
      · rw [if_pos c2, c2, Nat.sub_self]; rfl
      · rw [if_neg c2]
        obtain ⟨m, hm⟩ : ∃ m, k - i = m + 1 := ⟨k - i - 1, by omega⟩
        rw [hm, List.getElem?_cons_succ]; rfl
  unfold upR atA List.getD shtA
  rw [get b]
  by_cases c2 : k = i
  · rw [if_pos c2, if_neg (by omega), if_pos c2]; rfl
  · rw [if_neg c2, if_neg c2]
    conv => rhs; rw [hs]
    rw [get, if_neg c2]
end Go.Proofs.Ytjaaabliefcgaaa
/- What the statement DoverWaits comes to. -/
namespace Go.Proofs.Ytjaaabliefcgaaa
open Go.RowKit Go.Maps Go.Shelf

theorem les_row {w : World} {base : Nat} {v : Value} {xs : List Ap} {j : Nat} (hj : j < xs.length) (h : OwnR recA w base 30 v (0 + j + (xs.length - (j + 1))) (catR (0 + j) (catR 0 (fun _ => apZ) (atA xs)) (fun t => atA xs (j + 1 + t)))) : Aps w v (lesA xs j) := by
  have e : 0 + j + (xs.length - (j + 1)) = (lesA xs j).length := by unfold lesA; rw [List.length_append, List.length_take, List.length_drop]; omega
  have hr := OwnR.rws h
  rw [e] at hr
  refine hr.congr (fun i hi => ?_)
  rw [Nat.zero_add]
  unfold lesA atA List.getD at *
  have hl : (xs.take j).length = j := by rw [List.length_take]; omega
  by_cases c : i < j
  · rw [catR_left c, catR_zero, List.getElem?_append_left (by omega), List.getElem?_take, if_pos c]
  · rw [catR_right (by omega), List.getElem?_append_right (by omega), hl, List.getElem?_drop]
set_option maxHeartbeats 2000000 in
set_option maxRecDepth 100000 in
theorem law_dwaits (xs : List Ap) (v : Value) (now i : Int) (w : World) (h : Aps w v xs) (hw : ∀ a ∈ xs, wfK a.key) :
    Calls Try.prog 8 #[v, .int .i64 now, .int .i64 i] w fun e w' => e = .returned (.bool true) ∧ Below w.heap.size w w' := by
  have HA : Hid (Aps w v xs) := h
  have HW : Hid (∀ a ∈ xs, wfK a.key) := hw
  obtain ⟨ad, cap, rfl, l1, l2, l3, _⟩ := h.open
  clear h hw
  go_enter Try.func8, Try.ntmps8
  go_wp2_with fail
  refine (awake13_any _).mono ?_
  rintro e w1 ⟨rfl, hb1⟩
  have HA1 : Hid (Aps w1 (.slice ad xs.length cap) xs) := HA.out.later hb1
  go_wp2_with fail
  refine (may13_any xs _ now w1 HA1.out HW.out).mono ?_
  rintro e w2 ⟨rfl, hb2⟩
  have hB2 := hb1.trans (hb2.mono hb1.size)
  have HA2 : Hid (Aps w2 (.slice ad xs.length cap) xs) := HA1.out.later hb2
  obtain ⟨p, hp⟩ : ∃ p, mayL xs now = p := ⟨_, rfl⟩
  have HM : Hid (mayL xs now = p) := hp
  rw [hp]
  clear hp hb1 hb2 HA1 HA
  cases p
  · go_wp2_with fail
    go_ret
    exact ⟨rfl, hB2⟩
  obtain ⟨n4, ⟨n0, n1⟩, nd, hall⟩ := mayL_iff.1 HM.out
  have HMX : Hid ((∀ a ∈ xs, mayA a = true) ∧ (idsA xs).Nodup ∧ nearL xs) := ⟨hall, nd, fun a ha => mayA_near (hall a ha)⟩
  clear nd hall
  by_cases hi0 : i < 0
  · go_wp2_with fail
    go_ret
    exact ⟨rfl, hB2⟩
  by_cases hin : (xs.length : Int) ≤ i
  · go_wp2_with fail
    go_ret
    exact ⟨rfl, hB2⟩
  by_cases hn38 : 274877906944 < now
  · go_wp2_with fail
    go_ret
    exact ⟨rfl, hB2⟩
  obtain ⟨j, rfl⟩ : ∃ j : Nat, i = j := ⟨i.toNat, by omega⟩
  have hj : j < xs.length := by omega
  obtain ⟨bk, o, hbk, _⟩ : ∃ bk o, ad = some ⟨bk, o, none⟩ ∧ True := by
    obtain ⟨_, _, e', _, _, _, h4⟩ := HA2.out.open
    obtain ⟨b, o, e2, _⟩ := h4 (by omega)
    simp only [Value.slice.injEq] at e'
    exact ⟨b, o, by rw [e'.1, e2], trivial⟩
  subst hbk
  obtain ⟨c0, c1, c2, c3, c4⟩ := HA2.out.at5 hj
  have sb : bk < w2.heap.size := World.block_lt_of_cell? _ _ c0
  have hmj := mayA_iff.1 (HMX.out.1 _ (atA_mem hj))
  have HNA : Hid (nearA (atA xs j)) := HMX.out.2.2 _ (atA_mem hj)
  have HW1 : Hid (∀ a ∈ [atA xs j], wfK a.key) := fun a ha => by rw [List.mem_singleton] at ha; rw [ha]; exact HW.out _ (atA_mem hj)
  have HN1 : Hid (nearL [atA xs j]) := fun a ha => by rw [List.mem_singleton] at ha; rw [ha]; exact HMX.out.2.2 _ (atA_mem hj)
  have HFL : Hid (fitsA xs now = true → fitsA (lesA xs j) now = true) := fits_less hj (fun a ha => by have := mayA_run (HMX.out.1 a ha); omega)
  have HFS : Hid (fitsA xs now = true → fitsA (shtA xs j ⟨(atA xs j).id, (atA xs j).due, (atA xs j).c, (atA xs j).v, (atA xs j).r + 1⟩) now = true) := fits_short hj (fun a ha => mayA_run (HMX.out.1 a ha))
  have HF1 : Hid (fitsA [atA xs j] now = decide (0 ≤ laxA (atA xs j) now)) := fits_one _ _
  have HSA : Hid (∀ b k, atA (shtA xs j b) k = upR (atA xs) j b k) := sht_at hj
  have HWS : Hid (∀ b : Ap, wfK b.key → ∀ a ∈ shtA xs j b, wfK a.key) := fun b hb a ha => by
    unfold shtA at ha
    rcases List.mem_append.1 ha with ha | ha
    · exact HW.out a (List.mem_of_mem_take ha)
    · rcases List.mem_cons.1 ha with rfl | ha
      · exact hb
      · exact HW.out a (List.mem_of_mem_drop ha)
  have HNS : Hid (∀ b : Ap, nearA b → nearL (shtA xs j b)) := fun b hb a ha => by
    unfold shtA at ha
    rcases List.mem_append.1 ha with ha | ha
    · exact HMX.out.2.2 a (List.mem_of_mem_take ha)
    · rcases List.mem_cons.1 ha with rfl | ha
      · exact hb
      · exact HMX.out.2.2 a (List.mem_of_mem_drop ha)
  generalize atA xs j = a at *
  obtain ⟨ii, dd, cc, vv, rr⟩ := a
  simp only at c0 c1 c2 c3 c4 hmj HFS
  have hwr : IntKind.i64.wrap (rr + 1) = rr + 1 := wrap_near (by omega) (by omega)
  have hwn : IntKind.i64.wrap (now + 1) = now + 1 := wrap_near (by omega) (by omega)
  have HNB : Hid (nearA ⟨ii, dd, cc, vv, rr + 1⟩) := by show nearA _; unfold nearA; simp only; omega
  have HWB : Hid (wfK (Ap.key ⟨ii, dd, cc, vv, rr + 1⟩)) := HW1.out ⟨ii, dd, cc, vv, rr⟩ (by simp)
  have HX : Hid (Bx5 ((w2.alloc (.cells #[.int .i64 ii, .int .i64 dd, .int .i64 cc, .int .i64 vv, .int .i64 rr] 30)).alloc (.cells #[.int .i64 ii, .int .i64 dd, .int .i64 cc, .int .i64 vv, .int .i64 (rr + 1)] 30)) w2.heap.size ii dd cc vv rr) := (Bx5.new w2 ii dd cc vv rr 30).later ((Below.refl _ _).alloc (Nat.le_refl _) _)
  have HY : Hid (Bx5 ((w2.alloc (.cells #[.int .i64 ii, .int .i64 dd, .int .i64 cc, .int .i64 vv, .int .i64 rr] 30)).alloc (.cells #[.int .i64 ii, .int .i64 dd, .int .i64 cc, .int .i64 vv, .int .i64 (rr + 1)] 30)) (w2.heap.size + 1) ii dd cc vv (rr + 1)) := by
    have := Bx5.new (w2.alloc (.cells #[.int .i64 ii, .int .i64 dd, .int .i64 cc, .int .i64 vv, .int .i64 rr] 30)) ii dd cc vv (rr + 1) 30
    rwa [World.size_alloc] at this
  have HBW : Hid (Below w2.heap.size w2 ((w2.alloc (.cells #[.int .i64 ii, .int .i64 dd, .int .i64 cc, .int .i64 vv, .int .i64 rr] 30)).alloc (.cells #[.int .i64 ii, .int .i64 dd, .int .i64 cc, .int .i64 vv, .int .i64 (rr + 1)] 30))) := ((Below.refl _ _).alloc (Nat.le_refl _) _).alloc (by simp) _
  obtain ⟨lx, hlx⟩ : ∃ lx, laxA ⟨ii, dd, cc, vv, rr⟩ now = lx := ⟨_, rfl⟩
  have HLX : Hid (laxA ⟨ii, dd, cc, vv, rr⟩ now = lx) := hlx
  have HLB : Hid (laxA ⟨ii, dd, cc, vv, rr + 1⟩ (now + 1) = lx) := by show _ = _; rw [← hlx]; unfold laxA; simp only; omega
  have HLC : Hid (laxA ⟨ii, dd, cc, vv, rr⟩ (now + 1) = lx - 1) := by show _ = _; rw [← hlx]; unfold laxA; simp only; omega
  have hwl : IntKind.i64.wrap (lx - 1) = lx - 1 := wrap_near (by rw [← hlx]; unfold laxA; simp only; omega) (by rw [← hlx]; unfold laxA; simp only; omega)
  rw [hlx] at HF1
  clear hmj hlx
  go_wp2_with fail
  clear c0 c1 c2 c3 c4 hwr
  generalize hW : ((w2.alloc (.cells #[.int .i64 ii, .int .i64 dd, .int .i64 cc, .int .i64 vv, .int .i64 rr] 30)).alloc (.cells #[.int .i64 ii, .int .i64 dd, .int .i64 cc, .int .i64 vv, .int .i64 (rr + 1)] 30)) = W at *
  clear hW
  have MK : Hid (∀ w', Below W.heap.size W w' → ((w'.cell? ⟨w2.heap.size, 0, none⟩ = some (.int .i64 ii) ∧ w'.cell? ⟨w2.heap.size, 1, none⟩ = some (.int .i64 dd) ∧ w'.cell? ⟨w2.heap.size, 2, none⟩ = some (.int .i64 cc) ∧ w'.cell? ⟨w2.heap.size, 3, none⟩ = some (.int .i64 vv) ∧ w'.cell? ⟨w2.heap.size, 4, none⟩ = some (.int .i64 rr)) ∧ (w'.cell? ⟨(w2.heap.size + 1), 0, none⟩ = some (.int .i64 ii) ∧ w'.cell? ⟨(w2.heap.size + 1), 1, none⟩ = some (.int .i64 dd) ∧ w'.cell? ⟨(w2.heap.size + 1), 2, none⟩ = some (.int .i64 cc) ∧ w'.cell? ⟨(w2.heap.size + 1), 3, none⟩ = some (.int .i64 vv) ∧ w'.cell? ⟨(w2.heap.size + 1), 4, none⟩ = some (.int .i64 (rr + 1)))) ∧ Below W.heap.size W w') := fun w' hb => ⟨⟨HX.out.later hb, HY.out.later hb⟩, hb⟩
  have hrest : ∀ (W7 : World), Below W.heap.size W W7 → True := fun _ _ => trivial
  by_cases hl0 : 0 ≤ lx
  · have HFZ : Hid (fitsA [⟨ii, dd, cc, vv, rr⟩] now = true) := by show _ = _; rw [HF1.out, decide_eq_true hl0]
    refine wp_region_held_drew (S := (fun w' : World => ((w'.cell? ⟨w2.heap.size, 0, none⟩ = some (.int .i64 ii) ∧ w'.cell? ⟨w2.heap.size, 1, none⟩ = some (.int .i64 dd) ∧ w'.cell? ⟨w2.heap.size, 2, none⟩ = some (.int .i64 cc) ∧ w'.cell? ⟨w2.heap.size, 3, none⟩ = some (.int .i64 vv) ∧ w'.cell? ⟨w2.heap.size, 4, none⟩ = some (.int .i64 rr)) ∧ (w'.cell? ⟨(w2.heap.size + 1), 0, none⟩ = some (.int .i64 ii) ∧ w'.cell? ⟨(w2.heap.size + 1), 1, none⟩ = some (.int .i64 dd) ∧ w'.cell? ⟨(w2.heap.size + 1), 2, none⟩ = some (.int .i64 cc) ∧ w'.cell? ⟨(w2.heap.size + 1), 3, none⟩ = some (.int .i64 vv) ∧ w'.cell? ⟨(w2.heap.size + 1), 4, none⟩ = some (.int .i64 (rr + 1)))) ∧ Below W.heap.size W w')) (by kernel_rfl) ?_ (fun hHeld => ?_)
    · exact MK.out _ (Below.refl _ _).drew
    refine wpAnyH_take (i := 0) (oi := { dst := some 45, op := Op.load 30 (Operand.tmp 9), type := 30, pos := _, after := _, guard := none }) (v := ?_) rfl (by kernel_rfl) (by kernel_rfl) (by kernel_rfl) (fun _ _ _ h => h) (Or.inl ⟨by rfl, ?_⟩) (by assumption) ?_
    rotate_left
    · intro wS hSw; (try dsimp only at hSw); go_simp; first | done | with_reducible rfl
    try simp only [Act.put, List.setIfInBounds_toArray, List.set_cons_zero, List.set_cons_succ]
    refine wpAnyH_take (i := 1) (oi := { dst := some 46, op := Op.move (Operand.tmp 1), type := 3, pos := _, after := _, guard := none }) (v := ?_) rfl (by kernel_rfl) (by kernel_rfl) (by kernel_rfl) (fun _ _ _ h => h) (Or.inl ⟨by rfl, ?_⟩) (by assumption) ?_
    rotate_left
    · intro wS hSw; (try dsimp only at hSw); go_simp; first | done | with_reducible rfl
    try simp only [Act.put, List.setIfInBounds_toArray, List.set_cons_zero, List.set_cons_succ]
    refine wpAnyH_take (i := 2) (oi := { dst := some 47, op := Op.binOp BinOp.add 3 (Operand.tmp 46) (Operand.const (Value.int IntKind.i64 1)) 3, type := 3, pos := _, after := _, guard := none }) (v := ?_) rfl (by kernel_rfl) (by kernel_rfl) (by kernel_rfl) (fun _ _ _ h => h) (Or.inl ⟨by rfl, ?_⟩) (by assumption) ?_
    rotate_left
    · intro wS hSw; (try dsimp only at hSw); go_simp; first | done | with_reducible rfl
    try simp only [Act.put, List.setIfInBounds_toArray, List.set_cons_zero, List.set_cons_succ]
    refine wpAnyH_take (i := 4) (oi := { dst := some 49, op := Op.load 30 (Operand.tmp 8), type := 30, pos := _, after := _, guard := none }) (v := ?_) rfl (by kernel_rfl) (by kernel_rfl) (by kernel_rfl) (fun _ _ _ h => h) (Or.inl ⟨by rfl, ?_⟩) (by assumption) ?_
    rotate_left
    · intro wS hSw; (try dsimp only at hSw); go_simp; first | done | with_reducible rfl
    try simp only [Act.put, List.setIfInBounds_toArray, List.set_cons_zero, List.set_cons_succ]
    refine wpAnyH_take (i := 5) (oi := { dst := some 50, op := Op.move (Operand.tmp 1), type := 3, pos := _, after := _, guard := none }) (v := ?_) rfl (by kernel_rfl) (by kernel_rfl) (by kernel_rfl) (fun _ _ _ h => h) (Or.inl ⟨by rfl, ?_⟩) (by assumption) ?_
    rotate_left
    · intro wS hSw; (try dsimp only at hSw); go_simp; first | done | with_reducible rfl
    try simp only [Act.put, List.setIfInBounds_toArray, List.set_cons_zero, List.set_cons_succ]
    refine wpAnyH_ready (rs := [3]) (by kernel_rfl) (by simp) ?_
    refine AllReadyH.cons (o := { dst := some 48, op := Op.call { callee := Callee.value (Operand.func 14), args := #[Operand.tmp 45, Operand.tmp 47], argTypes := #[30, 3] }, type := 3, pos := _, after := _, guard := none }) rfl (fun K hK => ?_) AllReadyH.nil
    go_simp
    refine (lax_any ii dd cc vv (rr + 1) (now + 1) _ HNB.out (by omega) (by omega)).mono ?_
    rintro e w11 ⟨rfl, hb11⟩
    rw [HLB.out]
    have hs11 := bstep hb11 (sBel (by assumption))
    go_wp2_with fail
    refine hK.out _ _ ?_ (fun hHeld => ?_)
    · exact MK.out _ hs11
    clear hK K
    try simp only [Act.put, List.setIfInBounds_toArray, List.set_cons_zero, List.set_cons_succ]
    refine wpAnyH_ready (rs := [6]) (by kernel_rfl) (by simp) ?_
    refine AllReadyH.cons (o := { dst := some 51, op := Op.call { callee := Callee.value (Operand.func 14), args := #[Operand.tmp 49, Operand.tmp 50], argTypes := #[30, 3] }, type := 3, pos := _, after := _, guard := none }) rfl (fun K hK => ?_) AllReadyH.nil
    go_simp
    refine (lax_any ii dd cc vv rr now _ HNA.out (by omega) (by omega)).mono ?_
    rintro e w12 ⟨rfl, hb12⟩
    rw [HLX.out]
    have hs12 := bstep hb12 (sBel (by assumption))
    go_wp2_with fail
    refine hK.out _ _ ?_ (fun hHeld => ?_)
    · exact MK.out _ hs12
    clear hK K
    try simp only [Act.put, List.setIfInBounds_toArray, List.set_cons_zero, List.set_cons_succ]
    refine wpAnyH_take (i := 7) (oi := { dst := some 52, op := Op.binOp BinOp.neq 3 (Operand.tmp 48) (Operand.tmp 51) 3, type := 4, pos := _, after := _, guard := none }) (v := ?_) rfl (by kernel_rfl) (by kernel_rfl) (by kernel_rfl) (fun _ _ _ h => h) (Or.inl ⟨by rfl, ?_⟩) (by assumption) ?_
    rotate_left
    · intro wS hSw; (try dsimp only at hSw); go_simp; first | done | with_reducible rfl
    try simp only [Act.put, List.setIfInBounds_toArray, List.set_cons_zero, List.set_cons_succ]
    refine wpAnyH_take (i := 8) (oi := { dst := some 53, op := Op.move (Operand.tmp 52), type := 4, pos := _, after := _, guard := none }) (v := ?_) rfl (by kernel_rfl) (by kernel_rfl) (by kernel_rfl) (fun _ _ _ h => h) (Or.inl ⟨by rfl, ?_⟩) (by assumption) ?_
    rotate_left
    · intro wS hSw; (try dsimp only at hSw); go_simp; first | done | with_reducible rfl
    try simp only [Act.put, List.setIfInBounds_toArray, List.set_cons_zero, List.set_cons_succ]
    refine wpAnyH_take (i := 9) (oi := { dst := some 54, op := Op.load 30 (Operand.tmp 8), type := 30, pos := _, after := _, guard := some (8, false) }) (v := ?_) rfl (by kernel_rfl) (by kernel_rfl) (by kernel_rfl) (fun _ _ _ h => h) (Or.inl ⟨by rfl, ?_⟩) (by assumption) ?_
    rotate_left
    · intro wS hSw; (try dsimp only at hSw); go_simp; first | done | with_reducible rfl
    try simp only [Act.put, List.setIfInBounds_toArray, List.set_cons_zero, List.set_cons_succ]
    refine wpAnyH_take (i := 10) (oi := { dst := some 55, op := Op.move (Operand.tmp 1), type := 3, pos := _, after := _, guard := some (8, false) }) (v := ?_) rfl (by kernel_rfl) (by kernel_rfl) (by kernel_rfl) (fun _ _ _ h => h) (Or.inl ⟨by rfl, ?_⟩) (by assumption) ?_
    rotate_left
    · intro wS hSw; (try dsimp only at hSw); go_simp; first | done | with_reducible rfl
    try simp only [Act.put, List.setIfInBounds_toArray, List.set_cons_zero, List.set_cons_succ]
    refine wpAnyH_take (i := 11) (oi := { dst := some 56, op := Op.binOp BinOp.add 3 (Operand.tmp 55) (Operand.const (Value.int IntKind.i64 1)) 3, type := 3, pos := _, after := _, guard := some (8, false) }) (v := ?_) rfl (by kernel_rfl) (by kernel_rfl) (by kernel_rfl) (fun _ _ _ h => h) (Or.inl ⟨by rfl, ?_⟩) (by assumption) ?_
    rotate_left
    · intro wS hSw; (try dsimp only at hSw); go_simp; first | done | with_reducible rfl
    try simp only [Act.put, List.setIfInBounds_toArray, List.set_cons_zero, List.set_cons_succ]
    refine wpAnyH_take (i := 13) (oi := { dst := some 58, op := Op.load 30 (Operand.tmp 8), type := 30, pos := _, after := _, guard := some (8, false) }) (v := ?_) rfl (by kernel_rfl) (by kernel_rfl) (by kernel_rfl) (fun _ _ _ h => h) (Or.inl ⟨by rfl, ?_⟩) (by assumption) ?_
    rotate_left
    · intro wS hSw; (try dsimp only at hSw); go_simp; first | done | with_reducible rfl
    try simp only [Act.put, List.setIfInBounds_toArray, List.set_cons_zero, List.set_cons_succ]
    refine wpAnyH_take (i := 14) (oi := { dst := some 59, op := Op.move (Operand.tmp 1), type := 3, pos := _, after := _, guard := some (8, false) }) (v := ?_) rfl (by kernel_rfl) (by kernel_rfl) (by kernel_rfl) (fun _ _ _ h => h) (Or.inl ⟨by rfl, ?_⟩) (by assumption) ?_
    rotate_left
    · intro wS hSw; (try dsimp only at hSw); go_simp; first | done | with_reducible rfl
    try simp only [Act.put, List.setIfInBounds_toArray, List.set_cons_zero, List.set_cons_succ]
    refine wpAnyH_ready (rs := [12]) (by kernel_rfl) (by simp) ?_
    refine AllReadyH.cons (o := { dst := some 57, op := Op.call { callee := Callee.value (Operand.func 14), args := #[Operand.tmp 54, Operand.tmp 56], argTypes := #[30, 3] }, type := 3, pos := _, after := _, guard := some (8, false) }) rfl (fun K hK => ?_) AllReadyH.nil
    go_simp
    refine (lax_any ii dd cc vv rr (now + 1) _ HNA.out (by omega) (by omega)).mono ?_
    rintro e w13 ⟨rfl, hb13⟩
    rw [HLC.out]
    have hs13 := bstep hb13 (sBel (by assumption))
    go_wp2_with fail
    refine hK.out _ _ ?_ (fun hHeld => ?_)
    · exact MK.out _ hs13
    clear hK K
    try simp only [Act.put, List.setIfInBounds_toArray, List.set_cons_zero, List.set_cons_succ]
    refine wpAnyH_ready (rs := [15]) (by kernel_rfl) (by simp) ?_
    refine AllReadyH.cons (o := { dst := some 60, op := Op.call { callee := Callee.value (Operand.func 14), args := #[Operand.tmp 58, Operand.tmp 59], argTypes := #[30, 3] }, type := 3, pos := _, after := _, guard := some (8, false) }) rfl (fun K hK => ?_) AllReadyH.nil
    go_simp
    refine (lax_any ii dd cc vv rr now _ HNA.out (by omega) (by omega)).mono ?_
    rintro e w14 ⟨rfl, hb14⟩
    rw [HLX.out]
    have hs14 := bstep hb14 (sBel (by assumption))
    go_wp2_with fail
    refine hK.out _ _ ?_ (fun hHeld => ?_)
    · exact MK.out _ hs14
    clear hK K
    try simp only [Act.put, List.setIfInBounds_toArray, List.set_cons_zero, List.set_cons_succ]
    refine wpAnyH_take (i := 16) (oi := { dst := some 61, op := Op.binOp BinOp.sub 3 (Operand.tmp 60) (Operand.const (Value.int IntKind.i64 1)) 3, type := 3, pos := _, after := _, guard := some (8, false) }) (v := ?_) rfl (by kernel_rfl) (by kernel_rfl) (by kernel_rfl) (fun _ _ _ h => h) (Or.inl ⟨by rfl, ?_⟩) (by assumption) ?_
    rotate_left
    · intro wS hSw; (try dsimp only at hSw); go_simp; first | done | with_reducible rfl
    try simp only [Act.put, List.setIfInBounds_toArray, List.set_cons_zero, List.set_cons_succ]
    refine wpAnyH_take (i := 17) (oi := { dst := some 62, op := Op.binOp BinOp.neq 3 (Operand.tmp 57) (Operand.tmp 61) 3, type := 4, pos := _, after := _, guard := some (8, false) }) (v := ?_) rfl (by kernel_rfl) (by kernel_rfl) (by kernel_rfl) (fun _ _ _ h => h) (Or.inl ⟨by rfl, ?_⟩) (by assumption) ?_
    rotate_left
    · intro wS hSw; (try dsimp only at hSw); go_simp; first | done | with_reducible rfl
    try simp only [Act.put, List.setIfInBounds_toArray, List.set_cons_zero, List.set_cons_succ]
    refine wpAnyH_take (i := 18) (oi := { dst := some 63, op := Op.pick (Operand.tmp 53) (Operand.const (Value.bool true)) (Operand.tmp 62), type := 4, pos := _, after := _, guard := none }) (v := ?_) rfl (by kernel_rfl) (by kernel_rfl) (by kernel_rfl) (fun _ _ _ h => h) (Or.inl ⟨by rfl, ?_⟩) (by assumption) ?_
    rotate_left
    · intro wS hSw; (try dsimp only at hSw); go_simp; first | done | with_reducible rfl
    try simp only [Act.put, List.setIfInBounds_toArray, List.set_cons_zero, List.set_cons_succ]
    refine wpAnyH_take (i := 19) (oi := { dst := some 64, op := Op.move (Operand.tmp 63), type := 4, pos := _, after := _, guard := none }) (v := ?_) rfl (by kernel_rfl) (by kernel_rfl) (by kernel_rfl) (fun _ _ _ h => h) (Or.inl ⟨by rfl, ?_⟩) (by assumption) ?_
    rotate_left
    · intro wS hSw; (try dsimp only at hSw); go_simp; first | done | with_reducible rfl
    try simp only [Act.put, List.setIfInBounds_toArray, List.set_cons_zero, List.set_cons_succ]
    refine wpAnyH_take (i := 20) (oi := { dst := some 65, op := Op.load 30 (Operand.tmp 8), type := 30, pos := _, after := _, guard := some (19, false) }) (v := ?_) rfl (by kernel_rfl) (by kernel_rfl) (by kernel_rfl) (fun _ _ _ h => h) (Or.inl ⟨by rfl, ?_⟩) (by assumption) ?_
    rotate_left
    · intro wS hSw; (try dsimp only at hSw); go_simp; first | done | with_reducible rfl
    try simp only [Act.put, List.setIfInBounds_toArray, List.set_cons_zero, List.set_cons_succ]
    refine wpAnyH_take (i := 22) (oi := { dst := some 67, op := Op.move (Operand.tmp 1), type := 3, pos := _, after := _, guard := some (19, false) }) (v := ?_) rfl (by kernel_rfl) (by kernel_rfl) (by kernel_rfl) (fun _ _ _ h => h) (Or.inl ⟨by rfl, ?_⟩) (by assumption) ?_
    rotate_left
    · intro wS hSw; (try dsimp only at hSw); go_simp; first | done | with_reducible rfl
    try simp only [Act.put, List.setIfInBounds_toArray, List.set_cons_zero, List.set_cons_succ]
    refine wpAnyH_take (i := 24) (oi := { dst := some 69, op := Op.load 30 (Operand.tmp 8), type := 30, pos := _, after := _, guard := some (19, false) }) (v := ?_) rfl (by kernel_rfl) (by kernel_rfl) (by kernel_rfl) (fun _ _ _ h => h) (Or.inl ⟨by rfl, ?_⟩) (by assumption) ?_
    rotate_left
    · intro wS hSw; (try dsimp only at hSw); go_simp; first | done | with_reducible rfl
    try simp only [Act.put, List.setIfInBounds_toArray, List.set_cons_zero, List.set_cons_succ]
    refine wpAnyH_take (i := 25) (oi := { dst := some 70, op := Op.move (Operand.tmp 1), type := 3, pos := _, after := _, guard := some (19, false) }) (v := ?_) rfl (by kernel_rfl) (by kernel_rfl) (by kernel_rfl) (fun _ _ _ h => h) (Or.inl ⟨by rfl, ?_⟩) (by assumption) ?_
    rotate_left
    · intro wS hSw; (try dsimp only at hSw); go_simp; first | done | with_reducible rfl
    try simp only [Act.put, List.setIfInBounds_toArray, List.set_cons_zero, List.set_cons_succ]
    have hs14' := hs14
    have hone : Aps (w14.alloc (.cells #[.int .i64 ii, .int .i64 dd, .int .i64 cc, .int .i64 vv, .int .i64 rr] 30)) (.slice (some ⟨w14.heap.size, 0, none⟩) 1 1) [⟨ii, dd, cc, vv, rr⟩] := Aps.one _ _ _ _ _ _
    have hs15 : Below W.heap.size W (w14.alloc (.cells #[.int .i64 ii, .int .i64 dd, .int .i64 cc, .int .i64 vv, .int .i64 rr] 30)) := hs14.alloc hs14.size _
    refine wpAnyH_ready (rs := [21]) (by kernel_rfl) (by simp) ?_
    refine AllReadyH.cons (o := { dst := some 66, op := Op.buildSlice 22 1 #[(0, Operand.tmp 65)], type := 22, pos := _, after := _, guard := some (19, false) }) rfl (fun K hK => ?_) AllReadyH.nil
    go_simp
    refine hK.out _ _ ?_ (fun hHeld => ?_)
    · exact MK.out _ hs15
    clear hK K
    try simp only [Act.put, List.setIfInBounds_toArray, List.set_cons_zero, List.set_cons_succ]
    refine wpAnyH_ready (rs := [23]) (by kernel_rfl) (by simp) ?_
    refine AllReadyH.cons (o := { dst := some 68, op := Op.call { callee := Callee.value (Operand.func 18), args := #[Operand.tmp 66, Operand.tmp 67], argTypes := #[22, 3] }, type := 4, pos := _, after := _, guard := some (19, false) }) rfl (fun K hK => ?_) AllReadyH.nil
    go_simp
    refine (fits13_any [⟨ii, dd, cc, vv, rr⟩] _ now _ hone (by simp) HW1.out HN1.out (by omega) (by omega)).mono ?_
    rintro e w16 ⟨rfl, hb16⟩
    rw [HFZ.out]
    have hs16 := bstep hb16 (sBel (by assumption))
    go_wp2_with fail
    refine hK.out _ _ ?_ (fun hHeld => ?_)
    · exact MK.out _ hs16
    clear hK K
    try simp only [Act.put, List.setIfInBounds_toArray, List.set_cons_zero, List.set_cons_succ]
    refine wpAnyH_ready (rs := [26]) (by kernel_rfl) (by simp) ?_
    refine AllReadyH.cons (o := { dst := some 71, op := Op.call { callee := Callee.value (Operand.func 14), args := #[Operand.tmp 69, Operand.tmp 70], argTypes := #[30, 3] }, type := 3, pos := _, after := _, guard := some (19, false) }) rfl (fun K hK => ?_) AllReadyH.nil
    go_simp
    refine (lax_any ii dd cc vv rr now _ HNA.out (by omega) (by omega)).mono ?_
    rintro e w17 ⟨rfl, hb17⟩
    rw [HLX.out]
    have hs17 := bstep hb17 (sBel (by assumption))
    go_wp2_with fail
    refine hK.out _ _ ?_ (fun hHeld => ?_)
    · exact MK.out _ hs17
    clear hK K
    try simp only [Act.put, List.setIfInBounds_toArray, List.set_cons_zero, List.set_cons_succ]
    refine wpAnyH_take (i := 27) (oi := { dst := some 72, op := Op.binOp BinOp.geq 3 (Operand.tmp 71) (Operand.const (Value.int IntKind.i64 0)) 3, type := 4, pos := _, after := _, guard := some (19, false) }) (v := ?_) rfl (by kernel_rfl) (by kernel_rfl) (by kernel_rfl) (fun _ _ _ h => h) (Or.inl ⟨by rfl, ?_⟩) (by assumption) ?_
    rotate_left
    · intro wS hSw; (try dsimp only at hSw); go_simp; first | done | with_reducible rfl
    try simp only [Act.put, List.setIfInBounds_toArray, List.set_cons_zero, List.set_cons_succ]
    refine wpAnyH_take (i := 28) (oi := { dst := some 73, op := Op.binOp BinOp.neq 4 (Operand.tmp 68) (Operand.tmp 72) 4, type := 4, pos := _, after := _, guard := some (19, false) }) (v := ?_) rfl (by kernel_rfl) (by kernel_rfl) (by kernel_rfl) (fun _ _ _ h => h) (Or.inl ⟨by rfl, ?_⟩) (by assumption) ?_
    rotate_left
    · intro wS hSw; (try dsimp only at hSw); go_simp; first | done | with_reducible rfl
    try simp only [Act.put, List.setIfInBounds_toArray, List.set_cons_zero, List.set_cons_succ]
    refine wpAnyH_take (i := 29) (oi := { dst := some 74, op := Op.pick (Operand.tmp 64) (Operand.const (Value.bool true)) (Operand.tmp 73), type := 4, pos := _, after := _, guard := none }) (v := ?_) rfl (by kernel_rfl) (by kernel_rfl) (by kernel_rfl) (fun _ _ _ h => h) (Or.inl ⟨by rfl, ?_⟩) (by assumption) ?_
    rotate_left
    · intro wS hSw; (try dsimp only at hSw); go_simp; first | done | with_reducible rfl
    try simp only [Act.put, List.setIfInBounds_toArray, List.set_cons_zero, List.set_cons_succ]
    refine wpAnyH_done (by kernel_rfl) ?_ _
    have hB17 : Below w2.heap.size w2 w17 := HBW.out.trans (hs17.mono HBW.out.size)
    have HL9 : Hid (Aps w17 (.slice (some ⟨bk, o, none⟩) xs.length cap) xs) := HA2.out.later hB17
    have HB9 : Hid (Below w.heap.size w w17) := hB2.trans (hB17.mono hB2.size)
    have HY9 : Hid (Bx5 w17 (w2.heap.size + 1) ii dd cc vv (rr + 1)) := (MK.out _ hs17).1.2
    have hjc : (j : Int) ≤ cap := by omega
    have hj1 : (j : Int) + 1 ≤ xs.length := by omega
    have hj0 : (0 : Int) ≤ (j : Int) + 1 := by omega
    have hwj : IntKind.i64.wrap ((j : Int) + 1) = (j : Int) + 1 := wrap_near (by omega) (by omega)
    have HF9 : Hid (∀ w', Below w17.heap.size w17 w' → Rws recA w' (.slice (some ⟨bk, o, none⟩) j cap) j (atA xs)) := fun w' hb => Rws.front (R := recA) (HL9.out.later hb) (by omega)
    obtain ⟨ta, hta⟩ : ∃ ta, (if cap = j + 1 then some (⟨bk, o, none⟩ : Addr) else some ⟨bk, o + (j + 1) * 5, none⟩) = ta := ⟨_, rfl⟩
    have HTA : Hid ((if cap = j + 1 then some (⟨bk, o, none⟩ : Addr) else some ⟨bk, o + (j + 1) * 5, none⟩) = ta) := hta
    have HT9 : Hid (∀ w', Below w17.heap.size w17 w' → Rws recA w' (.slice ta (xs.length - (j + 1)) (cap - (j + 1))) (xs.length - (j + 1)) (fun t => atA xs (j + 1 + t))) := fun w' hb => by
      have hr : Rws recA w' _ _ _ := HL9.out.later hb
      rw [← hta]
      split
      · next hc => exact Rws.zero (by omega) (by omega) (by omega)
      · exact Rws.tail (R := recA) (t := j + 1) hr (by omega)
    clear hta
    clear hs17 hs16 hs15 hs14' hs14 hs13 hs12 hs11 hb11 hb12 hb13 hb14 hb16 hb17 hone hB17 MK
    go_wp2_with fail
    refine wp_region_held_drew (S := (fun w' : World => Below w17.heap.size w17 w')) (by kernel_rfl) ?_ (fun hHeld => ?_)
    · exact (Below.refl _ _).drew
    refine wpAnyH_take (i := 0) (oi := { dst := some 75, op := Op.move (Operand.tmp 0), type := 22, pos := _, after := _, guard := none }) (v := ?_) rfl (by kernel_rfl) (by kernel_rfl) (by kernel_rfl) (fun _ _ _ h => h) (Or.inl ⟨by rfl, ?_⟩) (by assumption) ?_
    rotate_left
    · intro wS hSw; (try dsimp only at hSw); go_simp; first | done | with_reducible rfl
    try simp only [Act.put, List.setIfInBounds_toArray, List.set_cons_zero, List.set_cons_succ]
    refine wpAnyH_take (i := 1) (oi := { dst := some 76, op := Op.move (Operand.tmp 2), type := 3, pos := _, after := _, guard := none }) (v := ?_) rfl (by kernel_rfl) (by kernel_rfl) (by kernel_rfl) (fun _ _ _ h => h) (Or.inl ⟨by rfl, ?_⟩) (by assumption) ?_
    rotate_left
    · intro wS hSw; (try dsimp only at hSw); go_simp; first | done | with_reducible rfl
    try simp only [Act.put, List.setIfInBounds_toArray, List.set_cons_zero, List.set_cons_succ]
    refine wpAnyH_take (i := 2) (oi := { dst := some 77, op := Op.slice 22 (Operand.tmp 75) none (some (Operand.tmp 76)) none, type := 22, pos := _, after := _, guard := none }) (v := ?_) rfl (by kernel_rfl) (by kernel_rfl) (by kernel_rfl) (fun _ _ _ h => h) (Or.inl ⟨by rfl, ?_⟩) (by assumption) ?_
    rotate_left
    · intro wS hSw; (try dsimp only at hSw); go_simp; first | done | with_reducible rfl
    try simp only [Act.put, List.setIfInBounds_toArray, List.set_cons_zero, List.set_cons_succ]
    refine wpAnyH_take (i := 4) (oi := { dst := some 79, op := Op.move (Operand.tmp 0), type := 22, pos := _, after := _, guard := none }) (v := ?_) rfl (by kernel_rfl) (by kernel_rfl) (by kernel_rfl) (fun _ _ _ h => h) (Or.inl ⟨by rfl, ?_⟩) (by assumption) ?_
    rotate_left
    · intro wS hSw; (try dsimp only at hSw); go_simp; first | done | with_reducible rfl
    try simp only [Act.put, List.setIfInBounds_toArray, List.set_cons_zero, List.set_cons_succ]
    refine wpAnyH_take (i := 5) (oi := { dst := some 80, op := Op.move (Operand.tmp 2), type := 3, pos := _, after := _, guard := none }) (v := ?_) rfl (by kernel_rfl) (by kernel_rfl) (by kernel_rfl) (fun _ _ _ h => h) (Or.inl ⟨by rfl, ?_⟩) (by assumption) ?_
    rotate_left
    · intro wS hSw; (try dsimp only at hSw); go_simp; first | done | with_reducible rfl
    try simp only [Act.put, List.setIfInBounds_toArray, List.set_cons_zero, List.set_cons_succ]
    refine wpAnyH_take (i := 6) (oi := { dst := some 81, op := Op.binOp BinOp.add 3 (Operand.tmp 80) (Operand.const (Value.int IntKind.i64 1)) 3, type := 3, pos := _, after := _, guard := none }) (v := ?_) rfl (by kernel_rfl) (by kernel_rfl) (by kernel_rfl) (fun _ _ _ h => h) (Or.inl ⟨by rfl, ?_⟩) (by assumption) ?_
    rotate_left
    · intro wS hSw; (try dsimp only at hSw); go_simp; first | done | with_reducible rfl
    try simp only [Act.put, List.setIfInBounds_toArray, List.set_cons_zero, List.set_cons_succ]
    refine wpAnyH_take (i := 7) (oi := { dst := some 82, op := Op.slice 22 (Operand.tmp 79) (some (Operand.tmp 81)) none none, type := 22, pos := _, after := _, guard := none }) (v := ?_) rfl (by kernel_rfl) (by kernel_rfl) (by kernel_rfl) (fun _ _ _ h => h) (Or.inl ⟨by rfl, ?_⟩) (by assumption) ?_
    rotate_left
    · intro wS hSw; (try dsimp only at hSw); go_simp; first | done | with_reducible rfl
    try simp only [Act.put, List.setIfInBounds_toArray, List.set_cons_zero, List.set_cons_succ]
    rw [HTA.out]
    clear HTA
    have hd9 : Below w17.heap.size w17 w17.drew := (Below.refl _ _).drew
    refine wpAnyH_ready (rs := [3]) (by kernel_rfl) (by simp) ?_
    refine AllReadyH.cons (o := { dst := some 78, op := Op.call { callee := Callee.builtin Builtin.append, args := #[Operand.const (Value.slice none 0 0), Operand.tmp 77], argTypes := #[22, 22] }, type := 22, pos := _, after := _, guard := none }) rfl (fun K hK => ?_) AllReadyH.nil
    refine step_append_rws (R := recA) Try.underlying22 Try.infoApe rfl (by omega) rfl _ _ rfl w17.heap.size (.slice none 0 0) _ 0 j (fun _ => apZ) (atA xs) rfl (OwnR.nil _ _ _ _ _) rfl (HF9.out _ hd9) (by omega) (Nat.le_refl _) ?_
    intro v3 w18 ho18 hb18'
    have hb18 : Below w17.heap.size w17 w18 := hd9.trans hb18'
    refine hK.out _ _ ?_ (fun hHeld => ?_)
    · exact hb18
    clear hK K
    try simp only [Act.put, List.setIfInBounds_toArray, List.set_cons_zero, List.set_cons_succ]
    refine wpAnyH_ready (rs := [8]) (by kernel_rfl) (by simp) ?_
    refine AllReadyH.cons (o := { dst := some 83, op := Op.call { callee := Callee.builtin Builtin.append, args := #[Operand.tmp 78, Operand.tmp 82], argTypes := #[22, 22] }, type := 22, pos := _, after := _, guard := none }) rfl (fun K hK => ?_) AllReadyH.nil
    refine step_append_rws (R := recA) Try.underlying22 Try.infoApe rfl (by omega) rfl _ _ rfl w17.heap.size v3 _ (0 + j) (xs.length - (j + 1)) (catR 0 (fun _ => apZ) (atA xs)) (fun t => atA xs (j + 1 + t)) rfl ho18 rfl (HT9.out _ hb18) (by omega) hb18.size ?_
    intro v4 w19 ho19 hb19'
    have hb19 : Below w17.heap.size w17 w19 := hb18.trans hb19'
    refine hK.out _ _ ?_ (fun hHeld => ?_)
    · exact hb19
    clear hK K
    try simp only [Act.put, List.setIfInBounds_toArray, List.set_cons_zero, List.set_cons_succ]
    refine wpAnyH_take (i := 9) (oi := { dst := some 10, op := Op.assign (Operand.tmp 83), type := 22, pos := _, after := _, guard := none }) (v := ?_) rfl (by kernel_rfl) (by kernel_rfl) (by kernel_rfl) (fun _ _ _ h => h) (Or.inl ⟨by rfl, ?_⟩) (by assumption) ?_
    rotate_left
    · intro wS hSw; (try dsimp only at hSw); go_simp; first | done | with_reducible rfl
    try simp only [Act.put, List.setIfInBounds_toArray, List.set_cons_zero, List.set_cons_succ]
    refine wpAnyH_done (by kernel_rfl) ?_ _
    have HLS : Hid (Aps w19 v4 (lesA xs j)) := les_row hj ho19
    have HL19 : Hid (Aps w19 (.slice (some ⟨bk, o, none⟩) xs.length cap) xs ∧ Bx5 w19 (w2.heap.size + 1) ii dd cc vv (rr + 1) ∧ Below w.heap.size w w19) := ⟨HL9.out.later hb19, HY9.out.later hb19, HB9.out.trans (hb19.mono HB9.out.size)⟩
    clear ho18 ho19 hb18 hb19 hb18' hb19' hd9 HL9 HB9 HY9 HF9 HT9
    go_wp2_with (first
      | (at_builtin; refine append_rws (R := recA) Try.underlying22 Try.infoApe rfl (by omega) rfl _ _ rfl w19.heap.size (.slice none 0 0) _ 0 xs.length (fun _ => apZ) (atA xs) rfl (OwnR.nil _ _ _ _ _) rfl HL19.out.1 (by omega) (Nat.le_refl _) ?_; intro lv w20 ho20 hb20
         have hO := OwnR.same (f := fun _ => apZ) (by exact ho20)
         obtain ⟨g, gc, rfl, gl1, gl2⟩ : ∃ g gc, lv = .slice (some ⟨g, 0, none⟩) xs.length gc ∧ w19.heap.size ≤ g ∧ g < w20.heap.size := by
           rcases OwnR.open hO with ⟨_, e⟩ | ⟨g, gc, e, h1, h2, _⟩
           · omega
           · exact ⟨g, gc, e, h1, h2⟩
         obtain ⟨x0, x1, x2, x3, x4⟩ := HL19.out.2.1.later hb20
         obtain ⟨s0, s1, s2, s3, s4, f4⟩ := OwnR.at5 hO hj
         have f0 := (hO.cell hj (j := 0) (by decide)).2
         have f1 := (hO.cell hj (j := 1) (by decide)).2
         have f2 := (hO.cell hj (j := 2) (by decide)).2
         have f3 := (hO.cell hj (j := 3) (by decide)).2
         change w20.frozen? ⟨g, j * 5, none⟩ = false at f0
         change w20.frozen? ⟨g, j * 5 + 1, none⟩ = false at f1
         change w20.frozen? ⟨g, j * 5 + 2, none⟩ = false at f2
         change w20.frozen? ⟨g, j * 5 + 3, none⟩ = false at f3
         have HO20 : Hid (OwnR recA w20 w19.heap.size 30 (.slice (some ⟨g, 0, none⟩) xs.length gc) xs.length (atA xs) ∧ Below w19.heap.size w19 w20) := ⟨hO, hb20⟩
         clear hO ho20 hb20))
    obtain ⟨w21, hw21⟩ : ∃ w21, (((((w20.setCell ⟨g, j * 5, none⟩ (.int .i64 ii)).setCell ⟨g, j * 5 + 1, none⟩ (.int .i64 dd)).setCell ⟨g, j * 5 + 2, none⟩ (.int .i64 cc)).setCell ⟨g, j * 5 + 3, none⟩ (.int .i64 vv)).setCell ⟨g, j * 5 + 4, none⟩ (.int .i64 (rr + 1))) = w21 := ⟨_, rfl⟩
    have HS21 : Hid (Aps w21 (.slice (some ⟨g, 0, none⟩) xs.length gc) (shtA xs j ⟨ii, dd, cc, vv, rr + 1⟩)) := by
      have h1 := OwnR.rws (OwnR.put HO20.out.1 hj ⟨ii, dd, cc, vv, rr + 1⟩)
      have h2 : Rws recA w21 (.slice (some ⟨g, 0, none⟩) xs.length gc) xs.length (upR (atA xs) j ⟨ii, dd, cc, vv, rr + 1⟩) := by rw [← hw21]; exact h1
      show Rws recA _ _ _ _
      rw [sht_len hj]
      exact h2.congr (fun k _ => (HSA.out _ k).symm)
    have hb21 : Below w19.heap.size w19 w21 := by rw [← hw21]; exact ((((HO20.out.2.setCell (p := ⟨g, j * 5, none⟩) gl1 _).setCell (p := ⟨g, j * 5 + 1, none⟩) gl1 _).setCell (p := ⟨g, j * 5 + 2, none⟩) gl1 _).setCell (p := ⟨g, j * 5 + 3, none⟩) gl1 _).setCell (p := ⟨g, j * 5 + 4, none⟩) gl1 _
    have HL21 : Hid (Aps w21 (.slice (some ⟨bk, o, none⟩) xs.length cap) xs ∧ Aps w21 v4 (lesA xs j) ∧ Below w.heap.size w w21) := ⟨HL19.out.1.later hb21, HLS.out.later hb21, HL19.out.2.2.trans (hb21.mono HL19.out.2.2.size)⟩
    clear x0 x1 x2 x3 x4 s0 s1 s2 s3 s4 f0 f1 f2 f3 f4 HO20 HL19 HLS hb21
    go_wp2_with fail
    rw [hw21]
    clear hw21
    refine (fits13_any xs _ now w21 HL21.out.1 (by omega) HW.out HMX.out.2.2 (by omega) (by omega)).mono ?_
    rintro e w22 ⟨rfl, hb22⟩
    obtain ⟨f, hf⟩ : ∃ f, fitsA xs now = f := ⟨_, rfl⟩
    rw [hf] at HFL HFS ⊢
    clear hf
    have HB22 : Hid (Below w.heap.size w w22) := HL21.out.2.2.trans (hb22.mono HL21.out.2.2.size)
    have HL22 : Hid (Aps w22 v4 (lesA xs j) ∧ Aps w22 (.slice (some ⟨g, 0, none⟩) xs.length gc) (shtA xs j ⟨ii, dd, cc, vv, rr + 1⟩)) := ⟨HL21.out.2.1.later hb22, HS21.out.later hb22⟩
    clear HL21 HS21 hb22
    cases f
    · go_wp2_with fail
      go_ret
      exact ⟨rfl, HB22.out⟩
    have HFL2 : Hid (fitsA (lesA xs j) now = true) := HFL.out (by trivial)
    have HFS2 : Hid (fitsA (shtA xs j ⟨ii, dd, cc, vv, rr + 1⟩) now = true) := HFS.out (by trivial)
    have hll := les_len xs j
    have hsl := sht_len hj ⟨ii, dd, cc, vv, rr + 1⟩
    have HWL : Hid ((∀ a ∈ lesA xs j, wfK a.key) ∧ nearL (lesA xs j)) := by
      have hs : ∀ a ∈ lesA xs j, a ∈ xs := fun a ha => by
        unfold lesA at ha
        rcases List.mem_append.1 ha with ha | ha
        · exact List.mem_of_mem_take ha
        · exact List.mem_of_mem_drop ha
      exact ⟨fun a ha => HW.out a (hs a ha), fun a ha => HMX.out.2.2 a (hs a ha)⟩
    have HSL : Hid ((shtA xs j ⟨ii, dd, cc, vv, rr + 1⟩).length = xs.length) := hsl
    clear hsl HFL HFS
    go_wp2_with fail
    refine (fits13_any (lesA xs j) _ now w22 HL22.out.1 (by omega) HWL.out.1 HWL.out.2 (by omega) (by omega)).mono ?_
    rintro e w23 ⟨rfl, hb23⟩
    rw [HFL2.out]
    have HB23 : Hid (Below w.heap.size w w23) := HB22.out.trans (hb23.mono HB22.out.size)
    have HL23 : Hid (Aps w23 _ _) := HL22.out.2.later hb23
    clear HL22 HB22 hb23
    go_wp2_with fail
    refine (fits13_any (shtA xs j ⟨ii, dd, cc, vv, rr + 1⟩) _ now w23 HL23.out (by rw [HSL.out]; omega) (HWS.out _ HWB.out) (HNS.out _ HNB.out) (by omega) (by omega)).mono ?_
    rintro e w24 ⟨rfl, hb24⟩
    rw [HFS2.out]
    have HB24 : Hid (Below w.heap.size w w24) := HB23.out.trans (hb24.mono HB23.out.size)
    go_wp2_with fail
    go_ret
    exact ⟨rfl, HB24.out⟩
  · have HFZ : Hid (fitsA [⟨ii, dd, cc, vv, rr⟩] now = false) := by show _ = _; rw [HF1.out, decide_eq_false hl0]
    refine wp_region_held_drew (S := (fun w' : World => ((w'.cell? ⟨w2.heap.size, 0, none⟩ = some (.int .i64 ii) ∧ w'.cell? ⟨w2.heap.size, 1, none⟩ = some (.int .i64 dd) ∧ w'.cell? ⟨w2.heap.size, 2, none⟩ = some (.int .i64 cc) ∧ w'.cell? ⟨w2.heap.size, 3, none⟩ = some (.int .i64 vv) ∧ w'.cell? ⟨w2.heap.size, 4, none⟩ = some (.int .i64 rr)) ∧ (w'.cell? ⟨(w2.heap.size + 1), 0, none⟩ = some (.int .i64 ii) ∧ w'.cell? ⟨(w2.heap.size + 1), 1, none⟩ = some (.int .i64 dd) ∧ w'.cell? ⟨(w2.heap.size + 1), 2, none⟩ = some (.int .i64 cc) ∧ w'.cell? ⟨(w2.heap.size + 1), 3, none⟩ = some (.int .i64 vv) ∧ w'.cell? ⟨(w2.heap.size + 1), 4, none⟩ = some (.int .i64 (rr + 1)))) ∧ Below W.heap.size W w')) (by kernel_rfl) ?_ (fun hHeld => ?_)
    · exact MK.out _ (Below.refl _ _).drew
    refine wpAnyH_take (i := 0) (oi := { dst := some 45, op := Op.load 30 (Operand.tmp 9), type := 30, pos := _, after := _, guard := none }) (v := ?_) rfl (by kernel_rfl) (by kernel_rfl) (by kernel_rfl) (fun _ _ _ h => h) (Or.inl ⟨by rfl, ?_⟩) (by assumption) ?_
    rotate_left
    · intro wS hSw; (try dsimp only at hSw); go_simp; first | done | with_reducible rfl
    try simp only [Act.put, List.setIfInBounds_toArray, List.set_cons_zero, List.set_cons_succ]
    refine wpAnyH_take (i := 1) (oi := { dst := some 46, op := Op.move (Operand.tmp 1), type := 3, pos := _, after := _, guard := none }) (v := ?_) rfl (by kernel_rfl) (by kernel_rfl) (by kernel_rfl) (fun _ _ _ h => h) (Or.inl ⟨by rfl, ?_⟩) (by assumption) ?_
    rotate_left
    · intro wS hSw; (try dsimp only at hSw); go_simp; first | done | with_reducible rfl
    try simp only [Act.put, List.setIfInBounds_toArray, List.set_cons_zero, List.set_cons_succ]
    refine wpAnyH_take (i := 2) (oi := { dst := some 47, op := Op.binOp BinOp.add 3 (Operand.tmp 46) (Operand.const (Value.int IntKind.i64 1)) 3, type := 3, pos := _, after := _, guard := none }) (v := ?_) rfl (by kernel_rfl) (by kernel_rfl) (by kernel_rfl) (fun _ _ _ h => h) (Or.inl ⟨by rfl, ?_⟩) (by assumption) ?_
    rotate_left
    · intro wS hSw; (try dsimp only at hSw); go_simp; first | done | with_reducible rfl
    try simp only [Act.put, List.setIfInBounds_toArray, List.set_cons_zero, List.set_cons_succ]
    refine wpAnyH_take (i := 4) (oi := { dst := some 49, op := Op.load 30 (Operand.tmp 8), type := 30, pos := _, after := _, guard := none }) (v := ?_) rfl (by kernel_rfl) (by kernel_rfl) (by kernel_rfl) (fun _ _ _ h => h) (Or.inl ⟨by rfl, ?_⟩) (by assumption) ?_
    rotate_left
    · intro wS hSw; (try dsimp only at hSw); go_simp; first | done | with_reducible rfl
    try simp only [Act.put, List.setIfInBounds_toArray, List.set_cons_zero, List.set_cons_succ]
    refine wpAnyH_take (i := 5) (oi := { dst := some 50, op := Op.move (Operand.tmp 1), type := 3, pos := _, after := _, guard := none }) (v := ?_) rfl (by kernel_rfl) (by kernel_rfl) (by kernel_rfl) (fun _ _ _ h => h) (Or.inl ⟨by rfl, ?_⟩) (by assumption) ?_
    rotate_left
    · intro wS hSw; (try dsimp only at hSw); go_simp; first | done | with_reducible rfl
    try simp only [Act.put, List.setIfInBounds_toArray, List.set_cons_zero, List.set_cons_succ]
    refine wpAnyH_ready (rs := [3]) (by kernel_rfl) (by simp) ?_
    refine AllReadyH.cons (o := { dst := some 48, op := Op.call { callee := Callee.value (Operand.func 14), args := #[Operand.tmp 45, Operand.tmp 47], argTypes := #[30, 3] }, type := 3, pos := _, after := _, guard := none }) rfl (fun K hK => ?_) AllReadyH.nil
    go_simp
    refine (lax_any ii dd cc vv (rr + 1) (now + 1) _ HNB.out (by omega) (by omega)).mono ?_
    rintro e w11 ⟨rfl, hb11⟩
    rw [HLB.out]
    have hs11 := bstep hb11 (sBel (by assumption))
    go_wp2_with fail
    refine hK.out _ _ ?_ (fun hHeld => ?_)
    · exact MK.out _ hs11
    clear hK K
    try simp only [Act.put, List.setIfInBounds_toArray, List.set_cons_zero, List.set_cons_succ]
    refine wpAnyH_ready (rs := [6]) (by kernel_rfl) (by simp) ?_
    refine AllReadyH.cons (o := { dst := some 51, op := Op.call { callee := Callee.value (Operand.func 14), args := #[Operand.tmp 49, Operand.tmp 50], argTypes := #[30, 3] }, type := 3, pos := _, after := _, guard := none }) rfl (fun K hK => ?_) AllReadyH.nil
    go_simp
    refine (lax_any ii dd cc vv rr now _ HNA.out (by omega) (by omega)).mono ?_
    rintro e w12 ⟨rfl, hb12⟩
    rw [HLX.out]
    have hs12 := bstep hb12 (sBel (by assumption))
    go_wp2_with fail
    refine hK.out _ _ ?_ (fun hHeld => ?_)
    · exact MK.out _ hs12
    clear hK K
    try simp only [Act.put, List.setIfInBounds_toArray, List.set_cons_zero, List.set_cons_succ]
    refine wpAnyH_take (i := 7) (oi := { dst := some 52, op := Op.binOp BinOp.neq 3 (Operand.tmp 48) (Operand.tmp 51) 3, type := 4, pos := _, after := _, guard := none }) (v := ?_) rfl (by kernel_rfl) (by kernel_rfl) (by kernel_rfl) (fun _ _ _ h => h) (Or.inl ⟨by rfl, ?_⟩) (by assumption) ?_
    rotate_left
    · intro wS hSw; (try dsimp only at hSw); go_simp; first | done | with_reducible rfl
    try simp only [Act.put, List.setIfInBounds_toArray, List.set_cons_zero, List.set_cons_succ]
    refine wpAnyH_take (i := 8) (oi := { dst := some 53, op := Op.move (Operand.tmp 52), type := 4, pos := _, after := _, guard := none }) (v := ?_) rfl (by kernel_rfl) (by kernel_rfl) (by kernel_rfl) (fun _ _ _ h => h) (Or.inl ⟨by rfl, ?_⟩) (by assumption) ?_
    rotate_left
    · intro wS hSw; (try dsimp only at hSw); go_simp; first | done | with_reducible rfl
    try simp only [Act.put, List.setIfInBounds_toArray, List.set_cons_zero, List.set_cons_succ]
    refine wpAnyH_take (i := 9) (oi := { dst := some 54, op := Op.load 30 (Operand.tmp 8), type := 30, pos := _, after := _, guard := some (8, false) }) (v := ?_) rfl (by kernel_rfl) (by kernel_rfl) (by kernel_rfl) (fun _ _ _ h => h) (Or.inl ⟨by rfl, ?_⟩) (by assumption) ?_
    rotate_left
    · intro wS hSw; (try dsimp only at hSw); go_simp; first | done | with_reducible rfl
    try simp only [Act.put, List.setIfInBounds_toArray, List.set_cons_zero, List.set_cons_succ]
    refine wpAnyH_take (i := 10) (oi := { dst := some 55, op := Op.move (Operand.tmp 1), type := 3, pos := _, after := _, guard := some (8, false) }) (v := ?_) rfl (by kernel_rfl) (by kernel_rfl) (by kernel_rfl) (fun _ _ _ h => h) (Or.inl ⟨by rfl, ?_⟩) (by assumption) ?_
    rotate_left
    · intro wS hSw; (try dsimp only at hSw); go_simp; first | done | with_reducible rfl
    try simp only [Act.put, List.setIfInBounds_toArray, List.set_cons_zero, List.set_cons_succ]
    refine wpAnyH_take (i := 11) (oi := { dst := some 56, op := Op.binOp BinOp.add 3 (Operand.tmp 55) (Operand.const (Value.int IntKind.i64 1)) 3, type := 3, pos := _, after := _, guard := some (8, false) }) (v := ?_) rfl (by kernel_rfl) (by kernel_rfl) (by kernel_rfl) (fun _ _ _ h => h) (Or.inl ⟨by rfl, ?_⟩) (by assumption) ?_
    rotate_left
    · intro wS hSw; (try dsimp only at hSw); go_simp; first | done | with_reducible rfl
    try simp only [Act.put, List.setIfInBounds_toArray, List.set_cons_zero, List.set_cons_succ]
    refine wpAnyH_take (i := 13) (oi := { dst := some 58, op := Op.load 30 (Operand.tmp 8), type := 30, pos := _, after := _, guard := some (8, false) }) (v := ?_) rfl (by kernel_rfl) (by kernel_rfl) (by kernel_rfl) (fun _ _ _ h => h) (Or.inl ⟨by rfl, ?_⟩) (by assumption) ?_
    rotate_left
    · intro wS hSw; (try dsimp only at hSw); go_simp; first | done | with_reducible rfl
    try simp only [Act.put, List.setIfInBounds_toArray, List.set_cons_zero, List.set_cons_succ]
    refine wpAnyH_take (i := 14) (oi := { dst := some 59, op := Op.move (Operand.tmp 1), type := 3, pos := _, after := _, guard := some (8, false) }) (v := ?_) rfl (by kernel_rfl) (by kernel_rfl) (by kernel_rfl) (fun _ _ _ h => h) (Or.inl ⟨by rfl, ?_⟩) (by assumption) ?_
    rotate_left
    · intro wS hSw; (try dsimp only at hSw); go_simp; first | done | with_reducible rfl
    try simp only [Act.put, List.setIfInBounds_toArray, List.set_cons_zero, List.set_cons_succ]
    refine wpAnyH_ready (rs := [12]) (by kernel_rfl) (by simp) ?_
    refine AllReadyH.cons (o := { dst := some 57, op := Op.call { callee := Callee.value (Operand.func 14), args := #[Operand.tmp 54, Operand.tmp 56], argTypes := #[30, 3] }, type := 3, pos := _, after := _, guard := some (8, false) }) rfl (fun K hK => ?_) AllReadyH.nil
    go_simp
    refine (lax_any ii dd cc vv rr (now + 1) _ HNA.out (by omega) (by omega)).mono ?_
    rintro e w13 ⟨rfl, hb13⟩
    rw [HLC.out]
    have hs13 := bstep hb13 (sBel (by assumption))
    go_wp2_with fail
    refine hK.out _ _ ?_ (fun hHeld => ?_)
    · exact MK.out _ hs13
    clear hK K
    try simp only [Act.put, List.setIfInBounds_toArray, List.set_cons_zero, List.set_cons_succ]
    refine wpAnyH_ready (rs := [15]) (by kernel_rfl) (by simp) ?_
    refine AllReadyH.cons (o := { dst := some 60, op := Op.call { callee := Callee.value (Operand.func 14), args := #[Operand.tmp 58, Operand.tmp 59], argTypes := #[30, 3] }, type := 3, pos := _, after := _, guard := some (8, false) }) rfl (fun K hK => ?_) AllReadyH.nil
    go_simp
    refine (lax_any ii dd cc vv rr now _ HNA.out (by omega) (by omega)).mono ?_
    rintro e w14 ⟨rfl, hb14⟩
    rw [HLX.out]
    have hs14 := bstep hb14 (sBel (by assumption))
    go_wp2_with fail
    refine hK.out _ _ ?_ (fun hHeld => ?_)
    · exact MK.out _ hs14
    clear hK K
    try simp only [Act.put, List.setIfInBounds_toArray, List.set_cons_zero, List.set_cons_succ]
    refine wpAnyH_take (i := 16) (oi := { dst := some 61, op := Op.binOp BinOp.sub 3 (Operand.tmp 60) (Operand.const (Value.int IntKind.i64 1)) 3, type := 3, pos := _, after := _, guard := some (8, false) }) (v := ?_) rfl (by kernel_rfl) (by kernel_rfl) (by kernel_rfl) (fun _ _ _ h => h) (Or.inl ⟨by rfl, ?_⟩) (by assumption) ?_
    rotate_left
    · intro wS hSw; (try dsimp only at hSw); go_simp; first | done | with_reducible rfl
    try simp only [Act.put, List.setIfInBounds_toArray, List.set_cons_zero, List.set_cons_succ]
    refine wpAnyH_take (i := 17) (oi := { dst := some 62, op := Op.binOp BinOp.neq 3 (Operand.tmp 57) (Operand.tmp 61) 3, type := 4, pos := _, after := _, guard := some (8, false) }) (v := ?_) rfl (by kernel_rfl) (by kernel_rfl) (by kernel_rfl) (fun _ _ _ h => h) (Or.inl ⟨by rfl, ?_⟩) (by assumption) ?_
    rotate_left
    · intro wS hSw; (try dsimp only at hSw); go_simp; first | done | with_reducible rfl
    try simp only [Act.put, List.setIfInBounds_toArray, List.set_cons_zero, List.set_cons_succ]
    refine wpAnyH_take (i := 18) (oi := { dst := some 63, op := Op.pick (Operand.tmp 53) (Operand.const (Value.bool true)) (Operand.tmp 62), type := 4, pos := _, after := _, guard := none }) (v := ?_) rfl (by kernel_rfl) (by kernel_rfl) (by kernel_rfl) (fun _ _ _ h => h) (Or.inl ⟨by rfl, ?_⟩) (by assumption) ?_
    rotate_left
    · intro wS hSw; (try dsimp only at hSw); go_simp; first | done | with_reducible rfl
    try simp only [Act.put, List.setIfInBounds_toArray, List.set_cons_zero, List.set_cons_succ]
    refine wpAnyH_take (i := 19) (oi := { dst := some 64, op := Op.move (Operand.tmp 63), type := 4, pos := _, after := _, guard := none }) (v := ?_) rfl (by kernel_rfl) (by kernel_rfl) (by kernel_rfl) (fun _ _ _ h => h) (Or.inl ⟨by rfl, ?_⟩) (by assumption) ?_
    rotate_left
    · intro wS hSw; (try dsimp only at hSw); go_simp; first | done | with_reducible rfl
    try simp only [Act.put, List.setIfInBounds_toArray, List.set_cons_zero, List.set_cons_succ]
    refine wpAnyH_take (i := 20) (oi := { dst := some 65, op := Op.load 30 (Operand.tmp 8), type := 30, pos := _, after := _, guard := some (19, false) }) (v := ?_) rfl (by kernel_rfl) (by kernel_rfl) (by kernel_rfl) (fun _ _ _ h => h) (Or.inl ⟨by rfl, ?_⟩) (by assumption) ?_
    rotate_left
    · intro wS hSw; (try dsimp only at hSw); go_simp; first | done | with_reducible rfl
    try simp only [Act.put, List.setIfInBounds_toArray, List.set_cons_zero, List.set_cons_succ]
    refine wpAnyH_take (i := 22) (oi := { dst := some 67, op := Op.move (Operand.tmp 1), type := 3, pos := _, after := _, guard := some (19, false) }) (v := ?_) rfl (by kernel_rfl) (by kernel_rfl) (by kernel_rfl) (fun _ _ _ h => h) (Or.inl ⟨by rfl, ?_⟩) (by assumption) ?_
    rotate_left
    · intro wS hSw; (try dsimp only at hSw); go_simp; first | done | with_reducible rfl
    try simp only [Act.put, List.setIfInBounds_toArray, List.set_cons_zero, List.set_cons_succ]
    refine wpAnyH_take (i := 24) (oi := { dst := some 69, op := Op.load 30 (Operand.tmp 8), type := 30, pos := _, after := _, guard := some (19, false) }) (v := ?_) rfl (by kernel_rfl) (by kernel_rfl) (by kernel_rfl) (fun _ _ _ h => h) (Or.inl ⟨by rfl, ?_⟩) (by assumption) ?_
    rotate_left
    · intro wS hSw; (try dsimp only at hSw); go_simp; first | done | with_reducible rfl
    try simp only [Act.put, List.setIfInBounds_toArray, List.set_cons_zero, List.set_cons_succ]
    refine wpAnyH_take (i := 25) (oi := { dst := some 70, op := Op.move (Operand.tmp 1), type := 3, pos := _, after := _, guard := some (19, false) }) (v := ?_) rfl (by kernel_rfl) (by kernel_rfl) (by kernel_rfl) (fun _ _ _ h => h) (Or.inl ⟨by rfl, ?_⟩) (by assumption) ?_
    rotate_left
    · intro wS hSw; (try dsimp only at hSw); go_simp; first | done | with_reducible rfl
    try simp only [Act.put, List.setIfInBounds_toArray, List.set_cons_zero, List.set_cons_succ]
    have hs14' := hs14
    have hone : Aps (w14.alloc (.cells #[.int .i64 ii, .int .i64 dd, .int .i64 cc, .int .i64 vv, .int .i64 rr] 30)) (.slice (some ⟨w14.heap.size, 0, none⟩) 1 1) [⟨ii, dd, cc, vv, rr⟩] := Aps.one _ _ _ _ _ _
    have hs15 : Below W.heap.size W (w14.alloc (.cells #[.int .i64 ii, .int .i64 dd, .int .i64 cc, .int .i64 vv, .int .i64 rr] 30)) := hs14.alloc hs14.size _
    refine wpAnyH_ready (rs := [21]) (by kernel_rfl) (by simp) ?_
    refine AllReadyH.cons (o := { dst := some 66, op := Op.buildSlice 22 1 #[(0, Operand.tmp 65)], type := 22, pos := _, after := _, guard := some (19, false) }) rfl (fun K hK => ?_) AllReadyH.nil
    go_simp
    refine hK.out _ _ ?_ (fun hHeld => ?_)
    · exact MK.out _ hs15
    clear hK K
    try simp only [Act.put, List.setIfInBounds_toArray, List.set_cons_zero, List.set_cons_succ]
    refine wpAnyH_ready (rs := [23]) (by kernel_rfl) (by simp) ?_
    refine AllReadyH.cons (o := { dst := some 68, op := Op.call { callee := Callee.value (Operand.func 18), args := #[Operand.tmp 66, Operand.tmp 67], argTypes := #[22, 3] }, type := 4, pos := _, after := _, guard := some (19, false) }) rfl (fun K hK => ?_) AllReadyH.nil
    go_simp
    refine (fits13_any [⟨ii, dd, cc, vv, rr⟩] _ now _ hone (by simp) HW1.out HN1.out (by omega) (by omega)).mono ?_
    rintro e w16 ⟨rfl, hb16⟩
    rw [HFZ.out]
    have hs16 := bstep hb16 (sBel (by assumption))
    go_wp2_with fail
    refine hK.out _ _ ?_ (fun hHeld => ?_)
    · exact MK.out _ hs16
    clear hK K
    try simp only [Act.put, List.setIfInBounds_toArray, List.set_cons_zero, List.set_cons_succ]
    refine wpAnyH_ready (rs := [26]) (by kernel_rfl) (by simp) ?_
    refine AllReadyH.cons (o := { dst := some 71, op := Op.call { callee := Callee.value (Operand.func 14), args := #[Operand.tmp 69, Operand.tmp 70], argTypes := #[30, 3] }, type := 3, pos := _, after := _, guard := some (19, false) }) rfl (fun K hK => ?_) AllReadyH.nil
    go_simp
    refine (lax_any ii dd cc vv rr now _ HNA.out (by omega) (by omega)).mono ?_
    rintro e w17 ⟨rfl, hb17⟩
    rw [HLX.out]
    have hs17 := bstep hb17 (sBel (by assumption))
    go_wp2_with fail
    refine hK.out _ _ ?_ (fun hHeld => ?_)
    · exact MK.out _ hs17
    clear hK K
    try simp only [Act.put, List.setIfInBounds_toArray, List.set_cons_zero, List.set_cons_succ]
    refine wpAnyH_take (i := 27) (oi := { dst := some 72, op := Op.binOp BinOp.geq 3 (Operand.tmp 71) (Operand.const (Value.int IntKind.i64 0)) 3, type := 4, pos := _, after := _, guard := some (19, false) }) (v := ?_) rfl (by kernel_rfl) (by kernel_rfl) (by kernel_rfl) (fun _ _ _ h => h) (Or.inl ⟨by rfl, ?_⟩) (by assumption) ?_
    rotate_left
    · intro wS hSw; (try dsimp only at hSw); go_simp; first | done | with_reducible rfl
    try simp only [Act.put, List.setIfInBounds_toArray, List.set_cons_zero, List.set_cons_succ]
    refine wpAnyH_take (i := 28) (oi := { dst := some 73, op := Op.binOp BinOp.neq 4 (Operand.tmp 68) (Operand.tmp 72) 4, type := 4, pos := _, after := _, guard := some (19, false) }) (v := ?_) rfl (by kernel_rfl) (by kernel_rfl) (by kernel_rfl) (fun _ _ _ h => h) (Or.inl ⟨by rfl, ?_⟩) (by assumption) ?_
    rotate_left
    · intro wS hSw; (try dsimp only at hSw); go_simp; first | done | with_reducible rfl
    try simp only [Act.put, List.setIfInBounds_toArray, List.set_cons_zero, List.set_cons_succ]
    refine wpAnyH_take (i := 29) (oi := { dst := some 74, op := Op.pick (Operand.tmp 64) (Operand.const (Value.bool true)) (Operand.tmp 73), type := 4, pos := _, after := _, guard := none }) (v := ?_) rfl (by kernel_rfl) (by kernel_rfl) (by kernel_rfl) (fun _ _ _ h => h) (Or.inl ⟨by rfl, ?_⟩) (by assumption) ?_
    rotate_left
    · intro wS hSw; (try dsimp only at hSw); go_simp; first | done | with_reducible rfl
    try simp only [Act.put, List.setIfInBounds_toArray, List.set_cons_zero, List.set_cons_succ]
    refine wpAnyH_done (by kernel_rfl) ?_ _
    have hB17 : Below w2.heap.size w2 w17 := HBW.out.trans (hs17.mono HBW.out.size)
    have HL9 : Hid (Aps w17 (.slice (some ⟨bk, o, none⟩) xs.length cap) xs) := HA2.out.later hB17
    have HB9 : Hid (Below w.heap.size w w17) := hB2.trans (hB17.mono hB2.size)
    have HY9 : Hid (Bx5 w17 (w2.heap.size + 1) ii dd cc vv (rr + 1)) := (MK.out _ hs17).1.2
    have hjc : (j : Int) ≤ cap := by omega
    have hj1 : (j : Int) + 1 ≤ xs.length := by omega
    have hj0 : (0 : Int) ≤ (j : Int) + 1 := by omega
    have hwj : IntKind.i64.wrap ((j : Int) + 1) = (j : Int) + 1 := wrap_near (by omega) (by omega)
    have HF9 : Hid (∀ w', Below w17.heap.size w17 w' → Rws recA w' (.slice (some ⟨bk, o, none⟩) j cap) j (atA xs)) := fun w' hb => Rws.front (R := recA) (HL9.out.later hb) (by omega)
    obtain ⟨ta, hta⟩ : ∃ ta, (if cap = j + 1 then some (⟨bk, o, none⟩ : Addr) else some ⟨bk, o + (j + 1) * 5, none⟩) = ta := ⟨_, rfl⟩
    have HTA : Hid ((if cap = j + 1 then some (⟨bk, o, none⟩ : Addr) else some ⟨bk, o + (j + 1) * 5, none⟩) = ta) := hta
    have HT9 : Hid (∀ w', Below w17.heap.size w17 w' → Rws recA w' (.slice ta (xs.length - (j + 1)) (cap - (j + 1))) (xs.length - (j + 1)) (fun t => atA xs (j + 1 + t))) := fun w' hb => by
      have hr : Rws recA w' _ _ _ := HL9.out.later hb
      rw [← hta]
      split
      · next hc => exact Rws.zero (by omega) (by omega) (by omega)
      · exact Rws.tail (R := recA) (t := j + 1) hr (by omega)
    clear hta
    clear hs17 hs16 hs15 hs14' hs14 hs13 hs12 hs11 hb11 hb12 hb13 hb14 hb16 hb17 hone hB17 MK
    go_wp2_with fail
    refine wp_region_held_drew (S := (fun w' : World => Below w17.heap.size w17 w')) (by kernel_rfl) ?_ (fun hHeld => ?_)
    · exact (Below.refl _ _).drew
    refine wpAnyH_take (i := 0) (oi := { dst := some 75, op := Op.move (Operand.tmp 0), type := 22, pos := _, after := _, guard := none }) (v := ?_) rfl (by kernel_rfl) (by kernel_rfl) (by kernel_rfl) (fun _ _ _ h => h) (Or.inl ⟨by rfl, ?_⟩) (by assumption) ?_
    rotate_left
    · intro wS hSw; (try dsimp only at hSw); go_simp; first | done | with_reducible rfl
    try simp only [Act.put, List.setIfInBounds_toArray, List.set_cons_zero, List.set_cons_succ]
    refine wpAnyH_take (i := 1) (oi := { dst := some 76, op := Op.move (Operand.tmp 2), type := 3, pos := _, after := _, guard := none }) (v := ?_) rfl (by kernel_rfl) (by kernel_rfl) (by kernel_rfl) (fun _ _ _ h => h) (Or.inl ⟨by rfl, ?_⟩) (by assumption) ?_
    rotate_left
    · intro wS hSw; (try dsimp only at hSw); go_simp; first | done | with_reducible rfl
    try simp only [Act.put, List.setIfInBounds_toArray, List.set_cons_zero, List.set_cons_succ]
    refine wpAnyH_take (i := 2) (oi := { dst := some 77, op := Op.slice 22 (Operand.tmp 75) none (some (Operand.tmp 76)) none, type := 22, pos := _, after := _, guard := none }) (v := ?_) rfl (by kernel_rfl) (by kernel_rfl) (by kernel_rfl) (fun _ _ _ h => h) (Or.inl ⟨by rfl, ?_⟩) (by assumption) ?_
    rotate_left
    · intro wS hSw; (try dsimp only at hSw); go_simp; first | done | with_reducible rfl
    try simp only [Act.put, List.setIfInBounds_toArray, List.set_cons_zero, List.set_cons_succ]
    refine wpAnyH_take (i := 4) (oi := { dst := some 79, op := Op.move (Operand.tmp 0), type := 22, pos := _, after := _, guard := none }) (v := ?_) rfl (by kernel_rfl) (by kernel_rfl) (by kernel_rfl) (fun _ _ _ h => h) (Or.inl ⟨by rfl, ?_⟩) (by assumption) ?_
    rotate_left
    · intro wS hSw; (try dsimp only at hSw); go_simp; first | done | with_reducible rfl
    try simp only [Act.put, List.setIfInBounds_toArray, List.set_cons_zero, List.set_cons_succ]
    refine wpAnyH_take (i := 5) (oi := { dst := some 80, op := Op.move (Operand.tmp 2), type := 3, pos := _, after := _, guard := none }) (v := ?_) rfl (by kernel_rfl) (by kernel_rfl) (by kernel_rfl) (fun _ _ _ h => h) (Or.inl ⟨by rfl, ?_⟩) (by assumption) ?_
    rotate_left
    · intro wS hSw; (try dsimp only at hSw); go_simp; first | done | with_reducible rfl
    try simp only [Act.put, List.setIfInBounds_toArray, List.set_cons_zero, List.set_cons_succ]
    refine wpAnyH_take (i := 6) (oi := { dst := some 81, op := Op.binOp BinOp.add 3 (Operand.tmp 80) (Operand.const (Value.int IntKind.i64 1)) 3, type := 3, pos := _, after := _, guard := none }) (v := ?_) rfl (by kernel_rfl) (by kernel_rfl) (by kernel_rfl) (fun _ _ _ h => h) (Or.inl ⟨by rfl, ?_⟩) (by assumption) ?_
    rotate_left
    · intro wS hSw; (try dsimp only at hSw); go_simp; first | done | with_reducible rfl
    try simp only [Act.put, List.setIfInBounds_toArray, List.set_cons_zero, List.set_cons_succ]
    refine wpAnyH_take (i := 7) (oi := { dst := some 82, op := Op.slice 22 (Operand.tmp 79) (some (Operand.tmp 81)) none none, type := 22, pos := _, after := _, guard := none }) (v := ?_) rfl (by kernel_rfl) (by kernel_rfl) (by kernel_rfl) (fun _ _ _ h => h) (Or.inl ⟨by rfl, ?_⟩) (by assumption) ?_
    rotate_left
    · intro wS hSw; (try dsimp only at hSw); go_simp; first | done | with_reducible rfl
    try simp only [Act.put, List.setIfInBounds_toArray, List.set_cons_zero, List.set_cons_succ]
    rw [HTA.out]
    clear HTA
    have hd9 : Below w17.heap.size w17 w17.drew := (Below.refl _ _).drew
    refine wpAnyH_ready (rs := [3]) (by kernel_rfl) (by simp) ?_
    refine AllReadyH.cons (o := { dst := some 78, op := Op.call { callee := Callee.builtin Builtin.append, args := #[Operand.const (Value.slice none 0 0), Operand.tmp 77], argTypes := #[22, 22] }, type := 22, pos := _, after := _, guard := none }) rfl (fun K hK => ?_) AllReadyH.nil
    refine step_append_rws (R := recA) Try.underlying22 Try.infoApe rfl (by omega) rfl _ _ rfl w17.heap.size (.slice none 0 0) _ 0 j (fun _ => apZ) (atA xs) rfl (OwnR.nil _ _ _ _ _) rfl (HF9.out _ hd9) (by omega) (Nat.le_refl _) ?_
    intro v3 w18 ho18 hb18'
    have hb18 : Below w17.heap.size w17 w18 := hd9.trans hb18'
    refine hK.out _ _ ?_ (fun hHeld => ?_)
    · exact hb18
    clear hK K
    try simp only [Act.put, List.setIfInBounds_toArray, List.set_cons_zero, List.set_cons_succ]
    refine wpAnyH_ready (rs := [8]) (by kernel_rfl) (by simp) ?_
    refine AllReadyH.cons (o := { dst := some 83, op := Op.call { callee := Callee.builtin Builtin.append, args := #[Operand.tmp 78, Operand.tmp 82], argTypes := #[22, 22] }, type := 22, pos := _, after := _, guard := none }) rfl (fun K hK => ?_) AllReadyH.nil
    refine step_append_rws (R := recA) Try.underlying22 Try.infoApe rfl (by omega) rfl _ _ rfl w17.heap.size v3 _ (0 + j) (xs.length - (j + 1)) (catR 0 (fun _ => apZ) (atA xs)) (fun t => atA xs (j + 1 + t)) rfl ho18 rfl (HT9.out _ hb18) (by omega) hb18.size ?_
    intro v4 w19 ho19 hb19'
    have hb19 : Below w17.heap.size w17 w19 := hb18.trans hb19'
    refine hK.out _ _ ?_ (fun hHeld => ?_)
    · exact hb19
    clear hK K
    try simp only [Act.put, List.setIfInBounds_toArray, List.set_cons_zero, List.set_cons_succ]
    refine wpAnyH_take (i := 9) (oi := { dst := some 10, op := Op.assign (Operand.tmp 83), type := 22, pos := _, after := _, guard := none }) (v := ?_) rfl (by kernel_rfl) (by kernel_rfl) (by kernel_rfl) (fun _ _ _ h => h) (Or.inl ⟨by rfl, ?_⟩) (by assumption) ?_
    rotate_left
    · intro wS hSw; (try dsimp only at hSw); go_simp; first | done | with_reducible rfl
    try simp only [Act.put, List.setIfInBounds_toArray, List.set_cons_zero, List.set_cons_succ]
    refine wpAnyH_done (by kernel_rfl) ?_ _
    have HLS : Hid (Aps w19 v4 (lesA xs j)) := les_row hj ho19
    have HL19 : Hid (Aps w19 (.slice (some ⟨bk, o, none⟩) xs.length cap) xs ∧ Bx5 w19 (w2.heap.size + 1) ii dd cc vv (rr + 1) ∧ Below w.heap.size w w19) := ⟨HL9.out.later hb19, HY9.out.later hb19, HB9.out.trans (hb19.mono HB9.out.size)⟩
    clear ho18 ho19 hb18 hb19 hb18' hb19' hd9 HL9 HB9 HY9 HF9 HT9
    go_wp2_with (first
      | (at_builtin; refine append_rws (R := recA) Try.underlying22 Try.infoApe rfl (by omega) rfl _ _ rfl w19.heap.size (.slice none 0 0) _ 0 xs.length (fun _ => apZ) (atA xs) rfl (OwnR.nil _ _ _ _ _) rfl HL19.out.1 (by omega) (Nat.le_refl _) ?_; intro lv w20 ho20 hb20
         have hO := OwnR.same (f := fun _ => apZ) (by exact ho20)
         obtain ⟨g, gc, rfl, gl1, gl2⟩ : ∃ g gc, lv = .slice (some ⟨g, 0, none⟩) xs.length gc ∧ w19.heap.size ≤ g ∧ g < w20.heap.size := by
           rcases OwnR.open hO with ⟨_, e⟩ | ⟨g, gc, e, h1, h2, _⟩
           · omega
           · exact ⟨g, gc, e, h1, h2⟩
         obtain ⟨x0, x1, x2, x3, x4⟩ := HL19.out.2.1.later hb20
         obtain ⟨s0, s1, s2, s3, s4, f4⟩ := OwnR.at5 hO hj
         have f0 := (hO.cell hj (j := 0) (by decide)).2
         have f1 := (hO.cell hj (j := 1) (by decide)).2
         have f2 := (hO.cell hj (j := 2) (by decide)).2
         have f3 := (hO.cell hj (j := 3) (by decide)).2
         change w20.frozen? ⟨g, j * 5, none⟩ = false at f0
         change w20.frozen? ⟨g, j * 5 + 1, none⟩ = false at f1
         change w20.frozen? ⟨g, j * 5 + 2, none⟩ = false at f2
         change w20.frozen? ⟨g, j * 5 + 3, none⟩ = false at f3
         have HO20 : Hid (OwnR recA w20 w19.heap.size 30 (.slice (some ⟨g, 0, none⟩) xs.length gc) xs.length (atA xs) ∧ Below w19.heap.size w19 w20) := ⟨hO, hb20⟩
         clear hO ho20 hb20))
    obtain ⟨w21, hw21⟩ : ∃ w21, (((((w20.setCell ⟨g, j * 5, none⟩ (.int .i64 ii)).setCell ⟨g, j * 5 + 1, none⟩ (.int .i64 dd)).setCell ⟨g, j * 5 + 2, none⟩ (.int .i64 cc)).setCell ⟨g, j * 5 + 3, none⟩ (.int .i64 vv)).setCell ⟨g, j * 5 + 4, none⟩ (.int .i64 (rr + 1))) = w21 := ⟨_, rfl⟩
    have HS21 : Hid (Aps w21 (.slice (some ⟨g, 0, none⟩) xs.length gc) (shtA xs j ⟨ii, dd, cc, vv, rr + 1⟩)) := by
      have h1 := OwnR.rws (OwnR.put HO20.out.1 hj ⟨ii, dd, cc, vv, rr + 1⟩)
      have h2 : Rws recA w21 (.slice (some ⟨g, 0, none⟩) xs.length gc) xs.length (upR (atA xs) j ⟨ii, dd, cc, vv, rr + 1⟩) := by rw [← hw21]; exact h1
      show Rws recA _ _ _ _
      rw [sht_len hj]
      exact h2.congr (fun k _ => (HSA.out _ k).symm)
    have hb21 : Below w19.heap.size w19 w21 := by rw [← hw21]; exact ((((HO20.out.2.setCell (p := ⟨g, j * 5, none⟩) gl1 _).setCell (p := ⟨g, j * 5 + 1, none⟩) gl1 _).setCell (p := ⟨g, j * 5 + 2, none⟩) gl1 _).setCell (p := ⟨g, j * 5 + 3, none⟩) gl1 _).setCell (p := ⟨g, j * 5 + 4, none⟩) gl1 _
    have HL21 : Hid (Aps w21 (.slice (some ⟨bk, o, none⟩) xs.length cap) xs ∧ Aps w21 v4 (lesA xs j) ∧ Below w.heap.size w w21) := ⟨HL19.out.1.later hb21, HLS.out.later hb21, HL19.out.2.2.trans (hb21.mono HL19.out.2.2.size)⟩
    clear x0 x1 x2 x3 x4 s0 s1 s2 s3 s4 f0 f1 f2 f3 f4 HO20 HL19 HLS hb21
    go_wp2_with fail
    rw [hw21]
    clear hw21
    refine (fits13_any xs _ now w21 HL21.out.1 (by omega) HW.out HMX.out.2.2 (by omega) (by omega)).mono ?_
    rintro e w22 ⟨rfl, hb22⟩
    obtain ⟨f, hf⟩ : ∃ f, fitsA xs now = f := ⟨_, rfl⟩
    rw [hf] at HFL HFS ⊢
    clear hf
    have HB22 : Hid (Below w.heap.size w w22) := HL21.out.2.2.trans (hb22.mono HL21.out.2.2.size)
    have HL22 : Hid (Aps w22 v4 (lesA xs j) ∧ Aps w22 (.slice (some ⟨g, 0, none⟩) xs.length gc) (shtA xs j ⟨ii, dd, cc, vv, rr + 1⟩)) := ⟨HL21.out.2.1.later hb22, HS21.out.later hb22⟩
    clear HL21 HS21 hb22
    cases f
    · go_wp2_with fail
      go_ret
      exact ⟨rfl, HB22.out⟩
    have HFL2 : Hid (fitsA (lesA xs j) now = true) := HFL.out (by trivial)
    have HFS2 : Hid (fitsA (shtA xs j ⟨ii, dd, cc, vv, rr + 1⟩) now = true) := HFS.out (by trivial)
    have hll := les_len xs j
    have hsl := sht_len hj ⟨ii, dd, cc, vv, rr + 1⟩
    have HWL : Hid ((∀ a ∈ lesA xs j, wfK a.key) ∧ nearL (lesA xs j)) := by
      have hs : ∀ a ∈ lesA xs j, a ∈ xs := fun a ha => by
        unfold lesA at ha
        rcases List.mem_append.1 ha with ha | ha
        · exact List.mem_of_mem_take ha
        · exact List.mem_of_mem_drop ha
      exact ⟨fun a ha => HW.out a (hs a ha), fun a ha => HMX.out.2.2 a (hs a ha)⟩
    have HSL : Hid ((shtA xs j ⟨ii, dd, cc, vv, rr + 1⟩).length = xs.length) := hsl
    clear hsl HFL HFS
    go_wp2_with fail
    refine (fits13_any (lesA xs j) _ now w22 HL22.out.1 (by omega) HWL.out.1 HWL.out.2 (by omega) (by omega)).mono ?_
    rintro e w23 ⟨rfl, hb23⟩
    rw [HFL2.out]
    have HB23 : Hid (Below w.heap.size w w23) := HB22.out.trans (hb23.mono HB22.out.size)
    have HL23 : Hid (Aps w23 _ _) := HL22.out.2.later hb23
    clear HL22 HB22 hb23
    go_wp2_with fail
    refine (fits13_any (shtA xs j ⟨ii, dd, cc, vv, rr + 1⟩) _ now w23 HL23.out (by rw [HSL.out]; omega) (HWS.out _ HWB.out) (HNS.out _ HNB.out) (by omega) (by omega)).mono ?_
    rintro e w24 ⟨rfl, hb24⟩
    rw [HFS2.out]
    have HB24 : Hid (Below w.heap.size w w24) := HB23.out.trans (hb24.mono HB23.out.size)
    go_wp2_with fail
    go_ret
    exact ⟨rfl, HB24.out⟩
end Go.Proofs.Ytjaaabliefcgaaa
