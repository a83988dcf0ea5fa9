/- Texts that belong together, one behind the other: O31, O32. -/
import Derived.Test.YtjaaabliefcgaaaY4
/- The document's own Pick: walk. -/
namespace Go.Proofs.Ytjaaabliefcgaaa
open Go.RowKit Go.Maps Go.Shelf

theorem les_own {w : World} {base : Nat} {v : Value} {xs : List Ap} {j : Nat} (hj : j < xs.length) (h : OwnR recA w base 30 v (0 + j + (xs.length - (j + 1))) (catR (0 + j) (catR 0 (fun _ => apZ) (atA xs)) (fun t => atA xs (j + 1 + t)))) : OwnA w base v (lesA xs j) := by
  have e : 0 + j + (xs.length - (j + 1)) = (lesA xs j).length := by unfold lesA; rw [List.length_append, List.length_take, List.length_drop]; omega
  rw [e] at h
  refine OwnA.ofR (h.congr fun i hi => ?_)
  have hl : (xs.take j).length = j := by rw [List.length_take]; omega
  have hi2 : i < xs.length - 1 := by unfold lesA at hi; rw [List.length_append, List.length_take, List.length_drop] at hi; omega
  refine (atA_of ?_).symm
  unfold lesA
  rw [Nat.zero_add]
  by_cases c : i < j
  · rw [catR_left c, catR_zero, List.getElem?_append_left (by omega), List.getElem?_take, if_pos c]
    exact atA_get (by omega)
  · rw [catR_right (by omega), List.getElem?_append_right (by omega), hl, List.getElem?_drop]
    exact atA_get (by omega)
theorem PkR.len {L P : List Ap} {now cur : Int} {r0 r : Ap} {rest left : List Ap} {gs : List Int} (h : PkR L now r0 P cur rest left gs r) : left.length ≤ P.length ∧ gs.length ≤ P.length ∧ rest.length ≤ L.length := by
  refine ⟨by rw [h.left]; exact List.length_filter_le _ _, ?_, by rw [h.rest]; exact List.length_filter_le _ _⟩
  have := runA_len now r0 P
  rw [h.run] at this
  exact this
set_option maxHeartbeats 8000000 in
set_option maxRecDepth 100000 in
theorem refpick_any (xs : List Ap) (v : Value) (cur now : Int) (w : World) (h : Aps w v xs) (hx : xs.length ≤ 10) (hnl : nearL xs) (h0 : -1125899906842624 ≤ now) (h1 : now ≤ 1125899906842624) :
    Calls Try.prog 13 #[v, .int .i64 cur, .int .i64 now] w (PickE xs cur now w) := by
  obtain ⟨i0, hi, hz0, hz1, hz2⟩ := info_parts Try.infoInt
  obtain ⟨a0, ha, ha0, ha1, ha2⟩ := info_parts Try.infoApe
  have HA : Hid (Aps w v xs) := h
  have HN : Hid (nearL xs) := hnl
  clear h hnl
  go_enter Try.func13, Try.ntmps13
  go_wp2_with fail
  refine (refmay_any xs v now w HA.out).mono ?_
  rintro e w1 ⟨rfl, hb1⟩
  obtain ⟨p, hp⟩ : ∃ p, mayL xs now = p := ⟨_, rfl⟩
  rw [hp]
  cases p
  · have HP : Hid (pickA xs cur now = (-1, [])) := by show _ = _; unfold pickA; rw [hp]; rfl
    clear hp
    go_wp2_with fail
    go_ret2
    refine ⟨_, by rw [HP.out]; rfl, ?_, hb1⟩
    rw [HP.out]
    exact OwnN.nil _ _
  obtain ⟨n4, _, nd, hm⟩ := mayL_iff.1 hp
  have HZ : Hid ((idsA (ableA xs now)).Nodup ∧ (∀ b ∈ ableA xs now, b ≠ apZ) ∧ nearL (ableA xs now)) := ⟨able_nodup now nd, fun b hb e => by
    have := (mayA_iff.1 (hm b (able_sub hb))).2.1
    rw [e] at this
    simp [apZ] at this, fun b hb => HN.out b (able_sub hb)⟩
  have HPI : Hid (pickA xs cur now = if (ableA xs now).length = 0 then (-1, lateA xs now) else if fitsA (ableA xs now) now = true then ((atA (ordA (ableA xs now)) 0).id, lateA xs now) else ((contA (ableA xs now) cur now).1, lateA xs now ++ (contA (ableA xs now) cur now).2)) := by show _ = _; unfold pickA; rw [hp]; rfl
  have hal := ableA_len xs now
  have hll := lateA_len xs now
  clear hp nd hm
  obtain ⟨ad, cap, rfl, h2, h3, h4, h5⟩ := (HA.out.later hb1).open
  have HB1 : Hid (Below w.heap.size w w1) := hb1
  have s01 := hb1.size
  clear hb1 HA
  go_wp2_with fail
  go_loopw [9, 10, 11] (fun g a i wr => ∃ (j : Nat) (av gv : Value), av = a ∧ gv = g ∧ j ≤ xs.length ∧ i = .int .i64 j ∧ Hid (OwnA wr w1.heap.size av (ableA (xs.take j) now) ∧ OwnN wr w1.heap.size gv (lateA (xs.take j) now)) ∧ Below w1.heap.size w1 wr) (fun _ _ i _ => ((xs.length : Int) - intOf i).toNat)
  case atStart => exact ⟨0, _, _, rfl, rfl, by omega, rfl, ⟨OwnA.nil _ _, OwnN.nil _ _⟩, Below.refl _ _⟩
  case round =>
    obtain ⟨j, av, gv, rfl, rfl, hj, rfl, HH, hbw⟩ := hrel
    by_cases hjl : (j : Int) < xs.length
    · obtain ⟨bk, o, rfl, h6⟩ := h5 (by omega)
      obtain ⟨k0, k1, k2, k3, k4⟩ := h6 j (by omega)
      have HCW : Hid (Bx5o w1 bk (o + j * 5) (atA xs j).id (atA xs j).due (atA xs j).c (atA xs j).v (atA xs j).r) := ⟨k0, k1, k2, k3, k4⟩
      have hnr := HN.out _ (atA_mem (show j < xs.length by omega))
      have HB : Hid (_ = _) := ableA_next (show j < xs.length by omega) now
      have HL : Hid (_ = _) := lateA_next (show j < xs.length by omega) now
      have hl1 := ableA_len (xs.take j) now
      have hl2 := lateA_len (xs.take j) now
      rw [List.length_take] at hl1 hl2
      have sw := hbw.size
      clear h6 h5 k0 k1 k2 k3 k4
      generalize atA xs j = a at *
      obtain ⟨ii, dd, cc, vv, rr⟩ := a
      change Hid (Bx5o w1 bk (o + j * 5) ii dd cc vv rr) at HCW
      obtain ⟨c0, c1, c2, c3, c4⟩ := HCW.out.later hbw
      go_wp2_with fail
      refine (reflax_any ii dd cc vv rr now _ hnr (by omega) (by omega)).mono ?_
      rintro e w3 ⟨rfl, hb3⟩
      have HB3 : Hid (Below w1.heap.size w1 w3) := hbw.trans (hb3.mono sw)
      have HH3 : Hid (OwnA w3 w1.heap.size av (ableA (xs.take j) now) ∧ OwnN w3 w1.heap.size gv (lateA (xs.take j) now)) := ⟨HH.out.1.later hb3, HH.out.2.later hb3⟩
      have s3 := HB3.out.size
      clear c0 c1 c2 c3 c4
      obtain ⟨c0, c1, c2, c3, c4⟩ := HCW.out.later HB3.out
      clear hb3 hbw HH hnr
      have HD : Hid (ableB now ⟨ii, dd, cc, vv, rr⟩ = decide (0 ≤ laxA ⟨ii, dd, cc, vv, rr⟩ now)) := rfl
      obtain ⟨x, hx'⟩ : ∃ x, laxA ⟨ii, dd, cc, vv, rr⟩ now = x := ⟨_, rfl⟩
      rw [hx'] at HD ⊢
      clear hx'
      by_cases hc : x < 0
      · have HDF : Hid (ableB now ⟨ii, dd, cc, vv, rr⟩ = false) := by show _ = _; rw [HD.out]; exact decide_eq_false (by omega)
        have HE1 : Hid (ableA (xs.take (j + 1)) now = ableA (xs.take j) now) := by show _ = _; rw [HB.out, HDF.out]; rfl
        have HE2 : Hid (lateA (xs.take (j + 1)) now = lateA (xs.take j) now ++ [ii]) := by show _ = _; rw [HL.out, HDF.out]; rfl
        have HG3 : Hid (OwnN (w3.alloc (.cells #[.int .i64 ii] 3)) w1.heap.size gv (lateA (xs.take j) now)) := HH3.out.2.later ((Below.refl _ _).alloc (Nat.le_refl _) _)
        have HA3 : Hid (OwnA (w3.alloc (.cells #[.int .i64 ii] 3)) w1.heap.size av (ableA (xs.take j) now)) := HH3.out.1.later ((Below.refl _ _).alloc (Nat.le_refl _) _)
        have HB4 : Hid (Below w1.heap.size w1 (w3.alloc (.cells #[.int .i64 ii] 3))) := HB3.out.alloc s3 _
        clear HB HL HD HDF HH3 HB3
        go_wp2_with (first
          | (at_builtin; refine wpList_append_own_at _ rfl _ _ 25 rfl w1.heap.size 3 i0 _ 1 8 Try.underlying25 hi hz0 hz1 hz2 rfl (by decide) gv _ _ rfl HG3.out ⟨w3.heap.size, 0, none⟩ 1 1 [.int .i64 ii] rfl rfl (cell_one_new _ _ _) (by intro u hu; simp at hu; rw [hu]; rfl) (by unfold maxLen; omega) (by omega) (by simp; omega) ?_; intro v' w4 hown4 hg4 _ hat4))
        have HN4 : Hid (OwnA w4 w1.heap.size av (ableA (xs.take (j + 1)) now) ∧ OwnN w4 w1.heap.size v' (lateA (xs.take (j + 1)) now)) := by
          rw [HE1.out, HE2.out]
          refine ⟨?_, ?_⟩
          · have h1 := HA3.out
            have h2 := HG3.out
            unfold OwnA at h1 ⊢
            unfold OwnN at h2
            exact h1.kept hg4 (rows_ne h1 h2 (by decide))
          · unfold OwnN
            rw [List.length_append, ivs_app]
            exact hown4
        have HB5 : Hid (Below w1.heap.size w1 w4) := HB4.out.grown hg4 HB4.out.size (fun k hk => HG3.out.low k hk)
        clear HG3 HA3 HB4 HE1 HE2 hown4 hg4 hat4
        go_wp2_with fail
        go_roundw
        case rel => exact ⟨j + 1, _, _, rfl, rfl, by omega, by go_num, HN4.out, HB5.out⟩
        case measure => simp [intOf]; omega
      · have HDT : Hid (ableB now ⟨ii, dd, cc, vv, rr⟩ = true) := by show _ = _; rw [HD.out]; exact decide_eq_true (by omega)
        have HE1 : Hid (ableA (xs.take (j + 1)) now = ableA (xs.take j) now ++ [⟨ii, dd, cc, vv, rr⟩]) := by show _ = _; rw [HB.out, HDT.out]; rfl
        have HE2 : Hid (lateA (xs.take (j + 1)) now = lateA (xs.take j) now) := by show _ = _; rw [HL.out, HDT.out]; rfl
        have HBX : Hid (Bx5 (w3.alloc (.cells #[.int .i64 ii, .int .i64 dd, .int .i64 cc, .int .i64 vv, .int .i64 rr] 30)) w3.heap.size ii dd cc vv rr) := Bx5.new _ _ _ _ _ _ _
        have HG3 : Hid (OwnN (w3.alloc (.cells #[.int .i64 ii, .int .i64 dd, .int .i64 cc, .int .i64 vv, .int .i64 rr] 30)) w1.heap.size gv (lateA (xs.take j) now)) := HH3.out.2.later ((Below.refl _ _).alloc (Nat.le_refl _) _)
        have HA3 : Hid (OwnA (w3.alloc (.cells #[.int .i64 ii, .int .i64 dd, .int .i64 cc, .int .i64 vv, .int .i64 rr] 30)) w1.heap.size av (ableA (xs.take j) now)) := HH3.out.1.later ((Below.refl _ _).alloc (Nat.le_refl _) _)
        have HB4 : Hid (Below w1.heap.size w1 (w3.alloc (.cells #[.int .i64 ii, .int .i64 dd, .int .i64 cc, .int .i64 vv, .int .i64 rr] 30))) := HB3.out.alloc s3 _
        clear HB HL HD HDT HH3 HB3
        go_wp2_with (first
          | (at_builtin; refine wpList_append_own_at _ rfl _ _ 22 rfl w1.heap.size 30 a0 _ 5 40 Try.underlying22 ha ha0 ha1 ha2 rfl (by decide) av _ _ rfl HA3.out ⟨w3.heap.size, 0, none⟩ 1 1 (Ap.row ⟨ii, dd, cc, vv, rr⟩) rfl rfl HBX.out.news (recA.one ⟨ii, dd, cc, vv, rr⟩) (by unfold maxLen; omega) (by omega) (by simp; omega) ?_; intro v' w4 hown4 hg4 _ hat4))
        have HN4 : Hid (OwnA w4 w1.heap.size v' (ableA (xs.take (j + 1)) now) ∧ OwnN w4 w1.heap.size gv (lateA (xs.take (j + 1)) now)) := by
          rw [HE1.out, HE2.out]
          refine ⟨?_, ?_⟩
          · unfold OwnA
            rw [List.length_append, flatA_app, flatA_one]
            exact hown4
          · have h1 := HA3.out
            have h2 := HG3.out
            unfold OwnA at h1
            unfold OwnN at h2 ⊢
            exact h2.kept hg4 (rows_ne h2 h1 (by decide))
        have HB5 : Hid (Below w1.heap.size w1 w4) := HB4.out.grown hg4 HB4.out.size (fun k hk => HA3.out.low k hk)
        clear HG3 HA3 HB4 HE1 HE2 hown4 hg4 hat4 HBX
        go_wp2_with fail
        go_roundw
        case rel => exact ⟨j + 1, _, _, rfl, rfl, by omega, by go_num, HN4.out, HB5.out⟩
        case measure => simp [intOf]; omega
    obtain rfl : j = xs.length := by omega
    have HU : Hid (OwnA wr w1.heap.size av (ableA xs now) ∧ OwnN wr w1.heap.size gv (lateA xs now) ∧ Below w1.heap.size w1 wr) := by
      have h := HH.out
      rw [List.take_length] at h
      exact ⟨h.1, h.2, hbw⟩
    clear HH hbw h5 HN
    generalize wr = w2 at *
    generalize ableA xs now = bs at *
    generalize lateA xs now = ls at *
    obtain ⟨au, capu, rfl, l1, l2, l3, _⟩ := HU.out.1.aps.open
    by_cases hz : bs.length = 0
    · have HP : Hid (pickA xs cur now = (-1, ls)) := by show _ = _; rw [HPI.out, if_pos hz]
      have hz' : ((bs.length : Int) == 0) = true := by simpa using hz
      go_wp2_with fail
      go_ret2
      refine ⟨gv, by rw [HP.out]; rfl, ?_, HB1.out.trans (HU.out.2.2.mono s01)⟩
      rw [HP.out]
      exact own_low HU.out.2.1 s01
    have hz' : ((bs.length : Int) == 0) = false := by simpa using hz
    have HPJ : Hid (pickA xs cur now = if fitsA bs now = true then ((atA (ordA bs) 0).id, ls) else ((contA bs cur now).1, ls ++ (contA bs cur now).2)) := by show _ = _; rw [HPI.out, if_neg hz]
    clear HPI
    go_wp2_with fail
    refine (ordered_any bs _ w2 HU.out.1.aps (by omega)).mono ?_
    rintro e w3 ⟨u3, rfl, hu3, hb3⟩
    have HU3 : Hid (OwnA w3 w1.heap.size u3 (ordA bs) ∧ OwnN w3 w1.heap.size gv ls ∧ Below w1.heap.size w1 w3) := ⟨own_low hu3 HU.out.2.2.size, HU.out.2.1.later hb3, HU.out.2.2.trans (hb3.mono HU.out.2.2.size)⟩
    have HOT : Hid (ordA (ordA bs) = ordA bs) := ord_twice HZ.out.1
    have hol : (ordA bs).length = bs.length := ordA_len bs
    clear hb3 hu3 HU l1 l2 l3
    go_wp2_with fail
    refine (reffits_any (ordA bs) _ now w3 HU3.out.1.aps (by omega) (nearL_ord HZ.out.2.2) (by omega) (by omega)).mono ?_
    rintro e w5 ⟨rfl, hb5⟩
    have HU5 : Hid (OwnA w5 w1.heap.size u3 (ordA bs) ∧ OwnN w5 w1.heap.size gv ls ∧ Below w1.heap.size w1 w5) := ⟨HU3.out.1.later hb5, HU3.out.2.1.later hb5, HU3.out.2.2.trans (hb5.mono HU3.out.2.2.size)⟩
    have HFE : Hid (fitsA (ordA bs) now = fitsA bs now) := by show _ = _; unfold fitsA; rw [HOT.out]
    rw [HFE.out]
    clear HU3 hb5 HFE HOT
    obtain ⟨f, hf⟩ : ∃ f, fitsA bs now = f := ⟨_, rfl⟩
    rw [hf] at HPJ ⊢
    clear hf
    cases f
    rotate_left
    · have HP : Hid (pickA xs cur now = ((atA (ordA bs) 0).id, ls)) := HPJ.out
      clear HPJ
      obtain ⟨aq, capq, rfl, q1, q2, _, q4⟩ := HU5.out.1.aps.open
      obtain ⟨bq, oq, rfl, q5⟩ := q4 (by omega)
      have c0 := (q5 0 (by omega)).1
      rw [Nat.zero_mul, Nat.add_zero] at c0
      have hpos : (0 : Int) < (ordA bs).length := by omega
      clear q4 q5
      go_wp2_with fail
      go_ret2
      refine ⟨gv, by rw [HP.out]; rfl, ?_, HB1.out.trans (HU5.out.2.2.mono s01)⟩
      rw [HP.out]
      exact own_low HU5.out.2.1 s01
    have HP : Hid (pickA xs cur now = ((contA bs cur now).1, ls ++ (contA bs cur now).2)) := HPJ.out
    clear HPJ
    obtain ⟨L, hL⟩ : ∃ L, ordA bs = L := ⟨_, rfl⟩
    have HLD : Hid ((idsA L).Nodup ∧ (∀ b ∈ L, b ≠ apZ) ∧ nearL L) := by rw [← hL]; exact ⟨ids_ord HZ.out.1, fun b hb => HZ.out.2.1 b ((ordA_perm bs).mem_iff.1 hb), nearL_ord HZ.out.2.2⟩
    have HST : Hid (PkR L now (lkA bs bs.length cur) [] cur L [] [] (lkA bs bs.length cur)) := by
      have h := PkR.start (now := now) (cur := cur) HZ.out.1 HZ.out.2.1
      rw [hL] at h
      exact h
    have HCT : Hid (∀ r gs, runA now (lkA bs bs.length cur) L = (r, gs) → contA bs cur now = ((if eqA r apZ = true then (atA L 0).id else r.id), gs)) := fun r gs e => by unfold contA; rw [hL, e]
    rw [hL] at HU5 hol
    clear hL HZ
    generalize lkA bs bs.length cur = r0 at *
    have hU5 := HU5.out.1.aps
    have hl10 : L.length ≤ 10 := by omega
    have hlp : 0 < L.length := by omega
    clear hol hz hz'
    go_wp2_with (first
      | (at_builtin; refine append_rws (R := recA) Try.underlying22 Try.infoApe rfl (by omega) rfl _ _ rfl w5.heap.size (.slice none 0 0) u3 0 L.length (fun _ => apZ) (atA L) rfl (OwnR.nil _ _ _ _ _) rfl hU5 (by omega) (Nat.le_refl _) ?_; intro av w6 ho6 hb6))
    have s15 := HU5.out.2.2.size
    have nb : ∀ v : Value, v.ownBlock = none ∨ v.ownBlock ≠ (Value.slice none 0 0).ownBlock := fun v => by
      cases c : v.ownBlock
      · exact .inl rfl
      · exact .inr (by simp [Value.ownBlock])
    have HSP : Hid (Sep w6 w1.heap.size gv (.slice none 0 0) u3 av ls [] L L) := ⟨HU5.out.2.1.later hb6, OwnA.nil _ _, HU5.out.1.later hb6, own_low (OwnA.ofR ho6.same) s15, nb _, nb _⟩
    have HB6 : Hid (Below w1.heap.size w1 w6) := HU5.out.2.2.trans (hb6.mono s15)
    obtain ⟨aa, capa, rfl, e1, e2, e9, _⟩ := HSP.out.a.aps.open
    clear nb hU5 ho6 hb6 HU5
    go_wp2_with fail
    go_loopw [1, 9, 10, 13, 15] (fun cu g r l i wr => ∃ (j : Nat) (c : Int) (gv2 rv lv : Value) (gs : List Int) (rest left : List Ap) (ru : Ap), gv2 = g ∧ rv = r ∧ lv = l ∧ j ≤ L.length ∧ i = .int .i64 j ∧ cu = .int .i64 c ∧ Hid (Sep wr w1.heap.size gv2 lv rv (.slice aa L.length capa) (ls ++ gs) left rest L ∧ PkR L now r0 (L.take j) c rest left gs ru) ∧ Hid (Below w1.heap.size w1 wr)) (fun _ _ _ _ i _ => ((L.length : Int) - intOf i).toNat)
    case atStart => exact ⟨0, cur, _, _, _, [], L, [], _, rfl, rfl, rfl, by omega, rfl, rfl, ⟨by rw [List.append_nil]; exact HSP.out, HST.out⟩, HB6.out⟩
    case round =>
      clear HSP HST HB6
      obtain ⟨j, c, gv2, rv, lv, gs, rest, left, ru, rfl, rfl, rfl, hj, rfl, rfl, HH, HBW⟩ := hrel
      obtain ⟨le1, le2, le3⟩ := HH.out.2.len
      rw [List.length_take] at le1 le2
      by_cases hjl : (j : Int) < L.length
      rotate_left
      · obtain rfl : j = L.length := by omega
        have HE : Hid (PkR L now r0 L c rest left gs ru) := by have h := HH.out.2; rw [List.take_length] at h; exact h
        have HCE : Hid (contA bs cur now = ((if eqA ru apZ = true then (atA L 0).id else ru.id), gs)) := HCT.out _ _ HE.out.run
        have hgo : OwnN wr w.heap.size gv2 (ls ++ gs) := own_low HH.out.1.g s01
        have HBE : Hid (Below w.heap.size w wr) := HB1.out.trans (HBW.out.mono s01)
        have hla := HH.out.1.l.aps
        obtain ⟨al, capl, rfl, f1, f2, f3, f4⟩ := hla.open
        clear HCT
        go_wp2_with fail
        refine (at_any13 left _ c wr hla).mono ?_
        rintro e w9 ⟨hw9, p, rfl, hp⟩
        rw [hw9]
        clear hw9 w9
        rcases hp with ⟨hp1, hp2⟩ | ⟨k, rfl, hk⟩
        · obtain ⟨hz1', hz2'⟩ := HE.out.none hp2
          have HPP : Hid (pickA xs cur now = ((atA L 0).id, ls ++ gs)) := by show _ = _; rw [HP.out, HCE.out, hz1', if_pos (eqA_self _)]
          rw [hz2'] at f4 f1 ⊢
          obtain ⟨bq, oq, rfl, q5⟩ := f4 (by omega)
          have c0 := (q5 0 (by omega)).1
          rw [Nat.zero_mul, Nat.add_zero] at c0
          have hpos : (0 : Int) < L.length := by omega
          have hpn : decide (0 ≤ p) = false := decide_eq_false (by omega)
          have hpn' : ¬ 0 ≤ p := by omega
          clear hp1 hp2 q5 f4 hz1' hz2' HE hla
          go_wp2_with fail
          go_ret2
          refine ⟨gv2, by rw [HPP.out]; rfl, ?_, HBE.out⟩
          rw [HPP.out]
          exact hgo
        · obtain ⟨hr1, hr2⟩ := HE.out.some hk
          have HPP : Hid (pickA xs cur now = (c, ls ++ gs)) := by show _ = _; rw [HP.out, HCE.out, if_neg (by rw [eqA_no.2 hr1]; decide), hr2]
          have hk0 : (0 : Int) ≤ (k : Int) := by omega
          clear hr1 hr2 HE hla f4 hk
          go_wp2_with fail
          go_ret2
          refine ⟨gv2, by rw [HPP.out]; rfl, ?_, HBE.out⟩
          rw [HPP.out]
          exact hgo
      clear HCT HP HB1
      have HRD : Hid (RdA L (L.take j) (atA L j)) := RdA.of HLD.out.1 HLD.out.2.1 (by omega)
      have HTN : Hid (L.take (j + 1) = L.take j ++ [atA L j]) := takeA_next (by omega)
      have hnr := HLD.out.2.2 _ (atA_mem (show j < L.length by omega))
      obtain ⟨aq, capq, e', _, _, _, h4⟩ := HH.out.1.a.aps.open
      simp only [Value.slice.injEq, true_and] at e'
      obtain ⟨rfl, rfl⟩ := e'
      obtain ⟨bk, o, rfl, h6⟩ := h4 (by omega)
      obtain ⟨c0, c1, c2, c3, c4⟩ := h6 j (by omega)
      obtain ⟨ra, capr, rfl, f1, f2, f3, f4⟩ := HH.out.1.r.aps.open
      clear h4 h6 f4
      generalize atA L j = a at *
      obtain ⟨ii, dd, cc, vv, rr⟩ := a
      simp only at c0 c1 c2 c3 c4
      have HPK : Hid (PkR L now r0 (L.take j) c rest left gs ru) := HH.out.2
      have HX0 : Hid (Bx5 (wr.alloc (.cells #[.int .i64 ii, .int .i64 dd, .int .i64 cc, .int .i64 vv, .int .i64 rr] 30)) wr.heap.size ii dd cc vv rr) := Bx5.new _ _ _ _ _ _ _
      have HS0 : Hid (Sep (wr.alloc (.cells #[.int .i64 ii, .int .i64 dd, .int .i64 cc, .int .i64 vv, .int .i64 rr] 30)) w1.heap.size gv2 lv (.slice ra rest.length capr) (.slice (some ⟨bk, o, none⟩) L.length capa) (ls ++ gs) left rest L) := HH.out.1.later ((Below.refl _ _).alloc (Nat.le_refl _) _)
      have HB0 : Hid (Below w1.heap.size w1 (wr.alloc (.cells #[.int .i64 ii, .int .i64 dd, .int .i64 cc, .int .i64 vv, .int .i64 rr] 30))) := HBW.out.alloc HBW.out.size _
      have HQG : Hid (∀ k, gv2.ownBlock = some k → k < wr.heap.size) := fun k e => by
        have h := HH.out.1.g
        unfold OwnN at h
        exact (h.lt k e).2
      clear HH HBW
      go_wp2_with fail
      clear c0 c1 c2 c3 c4
      obtain ⟨q, hq⟩ : ∃ q, wr.heap.size = q := ⟨_, rfl⟩
      obtain ⟨W, hW⟩ : ∃ W, wr.alloc (.cells #[.int .i64 ii, .int .i64 dd, .int .i64 cc, .int .i64 vv, .int .i64 rr] 30) = W := ⟨_, rfl⟩
      rw [hW, hq] at HX0
      rw [hq] at HQG
      rw [hW] at HS0 HB0 ⊢
      rw [hq]
      clear hW hq
      refine (at_any13 rest _ c W HS0.out.r.aps).mono ?_
      rintro e w9 ⟨hw9, p, rfl, hp⟩
      rw [hw9]
      clear hw9 w9
      by_cases ec : ii = c
      · have ec' : (ii == c) = true := by simpa using ec
        have HXX : Hid (Bx5 W q ii dd cc vv rr) := HX0.out
        have HSX : Hid (Sep W w1.heap.size gv2 lv (.slice ra rest.length capr) (.slice (some ⟨bk, o, none⟩) L.length capa) (ls ++ gs) left rest L) := HS0.out
        have HBX0 : Hid (Below w1.heap.size w1 W) := HB0.out
        clear HX0 HS0 HB0 hp
        subst ec
        obtain ⟨x0, x1, x2, x3, x4⟩ := HXX.out
        have HBX : Hid (Bx5 (W.alloc (.cells #[.int .i64 ii, .int .i64 dd, .int .i64 cc, .int .i64 vv, .int .i64 rr] 30)) W.heap.size ii dd cc vv rr) := Bx5.new _ _ _ _ _ _ _
        have HS : Hid (Sep (W.alloc (.cells #[.int .i64 ii, .int .i64 dd, .int .i64 cc, .int .i64 vv, .int .i64 rr] 30)) w1.heap.size gv2 lv (.slice ra rest.length capr) (.slice (some ⟨bk, o, none⟩) L.length capa) (ls ++ gs) left rest L) := HSX.out.later ((Below.refl _ _).alloc (Nat.le_refl _) _)
        have HSO : Hid (OwnA (W.alloc (.cells #[.int .i64 ii, .int .i64 dd, .int .i64 cc, .int .i64 vv, .int .i64 rr] 30)) w1.heap.size lv left) := HS.out.l
        have HB4 : Hid (Below w1.heap.size w1 (W.alloc (.cells #[.int .i64 ii, .int .i64 dd, .int .i64 cc, .int .i64 vv, .int .i64 rr] 30))) := HBX0.out.alloc HBX0.out.size _
        have s4 := HBX0.out.size
        have HPN : Hid (PkR L now r0 (L.take (j + 1)) ii rest (left ++ [(⟨ii, dd, cc, vv, rr⟩ : Ap)]) gs ru) := by show PkR _ _ _ _ _ _ _ _ _; rw [HTN.out]; exact HPK.out.stay HRD.out (.inl rfl)
        clear HSX HBX0 HXX HPK HTN HRD
        go_wp2_with (first
          | (at_builtin; refine wpList_append_own_at _ rfl _ _ 22 rfl w1.heap.size 30 a0 _ 5 40 Try.underlying22 ha ha0 ha1 ha2 rfl (by decide) lv _ _ rfl HSO.out ⟨W.heap.size, 0, none⟩ 1 1 (Ap.row ⟨ii, dd, cc, vv, rr⟩) rfl rfl HBX.out.news (recA.one ⟨ii, dd, cc, vv, rr⟩) (by unfold maxLen; omega) (by omega) (by simp; omega) ?_; intro v' w4 hown4 hg4 _ hat4))
        have HN4 : Hid (Sep w4 w1.heap.size gv2 v' (.slice ra rest.length capr) (.slice (some ⟨bk, o, none⟩) L.length capa) (ls ++ gs) (left ++ [(⟨ii, dd, cc, vv, rr⟩ : Ap)]) rest L) := HS.out.more hg4 (by unfold OwnA; rw [List.length_append, flatA_app, flatA_one]; exact hown4) hat4
        have HB5 : Hid (Below w1.heap.size w1 w4) := HB4.out.grown hg4 HB4.out.size (fun k hk => HSO.out.low k hk)
        clear HS HSO HB4 hown4 hg4 hat4 HBX x0 x1 x2 x3 x4
        go_wp2_with fail
        go_roundw
        case rel => exact ⟨j + 1, _, _, _, _, _, _, _, _, rfl, rfl, rfl, by omega, by go_num, rfl, ⟨HN4.out, HPN.out⟩, HB5.out⟩
        case measure => simp [intOf]; omega
      have ec' : (ii == c) = false := by simpa using ec
      obtain ⟨x0, x1, x2, x3, x4⟩ := HX0.out
      go_wp2_with fail
      refine (reflax_any ii dd cc vv rr now _ hnr (by omega) (by omega)).mono ?_
      rintro e w10 ⟨rfl, hb10⟩
      have HXX : Hid (Bx5 w10 q ii dd cc vv rr) := HX0.out.later hb10
      have HSX : Hid (Sep w10 w1.heap.size gv2 lv (.slice ra rest.length capr) (.slice (some ⟨bk, o, none⟩) L.length capa) (ls ++ gs) left rest L) := HS0.out.later hb10
      have HBX0 : Hid (Below w1.heap.size w1 w10) := HB0.out.trans (hb10.mono HB0.out.size)
      clear HX0 HS0 HB0 hb10 x0 x1 x2 x3 x4
      obtain ⟨lx, hlx⟩ : ∃ lx, laxA ⟨ii, dd, cc, vv, rr⟩ now = lx := ⟨_, rfl⟩
      have HLX : Hid (laxA ⟨ii, dd, cc, vv, rr⟩ now = lx) := hlx
      rw [hlx]
      clear hlx
      by_cases hl : 0 < lx
      · clear hp
        obtain ⟨x0, x1, x2, x3, x4⟩ := HXX.out
        have HBX : Hid (Bx5 (w10.alloc (.cells #[.int .i64 ii, .int .i64 dd, .int .i64 cc, .int .i64 vv, .int .i64 rr] 30)) w10.heap.size ii dd cc vv rr) := Bx5.new _ _ _ _ _ _ _
        have HS : Hid (Sep (w10.alloc (.cells #[.int .i64 ii, .int .i64 dd, .int .i64 cc, .int .i64 vv, .int .i64 rr] 30)) w1.heap.size gv2 lv (.slice ra rest.length capr) (.slice (some ⟨bk, o, none⟩) L.length capa) (ls ++ gs) left rest L) := HSX.out.later ((Below.refl _ _).alloc (Nat.le_refl _) _)
        have HSO : Hid (OwnA (w10.alloc (.cells #[.int .i64 ii, .int .i64 dd, .int .i64 cc, .int .i64 vv, .int .i64 rr] 30)) w1.heap.size lv left) := HS.out.l
        have HB4 : Hid (Below w1.heap.size w1 (w10.alloc (.cells #[.int .i64 ii, .int .i64 dd, .int .i64 cc, .int .i64 vv, .int .i64 rr] 30))) := HBX0.out.alloc HBX0.out.size _
        have s4 := HBX0.out.size
        have HPN : Hid (PkR L now r0 (L.take (j + 1)) c rest (left ++ [(⟨ii, dd, cc, vv, rr⟩ : Ap)]) gs ru) := by show PkR _ _ _ _ _ _ _ _ _; rw [HTN.out]; exact HPK.out.stay HRD.out (.inr (by rw [HLX.out]; omega))
        clear HSX HBX0 HXX HPK HTN HRD
        go_wp2_with (first
          | (at_builtin; refine wpList_append_own_at _ rfl _ _ 22 rfl w1.heap.size 30 a0 _ 5 40 Try.underlying22 ha ha0 ha1 ha2 rfl (by decide) lv _ _ rfl HSO.out ⟨w10.heap.size, 0, none⟩ 1 1 (Ap.row ⟨ii, dd, cc, vv, rr⟩) rfl rfl HBX.out.news (recA.one ⟨ii, dd, cc, vv, rr⟩) (by unfold maxLen; omega) (by omega) (by simp; omega) ?_; intro v' w4 hown4 hg4 _ hat4))
        have HN4 : Hid (Sep w4 w1.heap.size gv2 v' (.slice ra rest.length capr) (.slice (some ⟨bk, o, none⟩) L.length capa) (ls ++ gs) (left ++ [(⟨ii, dd, cc, vv, rr⟩ : Ap)]) rest L) := HS.out.more hg4 (by unfold OwnA; rw [List.length_append, flatA_app, flatA_one]; exact hown4) hat4
        have HB5 : Hid (Below w1.heap.size w1 w4) := HB4.out.grown hg4 HB4.out.size (fun k hk => HSO.out.low k hk)
        clear HS HSO HB4 hown4 hg4 hat4 HBX x0 x1 x2 x3 x4
        go_wp2_with fail
        go_roundw
        case rel => exact ⟨j + 1, _, _, _, _, _, _, _, _, rfl, rfl, rfl, by omega, by go_num, rfl, ⟨HN4.out, HPN.out⟩, HB5.out⟩
        case measure => simp [intOf]; omega
      rcases hp with ⟨hp1, hp2⟩ | ⟨qi, rfl, hqi⟩
      · have hpn' : ¬ 0 ≤ p := by omega
        have HP2 : Hid (∀ t, t < rest.length → (atA rest t).id ≠ c) := hp2
        clear hp1 hp2
        obtain ⟨x0, x1, x2, x3, x4⟩ := HXX.out
        have HBX : Hid (Bx5 (w10.alloc (.cells #[.int .i64 ii, .int .i64 dd, .int .i64 cc, .int .i64 vv, .int .i64 rr] 30)) w10.heap.size ii dd cc vv rr) := Bx5.new _ _ _ _ _ _ _
        have HS : Hid (Sep (w10.alloc (.cells #[.int .i64 ii, .int .i64 dd, .int .i64 cc, .int .i64 vv, .int .i64 rr] 30)) w1.heap.size gv2 lv (.slice ra rest.length capr) (.slice (some ⟨bk, o, none⟩) L.length capa) (ls ++ gs) left rest L) := HSX.out.later ((Below.refl _ _).alloc (Nat.le_refl _) _)
        have HSO : Hid (OwnA (w10.alloc (.cells #[.int .i64 ii, .int .i64 dd, .int .i64 cc, .int .i64 vv, .int .i64 rr] 30)) w1.heap.size lv left) := HS.out.l
        have HB4 : Hid (Below w1.heap.size w1 (w10.alloc (.cells #[.int .i64 ii, .int .i64 dd, .int .i64 cc, .int .i64 vv, .int .i64 rr] 30))) := HBX0.out.alloc HBX0.out.size _
        have s4 := HBX0.out.size
        have HPN : Hid (PkR L now r0 (L.take (j + 1)) ii rest (left ++ [(⟨ii, dd, cc, vv, rr⟩ : Ap)]) gs ⟨ii, dd, cc, vv, rr⟩) := by show PkR _ _ _ _ _ _ _ _ _; rw [HTN.out]; exact HPK.out.first HRD.out (by rw [HLX.out]; omega) HP2.out
        clear HSX HBX0 HXX HPK HTN HRD
        go_wp2_with (first
          | (at_builtin; refine wpList_append_own_at _ rfl _ _ 22 rfl w1.heap.size 30 a0 _ 5 40 Try.underlying22 ha ha0 ha1 ha2 rfl (by decide) lv _ _ rfl HSO.out ⟨w10.heap.size, 0, none⟩ 1 1 (Ap.row ⟨ii, dd, cc, vv, rr⟩) rfl rfl HBX.out.news (recA.one ⟨ii, dd, cc, vv, rr⟩) (by unfold maxLen; omega) (by omega) (by simp; omega) ?_; intro v' w4 hown4 hg4 _ hat4))
        have HN4 : Hid (Sep w4 w1.heap.size gv2 v' (.slice ra rest.length capr) (.slice (some ⟨bk, o, none⟩) L.length capa) (ls ++ gs) (left ++ [(⟨ii, dd, cc, vv, rr⟩ : Ap)]) rest L) := HS.out.more hg4 (by unfold OwnA; rw [List.length_append, flatA_app, flatA_one]; exact hown4) hat4
        have HB5 : Hid (Below w1.heap.size w1 w4) := HB4.out.grown hg4 HB4.out.size (fun k hk => HSO.out.low k hk)
        clear HS HSO HB4 hown4 hg4 hat4 HBX x0 x1 x2 x3 x4
        go_wp2_with fail
        go_roundw
        case rel => exact ⟨j + 1, _, _, _, _, _, _, _, _, rfl, rfl, rfl, by omega, by go_num, rfl, ⟨HN4.out, HPN.out⟩, HB5.out⟩
        case measure => simp [intOf]; omega
      obtain ⟨ra', capr', e', _, _, _, g4⟩ := HSX.out.r.aps.open
      simp only [Value.slice.injEq, true_and] at e'
      obtain ⟨rfl, rfl⟩ := e'
      have hqn := hqi.lt
      obtain ⟨br, orr, rfl, g5⟩ := g4 (by omega)
      have y3 := (g5 qi hqi.lt).2.2.2.1
      have hq0 : (0 : Int) ≤ (qi : Int) := by omega
      have hqL : (qi : Int) < rest.length := by omega
      obtain ⟨sv, hsv⟩ : ∃ sv, (atA rest qi).v = sv := ⟨_, rfl⟩
      have HSV : Hid ((atA rest qi).v = sv) := hsv
      rw [hsv] at y3
      obtain ⟨bb, hbb⟩ : ∃ bb, bt vv sv 4 = bb := ⟨_, rfl⟩
      have HBB : Hid (bt vv sv 4 = bb) := hbb
      have HQI : Hid (AtA rest c qi) := hqi
      clear g4 g5 hsv hqi hbb
      have MK : Hid (∀ w', Below w10.heap.size w10 w' → (w'.cell? ⟨q, 0, none⟩ = some (.int .i64 ii) ∧ w'.cell? ⟨q, 1, none⟩ = some (.int .i64 dd) ∧ w'.cell? ⟨q, 2, none⟩ = some (.int .i64 cc) ∧ w'.cell? ⟨q, 3, none⟩ = some (.int .i64 vv) ∧ w'.cell? ⟨q, 4, none⟩ = some (.int .i64 rr)) ∧ w'.cell? ⟨br, orr + qi * 5 + 3, none⟩ = some (.int .i64 sv)) := fun w' hb => by
        obtain ⟨z0, z1, z2, z3, z4⟩ := HXX.out.later hb
        exact ⟨⟨z0, z1, z2, z3, z4⟩, cell_later hb y3⟩
      go_wp2_with fail
      refine wp_region_held_drew (S := (fun w' : World => (w'.cell? ⟨q, 0, none⟩ = some (.int .i64 ii) ∧ w'.cell? ⟨q, 1, none⟩ = some (.int .i64 dd) ∧ w'.cell? ⟨q, 2, none⟩ = some (.int .i64 cc) ∧ w'.cell? ⟨q, 3, none⟩ = some (.int .i64 vv) ∧ w'.cell? ⟨q, 4, none⟩ = some (.int .i64 rr)) ∧ w'.cell? ⟨br, orr + qi * 5 + 3, none⟩ = some (.int .i64 sv))) (by kernel_rfl) ?_ (fun hHeld => ?_)
      · exact MK.out _ (Below.refl _ _).drew
      refine wpAnyH_take (i := 0) (oi := { dst := some 99, op := Op.fieldAddr 30 (Operand.tmp 16) 3, type := 0, pos := _, after := _, guard := none }) (v := ?_) rfl (by kernel_rfl) (by kernel_rfl) (by kernel_rfl) (fun _ _ _ h => h) (Or.inl ⟨by rfl, ?_⟩) (by assumption) ?_
      rotate_left
      · intro wS hSw; (try dsimp only at hSw); go_simp; first | done | with_reducible rfl
      try simp only [Act.put, List.setIfInBounds_toArray, List.set_cons_zero, List.set_cons_succ]
      refine wpAnyH_take (i := 1) (oi := { dst := some 100, op := Op.load 3 (Operand.tmp 99), type := 3, pos := _, after := _, guard := none }) (v := ?_) rfl (by kernel_rfl) (by kernel_rfl) (by kernel_rfl) (fun _ _ _ h => h) (Or.inl ⟨by rfl, ?_⟩) (by assumption) ?_
      rotate_left
      · intro wS hSw; (try dsimp only at hSw); go_simp; first | done | with_reducible rfl
      try simp only [Act.put, List.setIfInBounds_toArray, List.set_cons_zero, List.set_cons_succ]
      refine wpAnyH_take (i := 2) (oi := { dst := some 101, op := Op.move (Operand.tmp 10), type := 22, pos := _, after := _, guard := none }) (v := ?_) rfl (by kernel_rfl) (by kernel_rfl) (by kernel_rfl) (fun _ _ _ h => h) (Or.inl ⟨by rfl, ?_⟩) (by assumption) ?_
      rotate_left
      · intro wS hSw; (try dsimp only at hSw); go_simp; first | done | with_reducible rfl
      try simp only [Act.put, List.setIfInBounds_toArray, List.set_cons_zero, List.set_cons_succ]
      refine wpAnyH_take (i := 3) (oi := { dst := some 102, op := Op.move (Operand.tmp 17), type := 3, pos := _, after := _, guard := none }) (v := ?_) rfl (by kernel_rfl) (by kernel_rfl) (by kernel_rfl) (fun _ _ _ h => h) (Or.inl ⟨by rfl, ?_⟩) (by assumption) ?_
      rotate_left
      · intro wS hSw; (try dsimp only at hSw); go_simp; first | done | with_reducible rfl
      try simp only [Act.put, List.setIfInBounds_toArray, List.set_cons_zero, List.set_cons_succ]
      refine wpAnyH_take (i := 4) (oi := { dst := some 103, op := Op.indexAddr 22 (Operand.tmp 101) (Operand.tmp 102), type := 0, pos := _, after := _, guard := none }) (v := ?_) rfl (by kernel_rfl) (by kernel_rfl) (by kernel_rfl) (fun _ _ _ h => h) (Or.inl ⟨by rfl, ?_⟩) (by assumption) ?_
      rotate_left
      · intro wS hSw; (try dsimp only at hSw); go_simp; first | done | with_reducible rfl
      try simp only [Act.put, List.setIfInBounds_toArray, List.set_cons_zero, List.set_cons_succ]
      refine wpAnyH_take (i := 5) (oi := { dst := some 104, op := Op.fieldAddr 30 (Operand.tmp 103) 3, type := 0, pos := _, after := _, guard := none }) (v := ?_) rfl (by kernel_rfl) (by kernel_rfl) (by kernel_rfl) (fun _ _ _ h => h) (Or.inl ⟨by rfl, ?_⟩) (by assumption) ?_
      rotate_left
      · intro wS hSw; (try dsimp only at hSw); go_simp; first | done | with_reducible rfl
      try simp only [Act.put, List.setIfInBounds_toArray, List.set_cons_zero, List.set_cons_succ]
      refine wpAnyH_take (i := 6) (oi := { dst := some 105, op := Op.load 3 (Operand.tmp 104), type := 3, pos := _, after := _, guard := none }) (v := ?_) rfl (by kernel_rfl) (by kernel_rfl) (by kernel_rfl) (fun _ _ _ h => h) (Or.inl ⟨by rfl, ?_⟩) (by assumption) ?_
      rotate_left
      · intro wS hSw; (try dsimp only at hSw); go_simp; first | done | with_reducible rfl
      try simp only [Act.put, List.setIfInBounds_toArray, List.set_cons_zero, List.set_cons_succ]
      refine wpAnyH_ready (rs := [7]) (by kernel_rfl) (by simp) ?_
      refine AllReadyH.cons (o := { dst := some 106, op := Op.call { callee := Callee.value (Operand.func 29), args := #[Operand.tmp 100, Operand.tmp 105, Operand.const (Value.int IntKind.i64 4)], argTypes := #[3, 3, 3] }, type := 4, pos := _, after := _, guard := none }) rfl (fun K hK => ?_) AllReadyH.nil
      go_simp
      refine (refBeats_any vv sv 4 _).mono ?_
      rintro e w20 ⟨rfl, hw20⟩
      rw [hw20, HBB.out]
      clear hw20 w20
      go_wp2_with fail
      refine hK.out _ _ ?_ (fun hHeld => ?_)
      · exact MK.out _ (Below.refl _ _).drew
      clear hK K
      try simp only [Act.put, List.setIfInBounds_toArray, List.set_cons_zero, List.set_cons_succ]
      refine wpAnyH_take (i := 8) (oi := { dst := some 18, op := Op.assign (Operand.tmp 106), type := 4, pos := _, after := _, guard := none }) (v := ?_) rfl (by kernel_rfl) (by kernel_rfl) (by kernel_rfl) (fun _ _ _ h => h) (Or.inl ⟨by rfl, ?_⟩) (by assumption) ?_
      rotate_left
      · intro wS hSw; (try dsimp only at hSw); go_simp; first | done | with_reducible rfl
      try simp only [Act.put, List.setIfInBounds_toArray, List.set_cons_zero, List.set_cons_succ]
      refine wpAnyH_done (by kernel_rfl) ?_ _
      have hdw : Below w10.heap.size w10 w10.drew := (Below.refl _ _).drew
      have HXY : Hid (Bx5 w10.drew q ii dd cc vv rr) := HXX.out.later hdw
      have HSY : Hid (Sep w10.drew w1.heap.size gv2 lv (.slice (some ⟨br, orr, none⟩) rest.length capr) (.slice (some ⟨bk, o, none⟩) L.length capa) (ls ++ gs) left rest L) := HSX.out.later hdw
      have HBY : Hid (Below w1.heap.size w1 w10.drew) := HBX0.out.drew
      clear MK y3 HXX HSX HBX0 hdw
      have HXX := HXY
      have HSX := HSY
      have HBX0 := HBY
      clear HXY HSY HBY
      generalize w10.drew = w12 at *
      cases bb
      rotate_left
      · skip
        obtain ⟨x0, x1, x2, x3, x4⟩ := HXX.out
        have HBX : Hid (Bx5 (w12.alloc (.cells #[.int .i64 ii, .int .i64 dd, .int .i64 cc, .int .i64 vv, .int .i64 rr] 30)) w12.heap.size ii dd cc vv rr) := Bx5.new _ _ _ _ _ _ _
        have HS : Hid (Sep (w12.alloc (.cells #[.int .i64 ii, .int .i64 dd, .int .i64 cc, .int .i64 vv, .int .i64 rr] 30)) w1.heap.size gv2 lv (.slice (some ⟨br, orr, none⟩) rest.length capr) (.slice (some ⟨bk, o, none⟩) L.length capa) (ls ++ gs) left rest L) := HSX.out.later ((Below.refl _ _).alloc (Nat.le_refl _) _)
        have HSO : Hid (OwnA (w12.alloc (.cells #[.int .i64 ii, .int .i64 dd, .int .i64 cc, .int .i64 vv, .int .i64 rr] 30)) w1.heap.size lv left) := HS.out.l
        have HB4 : Hid (Below w1.heap.size w1 (w12.alloc (.cells #[.int .i64 ii, .int .i64 dd, .int .i64 cc, .int .i64 vv, .int .i64 rr] 30))) := HBX0.out.alloc HBX0.out.size _
        have s4 := HBX0.out.size
        have HPN : Hid (PkR L now r0 (L.take (j + 1)) ii rest (left ++ [(⟨ii, dd, cc, vv, rr⟩ : Ap)]) gs ⟨ii, dd, cc, vv, rr⟩) := by show PkR _ _ _ _ _ _ _ _ _; rw [HTN.out]; exact HPK.out.yes HRD.out ec (by rw [HLX.out]; omega) HQI.out (by show bt vv (atA rest qi).v 4 = true; rw [HSV.out]; exact HBB.out)
        clear HSX HBX0 HXX HPK HTN HRD
        go_wp2_with (first
          | (at_builtin; refine wpList_append_own_at _ rfl _ _ 22 rfl w1.heap.size 30 a0 _ 5 40 Try.underlying22 ha ha0 ha1 ha2 rfl (by decide) lv _ _ rfl HSO.out ⟨w12.heap.size, 0, none⟩ 1 1 (Ap.row ⟨ii, dd, cc, vv, rr⟩) rfl rfl HBX.out.news (recA.one ⟨ii, dd, cc, vv, rr⟩) (by unfold maxLen; omega) (by omega) (by simp; omega) ?_; intro v' w4 hown4 hg4 _ hat4))
        have HN4 : Hid (Sep w4 w1.heap.size gv2 v' (.slice (some ⟨br, orr, none⟩) rest.length capr) (.slice (some ⟨bk, o, none⟩) L.length capa) (ls ++ gs) (left ++ [(⟨ii, dd, cc, vv, rr⟩ : Ap)]) rest L) := HS.out.more hg4 (by unfold OwnA; rw [List.length_append, flatA_app, flatA_one]; exact hown4) hat4
        have HB5 : Hid (Below w1.heap.size w1 w4) := HB4.out.grown hg4 HB4.out.size (fun k hk => HSO.out.low k hk)
        clear HS HSO HB4 hown4 hg4 hat4 HBX x0 x1 x2 x3 x4
        go_wp2_with fail
        go_roundw
        case rel => exact ⟨j + 1, _, _, _, _, _, _, _, _, rfl, rfl, rfl, by omega, by go_num, rfl, ⟨HN4.out, HPN.out⟩, HB5.out⟩
        case measure => simp [intOf]; omega
      obtain ⟨x0, x1, x2, x3, x4⟩ := HXX.out
      have HG : Hid (OwnN (w12.alloc (.cells #[.int .i64 ii] 3)) w1.heap.size gv2 (ls ++ gs)) := HSX.out.g.later ((Below.refl _ _).alloc (Nat.le_refl _) _)
      have HS4 : Hid (Sep (w12.alloc (.cells #[.int .i64 ii] 3)) w1.heap.size gv2 lv (.slice (some ⟨br, orr, none⟩) rest.length capr) (.slice (some ⟨bk, o, none⟩) L.length capa) (ls ++ gs) left rest L) := HSX.out.later ((Below.refl _ _).alloc (Nat.le_refl _) _)
      have HX4 : Hid (Bx5 (w12.alloc (.cells #[.int .i64 ii] 3)) q ii dd cc vv rr) := HXX.out.later ((Below.refl _ _).alloc (Nat.le_refl _) _)
      have HB4 : Hid (Below w1.heap.size w1 (w12.alloc (.cells #[.int .i64 ii] 3))) := HBX0.out.alloc HBX0.out.size _
      have s4 := HBX0.out.size
      have hgl : (ls ++ gs).length ≤ 100 := by rw [List.length_append]; omega
      clear HXX HSX HBX0
      go_wp2_with (first
        | (at_builtin; refine wpList_append_own_at _ rfl _ _ 25 rfl w1.heap.size 3 i0 _ 1 8 Try.underlying25 hi hz0 hz1 hz2 rfl (by decide) gv2 _ _ rfl HG.out ⟨w12.heap.size, 0, none⟩ 1 1 [.int .i64 ii] rfl rfl (cell_one_new _ _ _) (by intro u hu; simp at hu; rw [hu]; rfl) (by unfold maxLen; omega) (by omega) (by simp; omega) ?_; intro v' w13 hown4 hg4 _ hat4; have z0 := cell_grown hg4 (fun e => absurd (HQG.out _ e.symm) (Nat.lt_irrefl _)) HX4.out.1))
      have HS13 : Hid (Sep w13 w1.heap.size v' lv (.slice (some ⟨br, orr, none⟩) rest.length capr) (.slice (some ⟨bk, o, none⟩) L.length capa) (ls ++ (gs ++ [ii])) left rest L) := by
        have hn : OwnN w13 w1.heap.size v' (ls ++ (gs ++ [ii])) := by
          rw [← List.append_assoc]
          unfold OwnN
          rw [List.length_append, ivs_app]
          exact hown4
        exact HS4.out.gone hg4 hn
      have HB13 : Hid (Below w1.heap.size w1 w13) := HB4.out.grown hg4 HB4.out.size (fun k hk => HG.out.low k hk)
      clear HG HS4 HX4 HB4 hown4 hg4 hat4 x0 x1 x2 x3 x4 z0
      refine (at_any13 rest _ ii w13 HS13.out.r.aps).mono ?_
      rintro e w14 ⟨hw14, p, rfl, hp⟩
      rw [hw14]
      clear hw14 w14
      rcases hp with ⟨_, hp2⟩ | ⟨k, rfl, hk⟩
      · exact (HPK.out.has HRD.out hp2).elim
      have hkn := hk.lt
      have HKA : Hid (AtA rest ii k) := hk
      have HLE : Hid (lesA rest k = kpA (gs ++ [ii]) L) := by
        have hr := HPK.out.rest
        show _ = _
        unfold lesA
        rw [hr] at hk ⊢
        exact kp_less HLD.out.1 hk
      have HPN : Hid (PkR L now r0 (L.take (j + 1)) c (kpA (gs ++ [ii]) L) left (gs ++ [ii]) ru) := by
        show PkR _ _ _ _ _ _ _ _ _
        rw [HTN.out]
        exact HPK.out.no HRD.out ec (by rw [HLX.out]; omega) HQI.out (by show bt vv (atA rest qi).v 4 = false; rw [HSV.out]; exact HBB.out)
      have HL9 : Hid (Aps w13 (.slice (some ⟨br, orr, none⟩) rest.length capr) rest) := HS13.out.r.aps
      have hkc : (k : Int) ≤ capr := by omega
      have hk1 : (k : Int) + 1 ≤ rest.length := by omega
      have hk0 : (0 : Int) ≤ (k : Int) + 1 := by omega
      have hwk : IntKind.i64.wrap ((k : Int) + 1) = (k : Int) + 1 := wrap_near (by omega) (by omega)
      have HF9 : Hid (∀ w', Below w13.heap.size w13 w' → Rws recA w' (.slice (some ⟨br, orr, none⟩) k capr) k (atA rest)) := fun w' hb => Rws.front (R := recA) (HL9.out.later hb) (by omega)
      obtain ⟨ta, hta⟩ : ∃ ta, (if capr = k + 1 then some (⟨br, orr, none⟩ : Addr) else some ⟨br, orr + (k + 1) * 5, none⟩) = ta := ⟨_, rfl⟩
      have HTA : Hid ((if capr = k + 1 then some (⟨br, orr, none⟩ : Addr) else some ⟨br, orr + (k + 1) * 5, none⟩) = ta) := hta
      have HT9 : Hid (∀ w', Below w13.heap.size w13 w' → Rws recA w' (.slice ta (rest.length - (k + 1)) (capr - (k + 1))) (rest.length - (k + 1)) (fun t => atA rest (k + 1 + t))) := fun w' hb => by
        have hr : Rws recA w' _ _ _ := HL9.out.later hb
        rw [← hta]
        split
        · next hc => exact Rws.zero (by omega) (by omega) (by omega)
        · exact Rws.tail (R := recA) (t := k + 1) hr (by omega)
      clear hta hk HPK HRD HTN HQI HSV HBB HLX
      go_wp2_with fail
      refine wp_region_held_drew (S := (fun w' : World => Below w13.heap.size w13 w')) (by kernel_rfl) ?_ (fun hHeld => ?_)
      · exact (Below.refl _ _).drew
      refine wpAnyH_take (i := 0) (oi := { dst := some 118, op := Op.move (Operand.tmp 10), type := 22, pos := _, after := _, guard := none }) (v := ?_) rfl (by kernel_rfl) (by kernel_rfl) (by kernel_rfl) (fun _ _ _ h => h) (Or.inl ⟨by rfl, ?_⟩) (by assumption) ?_
      rotate_left
      · intro wS hSw; (try dsimp only at hSw); go_simp; first | done | with_reducible rfl
      try simp only [Act.put, List.setIfInBounds_toArray, List.set_cons_zero, List.set_cons_succ]
      refine wpAnyH_take (i := 1) (oi := { dst := some 119, op := Op.move (Operand.tmp 19), type := 3, pos := _, after := _, guard := none }) (v := ?_) rfl (by kernel_rfl) (by kernel_rfl) (by kernel_rfl) (fun _ _ _ h => h) (Or.inl ⟨by rfl, ?_⟩) (by assumption) ?_
      rotate_left
      · intro wS hSw; (try dsimp only at hSw); go_simp; first | done | with_reducible rfl
      try simp only [Act.put, List.setIfInBounds_toArray, List.set_cons_zero, List.set_cons_succ]
      refine wpAnyH_take (i := 2) (oi := { dst := some 120, op := Op.slice 22 (Operand.tmp 118) none (some (Operand.tmp 119)) none, type := 22, pos := _, after := _, guard := none }) (v := ?_) rfl (by kernel_rfl) (by kernel_rfl) (by kernel_rfl) (fun _ _ _ h => h) (Or.inl ⟨by rfl, ?_⟩) (by assumption) ?_
      rotate_left
      · intro wS hSw; (try dsimp only at hSw); go_simp; first | done | with_reducible rfl
      try simp only [Act.put, List.setIfInBounds_toArray, List.set_cons_zero, List.set_cons_succ]
      refine wpAnyH_take (i := 4) (oi := { dst := some 122, op := Op.move (Operand.tmp 10), type := 22, pos := _, after := _, guard := none }) (v := ?_) rfl (by kernel_rfl) (by kernel_rfl) (by kernel_rfl) (fun _ _ _ h => h) (Or.inl ⟨by rfl, ?_⟩) (by assumption) ?_
      rotate_left
      · intro wS hSw; (try dsimp only at hSw); go_simp; first | done | with_reducible rfl
      try simp only [Act.put, List.setIfInBounds_toArray, List.set_cons_zero, List.set_cons_succ]
      refine wpAnyH_take (i := 5) (oi := { dst := some 123, op := Op.move (Operand.tmp 19), type := 3, pos := _, after := _, guard := none }) (v := ?_) rfl (by kernel_rfl) (by kernel_rfl) (by kernel_rfl) (fun _ _ _ h => h) (Or.inl ⟨by rfl, ?_⟩) (by assumption) ?_
      rotate_left
      · intro wS hSw; (try dsimp only at hSw); go_simp; first | done | with_reducible rfl
      try simp only [Act.put, List.setIfInBounds_toArray, List.set_cons_zero, List.set_cons_succ]
      refine wpAnyH_take (i := 6) (oi := { dst := some 124, op := Op.binOp BinOp.add 3 (Operand.tmp 123) (Operand.const (Value.int IntKind.i64 1)) 3, type := 3, pos := _, after := _, guard := none }) (v := ?_) rfl (by kernel_rfl) (by kernel_rfl) (by kernel_rfl) (fun _ _ _ h => h) (Or.inl ⟨by rfl, ?_⟩) (by assumption) ?_
      rotate_left
      · intro wS hSw; (try dsimp only at hSw); go_simp; first | done | with_reducible rfl
      try simp only [Act.put, List.setIfInBounds_toArray, List.set_cons_zero, List.set_cons_succ]
      refine wpAnyH_take (i := 7) (oi := { dst := some 125, op := Op.slice 22 (Operand.tmp 122) (some (Operand.tmp 124)) none none, type := 22, pos := _, after := _, guard := none }) (v := ?_) rfl (by kernel_rfl) (by kernel_rfl) (by kernel_rfl) (fun _ _ _ h => h) (Or.inl ⟨by rfl, ?_⟩) (by assumption) ?_
      rotate_left
      · intro wS hSw; (try dsimp only at hSw); go_simp; first | done | with_reducible rfl
      try simp only [Act.put, List.setIfInBounds_toArray, List.set_cons_zero, List.set_cons_succ]
      rw [HTA.out]
      clear HTA
      have hd9 : Below w13.heap.size w13 w13.drew := (Below.refl _ _).drew
      refine wpAnyH_ready (rs := [3]) (by kernel_rfl) (by simp) ?_
      refine AllReadyH.cons (o := { dst := some 121, op := Op.call { callee := Callee.builtin Builtin.append, args := #[Operand.const (Value.slice none 0 0), Operand.tmp 120], argTypes := #[22, 22] }, type := 22, pos := _, after := _, guard := none }) rfl (fun K hK => ?_) AllReadyH.nil
      refine step_append_rws (R := recA) Try.underlying22 Try.infoApe rfl (by omega) rfl _ _ rfl w13.heap.size (.slice none 0 0) _ 0 k (fun _ => apZ) (atA rest) rfl (OwnR.nil _ _ _ _ _) rfl (HF9.out _ hd9) (by omega) (Nat.le_refl _) ?_
      intro v3 w18 ho18 hb18'
      have hb18 : Below w13.heap.size w13 w18 := hd9.trans hb18'
      refine hK.out _ _ ?_ (fun hHeld => ?_)
      · exact hb18
      clear hK K
      try simp only [Act.put, List.setIfInBounds_toArray, List.set_cons_zero, List.set_cons_succ]
      refine wpAnyH_ready (rs := [8]) (by kernel_rfl) (by simp) ?_
      refine AllReadyH.cons (o := { dst := some 126, op := Op.call { callee := Callee.builtin Builtin.append, args := #[Operand.tmp 121, Operand.tmp 125], argTypes := #[22, 22] }, type := 22, pos := _, after := _, guard := none }) rfl (fun K hK => ?_) AllReadyH.nil
      refine step_append_rws (R := recA) Try.underlying22 Try.infoApe rfl (by omega) rfl _ _ rfl w13.heap.size v3 _ (0 + k) (rest.length - (k + 1)) (catR 0 (fun _ => apZ) (atA rest)) (fun t => atA rest (k + 1 + t)) rfl ho18 rfl (HT9.out _ hb18) (by omega) hb18.size ?_
      intro v5 w19 ho19 hb19'
      have hb19 : Below w13.heap.size w13 w19 := hb18.trans hb19'
      refine hK.out _ _ ?_ (fun hHeld => ?_)
      · exact hb19
      clear hK K
      try simp only [Act.put, List.setIfInBounds_toArray, List.set_cons_zero, List.set_cons_succ]
      refine wpAnyH_take (i := 9) (oi := { dst := some 10, op := Op.assign (Operand.tmp 126), type := 22, pos := _, after := _, guard := none }) (v := ?_) rfl (by kernel_rfl) (by kernel_rfl) (by kernel_rfl) (fun _ _ _ h => h) (Or.inl ⟨by rfl, ?_⟩) (by assumption) ?_
      rotate_left
      · intro wS hSw; (try dsimp only at hSw); go_simp; first | done | with_reducible rfl
      try simp only [Act.put, List.setIfInBounds_toArray, List.set_cons_zero, List.set_cons_succ]
      refine wpAnyH_done (by kernel_rfl) ?_ _
      have HSN : Hid (Sep w19 w1.heap.size v' lv v5 (.slice (some ⟨bk, o, none⟩) L.length capa) (ls ++ (gs ++ [ii])) left (kpA (gs ++ [ii]) L) L) := by
        have h := HS13.out.anew HB13.out.size hb19 (les_own hkn ho19)
        rw [HLE.out] at h
        exact h
      have HB19 : Hid (Below w1.heap.size w1 w19) := HB13.out.trans (hb19.mono HB13.out.size)
      clear HS13 HB13 HL9 HF9 HT9 ho18 ho19 hb18 hb19 hb18' hb19' hd9
      go_wp2_with fail
      go_roundw
      case rel => first | exact ⟨j + 1, _, _, _, _, _, _, _, _, rfl, rfl, rfl, by omega, by go_num, rfl, ⟨HSN.out, HPN.out⟩, HB19.out⟩ | ((repeat apply Exists.intro); exact ⟨⟨j + 1, _, _, _, _, _, _, _, _, rfl, rfl, rfl, by omega, by go_num, rfl, ⟨HSN.out, HPN.out⟩, HB19.out⟩, rfl⟩) | (trace_state; done)
      case measure => simp [intOf]; omega
end Go.Proofs.Ytjaaabliefcgaaa
/- What the statement DoverTells comes to. -/
namespace Go.Proofs.Ytjaaabliefcgaaa
open Go.RowKit Go.Maps Go.Shelf

theorem pick_len (xs : List Ap) (cur now : Int) : (pickA xs cur now).2.length ≤ 2 * xs.length := by
  have h1 := lateA_len xs now
  have h2 := ableA_len xs now
  have h3 := runA_len now (lkA (ableA xs now) (ableA xs now).length cur) (ordA (ableA xs now))
  rw [ordA_len] at h3
  unfold pickA
  split
  · split
    · simp only; omega
    · split
      · simp only; omega
      · simp only [List.length_append]
        have : (contA (ableA xs now) cur now).2.length ≤ (ableA xs now).length := h3
        omega
  · simp
theorem own_len {w : World} {base n : Nat} {v : Value} {xs : List Int} (h : w.ownsRow base 3 1 v n (ivs xs)) : w.ownsRow base 3 1 v xs.length (ivs xs) := by
  have e : n = xs.length := by have := h.1; rw [ivs_len] at this; omega
  subst e
  exact h
set_option maxHeartbeats 4000000 in
set_option maxRecDepth 100000 in
theorem law_dtells (xs : List Ap) (v : Value) (cur now : Int) (w : World) (h : Aps w v xs) (hw : ∀ a ∈ xs, wfK a.key) (hc : okI cur) :
    Calls Try.prog 3 #[v, .int .i64 cur, .int .i64 now] w fun e w' => e = .returned (.bool true) ∧ Below w.heap.size w w' := by
  have HA : Hid (Aps w v xs) := h
  have HW : Hid ((∀ a ∈ xs, wfK a.key) ∧ okI cur) := ⟨hw, hc⟩
  clear h hw hc
  go_enter Try.func3, Try.ntmps3
  go_wp2_with fail
  refine (awake13_any _).mono ?_
  rintro e w1 ⟨rfl, hb1⟩
  have HA1 : Hid (Aps w1 v xs) := HA.out.later hb1
  go_wp2_with fail
  refine (near_any xs v now w1 HA1.out).mono ?_
  rintro e w2 ⟨hb2, b, rfl, hnear⟩
  have HB2 : Hid (Below w.heap.size w w2) := hb1.trans (hb2.mono hb1.size)
  have HA2 : Hid (Aps w2 v xs) := HA1.out.later hb2
  clear hb1 hb2 HA1 HA
  cases b
  · go_wp2_with fail
    go_ret
    exact ⟨rfl, HB2.out⟩
  obtain ⟨n10, hnl, n0, n1⟩ := hnear rfl
  have HN : Hid (nearL xs) := hnl
  clear hnear hnl
  go_wp2_with fail
  refine (pick13_any xs v cur now w2 HA2.out HW.out.1 HW.out.2).mono ?_
  rintro e w3 ⟨g, rfl, hg, hb3⟩
  have HA3 : Hid (Aps w3 v xs) := HA2.out.later hb3
  have HB3 : Hid (Below w.heap.size w w3) := HB2.out.trans (hb3.mono HB2.out.size)
  have HG : Hid (Nums w3 g (pickA xs cur now).2) := hg.nums.1
  clear hb3 hg HA2 HB2
  go_wp2_with fail
  refine (refpick_any xs v cur now w3 HA3.out (by omega) HN.out (by omega) (by omega)).mono ?_
  rintro e w4 ⟨k, rfl, hk, hb4⟩
  have HGK : Hid (Nums w4 g (pickA xs cur now).2 ∧ Nums w4 k (pickA xs cur now).2) := ⟨HG.out.later hb4, hk.nums.1⟩
  have HB4 : Hid (Below w.heap.size w w4) := HB3.out.trans (hb4.mono HB3.out.size)
  have HA4 : Hid (Aps w4 v xs) := HA3.out.later hb4
  have HPL : Hid ((pickA xs cur now).2.length ≤ 100000) := by
    show _ ≤ _
    have h1 := pick_len xs cur now
    omega
  clear hb4 hk HG HB3 HA3
  generalize pickA xs cur now = pk at *
  obtain ⟨p1, p2⟩ := pk
  change Hid (Nums w4 g p2 ∧ Nums w4 k p2) at HGK
  change Hid (p2.length ≤ 100000) at HPL
  obtain ⟨ad, cap, rfl, h1, h2, h0, h5⟩ := HA4.out.open
  go_wp2_with fail
  go_loopw [13] (fun i wr => ∃ (j : Nat), j ≤ xs.length ∧ i = .int .i64 j ∧ Below w4.heap.size w4 wr) (fun i _ => ((xs.length : Int) - intOf i).toNat)
  case atStart => exact ⟨0, by omega, rfl, Below.refl _ _⟩
  case round =>
    obtain ⟨j, hj, rfl, hbw⟩ := hrel
    by_cases hjl : (j : Int) < xs.length
    · obtain ⟨bk, o, rfl, h6⟩ := h5 (by omega)
      obtain ⟨k0, k1, k2, k3, k4⟩ := h6 j (by omega)
      have HC : Hid (Bx5o wr bk (o + j * 5) (atA xs j).id (atA xs j).due (atA xs j).c (atA xs j).v (atA xs j).r) := Bx5o.later ⟨k0, k1, k2, k3, k4⟩ hbw
      have HNR : Hid (nearA (atA xs j)) := HN.out _ (atA_mem (by omega))
      clear h5 h6 k0 k1 k2 k3 k4
      generalize atA xs j = a at *
      obtain ⟨ii, dd, cc, vv, rr⟩ := a
      have MK : Hid (∀ w', Below wr.heap.size wr w' → Bx5o w' bk (o + j * 5) ii dd cc vv rr ∧ Below wr.heap.size wr w') := fun w' hb => ⟨HC.out.later hb, hb⟩
      change Hid (nearA ⟨ii, dd, cc, vv, rr⟩) at HNR
      obtain ⟨lx, hlx⟩ : ∃ lx, laxA ⟨ii, dd, cc, vv, rr⟩ now = lx := ⟨_, rfl⟩
      have HLX : Hid (laxA ⟨ii, dd, cc, vv, rr⟩ now = lx) := hlx
      have hne : (lx != lx) = false := by simp
      clear hlx
      go_wp2_with fail
      refine wp_region_held_drew (S := (fun w' : World => (w'.cell? ⟨bk, o + j * 5, none⟩ = some (.int .i64 ii) ∧ w'.cell? ⟨bk, o + j * 5 + 1, none⟩ = some (.int .i64 dd) ∧ w'.cell? ⟨bk, o + j * 5 + 2, none⟩ = some (.int .i64 cc) ∧ w'.cell? ⟨bk, o + j * 5 + 3, none⟩ = some (.int .i64 vv) ∧ w'.cell? ⟨bk, o + j * 5 + 4, none⟩ = some (.int .i64 rr)) ∧ Below wr.heap.size wr w')) (by kernel_rfl) ?_ (fun hHeld => ?_)
      · exact MK.out _ (Below.refl _ _).drew
      refine wpAnyH_take (i := 0) (oi := { dst := some 45, op := Op.move (Operand.tmp 0), type := 22, pos := _, after := _, guard := none }) (v := ?_) rfl (by kernel_rfl) (by kernel_rfl) (by kernel_rfl) (fun _ _ _ h => h) (Or.inl ⟨by rfl, ?_⟩) (by assumption) ?_
      rotate_left
      · intro wS hSw; (try dsimp only at hSw); go_simp; first | done | with_reducible rfl
      try simp only [Act.put, List.setIfInBounds_toArray, List.set_cons_zero, List.set_cons_succ]
      refine wpAnyH_take (i := 1) (oi := { dst := some 46, op := Op.move (Operand.tmp 13), type := 3, pos := _, after := _, guard := none }) (v := ?_) rfl (by kernel_rfl) (by kernel_rfl) (by kernel_rfl) (fun _ _ _ h => h) (Or.inl ⟨by rfl, ?_⟩) (by assumption) ?_
      rotate_left
      · intro wS hSw; (try dsimp only at hSw); go_simp; first | done | with_reducible rfl
      try simp only [Act.put, List.setIfInBounds_toArray, List.set_cons_zero, List.set_cons_succ]
      refine wpAnyH_take (i := 2) (oi := { dst := some 47, op := Op.indexAddr 22 (Operand.tmp 45) (Operand.tmp 46), type := 0, pos := _, after := _, guard := none }) (v := ?_) rfl (by kernel_rfl) (by kernel_rfl) (by kernel_rfl) (fun _ _ _ h => h) (Or.inl ⟨by rfl, ?_⟩) (by assumption) ?_
      rotate_left
      · intro wS hSw; (try dsimp only at hSw); go_simp; first | done | with_reducible rfl
      try simp only [Act.put, List.setIfInBounds_toArray, List.set_cons_zero, List.set_cons_succ]
      refine wpAnyH_take (i := 3) (oi := { dst := some 48, op := Op.load 30 (Operand.tmp 47), type := 30, pos := _, after := _, guard := none }) (v := ?_) rfl (by kernel_rfl) (by kernel_rfl) (by kernel_rfl) (fun _ _ _ h => h) (Or.inl ⟨by rfl, ?_⟩) (by assumption) ?_
      rotate_left
      · intro wS hSw; (try dsimp only at hSw); go_simp; first | done | with_reducible rfl
      try simp only [Act.put, List.setIfInBounds_toArray, List.set_cons_zero, List.set_cons_succ]
      refine wpAnyH_take (i := 4) (oi := { dst := some 49, op := Op.move (Operand.tmp 2), type := 3, pos := _, after := _, guard := none }) (v := ?_) rfl (by kernel_rfl) (by kernel_rfl) (by kernel_rfl) (fun _ _ _ h => h) (Or.inl ⟨by rfl, ?_⟩) (by assumption) ?_
      rotate_left
      · intro wS hSw; (try dsimp only at hSw); go_simp; first | done | with_reducible rfl
      try simp only [Act.put, List.setIfInBounds_toArray, List.set_cons_zero, List.set_cons_succ]
      refine wpAnyH_take (i := 6) (oi := { dst := some 51, op := Op.move (Operand.tmp 0), type := 22, pos := _, after := _, guard := none }) (v := ?_) rfl (by kernel_rfl) (by kernel_rfl) (by kernel_rfl) (fun _ _ _ h => h) (Or.inl ⟨by rfl, ?_⟩) (by assumption) ?_
      rotate_left
      · intro wS hSw; (try dsimp only at hSw); go_simp; first | done | with_reducible rfl
      try simp only [Act.put, List.setIfInBounds_toArray, List.set_cons_zero, List.set_cons_succ]
      refine wpAnyH_take (i := 7) (oi := { dst := some 52, op := Op.move (Operand.tmp 13), type := 3, pos := _, after := _, guard := none }) (v := ?_) rfl (by kernel_rfl) (by kernel_rfl) (by kernel_rfl) (fun _ _ _ h => h) (Or.inl ⟨by rfl, ?_⟩) (by assumption) ?_
      rotate_left
      · intro wS hSw; (try dsimp only at hSw); go_simp; first | done | with_reducible rfl
      try simp only [Act.put, List.setIfInBounds_toArray, List.set_cons_zero, List.set_cons_succ]
      refine wpAnyH_take (i := 8) (oi := { dst := some 53, op := Op.indexAddr 22 (Operand.tmp 51) (Operand.tmp 52), type := 0, pos := _, after := _, guard := none }) (v := ?_) rfl (by kernel_rfl) (by kernel_rfl) (by kernel_rfl) (fun _ _ _ h => h) (Or.inl ⟨by rfl, ?_⟩) (by assumption) ?_
      rotate_left
      · intro wS hSw; (try dsimp only at hSw); go_simp; first | done | with_reducible rfl
      try simp only [Act.put, List.setIfInBounds_toArray, List.set_cons_zero, List.set_cons_succ]
      refine wpAnyH_take (i := 9) (oi := { dst := some 54, op := Op.load 30 (Operand.tmp 53), type := 30, pos := _, after := _, guard := none }) (v := ?_) rfl (by kernel_rfl) (by kernel_rfl) (by kernel_rfl) (fun _ _ _ h => h) (Or.inl ⟨by rfl, ?_⟩) (by assumption) ?_
      rotate_left
      · intro wS hSw; (try dsimp only at hSw); go_simp; first | done | with_reducible rfl
      try simp only [Act.put, List.setIfInBounds_toArray, List.set_cons_zero, List.set_cons_succ]
      refine wpAnyH_take (i := 10) (oi := { dst := some 55, op := Op.move (Operand.tmp 2), type := 3, pos := _, after := _, guard := none }) (v := ?_) rfl (by kernel_rfl) (by kernel_rfl) (by kernel_rfl) (fun _ _ _ h => h) (Or.inl ⟨by rfl, ?_⟩) (by assumption) ?_
      rotate_left
      · intro wS hSw; (try dsimp only at hSw); go_simp; first | done | with_reducible rfl
      try simp only [Act.put, List.setIfInBounds_toArray, List.set_cons_zero, List.set_cons_succ]
      refine wpAnyH_ready (rs := [5]) (by kernel_rfl) (by simp) ?_
      refine AllReadyH.cons (o := { dst := some 50, op := Op.call { callee := Callee.value (Operand.func 14), args := #[Operand.tmp 48, Operand.tmp 49], argTypes := #[30, 3] }, type := 3, pos := _, after := _, guard := none }) rfl (fun K hK => ?_) AllReadyH.nil
      go_simp
      refine (lax_any ii dd cc vv rr now _ HNR.out (by omega) (by omega)).mono ?_
      rintro e w20 ⟨rfl, hb20⟩
      rw [HLX.out]
      have hs20 := bstep hb20 (sBel (by assumption))
      go_wp2_with fail
      refine hK.out _ _ ?_ (fun hHeld => ?_)
      · exact MK.out _ hs20
      clear hK K
      try simp only [Act.put, List.setIfInBounds_toArray, List.set_cons_zero, List.set_cons_succ]
      refine wpAnyH_ready (rs := [11]) (by kernel_rfl) (by simp) ?_
      refine AllReadyH.cons (o := { dst := some 56, op := Op.call { callee := Callee.value (Operand.func 15), args := #[Operand.tmp 54, Operand.tmp 55], argTypes := #[30, 3] }, type := 3, pos := _, after := _, guard := none }) rfl (fun K hK => ?_) AllReadyH.nil
      go_simp
      refine (reflax_any ii dd cc vv rr now _ HNR.out (by omega) (by omega)).mono ?_
      rintro e w21 ⟨rfl, hb21⟩
      rw [HLX.out]
      have hs21 := bstep hb21 (sBel (by assumption))
      go_wp2_with fail
      refine hK.out _ _ ?_ (fun hHeld => ?_)
      · exact MK.out _ hs21
      clear hK K
      try simp only [Act.put, List.setIfInBounds_toArray, List.set_cons_zero, List.set_cons_succ]
      refine wpAnyH_take (i := 12) (oi := { dst := some 57, op := Op.binOp BinOp.neq 3 (Operand.tmp 50) (Operand.tmp 56) 3, type := 4, pos := _, after := _, guard := none }) (v := ?_) rfl (by kernel_rfl) (by kernel_rfl) (by kernel_rfl) (fun _ _ _ h => h) (Or.inl ⟨by rfl, ?_⟩) (by assumption) ?_
      rotate_left
      · intro wS hSw; (try dsimp only at hSw); go_simp; first | done | with_reducible rfl
      try simp only [Act.put, List.setIfInBounds_toArray, List.set_cons_zero, List.set_cons_succ]
      refine wpAnyH_done (by kernel_rfl) ?_ _
      have HB5 : Hid (Below w4.heap.size w4 w21) := hbw.trans (hs21.mono hbw.size)
      go_wp2_with fail
      go_roundw
      case rel => exact ⟨j + 1, by omega, by go_num, HB5.out⟩
      case measure => simp [intOf]; omega
    obtain rfl : j = xs.length := by omega
    have HA5 : Hid (Aps wr (.slice ad xs.length cap) xs) := HA4.out.later hbw
    have HG5 : Hid (Nums wr g p2 ∧ Nums wr k p2) := ⟨HGK.out.1.later hbw, HGK.out.2.later hbw⟩
    have HB5 : Hid (Below w.heap.size w wr) := HB4.out.trans (hbw.mono HB4.out.size)
    clear h5 hbw HGK HA4 HB4
    generalize wr = w5 at *
    go_wp2_with fail
    refine (may13_any xs _ now w5 HA5.out HW.out.1).mono ?_
    rintro e w6 ⟨rfl, hb6⟩
    have HA6 : Hid (Aps w6 (.slice ad xs.length cap) xs) := HA5.out.later hb6
    have HG6 : Hid (Nums w6 g p2 ∧ Nums w6 k p2) := ⟨HG5.out.1.later hb6, HG5.out.2.later hb6⟩
    have HB6 : Hid (Below w.heap.size w w6) := HB5.out.trans (hb6.mono HB5.out.size)
    clear hb6 HA5 HG5 HB5
    obtain ⟨mm, hmm⟩ : ∃ mm, mayL xs now = mm := ⟨_, rfl⟩
    have HMM : Hid (mayL xs now = mm) := hmm
    rw [hmm]
    clear hmm
    have hm1 : (mm == mm) = true := by simp
    go_wp2_with fail
    refine (refmay_any xs _ now w6 HA6.out).mono ?_
    rintro e w7 ⟨rfl, hb7⟩
    have HA7 : Hid (Aps w7 (.slice ad xs.length cap) xs) := HA6.out.later hb7
    have HG7 : Hid (Nums w7 g p2 ∧ Nums w7 k p2) := ⟨HG6.out.1.later hb7, HG6.out.2.later hb7⟩
    have HB7 : Hid (Below w.heap.size w w7) := HB6.out.trans (hb7.mono HB6.out.size)
    rw [HMM.out]
    clear hb7 HA6 HG6 HB6
    go_wp2_with fail
    refine (fits13_any xs _ now w7 HA7.out (by omega) HW.out.1 HN.out (by omega) (by omega)).mono ?_
    rintro e w8 ⟨rfl, hb8⟩
    have HA8 : Hid (Aps w8 (.slice ad xs.length cap) xs) := HA7.out.later hb8
    have HG8 : Hid (Nums w8 g p2 ∧ Nums w8 k p2) := ⟨HG7.out.1.later hb8, HG7.out.2.later hb8⟩
    have HB8 : Hid (Below w.heap.size w w8) := HB7.out.trans (hb8.mono HB7.out.size)
    clear hb8 HA7 HG7 HB7
    obtain ⟨ff, hff⟩ : ∃ ff, fitsA xs now = ff := ⟨_, rfl⟩
    have HFF : Hid (fitsA xs now = ff) := hff
    rw [hff]
    clear hff
    have hf1 : (ff == ff) = true := by simp
    go_wp2_with fail
    refine (reffits_any xs _ now w8 HA8.out (by omega) HN.out (by omega) (by omega)).mono ?_
    rintro e w9 ⟨rfl, hb9⟩
    have HA9 : Hid (Aps w9 (.slice ad xs.length cap) xs) := HA8.out.later hb9
    have HG9 : Hid (Nums w9 g p2 ∧ Nums w9 k p2) := ⟨HG8.out.1.later hb9, HG8.out.2.later hb9⟩
    have HB9 : Hid (Below w.heap.size w w9) := HB8.out.trans (hb9.mono HB8.out.size)
    rw [HFF.out]
    clear hb9 HA8 HG8 HB8
    go_wp2_with fail
    refine (order13_any xs _ w9 HA9.out (by omega) HW.out.1).mono ?_
    rintro e w10 ⟨u1, rfl, hu1, hb10⟩
    have HA10 : Hid (Aps w10 (.slice ad xs.length cap) xs) := HA9.out.later hb10
    have HG10 : Hid (Nums w10 g p2 ∧ Nums w10 k p2) := ⟨HG9.out.1.later hb10, HG9.out.2.later hb10⟩
    have HB10 : Hid (Below w.heap.size w w10) := HB9.out.trans (hb10.mono HB9.out.size)
    have HU1 : Hid (Nums w10 u1 (idsA (ordA xs))) := (Nums.own (own_len hu1)).1
    clear hb10 HA9 HG9 HB9
    go_wp2_with fail
    refine (reforder_any xs _ w10 HA10.out (by omega)).mono ?_
    rintro e w11 ⟨u2, rfl, hu2, hb11⟩
    have HA11 : Hid (Aps w11 (.slice ad xs.length cap) xs) := HA10.out.later hb11
    have HG11 : Hid (Nums w11 g p2 ∧ Nums w11 k p2) := ⟨HG10.out.1.later hb11, HG10.out.2.later hb11⟩
    have HB11 : Hid (Below w.heap.size w w11) := HB10.out.trans (hb11.mono HB10.out.size)
    have HU2 : Hid (Nums w11 u1 (idsA (ordA xs)) ∧ Nums w11 u2 (idsA (ordA xs))) := ⟨HU1.out.later hb11, hu2.nums.1⟩
    have hil : (idsA (ordA xs)).length ≤ 100000 := by rw [idsA_len, ordA_len]; omega
    clear hb11 HA10 HG10 HB10
    go_wp2_with fail
    refine (ints13_any (idsA (ordA xs)) (idsA (ordA xs)) u1 u2 w11 HU2.out.1 HU2.out.2 hil).mono ?_
    rintro e w12 ⟨rfl, hb12⟩
    have HA12 : Hid (Aps w12 (.slice ad xs.length cap) xs) := HA11.out.later hb12
    have HG12 : Hid (Nums w12 g p2 ∧ Nums w12 k p2) := ⟨HG11.out.1.later hb12, HG11.out.2.later hb12⟩
    have HB12 : Hid (Below w.heap.size w w12) := HB11.out.trans (hb12.mono HB11.out.size)
    have hpp : (p1 == p1) = true := by simp
    rw [decide_eq_true (rfl : idsA (ordA xs) = idsA (ordA xs))]
    clear hb12 HA11 HG11 HB11
    go_wp2_with fail
    refine (ints13_any p2 p2 g k w12 HG12.out.1 HG12.out.2 HPL.out).mono ?_
    rintro e w13 ⟨rfl, hb13⟩
    rw [decide_eq_true (rfl : p2 = p2)]
    have HB13 : Hid (Below w.heap.size w w13) := HB12.out.trans (hb13.mono HB12.out.size)
    clear hb13
    go_wp2_with fail
    go_ret
    exact ⟨rfl, HB13.out⟩
end Go.Proofs.Ytjaaabliefcgaaa
