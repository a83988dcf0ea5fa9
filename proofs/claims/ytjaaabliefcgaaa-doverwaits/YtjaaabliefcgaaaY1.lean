/- Texts that belong together, one behind the other: O18, O19, O20, O21, O22, O23. -/
import Derived.Test.YtjaaabliefcgaaaO17
/- What the statement DoverCan comes to. -/
namespace Go.Proofs.Ytjaaabliefcgaaa
open Go.RowKit Go.Maps Go.Shelf

theorem getD_mem {gl : List Int} {j : Nat} (h : j < gl.length) : gl.getD j 0 ∈ gl := by
  simp [List.getD, h]
theorem getD_ne {gl : List Int} (hd : gl.Nodup) {j k : Nat} (hk : k < j) (hj : j < gl.length) : gl.getD k 0 ≠ gl.getD j 0 := by
  intro e
  have h1 : gl[k]? = some (gl.getD k 0) := by simp [List.getD, show k < gl.length by omega]
  have h2 : gl[j]? = some (gl.getD j 0) := by simp [List.getD, hj]
  rw [e, ← h2] at h1
  have := (List.getElem?_inj (i := k) (by omega) hd).1 h1
  omega
set_option maxHeartbeats 2000000 in
set_option maxRecDepth 100000 in
theorem law_dcan (xs : List Ap) (v : Value) (cur now : Int) (w : World) (h : Aps w v xs) (hw : ∀ a ∈ xs, wfK a.key) (hc : okI cur) :
    Calls Try.prog 4 #[v, .int .i64 cur, .int .i64 now] w fun e w' => e = .returned (.bool true) ∧ Below w.heap.size w w' := by
  have HA : Hid (Aps w v xs) := h
  have HC : Hid (okI cur) := hc
  have HW : Hid (∀ a ∈ xs, wfK a.key) := hw
  clear h hc hw
  go_enter Try.func4, Try.ntmps4
  go_wp2_with fail
  refine (awake13_any _).mono ?_
  rintro e w1 ⟨rfl, hb1⟩
  have HA1 : Hid (Aps w1 v xs) := HA.out.later hb1
  go_wp2_with fail
  refine (may13_any xs v now w1 HA1.out HW.out).mono ?_
  rintro e w2 ⟨rfl, hb2⟩
  have hB2 := hb1.trans (hb2.mono hb1.size)
  have HA2 : Hid (Aps w2 v xs) := HA1.out.later hb2
  obtain ⟨p, hp⟩ : ∃ p, mayL xs now = p := ⟨_, rfl⟩
  have HM : Hid (mayL xs now = p) := hp
  rw [hp]
  clear hp hb1 hb2 HA1 HA
  cases p
  · go_wp2_with fail
    go_ret
    exact ⟨rfl, hB2⟩
  obtain ⟨n4, ⟨n0, n1⟩, nd, hall⟩ := mayL_iff.1 HM.out
  have HND : Hid ((idsA xs).Nodup ∧ ∀ a ∈ xs, nearA a) := ⟨nd, fun a ha => mayA_near (hall a ha)⟩
  have HCAN : Hid (CanR xs now (pickA xs cur now).1 (pickA xs cur now).2) := pick_can HM.out
  clear nd hall
  go_wp2_with fail
  refine (pick13_any xs v cur now w2 HA2.out HW.out HC.out).mono ?_
  rintro e w3 ⟨g, rfl, hg, hb3⟩
  obtain ⟨⟨p, gl⟩, hpk⟩ : ∃ s, pickA xs cur now = s := ⟨_, rfl⟩
  rw [hpk] at hg HCAN ⊢
  have HS3 : Hid (Aps w3 v xs ∧ Below w.heap.size w w3) := ⟨HA2.out.later hb3, hB2.trans (hb3.mono hB2.size)⟩
  obtain ⟨ga, gc, rfl, g1, g2, g3⟩ := hg.nums.1
  have HCA : Hid (CanR xs now p gl) := HCAN.out
  have hgl : gl.length ≤ 4 := by
    by_cases c : p ∈ idsA xs
    · obtain ⟨a, ha, e⟩ := List.mem_map.1 c
      have := (HCA.out.ins a ha e).2
      omega
    · have := (HCA.out.out c).2
      omega
  clear hpk hg hb3 HCAN hB2 HA2 HM
  go_wp2_with fail
  go_loopw [10] (fun i wr => ∃ (j : Nat), j ≤ gl.length ∧ i = .int .i64 j ∧ Below w3.heap.size w3 wr) (fun i _ => ((gl.length : Int) - intOf i).toNat)
  case atStart => exact ⟨0, by omega, rfl, Below.refl _ _⟩
  case round =>
    obtain ⟨j, hj, rfl, hbw⟩ := hrel
    by_cases hjl : (j : Int) < gl.length
    · obtain ⟨gb, go, rfl, g4⟩ := g3 (by intro e; rw [e] at hjl; simp at hjl; omega)
      have c0 := cell_later hbw (g4 j (by omega))
      have sgb : gb < w3.heap.size := World.block_lt_of_cell? _ _ (g4 j (by omega))
      have HG4 : Hid (∀ i, i < gl.length → w3.cell? ⟨gb, go + i, none⟩ = some (.int .i64 (gl.getD i 0))) := g4
      obtain ⟨a, ha, e1, e2, e3⟩ := HCA.out.lax _ (getD_mem (show j < gl.length by omega))
      have HFD : Hid (fdA xs (gl.getD j 0) = some a) := by show _ = _; rw [← e1]; exact fd_mem HND.out.1 ha
      have HNR : Hid (nearA a) := HND.out.2 a ha
      have HNE : Hid (∀ k, k < j → gl.getD k 0 ≠ gl.getD j 0) := fun k hk => getD_ne HCA.out.nodup hk (by omega)
      have HAW : Hid (Aps wr v xs) := HS3.out.1.later hbw
      clear g4 g3 ha e1
      obtain ⟨x, hx⟩ : ∃ x, gl.getD j 0 = x := ⟨_, rfl⟩
      have HX : Hid (gl.getD j 0 = x) := hx
      rw [hx] at c0 HFD e3 HNE
      clear hx
      have e3' : (x == p) = false := by simpa using e3
      clear e3
      go_wp2_with fail
      refine (find13_any xs v x wr HAW.out).mono ?_
      rintro e w4 ⟨rfl, hb4⟩
      rw [HFD.out]
      have hB4 := hbw.trans (hb4.mono hbw.size)
      have c1 : w4.cell? ⟨gb, go + j, none⟩ = some (.int .i64 x) := cell_later hb4 c0
      have sg4 : gb < w4.heap.size := Nat.lt_of_lt_of_le sgb hB4.size
      obtain ⟨ii, dd, cc, vv, rr⟩ := a
      change Hid (nearA ⟨ii, dd, cc, vv, rr⟩) at HNR
      simp only [Option.getD_some, Option.isSome_some, apV]
      have hbX := (Below.refl w4.heap.size w4).alloc (Nat.le_refl _) (.cells #[.int .i64 ii, .int .i64 dd, .int .i64 cc, .int .i64 vv, .int .i64 rr] 30)
      have hB5 := hB4.alloc hB4.size (.cells #[.int .i64 ii, .int .i64 dd, .int .i64 cc, .int .i64 vv, .int .i64 rr] 30)
      have c2 := cell_later hbX c1
      clear hbX hb4 hbw c0
      go_wp2_with fail
      refine (lax_any ii dd cc vv rr now _ HNR.out (by omega) (by omega)).mono ?_
      rintro e w5 ⟨rfl, hb5⟩
      have hB6 := hB5.trans (hb5.mono hB5.size)
      obtain ⟨lx, hlx⟩ : ∃ lx, laxA ⟨ii, dd, cc, vv, rr⟩ now = lx := ⟨_, rfl⟩
      rw [hlx] at e2 ⊢
      have hl0 : ¬ 0 < lx := by omega
      clear hlx hb5 hB5 hB4 c1 c2 sg4 e2 HFD HAW
      go_wp2_with fail
      go_loopw [13] (fun i wr => ∃ (k : Nat), k ≤ j ∧ i = .int .i64 k ∧ Below w3.heap.size w3 wr) (fun i _ => ((j : Int) - intOf i).toNat)
      case atStart => exact ⟨0, by omega, rfl, hB6⟩
      case round =>
        clear hB6
        obtain ⟨k, hk, rfl, hbw⟩ := hrel
        by_cases hkj : (k : Int) < j
        · have d0 := cell_later hbw (HG4.out k (by omega))
          have d1 := cell_later hbw (HG4.out j (by omega))
          rw [HX.out] at d1
          have hne := HNE.out k (by omega)
          obtain ⟨y, hy⟩ : ∃ y, gl.getD k 0 = y := ⟨_, rfl⟩
          rw [hy] at d0 hne
          clear hy
          have hne' : (y == x) = false := by simpa using hne
          clear hne
          go_wp2_with fail
          go_quiet (fail)
          go_wp2_with fail
          go_roundw
          case rel => exact ⟨k + 1, by omega, by go_num, ⟨hbw.os, hbw.tape, hbw.output, hbw.size, hbw.block⟩⟩
          case measure => simp [intOf]; omega
        · obtain rfl : k = j := by omega
          go_wp2_with fail
          go_roundw
          case rel => exact ⟨k + 1, by omega, by go_num, hbw⟩
          case measure => simp [intOf]; omega
    · obtain rfl : j = gl.length := by omega
      have HAW : Hid (Aps wr v xs) := HS3.out.1.later hbw
      have HBW : Hid (Below w.heap.size w wr) := HS3.out.2.trans (hbw.mono HS3.out.2.size)
      obtain ⟨ad, cap, rfl, _⟩ := HAW.out.open
      clear g3 hbw
      by_cases hin : p ∈ idsA xs
      · obtain ⟨a, ha, e1⟩ := List.mem_map.1 hin
        have HFD : Hid (fdA xs p = some a) := by show _ = _; rw [← e1]; exact fd_mem HND.out.1 ha
        obtain ⟨i1, i2⟩ := HCA.out.ins a ha e1
        have HNR : Hid (nearA a) := HND.out.2 a ha
        clear hin ha e1
        go_wp2_with fail
        refine (find13_any xs _ p wr HAW.out).mono ?_
        rintro e w4 ⟨rfl, hb4⟩
        rw [HFD.out]
        have hB4 := HBW.out.trans (hb4.mono HBW.out.size)
        obtain ⟨ii, dd, cc, vv, rr⟩ := a
        change Hid (nearA ⟨ii, dd, cc, vv, rr⟩) at HNR
        simp only [Option.getD_some, Option.isSome_some, apV]
        have hB5 := hB4.alloc hB4.size (.cells #[.int .i64 ii, .int .i64 dd, .int .i64 cc, .int .i64 vv, .int .i64 rr] 30)
        have hlen : (gl.length : Int) < xs.length := by omega
        clear hb4 HBW
        go_wp2_with fail
        refine (lax_any ii dd cc vv rr now _ HNR.out (by omega) (by omega)).mono ?_
        rintro e w5 ⟨rfl, hb5⟩
        have hB6 := hB5.trans (hb5.mono hB5.size)
        obtain ⟨lx, hlx⟩ : ∃ lx, laxA ⟨ii, dd, cc, vv, rr⟩ now = lx := ⟨_, rfl⟩
        rw [hlx] at i1 ⊢
        clear hlx hb5
        go_wp2_with fail
        go_ret
        exact ⟨by first | rfl | exact ret_b (by simp; omega), hB6⟩
      · obtain ⟨o1, o2⟩ := HCA.out.out hin
        have O1 : Hid (p = -1) := o1
        have O2 : Hid (gl.length = xs.length) := o2
        clear o1 o2
        have HFD : Hid (fdA xs p = none) := fd_not hin
        clear hin
        go_wp2_with fail
        refine (find13_any xs _ p wr HAW.out).mono ?_
        rintro e w4 ⟨rfl, hb4⟩
        rw [HFD.out]
        have hB4 := HBW.out.trans (hb4.mono HBW.out.size)
        simp only [Option.getD_none, Option.isSome_none, apV, apZ]
        have hB5 := hB4.alloc hB4.size (.cells #[.int .i64 0, .int .i64 0, .int .i64 0, .int .i64 0, .int .i64 0] 30)
        have hlen : ((gl.length : Int) == xs.length) = true := by have := O2.out; simpa using (by omega : (gl.length : Int) = xs.length)
        have o1 := O1.out
        subst o1
        clear hb4 HBW O1
        go_wp2_with fail
        go_ret
        exact ⟨by first | rfl | exact ret_b (by simpa using hlen), hB5⟩
end Go.Proofs.Ytjaaabliefcgaaa
/- What the statement DoverTurned comes to. -/
namespace Go.Proofs.Ytjaaabliefcgaaa
open Go.RowKit Go.Maps Go.Shelf

theorem lkA_not {xs : List Ap} {id : Int} (h : id ∉ idsA xs) : ∀ j, j ≤ xs.length → lkA xs j id = apZ
  | 0, _ => rfl
  | j + 1, hj => by
    unfold lkA
    rw [if_neg (fun e => h (by rw [← e]; exact List.mem_map_of_mem (atA_mem (by omega))))]
    exact lkA_not h j (by omega)
theorem lkA_turned {xs ys : List Ap} (hd : (idsA xs).Nodup) (hp : ys.Perm xs) (id : Int) : lkA ys ys.length id = lkA xs xs.length id := by
  have hdy : (idsA ys).Nodup := (ids_perm hp).nodup_iff.2 hd
  by_cases c : id ∈ idsA xs
  · obtain ⟨a, ha, e⟩ := List.mem_map.1 c
    rw [← e, lkA_mem hd ha, lkA_mem hdy (hp.mem_iff.2 ha)]
  · rw [lkA_not c _ (Nat.le_refl _), lkA_not (fun h => c ((ids_perm hp).mem_iff.1 h)) _ (Nat.le_refl _)]
theorem ord_turned {xs ys : List Ap} (hd : (idsA xs).Nodup) (hp : ys.Perm xs) : ordA ys = ordA xs := ord_uniq hd (ordA_srtd ys) ((ordA_perm ys).trans hp)
theorem may_turned {xs ys : List Ap} {now : Int} (hm : mayL xs now = true) (hp : ys.Perm xs) : mayL ys now = true := by
  obtain ⟨h1, h2, h3, h4⟩ := mayL_iff.1 hm
  exact mayL_iff.2 ⟨by rw [hp.length_eq]; exact h1, h2, (ids_perm hp).nodup_iff.2 h3, fun a ha => h4 a (hp.mem_iff.1 ha)⟩
theorem pick_turned {xs ys : List Ap} {cur now : Int} (hm : mayL xs now = true) (hp : ys.Perm xs) : (pickA ys cur now).1 = (pickA xs cur now).1 ∧ (pickA ys cur now).2.length = (pickA xs cur now).2.length ∧ ∀ x ∈ (pickA xs cur now).2, x ∈ (pickA ys cur now).2 := by
  have nd := (mayL_iff.1 hm).2.2.1
  have hab : (ableA ys now).Perm (ableA xs now) := hp.filter _
  have hla : (lateA ys now).Perm (lateA xs now) := ids_perm (hp.filter _)
  have hda := able_nodup now nd
  have ho : ordA (ableA ys now) = ordA (ableA xs now) := ord_turned hda hab
  have hl : (ableA ys now).length = (ableA xs now).length := hab.length_eq
  have hf : fitsA (ableA ys now) now = fitsA (ableA xs now) now := by unfold fitsA; rw [ho]
  have hc : contA (ableA ys now) cur now = contA (ableA xs now) cur now := by unfold contA; rw [ho, lkA_turned hda hab]
  unfold pickA
  rw [hm, may_turned hm hp, hl, hf, hc, ho]
  simp only [if_true]
  split
  · exact ⟨rfl, hla.length_eq, fun x hx => hla.mem_iff.2 hx⟩
  · split
    · exact ⟨rfl, hla.length_eq, fun x hx => hla.mem_iff.2 hx⟩
    · refine ⟨rfl, by simp [hla.length_eq], fun x hx => ?_⟩
      rcases List.mem_append.1 hx with h | h
      · exact List.mem_append.2 (.inl (hla.mem_iff.2 h))
      · exact List.mem_append.2 (.inr h)
theorem any_next {hl : List Int} {k : Nat} (h : k < hl.length) (x : Int) : (hl.take (k + 1)).any (fun y => y == x) = ((hl.take k).any (fun y => y == x) || (hl.getD k 0 == x)) := by
  have e : hl[k]? = some (hl.getD k 0) := by simp [List.getD, h]
  rw [List.take_add_one, e, List.any_append]
  simp
theorem rev_next {xs : List Ap} {m : Nat} (h : m < xs.length) : (xs.drop m).reverse = (xs.drop (m + 1)).reverse ++ [atA xs m] := by
  rw [dropA_next h, List.reverse_cons]

set_option maxHeartbeats 2000000 in
set_option maxRecDepth 100000 in
theorem law_dturned (xs : List Ap) (v : Value) (cur now : Int) (w : World) (h : Aps w v xs) (hw : ∀ a ∈ xs, wfK a.key) (hc : okI cur) :
    Calls Try.prog 7 #[v, .int .i64 cur, .int .i64 now] w fun e w' => e = .returned (.bool true) ∧ Below w.heap.size w w' := by
  obtain ⟨a0, ha, ha0, ha1, ha2⟩ := info_parts Try.infoApe
  have HA : Hid (Aps w v xs) := h
  have HC : Hid (okI cur) := hc
  have HW : Hid (∀ a ∈ xs, wfK a.key) := hw
  clear h hc hw
  go_enter Try.func7, Try.ntmps7
  go_wp2_with fail
  refine (awake13_any _).mono ?_
  rintro e w1 ⟨rfl, hb1⟩
  have HA1 : Hid (Aps w1 v xs) := HA.out.later hb1
  go_wp2_with fail
  refine (may13_any xs v now w1 HA1.out HW.out).mono ?_
  rintro e w2 ⟨rfl, hb2⟩
  have hB2 := hb1.trans (hb2.mono hb1.size)
  have HA2 : Hid (Aps w2 v xs) := HA1.out.later hb2
  obtain ⟨p, hp⟩ : ∃ p, mayL xs now = p := ⟨_, rfl⟩
  have HM : Hid (mayL xs now = p) := hp
  rw [hp]
  clear hp hb1 hb2 HA1 HA
  cases p
  · go_wp2_with fail
    go_ret
    exact ⟨rfl, hB2⟩
  obtain ⟨n4, ⟨n0, n1⟩, nd, hall⟩ := mayL_iff.1 HM.out
  have hpm : xs.reverse.Perm xs := List.reverse_perm xs
  have HNX : Hid (nearL xs ∧ (∀ a ∈ xs.reverse, wfK a.key) ∧ nearL xs.reverse) := ⟨fun a ha => mayA_near (hall a ha), fun a ha => HW.out a (hpm.mem_iff.1 ha), fun a ha => mayA_near (hall a (hpm.mem_iff.1 ha))⟩
  have HTP : Hid ((pickA xs.reverse cur now).1 = (pickA xs cur now).1 ∧ (pickA xs.reverse cur now).2.length = (pickA xs cur now).2.length ∧ ∀ x ∈ (pickA xs cur now).2, x ∈ (pickA xs.reverse cur now).2) := pick_turned HM.out hpm
  have HTO : Hid (ordA xs.reverse = ordA xs) := ord_turned nd hpm
  have HGL : Hid ((pickA xs cur now).2.length ≤ 4) := by
    have hcan := pick_can (cur := cur) HM.out
    show _ ≤ _
    by_cases c : (pickA xs cur now).1 ∈ idsA xs
    · obtain ⟨a, ha, e⟩ := List.mem_map.1 c
      have := (hcan.ins a ha e).2
      omega
    · have := (hcan.out c).2
      omega
  have HS : Hid (Aps w2 v xs ∧ Below w.heap.size w w2) := ⟨HA2.out, hB2⟩
  obtain ⟨ad, cap, rfl, l1, l2, l3, l4⟩ := HA2.out.open
  clear nd hall hpm HA2 hB2 HM l4
  go_wp2_with fail
  go_loopw [8, 9] (fun bv i wr => ∃ (m : Nat) (bk : Value), bk = bv ∧ m ≤ xs.length ∧ i = .int .i64 m ∧ Hid (OwnA wr w2.heap.size bk (xs.drop m).reverse) ∧ Below w2.heap.size w2 wr) (fun _ i _ => (intOf i).toNat)
  case atStart => exact ⟨xs.length, _, rfl, by omega, rfl, by show OwnA _ _ _ _; rw [List.drop_length]; exact OwnA.nil _ _, Below.refl _ _⟩
  case round =>
    obtain ⟨m, bk, rfl, hm, rfl, HO, hbw⟩ := hrel
    by_cases hm0 : (0 : Int) < m
    · obtain ⟨m, rfl⟩ : ∃ k, m = k + 1 := ⟨m - 1, by omega⟩
      obtain ⟨bb, o, hbk, _⟩ : ∃ bk o, ad = some ⟨bk, o, none⟩ ∧ True := by
        obtain ⟨_, _, e', _, _, _, h4⟩ := HS.out.1.open
        obtain ⟨b, o, e2, _⟩ := h4 (by omega)
        simp only [Value.slice.injEq] at e'
        exact ⟨b, o, by rw [e'.1, e2], trivial⟩
      subst hbk
      obtain ⟨k0, k1, k2, k3, k4⟩ := HS.out.1.at5 (i := m) (by omega)
      have sb : bb < w2.heap.size := World.block_lt_of_cell? _ _ k0
      have c0 := cell_later hbw k0
      have c1 := cell_later hbw k1
      have c2 := cell_later hbw k2
      have c3 := cell_later hbw k3
      have c4 := cell_later hbw k4
      have hsw := hbw.size
      have HR : Hid ((xs.drop m).reverse = (xs.drop (m + 1)).reverse ++ [atA xs m]) := rev_next (by omega)
      have hrl : (xs.drop (m + 1)).reverse.length ≤ 4 := by rw [List.length_reverse, List.length_drop]; omega
      clear k0 k1 k2 k3 k4
      generalize atA xs m = a at *
      obtain ⟨ii, dd, cc, vv, rr⟩ := a
      simp only at c0 c1 c2 c3 c4
      have HB5 : Hid (Below w2.heap.size w2 (wr.alloc (.cells #[.int .i64 ii, .int .i64 dd, .int .i64 cc, .int .i64 vv, .int .i64 rr] 30))) := hbw.alloc hsw _
      have HO5 : Hid (OwnA (wr.alloc (.cells #[.int .i64 ii, .int .i64 dd, .int .i64 cc, .int .i64 vv, .int .i64 rr] 30)) w2.heap.size bk (xs.drop (m + 1)).reverse) := HO.out.later ((Below.refl _ _).alloc (Nat.le_refl _) _)
      have HX5 : Hid (Bx5 (wr.alloc (.cells #[.int .i64 ii, .int .i64 dd, .int .i64 cc, .int .i64 vv, .int .i64 rr] 30)) wr.heap.size ii dd cc vv rr) := Bx5.new _ _ _ _ _ _ _
      have hwm : IntKind.i64.wrap (((m + 1 : Nat) : Int) - 1) = (m : Int) := by rw [show ((m + 1 : Nat) : Int) - 1 = (m : Int) by omega]; exact wrap_near (by omega) (by omega)
      clear HO hbw
      go_wp2_with (first
        | (at_builtin; refine wpList_append_own_at _ rfl _ _ 22 rfl w2.heap.size 30 a0 _ 5 40 Try.underlying22 ha ha0 ha1 ha2 rfl (by decide) bk _ _ rfl HO5.out ⟨wr.heap.size, 0, none⟩ 1 1 (Ap.row ⟨ii, dd, cc, vv, rr⟩) rfl rfl HX5.out.news (recA.one ⟨ii, dd, cc, vv, rr⟩) (by unfold maxLen; omega) (by omega) (by simp; omega) ?_; intro v' w6 hown6 hg6 _ hat6))
      have HO6 : Hid (OwnA w6 w2.heap.size v' (xs.drop m).reverse) := by
        show OwnA _ _ _ _
        rw [HR.out]
        unfold OwnA
        rw [List.length_append, flatA_app, flatA_one]
        exact hown6
      have HB6 : Hid (Below w2.heap.size w2 w6) := HB5.out.grown hg6 HB5.out.size (fun k hk => HO5.out.low k hk)
      clear HB5 HO5 HX5 hown6 hg6 hat6 HR
      go_wp2_with fail
      go_roundw
      case rel => exact ⟨m, _, rfl, by omega, by first | rfl | go_num, HO6.out, HB6.out⟩
      case measure => simp [intOf]
    · obtain rfl : m = 0 := by omega
      have HO2 : Hid (OwnA wr w2.heap.size bk xs.reverse) := HO.out
      have HA3 : Hid (Aps wr (.slice ad xs.length cap) xs) := HS.out.1.later hbw
      have HB3 : Hid (Below w.heap.size w wr) := HS.out.2.trans (hbw.mono HS.out.2.size)
      clear HO hbw HS
      go_wp2_with fail
      refine (pick13_any xs _ cur now wr HA3.out HW.out HC.out).mono ?_
      rintro e w3 ⟨g, rfl, hg, hb3⟩
      obtain ⟨⟨p, gl⟩, hpk⟩ : ∃ s, pickA xs cur now = s := ⟨_, rfl⟩
      rw [hpk] at hg HTP HGL ⊢
      have HB4 : Hid (Below w.heap.size w w3) := HB3.out.trans (hb3.mono HB3.out.size)
      have HA4 : Hid (Aps w3 (.slice ad xs.length cap) xs ∧ Aps w3 bk xs.reverse ∧ Nums w3 g gl) := ⟨HA3.out.later hb3, HO2.out.aps.later hb3, hg.nums.1⟩
      clear hpk hg hb3 HA3 HB3 HO2
      go_wp2_with fail
      refine (pick13_any xs.reverse _ cur now w3 HA4.out.2.1 HNX.out.2.1 HC.out).mono ?_
      rintro e w4 ⟨h, rfl, hh, hb4⟩
      obtain ⟨⟨p2, hl⟩, hpk⟩ : ∃ s, pickA xs.reverse cur now = s := ⟨_, rfl⟩
      rw [hpk] at hh HTP ⊢
      have HB5 : Hid (Below w.heap.size w w4) := HB4.out.trans (hb4.mono HB4.out.size)
      have HA5 : Hid (Aps w4 (.slice ad xs.length cap) xs ∧ Aps w4 bk xs.reverse) := ⟨HA4.out.1.later hb4, HA4.out.2.1.later hb4⟩
      have hgn : Nums w4 g gl := HA4.out.2.2.later hb4
      have hhn : Nums w4 h hl := hh.nums.1
      obtain ⟨t1, t2, t3⟩ := HTP.out
      simp only at t1 t2 t3
      subst t1
      have HT3 : Hid (∀ x ∈ gl, x ∈ hl) := t3
      have HT2 : Hid (hl.length = gl.length) := t2
      have hg4 : gl.length ≤ 4 := HGL.out
      obtain ⟨ga, gc, rfl, g1, g2, g3⟩ := hgn
      obtain ⟨hha, hc', rfl, h1, h2, h3⟩ := hhn
      clear hpk hh hb4 HA4 HB4 HTP t2 t3 HGL
      go_wp2_with fail
      go_loopw [14] (fun i wr => ∃ (j : Nat), j ≤ gl.length ∧ i = .int .i64 j ∧ Below w4.heap.size w4 wr) (fun i _ => ((gl.length : Int) - intOf i).toNat)
      case atStart => exact ⟨0, by omega, rfl, Below.refl _ _⟩
      case round =>
        obtain ⟨j, hj, rfl, hbw⟩ := hrel
        by_cases hjl : (j : Int) < gl.length
        · obtain ⟨gb, go, rfl, g4⟩ := g3 (by intro e; rw [e] at hjl; simp at hjl; omega)
          have HG0 : Hid (w4.cell? ⟨gb, go + j, none⟩ = some (.int .i64 (gl.getD j 0))) := g4 j (by omega)
          have HIN : Hid (gl.getD j 0 ∈ hl) := HT3.out _ (getD_mem (by omega))
          clear g4 g3
          obtain ⟨x, hx⟩ : ∃ x, gl.getD j 0 = x := ⟨_, rfl⟩
          rw [hx] at HG0 HIN
          clear hx
          have HAN : Hid (hl.any (fun y => y == x) = true) := by show _ = _; rw [List.any_eq_true]; exact ⟨x, HIN.out, by simp⟩
          go_wp2_with fail
          go_loopw [15, 16] (fun b i wr => ∃ (k : Nat) (q : Bool), k ≤ hl.length ∧ i = .int .i64 k ∧ b = .bool q ∧ Hid ((hl.take k).any (fun y => y == x) = q) ∧ Below w4.heap.size w4 wr) (fun _ i _ => ((hl.length : Int) - intOf i).toNat)
          case atStart => exact ⟨0, false, by omega, rfl, rfl, (by rfl : Hid _), hbw⟩
          case round =>
            clear hbw
            obtain ⟨k, q, hk, rfl, rfl, HQ, hbw⟩ := hrel
            by_cases hkl : (k : Int) < hl.length
            · obtain ⟨hb, ho, rfl, h4⟩ := h3 (by intro e; rw [e] at hkl; simp at hkl; omega)
              have c0 := cell_later hbw HG0.out
              have c1 := cell_later hbw (h4 k (by omega))
              have hl4 : hl.length ≤ 4 := by have := HT2.out; omega
              have HN : Hid ((hl.take (k + 1)).any (fun y => y == x) = (q || (hl.getD k 0 == x))) := by show _ = _; rw [any_next (by omega), HQ.out]
              clear h4 h3 HQ
              generalize hl.getD k 0 = y at *
              cases q
              · have HN2 : Hid ((hl.take (k + 1)).any (fun y => y == x) = (y == x)) := HN.out
                obtain ⟨z, hz⟩ : ∃ z, (y == x) = z := ⟨_, rfl⟩
                rw [hz] at HN2
                go_wp2_with fail
                go_quiet (fail)
                go_wp2_with fail
                go_roundw
                case rel => exact ⟨k + 1, z, by omega, by go_num, by first | rfl | rw [hz], HN2.out, ⟨hbw.os, hbw.tape, hbw.output, hbw.size, hbw.block⟩⟩
                case measure => simp [intOf]; omega
              · have HN2 : Hid ((hl.take (k + 1)).any (fun y => y == x) = true) := HN.out
                go_wp2_with fail
                go_quiet (fail)
                go_wp2_with fail
                go_roundw
                case rel => exact ⟨k + 1, true, by omega, by go_num, rfl, HN2.out, ⟨hbw.os, hbw.tape, hbw.output, hbw.size, hbw.block⟩⟩
                case measure => simp [intOf]; omega
            · obtain rfl : k = hl.length := by omega
              obtain rfl : q = true := by have := HQ.out; rw [List.take_length, HAN.out] at this; exact this.symm
              go_wp2_with fail
              go_roundw
              case rel => exact ⟨j + 1, by omega, by go_num, hbw⟩
              case measure => simp [intOf]; omega
        · obtain rfl : j = gl.length := by omega
          have HA6 : Hid (Aps wr (.slice ad xs.length cap) xs ∧ Aps wr bk xs.reverse) := ⟨HA5.out.1.later hbw, HA5.out.2.later hbw⟩
          have HB6 : Hid (Below w.heap.size w wr) := HB5.out.trans (hbw.mono HB5.out.size)
          have hlen : ((gl.length : Int) == hl.length) = true := by have := HT2.out; simpa using (by omega : (gl.length : Int) = hl.length)
          clear hbw HA5 HB5 g3 h3
          go_wp2_with fail
          refine (fits13_any xs _ now wr HA6.out.1 (by omega) HW.out HNX.out.1 (by omega) (by omega)).mono ?_
          rintro e w5 ⟨rfl, hb5⟩
          have HA7 : Hid (Aps w5 (.slice ad xs.length cap) xs ∧ Aps w5 bk xs.reverse) := ⟨HA6.out.1.later hb5, HA6.out.2.later hb5⟩
          have HB7 : Hid (Below w.heap.size w w5) := HB6.out.trans (hb5.mono HB6.out.size)
          have HFE : Hid (fitsA xs.reverse now = fitsA xs now) := by show _ = _; unfold fitsA; rw [HTO.out]
          obtain ⟨f, hf⟩ : ∃ f, fitsA xs now = f := ⟨_, rfl⟩
          rw [hf] at HFE ⊢
          clear hb5 HA6 HB6 hf
          go_wp2_with fail
          refine (fits13_any xs.reverse _ now w5 HA7.out.2 (by rw [List.length_reverse]; omega) HNX.out.2.1 HNX.out.2.2 (by omega) (by omega)).mono ?_
          rintro e w6 ⟨rfl, hb6⟩
          rw [HFE.out]
          have HA8 : Hid (Aps w6 (.slice ad xs.length cap) xs ∧ Aps w6 bk xs.reverse) := ⟨HA7.out.1.later hb6, HA7.out.2.later hb6⟩
          have HB8 : Hid (Below w.heap.size w w6) := HB7.out.trans (hb6.mono HB7.out.size)
          clear hb6 HA7 HB7
          have hff : (f == f) = true := by simp
          go_wp2_with fail
          refine (order13_any xs _ w6 HA8.out.1 (by omega) HW.out).mono ?_
          rintro e w7 ⟨u1, rfl, hu1, hb7⟩
          have HA9 : Hid (Aps w7 bk xs.reverse ∧ Nums w7 u1 (idsA (ordA xs))) := ⟨HA8.out.2.later hb7, (Nums.own hu1).1⟩
          have HB9 : Hid (Below w.heap.size w w7) := HB8.out.trans (hb7.mono HB8.out.size)
          clear hb7 HA8 HB8 hu1
          go_wp2_with fail
          refine (order13_any xs.reverse _ w7 HA9.out.1 (by rw [List.length_reverse]; omega) HNX.out.2.1).mono ?_
          rintro e w8 ⟨u2, rfl, hu2, hb8⟩
          rw [HTO.out] at hu2
          have HN1 : Hid (Nums w8 u1 (idsA (ordA xs)) ∧ Nums w8 u2 (idsA (ordA xs))) := ⟨HA9.out.2.later hb8, (Nums.own hu2).1⟩
          have HB10 : Hid (Below w.heap.size w w8) := HB9.out.trans (hb8.mono HB9.out.size)
          have hol : (idsA (ordA xs)).length ≤ 100000 := by rw [idsA_len, ordA_len]; omega
          clear hb8 HA9 HB9 hu2
          go_wp2_with fail
          refine (ints13_any _ _ _ _ w8 HN1.out.1 HN1.out.2 hol).mono ?_
          rintro e w9 ⟨rfl, hb9⟩
          have HB11 : Hid (Below w.heap.size w w9) := HB10.out.trans (hb9.mono HB10.out.size)
          go_wp2_with fail
          go_ret
          exact ⟨ret_b (by simp), HB11.out⟩
end Go.Proofs.Ytjaaabliefcgaaa
/- What the statement DoverRival comes to: in numbers. -/
namespace Go.Proofs.Ytjaaabliefcgaaa
open Go.RowKit Go.Maps Go.Shelf

/-- One that runs at a time, if it may. -/
def rvF (now : Int) (t : Nat) (id : Int) (a : Ap) : Ap := if a.id = id ∧ a.r < a.c ∧ now + t < a.due then ⟨a.id, a.due, a.c, a.v, a.r + 1⟩ else a
/-- What is left of those that must have ended by a time. -/
def totD (D : Int) (xs : List Ap) : Int := totA (xs.filter fun a => decide (a.due ≤ D))
def cntT (now D : Int) : Nat → Int
  | 0 => 0
  | t + 1 => cntT now D t + if now + t < D then 1 else 0
theorem cntT_le (now D : Int) : ∀ t, 0 ≤ cntT now D t ∧ (D ≤ now → cntT now D t = 0) ∧ (now ≤ D → cntT now D t ≤ D - now ∧ cntT now D t ≤ t)
  | 0 => by unfold cntT; omega
  | t + 1 => by
    obtain ⟨h1, h2, h3⟩ := cntT_le now D t
    unfold cntT
    refine ⟨by split <;> omega, fun h => ?_, fun h => ?_⟩
    · have := h2 h
      rw [if_neg (by omega)]
      omega
    · have := h3 h
      split
      · omega
      · omega
theorem rvF_id (now : Int) (t : Nat) (id : Int) (a : Ap) : (rvF now t id a).id = a.id ∧ (rvF now t id a).due = a.due ∧ (rvF now t id a).c = a.c := by unfold rvF; split <;> exact ⟨rfl, rfl, rfl⟩
theorem rvF_other {now : Int} {t : Nat} {id : Int} {a : Ap} (h : a.id ≠ id) : rvF now t id a = a := by unfold rvF; rw [if_neg (fun e => h e.1)]
theorem rvF_map {now : Int} {t : Nat} {id : Int} {xs : List Ap} (h : id ∉ idsA xs) : xs.map (rvF now t id) = xs := by
  induction xs with
  | nil => rfl
  | cons a xs ih =>
    unfold idsA at h ih
    simp only [List.map_cons, List.mem_cons, not_or] at h
    rw [List.map_cons, rvF_other (fun e => h.1 e.symm), ih h.2]
theorem totD_cons (D : Int) (a : Ap) (xs : List Ap) : totD D (a :: xs) = (if a.due ≤ D then a.c - a.r else 0) + totD D xs := by
  unfold totD
  rw [List.filter_cons]
  by_cases h : a.due ≤ D
  · rw [if_pos (decide_eq_true h), if_pos h]; rfl
  · rw [if_neg (by simp [h]), if_neg h]; omega
theorem totD_step (now D : Int) (t : Nat) (id : Int) {xs : List Ap} (hd : (idsA xs).Nodup) : totD D xs - (if now + t < D then 1 else 0) ≤ totD D (xs.map (rvF now t id)) := by
  induction xs with
  | nil => simp [totD, totA]; split <;> omega
  | cons a xs ih =>
    have hd0 := hd
    unfold idsA at hd
    rw [List.map_cons, List.nodup_cons] at hd
    rw [List.map_cons, totD_cons, totD_cons]
    by_cases c : a.id = id
    · rw [rvF_map (xs := xs) (by rw [← c]; exact hd.1)]
      unfold rvF
      by_cases k : a.id = id ∧ a.r < a.c ∧ now + t < a.due
      · rw [if_pos k]
        simp only
        by_cases e : a.due ≤ D
        · rw [if_pos e, if_pos e, if_pos (by omega)]
          omega
        · rw [if_neg e, if_neg e]
          split <;> omega
      · rw [if_neg k]
        split <;> split <;> omega
    · rw [rvF_other c]
      have := ih hd.2
      omega
theorem totD_nonneg {D : Int} {xs : List Ap} (h : ∀ a ∈ xs, a.r ≤ a.c) : 0 ≤ totD D xs := by
  induction xs with
  | nil => simp [totD, totA]
  | cons a xs ih =>
    rw [totD_cons]
    have := ih (fun b hb => h b (by simp [hb]))
    have := h a (by simp)
    split <;> omega
theorem totA_app (P Q : List Ap) : totA (P ++ Q) = totA P + totA Q := by
  induction P with
  | nil => simp [totA]
  | cons a P ih => show _ + totA (P ++ Q) = _ + totA P + totA Q; rw [ih]; omega
theorem totD_pre {D : Int} {P Q : List Ap} (hp : ∀ a ∈ P, a.due ≤ D) (hq : ∀ a ∈ Q, a.r ≤ a.c) : totA P ≤ totD D (P ++ Q) := by
  have e : totD D (P ++ Q) = totA P + totD D Q := by
    unfold totD
    rw [List.filter_append, totA_app, List.filter_eq_self.2 (fun a ha => decide_eq_true (hp a ha))]
  have := totD_nonneg (D := D) hq
  omega
/-- If by no time more must be done than there is till then, each ends in time, in their order. -/
theorem fitL_of {L : List Ap} {now : Int} (hs : L.Pairwise (fun a b => ile a.key b.key)) (hr : ∀ a ∈ L, a.r < a.c) (hD : ∀ D, totD D L ≤ 0 ∨ totD D L ≤ D - now) : ∀ (M P : List Ap), P ++ M = L → fitL (now + totA P) M = true := by
  intro M
  induction M with
  | nil => intro P _; rfl
  | cons a M ih =>
    intro P e
    have e2 : (P ++ [a]) ++ M = L := by rw [← e]; simp
    have hdue : ∀ b ∈ P ++ [a], b.due ≤ a.due := fun b hb => by
      rcases List.mem_append.1 hb with hb | hb
      · have h2 := hs
        rw [← e, List.pairwise_append] at h2
        have := ile_iff.1 (h2.2.2 b hb a (by simp))
        unfold Ap.key at this
        simp only at this
        omega
      · rw [List.mem_singleton] at hb
        rw [hb]; omega
    have h1 := totD_pre (D := a.due) (P := P ++ [a]) (Q := M) hdue (fun b hb => by have := hr b (by rw [← e]; simp [hb]); omega)
    rw [e2, totA_app] at h1
    have h2 : totA [a] = a.c - a.r := by show _ + 0 = _; omega
    have h3 := hr a (by rw [← e]; simp)
    have h4 : 0 ≤ totA P := by
      have hP : ∀ b ∈ P, b.r < b.c := fun b hb => hr b (by rw [← e]; simp [hb])
      clear ih e e2 hdue h1 h2 h3 hs hD
      induction P with
      | nil => simp [totA]
      | cons b P ihP =>
        have := ihP (fun c hc => hP c (by simp [hc]))
        have := hP b (by simp)
        show 0 ≤ _ + totA P
        omega
    have h5 := hD a.due
    unfold fitL
    rw [Bool.and_eq_true]
    refine ⟨decide_eq_true (by omega), ?_⟩
    have := ih (P ++ [a]) e2
    rw [totA_app, h2, ← Int.add_assoc] at this
    exact this
/-- What holds ahead of each time. -/
structure RvI (xs ys : List Ap) (now : Int) (t : Nat) : Prop where
  ids : idsA ys = idsA xs
  ok : ∀ a ∈ ys, 0 ≤ a.r ∧ a.r ≤ a.c ∧ a.c ≤ 40
  tot : ∀ D, totD D xs - cntT now D t ≤ totD D ys
theorem RvI.start {xs : List Ap} {now : Int} (h : ∀ a ∈ xs, mayA a = true) : RvI xs xs now 0 :=
  ⟨rfl, fun a ha => by have := mayA_iff.1 (h a ha); omega, fun D => by unfold cntT; omega⟩
theorem RvI.step {xs ys : List Ap} {now : Int} {t : Nat} (h : RvI xs ys now t) (hd : (idsA xs).Nodup) (id : Int) : RvI xs (ys.map (rvF now t id)) now (t + 1) := by
  have hdy : (idsA ys).Nodup := by rw [h.ids]; exact hd
  refine ⟨?_, fun a ha => ?_, fun D => ?_⟩
  · rw [← h.ids]
    unfold idsA
    rw [List.map_map]
    exact List.map_congr_left (fun a _ => (rvF_id now t id a).1)
  · obtain ⟨b, hb, rfl⟩ := List.mem_map.1 ha
    have := h.ok b hb
    unfold rvF
    split
    · next c => simp only; omega
    · exact this
  · have h1 := totD_step now D t id hdy
    have h2 := h.tot D
    have h3 : cntT now D (t + 1) = cntT now D t + if now + t < D then 1 else 0 := rfl
    omega
theorem RvI.done {xs ys : List Ap} {now : Int} {t : Nat} (h : RvI xs ys now t) (hm : ∀ a ∈ xs, mayA a = true) (hall : ∀ a ∈ ys, ¬ a.r < a.c) : fitsA xs now = true := by
  have hz : ∀ D, totD D ys = 0 := fun D => by
    have hok := h.ok
    clear h
    induction ys with
    | nil => simp [totD, totA]
    | cons a ys ih =>
      rw [totD_cons, ih (fun b hb => hall b (by simp [hb])) (fun b hb => hok b (by simp [hb]))]
      have h1 := hok a (by simp)
      have h2 := hall a (by simp)
      split <;> omega
  have hso : (ordA xs).Pairwise (fun a b => ile a.key b.key) := List.pairwise_map.1 (ordA_srtd xs)
  have := fitL_of (L := ordA xs) (now := now) hso (fun a ha => mayA_run (hm a ((ordA_perm xs).mem_iff.1 ha))) (fun D => ?_) (ordA xs) [] rfl
  · have e : now + totA [] = now := by show now + 0 = now; omega
    rw [e] at this
    exact this
  · have e : totD D (ordA xs) = totD D xs := totA_perm ((ordA_perm xs).filter _)
    have h1 := h.tot D
    rw [hz D] at h1
    obtain ⟨c1, c2, c3⟩ := cntT_le now D t
    rw [e]
    by_cases hD : D ≤ now
    · have := c2 hD; exact .inl (by omega)
    · have := c3 (by omega); exact .inr (by omega)
def mixF (f : Ap → Ap) (ys : List Ap) (i k : Nat) : Ap := if k < i then f (atA ys k) else atA ys k
theorem mix_up (f : Ap → Ap) (ys : List Ap) (i k : Nat) : upR (mixF f ys i) i (f (atA ys i)) k = mixF f ys (i + 1) k := by
  unfold upR mixF
  by_cases c : k = i
  · subst c; rw [if_pos rfl, if_pos (by omega)]
  · rw [if_neg c]
    by_cases d : k < i
    · rw [if_pos d, if_pos (by omega)]
    · rw [if_neg d, if_neg (by omega)]
theorem mix_same {f : Ap → Ap} {ys : List Ap} {i : Nat} (h : f (atA ys i) = atA ys i) (k : Nat) : mixF f ys i k = mixF f ys (i + 1) k := by
  unfold mixF
  by_cases c : k = i
  · subst c; rw [if_neg (by omega), if_pos (by omega), h]
  · by_cases d : k < i
    · rw [if_pos d, if_pos (by omega)]
    · rw [if_neg d, if_neg (by omega)]
theorem mix_end (f : Ap → Ap) (ys : List Ap) {k : Nat} (h : k < ys.length) : mixF f ys ys.length k = atA (ys.map f) k := by
  unfold mixF
  rw [if_pos h]
  exact (atA_of (by rw [List.getElem?_map, atA_get h]; rfl)).symm
end Go.Proofs.Ytjaaabliefcgaaa
/- What the statement DoverRival comes to. -/
namespace Go.Proofs.Ytjaaabliefcgaaa
open Go.RowKit Go.Maps Go.Shelf

theorem OwnR.at5 {w : World} {base b n cap : Nat} {f : Nat → Ap} (h : OwnR recA w base 30 (.slice (some ⟨b, 0, none⟩) n cap) n f) {i : Nat} (hi : i < n) : w.cell? ⟨b, i * 5, none⟩ = some (.int .i64 (f i).id) ∧ w.cell? ⟨b, i * 5 + 1, none⟩ = some (.int .i64 (f i).due) ∧ w.cell? ⟨b, i * 5 + 2, none⟩ = some (.int .i64 (f i).c) ∧ w.cell? ⟨b, i * 5 + 3, none⟩ = some (.int .i64 (f i).v) ∧ w.cell? ⟨b, i * 5 + 4, none⟩ = some (.int .i64 (f i).r) ∧ w.frozen? ⟨b, i * 5 + 4, none⟩ = false :=
  ⟨(h.cell hi (j := 0) (by decide)).1, (h.cell hi (j := 1) (by decide)).1, (h.cell hi (j := 2) (by decide)).1, (h.cell hi (j := 3) (by decide)).1, (h.cell hi (j := 4) (by decide)).1, (h.cell hi (j := 4) (by decide)).2⟩
theorem OwnR.set4 {w : World} {base b n cap : Nat} {f : Nat → Ap} (h : OwnR recA w base 30 (.slice (some ⟨b, 0, none⟩) n cap) n f) {i : Nat} (hi : i < n) {a : Ap} (ha : f i = a) (r : Int) : OwnR recA (w.setCell ⟨b, i * 5 + 4, none⟩ (.int .i64 r)) base 30 (.slice (some ⟨b, 0, none⟩) n cap) n (upR f i ⟨a.id, a.due, a.c, a.v, r⟩) :=
  OwnR.set (R := recA) h hi (j := 4) (by decide) (by rw [ha]; rfl)
theorem OwnR.keptB {w w' : World} {base n : Nat} {v : Value} {f : Nat → Ap} (h : OwnR recA w base 30 v n f) (hb : Below w.heap.size w w') : OwnR recA w' base 30 v n f := OwnR.later h hb

set_option maxHeartbeats 2000000 in
set_option maxRecDepth 100000 in
theorem law_drival (xs : List Ap) (v : Value) (now : Int) (who : List Int) (u : Value) (w : World) (h : Aps w v xs) (hw : ∀ a ∈ xs, wfK a.key) (hu : Nums w u who) :
    Calls Try.prog 6 #[v, .int .i64 now, u] w fun e w' => e = .returned (.bool true) ∧ Below w.heap.size w w' := by
  have HA : Hid (Aps w v xs) := h
  have HW : Hid (∀ a ∈ xs, wfK a.key) := hw
  have HU : Hid (Nums w u who) := hu
  obtain ⟨ua, uc, rfl, q1, q2, _⟩ := hu
  clear h hw
  go_enter Try.func6, Try.ntmps6
  go_wp2_with fail
  refine (awake13_any _).mono ?_
  rintro e w1 ⟨rfl, hb1⟩
  have HA1 : Hid (Aps w1 v xs) := HA.out.later hb1
  go_wp2_with fail
  refine (may13_any xs v now w1 HA1.out HW.out).mono ?_
  rintro e w2 ⟨rfl, hb2⟩
  have hB2 := hb1.trans (hb2.mono hb1.size)
  have HA2 : Hid (Aps w2 v xs) := HA1.out.later hb2
  obtain ⟨p, hp⟩ : ∃ p, mayL xs now = p := ⟨_, rfl⟩
  have HM : Hid (mayL xs now = p) := hp
  rw [hp]
  clear hp hb1 hb2 HA1
  cases p
  · go_wp2_with fail
    go_ret
    exact ⟨rfl, hB2⟩
  obtain ⟨n4, ⟨n0, n1⟩, nd, hall⟩ := mayL_iff.1 HM.out
  have HMX : Hid ((∀ a ∈ xs, mayA a = true) ∧ (idsA xs).Nodup ∧ nearL xs) := ⟨hall, nd, fun a ha => mayA_near (hall a ha)⟩
  clear nd hall
  by_cases hwl : (400 : Int) < who.length
  · go_wp2_with fail
    go_ret
    exact ⟨rfl, hB2⟩
  by_cases hn38 : 274877906944 < now
  · go_wp2_with fail
    go_ret
    exact ⟨rfl, hB2⟩
  have HU2 : Hid (Nums w2 (.slice ua who.length uc) who) := HU.out.later hB2
  go_wp2_with (first
    | (at_builtin; refine append_rws (R := recA) Try.underlying22 Try.infoApe rfl (by omega) rfl _ _ rfl w2.heap.size (.slice none 0 0) v 0 xs.length (fun _ => apZ) (atA xs) rfl (OwnR.nil _ _ _ _ _) rfl HA2.out (by omega) (Nat.le_refl _) ?_; intro lv w3 ho3 hb3))
  have hO3 := OwnR.same (f := fun _ => apZ) (by exact ho3)
  have hl3 := OwnR.open hO3
  obtain ⟨la, lcap, rfl, ll⟩ : ∃ la lcap, lv = .slice la xs.length lcap ∧ (0 < xs.length → ∃ g, la = some ⟨g, 0, none⟩) := by
    rcases hl3 with ⟨rfl, e⟩ | ⟨g, cap, rfl, _⟩
    · rw [e]; exact ⟨none, 0, rfl, fun h => by omega⟩
    · exact ⟨_, _, rfl, fun _ => ⟨g, rfl⟩⟩
  have H3 : Hid (OwnR recA w3 w2.heap.size 30 (.slice la xs.length lcap) xs.length (atA xs) ∧ xs.length = xs.length ∧ RvI xs xs now 0 ∧ Below w2.heap.size w2 w3) := ⟨hO3, rfl, RvI.start HMX.out.1, hb3⟩
  clear hO3 hl3 ho3 hb3
  go_wp2_with fail
  go_loopw [9] (fun i wr => ∃ (t : Nat) (ys : List Ap), t ≤ who.length ∧ i = .int .i64 t ∧ Hid (OwnR recA wr w2.heap.size 30 (.slice la xs.length lcap) xs.length (atA ys) ∧ ys.length = xs.length ∧ RvI xs ys now t ∧ Below w2.heap.size w2 wr)) (fun i _ => ((who.length : Int) - intOf i).toNat)
  case atStart => exact ⟨0, xs, by omega, rfl, ⟨H3.out.1, rfl, H3.out.2.2.1, H3.out.2.2.2⟩⟩
  case round =>
    clear H3
    obtain ⟨t, ys, ht, rfl, HH⟩ := hrel
    by_cases htl : (t : Int) < who.length
    · obtain ⟨id, hid⟩ : ∃ id, who.getD t 0 = id := ⟨_, rfl⟩
      obtain ⟨ub, uo, hub, _⟩ : ∃ b o, ua = some ⟨b, o, none⟩ ∧ True := by
        obtain ⟨_, _, e', _, _, h4⟩ := HU2.out
        obtain ⟨b, o, e2, _⟩ := h4 (by intro e; rw [e] at htl; simp at htl; omega)
        simp only [Value.slice.injEq] at e'
        exact ⟨b, o, by rw [e'.1, e2], trivial⟩
      subst hub
      have HUC : Hid (w2.cell? ⟨ub, uo + t, none⟩ = some (.int .i64 id)) := by
        obtain ⟨_, _, e', _, _, h4⟩ := HU2.out
        obtain ⟨b, o, e2, h5⟩ := h4 (by intro e; rw [e] at htl; simp at htl; omega)
        simp only [Value.slice.injEq] at e'
        rw [e2] at e'
        simp only [Option.some.injEq, Addr.mk.injEq, and_true] at e'
        obtain ⟨⟨rfl, rfl⟩, _⟩ := e'
        show w2.cell? _ = _
        rw [← hid]
        exact h5 t (by omega)
      clear hid
      have HRI : Hid (RvI xs ys now t ∧ ys.length = xs.length) := ⟨HH.out.2.2.1, HH.out.2.1⟩
      have H4 : Hid (OwnR recA wr w2.heap.size 30 (.slice la xs.length lcap) xs.length (mixF (rvF now t id) ys 0) ∧ Below w2.heap.size w2 wr) := ⟨OwnR.congr HH.out.1 (fun k _ => by unfold mixF; rw [if_neg (Nat.not_lt_zero k)]), HH.out.2.2.2⟩
      have hnt : IntKind.i64.wrap (now + (t : Int)) = now + t := wrap_near (by omega) (by omega)
      clear HH
      go_wp2_with fail
      go_loopw [10] (fun i wr => ∃ (k : Nat), k ≤ xs.length ∧ i = .int .i64 k ∧ Hid (OwnR recA wr w2.heap.size 30 (.slice la xs.length lcap) xs.length (mixF (rvF now t id) ys k) ∧ Below w2.heap.size w2 wr)) (fun i _ => ((xs.length : Int) - intOf i).toNat)
      case atStart => exact ⟨0, by omega, rfl, H4.out⟩
      case round =>
        clear H4
        obtain ⟨k, hk, rfl, HK⟩ := hrel
        by_cases hkl : (k : Int) < xs.length
        rotate_left
        · obtain rfl : k = xs.length := by omega
          have H5 : Hid (OwnR recA wr w2.heap.size 30 (.slice la xs.length lcap) xs.length (atA (ys.map (rvF now t id))) ∧ (ys.map (rvF now t id)).length = xs.length ∧ RvI xs (ys.map (rvF now t id)) now (t + 1) ∧ Below w2.heap.size w2 wr) := by
            have e1 := HRI.out.2
            refine ⟨OwnR.congr HK.out.1 (fun i hi => ?_), by rw [List.length_map]; exact e1, HRI.out.1.step HMX.out.2.1 id, HK.out.2⟩
            rw [← e1] at hi ⊢
            exact mix_end _ _ hi
          clear HK
          go_wp2_with fail
          go_roundw
          case rel => exact ⟨t + 1, _, by omega, by go_num, H5.out⟩
          case measure => simp [intOf]; omega
        obtain ⟨g, hg⟩ := ll (by omega)
        subst hg
        obtain ⟨c0, c1, c2, _, c4, f4⟩ := OwnR.at5 HK.out.1 (i := k) (by omega)
        have emx : mixF (rvF now t id) ys k k = atA ys k := by unfold mixF; rw [if_neg (Nat.lt_irrefl k)]
        rw [emx] at c0 c1 c2 c4
        have cw := cell_later HK.out.2 HUC.out
        have hok := HRI.out.1.ok _ (atA_mem (show k < ys.length by have := HRI.out.2; omega))
        have HUP : Hid (∀ i, upR (mixF (rvF now t id) ys k) k (rvF now t id (atA ys k)) i = mixF (rvF now t id) ys (k + 1) i) := mix_up _ _ _
        have HSM : Hid (rvF now t id (atA ys k) = atA ys k → ∀ i, mixF (rvF now t id) ys k i = mixF (rvF now t id) ys (k + 1) i) := fun e => mix_same e
        have HEM : Hid (mixF (rvF now t id) ys k k = atA ys k) := emx
        clear emx ll
        generalize atA ys k = a at *
        obtain ⟨ii, dd, cc, vv, rr⟩ := a
        simp only at c0 c1 c2 c4 hok
        by_cases e1 : ii = id
        rotate_left
        · have e1' : (ii == id) = false := by simpa using e1
          have H6 : Hid (OwnR recA wr w2.heap.size 30 (.slice (some ⟨g, 0, none⟩) xs.length lcap) xs.length (mixF (rvF now t id) ys (k + 1)) ∧ Below w2.heap.size w2 wr) := ⟨OwnR.congr HK.out.1 (fun i _ => HSM.out (rvF_other e1) i), HK.out.2⟩
          clear e1 HK HUP HSM HEM
          go_wp2_with fail
          go_quiet (fail)
          go_wp2_with fail
          go_roundw
          case rel => exact ⟨k + 1, by omega, by go_num, H6.out.1, ⟨H6.out.2.os, H6.out.2.tape, H6.out.2.output, H6.out.2.size, H6.out.2.block⟩⟩
          case measure => simp [intOf]; omega
        have e1' : (ii == id) = true := by simpa using e1
        by_cases e2 : rr < cc
        rotate_left
        · have e2' : decide (rr < cc) = false := decide_eq_false e2
          have H6 : Hid (OwnR recA wr w2.heap.size 30 (.slice (some ⟨g, 0, none⟩) xs.length lcap) xs.length (mixF (rvF now t id) ys (k + 1)) ∧ Below w2.heap.size w2 wr) := ⟨OwnR.congr HK.out.1 (fun i _ => HSM.out (by unfold rvF; rw [if_neg (fun q => e2 q.2.1)]) i), HK.out.2⟩
          clear e1 HK HUP HSM HEM
          go_wp2_with fail
          go_quiet (fail)
          go_wp2_with fail
          go_roundw
          case rel => exact ⟨k + 1, by omega, by go_num, H6.out.1, ⟨H6.out.2.os, H6.out.2.tape, H6.out.2.output, H6.out.2.size, H6.out.2.block⟩⟩
          case measure => simp [intOf]; omega
        have e2' : decide (rr < cc) = true := decide_eq_true e2
        by_cases e3 : now + (t : Int) < dd
        rotate_left
        · have e3' : decide (now + (t : Int) < dd) = false := decide_eq_false e3
          have H6 : Hid (OwnR recA wr w2.heap.size 30 (.slice (some ⟨g, 0, none⟩) xs.length lcap) xs.length (mixF (rvF now t id) ys (k + 1)) ∧ Below w2.heap.size w2 wr) := ⟨OwnR.congr HK.out.1 (fun i _ => HSM.out (by unfold rvF; rw [if_neg (fun q => e3 q.2.2)]) i), HK.out.2⟩
          clear e1 HK HUP HSM HEM
          go_wp2_with fail
          go_quiet (fail)
          go_wp2_with fail
          go_roundw
          case rel => exact ⟨k + 1, by omega, by go_num, H6.out.1, ⟨H6.out.2.os, H6.out.2.tape, H6.out.2.output, H6.out.2.size, H6.out.2.block⟩⟩
          case measure => simp [intOf]; omega
        have e3' : decide (now + (t : Int) < dd) = true := decide_eq_true e3
        have hwr : IntKind.i64.wrap (rr + 1) = rr + 1 := wrap_near (by omega) (by omega)
        have H6 : Hid (OwnR recA (wr.setCell ⟨g, k * 5 + 4, none⟩ (.int .i64 (rr + 1))) w2.heap.size 30 (.slice (some ⟨g, 0, none⟩) xs.length lcap) xs.length (mixF (rvF now t id) ys (k + 1)) ∧ Below w2.heap.size w2 (wr.setCell ⟨g, k * 5 + 4, none⟩ (.int .i64 (rr + 1)))) := by
          refine ⟨OwnR.congr (OwnR.set4 HK.out.1 (i := k) (by omega) HEM.out (rr + 1)) (fun i _ => ?_), HK.out.2.setCell (p := ⟨g, k * 5 + 4, none⟩) (by have := HK.out.1; unfold OwnR at this; exact (this.lt g rfl).1) _⟩
          have e : rvF now t id ⟨ii, dd, cc, vv, rr⟩ = ⟨ii, dd, cc, vv, rr + 1⟩ := by unfold rvF; rw [if_pos ⟨e1, e2, e3⟩]
          rw [← HUP.out i, e]
        clear e1 HK HUP HSM HEM
        go_wp2_with fail
        go_quiet (fail)
        go_wp2_with fail
        go_roundw
        case rel => exact ⟨k + 1, by omega, by go_num, H6.out.1, ⟨H6.out.2.os, H6.out.2.tape, H6.out.2.output, H6.out.2.size, H6.out.2.block⟩⟩
        case measure => simp [intOf]; omega
    · obtain rfl : t = who.length := by omega
      have HB3 : Hid (Below w.heap.size w wr) := hB2.trans (HH.out.2.2.2.mono hB2.size)
      have HA3 : Hid (Aps wr v xs) := HA2.out.later HH.out.2.2.2
      clear htl
      generalize hwo : wr = wo at *
      clear hwo
      go_wp2_with fail
      go_loopw [11] (fun i wz => ∃ (k : Nat), k ≤ xs.length ∧ i = .int .i64 k ∧ Hid (∀ j, j < k → (atA ys j).c ≤ (atA ys j).r) ∧ Below wo.heap.size wo wz) (fun i _ => ((xs.length : Int) - intOf i).toNat)
      case atStart => exact ⟨0, by omega, rfl, fun j hj => by omega, Below.refl _ _⟩
      case round =>
        obtain ⟨k, hk, rfl, HJ, hbw⟩ := hrel
        by_cases hkl : (k : Int) < xs.length
        · obtain ⟨g, hg⟩ := ll (by omega)
          subst hg
          obtain ⟨_, _, c2, _, c4, _⟩ := OwnR.at5 HH.out.1 (i := k) (by omega)
          have d2 := cell_later hbw c2
          have d4 := cell_later hbw c4
          have HN : Hid ((atA ys k).c ≤ (atA ys k).r → ∀ j, j < k + 1 → (atA ys j).c ≤ (atA ys j).r) := fun e j hj => by
            rcases (show j = k ∨ j < k by omega) with rfl | h
            · exact e
            · exact HJ.out j h
          clear c2 c4 ll HJ
          generalize atA ys k = a at *
          obtain ⟨ii, dd, cc, vv, rr⟩ := a
          simp only at d2 d4 HN
          by_cases e2 : rr < cc
          · have e2' : decide (rr < cc) = true := decide_eq_true e2
            clear HN
            go_wp2_with fail
            go_quiet (fail)
            go_wp2_with fail
            go_ret
            exact ⟨rfl, HB3.out.trans (Below.mono ⟨hbw.os, hbw.tape, hbw.output, hbw.size, hbw.block⟩ HB3.out.size)⟩
          · have e2' : decide (rr < cc) = false := decide_eq_false e2
            have HN2 : Hid (∀ j, j < k + 1 → (atA ys j).c ≤ (atA ys j).r) := HN.out (by omega)
            clear HN
            go_wp2_with fail
            go_quiet (fail)
            go_wp2_with fail
            go_roundw
            case rel => exact ⟨k + 1, by omega, by go_num, HN2.out, ⟨hbw.os, hbw.tape, hbw.output, hbw.size, hbw.block⟩⟩
            case measure => simp [intOf]; omega
        · obtain rfl : k = xs.length := by omega
          have HF : Hid (fitsA xs now = true) := HH.out.2.2.1.done HMX.out.1 (fun a ha => by
            obtain ⟨j, hj, e⟩ := List.getElem_of_mem ha
            have := HJ.out j (by have := HH.out.2.1; omega)
            rw [atA_of (List.getElem?_eq_getElem hj), e] at this
            omega)
          have HA4 : Hid (Aps wr v xs) := HA3.out.later hbw
          have HB4 : Hid (Below w.heap.size w wr) := HB3.out.trans (hbw.mono HB3.out.size)
          clear hbw HJ HH HA3 HB3
          go_wp2_with fail
          refine (fits13_any xs v now _ HA4.out (by omega) HW.out HMX.out.2.2 (by omega) (by omega)).mono ?_
          rintro e w9 ⟨rfl, hb9⟩
          rw [HF.out]
          go_wp2_with fail
          go_ret
          exact ⟨rfl, HB4.out.trans (hb9.mono HB4.out.size)⟩
end Go.Proofs.Ytjaaabliefcgaaa
/- What the statement DoverWaits comes to: in numbers. -/
namespace Go.Proofs.Ytjaaabliefcgaaa
open Go.RowKit Go.Maps Go.Shelf

theorem totD_none {D : Int} {xs : List Ap} (h : ∀ a ∈ xs, ¬ a.due ≤ D) : totD D xs = 0 := by
  unfold totD
  rw [List.filter_eq_nil_iff.2 (fun a ha => by simpa using h a ha)]
  rfl
theorem fitL_tot {L : List Ap} : ∀ {now : Int}, L.Pairwise (fun a b => ile a.key b.key) → fitL now L = true → ∀ D, (∃ a ∈ L, a.due ≤ D) → now + totD D L ≤ D := by
  induction L with
  | nil => intro now _ _ D h; obtain ⟨a, ha, _⟩ := h; simp at ha
  | cons a M ih =>
    intro now hs hf D hex
    rw [List.pairwise_cons] at hs
    unfold fitL at hf
    rw [Bool.and_eq_true] at hf
    have h1 := of_decide_eq_true hf.1
    rw [totD_cons]
    by_cases c : ∃ b ∈ M, b.due ≤ D
    · have h2 := ih hs.2 hf.2 D c
      obtain ⟨b, hb, hbd⟩ := c
      have h3 := ile_iff.1 (hs.1 b hb)
      unfold Ap.key at h3
      simp only at h3
      rw [if_pos (by omega)]
      omega
    · have h2 : totD D M = 0 := totD_none (fun b hb hbd => c ⟨b, hb, hbd⟩)
      have h3 : a.due ≤ D := by
        obtain ⟨b, hb, hbd⟩ := hex
        rcases List.mem_cons.1 hb with rfl | hb
        · exact hbd
        · exact absurd ⟨b, hb, hbd⟩ c
      rw [if_pos h3, h2]
      omega
theorem fitL_of2 {L : List Ap} {now : Int} (hs : L.Pairwise (fun a b => ile a.key b.key)) (hr : ∀ a ∈ L, a.r ≤ a.c) (hD : ∀ a ∈ L, now + totD a.due L ≤ a.due) : ∀ (M P : List Ap), P ++ M = L → fitL (now + totA P) M = true := by
  intro M
  induction M with
  | nil => intro P _; rfl
  | cons a M ih =>
    intro P e
    have e2 : (P ++ [a]) ++ M = L := by rw [← e]; simp
    have hdue : ∀ b ∈ P ++ [a], b.due ≤ a.due := fun b hb => by
      rcases List.mem_append.1 hb with hb | hb
      · have h2 := hs
        rw [← e, List.pairwise_append] at h2
        have := ile_iff.1 (h2.2.2 b hb a (by simp))
        unfold Ap.key at this
        simp only at this
        omega
      · rw [List.mem_singleton] at hb
        rw [hb]; omega
    have h1 := totD_pre (D := a.due) (P := P ++ [a]) (Q := M) hdue (fun b hb => hr b (by rw [← e]; simp [hb]))
    rw [e2, totA_app] at h1
    have h2 : totA [a] = a.c - a.r := by show _ + 0 = _; omega
    have h5 := hD a (by rw [← e]; simp)
    unfold fitL
    rw [Bool.and_eq_true]
    refine ⟨decide_eq_true (by omega), ?_⟩
    have := ih (P ++ [a]) e2
    rw [totA_app, h2, ← Int.add_assoc] at this
    exact this
theorem fits_tot {xs : List Ap} {now : Int} (h : fitsA xs now = true) : ∀ a ∈ xs, now + totD a.due xs ≤ a.due := fun a ha => by
  have hso : (ordA xs).Pairwise (fun a b => ile a.key b.key) := List.pairwise_map.1 (ordA_srtd xs)
  have := fitL_tot hso h a.due ⟨a, (ordA_perm xs).mem_iff.2 ha, Int.le_refl _⟩
  have e : totD a.due (ordA xs) = totD a.due xs := totA_perm ((ordA_perm xs).filter _)
  rwa [e] at this
theorem fits_of_tot {xs : List Ap} {now : Int} (hr : ∀ a ∈ xs, a.r ≤ a.c) (h : ∀ a ∈ xs, now + totD a.due xs ≤ a.due) : fitsA xs now = true := by
  have hso : (ordA xs).Pairwise (fun a b => ile a.key b.key) := List.pairwise_map.1 (ordA_srtd xs)
  have hm : ∀ a ∈ ordA xs, a ∈ xs := fun a ha => (ordA_perm xs).mem_iff.1 ha
  have := fitL_of2 hso (now := now) (fun a ha => hr a (hm a ha)) (fun a ha => by
    have e : totD a.due (ordA xs) = totD a.due xs := totA_perm ((ordA_perm xs).filter _)
    rw [e]
    exact h a (hm a ha)) (ordA xs) [] rfl
  have e : now + totA [] = now := by show now + 0 = now; omega
  rw [e] at this
  exact this
theorem totD_app (D : Int) (P Q : List Ap) : totD D (P ++ Q) = totD D P + totD D Q := by
  unfold totD
  rw [List.filter_append, totA_app]
/-- Without one. -/
def lesA (xs : List Ap) (i : Nat) : List Ap := xs.take i ++ xs.drop (i + 1)
def shtA (xs : List Ap) (i : Nat) (b : Ap) : List Ap := xs.take i ++ b :: xs.drop (i + 1)
theorem split_at {xs : List Ap} {i : Nat} (h : i < xs.length) : xs = xs.take i ++ atA xs i :: xs.drop (i + 1) := by
  rw [← dropA_next h, List.take_append_drop]
theorem fits_less {xs : List Ap} {now : Int} {i : Nat} (hi : i < xs.length) (hr : ∀ a ∈ xs, a.r ≤ a.c) (h : fitsA xs now = true) : fitsA (lesA xs i) now = true := by
  have hs := split_at hi
  have hsub : ∀ a ∈ lesA xs i, a ∈ xs := fun a ha => by
    rw [hs]
    unfold lesA at ha
    rcases List.mem_append.1 ha with ha | ha
    · exact List.mem_append.2 (.inl ha)
    · exact List.mem_append.2 (.inr (List.mem_cons_of_mem _ ha))
  refine fits_of_tot (fun a ha => hr a (hsub a ha)) (fun a ha => ?_)
  have h1 := fits_tot h a (hsub a ha)
  have h2 : totD a.due xs = totD a.due (xs.take i) + ((if (atA xs i).due ≤ a.due then (atA xs i).c - (atA xs i).r else 0) + totD a.due (xs.drop (i + 1))) := by
    conv => lhs; rw [hs]
    rw [totD_app, totD_cons]
  have h3 : totD a.due (lesA xs i) = totD a.due (xs.take i) + totD a.due (xs.drop (i + 1)) := totD_app _ _ _
  have h4 := hr _ (atA_mem hi)
  split at h2 <;> omega
theorem fits_short {xs : List Ap} {now : Int} {i : Nat} (hi : i < xs.length) (hr : ∀ a ∈ xs, a.r < a.c) (h : fitsA xs now = true) : fitsA (shtA xs i ⟨(atA xs i).id, (atA xs i).due, (atA xs i).c, (atA xs i).v, (atA xs i).r + 1⟩) now = true := by
  have hs := split_at hi
  have h4 := hr _ (atA_mem hi)
  have hsub : ∀ a ∈ shtA xs i ⟨(atA xs i).id, (atA xs i).due, (atA xs i).c, (atA xs i).v, (atA xs i).r + 1⟩, (∃ b ∈ xs, b.due = a.due) ∧ a.r ≤ a.c := fun a ha => by
    unfold shtA at ha
    rcases List.mem_append.1 ha with ha | ha
    · have hx : a ∈ xs := by rw [hs]; exact List.mem_append.2 (.inl ha)
      have := hr a hx
      exact ⟨⟨a, hx, rfl⟩, by omega⟩
    · rcases List.mem_cons.1 ha with rfl | ha
      · exact ⟨⟨atA xs i, atA_mem hi, rfl⟩, by simp only; omega⟩
      · have hx : a ∈ xs := by rw [hs]; exact List.mem_append.2 (.inr (List.mem_cons_of_mem _ ha))
        have := hr a hx
        exact ⟨⟨a, hx, rfl⟩, by omega⟩
  refine fits_of_tot (fun a ha => (hsub a ha).2) (fun a ha => ?_)
  obtain ⟨⟨b, hb, e⟩, _⟩ := hsub a ha
  have h1 := fits_tot h b hb
  rw [e] at h1
  have h2 : totD a.due xs = totD a.due (xs.take i) + ((if (atA xs i).due ≤ a.due then (atA xs i).c - (atA xs i).r else 0) + totD a.due (xs.drop (i + 1))) := by
    conv => lhs; rw [hs]
    rw [totD_app, totD_cons]
  have h3 : totD a.due (shtA xs i ⟨(atA xs i).id, (atA xs i).due, (atA xs i).c, (atA xs i).v, (atA xs i).r + 1⟩) = totD a.due (xs.take i) + ((if (atA xs i).due ≤ a.due then (atA xs i).c - ((atA xs i).r + 1) else 0) + totD a.due (xs.drop (i + 1))) := by
    unfold shtA
    rw [totD_app, totD_cons]
  split at h2 <;> split at h3 <;> omega
theorem fits_one (a : Ap) (now : Int) : fitsA [a] now = decide (0 ≤ laxA a now) := by
  have e : fitsA [a] now = (decide (now + (a.c - a.r) ≤ a.due) && true) := rfl
  rw [e, Bool.and_true]
  unfold laxA
  exact decide_eq_decide.2 (by omega)
theorem les_len (xs : List Ap) (i : Nat) : (lesA xs i).length ≤ xs.length := by
  unfold lesA; rw [List.length_append, List.length_take, List.length_drop]; omega
theorem sht_len {xs : List Ap} {i : Nat} (h : i < xs.length) (b : Ap) : (shtA xs i b).length = xs.length := by
  unfold shtA; rw [List.length_append, List.length_cons, List.length_take, List.length_drop]; omega
theorem sht_at {xs : List Ap} {i : Nat} (h : i < xs.length) (b : Ap) (k : Nat) : atA (shtA xs i b) k = upR (atA xs) i b k := by
  have hs := split_at h
  have hl : (xs.take i).length = i := by rw [List.length_take]; omega
  have get : ∀ (c : Ap), (xs.take i ++ c :: xs.drop (i + 1))[k]? = if k < i then (xs.take i)[k]? else if k = i then some c else (xs.drop (i + 1))[k - i - 1]? := fun c => by
    by_cases c1 : k < i
    · rw [if_pos c1, List.getElem?_append_left (by omega)]
    · rw [if_neg c1, List.getElem?_append_right (by omega), hl]
      by_cases c2 : k = i
      · rw [if_pos c2, c2, Nat.sub_self]; rfl
      · rw [if_neg c2]
        obtain ⟨m, hm⟩ : ∃ m, k - i = m + 1 := ⟨k - i - 1, by omega⟩
        rw [hm, List.getElem?_cons_succ]; rfl
  unfold upR atA List.getD shtA
  rw [get b]
  by_cases c2 : k = i
  · rw [if_pos c2, if_neg (by omega), if_pos c2]; rfl
  · rw [if_neg c2, if_neg c2]
    conv => rhs; rw [hs]
    rw [get, if_neg c2]
end Go.Proofs.Ytjaaabliefcgaaa
/- What the statement DoverWaits comes to. -/
namespace Go.Proofs.Ytjaaabliefcgaaa
open Go.RowKit Go.Maps Go.Shelf

theorem les_row {w : World} {base : Nat} {v : Value} {xs : List Ap} {j : Nat} (hj : j < xs.length) (h : OwnR recA w base 30 v (0 + j + (xs.length - (j + 1))) (catR (0 + j) (catR 0 (fun _ => apZ) (atA xs)) (fun t => atA xs (j + 1 + t)))) : Aps w v (lesA xs j) := by
  have e : 0 + j + (xs.length - (j + 1)) = (lesA xs j).length := by unfold lesA; rw [List.length_append, List.length_take, List.length_drop]; omega
  have hr := OwnR.rws h
  rw [e] at hr
  refine hr.congr (fun i hi => ?_)
  rw [Nat.zero_add]
  unfold lesA atA List.getD at *
  have hl : (xs.take j).length = j := by rw [List.length_take]; omega
  by_cases c : i < j
  · rw [catR_left c, catR_zero, List.getElem?_append_left (by omega), List.getElem?_take, if_pos c]
  · rw [catR_right (by omega), List.getElem?_append_right (by omega), hl, List.getElem?_drop]
set_option maxHeartbeats 2000000 in
set_option maxRecDepth 100000 in
theorem law_dwaits (xs : List Ap) (v : Value) (now i : Int) (w : World) (h : Aps w v xs) (hw : ∀ a ∈ xs, wfK a.key) :
    Calls Try.prog 8 #[v, .int .i64 now, .int .i64 i] w fun e w' => e = .returned (.bool true) ∧ Below w.heap.size w w' := by
  have HA : Hid (Aps w v xs) := h
  have HW : Hid (∀ a ∈ xs, wfK a.key) := hw
  obtain ⟨ad, cap, rfl, l1, l2, l3, _⟩ := h.open
  clear h hw
  go_enter Try.func8, Try.ntmps8
  go_wp2_with fail
  refine (awake13_any _).mono ?_
  rintro e w1 ⟨rfl, hb1⟩
  have HA1 : Hid (Aps w1 (.slice ad xs.length cap) xs) := HA.out.later hb1
  go_wp2_with fail
  refine (may13_any xs _ now w1 HA1.out HW.out).mono ?_
  rintro e w2 ⟨rfl, hb2⟩
  have hB2 := hb1.trans (hb2.mono hb1.size)
  have HA2 : Hid (Aps w2 (.slice ad xs.length cap) xs) := HA1.out.later hb2
  obtain ⟨p, hp⟩ : ∃ p, mayL xs now = p := ⟨_, rfl⟩
  have HM : Hid (mayL xs now = p) := hp
  rw [hp]
  clear hp hb1 hb2 HA1 HA
  cases p
  · go_wp2_with fail
    go_ret
    exact ⟨rfl, hB2⟩
  obtain ⟨n4, ⟨n0, n1⟩, nd, hall⟩ := mayL_iff.1 HM.out
  have HMX : Hid ((∀ a ∈ xs, mayA a = true) ∧ (idsA xs).Nodup ∧ nearL xs) := ⟨hall, nd, fun a ha => mayA_near (hall a ha)⟩
  clear nd hall
  by_cases hi0 : i < 0
  · go_wp2_with fail
    go_ret
    exact ⟨rfl, hB2⟩
  by_cases hin : (xs.length : Int) ≤ i
  · go_wp2_with fail
    go_ret
    exact ⟨rfl, hB2⟩
  by_cases hn38 : 274877906944 < now
  · go_wp2_with fail
    go_ret
    exact ⟨rfl, hB2⟩
  obtain ⟨j, rfl⟩ : ∃ j : Nat, i = j := ⟨i.toNat, by omega⟩
  have hj : j < xs.length := by omega
  obtain ⟨bk, o, hbk, _⟩ : ∃ bk o, ad = some ⟨bk, o, none⟩ ∧ True := by
    obtain ⟨_, _, e', _, _, _, h4⟩ := HA2.out.open
    obtain ⟨b, o, e2, _⟩ := h4 (by omega)
    simp only [Value.slice.injEq] at e'
    exact ⟨b, o, by rw [e'.1, e2], trivial⟩
  subst hbk
  obtain ⟨c0, c1, c2, c3, c4⟩ := HA2.out.at5 hj
  have sb : bk < w2.heap.size := World.block_lt_of_cell? _ _ c0
  have hmj := mayA_iff.1 (HMX.out.1 _ (atA_mem hj))
  have HNA : Hid (nearA (atA xs j)) := HMX.out.2.2 _ (atA_mem hj)
  have HW1 : Hid (∀ a ∈ [atA xs j], wfK a.key) := fun a ha => by rw [List.mem_singleton] at ha; rw [ha]; exact HW.out _ (atA_mem hj)
  have HN1 : Hid (nearL [atA xs j]) := fun a ha => by rw [List.mem_singleton] at ha; rw [ha]; exact HMX.out.2.2 _ (atA_mem hj)
  have HFL : Hid (fitsA xs now = true → fitsA (lesA xs j) now = true) := fits_less hj (fun a ha => by have := mayA_run (HMX.out.1 a ha); omega)
  have HFS : Hid (fitsA xs now = true → fitsA (shtA xs j ⟨(atA xs j).id, (atA xs j).due, (atA xs j).c, (atA xs j).v, (atA xs j).r + 1⟩) now = true) := fits_short hj (fun a ha => mayA_run (HMX.out.1 a ha))
  have HF1 : Hid (fitsA [atA xs j] now = decide (0 ≤ laxA (atA xs j) now)) := fits_one _ _
  have HSA : Hid (∀ b k, atA (shtA xs j b) k = upR (atA xs) j b k) := sht_at hj
  have HWS : Hid (∀ b : Ap, wfK b.key → ∀ a ∈ shtA xs j b, wfK a.key) := fun b hb a ha => by
    unfold shtA at ha
    rcases List.mem_append.1 ha with ha | ha
    · exact HW.out a (List.mem_of_mem_take ha)
    · rcases List.mem_cons.1 ha with rfl | ha
      · exact hb
      · exact HW.out a (List.mem_of_mem_drop ha)
  have HNS : Hid (∀ b : Ap, nearA b → nearL (shtA xs j b)) := fun b hb a ha => by
    unfold shtA at ha
    rcases List.mem_append.1 ha with ha | ha
    · exact HMX.out.2.2 a (List.mem_of_mem_take ha)
    · rcases List.mem_cons.1 ha with rfl | ha
      · exact hb
      · exact HMX.out.2.2 a (List.mem_of_mem_drop ha)
  generalize atA xs j = a at *
  obtain ⟨ii, dd, cc, vv, rr⟩ := a
  simp only at c0 c1 c2 c3 c4 hmj HFS
  have hwr : IntKind.i64.wrap (rr + 1) = rr + 1 := wrap_near (by omega) (by omega)
  have hwn : IntKind.i64.wrap (now + 1) = now + 1 := wrap_near (by omega) (by omega)
  have HNB : Hid (nearA ⟨ii, dd, cc, vv, rr + 1⟩) := by show nearA _; unfold nearA; simp only; omega
  have HWB : Hid (wfK (Ap.key ⟨ii, dd, cc, vv, rr + 1⟩)) := HW1.out ⟨ii, dd, cc, vv, rr⟩ (by simp)
  have HX : Hid (Bx5 ((w2.alloc (.cells #[.int .i64 ii, .int .i64 dd, .int .i64 cc, .int .i64 vv, .int .i64 rr] 30)).alloc (.cells #[.int .i64 ii, .int .i64 dd, .int .i64 cc, .int .i64 vv, .int .i64 (rr + 1)] 30)) w2.heap.size ii dd cc vv rr) := (Bx5.new w2 ii dd cc vv rr 30).later ((Below.refl _ _).alloc (Nat.le_refl _) _)
  have HY : Hid (Bx5 ((w2.alloc (.cells #[.int .i64 ii, .int .i64 dd, .int .i64 cc, .int .i64 vv, .int .i64 rr] 30)).alloc (.cells #[.int .i64 ii, .int .i64 dd, .int .i64 cc, .int .i64 vv, .int .i64 (rr + 1)] 30)) (w2.heap.size + 1) ii dd cc vv (rr + 1)) := by
    have := Bx5.new (w2.alloc (.cells #[.int .i64 ii, .int .i64 dd, .int .i64 cc, .int .i64 vv, .int .i64 rr] 30)) ii dd cc vv (rr + 1) 30
    rwa [World.size_alloc] at this
  have HBW : Hid (Below w2.heap.size w2 ((w2.alloc (.cells #[.int .i64 ii, .int .i64 dd, .int .i64 cc, .int .i64 vv, .int .i64 rr] 30)).alloc (.cells #[.int .i64 ii, .int .i64 dd, .int .i64 cc, .int .i64 vv, .int .i64 (rr + 1)] 30))) := ((Below.refl _ _).alloc (Nat.le_refl _) _).alloc (by simp) _
  obtain ⟨lx, hlx⟩ : ∃ lx, laxA ⟨ii, dd, cc, vv, rr⟩ now = lx := ⟨_, rfl⟩
  have HLX : Hid (laxA ⟨ii, dd, cc, vv, rr⟩ now = lx) := hlx
  have HLB : Hid (laxA ⟨ii, dd, cc, vv, rr + 1⟩ (now + 1) = lx) := by show _ = _; rw [← hlx]; unfold laxA; simp only; omega
  have HLC : Hid (laxA ⟨ii, dd, cc, vv, rr⟩ (now + 1) = lx - 1) := by show _ = _; rw [← hlx]; unfold laxA; simp only; omega
  have hwl : IntKind.i64.wrap (lx - 1) = lx - 1 := wrap_near (by rw [← hlx]; unfold laxA; simp only; omega) (by rw [← hlx]; unfold laxA; simp only; omega)
  rw [hlx] at HF1
  clear hmj hlx
  go_wp2_with fail
  clear c0 c1 c2 c3 c4 hwr
  generalize hW : ((w2.alloc (.cells #[.int .i64 ii, .int .i64 dd, .int .i64 cc, .int .i64 vv, .int .i64 rr] 30)).alloc (.cells #[.int .i64 ii, .int .i64 dd, .int .i64 cc, .int .i64 vv, .int .i64 (rr + 1)] 30)) = W at *
  clear hW
  have MK : Hid (∀ w', Below W.heap.size W w' → ((w'.cell? ⟨w2.heap.size, 0, none⟩ = some (.int .i64 ii) ∧ w'.cell? ⟨w2.heap.size, 1, none⟩ = some (.int .i64 dd) ∧ w'.cell? ⟨w2.heap.size, 2, none⟩ = some (.int .i64 cc) ∧ w'.cell? ⟨w2.heap.size, 3, none⟩ = some (.int .i64 vv) ∧ w'.cell? ⟨w2.heap.size, 4, none⟩ = some (.int .i64 rr)) ∧ (w'.cell? ⟨(w2.heap.size + 1), 0, none⟩ = some (.int .i64 ii) ∧ w'.cell? ⟨(w2.heap.size + 1), 1, none⟩ = some (.int .i64 dd) ∧ w'.cell? ⟨(w2.heap.size + 1), 2, none⟩ = some (.int .i64 cc) ∧ w'.cell? ⟨(w2.heap.size + 1), 3, none⟩ = some (.int .i64 vv) ∧ w'.cell? ⟨(w2.heap.size + 1), 4, none⟩ = some (.int .i64 (rr + 1)))) ∧ Below W.heap.size W w') := fun w' hb => ⟨⟨HX.out.later hb, HY.out.later hb⟩, hb⟩
  have hrest : ∀ (W7 : World), Below W.heap.size W W7 → True := fun _ _ => trivial
  by_cases hl0 : 0 ≤ lx
  · have HFZ : Hid (fitsA [⟨ii, dd, cc, vv, rr⟩] now = true) := by show _ = _; rw [HF1.out, decide_eq_true hl0]
    refine wp_region_held_drew (S := (fun w' : World => ((w'.cell? ⟨w2.heap.size, 0, none⟩ = some (.int .i64 ii) ∧ w'.cell? ⟨w2.heap.size, 1, none⟩ = some (.int .i64 dd) ∧ w'.cell? ⟨w2.heap.size, 2, none⟩ = some (.int .i64 cc) ∧ w'.cell? ⟨w2.heap.size, 3, none⟩ = some (.int .i64 vv) ∧ w'.cell? ⟨w2.heap.size, 4, none⟩ = some (.int .i64 rr)) ∧ (w'.cell? ⟨(w2.heap.size + 1), 0, none⟩ = some (.int .i64 ii) ∧ w'.cell? ⟨(w2.heap.size + 1), 1, none⟩ = some (.int .i64 dd) ∧ w'.cell? ⟨(w2.heap.size + 1), 2, none⟩ = some (.int .i64 cc) ∧ w'.cell? ⟨(w2.heap.size + 1), 3, none⟩ = some (.int .i64 vv) ∧ w'.cell? ⟨(w2.heap.size + 1), 4, none⟩ = some (.int .i64 (rr + 1)))) ∧ Below W.heap.size W w')) (by kernel_rfl) ?_ (fun hHeld => ?_)
    · exact MK.out _ (Below.refl _ _).drew
    refine wpAnyH_take (i := 0) (oi := { dst := some 45, op := Op.load 30 (Operand.tmp 9), type := 30, pos := _, after := _, guard := none }) (v := ?_) rfl (by kernel_rfl) (by kernel_rfl) (by kernel_rfl) (fun _ _ _ h => h) (Or.inl ⟨by rfl, ?_⟩) (by assumption) ?_
    rotate_left
    · intro wS hSw; (try dsimp only at hSw); go_simp; first | done | with_reducible rfl
    try simp only [Act.put, List.setIfInBounds_toArray, List.set_cons_zero, List.set_cons_succ]
    refine wpAnyH_take (i := 1) (oi := { dst := some 46, op := Op.move (Operand.tmp 1), type := 3, pos := _, after := _, guard := none }) (v := ?_) rfl (by kernel_rfl) (by kernel_rfl) (by kernel_rfl) (fun _ _ _ h => h) (Or.inl ⟨by rfl, ?_⟩) (by assumption) ?_
    rotate_left
    · intro wS hSw; (try dsimp only at hSw); go_simp; first | done | with_reducible rfl
    try simp only [Act.put, List.setIfInBounds_toArray, List.set_cons_zero, List.set_cons_succ]
    refine wpAnyH_take (i := 2) (oi := { dst := some 47, op := Op.binOp BinOp.add 3 (Operand.tmp 46) (Operand.const (Value.int IntKind.i64 1)) 3, type := 3, pos := _, after := _, guard := none }) (v := ?_) rfl (by kernel_rfl) (by kernel_rfl) (by kernel_rfl) (fun _ _ _ h => h) (Or.inl ⟨by rfl, ?_⟩) (by assumption) ?_
    rotate_left
    · intro wS hSw; (try dsimp only at hSw); go_simp; first | done | with_reducible rfl
    try simp only [Act.put, List.setIfInBounds_toArray, List.set_cons_zero, List.set_cons_succ]
    refine wpAnyH_take (i := 4) (oi := { dst := some 49, op := Op.load 30 (Operand.tmp 8), type := 30, pos := _, after := _, guard := none }) (v := ?_) rfl (by kernel_rfl) (by kernel_rfl) (by kernel_rfl) (fun _ _ _ h => h) (Or.inl ⟨by rfl, ?_⟩) (by assumption) ?_
    rotate_left
    · intro wS hSw; (try dsimp only at hSw); go_simp; first | done | with_reducible rfl
    try simp only [Act.put, List.setIfInBounds_toArray, List.set_cons_zero, List.set_cons_succ]
    refine wpAnyH_take (i := 5) (oi := { dst := some 50, op := Op.move (Operand.tmp 1), type := 3, pos := _, after := _, guard := none }) (v := ?_) rfl (by kernel_rfl) (by kernel_rfl) (by kernel_rfl) (fun _ _ _ h => h) (Or.inl ⟨by rfl, ?_⟩) (by assumption) ?_
    rotate_left
    · intro wS hSw; (try dsimp only at hSw); go_simp; first | done | with_reducible rfl
    try simp only [Act.put, List.setIfInBounds_toArray, List.set_cons_zero, List.set_cons_succ]
    refine wpAnyH_ready (rs := [3]) (by kernel_rfl) (by simp) ?_
    refine AllReadyH.cons (o := { dst := some 48, op := Op.call { callee := Callee.value (Operand.func 14), args := #[Operand.tmp 45, Operand.tmp 47], argTypes := #[30, 3] }, type := 3, pos := _, after := _, guard := none }) rfl (fun K hK => ?_) AllReadyH.nil
    go_simp
    refine (lax_any ii dd cc vv (rr + 1) (now + 1) _ HNB.out (by omega) (by omega)).mono ?_
    rintro e w11 ⟨rfl, hb11⟩
    rw [HLB.out]
    have hs11 := bstep hb11 (sBel (by assumption))
    go_wp2_with fail
    refine hK.out _ _ ?_ (fun hHeld => ?_)
    · exact MK.out _ hs11
    clear hK K
    try simp only [Act.put, List.setIfInBounds_toArray, List.set_cons_zero, List.set_cons_succ]
    refine wpAnyH_ready (rs := [6]) (by kernel_rfl) (by simp) ?_
    refine AllReadyH.cons (o := { dst := some 51, op := Op.call { callee := Callee.value (Operand.func 14), args := #[Operand.tmp 49, Operand.tmp 50], argTypes := #[30, 3] }, type := 3, pos := _, after := _, guard := none }) rfl (fun K hK => ?_) AllReadyH.nil
    go_simp
    refine (lax_any ii dd cc vv rr now _ HNA.out (by omega) (by omega)).mono ?_
    rintro e w12 ⟨rfl, hb12⟩
    rw [HLX.out]
    have hs12 := bstep hb12 (sBel (by assumption))
    go_wp2_with fail
    refine hK.out _ _ ?_ (fun hHeld => ?_)
    · exact MK.out _ hs12
    clear hK K
    try simp only [Act.put, List.setIfInBounds_toArray, List.set_cons_zero, List.set_cons_succ]
    refine wpAnyH_take (i := 7) (oi := { dst := some 52, op := Op.binOp BinOp.neq 3 (Operand.tmp 48) (Operand.tmp 51) 3, type := 4, pos := _, after := _, guard := none }) (v := ?_) rfl (by kernel_rfl) (by kernel_rfl) (by kernel_rfl) (fun _ _ _ h => h) (Or.inl ⟨by rfl, ?_⟩) (by assumption) ?_
    rotate_left
    · intro wS hSw; (try dsimp only at hSw); go_simp; first | done | with_reducible rfl
    try simp only [Act.put, List.setIfInBounds_toArray, List.set_cons_zero, List.set_cons_succ]
    refine wpAnyH_take (i := 8) (oi := { dst := some 53, op := Op.move (Operand.tmp 52), type := 4, pos := _, after := _, guard := none }) (v := ?_) rfl (by kernel_rfl) (by kernel_rfl) (by kernel_rfl) (fun _ _ _ h => h) (Or.inl ⟨by rfl, ?_⟩) (by assumption) ?_
    rotate_left
    · intro wS hSw; (try dsimp only at hSw); go_simp; first | done | with_reducible rfl
    try simp only [Act.put, List.setIfInBounds_toArray, List.set_cons_zero, List.set_cons_succ]
    refine wpAnyH_take (i := 9) (oi := { dst := some 54, op := Op.load 30 (Operand.tmp 8), type := 30, pos := _, after := _, guard := some (8, false) }) (v := ?_) rfl (by kernel_rfl) (by kernel_rfl) (by kernel_rfl) (fun _ _ _ h => h) (Or.inl ⟨by rfl, ?_⟩) (by assumption) ?_
    rotate_left
    · intro wS hSw; (try dsimp only at hSw); go_simp; first | done | with_reducible rfl
    try simp only [Act.put, List.setIfInBounds_toArray, List.set_cons_zero, List.set_cons_succ]
    refine wpAnyH_take (i := 10) (oi := { dst := some 55, op := Op.move (Operand.tmp 1), type := 3, pos := _, after := _, guard := some (8, false) }) (v := ?_) rfl (by kernel_rfl) (by kernel_rfl) (by kernel_rfl) (fun _ _ _ h => h) (Or.inl ⟨by rfl, ?_⟩) (by assumption) ?_
    rotate_left
    · intro wS hSw; (try dsimp only at hSw); go_simp; first | done | with_reducible rfl
    try simp only [Act.put, List.setIfInBounds_toArray, List.set_cons_zero, List.set_cons_succ]
    refine wpAnyH_take (i := 11) (oi := { dst := some 56, op := Op.binOp BinOp.add 3 (Operand.tmp 55) (Operand.const (Value.int IntKind.i64 1)) 3, type := 3, pos := _, after := _, guard := some (8, false) }) (v := ?_) rfl (by kernel_rfl) (by kernel_rfl) (by kernel_rfl) (fun _ _ _ h => h) (Or.inl ⟨by rfl, ?_⟩) (by assumption) ?_
    rotate_left
    · intro wS hSw; (try dsimp only at hSw); go_simp; first | done | with_reducible rfl
    try simp only [Act.put, List.setIfInBounds_toArray, List.set_cons_zero, List.set_cons_succ]
    refine wpAnyH_take (i := 13) (oi := { dst := some 58, op := Op.load 30 (Operand.tmp 8), type := 30, pos := _, after := _, guard := some (8, false) }) (v := ?_) rfl (by kernel_rfl) (by kernel_rfl) (by kernel_rfl) (fun _ _ _ h => h) (Or.inl ⟨by rfl, ?_⟩) (by assumption) ?_
    rotate_left
    · intro wS hSw; (try dsimp only at hSw); go_simp; first | done | with_reducible rfl
    try simp only [Act.put, List.setIfInBounds_toArray, List.set_cons_zero, List.set_cons_succ]
    refine wpAnyH_take (i := 14) (oi := { dst := some 59, op := Op.move (Operand.tmp 1), type := 3, pos := _, after := _, guard := some (8, false) }) (v := ?_) rfl (by kernel_rfl) (by kernel_rfl) (by kernel_rfl) (fun _ _ _ h => h) (Or.inl ⟨by rfl, ?_⟩) (by assumption) ?_
    rotate_left
    · intro wS hSw; (try dsimp only at hSw); go_simp; first | done | with_reducible rfl
    try simp only [Act.put, List.setIfInBounds_toArray, List.set_cons_zero, List.set_cons_succ]
    refine wpAnyH_ready (rs := [12]) (by kernel_rfl) (by simp) ?_
    refine AllReadyH.cons (o := { dst := some 57, op := Op.call { callee := Callee.value (Operand.func 14), args := #[Operand.tmp 54, Operand.tmp 56], argTypes := #[30, 3] }, type := 3, pos := _, after := _, guard := some (8, false) }) rfl (fun K hK => ?_) AllReadyH.nil
    go_simp
    refine (lax_any ii dd cc vv rr (now + 1) _ HNA.out (by omega) (by omega)).mono ?_
    rintro e w13 ⟨rfl, hb13⟩
    rw [HLC.out]
    have hs13 := bstep hb13 (sBel (by assumption))
    go_wp2_with fail
    refine hK.out _ _ ?_ (fun hHeld => ?_)
    · exact MK.out _ hs13
    clear hK K
    try simp only [Act.put, List.setIfInBounds_toArray, List.set_cons_zero, List.set_cons_succ]
    refine wpAnyH_ready (rs := [15]) (by kernel_rfl) (by simp) ?_
    refine AllReadyH.cons (o := { dst := some 60, op := Op.call { callee := Callee.value (Operand.func 14), args := #[Operand.tmp 58, Operand.tmp 59], argTypes := #[30, 3] }, type := 3, pos := _, after := _, guard := some (8, false) }) rfl (fun K hK => ?_) AllReadyH.nil
    go_simp
    refine (lax_any ii dd cc vv rr now _ HNA.out (by omega) (by omega)).mono ?_
    rintro e w14 ⟨rfl, hb14⟩
    rw [HLX.out]
    have hs14 := bstep hb14 (sBel (by assumption))
    go_wp2_with fail
    refine hK.out _ _ ?_ (fun hHeld => ?_)
    · exact MK.out _ hs14
    clear hK K
    try simp only [Act.put, List.setIfInBounds_toArray, List.set_cons_zero, List.set_cons_succ]
    refine wpAnyH_take (i := 16) (oi := { dst := some 61, op := Op.binOp BinOp.sub 3 (Operand.tmp 60) (Operand.const (Value.int IntKind.i64 1)) 3, type := 3, pos := _, after := _, guard := some (8, false) }) (v := ?_) rfl (by kernel_rfl) (by kernel_rfl) (by kernel_rfl) (fun _ _ _ h => h) (Or.inl ⟨by rfl, ?_⟩) (by assumption) ?_
    rotate_left
    · intro wS hSw; (try dsimp only at hSw); go_simp; first | done | with_reducible rfl
    try simp only [Act.put, List.setIfInBounds_toArray, List.set_cons_zero, List.set_cons_succ]
    refine wpAnyH_take (i := 17) (oi := { dst := some 62, op := Op.binOp BinOp.neq 3 (Operand.tmp 57) (Operand.tmp 61) 3, type := 4, pos := _, after := _, guard := some (8, false) }) (v := ?_) rfl (by kernel_rfl) (by kernel_rfl) (by kernel_rfl) (fun _ _ _ h => h) (Or.inl ⟨by rfl, ?_⟩) (by assumption) ?_
    rotate_left
    · intro wS hSw; (try dsimp only at hSw); go_simp; first | done | with_reducible rfl
    try simp only [Act.put, List.setIfInBounds_toArray, List.set_cons_zero, List.set_cons_succ]
    refine wpAnyH_take (i := 18) (oi := { dst := some 63, op := Op.pick (Operand.tmp 53) (Operand.const (Value.bool true)) (Operand.tmp 62), type := 4, pos := _, after := _, guard := none }) (v := ?_) rfl (by kernel_rfl) (by kernel_rfl) (by kernel_rfl) (fun _ _ _ h => h) (Or.inl ⟨by rfl, ?_⟩) (by assumption) ?_
    rotate_left
    · intro wS hSw; (try dsimp only at hSw); go_simp; first | done | with_reducible rfl
    try simp only [Act.put, List.setIfInBounds_toArray, List.set_cons_zero, List.set_cons_succ]
    refine wpAnyH_take (i := 19) (oi := { dst := some 64, op := Op.move (Operand.tmp 63), type := 4, pos := _, after := _, guard := none }) (v := ?_) rfl (by kernel_rfl) (by kernel_rfl) (by kernel_rfl) (fun _ _ _ h => h) (Or.inl ⟨by rfl, ?_⟩) (by assumption) ?_
    rotate_left
    · intro wS hSw; (try dsimp only at hSw); go_simp; first | done | with_reducible rfl
    try simp only [Act.put, List.setIfInBounds_toArray, List.set_cons_zero, List.set_cons_succ]
    refine wpAnyH_take (i := 20) (oi := { dst := some 65, op := Op.load 30 (Operand.tmp 8), type := 30, pos := _, after := _, guard := some (19, false) }) (v := ?_) rfl (by kernel_rfl) (by kernel_rfl) (by kernel_rfl) (fun _ _ _ h => h) (Or.inl ⟨by rfl, ?_⟩) (by assumption) ?_
    rotate_left
    · intro wS hSw; (try dsimp only at hSw); go_simp; first | done | with_reducible rfl
    try simp only [Act.put, List.setIfInBounds_toArray, List.set_cons_zero, List.set_cons_succ]
    refine wpAnyH_take (i := 22) (oi := { dst := some 67, op := Op.move (Operand.tmp 1), type := 3, pos := _, after := _, guard := some (19, false) }) (v := ?_) rfl (by kernel_rfl) (by kernel_rfl) (by kernel_rfl) (fun _ _ _ h => h) (Or.inl ⟨by rfl, ?_⟩) (by assumption) ?_
    rotate_left
    · intro wS hSw; (try dsimp only at hSw); go_simp; first | done | with_reducible rfl
    try simp only [Act.put, List.setIfInBounds_toArray, List.set_cons_zero, List.set_cons_succ]
    refine wpAnyH_take (i := 24) (oi := { dst := some 69, op := Op.load 30 (Operand.tmp 8), type := 30, pos := _, after := _, guard := some (19, false) }) (v := ?_) rfl (by kernel_rfl) (by kernel_rfl) (by kernel_rfl) (fun _ _ _ h => h) (Or.inl ⟨by rfl, ?_⟩) (by assumption) ?_
    rotate_left
    · intro wS hSw; (try dsimp only at hSw); go_simp; first | done | with_reducible rfl
    try simp only [Act.put, List.setIfInBounds_toArray, List.set_cons_zero, List.set_cons_succ]
    refine wpAnyH_take (i := 25) (oi := { dst := some 70, op := Op.move (Operand.tmp 1), type := 3, pos := _, after := _, guard := some (19, false) }) (v := ?_) rfl (by kernel_rfl) (by kernel_rfl) (by kernel_rfl) (fun _ _ _ h => h) (Or.inl ⟨by rfl, ?_⟩) (by assumption) ?_
    rotate_left
    · intro wS hSw; (try dsimp only at hSw); go_simp; first | done | with_reducible rfl
    try simp only [Act.put, List.setIfInBounds_toArray, List.set_cons_zero, List.set_cons_succ]
    have hs14' := hs14
    have hone : Aps (w14.alloc (.cells #[.int .i64 ii, .int .i64 dd, .int .i64 cc, .int .i64 vv, .int .i64 rr] 30)) (.slice (some ⟨w14.heap.size, 0, none⟩) 1 1) [⟨ii, dd, cc, vv, rr⟩] := Aps.one _ _ _ _ _ _
    have hs15 : Below W.heap.size W (w14.alloc (.cells #[.int .i64 ii, .int .i64 dd, .int .i64 cc, .int .i64 vv, .int .i64 rr] 30)) := hs14.alloc hs14.size _
    refine wpAnyH_ready (rs := [21]) (by kernel_rfl) (by simp) ?_
    refine AllReadyH.cons (o := { dst := some 66, op := Op.buildSlice 22 1 #[(0, Operand.tmp 65)], type := 22, pos := _, after := _, guard := some (19, false) }) rfl (fun K hK => ?_) AllReadyH.nil
    go_simp
    refine hK.out _ _ ?_ (fun hHeld => ?_)
    · exact MK.out _ hs15
    clear hK K
    try simp only [Act.put, List.setIfInBounds_toArray, List.set_cons_zero, List.set_cons_succ]
    refine wpAnyH_ready (rs := [23]) (by kernel_rfl) (by simp) ?_
    refine AllReadyH.cons (o := { dst := some 68, op := Op.call { callee := Callee.value (Operand.func 18), args := #[Operand.tmp 66, Operand.tmp 67], argTypes := #[22, 3] }, type := 4, pos := _, after := _, guard := some (19, false) }) rfl (fun K hK => ?_) AllReadyH.nil
    go_simp
    refine (fits13_any [⟨ii, dd, cc, vv, rr⟩] _ now _ hone (by simp) HW1.out HN1.out (by omega) (by omega)).mono ?_
    rintro e w16 ⟨rfl, hb16⟩
    rw [HFZ.out]
    have hs16 := bstep hb16 (sBel (by assumption))
    go_wp2_with fail
    refine hK.out _ _ ?_ (fun hHeld => ?_)
    · exact MK.out _ hs16
    clear hK K
    try simp only [Act.put, List.setIfInBounds_toArray, List.set_cons_zero, List.set_cons_succ]
    refine wpAnyH_ready (rs := [26]) (by kernel_rfl) (by simp) ?_
    refine AllReadyH.cons (o := { dst := some 71, op := Op.call { callee := Callee.value (Operand.func 14), args := #[Operand.tmp 69, Operand.tmp 70], argTypes := #[30, 3] }, type := 3, pos := _, after := _, guard := some (19, false) }) rfl (fun K hK => ?_) AllReadyH.nil
    go_simp
    refine (lax_any ii dd cc vv rr now _ HNA.out (by omega) (by omega)).mono ?_
    rintro e w17 ⟨rfl, hb17⟩
    rw [HLX.out]
    have hs17 := bstep hb17 (sBel (by assumption))
    go_wp2_with fail
    refine hK.out _ _ ?_ (fun hHeld => ?_)
    · exact MK.out _ hs17
    clear hK K
    try simp only [Act.put, List.setIfInBounds_toArray, List.set_cons_zero, List.set_cons_succ]
    refine wpAnyH_take (i := 27) (oi := { dst := some 72, op := Op.binOp BinOp.geq 3 (Operand.tmp 71) (Operand.const (Value.int IntKind.i64 0)) 3, type := 4, pos := _, after := _, guard := some (19, false) }) (v := ?_) rfl (by kernel_rfl) (by kernel_rfl) (by kernel_rfl) (fun _ _ _ h => h) (Or.inl ⟨by rfl, ?_⟩) (by assumption) ?_
    rotate_left
    · intro wS hSw; (try dsimp only at hSw); go_simp; first | done | with_reducible rfl
    try simp only [Act.put, List.setIfInBounds_toArray, List.set_cons_zero, List.set_cons_succ]
    refine wpAnyH_take (i := 28) (oi := { dst := some 73, op := Op.binOp BinOp.neq 4 (Operand.tmp 68) (Operand.tmp 72) 4, type := 4, pos := _, after := _, guard := some (19, false) }) (v := ?_) rfl (by kernel_rfl) (by kernel_rfl) (by kernel_rfl) (fun _ _ _ h => h) (Or.inl ⟨by rfl, ?_⟩) (by assumption) ?_
    rotate_left
    · intro wS hSw; (try dsimp only at hSw); go_simp; first | done | with_reducible rfl
    try simp only [Act.put, List.setIfInBounds_toArray, List.set_cons_zero, List.set_cons_succ]
    refine wpAnyH_take (i := 29) (oi := { dst := some 74, op := Op.pick (Operand.tmp 64) (Operand.const (Value.bool true)) (Operand.tmp 73), type := 4, pos := _, after := _, guard := none }) (v := ?_) rfl (by kernel_rfl) (by kernel_rfl) (by kernel_rfl) (fun _ _ _ h => h) (Or.inl ⟨by rfl, ?_⟩) (by assumption) ?_
    rotate_left
    · intro wS hSw; (try dsimp only at hSw); go_simp; first | done | with_reducible rfl
    try simp only [Act.put, List.setIfInBounds_toArray, List.set_cons_zero, List.set_cons_succ]
    refine wpAnyH_done (by kernel_rfl) ?_ _
    have hB17 : Below w2.heap.size w2 w17 := HBW.out.trans (hs17.mono HBW.out.size)
    have HL9 : Hid (Aps w17 (.slice (some ⟨bk, o, none⟩) xs.length cap) xs) := HA2.out.later hB17
    have HB9 : Hid (Below w.heap.size w w17) := hB2.trans (hB17.mono hB2.size)
    have HY9 : Hid (Bx5 w17 (w2.heap.size + 1) ii dd cc vv (rr + 1)) := (MK.out _ hs17).1.2
    have hjc : (j : Int) ≤ cap := by omega
    have hj1 : (j : Int) + 1 ≤ xs.length := by omega
    have hj0 : (0 : Int) ≤ (j : Int) + 1 := by omega
    have hwj : IntKind.i64.wrap ((j : Int) + 1) = (j : Int) + 1 := wrap_near (by omega) (by omega)
    have HF9 : Hid (∀ w', Below w17.heap.size w17 w' → Rws recA w' (.slice (some ⟨bk, o, none⟩) j cap) j (atA xs)) := fun w' hb => Rws.front (R := recA) (HL9.out.later hb) (by omega)
    obtain ⟨ta, hta⟩ : ∃ ta, (if cap = j + 1 then some (⟨bk, o, none⟩ : Addr) else some ⟨bk, o + (j + 1) * 5, none⟩) = ta := ⟨_, rfl⟩
    have HTA : Hid ((if cap = j + 1 then some (⟨bk, o, none⟩ : Addr) else some ⟨bk, o + (j + 1) * 5, none⟩) = ta) := hta
    have HT9 : Hid (∀ w', Below w17.heap.size w17 w' → Rws recA w' (.slice ta (xs.length - (j + 1)) (cap - (j + 1))) (xs.length - (j + 1)) (fun t => atA xs (j + 1 + t))) := fun w' hb => by
      have hr : Rws recA w' _ _ _ := HL9.out.later hb
      rw [← hta]
      split
      · next hc => exact Rws.zero (by omega) (by omega) (by omega)
      · exact Rws.tail (R := recA) (t := j + 1) hr (by omega)
    clear hta
    clear hs17 hs16 hs15 hs14' hs14 hs13 hs12 hs11 hb11 hb12 hb13 hb14 hb16 hb17 hone hB17 MK
    go_wp2_with fail
    refine wp_region_held_drew (S := (fun w' : World => Below w17.heap.size w17 w')) (by kernel_rfl) ?_ (fun hHeld => ?_)
    · exact (Below.refl _ _).drew
    refine wpAnyH_take (i := 0) (oi := { dst := some 75, op := Op.move (Operand.tmp 0), type := 22, pos := _, after := _, guard := none }) (v := ?_) rfl (by kernel_rfl) (by kernel_rfl) (by kernel_rfl) (fun _ _ _ h => h) (Or.inl ⟨by rfl, ?_⟩) (by assumption) ?_
    rotate_left
    · intro wS hSw; (try dsimp only at hSw); go_simp; first | done | with_reducible rfl
    try simp only [Act.put, List.setIfInBounds_toArray, List.set_cons_zero, List.set_cons_succ]
    refine wpAnyH_take (i := 1) (oi := { dst := some 76, op := Op.move (Operand.tmp 2), type := 3, pos := _, after := _, guard := none }) (v := ?_) rfl (by kernel_rfl) (by kernel_rfl) (by kernel_rfl) (fun _ _ _ h => h) (Or.inl ⟨by rfl, ?_⟩) (by assumption) ?_
    rotate_left
    · intro wS hSw; (try dsimp only at hSw); go_simp; first | done | with_reducible rfl
    try simp only [Act.put, List.setIfInBounds_toArray, List.set_cons_zero, List.set_cons_succ]
    refine wpAnyH_take (i := 2) (oi := { dst := some 77, op := Op.slice 22 (Operand.tmp 75) none (some (Operand.tmp 76)) none, type := 22, pos := _, after := _, guard := none }) (v := ?_) rfl (by kernel_rfl) (by kernel_rfl) (by kernel_rfl) (fun _ _ _ h => h) (Or.inl ⟨by rfl, ?_⟩) (by assumption) ?_
    rotate_left
    · intro wS hSw; (try dsimp only at hSw); go_simp; first | done | with_reducible rfl
    try simp only [Act.put, List.setIfInBounds_toArray, List.set_cons_zero, List.set_cons_succ]
    refine wpAnyH_take (i := 4) (oi := { dst := some 79, op := Op.move (Operand.tmp 0), type := 22, pos := _, after := _, guard := none }) (v := ?_) rfl (by kernel_rfl) (by kernel_rfl) (by kernel_rfl) (fun _ _ _ h => h) (Or.inl ⟨by rfl, ?_⟩) (by assumption) ?_
    rotate_left
    · intro wS hSw; (try dsimp only at hSw); go_simp; first | done | with_reducible rfl
    try simp only [Act.put, List.setIfInBounds_toArray, List.set_cons_zero, List.set_cons_succ]
    refine wpAnyH_take (i := 5) (oi := { dst := some 80, op := Op.move (Operand.tmp 2), type := 3, pos := _, after := _, guard := none }) (v := ?_) rfl (by kernel_rfl) (by kernel_rfl) (by kernel_rfl) (fun _ _ _ h => h) (Or.inl ⟨by rfl, ?_⟩) (by assumption) ?_
    rotate_left
    · intro wS hSw; (try dsimp only at hSw); go_simp; first | done | with_reducible rfl
    try simp only [Act.put, List.setIfInBounds_toArray, List.set_cons_zero, List.set_cons_succ]
    refine wpAnyH_take (i := 6) (oi := { dst := some 81, op := Op.binOp BinOp.add 3 (Operand.tmp 80) (Operand.const (Value.int IntKind.i64 1)) 3, type := 3, pos := _, after := _, guard := none }) (v := ?_) rfl (by kernel_rfl) (by kernel_rfl) (by kernel_rfl) (fun _ _ _ h => h) (Or.inl ⟨by rfl, ?_⟩) (by assumption) ?_
    rotate_left
    · intro wS hSw; (try dsimp only at hSw); go_simp; first | done | with_reducible rfl
    try simp only [Act.put, List.setIfInBounds_toArray, List.set_cons_zero, List.set_cons_succ]
    refine wpAnyH_take (i := 7) (oi := { dst := some 82, op := Op.slice 22 (Operand.tmp 79) (some (Operand.tmp 81)) none none, type := 22, pos := _, after := _, guard := none }) (v := ?_) rfl (by kernel_rfl) (by kernel_rfl) (by kernel_rfl) (fun _ _ _ h => h) (Or.inl ⟨by rfl, ?_⟩) (by assumption) ?_
    rotate_left
    · intro wS hSw; (try dsimp only at hSw); go_simp; first | done | with_reducible rfl
    try simp only [Act.put, List.setIfInBounds_toArray, List.set_cons_zero, List.set_cons_succ]
    rw [HTA.out]
    clear HTA
    have hd9 : Below w17.heap.size w17 w17.drew := (Below.refl _ _).drew
    refine wpAnyH_ready (rs := [3]) (by kernel_rfl) (by simp) ?_
    refine AllReadyH.cons (o := { dst := some 78, op := Op.call { callee := Callee.builtin Builtin.append, args := #[Operand.const (Value.slice none 0 0), Operand.tmp 77], argTypes := #[22, 22] }, type := 22, pos := _, after := _, guard := none }) rfl (fun K hK => ?_) AllReadyH.nil
    refine step_append_rws (R := recA) Try.underlying22 Try.infoApe rfl (by omega) rfl _ _ rfl w17.heap.size (.slice none 0 0) _ 0 j (fun _ => apZ) (atA xs) rfl (OwnR.nil _ _ _ _ _) rfl (HF9.out _ hd9) (by omega) (Nat.le_refl _) ?_
    intro v3 w18 ho18 hb18'
    have hb18 : Below w17.heap.size w17 w18 := hd9.trans hb18'
    refine hK.out _ _ ?_ (fun hHeld => ?_)
    · exact hb18
    clear hK K
    try simp only [Act.put, List.setIfInBounds_toArray, List.set_cons_zero, List.set_cons_succ]
    refine wpAnyH_ready (rs := [8]) (by kernel_rfl) (by simp) ?_
    refine AllReadyH.cons (o := { dst := some 83, op := Op.call { callee := Callee.builtin Builtin.append, args := #[Operand.tmp 78, Operand.tmp 82], argTypes := #[22, 22] }, type := 22, pos := _, after := _, guard := none }) rfl (fun K hK => ?_) AllReadyH.nil
    refine step_append_rws (R := recA) Try.underlying22 Try.infoApe rfl (by omega) rfl _ _ rfl w17.heap.size v3 _ (0 + j) (xs.length - (j + 1)) (catR 0 (fun _ => apZ) (atA xs)) (fun t => atA xs (j + 1 + t)) rfl ho18 rfl (HT9.out _ hb18) (by omega) hb18.size ?_
    intro v4 w19 ho19 hb19'
    have hb19 : Below w17.heap.size w17 w19 := hb18.trans hb19'
    refine hK.out _ _ ?_ (fun hHeld => ?_)
    · exact hb19
    clear hK K
    try simp only [Act.put, List.setIfInBounds_toArray, List.set_cons_zero, List.set_cons_succ]
    refine wpAnyH_take (i := 9) (oi := { dst := some 10, op := Op.assign (Operand.tmp 83), type := 22, pos := _, after := _, guard := none }) (v := ?_) rfl (by kernel_rfl) (by kernel_rfl) (by kernel_rfl) (fun _ _ _ h => h) (Or.inl ⟨by rfl, ?_⟩) (by assumption) ?_
    rotate_left
    · intro wS hSw; (try dsimp only at hSw); go_simp; first | done | with_reducible rfl
    try simp only [Act.put, List.setIfInBounds_toArray, List.set_cons_zero, List.set_cons_succ]
    refine wpAnyH_done (by kernel_rfl) ?_ _
    have HLS : Hid (Aps w19 v4 (lesA xs j)) := les_row hj ho19
    have HL19 : Hid (Aps w19 (.slice (some ⟨bk, o, none⟩) xs.length cap) xs ∧ Bx5 w19 (w2.heap.size + 1) ii dd cc vv (rr + 1) ∧ Below w.heap.size w w19) := ⟨HL9.out.later hb19, HY9.out.later hb19, HB9.out.trans (hb19.mono HB9.out.size)⟩
    clear ho18 ho19 hb18 hb19 hb18' hb19' hd9 HL9 HB9 HY9 HF9 HT9
    go_wp2_with (first
      | (at_builtin; refine append_rws (R := recA) Try.underlying22 Try.infoApe rfl (by omega) rfl _ _ rfl w19.heap.size (.slice none 0 0) _ 0 xs.length (fun _ => apZ) (atA xs) rfl (OwnR.nil _ _ _ _ _) rfl HL19.out.1 (by omega) (Nat.le_refl _) ?_; intro lv w20 ho20 hb20
         have hO := OwnR.same (f := fun _ => apZ) (by exact ho20)
         obtain ⟨g, gc, rfl, gl1, gl2⟩ : ∃ g gc, lv = .slice (some ⟨g, 0, none⟩) xs.length gc ∧ w19.heap.size ≤ g ∧ g < w20.heap.size := by
           rcases OwnR.open hO with ⟨_, e⟩ | ⟨g, gc, e, h1, h2, _⟩
           · omega
           · exact ⟨g, gc, e, h1, h2⟩
         obtain ⟨x0, x1, x2, x3, x4⟩ := HL19.out.2.1.later hb20
         obtain ⟨s0, s1, s2, s3, s4, f4⟩ := OwnR.at5 hO hj
         have f0 := (hO.cell hj (j := 0) (by decide)).2
         have f1 := (hO.cell hj (j := 1) (by decide)).2
         have f2 := (hO.cell hj (j := 2) (by decide)).2
         have f3 := (hO.cell hj (j := 3) (by decide)).2
         change w20.frozen? ⟨g, j * 5, none⟩ = false at f0
         change w20.frozen? ⟨g, j * 5 + 1, none⟩ = false at f1
         change w20.frozen? ⟨g, j * 5 + 2, none⟩ = false at f2
         change w20.frozen? ⟨g, j * 5 + 3, none⟩ = false at f3
         have HO20 : Hid (OwnR recA w20 w19.heap.size 30 (.slice (some ⟨g, 0, none⟩) xs.length gc) xs.length (atA xs) ∧ Below w19.heap.size w19 w20) := ⟨hO, hb20⟩
         clear hO ho20 hb20))
    obtain ⟨w21, hw21⟩ : ∃ w21, (((((w20.setCell ⟨g, j * 5, none⟩ (.int .i64 ii)).setCell ⟨g, j * 5 + 1, none⟩ (.int .i64 dd)).setCell ⟨g, j * 5 + 2, none⟩ (.int .i64 cc)).setCell ⟨g, j * 5 + 3, none⟩ (.int .i64 vv)).setCell ⟨g, j * 5 + 4, none⟩ (.int .i64 (rr + 1))) = w21 := ⟨_, rfl⟩
    have HS21 : Hid (Aps w21 (.slice (some ⟨g, 0, none⟩) xs.length gc) (shtA xs j ⟨ii, dd, cc, vv, rr + 1⟩)) := by
      have h1 := OwnR.rws (OwnR.put HO20.out.1 hj ⟨ii, dd, cc, vv, rr + 1⟩)
      have h2 : Rws recA w21 (.slice (some ⟨g, 0, none⟩) xs.length gc) xs.length (upR (atA xs) j ⟨ii, dd, cc, vv, rr + 1⟩) := by rw [← hw21]; exact h1
      show Rws recA _ _ _ _
      rw [sht_len hj]
      exact h2.congr (fun k _ => (HSA.out _ k).symm)
    have hb21 : Below w19.heap.size w19 w21 := by rw [← hw21]; exact ((((HO20.out.2.setCell (p := ⟨g, j * 5, none⟩) gl1 _).setCell (p := ⟨g, j * 5 + 1, none⟩) gl1 _).setCell (p := ⟨g, j * 5 + 2, none⟩) gl1 _).setCell (p := ⟨g, j * 5 + 3, none⟩) gl1 _).setCell (p := ⟨g, j * 5 + 4, none⟩) gl1 _
    have HL21 : Hid (Aps w21 (.slice (some ⟨bk, o, none⟩) xs.length cap) xs ∧ Aps w21 v4 (lesA xs j) ∧ Below w.heap.size w w21) := ⟨HL19.out.1.later hb21, HLS.out.later hb21, HL19.out.2.2.trans (hb21.mono HL19.out.2.2.size)⟩
    clear x0 x1 x2 x3 x4 s0 s1 s2 s3 s4 f0 f1 f2 f3 f4 HO20 HL19 HLS hb21
    go_wp2_with fail
    rw [hw21]
    clear hw21
    refine (fits13_any xs _ now w21 HL21.out.1 (by omega) HW.out HMX.out.2.2 (by omega) (by omega)).mono ?_
    rintro e w22 ⟨rfl, hb22⟩
    obtain ⟨f, hf⟩ : ∃ f, fitsA xs now = f := ⟨_, rfl⟩
    rw [hf] at HFL HFS ⊢
    clear hf
    have HB22 : Hid (Below w.heap.size w w22) := HL21.out.2.2.trans (hb22.mono HL21.out.2.2.size)
    have HL22 : Hid (Aps w22 v4 (lesA xs j) ∧ Aps w22 (.slice (some ⟨g, 0, none⟩) xs.length gc) (shtA xs j ⟨ii, dd, cc, vv, rr + 1⟩)) := ⟨HL21.out.2.1.later hb22, HS21.out.later hb22⟩
    clear HL21 HS21 hb22
    cases f
    · go_wp2_with fail
      go_ret
      exact ⟨rfl, HB22.out⟩
    have HFL2 : Hid (fitsA (lesA xs j) now = true) := HFL.out (by trivial)
    have HFS2 : Hid (fitsA (shtA xs j ⟨ii, dd, cc, vv, rr + 1⟩) now = true) := HFS.out (by trivial)
    have hll := les_len xs j
    have hsl := sht_len hj ⟨ii, dd, cc, vv, rr + 1⟩
    have HWL : Hid ((∀ a ∈ lesA xs j, wfK a.key) ∧ nearL (lesA xs j)) := by
      have hs : ∀ a ∈ lesA xs j, a ∈ xs := fun a ha => by
        unfold lesA at ha
        rcases List.mem_append.1 ha with ha | ha
        · exact List.mem_of_mem_take ha
        · exact List.mem_of_mem_drop ha
      exact ⟨fun a ha => HW.out a (hs a ha), fun a ha => HMX.out.2.2 a (hs a ha)⟩
    have HSL : Hid ((shtA xs j ⟨ii, dd, cc, vv, rr + 1⟩).length = xs.length) := hsl
    clear hsl HFL HFS
    go_wp2_with fail
    refine (fits13_any (lesA xs j) _ now w22 HL22.out.1 (by omega) HWL.out.1 HWL.out.2 (by omega) (by omega)).mono ?_
    rintro e w23 ⟨rfl, hb23⟩
    rw [HFL2.out]
    have HB23 : Hid (Below w.heap.size w w23) := HB22.out.trans (hb23.mono HB22.out.size)
    have HL23 : Hid (Aps w23 _ _) := HL22.out.2.later hb23
    clear HL22 HB22 hb23
    go_wp2_with fail
    refine (fits13_any (shtA xs j ⟨ii, dd, cc, vv, rr + 1⟩) _ now w23 HL23.out (by rw [HSL.out]; omega) (HWS.out _ HWB.out) (HNS.out _ HNB.out) (by omega) (by omega)).mono ?_
    rintro e w24 ⟨rfl, hb24⟩
    rw [HFS2.out]
    have HB24 : Hid (Below w.heap.size w w24) := HB23.out.trans (hb24.mono HB23.out.size)
    go_wp2_with fail
    go_ret
    exact ⟨rfl, HB24.out⟩
  · have HFZ : Hid (fitsA [⟨ii, dd, cc, vv, rr⟩] now = false) := by show _ = _; rw [HF1.out, decide_eq_false hl0]
    refine wp_region_held_drew (S := (fun w' : World => ((w'.cell? ⟨w2.heap.size, 0, none⟩ = some (.int .i64 ii) ∧ w'.cell? ⟨w2.heap.size, 1, none⟩ = some (.int .i64 dd) ∧ w'.cell? ⟨w2.heap.size, 2, none⟩ = some (.int .i64 cc) ∧ w'.cell? ⟨w2.heap.size, 3, none⟩ = some (.int .i64 vv) ∧ w'.cell? ⟨w2.heap.size, 4, none⟩ = some (.int .i64 rr)) ∧ (w'.cell? ⟨(w2.heap.size + 1), 0, none⟩ = some (.int .i64 ii) ∧ w'.cell? ⟨(w2.heap.size + 1), 1, none⟩ = some (.int .i64 dd) ∧ w'.cell? ⟨(w2.heap.size + 1), 2, none⟩ = some (.int .i64 cc) ∧ w'.cell? ⟨(w2.heap.size + 1), 3, none⟩ = some (.int .i64 vv) ∧ w'.cell? ⟨(w2.heap.size + 1), 4, none⟩ = some (.int .i64 (rr + 1)))) ∧ Below W.heap.size W w')) (by kernel_rfl) ?_ (fun hHeld => ?_)
    · exact MK.out _ (Below.refl _ _).drew
    refine wpAnyH_take (i := 0) (oi := { dst := some 45, op := Op.load 30 (Operand.tmp 9), type := 30, pos := _, after := _, guard := none }) (v := ?_) rfl (by kernel_rfl) (by kernel_rfl) (by kernel_rfl) (fun _ _ _ h => h) (Or.inl ⟨by rfl, ?_⟩) (by assumption) ?_
    rotate_left
    · intro wS hSw; (try dsimp only at hSw); go_simp; first | done | with_reducible rfl
    try simp only [Act.put, List.setIfInBounds_toArray, List.set_cons_zero, List.set_cons_succ]
    refine wpAnyH_take (i := 1) (oi := { dst := some 46, op := Op.move (Operand.tmp 1), type := 3, pos := _, after := _, guard := none }) (v := ?_) rfl (by kernel_rfl) (by kernel_rfl) (by kernel_rfl) (fun _ _ _ h => h) (Or.inl ⟨by rfl, ?_⟩) (by assumption) ?_
    rotate_left
    · intro wS hSw; (try dsimp only at hSw); go_simp; first | done | with_reducible rfl
    try simp only [Act.put, List.setIfInBounds_toArray, List.set_cons_zero, List.set_cons_succ]
    refine wpAnyH_take (i := 2) (oi := { dst := some 47, op := Op.binOp BinOp.add 3 (Operand.tmp 46) (Operand.const (Value.int IntKind.i64 1)) 3, type := 3, pos := _, after := _, guard := none }) (v := ?_) rfl (by kernel_rfl) (by kernel_rfl) (by kernel_rfl) (fun _ _ _ h => h) (Or.inl ⟨by rfl, ?_⟩) (by assumption) ?_
    rotate_left
    · intro wS hSw; (try dsimp only at hSw); go_simp; first | done | with_reducible rfl
    try simp only [Act.put, List.setIfInBounds_toArray, List.set_cons_zero, List.set_cons_succ]
    refine wpAnyH_take (i := 4) (oi := { dst := some 49, op := Op.load 30 (Operand.tmp 8), type := 30, pos := _, after := _, guard := none }) (v := ?_) rfl (by kernel_rfl) (by kernel_rfl) (by kernel_rfl) (fun _ _ _ h => h) (Or.inl ⟨by rfl, ?_⟩) (by assumption) ?_
    rotate_left
    · intro wS hSw; (try dsimp only at hSw); go_simp; first | done | with_reducible rfl
    try simp only [Act.put, List.setIfInBounds_toArray, List.set_cons_zero, List.set_cons_succ]
    refine wpAnyH_take (i := 5) (oi := { dst := some 50, op := Op.move (Operand.tmp 1), type := 3, pos := _, after := _, guard := none }) (v := ?_) rfl (by kernel_rfl) (by kernel_rfl) (by kernel_rfl) (fun _ _ _ h => h) (Or.inl ⟨by rfl, ?_⟩) (by assumption) ?_
    rotate_left
    · intro wS hSw; (try dsimp only at hSw); go_simp; first | done | with_reducible rfl
    try simp only [Act.put, List.setIfInBounds_toArray, List.set_cons_zero, List.set_cons_succ]
    refine wpAnyH_ready (rs := [3]) (by kernel_rfl) (by simp) ?_
    refine AllReadyH.cons (o := { dst := some 48, op := Op.call { callee := Callee.value (Operand.func 14), args := #[Operand.tmp 45, Operand.tmp 47], argTypes := #[30, 3] }, type := 3, pos := _, after := _, guard := none }) rfl (fun K hK => ?_) AllReadyH.nil
    go_simp
    refine (lax_any ii dd cc vv (rr + 1) (now + 1) _ HNB.out (by omega) (by omega)).mono ?_
    rintro e w11 ⟨rfl, hb11⟩
    rw [HLB.out]
    have hs11 := bstep hb11 (sBel (by assumption))
    go_wp2_with fail
    refine hK.out _ _ ?_ (fun hHeld => ?_)
    · exact MK.out _ hs11
    clear hK K
    try simp only [Act.put, List.setIfInBounds_toArray, List.set_cons_zero, List.set_cons_succ]
    refine wpAnyH_ready (rs := [6]) (by kernel_rfl) (by simp) ?_
    refine AllReadyH.cons (o := { dst := some 51, op := Op.call { callee := Callee.value (Operand.func 14), args := #[Operand.tmp 49, Operand.tmp 50], argTypes := #[30, 3] }, type := 3, pos := _, after := _, guard := none }) rfl (fun K hK => ?_) AllReadyH.nil
    go_simp
    refine (lax_any ii dd cc vv rr now _ HNA.out (by omega) (by omega)).mono ?_
    rintro e w12 ⟨rfl, hb12⟩
    rw [HLX.out]
    have hs12 := bstep hb12 (sBel (by assumption))
    go_wp2_with fail
    refine hK.out _ _ ?_ (fun hHeld => ?_)
    · exact MK.out _ hs12
    clear hK K
    try simp only [Act.put, List.setIfInBounds_toArray, List.set_cons_zero, List.set_cons_succ]
    refine wpAnyH_take (i := 7) (oi := { dst := some 52, op := Op.binOp BinOp.neq 3 (Operand.tmp 48) (Operand.tmp 51) 3, type := 4, pos := _, after := _, guard := none }) (v := ?_) rfl (by kernel_rfl) (by kernel_rfl) (by kernel_rfl) (fun _ _ _ h => h) (Or.inl ⟨by rfl, ?_⟩) (by assumption) ?_
    rotate_left
    · intro wS hSw; (try dsimp only at hSw); go_simp; first | done | with_reducible rfl
    try simp only [Act.put, List.setIfInBounds_toArray, List.set_cons_zero, List.set_cons_succ]
    refine wpAnyH_take (i := 8) (oi := { dst := some 53, op := Op.move (Operand.tmp 52), type := 4, pos := _, after := _, guard := none }) (v := ?_) rfl (by kernel_rfl) (by kernel_rfl) (by kernel_rfl) (fun _ _ _ h => h) (Or.inl ⟨by rfl, ?_⟩) (by assumption) ?_
    rotate_left
    · intro wS hSw; (try dsimp only at hSw); go_simp; first | done | with_reducible rfl
    try simp only [Act.put, List.setIfInBounds_toArray, List.set_cons_zero, List.set_cons_succ]
    refine wpAnyH_take (i := 9) (oi := { dst := some 54, op := Op.load 30 (Operand.tmp 8), type := 30, pos := _, after := _, guard := some (8, false) }) (v := ?_) rfl (by kernel_rfl) (by kernel_rfl) (by kernel_rfl) (fun _ _ _ h => h) (Or.inl ⟨by rfl, ?_⟩) (by assumption) ?_
    rotate_left
    · intro wS hSw; (try dsimp only at hSw); go_simp; first | done | with_reducible rfl
    try simp only [Act.put, List.setIfInBounds_toArray, List.set_cons_zero, List.set_cons_succ]
    refine wpAnyH_take (i := 10) (oi := { dst := some 55, op := Op.move (Operand.tmp 1), type := 3, pos := _, after := _, guard := some (8, false) }) (v := ?_) rfl (by kernel_rfl) (by kernel_rfl) (by kernel_rfl) (fun _ _ _ h => h) (Or.inl ⟨by rfl, ?_⟩) (by assumption) ?_
    rotate_left
    · intro wS hSw; (try dsimp only at hSw); go_simp; first | done | with_reducible rfl
    try simp only [Act.put, List.setIfInBounds_toArray, List.set_cons_zero, List.set_cons_succ]
    refine wpAnyH_take (i := 11) (oi := { dst := some 56, op := Op.binOp BinOp.add 3 (Operand.tmp 55) (Operand.const (Value.int IntKind.i64 1)) 3, type := 3, pos := _, after := _, guard := some (8, false) }) (v := ?_) rfl (by kernel_rfl) (by kernel_rfl) (by kernel_rfl) (fun _ _ _ h => h) (Or.inl ⟨by rfl, ?_⟩) (by assumption) ?_
    rotate_left
    · intro wS hSw; (try dsimp only at hSw); go_simp; first | done | with_reducible rfl
    try simp only [Act.put, List.setIfInBounds_toArray, List.set_cons_zero, List.set_cons_succ]
    refine wpAnyH_take (i := 13) (oi := { dst := some 58, op := Op.load 30 (Operand.tmp 8), type := 30, pos := _, after := _, guard := some (8, false) }) (v := ?_) rfl (by kernel_rfl) (by kernel_rfl) (by kernel_rfl) (fun _ _ _ h => h) (Or.inl ⟨by rfl, ?_⟩) (by assumption) ?_
    rotate_left
    · intro wS hSw; (try dsimp only at hSw); go_simp; first | done | with_reducible rfl
    try simp only [Act.put, List.setIfInBounds_toArray, List.set_cons_zero, List.set_cons_succ]
    refine wpAnyH_take (i := 14) (oi := { dst := some 59, op := Op.move (Operand.tmp 1), type := 3, pos := _, after := _, guard := some (8, false) }) (v := ?_) rfl (by kernel_rfl) (by kernel_rfl) (by kernel_rfl) (fun _ _ _ h => h) (Or.inl ⟨by rfl, ?_⟩) (by assumption) ?_
    rotate_left
    · intro wS hSw; (try dsimp only at hSw); go_simp; first | done | with_reducible rfl
    try simp only [Act.put, List.setIfInBounds_toArray, List.set_cons_zero, List.set_cons_succ]
    refine wpAnyH_ready (rs := [12]) (by kernel_rfl) (by simp) ?_
    refine AllReadyH.cons (o := { dst := some 57, op := Op.call { callee := Callee.value (Operand.func 14), args := #[Operand.tmp 54, Operand.tmp 56], argTypes := #[30, 3] }, type := 3, pos := _, after := _, guard := some (8, false) }) rfl (fun K hK => ?_) AllReadyH.nil
    go_simp
    refine (lax_any ii dd cc vv rr (now + 1) _ HNA.out (by omega) (by omega)).mono ?_
    rintro e w13 ⟨rfl, hb13⟩
    rw [HLC.out]
    have hs13 := bstep hb13 (sBel (by assumption))
    go_wp2_with fail
    refine hK.out _ _ ?_ (fun hHeld => ?_)
    · exact MK.out _ hs13
    clear hK K
    try simp only [Act.put, List.setIfInBounds_toArray, List.set_cons_zero, List.set_cons_succ]
    refine wpAnyH_ready (rs := [15]) (by kernel_rfl) (by simp) ?_
    refine AllReadyH.cons (o := { dst := some 60, op := Op.call { callee := Callee.value (Operand.func 14), args := #[Operand.tmp 58, Operand.tmp 59], argTypes := #[30, 3] }, type := 3, pos := _, after := _, guard := some (8, false) }) rfl (fun K hK => ?_) AllReadyH.nil
    go_simp
    refine (lax_any ii dd cc vv rr now _ HNA.out (by omega) (by omega)).mono ?_
    rintro e w14 ⟨rfl, hb14⟩
    rw [HLX.out]
    have hs14 := bstep hb14 (sBel (by assumption))
    go_wp2_with fail
    refine hK.out _ _ ?_ (fun hHeld => ?_)
    · exact MK.out _ hs14
    clear hK K
    try simp only [Act.put, List.setIfInBounds_toArray, List.set_cons_zero, List.set_cons_succ]
    refine wpAnyH_take (i := 16) (oi := { dst := some 61, op := Op.binOp BinOp.sub 3 (Operand.tmp 60) (Operand.const (Value.int IntKind.i64 1)) 3, type := 3, pos := _, after := _, guard := some (8, false) }) (v := ?_) rfl (by kernel_rfl) (by kernel_rfl) (by kernel_rfl) (fun _ _ _ h => h) (Or.inl ⟨by rfl, ?_⟩) (by assumption) ?_
    rotate_left
    · intro wS hSw; (try dsimp only at hSw); go_simp; first | done | with_reducible rfl
    try simp only [Act.put, List.setIfInBounds_toArray, List.set_cons_zero, List.set_cons_succ]
    refine wpAnyH_take (i := 17) (oi := { dst := some 62, op := Op.binOp BinOp.neq 3 (Operand.tmp 57) (Operand.tmp 61) 3, type := 4, pos := _, after := _, guard := some (8, false) }) (v := ?_) rfl (by kernel_rfl) (by kernel_rfl) (by kernel_rfl) (fun _ _ _ h => h) (Or.inl ⟨by rfl, ?_⟩) (by assumption) ?_
    rotate_left
    · intro wS hSw; (try dsimp only at hSw); go_simp; first | done | with_reducible rfl
    try simp only [Act.put, List.setIfInBounds_toArray, List.set_cons_zero, List.set_cons_succ]
    refine wpAnyH_take (i := 18) (oi := { dst := some 63, op := Op.pick (Operand.tmp 53) (Operand.const (Value.bool true)) (Operand.tmp 62), type := 4, pos := _, after := _, guard := none }) (v := ?_) rfl (by kernel_rfl) (by kernel_rfl) (by kernel_rfl) (fun _ _ _ h => h) (Or.inl ⟨by rfl, ?_⟩) (by assumption) ?_
    rotate_left
    · intro wS hSw; (try dsimp only at hSw); go_simp; first | done | with_reducible rfl
    try simp only [Act.put, List.setIfInBounds_toArray, List.set_cons_zero, List.set_cons_succ]
    refine wpAnyH_take (i := 19) (oi := { dst := some 64, op := Op.move (Operand.tmp 63), type := 4, pos := _, after := _, guard := none }) (v := ?_) rfl (by kernel_rfl) (by kernel_rfl) (by kernel_rfl) (fun _ _ _ h => h) (Or.inl ⟨by rfl, ?_⟩) (by assumption) ?_
    rotate_left
    · intro wS hSw; (try dsimp only at hSw); go_simp; first | done | with_reducible rfl
    try simp only [Act.put, List.setIfInBounds_toArray, List.set_cons_zero, List.set_cons_succ]
    refine wpAnyH_take (i := 20) (oi := { dst := some 65, op := Op.load 30 (Operand.tmp 8), type := 30, pos := _, after := _, guard := some (19, false) }) (v := ?_) rfl (by kernel_rfl) (by kernel_rfl) (by kernel_rfl) (fun _ _ _ h => h) (Or.inl ⟨by rfl, ?_⟩) (by assumption) ?_
    rotate_left
    · intro wS hSw; (try dsimp only at hSw); go_simp; first | done | with_reducible rfl
    try simp only [Act.put, List.setIfInBounds_toArray, List.set_cons_zero, List.set_cons_succ]
    refine wpAnyH_take (i := 22) (oi := { dst := some 67, op := Op.move (Operand.tmp 1), type := 3, pos := _, after := _, guard := some (19, false) }) (v := ?_) rfl (by kernel_rfl) (by kernel_rfl) (by kernel_rfl) (fun _ _ _ h => h) (Or.inl ⟨by rfl, ?_⟩) (by assumption) ?_
    rotate_left
    · intro wS hSw; (try dsimp only at hSw); go_simp; first | done | with_reducible rfl
    try simp only [Act.put, List.setIfInBounds_toArray, List.set_cons_zero, List.set_cons_succ]
    refine wpAnyH_take (i := 24) (oi := { dst := some 69, op := Op.load 30 (Operand.tmp 8), type := 30, pos := _, after := _, guard := some (19, false) }) (v := ?_) rfl (by kernel_rfl) (by kernel_rfl) (by kernel_rfl) (fun _ _ _ h => h) (Or.inl ⟨by rfl, ?_⟩) (by assumption) ?_
    rotate_left
    · intro wS hSw; (try dsimp only at hSw); go_simp; first | done | with_reducible rfl
    try simp only [Act.put, List.setIfInBounds_toArray, List.set_cons_zero, List.set_cons_succ]
    refine wpAnyH_take (i := 25) (oi := { dst := some 70, op := Op.move (Operand.tmp 1), type := 3, pos := _, after := _, guard := some (19, false) }) (v := ?_) rfl (by kernel_rfl) (by kernel_rfl) (by kernel_rfl) (fun _ _ _ h => h) (Or.inl ⟨by rfl, ?_⟩) (by assumption) ?_
    rotate_left
    · intro wS hSw; (try dsimp only at hSw); go_simp; first | done | with_reducible rfl
    try simp only [Act.put, List.setIfInBounds_toArray, List.set_cons_zero, List.set_cons_succ]
    have hs14' := hs14
    have hone : Aps (w14.alloc (.cells #[.int .i64 ii, .int .i64 dd, .int .i64 cc, .int .i64 vv, .int .i64 rr] 30)) (.slice (some ⟨w14.heap.size, 0, none⟩) 1 1) [⟨ii, dd, cc, vv, rr⟩] := Aps.one _ _ _ _ _ _
    have hs15 : Below W.heap.size W (w14.alloc (.cells #[.int .i64 ii, .int .i64 dd, .int .i64 cc, .int .i64 vv, .int .i64 rr] 30)) := hs14.alloc hs14.size _
    refine wpAnyH_ready (rs := [21]) (by kernel_rfl) (by simp) ?_
    refine AllReadyH.cons (o := { dst := some 66, op := Op.buildSlice 22 1 #[(0, Operand.tmp 65)], type := 22, pos := _, after := _, guard := some (19, false) }) rfl (fun K hK => ?_) AllReadyH.nil
    go_simp
    refine hK.out _ _ ?_ (fun hHeld => ?_)
    · exact MK.out _ hs15
    clear hK K
    try simp only [Act.put, List.setIfInBounds_toArray, List.set_cons_zero, List.set_cons_succ]
    refine wpAnyH_ready (rs := [23]) (by kernel_rfl) (by simp) ?_
    refine AllReadyH.cons (o := { dst := some 68, op := Op.call { callee := Callee.value (Operand.func 18), args := #[Operand.tmp 66, Operand.tmp 67], argTypes := #[22, 3] }, type := 4, pos := _, after := _, guard := some (19, false) }) rfl (fun K hK => ?_) AllReadyH.nil
    go_simp
    refine (fits13_any [⟨ii, dd, cc, vv, rr⟩] _ now _ hone (by simp) HW1.out HN1.out (by omega) (by omega)).mono ?_
    rintro e w16 ⟨rfl, hb16⟩
    rw [HFZ.out]
    have hs16 := bstep hb16 (sBel (by assumption))
    go_wp2_with fail
    refine hK.out _ _ ?_ (fun hHeld => ?_)
    · exact MK.out _ hs16
    clear hK K
    try simp only [Act.put, List.setIfInBounds_toArray, List.set_cons_zero, List.set_cons_succ]
    refine wpAnyH_ready (rs := [26]) (by kernel_rfl) (by simp) ?_
    refine AllReadyH.cons (o := { dst := some 71, op := Op.call { callee := Callee.value (Operand.func 14), args := #[Operand.tmp 69, Operand.tmp 70], argTypes := #[30, 3] }, type := 3, pos := _, after := _, guard := some (19, false) }) rfl (fun K hK => ?_) AllReadyH.nil
    go_simp
    refine (lax_any ii dd cc vv rr now _ HNA.out (by omega) (by omega)).mono ?_
    rintro e w17 ⟨rfl, hb17⟩
    rw [HLX.out]
    have hs17 := bstep hb17 (sBel (by assumption))
    go_wp2_with fail
    refine hK.out _ _ ?_ (fun hHeld => ?_)
    · exact MK.out _ hs17
    clear hK K
    try simp only [Act.put, List.setIfInBounds_toArray, List.set_cons_zero, List.set_cons_succ]
    refine wpAnyH_take (i := 27) (oi := { dst := some 72, op := Op.binOp BinOp.geq 3 (Operand.tmp 71) (Operand.const (Value.int IntKind.i64 0)) 3, type := 4, pos := _, after := _, guard := some (19, false) }) (v := ?_) rfl (by kernel_rfl) (by kernel_rfl) (by kernel_rfl) (fun _ _ _ h => h) (Or.inl ⟨by rfl, ?_⟩) (by assumption) ?_
    rotate_left
    · intro wS hSw; (try dsimp only at hSw); go_simp; first | done | with_reducible rfl
    try simp only [Act.put, List.setIfInBounds_toArray, List.set_cons_zero, List.set_cons_succ]
    refine wpAnyH_take (i := 28) (oi := { dst := some 73, op := Op.binOp BinOp.neq 4 (Operand.tmp 68) (Operand.tmp 72) 4, type := 4, pos := _, after := _, guard := some (19, false) }) (v := ?_) rfl (by kernel_rfl) (by kernel_rfl) (by kernel_rfl) (fun _ _ _ h => h) (Or.inl ⟨by rfl, ?_⟩) (by assumption) ?_
    rotate_left
    · intro wS hSw; (try dsimp only at hSw); go_simp; first | done | with_reducible rfl
    try simp only [Act.put, List.setIfInBounds_toArray, List.set_cons_zero, List.set_cons_succ]
    refine wpAnyH_take (i := 29) (oi := { dst := some 74, op := Op.pick (Operand.tmp 64) (Operand.const (Value.bool true)) (Operand.tmp 73), type := 4, pos := _, after := _, guard := none }) (v := ?_) rfl (by kernel_rfl) (by kernel_rfl) (by kernel_rfl) (fun _ _ _ h => h) (Or.inl ⟨by rfl, ?_⟩) (by assumption) ?_
    rotate_left
    · intro wS hSw; (try dsimp only at hSw); go_simp; first | done | with_reducible rfl
    try simp only [Act.put, List.setIfInBounds_toArray, List.set_cons_zero, List.set_cons_succ]
    refine wpAnyH_done (by kernel_rfl) ?_ _
    have hB17 : Below w2.heap.size w2 w17 := HBW.out.trans (hs17.mono HBW.out.size)
    have HL9 : Hid (Aps w17 (.slice (some ⟨bk, o, none⟩) xs.length cap) xs) := HA2.out.later hB17
    have HB9 : Hid (Below w.heap.size w w17) := hB2.trans (hB17.mono hB2.size)
    have HY9 : Hid (Bx5 w17 (w2.heap.size + 1) ii dd cc vv (rr + 1)) := (MK.out _ hs17).1.2
    have hjc : (j : Int) ≤ cap := by omega
    have hj1 : (j : Int) + 1 ≤ xs.length := by omega
    have hj0 : (0 : Int) ≤ (j : Int) + 1 := by omega
    have hwj : IntKind.i64.wrap ((j : Int) + 1) = (j : Int) + 1 := wrap_near (by omega) (by omega)
    have HF9 : Hid (∀ w', Below w17.heap.size w17 w' → Rws recA w' (.slice (some ⟨bk, o, none⟩) j cap) j (atA xs)) := fun w' hb => Rws.front (R := recA) (HL9.out.later hb) (by omega)
    obtain ⟨ta, hta⟩ : ∃ ta, (if cap = j + 1 then some (⟨bk, o, none⟩ : Addr) else some ⟨bk, o + (j + 1) * 5, none⟩) = ta := ⟨_, rfl⟩
    have HTA : Hid ((if cap = j + 1 then some (⟨bk, o, none⟩ : Addr) else some ⟨bk, o + (j + 1) * 5, none⟩) = ta) := hta
    have HT9 : Hid (∀ w', Below w17.heap.size w17 w' → Rws recA w' (.slice ta (xs.length - (j + 1)) (cap - (j + 1))) (xs.length - (j + 1)) (fun t => atA xs (j + 1 + t))) := fun w' hb => by
      have hr : Rws recA w' _ _ _ := HL9.out.later hb
      rw [← hta]
      split
      · next hc => exact Rws.zero (by omega) (by omega) (by omega)
      · exact Rws.tail (R := recA) (t := j + 1) hr (by omega)
    clear hta
    clear hs17 hs16 hs15 hs14' hs14 hs13 hs12 hs11 hb11 hb12 hb13 hb14 hb16 hb17 hone hB17 MK
    go_wp2_with fail
    refine wp_region_held_drew (S := (fun w' : World => Below w17.heap.size w17 w')) (by kernel_rfl) ?_ (fun hHeld => ?_)
    · exact (Below.refl _ _).drew
    refine wpAnyH_take (i := 0) (oi := { dst := some 75, op := Op.move (Operand.tmp 0), type := 22, pos := _, after := _, guard := none }) (v := ?_) rfl (by kernel_rfl) (by kernel_rfl) (by kernel_rfl) (fun _ _ _ h => h) (Or.inl ⟨by rfl, ?_⟩) (by assumption) ?_
    rotate_left
    · intro wS hSw; (try dsimp only at hSw); go_simp; first | done | with_reducible rfl
    try simp only [Act.put, List.setIfInBounds_toArray, List.set_cons_zero, List.set_cons_succ]
    refine wpAnyH_take (i := 1) (oi := { dst := some 76, op := Op.move (Operand.tmp 2), type := 3, pos := _, after := _, guard := none }) (v := ?_) rfl (by kernel_rfl) (by kernel_rfl) (by kernel_rfl) (fun _ _ _ h => h) (Or.inl ⟨by rfl, ?_⟩) (by assumption) ?_
    rotate_left
    · intro wS hSw; (try dsimp only at hSw); go_simp; first | done | with_reducible rfl
    try simp only [Act.put, List.setIfInBounds_toArray, List.set_cons_zero, List.set_cons_succ]
    refine wpAnyH_take (i := 2) (oi := { dst := some 77, op := Op.slice 22 (Operand.tmp 75) none (some (Operand.tmp 76)) none, type := 22, pos := _, after := _, guard := none }) (v := ?_) rfl (by kernel_rfl) (by kernel_rfl) (by kernel_rfl) (fun _ _ _ h => h) (Or.inl ⟨by rfl, ?_⟩) (by assumption) ?_
    rotate_left
    · intro wS hSw; (try dsimp only at hSw); go_simp; first | done | with_reducible rfl
    try simp only [Act.put, List.setIfInBounds_toArray, List.set_cons_zero, List.set_cons_succ]
    refine wpAnyH_take (i := 4) (oi := { dst := some 79, op := Op.move (Operand.tmp 0), type := 22, pos := _, after := _, guard := none }) (v := ?_) rfl (by kernel_rfl) (by kernel_rfl) (by kernel_rfl) (fun _ _ _ h => h) (Or.inl ⟨by rfl, ?_⟩) (by assumption) ?_
    rotate_left
    · intro wS hSw; (try dsimp only at hSw); go_simp; first | done | with_reducible rfl
    try simp only [Act.put, List.setIfInBounds_toArray, List.set_cons_zero, List.set_cons_succ]
    refine wpAnyH_take (i := 5) (oi := { dst := some 80, op := Op.move (Operand.tmp 2), type := 3, pos := _, after := _, guard := none }) (v := ?_) rfl (by kernel_rfl) (by kernel_rfl) (by kernel_rfl) (fun _ _ _ h => h) (Or.inl ⟨by rfl, ?_⟩) (by assumption) ?_
    rotate_left
    · intro wS hSw; (try dsimp only at hSw); go_simp; first | done | with_reducible rfl
    try simp only [Act.put, List.setIfInBounds_toArray, List.set_cons_zero, List.set_cons_succ]
    refine wpAnyH_take (i := 6) (oi := { dst := some 81, op := Op.binOp BinOp.add 3 (Operand.tmp 80) (Operand.const (Value.int IntKind.i64 1)) 3, type := 3, pos := _, after := _, guard := none }) (v := ?_) rfl (by kernel_rfl) (by kernel_rfl) (by kernel_rfl) (fun _ _ _ h => h) (Or.inl ⟨by rfl, ?_⟩) (by assumption) ?_
    rotate_left
    · intro wS hSw; (try dsimp only at hSw); go_simp; first | done | with_reducible rfl
    try simp only [Act.put, List.setIfInBounds_toArray, List.set_cons_zero, List.set_cons_succ]
    refine wpAnyH_take (i := 7) (oi := { dst := some 82, op := Op.slice 22 (Operand.tmp 79) (some (Operand.tmp 81)) none none, type := 22, pos := _, after := _, guard := none }) (v := ?_) rfl (by kernel_rfl) (by kernel_rfl) (by kernel_rfl) (fun _ _ _ h => h) (Or.inl ⟨by rfl, ?_⟩) (by assumption) ?_
    rotate_left
    · intro wS hSw; (try dsimp only at hSw); go_simp; first | done | with_reducible rfl
    try simp only [Act.put, List.setIfInBounds_toArray, List.set_cons_zero, List.set_cons_succ]
    rw [HTA.out]
    clear HTA
    have hd9 : Below w17.heap.size w17 w17.drew := (Below.refl _ _).drew
    refine wpAnyH_ready (rs := [3]) (by kernel_rfl) (by simp) ?_
    refine AllReadyH.cons (o := { dst := some 78, op := Op.call { callee := Callee.builtin Builtin.append, args := #[Operand.const (Value.slice none 0 0), Operand.tmp 77], argTypes := #[22, 22] }, type := 22, pos := _, after := _, guard := none }) rfl (fun K hK => ?_) AllReadyH.nil
    refine step_append_rws (R := recA) Try.underlying22 Try.infoApe rfl (by omega) rfl _ _ rfl w17.heap.size (.slice none 0 0) _ 0 j (fun _ => apZ) (atA xs) rfl (OwnR.nil _ _ _ _ _) rfl (HF9.out _ hd9) (by omega) (Nat.le_refl _) ?_
    intro v3 w18 ho18 hb18'
    have hb18 : Below w17.heap.size w17 w18 := hd9.trans hb18'
    refine hK.out _ _ ?_ (fun hHeld => ?_)
    · exact hb18
    clear hK K
    try simp only [Act.put, List.setIfInBounds_toArray, List.set_cons_zero, List.set_cons_succ]
    refine wpAnyH_ready (rs := [8]) (by kernel_rfl) (by simp) ?_
    refine AllReadyH.cons (o := { dst := some 83, op := Op.call { callee := Callee.builtin Builtin.append, args := #[Operand.tmp 78, Operand.tmp 82], argTypes := #[22, 22] }, type := 22, pos := _, after := _, guard := none }) rfl (fun K hK => ?_) AllReadyH.nil
    refine step_append_rws (R := recA) Try.underlying22 Try.infoApe rfl (by omega) rfl _ _ rfl w17.heap.size v3 _ (0 + j) (xs.length - (j + 1)) (catR 0 (fun _ => apZ) (atA xs)) (fun t => atA xs (j + 1 + t)) rfl ho18 rfl (HT9.out _ hb18) (by omega) hb18.size ?_
    intro v4 w19 ho19 hb19'
    have hb19 : Below w17.heap.size w17 w19 := hb18.trans hb19'
    refine hK.out _ _ ?_ (fun hHeld => ?_)
    · exact hb19
    clear hK K
    try simp only [Act.put, List.setIfInBounds_toArray, List.set_cons_zero, List.set_cons_succ]
    refine wpAnyH_take (i := 9) (oi := { dst := some 10, op := Op.assign (Operand.tmp 83), type := 22, pos := _, after := _, guard := none }) (v := ?_) rfl (by kernel_rfl) (by kernel_rfl) (by kernel_rfl) (fun _ _ _ h => h) (Or.inl ⟨by rfl, ?_⟩) (by assumption) ?_
    rotate_left
    · intro wS hSw; (try dsimp only at hSw); go_simp; first | done | with_reducible rfl
    try simp only [Act.put, List.setIfInBounds_toArray, List.set_cons_zero, List.set_cons_succ]
    refine wpAnyH_done (by kernel_rfl) ?_ _
    have HLS : Hid (Aps w19 v4 (lesA xs j)) := les_row hj ho19
    have HL19 : Hid (Aps w19 (.slice (some ⟨bk, o, none⟩) xs.length cap) xs ∧ Bx5 w19 (w2.heap.size + 1) ii dd cc vv (rr + 1) ∧ Below w.heap.size w w19) := ⟨HL9.out.later hb19, HY9.out.later hb19, HB9.out.trans (hb19.mono HB9.out.size)⟩
    clear ho18 ho19 hb18 hb19 hb18' hb19' hd9 HL9 HB9 HY9 HF9 HT9
    go_wp2_with (first
      | (at_builtin; refine append_rws (R := recA) Try.underlying22 Try.infoApe rfl (by omega) rfl _ _ rfl w19.heap.size (.slice none 0 0) _ 0 xs.length (fun _ => apZ) (atA xs) rfl (OwnR.nil _ _ _ _ _) rfl HL19.out.1 (by omega) (Nat.le_refl _) ?_; intro lv w20 ho20 hb20
         have hO := OwnR.same (f := fun _ => apZ) (by exact ho20)
         obtain ⟨g, gc, rfl, gl1, gl2⟩ : ∃ g gc, lv = .slice (some ⟨g, 0, none⟩) xs.length gc ∧ w19.heap.size ≤ g ∧ g < w20.heap.size := by
           rcases OwnR.open hO with ⟨_, e⟩ | ⟨g, gc, e, h1, h2, _⟩
           · omega
           · exact ⟨g, gc, e, h1, h2⟩
         obtain ⟨x0, x1, x2, x3, x4⟩ := HL19.out.2.1.later hb20
         obtain ⟨s0, s1, s2, s3, s4, f4⟩ := OwnR.at5 hO hj
         have f0 := (hO.cell hj (j := 0) (by decide)).2
         have f1 := (hO.cell hj (j := 1) (by decide)).2
         have f2 := (hO.cell hj (j := 2) (by decide)).2
         have f3 := (hO.cell hj (j := 3) (by decide)).2
         change w20.frozen? ⟨g, j * 5, none⟩ = false at f0
         change w20.frozen? ⟨g, j * 5 + 1, none⟩ = false at f1
         change w20.frozen? ⟨g, j * 5 + 2, none⟩ = false at f2
         change w20.frozen? ⟨g, j * 5 + 3, none⟩ = false at f3
         have HO20 : Hid (OwnR recA w20 w19.heap.size 30 (.slice (some ⟨g, 0, none⟩) xs.length gc) xs.length (atA xs) ∧ Below w19.heap.size w19 w20) := ⟨hO, hb20⟩
         clear hO ho20 hb20))
    obtain ⟨w21, hw21⟩ : ∃ w21, (((((w20.setCell ⟨g, j * 5, none⟩ (.int .i64 ii)).setCell ⟨g, j * 5 + 1, none⟩ (.int .i64 dd)).setCell ⟨g, j * 5 + 2, none⟩ (.int .i64 cc)).setCell ⟨g, j * 5 + 3, none⟩ (.int .i64 vv)).setCell ⟨g, j * 5 + 4, none⟩ (.int .i64 (rr + 1))) = w21 := ⟨_, rfl⟩
    have HS21 : Hid (Aps w21 (.slice (some ⟨g, 0, none⟩) xs.length gc) (shtA xs j ⟨ii, dd, cc, vv, rr + 1⟩)) := by
      have h1 := OwnR.rws (OwnR.put HO20.out.1 hj ⟨ii, dd, cc, vv, rr + 1⟩)
      have h2 : Rws recA w21 (.slice (some ⟨g, 0, none⟩) xs.length gc) xs.length (upR (atA xs) j ⟨ii, dd, cc, vv, rr + 1⟩) := by rw [← hw21]; exact h1
      show Rws recA _ _ _ _
      rw [sht_len hj]
      exact h2.congr (fun k _ => (HSA.out _ k).symm)
    have hb21 : Below w19.heap.size w19 w21 := by rw [← hw21]; exact ((((HO20.out.2.setCell (p := ⟨g, j * 5, none⟩) gl1 _).setCell (p := ⟨g, j * 5 + 1, none⟩) gl1 _).setCell (p := ⟨g, j * 5 + 2, none⟩) gl1 _).setCell (p := ⟨g, j * 5 + 3, none⟩) gl1 _).setCell (p := ⟨g, j * 5 + 4, none⟩) gl1 _
    have HL21 : Hid (Aps w21 (.slice (some ⟨bk, o, none⟩) xs.length cap) xs ∧ Aps w21 v4 (lesA xs j) ∧ Below w.heap.size w w21) := ⟨HL19.out.1.later hb21, HLS.out.later hb21, HL19.out.2.2.trans (hb21.mono HL19.out.2.2.size)⟩
    clear x0 x1 x2 x3 x4 s0 s1 s2 s3 s4 f0 f1 f2 f3 f4 HO20 HL19 HLS hb21
    go_wp2_with fail
    rw [hw21]
    clear hw21
    refine (fits13_any xs _ now w21 HL21.out.1 (by omega) HW.out HMX.out.2.2 (by omega) (by omega)).mono ?_
    rintro e w22 ⟨rfl, hb22⟩
    obtain ⟨f, hf⟩ : ∃ f, fitsA xs now = f := ⟨_, rfl⟩
    rw [hf] at HFL HFS ⊢
    clear hf
    have HB22 : Hid (Below w.heap.size w w22) := HL21.out.2.2.trans (hb22.mono HL21.out.2.2.size)
    have HL22 : Hid (Aps w22 v4 (lesA xs j) ∧ Aps w22 (.slice (some ⟨g, 0, none⟩) xs.length gc) (shtA xs j ⟨ii, dd, cc, vv, rr + 1⟩)) := ⟨HL21.out.2.1.later hb22, HS21.out.later hb22⟩
    clear HL21 HS21 hb22
    cases f
    · go_wp2_with fail
      go_ret
      exact ⟨rfl, HB22.out⟩
    have HFL2 : Hid (fitsA (lesA xs j) now = true) := HFL.out (by trivial)
    have HFS2 : Hid (fitsA (shtA xs j ⟨ii, dd, cc, vv, rr + 1⟩) now = true) := HFS.out (by trivial)
    have hll := les_len xs j
    have hsl := sht_len hj ⟨ii, dd, cc, vv, rr + 1⟩
    have HWL : Hid ((∀ a ∈ lesA xs j, wfK a.key) ∧ nearL (lesA xs j)) := by
      have hs : ∀ a ∈ lesA xs j, a ∈ xs := fun a ha => by
        unfold lesA at ha
        rcases List.mem_append.1 ha with ha | ha
        · exact List.mem_of_mem_take ha
        · exact List.mem_of_mem_drop ha
      exact ⟨fun a ha => HW.out a (hs a ha), fun a ha => HMX.out.2.2 a (hs a ha)⟩
    have HSL : Hid ((shtA xs j ⟨ii, dd, cc, vv, rr + 1⟩).length = xs.length) := hsl
    clear hsl HFL HFS
    go_wp2_with fail
    refine (fits13_any (lesA xs j) _ now w22 HL22.out.1 (by omega) HWL.out.1 HWL.out.2 (by omega) (by omega)).mono ?_
    rintro e w23 ⟨rfl, hb23⟩
    rw [HFL2.out]
    have HB23 : Hid (Below w.heap.size w w23) := HB22.out.trans (hb23.mono HB22.out.size)
    have HL23 : Hid (Aps w23 _ _) := HL22.out.2.later hb23
    clear HL22 HB22 hb23
    go_wp2_with fail
    refine (fits13_any (shtA xs j ⟨ii, dd, cc, vv, rr + 1⟩) _ now w23 HL23.out (by rw [HSL.out]; omega) (HWS.out _ HWB.out) (HNS.out _ HNB.out) (by omega) (by omega)).mono ?_
    rintro e w24 ⟨rfl, hb24⟩
    rw [HFS2.out]
    have HB24 : Hid (Below w.heap.size w w24) := HB23.out.trans (hb24.mono HB23.out.size)
    go_wp2_with fail
    go_ret
    exact ⟨rfl, HB24.out⟩
end Go.Proofs.Ytjaaabliefcgaaa
