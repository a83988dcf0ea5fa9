/- What the statement DoverCan comes to. -/
import Derived.Test.YtjaaabliefcgaaaO17
namespace Go.Proofs.Ytjaaabliefcgaaa
open Go.RowKit Go.Maps Go.Shelf

theorem getD_mem {gl : List Int} {j : Nat} (h : j < gl.length) : gl.getD j 0 ∈ gl := by
  simp [List.getD, h]
theorem getD_ne {gl : List Int} (hd : gl.Nodup) {j k : Nat} (hk : k < j) (hj : j < gl.length) : gl.getD k 0 ≠ gl.getD j 0 := by
  intro e
  have h1 : gl[k]? = some (gl.getD k 0) := by simp [List.getD, show k < gl.length by omega]
  have h2 : gl[j]? = some (gl.getD j 0) := by simp [List.getD, hj]
  rw [e, ← h2] at h1
  have := (List.getElem?_inj (i := k) (by omega) hd).1 h1
  omega
set_option maxHeartbeats 2000000 in
set_option maxRecDepth 100000 in
theorem law_dcan (xs : List Ap) (v : Value) (cur now : Int) (w : World) (h : Aps w v xs) (hw : ∀ a ∈ xs, wfK a.key) (hc : okI cur) :
    Calls Try.prog 4 #[v, .int .i64 cur, .int .i64 now] w fun e w' => e = .returned (.bool true) ∧ Below w.heap.size w w' := by
  have HA : Hid (Aps w v xs) := h
  have HC : Hid (okI cur) := hc
  have HW : Hid (∀ a ∈ xs, wfK a.key) := hw
  clear h hc hw
  go_enter Try.func4, Try.ntmps4
  go_wp2_with fail
  refine (awake13_any _).mono ?_
  rintro e w1 ⟨rfl, hb1⟩
  have HA1 : Hid (Aps w1 v xs) := HA.out.later hb1
  go_wp2_with fail
  refine (may13_any xs v now w1 HA1.out HW.out).mono ?_
  rintro e w2 ⟨rfl, hb2⟩
  have hB2 := hb1.trans (hb2.mono hb1.size)
  have HA2 : Hid (Aps w2 v xs) := HA1.out.later hb2
  obtain ⟨p, hp⟩ : ∃ p, mayL xs now = p := ⟨_, rfl⟩
  have HM : Hid (mayL xs now = p) := hp
  rw [hp]
  clear hp hb1 hb2 HA1 HA
  cases p
  · go_wp2_with fail
    go_ret
    exact ⟨rfl, hB2⟩
  obtain ⟨n4, ⟨n0, n1⟩, nd, hall⟩ := mayL_iff.1 HM.out
  have HND : Hid ((idsA xs).Nodup ∧ ∀ a ∈ xs, nearA a) := ⟨nd, fun a ha => mayA_near (hall a ha)⟩
  have HCAN : Hid (CanR xs now (pickA xs cur now).1 (pickA xs cur now).2) := pick_can HM.out
  clear nd hall
  go_wp2_with fail
  refine (pick13_any xs v cur now w2 HA2.out HW.out HC.out).mono ?_
  rintro e w3 ⟨g, rfl, hg, hb3⟩
  obtain ⟨⟨p, gl⟩, hpk⟩ : ∃ s, pickA xs cur now = s := ⟨_, rfl⟩
  rw [hpk] at hg HCAN ⊢
  have HS3 : Hid (Aps w3 v xs ∧ Below w.heap.size w w3) := ⟨HA2.out.later hb3, hB2.trans (hb3.mono hB2.size)⟩
  obtain ⟨ga, gc, rfl, g1, g2, g3⟩ := hg.nums.1
  have HCA : Hid (CanR xs now p gl) := HCAN.out
  have hgl : gl.length ≤ 4 := by
    by_cases c : p ∈ idsA xs
    · obtain ⟨a, ha, e⟩ := List.mem_map.1 c
      have := (HCA.out.ins a ha e).2
      omega
    · have := (HCA.out.out c).2
      omega
  clear hpk hg hb3 HCAN hB2 HA2 HM
  go_wp2_with fail
  go_loopw [10] (fun i wr => ∃ (j : Nat), j ≤ gl.length ∧ i = .int .i64 j ∧ Below w3.heap.size w3 wr) (fun i _ => ((gl.length : Int) - intOf i).toNat)
  case atStart => exact ⟨0, by omega, rfl, Below.refl _ _⟩
  case round =>
    obtain ⟨j, hj, rfl, hbw⟩ := hrel
    by_cases hjl : (j : Int) < gl.length
    · obtain ⟨gb, go, rfl, g4⟩ := g3 (by intro e; rw [e] at hjl; simp at hjl; omega)
      have c0 := cell_later hbw (g4 j (by omega))
      have sgb : gb < w3.heap.size := World.block_lt_of_cell? _ _ (g4 j (by omega))
      have HG4 : Hid (∀ i, i < gl.length → w3.cell? ⟨gb, go + i, none⟩ = some (.int .i64 (gl.getD i 0))) := g4
      obtain ⟨a, ha, e1, e2, e3⟩ := HCA.out.lax _ (getD_mem (show j < gl.length by omega))
      have HFD : Hid (fdA xs (gl.getD j 0) = some a) := by show _ = _; rw [← e1]; exact fd_mem HND.out.1 ha
      have HNR : Hid (nearA a) := HND.out.2 a ha
      have HNE : Hid (∀ k, k < j → gl.getD k 0 ≠ gl.getD j 0) := fun k hk => getD_ne HCA.out.nodup hk (by omega)
      have HAW : Hid (Aps wr v xs) := HS3.out.1.later hbw
      clear g4 g3 ha e1
      obtain ⟨x, hx⟩ : ∃ x, gl.getD j 0 = x := ⟨_, rfl⟩
      have HX : Hid (gl.getD j 0 = x) := hx
      rw [hx] at c0 HFD e3 HNE
      clear hx
      have e3' : (x == p) = false := by simpa using e3
      clear e3
      go_wp2_with fail
      refine (find13_any xs v x wr HAW.out).mono ?_
      rintro e w4 ⟨rfl, hb4⟩
      rw [HFD.out]
      have hB4 := hbw.trans (hb4.mono hbw.size)
      have c1 : w4.cell? ⟨gb, go + j, none⟩ = some (.int .i64 x) := cell_later hb4 c0
      have sg4 : gb < w4.heap.size := Nat.lt_of_lt_of_le sgb hB4.size
      obtain ⟨ii, dd, cc, vv, rr⟩ := a
      change Hid (nearA ⟨ii, dd, cc, vv, rr⟩) at HNR
      simp only [Option.getD_some, Option.isSome_some, apV]
      have hbX := (Below.refl w4.heap.size w4).alloc (Nat.le_refl _) (.cells #[.int .i64 ii, .int .i64 dd, .int .i64 cc, .int .i64 vv, .int .i64 rr] 30)
      have hB5 := hB4.alloc hB4.size (.cells #[.int .i64 ii, .int .i64 dd, .int .i64 cc, .int .i64 vv, .int .i64 rr] 30)
      have c2 := cell_later hbX c1
      clear hbX hb4 hbw c0
      go_wp2_with fail
      refine (lax_any ii dd cc vv rr now _ HNR.out (by omega) (by omega)).mono ?_
      rintro e w5 ⟨rfl, hb5⟩
      have hB6 := hB5.trans (hb5.mono hB5.size)
      obtain ⟨lx, hlx⟩ : ∃ lx, laxA ⟨ii, dd, cc, vv, rr⟩ now = lx := ⟨_, rfl⟩
      rw [hlx] at e2 ⊢
      have hl0 : ¬ 0 < lx := by omega
      clear hlx hb5 hB5 hB4 c1 c2 sg4 e2 HFD HAW
      go_wp2_with fail
      go_loopw [13] (fun i wr => ∃ (k : Nat), k ≤ j ∧ i = .int .i64 k ∧ Below w3.heap.size w3 wr) (fun i _ => ((j : Int) - intOf i).toNat)
      case atStart => exact ⟨0, by omega, rfl, hB6⟩
      case round =>
        clear hB6
        obtain ⟨k, hk, rfl, hbw⟩ := hrel
        by_cases hkj : (k : Int) < j
        · have d0 := cell_later hbw (HG4.out k (by omega))
          have d1 := cell_later hbw (HG4.out j (by omega))
          rw [HX.out] at d1
          have hne := HNE.out k (by omega)
          obtain ⟨y, hy⟩ : ∃ y, gl.getD k 0 = y := ⟨_, rfl⟩
          rw [hy] at d0 hne
          clear hy
          have hne' : (y == x) = false := by simpa using hne
          clear hne
          go_wp2_with fail
          go_quiet (fail)
          go_wp2_with fail
          go_roundw
          case rel => exact ⟨k + 1, by omega, by go_num, ⟨hbw.os, hbw.tape, hbw.output, hbw.size, hbw.block⟩⟩
          case measure => simp [intOf]; omega
        · obtain rfl : k = j := by omega
          go_wp2_with fail
          go_roundw
          case rel => exact ⟨k + 1, by omega, by go_num, hbw⟩
          case measure => simp [intOf]; omega
    · obtain rfl : j = gl.length := by omega
      have HAW : Hid (Aps wr v xs) := HS3.out.1.later hbw
      have HBW : Hid (Below w.heap.size w wr) := HS3.out.2.trans (hbw.mono HS3.out.2.size)
      obtain ⟨ad, cap, rfl, _⟩ := HAW.out.open
      clear g3 hbw
      by_cases hin : p ∈ idsA xs
      · obtain ⟨a, ha, e1⟩ := List.mem_map.1 hin
        have HFD : Hid (fdA xs p = some a) := by show _ = _; rw [← e1]; exact fd_mem HND.out.1 ha
        obtain ⟨i1, i2⟩ := HCA.out.ins a ha e1
        have HNR : Hid (nearA a) := HND.out.2 a ha
        clear hin ha e1
        go_wp2_with fail
        refine (find13_any xs _ p wr HAW.out).mono ?_
        rintro e w4 ⟨rfl, hb4⟩
        rw [HFD.out]
        have hB4 := HBW.out.trans (hb4.mono HBW.out.size)
        obtain ⟨ii, dd, cc, vv, rr⟩ := a
        change Hid (nearA ⟨ii, dd, cc, vv, rr⟩) at HNR
        simp only [Option.getD_some, Option.isSome_some, apV]
        have hB5 := hB4.alloc hB4.size (.cells #[.int .i64 ii, .int .i64 dd, .int .i64 cc, .int .i64 vv, .int .i64 rr] 30)
        have hlen : (gl.length : Int) < xs.length := by omega
        clear hb4 HBW
        go_wp2_with fail
        refine (lax_any ii dd cc vv rr now _ HNR.out (by omega) (by omega)).mono ?_
        rintro e w5 ⟨rfl, hb5⟩
        have hB6 := hB5.trans (hb5.mono hB5.size)
        obtain ⟨lx, hlx⟩ : ∃ lx, laxA ⟨ii, dd, cc, vv, rr⟩ now = lx := ⟨_, rfl⟩
        rw [hlx] at i1 ⊢
        clear hlx hb5
        go_wp2_with fail
        go_ret
        exact ⟨by first | rfl | exact ret_b (by simp; omega), hB6⟩
      · obtain ⟨o1, o2⟩ := HCA.out.out hin
        have O1 : Hid (p = -1) := o1
        have O2 : Hid (gl.length = xs.length) := o2
        clear o1 o2
        have HFD : Hid (fdA xs p = none) := fd_not hin
        clear hin
        go_wp2_with fail
        refine (find13_any xs _ p wr HAW.out).mono ?_
        rintro e w4 ⟨rfl, hb4⟩
        rw [HFD.out]
        have hB4 := HBW.out.trans (hb4.mono HBW.out.size)
        simp only [Option.getD_none, Option.isSome_none, apV, apZ]
        have hB5 := hB4.alloc hB4.size (.cells #[.int .i64 0, .int .i64 0, .int .i64 0, .int .i64 0, .int .i64 0] 30)
        have hlen : ((gl.length : Int) == xs.length) = true := by have := O2.out; simpa using (by omega : (gl.length : Int) = xs.length)
        have o1 := O1.out
        subst o1
        clear hb4 HBW O1
        go_wp2_with fail
        go_ret
        exact ⟨by first | rfl | exact ret_b (by simpa using hlen), hB5⟩
end Go.Proofs.Ytjaaabliefcgaaa
