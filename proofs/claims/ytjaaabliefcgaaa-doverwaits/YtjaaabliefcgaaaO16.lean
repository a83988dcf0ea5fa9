/- What the statement DoverFits comes to. -/
import Derived.Test.YtjaaabliefcgaaaO15
namespace Go.Proofs.Ytjaaabliefcgaaa
open Go.RowKit Go.Maps Go.Shelf

theorem own_some {w : World} {base n : Nat} {v : Value} {xs : List Int} (h : w.ownsRow base 3 1 v n (ivs xs)) (hn : 0 < n) : ∃ g cap, v = .slice (some ⟨g, 0, none⟩) n cap ∧ n ≤ cap := by
  rcases h.2 with ⟨_, e⟩ | ⟨g, cap, cur, rfl, _, _, b2, _⟩
  · omega
  · exact ⟨g, cap, rfl, b2⟩
theorem ord_cell {w : World} {base g cap : Nat} {xs : List Ap} (h : w.ownsRow base 3 1 (.slice (some ⟨g, 0, none⟩) xs.length cap) xs.length (ivs (idsA (ordA xs)))) {j : Nat} (hj : j < xs.length) : w.cell? ⟨g, j, none⟩ = some (.int .i64 (atA (ordA xs) j).id) := by
  have k0 := (h.cellAt j (by omega)).trans (ivs_at (by rw [idsA_len, ordA_len]; exact hj))
  have e0 : (idsA (ordA xs)).getD j 0 = (atA (ordA xs) j).id := by
    have := atA_ordId hj
    simp [List.getD, this]
  rwa [e0] at k0

set_option maxHeartbeats 1000000 in
set_option maxRecDepth 100000 in
theorem law_dfits (xs : List Ap) (v : Value) (cur now : Int) (w : World) (h : Aps w v xs) (hw : ∀ a ∈ xs, wfK a.key) (hc : okI cur) :
    Calls Try.prog 5 #[v, .int .i64 cur, .int .i64 now] w fun e w' => e = .returned (.bool true) ∧ Below w.heap.size w w' := by
  obtain ⟨a0, ha, ha0, ha1, ha2⟩ := info_parts Try.infoApe
  have HA : Hid (Aps w v xs) := h
  have HC : Hid (okI cur) := hc
  have HW : Hid (∀ a ∈ xs, wfK a.key) := hw
  clear h hc hw
  go_enter Try.func5, Try.ntmps5
  go_wp2_with fail
  refine (awake13_any _).mono ?_
  rintro e w1 ⟨rfl, hb1⟩
  have HA1 : Hid (Aps w1 v xs) := HA.out.later hb1
  go_wp2_with fail
  refine (may13_any xs v now w1 HA1.out HW.out).mono ?_
  rintro e w2 ⟨rfl, hb2⟩
  have hB2 := hb1.trans (hb2.mono hb1.size)
  have HA2 : Hid (Aps w2 v xs) := HA1.out.later hb2
  obtain ⟨p, hp⟩ : ∃ p, mayL xs now = p := ⟨_, rfl⟩
  have HM : Hid (mayL xs now = p) := hp
  rw [hp]
  clear hp hb1 hb2 HA1 HA
  cases p
  · go_wp2_with fail
    go_ret
    exact ⟨rfl, hB2⟩
  obtain ⟨n4, ⟨n0, n1⟩, _, hall⟩ := mayL_iff.1 HM.out
  have HNL : Hid (nearL xs) := fun a ha => mayA_near (hall a ha)
  have HTB : Hid (totA xs ≤ 160) := by have := (totA_bd hall).2; show _ ≤ _; omega
  clear hall
  by_cases hn38 : 274877906944 < now
  · go_wp2_with fail
    go_ret
    exact ⟨rfl, hB2⟩
  go_wp2_with fail
  refine (fits13_any xs v now w2 HA2.out (by omega) HW.out HNL.out (by omega) (by omega)).mono ?_
  rintro e w3 ⟨rfl, hb3⟩
  have hB3 := hB2.trans (hb3.mono hB2.size)
  have HA3 : Hid (Aps w3 v xs) := HA2.out.later hb3
  obtain ⟨p, hp⟩ : ∃ p, fitsA xs now = p := ⟨_, rfl⟩
  have HF : Hid (fitsA xs now = p) := hp
  rw [hp]
  clear hp hb3 HA2 hB2
  cases p
  · go_wp2_with fail
    go_ret
    exact ⟨rfl, hB3⟩
  have HS : Hid (Aps w3 v xs ∧ mayL xs now = true ∧ fitsA xs now = true ∧ totA xs ≤ 160 - ((0 : Nat) : Int) ∧ okI cur ∧ Below w.heap.size w w3) := ⟨HA3.out, HM.out, HF.out, by have := HTB.out; omega, HC.out, hB3⟩
  clear HA3 HM HF HTB hB3 HC HW HNL
  go_wp2_with fail
  go_loopw [0, 1, 2, 8] (fun l c n kk wr => ∃ (k : Nat) (ys : List Ap) (lv : Value) (cu nw : Int), lv = l ∧ c = .int .i64 cu ∧ n = .int .i64 nw ∧ kk = .int .i64 k ∧ k ≤ 200 ∧ nw ≤ 274877906944 + k ∧ Hid (Aps wr lv ys ∧ mayL ys nw = true ∧ fitsA ys nw = true ∧ totA ys ≤ 160 - (k : Int) ∧ okI cu ∧ Below w.heap.size w wr)) (fun _ _ _ kk _ => ((200 : Int) - intOf kk).toNat)
  case atStart => exact ⟨0, xs, _, _, _, rfl, rfl, rfl, rfl, by omega, by omega, HS.out⟩
  case round =>
    clear HS n4 n0 n1 hn38
    obtain ⟨k, ys, lv, cu, nw, rfl, rfl, rfl, rfl, hk, hnw, HS⟩ := hrel
    obtain ⟨n4, ⟨n0, n1⟩, _, hall⟩ := mayL_iff.1 HS.out.2.1
    have htot := totA_bd hall
    have HWF : Hid (∀ a ∈ ys, wfK a.key) := fun a ha => mayA_wf (hall a ha)
    obtain ⟨ad, cap, rfl, l1, l2, l3, l4⟩ := HS.out.1.open
    clear hall l4
    by_cases hz : ys.length = 0
    · have hz' : (ys.length : Int) = 0 := by omega
      have HB : Hid (Below w.heap.size w wr) := HS.out.2.2.2.2.2
      clear HS HWF htot
      by_cases hk2 : (k : Int) < 200
      · go_wp2_with fail
        go_ret
        exact ⟨rfl, HB.out⟩
      · go_wp2_with fail
        go_ret
        exact ⟨rfl, HB.out⟩
    have hk2 : (k : Int) < 200 := by have := HS.out.2.2.2.1; omega
    have hpos : (0 : Int) < ys.length := by omega
    have HPK : Hid (pickA ys cu nw = ((atA (ordA ys) 0).id, [])) := pick_fits HS.out.2.1 HS.out.2.2.1 (by omega)
    obtain ⟨s1, s2, s3, s4⟩ := fit_step HS.out.2.1 HS.out.2.2.1 (by omega) (by omega)
    have HOI : Hid (okI (atA (ordA ys) 0).id) := (HWF.out _ ((ordA_perm ys).mem_iff.1 (atA_mem (by rw [ordA_len]; omega)))).2
    have HST : Hid (mayL (rstA ys (atA (ordA ys) 0).id) (nw + 1) = true ∧ fitsA (rstA ys (atA (ordA ys) 0).id) (nw + 1) = true ∧ totA (rstA ys (atA (ordA ys) 0).id) ≤ 160 - ((k + 1 : Nat) : Int) ∧ ∀ a ∈ ys, keepB (bmp (atA (ordA ys) 0).id a) = false → nw + 1 ≤ a.due) := ⟨s1, s2, by have := HS.out.2.2.2.1; omega, s4⟩
    have hwn : IntKind.i64.wrap (nw + 1) = nw + 1 := wrap_near (by omega) (by omega)
    have HMY : Hid (mayL ys nw = true) := HS.out.2.1
    clear s1 s2 s3 s4 htot
    go_wp2_with fail
    refine (pick13_any ys _ cu nw wr HS.out.1 HWF.out HS.out.2.2.2.2.1).mono ?_
    rintro e w4 ⟨g, rfl, hg, hb4⟩
    rw [HPK.out] at hg ⊢
    obtain ⟨ga, gc, rfl, _⟩ := hg.nums.1
    have HS4 : Hid (Aps w4 (.slice ad ys.length cap) ys ∧ Below w.heap.size w w4) := ⟨HS.out.1.later hb4, HS.out.2.2.2.2.2.trans (hb4.mono HS.out.2.2.2.2.2.size)⟩
    clear hg hb4 HS HPK
    go_wp2_with fail
    refine (order13_any ys _ w4 HS4.out.1 (by omega) HWF.out).mono ?_
    rintro e w5 ⟨u, rfl, hu, hb5⟩
    obtain ⟨go, oc, rfl, _⟩ := own_some hu (by omega)
    have c0 := ord_cell hu (j := 0) (by omega)
    have HS5 : Hid (Aps w5 (.slice ad ys.length cap) ys ∧ Below w.heap.size w w5) := ⟨HS4.out.1.later hb5, HS4.out.2.trans (hb5.mono HS4.out.2.size)⟩
    obtain ⟨oi, ho⟩ : ∃ oi, (atA (ordA ys) 0).id = oi := ⟨_, rfl⟩
    rw [ho] at c0 HST HOI ⊢
    clear ho hu hb5 HS4 HWF
    go_wp2_with fail
    clear c0
    go_loopw [12, 13] (fun rv i wr => ∃ (j : Nat) (rest : Value), rest = rv ∧ j ≤ ys.length ∧ i = .int .i64 j ∧ Hid (OwnA wr w5.heap.size rest (rstA (ys.take j) oi)) ∧ Below w5.heap.size w5 wr) (fun _ i _ => ((ys.length : Int) - intOf i).toNat)
    case atStart => exact ⟨0, _, rfl, by omega, rfl, OwnA.nil _ _, Below.refl _ _⟩
    case round =>
      obtain ⟨j, rest, rfl, hj, rfl, HO, hbw⟩ := hrel
      by_cases hjl : (j : Int) < ys.length
      rotate_left
      · obtain rfl : j = ys.length := by omega
        have HO2 : Hid (OwnA wr w5.heap.size rest (rstA ys oi)) := by have := HO.out; rwa [List.take_length] at this
        have HB2 : Hid (Below w.heap.size w wr) := HS5.out.2.trans (hbw.mono HS5.out.2.size)
        have HWR : Hid (∀ a ∈ rstA ys oi, wfK a.key) := fun a ha => mayA_wf ((mayL_iff.1 HST.out.1).2.2.2 a ha)
        have HNR : Hid (nearL (rstA ys oi)) := fun a ha => mayA_near ((mayL_iff.1 HST.out.1).2.2.2 a ha)
        have hrl := rst_len ys oi
        clear HO hbw HS5
        go_wp2_with fail
        refine (fits13_any (rstA ys oi) _ (nw + 1) _ HO2.out.aps (by omega) HWR.out HNR.out (by omega) (by omega)).mono ?_
        rintro e w6 ⟨rfl, hb6⟩
        rw [HST.out.2.1]
        have HS6 : Hid (Aps w6 rest (rstA ys oi) ∧ mayL (rstA ys oi) (nw + 1) = true ∧ fitsA (rstA ys oi) (nw + 1) = true ∧ totA (rstA ys oi) ≤ 160 - ((k + 1 : Nat) : Int) ∧ okI oi ∧ Below w.heap.size w w6) := ⟨HO2.out.aps.later hb6, HST.out.1, HST.out.2.1, HST.out.2.2.1, HOI.out, HB2.out.trans (hb6.mono HB2.out.size)⟩
        clear HO2 HB2 HWR HNR hb6
        go_wp2_with fail
        go_roundw
        case rel => exact ⟨k + 1, rstA ys oi, rest, oi, nw + 1, rfl, rfl, rfl, by go_num, by omega, by omega, HS6.out⟩
        case measure => simp [intOf]; omega
      obtain ⟨bk, o, hbk, _⟩ : ∃ bk o, ad = some ⟨bk, o, none⟩ ∧ True := by
        obtain ⟨_, _, e', _, _, _, h4⟩ := HS5.out.1.open
        obtain ⟨b, o, e2, _⟩ := h4 (by omega)
        simp only [Value.slice.injEq] at e'
        exact ⟨b, o, by rw [e'.1, e2], trivial⟩
      subst hbk
      obtain ⟨k0, k1, k2, k3, k4⟩ := HS5.out.1.at5 (i := j) (by omega)
      have sb : bk < w5.heap.size := World.block_lt_of_cell? _ _ k0
      have c0 := cell_later hbw k0
      have c1 := cell_later hbw k1
      have c2 := cell_later hbw k2
      have c3 := cell_later hbw k3
      have c4 := cell_later hbw k4
      have hsw := hbw.size
      have HRN : Hid (rstA (ys.take (j + 1)) oi = if keepB (bmp oi (atA ys j)) = true then rstA (ys.take j) oi ++ [bmp oi (atA ys j)] else rstA (ys.take j) oi) := rst_next (by omega) oi
      have HDL : Hid (keepB (bmp oi (atA ys j)) = false → nw + 1 ≤ (atA ys j).due) := HST.out.2.2.2 _ (atA_mem (by omega))
      have hma := mayA_iff.1 ((mayL_iff.1 (show mayL ys nw = true from HMY.out)).2.2.2 _ (atA_mem (show j < ys.length by omega)))
      have hrl := rst_len (ys.take j) oi
      rw [List.length_take] at hrl
      clear k0 k1 k2 k3 k4
      generalize atA ys j = a at *
      obtain ⟨ii, dd, cc, vv, rr⟩ := a
      simp only at c0 c1 c2 c3 c4 hma HDL
      have hwr : IntKind.i64.wrap (rr + 1) = rr + 1 := wrap_near (by omega) (by omega)
      clear hma
      by_cases hi : ii = oi
      · have he : (ii == oi) = true := by simpa using hi
        have HBM : Hid (bmp oi ⟨ii, dd, cc, vv, rr⟩ = ⟨ii, dd, cc, vv, rr + 1⟩) := by show _ = _; unfold bmp; rw [if_pos hi]
        by_cases hk : rr + 1 < cc
        · have HR : Hid (rstA (ys.take (j + 1)) oi = rstA (ys.take j) oi ++ [⟨ii, dd, cc, vv, rr + 1⟩]) := by show _ = _; rw [HRN.out, HBM.out, if_pos (show keepB _ = true from decide_eq_true hk)]
          clear HRN HDL HBM hi
          have HB5 : Hid (Below w5.heap.size w5 ((wr.alloc (.cells #[.int .i64 ii, .int .i64 dd, .int .i64 cc, .int .i64 vv, .int .i64 (rr + 1)] 30)).alloc (.cells #[.int .i64 ii, .int .i64 dd, .int .i64 cc, .int .i64 vv, .int .i64 (rr + 1)] 30))) := (hbw.alloc hsw _).alloc (by simp; omega) _
          have HO5 : Hid (OwnA ((wr.alloc (.cells #[.int .i64 ii, .int .i64 dd, .int .i64 cc, .int .i64 vv, .int .i64 (rr + 1)] 30)).alloc (.cells #[.int .i64 ii, .int .i64 dd, .int .i64 cc, .int .i64 vv, .int .i64 (rr + 1)] 30)) w5.heap.size rest (rstA (ys.take j) oi)) := (HO.out.later ((Below.refl _ _).alloc (Nat.le_refl _) _)).later ((Below.refl _ _).alloc (Nat.le_refl _) _)
          have HX5 : Hid (Bx5 ((wr.alloc (.cells #[.int .i64 ii, .int .i64 dd, .int .i64 cc, .int .i64 vv, .int .i64 (rr + 1)] 30)).alloc (.cells #[.int .i64 ii, .int .i64 dd, .int .i64 cc, .int .i64 vv, .int .i64 (rr + 1)] 30)) (wr.heap.size + 1) ii dd cc vv (rr + 1)) := by
            have := Bx5.new (wr.alloc (.cells #[.int .i64 ii, .int .i64 dd, .int .i64 cc, .int .i64 vv, .int .i64 (rr + 1)] 30)) ii dd cc vv (rr + 1) 30
            rwa [World.size_alloc] at this
          go_wp2_with (first
            | (at_builtin; refine wpList_append_own_at _ rfl _ _ 22 rfl w5.heap.size 30 a0 _ 5 40 Try.underlying22 ha ha0 ha1 ha2 rfl (by decide) rest _ _ rfl HO5.out ⟨wr.heap.size + 1, 0, none⟩ 1 1 (Ap.row ⟨ii, dd, cc, vv, rr + 1⟩) rfl rfl HX5.out.news (recA.one ⟨ii, dd, cc, vv, rr + 1⟩) (by unfold maxLen; omega) (by omega) (by simp; omega) ?_; intro v' w6 hown6 hg6 _ hat6))
          have HO6 : Hid (OwnA w6 w5.heap.size v' (rstA (ys.take (j + 1)) oi)) := by
            show OwnA _ _ _ _
            rw [HR.out]
            unfold OwnA
            rw [List.length_append, flatA_app, flatA_one]
            exact hown6
          have HB6 : Hid (Below w5.heap.size w5 w6) := HB5.out.grown hg6 HB5.out.size (fun k hk => HO5.out.low k hk)
          clear HB5 HO5 HX5 hown6 hg6 hat6 HO hbw
          go_wp2_with fail
          go_roundw
          case rel => exact ⟨j + 1, _, rfl, by omega, by go_num, HO6.out, HB6.out⟩
          case measure => simp [intOf]; omega
        · have HR : Hid (rstA (ys.take (j + 1)) oi = rstA (ys.take j) oi) := by show _ = _; rw [HRN.out, HBM.out, if_neg (by simp [keepB]; omega)]
          have HDL : Hid (True → nw + 1 ≤ dd) := fun _ => HDL.out (by rw [HBM.out]; exact decide_eq_false hk)
          clear HRN HBM hi
          have HB5 : Hid (Below w5.heap.size w5 (wr.alloc (.cells #[.int .i64 ii, .int .i64 dd, .int .i64 cc, .int .i64 vv, .int .i64 (rr + 1)] 30))) := hbw.alloc hsw _
          have HO6 : Hid (OwnA (wr.alloc (.cells #[.int .i64 ii, .int .i64 dd, .int .i64 cc, .int .i64 vv, .int .i64 (rr + 1)] 30)) w5.heap.size rest (rstA (ys.take (j + 1)) oi)) := by
            show OwnA _ _ _ _
            rw [HR.out]
            exact HO.out.later ((Below.refl _ _).alloc (Nat.le_refl _) _)
          have hdd := HDL.out (by trivial)
          clear HO hbw
          go_wp2_with fail
          go_roundw
          case rel => exact ⟨j + 1, _, rfl, by omega, by go_num, HO6.out, HB5.out⟩
          case measure => simp [intOf]; omega
      · have he : (ii == oi) = false := by simpa using hi
        have HBM : Hid (bmp oi ⟨ii, dd, cc, vv, rr⟩ = ⟨ii, dd, cc, vv, rr⟩) := by show _ = _; unfold bmp; rw [if_neg hi]
        by_cases hk : rr < cc
        · have HR : Hid (rstA (ys.take (j + 1)) oi = rstA (ys.take j) oi ++ [⟨ii, dd, cc, vv, rr⟩]) := by show _ = _; rw [HRN.out, HBM.out, if_pos (show keepB _ = true from decide_eq_true hk)]
          clear HRN HDL HBM hi
          have HB5 : Hid (Below w5.heap.size w5 ((wr.alloc (.cells #[.int .i64 ii, .int .i64 dd, .int .i64 cc, .int .i64 vv, .int .i64 (rr)] 30)).alloc (.cells #[.int .i64 ii, .int .i64 dd, .int .i64 cc, .int .i64 vv, .int .i64 (rr)] 30))) := (hbw.alloc hsw _).alloc (by simp; omega) _
          have HO5 : Hid (OwnA ((wr.alloc (.cells #[.int .i64 ii, .int .i64 dd, .int .i64 cc, .int .i64 vv, .int .i64 (rr)] 30)).alloc (.cells #[.int .i64 ii, .int .i64 dd, .int .i64 cc, .int .i64 vv, .int .i64 (rr)] 30)) w5.heap.size rest (rstA (ys.take j) oi)) := (HO.out.later ((Below.refl _ _).alloc (Nat.le_refl _) _)).later ((Below.refl _ _).alloc (Nat.le_refl _) _)
          have HX5 : Hid (Bx5 ((wr.alloc (.cells #[.int .i64 ii, .int .i64 dd, .int .i64 cc, .int .i64 vv, .int .i64 (rr)] 30)).alloc (.cells #[.int .i64 ii, .int .i64 dd, .int .i64 cc, .int .i64 vv, .int .i64 (rr)] 30)) (wr.heap.size + 1) ii dd cc vv (rr)) := by
            have := Bx5.new (wr.alloc (.cells #[.int .i64 ii, .int .i64 dd, .int .i64 cc, .int .i64 vv, .int .i64 (rr)] 30)) ii dd cc vv (rr) 30
            rwa [World.size_alloc] at this
          go_wp2_with (first
            | (at_builtin; refine wpList_append_own_at _ rfl _ _ 22 rfl w5.heap.size 30 a0 _ 5 40 Try.underlying22 ha ha0 ha1 ha2 rfl (by decide) rest _ _ rfl HO5.out ⟨wr.heap.size + 1, 0, none⟩ 1 1 (Ap.row ⟨ii, dd, cc, vv, rr⟩) rfl rfl HX5.out.news (recA.one ⟨ii, dd, cc, vv, rr⟩) (by unfold maxLen; omega) (by omega) (by simp; omega) ?_; intro v' w6 hown6 hg6 _ hat6))
          have HO6 : Hid (OwnA w6 w5.heap.size v' (rstA (ys.take (j + 1)) oi)) := by
            show OwnA _ _ _ _
            rw [HR.out]
            unfold OwnA
            rw [List.length_append, flatA_app, flatA_one]
            exact hown6
          have HB6 : Hid (Below w5.heap.size w5 w6) := HB5.out.grown hg6 HB5.out.size (fun k hk => HO5.out.low k hk)
          clear HB5 HO5 HX5 hown6 hg6 hat6 HO hbw
          go_wp2_with fail
          go_roundw
          case rel => exact ⟨j + 1, _, rfl, by omega, by go_num, HO6.out, HB6.out⟩
          case measure => simp [intOf]; omega
        · have HR : Hid (rstA (ys.take (j + 1)) oi = rstA (ys.take j) oi) := by show _ = _; rw [HRN.out, HBM.out, if_neg (by simp [keepB]; omega)]
          have HDL : Hid (True → nw + 1 ≤ dd) := fun _ => HDL.out (by rw [HBM.out]; exact decide_eq_false hk)
          clear HRN HBM hi
          have HB5 : Hid (Below w5.heap.size w5 (wr.alloc (.cells #[.int .i64 ii, .int .i64 dd, .int .i64 cc, .int .i64 vv, .int .i64 (rr)] 30))) := hbw.alloc hsw _
          have HO6 : Hid (OwnA (wr.alloc (.cells #[.int .i64 ii, .int .i64 dd, .int .i64 cc, .int .i64 vv, .int .i64 (rr)] 30)) w5.heap.size rest (rstA (ys.take (j + 1)) oi)) := by
            show OwnA _ _ _ _
            rw [HR.out]
            exact HO.out.later ((Below.refl _ _).alloc (Nat.le_refl _) _)
          have hdd := HDL.out (by trivial)
          clear HO hbw
          go_wp2_with fail
          go_roundw
          case rel => exact ⟨j + 1, _, rfl, by omega, by go_num, HO6.out, HB5.out⟩
          case measure => simp [intOf]; omega
end Go.Proofs.Ytjaaabliefcgaaa
