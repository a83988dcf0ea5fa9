/- What the statement DoverTurned comes to. -/
import Derived.Test.YtjaaabliefcgaaaO18
namespace Go.Proofs.Ytjaaabliefcgaaa
open Go.RowKit Go.Maps Go.Shelf

theorem lkA_not {xs : List Ap} {id : Int} (h : id ∉ idsA xs) : ∀ j, j ≤ xs.length → lkA xs j id = apZ
  | 0, _ => rfl
  | j + 1, hj => by
    unfold lkA
    rw [if_neg (fun e => h (by rw [← e]; exact List.mem_map_of_mem (atA_mem (by omega))))]
    exact lkA_not h j (by omega)
theorem lkA_turned {xs ys : List Ap} (hd : (idsA xs).Nodup) (hp : ys.Perm xs) (id : Int) : lkA ys ys.length id = lkA xs xs.length id := by
  have hdy : (idsA ys).Nodup := (ids_perm hp).nodup_iff.2 hd
  by_cases c : id ∈ idsA xs
  · obtain ⟨a, ha, e⟩ := List.mem_map.1 c
    rw [← e, lkA_mem hd ha, lkA_mem hdy (hp.mem_iff.2 ha)]
  · rw [lkA_not c _ (Nat.le_refl _), lkA_not (fun h => c ((ids_perm hp).mem_iff.1 h)) _ (Nat.le_refl _)]
theorem ord_turned {xs ys : List Ap} (hd : (idsA xs).Nodup) (hp : ys.Perm xs) : ordA ys = ordA xs := ord_uniq hd (ordA_srtd ys) ((ordA_perm ys).trans hp)
theorem may_turned {xs ys : List Ap} {now : Int} (hm : mayL xs now = true) (hp : ys.Perm xs) : mayL ys now = true := by
  obtain ⟨h1, h2, h3, h4⟩ := mayL_iff.1 hm
  exact mayL_iff.2 ⟨by rw [hp.length_eq]; exact h1, h2, (ids_perm hp).nodup_iff.2 h3, fun a ha => h4 a (hp.mem_iff.1 ha)⟩
theorem pick_turned {xs ys : List Ap} {cur now : Int} (hm : mayL xs now = true) (hp : ys.Perm xs) : (pickA ys cur now).1 = (pickA xs cur now).1 ∧ (pickA ys cur now).2.length = (pickA xs cur now).2.length ∧ ∀ x ∈ (pickA xs cur now).2, x ∈ (pickA ys cur now).2 := by
  have nd := (mayL_iff.1 hm).2.2.1
  have hab : (ableA ys now).Perm (ableA xs now) := hp.filter _
  have hla : (lateA ys now).Perm (lateA xs now) := ids_perm (hp.filter _)
  have hda := able_nodup now nd
  have ho : ordA (ableA ys now) = ordA (ableA xs now) := ord_turned hda hab
  have hl : (ableA ys now).length = (ableA xs now).length := hab.length_eq
  have hf : fitsA (ableA ys now) now = fitsA (ableA xs now) now := by unfold fitsA; rw [ho]
  have hc : contA (ableA ys now) cur now = contA (ableA xs now) cur now := by unfold contA; rw [ho, lkA_turned hda hab]
  unfold pickA
  rw [hm, may_turned hm hp, hl, hf, hc, ho]
  simp only [if_true]
  split
  · exact ⟨rfl, hla.length_eq, fun x hx => hla.mem_iff.2 hx⟩
  · split
    · exact ⟨rfl, hla.length_eq, fun x hx => hla.mem_iff.2 hx⟩
    · refine ⟨rfl, by simp [hla.length_eq], fun x hx => ?_⟩
      rcases List.mem_append.1 hx with h | h
      · exact List.mem_append.2 (.inl (hla.mem_iff.2 h))
      · exact List.mem_append.2 (.inr h)
theorem any_next {hl : List Int} {k : Nat} (h : k < hl.length) (x : Int) : (hl.take (k + 1)).any (fun y => y == x) = ((hl.take k).any (fun y => y == x) || (hl.getD k 0 == x)) := by
  have e : hl[k]? = some (hl.getD k 0) := by simp [List.getD, h]
  rw [List.take_add_one, e, List.any_append]
  simp
theorem rev_next {xs : List Ap} {m : Nat} (h : m < xs.length) : (xs.drop m).reverse = (xs.drop (m + 1)).reverse ++ [atA xs m] := by
  rw [dropA_next h, List.reverse_cons]

set_option maxHeartbeats 2000000 in
set_option maxRecDepth 100000 in
theorem law_dturned (xs : List Ap) (v : Value) (cur now : Int) (w : World) (h : Aps w v xs) (hw : ∀ a ∈ xs, wfK a.key) (hc : okI cur) :
    Calls Try.prog 7 #[v, .int .i64 cur, .int .i64 now] w fun e w' => e = .returned (.bool true) ∧ Below w.heap.size w w' := by
  obtain ⟨a0, ha, ha0, ha1, ha2⟩ := info_parts Try.infoApe
  have HA : Hid (Aps w v xs) := h
  have HC : Hid (okI cur) := hc
  have HW : Hid (∀ a ∈ xs, wfK a.key) := hw
  clear h hc hw
  go_enter Try.func7, Try.ntmps7
  go_wp2_with fail
  refine (awake13_any _).mono ?_
  rintro e w1 ⟨rfl, hb1⟩
  have HA1 : Hid (Aps w1 v xs) := HA.out.later hb1
  go_wp2_with fail
  refine (may13_any xs v now w1 HA1.out HW.out).mono ?_
  rintro e w2 ⟨rfl, hb2⟩
  have hB2 := hb1.trans (hb2.mono hb1.size)
  have HA2 : Hid (Aps w2 v xs) := HA1.out.later hb2
  obtain ⟨p, hp⟩ : ∃ p, mayL xs now = p := ⟨_, rfl⟩
  have HM : Hid (mayL xs now = p) := hp
  rw [hp]
  clear hp hb1 hb2 HA1 HA
  cases p
  · go_wp2_with fail
    go_ret
    exact ⟨rfl, hB2⟩
  obtain ⟨n4, ⟨n0, n1⟩, nd, hall⟩ := mayL_iff.1 HM.out
  have hpm : xs.reverse.Perm xs := List.reverse_perm xs
  have HNX : Hid (nearL xs ∧ (∀ a ∈ xs.reverse, wfK a.key) ∧ nearL xs.reverse) := ⟨fun a ha => mayA_near (hall a ha), fun a ha => HW.out a (hpm.mem_iff.1 ha), fun a ha => mayA_near (hall a (hpm.mem_iff.1 ha))⟩
  have HTP : Hid ((pickA xs.reverse cur now).1 = (pickA xs cur now).1 ∧ (pickA xs.reverse cur now).2.length = (pickA xs cur now).2.length ∧ ∀ x ∈ (pickA xs cur now).2, x ∈ (pickA xs.reverse cur now).2) := pick_turned HM.out hpm
  have HTO : Hid (ordA xs.reverse = ordA xs) := ord_turned nd hpm
  have HGL : Hid ((pickA xs cur now).2.length ≤ 4) := by
    have hcan := pick_can (cur := cur) HM.out
    show _ ≤ _
    by_cases c : (pickA xs cur now).1 ∈ idsA xs
    · obtain ⟨a, ha, e⟩ := List.mem_map.1 c
      have := (hcan.ins a ha e).2
      omega
    · have := (hcan.out c).2
      omega
  have HS : Hid (Aps w2 v xs ∧ Below w.heap.size w w2) := ⟨HA2.out, hB2⟩
  obtain ⟨ad, cap, rfl, l1, l2, l3, l4⟩ := HA2.out.open
  clear nd hall hpm HA2 hB2 HM l4
  go_wp2_with fail
  go_loopw [8, 9] (fun bv i wr => ∃ (m : Nat) (bk : Value), bk = bv ∧ m ≤ xs.length ∧ i = .int .i64 m ∧ Hid (OwnA wr w2.heap.size bk (xs.drop m).reverse) ∧ Below w2.heap.size w2 wr) (fun _ i _ => (intOf i).toNat)
  case atStart => exact ⟨xs.length, _, rfl, by omega, rfl, by show OwnA _ _ _ _; rw [List.drop_length]; exact OwnA.nil _ _, Below.refl _ _⟩
  case round =>
    obtain ⟨m, bk, rfl, hm, rfl, HO, hbw⟩ := hrel
    by_cases hm0 : (0 : Int) < m
    · obtain ⟨m, rfl⟩ : ∃ k, m = k + 1 := ⟨m - 1, by omega⟩
      obtain ⟨bb, o, hbk, _⟩ : ∃ bk o, ad = some ⟨bk, o, none⟩ ∧ True := by
        obtain ⟨_, _, e', _, _, _, h4⟩ := HS.out.1.open
        obtain ⟨b, o, e2, _⟩ := h4 (by omega)
        simp only [Value.slice.injEq] at e'
        exact ⟨b, o, by rw [e'.1, e2], trivial⟩
      subst hbk
      obtain ⟨k0, k1, k2, k3, k4⟩ := HS.out.1.at5 (i := m) (by omega)
      have sb : bb < w2.heap.size := World.block_lt_of_cell? _ _ k0
      have c0 := cell_later hbw k0
      have c1 := cell_later hbw k1
      have c2 := cell_later hbw k2
      have c3 := cell_later hbw k3
      have c4 := cell_later hbw k4
      have hsw := hbw.size
      have HR : Hid ((xs.drop m).reverse = (xs.drop (m + 1)).reverse ++ [atA xs m]) := rev_next (by omega)
      have hrl : (xs.drop (m + 1)).reverse.length ≤ 4 := by rw [List.length_reverse, List.length_drop]; omega
      clear k0 k1 k2 k3 k4
      generalize atA xs m = a at *
      obtain ⟨ii, dd, cc, vv, rr⟩ := a
      simp only at c0 c1 c2 c3 c4
      have HB5 : Hid (Below w2.heap.size w2 (wr.alloc (.cells #[.int .i64 ii, .int .i64 dd, .int .i64 cc, .int .i64 vv, .int .i64 rr] 30))) := hbw.alloc hsw _
      have HO5 : Hid (OwnA (wr.alloc (.cells #[.int .i64 ii, .int .i64 dd, .int .i64 cc, .int .i64 vv, .int .i64 rr] 30)) w2.heap.size bk (xs.drop (m + 1)).reverse) := HO.out.later ((Below.refl _ _).alloc (Nat.le_refl _) _)
      have HX5 : Hid (Bx5 (wr.alloc (.cells #[.int .i64 ii, .int .i64 dd, .int .i64 cc, .int .i64 vv, .int .i64 rr] 30)) wr.heap.size ii dd cc vv rr) := Bx5.new _ _ _ _ _ _ _
      have hwm : IntKind.i64.wrap (((m + 1 : Nat) : Int) - 1) = (m : Int) := by rw [show ((m + 1 : Nat) : Int) - 1 = (m : Int) by omega]; exact wrap_near (by omega) (by omega)
      clear HO hbw
      go_wp2_with (first
        | (at_builtin; refine wpList_append_own_at _ rfl _ _ 22 rfl w2.heap.size 30 a0 _ 5 40 Try.underlying22 ha ha0 ha1 ha2 rfl (by decide) bk _ _ rfl HO5.out ⟨wr.heap.size, 0, none⟩ 1 1 (Ap.row ⟨ii, dd, cc, vv, rr⟩) rfl rfl HX5.out.news (recA.one ⟨ii, dd, cc, vv, rr⟩) (by unfold maxLen; omega) (by omega) (by simp; omega) ?_; intro v' w6 hown6 hg6 _ hat6))
      have HO6 : Hid (OwnA w6 w2.heap.size v' (xs.drop m).reverse) := by
        show OwnA _ _ _ _
        rw [HR.out]
        unfold OwnA
        rw [List.length_append, flatA_app, flatA_one]
        exact hown6
      have HB6 : Hid (Below w2.heap.size w2 w6) := HB5.out.grown hg6 HB5.out.size (fun k hk => HO5.out.low k hk)
      clear HB5 HO5 HX5 hown6 hg6 hat6 HR
      go_wp2_with fail
      go_roundw
      case rel => exact ⟨m, _, rfl, by omega, by first | rfl | go_num, HO6.out, HB6.out⟩
      case measure => simp [intOf]
    · obtain rfl : m = 0 := by omega
      have HO2 : Hid (OwnA wr w2.heap.size bk xs.reverse) := HO.out
      have HA3 : Hid (Aps wr (.slice ad xs.length cap) xs) := HS.out.1.later hbw
      have HB3 : Hid (Below w.heap.size w wr) := HS.out.2.trans (hbw.mono HS.out.2.size)
      clear HO hbw HS
      go_wp2_with fail
      refine (pick13_any xs _ cur now wr HA3.out HW.out HC.out).mono ?_
      rintro e w3 ⟨g, rfl, hg, hb3⟩
      obtain ⟨⟨p, gl⟩, hpk⟩ : ∃ s, pickA xs cur now = s := ⟨_, rfl⟩
      rw [hpk] at hg HTP HGL ⊢
      have HB4 : Hid (Below w.heap.size w w3) := HB3.out.trans (hb3.mono HB3.out.size)
      have HA4 : Hid (Aps w3 (.slice ad xs.length cap) xs ∧ Aps w3 bk xs.reverse ∧ Nums w3 g gl) := ⟨HA3.out.later hb3, HO2.out.aps.later hb3, hg.nums.1⟩
      clear hpk hg hb3 HA3 HB3 HO2
      go_wp2_with fail
      refine (pick13_any xs.reverse _ cur now w3 HA4.out.2.1 HNX.out.2.1 HC.out).mono ?_
      rintro e w4 ⟨h, rfl, hh, hb4⟩
      obtain ⟨⟨p2, hl⟩, hpk⟩ : ∃ s, pickA xs.reverse cur now = s := ⟨_, rfl⟩
      rw [hpk] at hh HTP ⊢
      have HB5 : Hid (Below w.heap.size w w4) := HB4.out.trans (hb4.mono HB4.out.size)
      have HA5 : Hid (Aps w4 (.slice ad xs.length cap) xs ∧ Aps w4 bk xs.reverse) := ⟨HA4.out.1.later hb4, HA4.out.2.1.later hb4⟩
      have hgn : Nums w4 g gl := HA4.out.2.2.later hb4
      have hhn : Nums w4 h hl := hh.nums.1
      obtain ⟨t1, t2, t3⟩ := HTP.out
      simp only at t1 t2 t3
      subst t1
      have HT3 : Hid (∀ x ∈ gl, x ∈ hl) := t3
      have HT2 : Hid (hl.length = gl.length) := t2
      have hg4 : gl.length ≤ 4 := HGL.out
      obtain ⟨ga, gc, rfl, g1, g2, g3⟩ := hgn
      obtain ⟨hha, hc', rfl, h1, h2, h3⟩ := hhn
      clear hpk hh hb4 HA4 HB4 HTP t2 t3 HGL
      go_wp2_with fail
      go_loopw [14] (fun i wr => ∃ (j : Nat), j ≤ gl.length ∧ i = .int .i64 j ∧ Below w4.heap.size w4 wr) (fun i _ => ((gl.length : Int) - intOf i).toNat)
      case atStart => exact ⟨0, by omega, rfl, Below.refl _ _⟩
      case round =>
        obtain ⟨j, hj, rfl, hbw⟩ := hrel
        by_cases hjl : (j : Int) < gl.length
        · obtain ⟨gb, go, rfl, g4⟩ := g3 (by intro e; rw [e] at hjl; simp at hjl; omega)
          have HG0 : Hid (w4.cell? ⟨gb, go + j, none⟩ = some (.int .i64 (gl.getD j 0))) := g4 j (by omega)
          have HIN : Hid (gl.getD j 0 ∈ hl) := HT3.out _ (getD_mem (by omega))
          clear g4 g3
          obtain ⟨x, hx⟩ : ∃ x, gl.getD j 0 = x := ⟨_, rfl⟩
          rw [hx] at HG0 HIN
          clear hx
          have HAN : Hid (hl.any (fun y => y == x) = true) := by show _ = _; rw [List.any_eq_true]; exact ⟨x, HIN.out, by simp⟩
          go_wp2_with fail
          go_loopw [15, 16] (fun b i wr => ∃ (k : Nat) (q : Bool), k ≤ hl.length ∧ i = .int .i64 k ∧ b = .bool q ∧ Hid ((hl.take k).any (fun y => y == x) = q) ∧ Below w4.heap.size w4 wr) (fun _ i _ => ((hl.length : Int) - intOf i).toNat)
          case atStart => exact ⟨0, false, by omega, rfl, rfl, (by rfl : Hid _), hbw⟩
          case round =>
            clear hbw
            obtain ⟨k, q, hk, rfl, rfl, HQ, hbw⟩ := hrel
            by_cases hkl : (k : Int) < hl.length
            · obtain ⟨hb, ho, rfl, h4⟩ := h3 (by intro e; rw [e] at hkl; simp at hkl; omega)
              have c0 := cell_later hbw HG0.out
              have c1 := cell_later hbw (h4 k (by omega))
              have hl4 : hl.length ≤ 4 := by have := HT2.out; omega
              have HN : Hid ((hl.take (k + 1)).any (fun y => y == x) = (q || (hl.getD k 0 == x))) := by show _ = _; rw [any_next (by omega), HQ.out]
              clear h4 h3 HQ
              generalize hl.getD k 0 = y at *
              cases q
              · have HN2 : Hid ((hl.take (k + 1)).any (fun y => y == x) = (y == x)) := HN.out
                obtain ⟨z, hz⟩ : ∃ z, (y == x) = z := ⟨_, rfl⟩
                rw [hz] at HN2
                go_wp2_with fail
                go_quiet (fail)
                go_wp2_with fail
                go_roundw
                case rel => exact ⟨k + 1, z, by omega, by go_num, by first | rfl | rw [hz], HN2.out, ⟨hbw.os, hbw.tape, hbw.output, hbw.size, hbw.block⟩⟩
                case measure => simp [intOf]; omega
              · have HN2 : Hid ((hl.take (k + 1)).any (fun y => y == x) = true) := HN.out
                go_wp2_with fail
                go_quiet (fail)
                go_wp2_with fail
                go_roundw
                case rel => exact ⟨k + 1, true, by omega, by go_num, rfl, HN2.out, ⟨hbw.os, hbw.tape, hbw.output, hbw.size, hbw.block⟩⟩
                case measure => simp [intOf]; omega
            · obtain rfl : k = hl.length := by omega
              obtain rfl : q = true := by have := HQ.out; rw [List.take_length, HAN.out] at this; exact this.symm
              go_wp2_with fail
              go_roundw
              case rel => exact ⟨j + 1, by omega, by go_num, hbw⟩
              case measure => simp [intOf]; omega
        · obtain rfl : j = gl.length := by omega
          have HA6 : Hid (Aps wr (.slice ad xs.length cap) xs ∧ Aps wr bk xs.reverse) := ⟨HA5.out.1.later hbw, HA5.out.2.later hbw⟩
          have HB6 : Hid (Below w.heap.size w wr) := HB5.out.trans (hbw.mono HB5.out.size)
          have hlen : ((gl.length : Int) == hl.length) = true := by have := HT2.out; simpa using (by omega : (gl.length : Int) = hl.length)
          clear hbw HA5 HB5 g3 h3
          go_wp2_with fail
          refine (fits13_any xs _ now wr HA6.out.1 (by omega) HW.out HNX.out.1 (by omega) (by omega)).mono ?_
          rintro e w5 ⟨rfl, hb5⟩
          have HA7 : Hid (Aps w5 (.slice ad xs.length cap) xs ∧ Aps w5 bk xs.reverse) := ⟨HA6.out.1.later hb5, HA6.out.2.later hb5⟩
          have HB7 : Hid (Below w.heap.size w w5) := HB6.out.trans (hb5.mono HB6.out.size)
          have HFE : Hid (fitsA xs.reverse now = fitsA xs now) := by show _ = _; unfold fitsA; rw [HTO.out]
          obtain ⟨f, hf⟩ : ∃ f, fitsA xs now = f := ⟨_, rfl⟩
          rw [hf] at HFE ⊢
          clear hb5 HA6 HB6 hf
          go_wp2_with fail
          refine (fits13_any xs.reverse _ now w5 HA7.out.2 (by rw [List.length_reverse]; omega) HNX.out.2.1 HNX.out.2.2 (by omega) (by omega)).mono ?_
          rintro e w6 ⟨rfl, hb6⟩
          rw [HFE.out]
          have HA8 : Hid (Aps w6 (.slice ad xs.length cap) xs ∧ Aps w6 bk xs.reverse) := ⟨HA7.out.1.later hb6, HA7.out.2.later hb6⟩
          have HB8 : Hid (Below w.heap.size w w6) := HB7.out.trans (hb6.mono HB7.out.size)
          clear hb6 HA7 HB7
          have hff : (f == f) = true := by simp
          go_wp2_with fail
          refine (order13_any xs _ w6 HA8.out.1 (by omega) HW.out).mono ?_
          rintro e w7 ⟨u1, rfl, hu1, hb7⟩
          have HA9 : Hid (Aps w7 bk xs.reverse ∧ Nums w7 u1 (idsA (ordA xs))) := ⟨HA8.out.2.later hb7, (Nums.own hu1).1⟩
          have HB9 : Hid (Below w.heap.size w w7) := HB8.out.trans (hb7.mono HB8.out.size)
          clear hb7 HA8 HB8 hu1
          go_wp2_with fail
          refine (order13_any xs.reverse _ w7 HA9.out.1 (by rw [List.length_reverse]; omega) HNX.out.2.1).mono ?_
          rintro e w8 ⟨u2, rfl, hu2, hb8⟩
          rw [HTO.out] at hu2
          have HN1 : Hid (Nums w8 u1 (idsA (ordA xs)) ∧ Nums w8 u2 (idsA (ordA xs))) := ⟨HA9.out.2.later hb8, (Nums.own hu2).1⟩
          have HB10 : Hid (Below w.heap.size w w8) := HB9.out.trans (hb8.mono HB9.out.size)
          have hol : (idsA (ordA xs)).length ≤ 100000 := by rw [idsA_len, ordA_len]; omega
          clear hb8 HA9 HB9 hu2
          go_wp2_with fail
          refine (ints13_any _ _ _ _ w8 HN1.out.1 HN1.out.2 hol).mono ?_
          rintro e w9 ⟨rfl, hb9⟩
          have HB11 : Hid (Below w.heap.size w w9) := HB10.out.trans (hb9.mono HB10.out.size)
          go_wp2_with fail
          go_ret
          exact ⟨ret_b (by simp), HB11.out⟩
end Go.Proofs.Ytjaaabliefcgaaa
