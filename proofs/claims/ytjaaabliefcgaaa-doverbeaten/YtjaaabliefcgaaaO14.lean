/- What the statement DoverBeaten comes to. -/
import Derived.Test.YtjaaabliefcgaaaO13
namespace Go.Proofs.Ytjaaabliefcgaaa
open Go.RowKit Go.Maps Go.Shelf

theorem eqA_zero {a : Ap} (h : mayA a = true) : eqA a apZ = false := by
  rw [eqA_no]
  rintro rfl
  have := (mayA_iff.1 h).2.1
  simp [apZ] at this
theorem ord_two (a b : Ap) : ordA [a, b] = [a, b] ∨ ordA [a, b] = [b, a] := by
  have e : ordA [a, b] = if ahd b.key a.key = true then [b, a] else [a, b] := rfl
  rw [e]
  split
  · exact .inr rfl
  · exact .inl rfl
theorem beaten_pick {a b : Ap} {now : Int} (hm : mayL [a, b] now = true) (hf : fitsA [a, b] now = false) (ha : 1 ≤ laxA a now) (hb : laxA b now = 0) :
    pickA [a, b] a.id now = if bt b.v a.v 4 = true then (b.id, []) else (a.id, [b.id]) := by
  obtain ⟨_, _, nd, hall⟩ := mayL_iff.1 hm
  have za := eqA_zero (hall a (by simp))
  have zb := eqA_zero (hall b (by simp))
  have hne : a.id ≠ b.id := by
    unfold idsA at nd
    simp at nd
    exact nd
  have hab : ableA [a, b] now = [a, b] := by
    unfold ableA ableB
    simp
    omega
  have hla : lateA [a, b] now = [] := by
    unfold lateA idsA ableB
    simp
    omega
  have hlk : lkA [a, b] 2 a.id = a := lkA_mem nd (by simp)
  have eba : eqA b a = false := by rw [eqA_no]; rintro rfl; exact hne rfl
  have eab : eqA a b = false := by rw [eqA_no]; rintro rfl; exact hne rfl
  have s1 : stpA now (a, []) a = (a, []) := by unfold stpA; rw [if_pos (.inl (eqA_self a))]
  have yab : yldB a b = bt b.v a.v 4 := by unfold yldB; rw [za, Bool.false_or]
  have s2 : stpA now (a, []) b = if bt b.v a.v 4 = true then (b, []) else (a, [b.id]) := by
    unfold stpA
    simp only [eba, yab]
    rw [if_neg (by simp; omega)]
    rfl
  have s3 : ∀ g, stpA now (b, g) a = (b, g) := fun g => by unfold stpA; rw [if_pos (.inr (by omega))]
  have s4 : ∀ g, stpA now (a, g) a = (a, g) := fun g => by unfold stpA; rw [if_pos (.inl (eqA_self a))]
  have hr : runA now a (ordA [a, b]) = if bt b.v a.v 4 = true then (b, []) else (a, [b.id]) := by
    rcases ord_two a b with e | e <;> rw [e] <;> unfold runA <;> simp only [List.foldl_cons, List.foldl_nil]
    · rw [s1, s2]
    · rw [s2]
      split
      · exact s3 _
      · exact s4 _
  unfold pickA
  rw [hm, hab, hla, hf]
  simp only [if_true, List.length_cons, List.length_nil, List.nil_append]
  rw [if_neg (by omega), if_neg (by simp)]
  unfold contA
  rw [show [a, b].length = 2 from rfl, hlk, hr]
  split
  · simp [zb]
  · simp [za]

set_option maxHeartbeats 1000000 in
set_option maxRecDepth 100000 in
theorem law_dbeaten (i d c v r i' d' c' v' r' now : Int) (w : World) (hA : okI i ∧ okI d) (hB : okI i' ∧ okI d') :
    Calls Try.prog 9 #[.agg #[.int .i64 i, .int .i64 d, .int .i64 c, .int .i64 v, .int .i64 r], .agg #[.int .i64 i', .int .i64 d', .int .i64 c', .int .i64 v', .int .i64 r'], .int .i64 now] w fun e w' => e = .returned (.bool true) ∧ Below w.heap.size w w' := by
  have HWF : Hid (∀ x ∈ [(⟨i, d, c, v, r⟩ : Ap), ⟨i', d', c', v', r'⟩], wfK x.key) := fun x hx => by
    simp at hx
    rcases hx with rfl | rfl
    · exact ⟨hA.2, hA.1⟩
    · exact ⟨hB.2, hB.1⟩
  have HCI : Hid (okI i) := hA.1
  clear hA hB
  have HX0 : Hid (Bx5 ((w.alloc (.cells #[.int .i64 i, .int .i64 d, .int .i64 c, .int .i64 v, .int .i64 r] 30)).alloc (.cells #[.int .i64 i', .int .i64 d', .int .i64 c', .int .i64 v', .int .i64 r'] 30)) w.heap.size i d c v r) := (Bx5.new w i d c v r 30).later ((Below.refl _ _).alloc (Nat.le_refl _) _)
  have HY0 : Hid (Bx5 ((w.alloc (.cells #[.int .i64 i, .int .i64 d, .int .i64 c, .int .i64 v, .int .i64 r] 30)).alloc (.cells #[.int .i64 i', .int .i64 d', .int .i64 c', .int .i64 v', .int .i64 r'] 30)) (w.heap.size + 1) i' d' c' v' r') := by
    have := Bx5.new (w.alloc (.cells #[.int .i64 i, .int .i64 d, .int .i64 c, .int .i64 v, .int .i64 r] 30)) i' d' c' v' r' 30
    rwa [World.size_alloc] at this
  have HB0 : Hid (Below w.heap.size w ((w.alloc (.cells #[.int .i64 i, .int .i64 d, .int .i64 c, .int .i64 v, .int .i64 r] 30)).alloc (.cells #[.int .i64 i', .int .i64 d', .int .i64 c', .int .i64 v', .int .i64 r'] 30))) := ((Below.refl _ _).alloc (Nat.le_refl _) _).alloc (by simp) _
  go_enter Try.func9, Try.ntmps9
  go_wp2_with fail
  refine (awake13_any _).mono ?_
  rintro e w1 ⟨rfl, hb1⟩
  have HX1 : Hid (Bx5 w1 w.heap.size i d c v r) := HX0.out.later hb1
  have HY1 : Hid (Bx5 w1 (w.heap.size + 1) i' d' c' v' r') := HY0.out.later hb1
  have HB1 : Hid (Below w.heap.size w w1) := HB0.out.trans (hb1.mono HB0.out.size)
  have hbW : Below w1.heap.size w1 (w1.alloc (.cells #[.int .i64 i, .int .i64 d, .int .i64 c, .int .i64 v, .int .i64 r, .int .i64 i', .int .i64 d', .int .i64 c', .int .i64 v', .int .i64 r'] 30)) := (Below.refl _ _).alloc (Nat.le_refl _) _
  have CF : Hid (∀ w', Below w1.heap.size w1 w' → Bx5 w' w.heap.size i d c v r ∧ Bx5 w' (w.heap.size + 1) i' d' c' v' r' ∧ Below w.heap.size w w') := fun w' hb => ⟨HX1.out.later hb, HY1.out.later hb, HB1.out.trans (hb.mono HB1.out.size)⟩
  have HL : Hid (Aps (w1.alloc (.cells #[.int .i64 i, .int .i64 d, .int .i64 c, .int .i64 v, .int .i64 r, .int .i64 i', .int .i64 d', .int .i64 c', .int .i64 v', .int .i64 r'] 30)) (.slice (some ⟨w1.heap.size, 0, none⟩) 2 2) [⟨i, d, c, v, r⟩, ⟨i', d', c', v', r'⟩]) := Aps.two w1 i d c v r i' d' c' v' r'
  obtain ⟨x0, x1, x2, x3, x4⟩ := HX1.out
  obtain ⟨y0, y1, y2, y3, y4⟩ := HY1.out
  clear HX0 HY0 HB0 hb1 HX1 HY1 HB1
  go_wp2_with fail
  refine (may13_any _ _ now _ HL.out HWF.out).mono ?_
  rintro e w2 ⟨rfl, hb2⟩
  have hB2 := hbW.trans (hb2.mono hbW.size)
  have HL2 : Hid (Aps w2 _ _) := HL.out.later hb2
  obtain ⟨p, hp⟩ : ∃ p, mayL [⟨i, d, c, v, r⟩, ⟨i', d', c', v', r'⟩] now = p := ⟨_, rfl⟩
  rw [hp]
  clear HL hb2 hbW x0 x1 x2 x3 x4 y0 y1 y2 y3 y4
  cases p
  · go_wp2_with fail
    go_ret
    exact ⟨rfl, (CF.out _ hB2).2.2⟩
  have HM : Hid (mayL [⟨i, d, c, v, r⟩, ⟨i', d', c', v', r'⟩] now = true) := hp
  obtain ⟨_, ⟨n0, n1⟩, _, hall⟩ := mayL_iff.1 hp
  have HNA : Hid (nearA ⟨i, d, c, v, r⟩) := mayA_near (hall _ (by simp))
  have HNB : Hid (nearA ⟨i', d', c', v', r'⟩) := mayA_near (hall _ (by simp))
  have HNL : Hid (nearL [⟨i, d, c, v, r⟩, ⟨i', d', c', v', r'⟩]) := fun x hx => mayA_near (hall _ hx)
  clear hp hall
  go_wp2_with fail
  refine (fits13_any _ _ now _ HL2.out (by simp) HWF.out HNL.out (by omega) (by omega)).mono ?_
  rintro e w3 ⟨rfl, hb3⟩
  have hB3 := hB2.trans (hb3.mono hB2.size)
  have HL3 : Hid (Aps w3 _ _) := HL2.out.later hb3
  obtain ⟨p, hp⟩ : ∃ p, fitsA [⟨i, d, c, v, r⟩, ⟨i', d', c', v', r'⟩] now = p := ⟨_, rfl⟩
  rw [hp]
  obtain ⟨⟨x0, x1, x2, x3, x4⟩, ⟨y0, y1, y2, y3, y4⟩, _⟩ := CF.out _ hB3
  clear HL2 hb3 hB2
  cases p
  rotate_left
  · go_wp2_with fail
    go_ret
    exact ⟨rfl, (CF.out _ hB3).2.2⟩
  have HF : Hid (fitsA [⟨i, d, c, v, r⟩, ⟨i', d', c', v', r'⟩] now = false) := hp
  clear hp
  go_wp2_with fail
  refine (lax_any i d c v r now _ HNA.out (by omega) (by omega)).mono ?_
  rintro e w4 ⟨rfl, hb4⟩
  have hB4 := hB3.trans (hb4.mono hB3.size)
  have HL4 : Hid (Aps w4 _ _) := HL3.out.later hb4
  clear x0 x1 x2 x3 x4 y0 y1 y2 y3 y4
  obtain ⟨⟨x0, x1, x2, x3, x4⟩, ⟨y0, y1, y2, y3, y4⟩, _⟩ := CF.out _ hB4
  obtain ⟨s, hs⟩ : ∃ s, laxA ⟨i, d, c, v, r⟩ now = s := ⟨_, rfl⟩
  have HS : Hid (laxA ⟨i, d, c, v, r⟩ now = s) := hs
  rw [hs]
  clear hs HL3 hb4 hB3
  by_cases hs1 : s < 1
  · go_wp2_with fail
    go_ret
    exact ⟨rfl, (CF.out _ hB4).2.2⟩
  go_wp2_with fail
  refine (lax_any i' d' c' v' r' now _ HNB.out (by omega) (by omega)).mono ?_
  rintro e w5 ⟨rfl, hb5⟩
  have hB5 := hB4.trans (hb5.mono hB4.size)
  have HL5 : Hid (Aps w5 _ _) := HL4.out.later hb5
  clear x0 x1 x2 x3 x4 y0 y1 y2 y3 y4
  obtain ⟨⟨x0, x1, x2, x3, x4⟩, ⟨y0, y1, y2, y3, y4⟩, _⟩ := CF.out _ hB5
  obtain ⟨u, hu⟩ : ∃ u, laxA ⟨i', d', c', v', r'⟩ now = u := ⟨_, rfl⟩
  have HU : Hid (laxA ⟨i', d', c', v', r'⟩ now = u) := hu
  rw [hu]
  clear hu HL4 hb5 hB4
  by_cases hu0 : u = 0
  rotate_left
  · have hu1 : (u != 0) = true := by simpa using hu0
    go_wp2_with fail
    go_ret
    exact ⟨rfl, (CF.out _ hB5).2.2⟩
  have HPK : Hid (pickA [⟨i, d, c, v, r⟩, ⟨i', d', c', v', r'⟩] i now = if bt v' v 4 = true then (i', []) else (i, [i'])) := beaten_pick HM.out HF.out (by rw [HS.out]; omega) (by rw [HU.out]; exact hu0)
  subst hu0
  go_wp2_with fail
  refine (pick13_any _ _ i now _ HL5.out HWF.out HCI.out).mono ?_
  rintro e w6 ⟨g, rfl, hg, hb6⟩
  have hB6 := hB5.trans (hb6.mono hB5.size)
  rw [HPK.out] at hg ⊢
  clear x0 x1 x2 x3 x4 y0 y1 y2 y3 y4
  obtain ⟨⟨x0, x1, x2, x3, x4⟩, ⟨y0, y1, y2, y3, y4⟩, _⟩ := CF.out _ hB6
  have HG : Hid (OwnN w6 w5.heap.size g (if bt v' v 4 = true then (i', []) else (i, [i'])).2) := hg
  obtain ⟨z, hz⟩ : ∃ z, bt v' v 4 = z := ⟨_, rfl⟩
  have HZ : Hid (bt v' v 4 = z) := hz
  rw [hz] at HG ⊢
  clear hz hg HL5 hb6 hB5 HPK
  cases z
  · have HG' : Hid (OwnN w6 w5.heap.size g [i']) := HG.out
    clear HG
    go_wp2_with fail
    refine (beats_any _ _ _ _).mono ?_
    rintro e w7 ⟨rfl, hb7⟩
    rw [HZ.out]
    have hB7 := hB6.trans (hb7.mono hB6.size)
    have HN : Hid (Nums w7 g [i']) := (HG'.out.later hb7).nums.1
    clear x0 x1 x2 x3 x4 y0 y1 y2 y3 y4
    obtain ⟨⟨x0, x1, x2, x3, x4⟩, ⟨y0, y1, y2, y3, y4⟩, _⟩ := CF.out _ hB7
    clear hb7 hB6
    obtain ⟨ga, gc, rfl, _⟩ := HN.out
    have HNL1 : Hid (Nums (w7.alloc (.cells #[.int .i64 i'] 3)) (.slice (some ⟨w7.heap.size, 0, none⟩) 1 1) [i']) := ⟨_, 1, rfl, Nat.le_refl _, by unfold maxLen; omega, fun _ => ⟨_, 0, rfl, fun t ht => by
      have e : t = 0 := by simpa using ht
      subst e
      simp⟩⟩
    have hb8 : Below w7.heap.size w7 (w7.alloc (.cells #[.int .i64 i'] 3)) := (Below.refl _ _).alloc (Nat.le_refl _) _
    have HN8 : Hid (Nums (w7.alloc (.cells #[.int .i64 i'] 3)) _ [i']) := HN.out.later hb8
    go_wp2_with fail
    refine (ints13_any [i'] [i'] _ _ _ HN8.out HNL1.out (by simp)).mono ?_
    rintro e w9 ⟨rfl, hb9⟩
    go_wp2_with fail
    go_ret
    exact ⟨ret_b (by simp), (CF.out _ ((hB7.trans (hb8.mono hB7.size)).trans (hb9.mono (hB7.trans (hb8.mono hB7.size)).size))).2.2⟩
  · have HG' : Hid (OwnN w6 w5.heap.size g []) := HG.out
    clear HG
    obtain ⟨ga, gc, rfl, _⟩ := HG'.out.nums.1
    go_wp2_with fail
    refine (beats_any _ _ _ _).mono ?_
    rintro e w7 ⟨rfl, hb7⟩
    rw [HZ.out]
    have hB7 := hB6.trans (hb7.mono hB6.size)
    clear x0 x1 x2 x3 x4 y0 y1 y2 y3 y4
    obtain ⟨⟨x0, x1, x2, x3, x4⟩, ⟨y0, y1, y2, y3, y4⟩, _⟩ := CF.out _ hB7
    clear hb7 hB6
    go_wp2_with fail
    go_ret
    exact ⟨ret_b (by simp), (CF.out _ hB7).2.2⟩
end Go.Proofs.Ytjaaabliefcgaaa
