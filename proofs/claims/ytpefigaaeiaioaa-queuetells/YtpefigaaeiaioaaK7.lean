/- The stage's statement. -/
import Derived.Test.YtpefigaaeiaioaaG4
namespace Go.Proofs.Ytpefigaaeiaioaa
open Go.RowKit
set_option linter.unusedVariables false

/-- Lists that are read, and items that lie in blocks of their own. -/
def Have (w : World) (L : List (Value × List (Int × Int))) (M : List (Nat × Int × Int)) : Prop :=
  (∀ p ∈ L, Its w p.1 p.2) ∧ ∀ p ∈ M, w.cell? ⟨p.1, 0, none⟩ = some (.int .i64 p.2.1) ∧ w.cell? ⟨p.1, 1, none⟩ = some (.int .i64 p.2.2)
theorem Have.later {w w' : World} {L : List (Value × List (Int × Int))} {M : List (Nat × Int × Int)} (h : Have w L M) (hb : Below w.heap.size w w') : Have w' L M :=
  ⟨fun p hp => (h.1 p hp).later hb, fun p hp => ⟨cell_later hb (h.2 p hp).1, cell_later hb (h.2 p hp).2⟩⟩
theorem Have.add {w : World} {L : List (Value × List (Int × Int))} {M : List (Nat × Int × Int)} (h : Have w L M) {v : Value} {xs : List (Int × Int)} (hv : Its w v xs) : Have w ((v, xs) :: L) M :=
  ⟨fun p hp => by
    rcases List.mem_cons.1 hp with rfl | hp
    · exact hv
    · exact h.1 p hp, h.2⟩
theorem Have.box {w : World} {L : List (Value × List (Int × Int))} {M : List (Nat × Int × Int)} (h : Have w L M) (a b : Int) : Have (w.alloc (.cells #[.int .i64 a, .int .i64 b] 24)) L ((w.heap.size, a, b) :: M) :=
  have h' := h.later ((Below.refl _ _).alloc (Nat.le_refl _) (.cells #[.int .i64 a, .int .i64 b] 24))
  ⟨h'.1, fun p hp => by
    rcases List.mem_cons.1 hp with rfl | hp
    · simp
    · exact h'.2 p hp⟩
theorem Have.its {w : World} {L : List (Value × List (Int × Int))} {M : List (Nat × Int × Int)} (h : Have w L M) {v : Value} {xs : List (Int × Int)} (hv : (v, xs) ∈ L) : Its w v xs := h.1 _ hv
theorem Have.cells {w : World} {L : List (Value × List (Int × Int))} {M : List (Nat × Int × Int)} (h : Have w L M) {k : Nat} {a b : Int} (hv : (k, a, b) ∈ M) : w.cell? ⟨k, 0, none⟩ = some (.int .i64 a) ∧ w.cell? ⟨k, 1, none⟩ = some (.int .i64 b) := h.2 _ hv

set_option maxHeartbeats 4000000 in
set_option maxRecDepth 100000 in
theorem law_tells (xs : List (Int × Int)) (v : Value) (kx ix id : Int) (w : World) (h : Its w v xs) :
    Calls Try.prog 3 #[v, .agg #[.int .i64 kx, .int .i64 ix], .int .i64 id] w fun e w' => e = .returned (.bool true) ∧ Below w.heap.size w w' := by
  have b0 : Below w.heap.size w (w.alloc (.cells #[.int .i64 kx, .int .i64 ix] 24)) := (Below.refl _ _).alloc (Nat.le_refl _) _
  have H0 : Have (w.alloc (.cells #[.int .i64 kx, .int .i64 ix] 24)) [(v, xs)] [(w.heap.size, kx, ix)] := Have.box (w := w) (L := [(v, xs)]) (M := []) ⟨fun p hp => by simp at hp; subst hp; exact h, fun p hp => by simp at hp⟩ kx ix
  obtain ⟨a, cap, hv⟩ := h.form
  have heq := item_eql4
  have hself := itB_self
  clear h
  subst hv
  go_enter Try.func3, Try.ntmps3
  go_wp2_with fail
  refine (awake_any _).mono ?_
  rintro e w1 ⟨rfl, hb1⟩
  have HB1 : Hid (Below w.heap.size w w1) := below_next b0 hb1 (by simp)
  have HV1 : Hid (Have w1 [(.slice a xs.length cap, xs)] [(w.heap.size, kx, ix)]) := H0.later hb1
  clear hb1 b0 H0
  by_cases cl : (xs.length : Int) > 100
  · have cl' : decide ((xs.length : Int) > 100) = true := decide_eq_true cl
    go_wp2_with fail
    go_ret
    exact ⟨rfl, HB1.out⟩
  · have cl' : decide ((xs.length : Int) > 100) = false := decide_eq_false cl
    go_wp2_with (first
      | (at_builtin; refine append_its rfl _ _ 22 Try.underlying22 rfl w1.heap.size (.slice none 0 0) _ 0 [] xs (by rfl) (World.ownsRow_nil _ _ _ _) (by rfl) (HV1.out.its (v := .slice a xs.length cap) (xs := xs) (by simp)) (by omega) (Nat.le_refl _) ?_; intro v2 w2 hown2 hb2; have xc := (HV1.out.later hb2).cells (k := w.heap.size) (a := kx) (b := ix) (by simp); have x0 := xc.1; have x1 := xc.2; clear xc))
    have HB2 : Hid (Below w.heap.size w w2) := below_next HB1.out hb2 HB1.out.size
    have HV2 : Hid (Have w2 [(v2, xs), (.slice a xs.length cap, xs)] [(w.heap.size, kx, ix)]) := (HV1.out.later hb2).add (Its.own (by rw [List.nil_append] at hown2; exact hown2)).1
    clear hown2 hb2 HB1 HV1
    go_wp2_with fail
    refine (push_any xs _ (kx, ix) _ (HV2.out.its (v := .slice a xs.length cap) (xs := xs) (by simp)) (by omega)).mono ?_
    rintro e w3 ⟨va, rfl, hown, hb⟩
    have HB3 : Hid (Below w.heap.size w w3) := below_next HB2.out hb HB2.out.size
    have HV3 : Hid (Have w3 [(va, pushL xs (kx, ix)), (v2, xs), (.slice a xs.length cap, xs)] [(w.heap.size, kx, ix)]) := (HV2.out.later hb).add (Its.own hown).1
    clear hown hb HB2 HV2
    clear x0 x1
    have xc := HV3.out.cells (k := w.heap.size) (a := kx) (b := ix) (by simp)
    have x0 := xc.1
    have x1 := xc.2
    clear xc
    go_wp2_with fail
    refine (rpush_any xs _ kx ix _ (HV3.out.its (v := .slice a xs.length cap) (xs := xs) (by simp)) (by omega)).mono ?_
    rintro e w4 ⟨vb, rfl, hown, hb⟩
    have HB4 : Hid (Below w.heap.size w w4) := below_next HB3.out hb HB3.out.size
    have HV4 : Hid (Have w4 [(vb, pushL xs (kx, ix)), (va, pushL xs (kx, ix)), (v2, xs), (.slice a xs.length cap, xs)] [(w.heap.size, kx, ix)]) := (HV3.out.later hb).add hown
    clear hown hb HB3 HV3
    clear x0 x1
    obtain ⟨y, hy⟩ : ∃ y, atI (qOf xs) 0 = y := ⟨_, rfl⟩
    obtain ⟨yk, yi⟩ := y
    have HY : Hid (atI (qOf xs) 0 = (yk, yi)) := hy
    clear hy
    go_wp2_with fail
    refine (pop_any xs _ _ (HV4.out.its (v := .slice a xs.length cap) (xs := xs) (by simp)) (by omega)).mono ?_
    rintro e w5 ⟨vc, rfl, hown, hb⟩
    have HB5 : Hid (Below w.heap.size w w5) := below_next HB4.out hb HB4.out.size
    have HV5 : Hid (Have w5 [(vc, popL xs), (vb, pushL xs (kx, ix)), (va, pushL xs (kx, ix)), (v2, xs), (.slice a xs.length cap, xs)] [(w.heap.size, kx, ix)]) := (HV4.out.later hb).add (Its.own hown).1
    clear hown hb HB4 HV4
    rw [HY.out]
    have bb : Below w5.heap.size w5 (w5.alloc (.cells #[.int .i64 yk, .int .i64 yi] 24)) := (Below.refl _ _).alloc (Nat.le_refl _) _
    have HB6 : Hid (Below w.heap.size w (w5.alloc (.cells #[.int .i64 yk, .int .i64 yi] 24))) := below_next HB5.out bb HB5.out.size
    have HV6 : Hid (Have (w5.alloc (.cells #[.int .i64 yk, .int .i64 yi] 24)) [(vc, popL xs), (vb, pushL xs (kx, ix)), (va, pushL xs (kx, ix)), (v2, xs), (.slice a xs.length cap, xs)] [(w5.heap.size, yk, yi), (w.heap.size, kx, ix)]) := HV5.out.box yk yi
    clear bb HB5 HV5
    unfold itV
    go_wp2_with fail
    refine (rpop_any xs _ _ (HV6.out.its (v := .slice a xs.length cap) (xs := xs) (by simp)) (by omega)).mono ?_
    rintro e w7 ⟨vd, rfl, hown, hb⟩
    have HB7 : Hid (Below w.heap.size w w7) := below_next HB6.out hb HB6.out.size
    have HV7 : Hid (Have w7 [(vd, popL xs), (vc, popL xs), (vb, pushL xs (kx, ix)), (va, pushL xs (kx, ix)), (v2, xs), (.slice a xs.length cap, xs)] [(w5.heap.size, yk, yi), (w.heap.size, kx, ix)]) := (HV6.out.later hb).add hown
    clear hown hb HB6 HV6
    rw [HY.out]
    have bb : Below w7.heap.size w7 (w7.alloc (.cells #[.int .i64 yk, .int .i64 yi] 24)) := (Below.refl _ _).alloc (Nat.le_refl _) _
    have HB8 : Hid (Below w.heap.size w (w7.alloc (.cells #[.int .i64 yk, .int .i64 yi] 24))) := below_next HB7.out bb HB7.out.size
    have HV8 : Hid (Have (w7.alloc (.cells #[.int .i64 yk, .int .i64 yi] 24)) [(vd, popL xs), (vc, popL xs), (vb, pushL xs (kx, ix)), (va, pushL xs (kx, ix)), (v2, xs), (.slice a xs.length cap, xs)] [(w7.heap.size, yk, yi), (w5.heap.size, yk, yi), (w.heap.size, kx, ix)]) := HV7.out.box yk yi
    clear bb HB7 HV7
    unfold itV
    go_wp2_with fail
    refine (drop_any xs _ id _ (HV8.out.its (v := .slice a xs.length cap) (xs := xs) (by simp)) (by omega)).mono ?_
    rintro e w9 ⟨vi, rfl, hown, hb⟩
    have HB9 : Hid (Below w.heap.size w w9) := below_next HB8.out hb HB8.out.size
    have HV9 : Hid (Have w9 [(vi, dropL xs id), (vd, popL xs), (vc, popL xs), (vb, pushL xs (kx, ix)), (va, pushL xs (kx, ix)), (v2, xs), (.slice a xs.length cap, xs)] [(w7.heap.size, yk, yi), (w5.heap.size, yk, yi), (w.heap.size, kx, ix)]) := (HV8.out.later hb).add (Its.own hown).1
    clear hown hb HB8 HV8
    go_wp2_with fail
    refine (rdrop_any xs _ id _ (HV9.out.its (v := .slice a xs.length cap) (xs := xs) (by simp)) (by omega)).mono ?_
    rintro e w10 ⟨vj, rfl, hown, hb⟩
    have HB10 : Hid (Below w.heap.size w w10) := below_next HB9.out hb HB9.out.size
    have HV10 : Hid (Have w10 [(vj, dropL xs id), (vi, dropL xs id), (vd, popL xs), (vc, popL xs), (vb, pushL xs (kx, ix)), (va, pushL xs (kx, ix)), (v2, xs), (.slice a xs.length cap, xs)] [(w7.heap.size, yk, yi), (w5.heap.size, yk, yi), (w.heap.size, kx, ix)]) := (HV9.out.later hb).add hown
    clear hown hb HB9 HV9
    go_wp2_with fail
    refine (min_any xs _ _ (HV10.out.its (v := .slice a xs.length cap) (xs := xs) (by simp))).mono ?_
    rintro e w11 ⟨rfl, hb⟩
    have HB11 : Hid (Below w.heap.size w w11) := below_next HB10.out hb HB10.out.size
    have HV11 : Hid (Have w11 [(vj, dropL xs id), (vi, dropL xs id), (vd, popL xs), (vc, popL xs), (vb, pushL xs (kx, ix)), (va, pushL xs (kx, ix)), (v2, xs), (.slice a xs.length cap, xs)] [(w7.heap.size, yk, yi), (w5.heap.size, yk, yi), (w.heap.size, kx, ix)]) := HV10.out.later hb
    clear hb HB10 HV10
    rw [HY.out]
    have bb : Below w11.heap.size w11 (w11.alloc (.cells #[.int .i64 yk, .int .i64 yi] 24)) := (Below.refl _ _).alloc (Nat.le_refl _) _
    have HB12 : Hid (Below w.heap.size w (w11.alloc (.cells #[.int .i64 yk, .int .i64 yi] 24))) := below_next HB11.out bb HB11.out.size
    have HV12 : Hid (Have (w11.alloc (.cells #[.int .i64 yk, .int .i64 yi] 24)) [(vj, dropL xs id), (vi, dropL xs id), (vd, popL xs), (vc, popL xs), (vb, pushL xs (kx, ix)), (va, pushL xs (kx, ix)), (v2, xs), (.slice a xs.length cap, xs)] [(w11.heap.size, yk, yi), (w7.heap.size, yk, yi), (w5.heap.size, yk, yi), (w.heap.size, kx, ix)]) := HV11.out.box yk yi
    clear bb HB11 HV11
    unfold itV
    go_wp2_with fail
    refine (rmin_any xs _ _ (HV12.out.its (v := .slice a xs.length cap) (xs := xs) (by simp)) (by omega)).mono ?_
    rintro e w13 ⟨rfl, hb⟩
    have HB13 : Hid (Below w.heap.size w w13) := below_next HB12.out hb HB12.out.size
    have HV13 : Hid (Have w13 [(vj, dropL xs id), (vi, dropL xs id), (vd, popL xs), (vc, popL xs), (vb, pushL xs (kx, ix)), (va, pushL xs (kx, ix)), (v2, xs), (.slice a xs.length cap, xs)] [(w11.heap.size, yk, yi), (w7.heap.size, yk, yi), (w5.heap.size, yk, yi), (w.heap.size, kx, ix)]) := HV12.out.later hb
    clear hb HB12 HV12
    rw [HY.out]
    have bb : Below w13.heap.size w13 (w13.alloc (.cells #[.int .i64 yk, .int .i64 yi] 24)) := (Below.refl _ _).alloc (Nat.le_refl _) _
    have HB14 : Hid (Below w.heap.size w (w13.alloc (.cells #[.int .i64 yk, .int .i64 yi] 24))) := below_next HB13.out bb HB13.out.size
    have HV14 : Hid (Have (w13.alloc (.cells #[.int .i64 yk, .int .i64 yi] 24)) [(vj, dropL xs id), (vi, dropL xs id), (vd, popL xs), (vc, popL xs), (vb, pushL xs (kx, ix)), (va, pushL xs (kx, ix)), (v2, xs), (.slice a xs.length cap, xs)] [(w13.heap.size, yk, yi), (w11.heap.size, yk, yi), (w7.heap.size, yk, yi), (w5.heap.size, yk, yi), (w.heap.size, kx, ix)]) := HV13.out.box yk yi
    clear bb HB13 HV13
    unfold itV
    have hpl : (pushL xs (kx, ix)).length ≤ 1000 := by
      unfold pushL; split
      · rw [srt_len]; simp; omega
      · omega
    have hql : (popL xs).length ≤ 1000 := by
      unfold popL; split
      · simp; omega
      · omega
    have hdl : (dropL xs id).length ≤ 1000 := by
      unfold dropL; split
      · rw [List.length_eraseIdx]; split <;> omega
      · omega
    go_wp2_with fail
    refine (same_eq (pushL xs (kx, ix)) va vb _ (HV14.out.its (by simp)) (HV14.out.its (by simp)) hpl).mono ?_
    rintro e w15 ⟨rfl, hb⟩
    have HB15 : Hid (Below w.heap.size w w15) := below_next HB14.out hb HB14.out.size
    have HV15 : Hid (Have w15 [(vj, dropL xs id), (vi, dropL xs id), (vd, popL xs), (vc, popL xs), (vb, pushL xs (kx, ix)), (va, pushL xs (kx, ix)), (v2, xs), (.slice a xs.length cap, xs)] [(w13.heap.size, yk, yi), (w11.heap.size, yk, yi), (w7.heap.size, yk, yi), (w5.heap.size, yk, yi), (w.heap.size, kx, ix)]) := HV14.out.later hb
    clear hb HB14 HV14
    go_wp2_with fail
    refine (same_eq (popL xs) vc vd _ (HV15.out.its (by simp)) (HV15.out.its (by simp)) hql).mono ?_
    rintro e w16 ⟨rfl, hb⟩
    have HB16 : Hid (Below w.heap.size w w16) := below_next HB15.out hb HB15.out.size
    have HV16 : Hid (Have w16 [(vj, dropL xs id), (vi, dropL xs id), (vd, popL xs), (vc, popL xs), (vb, pushL xs (kx, ix)), (va, pushL xs (kx, ix)), (v2, xs), (.slice a xs.length cap, xs)] [(w13.heap.size, yk, yi), (w11.heap.size, yk, yi), (w7.heap.size, yk, yi), (w5.heap.size, yk, yi), (w.heap.size, kx, ix)]) := HV15.out.later hb
    clear hb HB15 HV15
    have z0 := HV16.out.cells (k := w13.heap.size) (a := yk) (b := yi) (by simp)
    have z00 := z0.1
    have z01 := z0.2
    clear z0
    have z1 := HV16.out.cells (k := w11.heap.size) (a := yk) (b := yi) (by simp)
    have z10 := z1.1
    have z11 := z1.2
    clear z1
    have z2 := HV16.out.cells (k := w7.heap.size) (a := yk) (b := yi) (by simp)
    have z20 := z2.1
    have z21 := z2.2
    clear z2
    have z3 := HV16.out.cells (k := w5.heap.size) (a := yk) (b := yi) (by simp)
    have z30 := z3.1
    have z31 := z3.2
    clear z3
    have z4 := HV16.out.cells (k := w.heap.size) (a := kx) (b := ix) (by simp)
    have z40 := z4.1
    have z41 := z4.2
    clear z4
    go_wp2_with fail
    refine (same_eq (dropL xs id) vi vj _ (HV16.out.its (by simp)) (HV16.out.its (by simp)) hdl).mono ?_
    rintro e w17 ⟨rfl, hb⟩
    have HB17 : Hid (Below w.heap.size w w17) := below_next HB16.out hb HB16.out.size
    have HV17 : Hid (Have w17 [(vj, dropL xs id), (vi, dropL xs id), (vd, popL xs), (vc, popL xs), (vb, pushL xs (kx, ix)), (va, pushL xs (kx, ix)), (v2, xs), (.slice a xs.length cap, xs)] [(w13.heap.size, yk, yi), (w11.heap.size, yk, yi), (w7.heap.size, yk, yi), (w5.heap.size, yk, yi), (w.heap.size, kx, ix)]) := HV16.out.later hb
    clear hb HB16 HV16
    have z0 := HV17.out.cells (k := w13.heap.size) (a := yk) (b := yi) (by simp)
    have z00 := z0.1
    have z01 := z0.2
    clear z0
    have z1 := HV17.out.cells (k := w11.heap.size) (a := yk) (b := yi) (by simp)
    have z10 := z1.1
    have z11 := z1.2
    clear z1
    have z2 := HV17.out.cells (k := w7.heap.size) (a := yk) (b := yi) (by simp)
    have z20 := z2.1
    have z21 := z2.2
    clear z2
    have z3 := HV17.out.cells (k := w5.heap.size) (a := yk) (b := yi) (by simp)
    have z30 := z3.1
    have z31 := z3.2
    clear z3
    have z4 := HV17.out.cells (k := w.heap.size) (a := kx) (b := ix) (by simp)
    have z40 := z4.1
    have z41 := z4.2
    clear z4
    go_wp2_with fail
    refine (sort_any xs _ _ (HV17.out.its (v := .slice a xs.length cap) (xs := xs) (by simp)) (by omega)).mono ?_
    rintro e w18 ⟨vs, rfl, hown, hb⟩
    have HB18 : Hid (Below w.heap.size w w18) := below_next HB17.out hb HB17.out.size
    have HV18 : Hid (Have w18 [(vs, srt xs), (vj, dropL xs id), (vi, dropL xs id), (vd, popL xs), (vc, popL xs), (vb, pushL xs (kx, ix)), (va, pushL xs (kx, ix)), (v2, xs), (.slice a xs.length cap, xs)] [(w13.heap.size, yk, yi), (w11.heap.size, yk, yi), (w7.heap.size, yk, yi), (w5.heap.size, yk, yi), (w.heap.size, kx, ix)]) := (HV17.out.later hb).add (Its.own hown).1
    clear hown hb HB17 HV17
    go_wp2_with fail
    refine (rsort_any xs _ _ (HV18.out.its (v := .slice a xs.length cap) (xs := xs) (by simp)) (by omega)).mono ?_
    rintro e w19 ⟨vt, rfl, hown, hb⟩
    have HB19 : Hid (Below w.heap.size w w19) := below_next HB18.out hb HB18.out.size
    have HV19 : Hid (Have w19 [(vt, srt xs), (vs, srt xs), (vj, dropL xs id), (vi, dropL xs id), (vd, popL xs), (vc, popL xs), (vb, pushL xs (kx, ix)), (va, pushL xs (kx, ix)), (v2, xs), (.slice a xs.length cap, xs)] [(w13.heap.size, yk, yi), (w11.heap.size, yk, yi), (w7.heap.size, yk, yi), (w5.heap.size, yk, yi), (w.heap.size, kx, ix)]) := (HV18.out.later hb).add hown
    clear hown hb HB18 HV18
    go_wp2_with fail
    refine (same_eq (srt xs) vs vt _ (HV19.out.its (by simp)) (HV19.out.its (by simp)) (by rw [srt_len]; omega)).mono ?_
    rintro e w20 ⟨rfl, hb⟩
    have HB20 : Hid (Below w.heap.size w w20) := below_next HB19.out hb HB19.out.size
    have HV20 : Hid (Have w20 [(vt, srt xs), (vs, srt xs), (vj, dropL xs id), (vi, dropL xs id), (vd, popL xs), (vc, popL xs), (vb, pushL xs (kx, ix)), (va, pushL xs (kx, ix)), (v2, xs), (.slice a xs.length cap, xs)] [(w13.heap.size, yk, yi), (w11.heap.size, yk, yi), (w7.heap.size, yk, yi), (w5.heap.size, yk, yi), (w.heap.size, kx, ix)]) := HV19.out.later hb
    clear hb HB19 HV19
    go_wp2_with fail
    refine (may_any xs _ _ (HV20.out.its (v := .slice a xs.length cap) (xs := xs) (by simp))).mono ?_
    rintro e w21 ⟨rfl, hb⟩
    have HB21 : Hid (Below w.heap.size w w21) := below_next HB20.out hb HB20.out.size
    have HV21 : Hid (Have w21 [(vt, srt xs), (vs, srt xs), (vj, dropL xs id), (vi, dropL xs id), (vd, popL xs), (vc, popL xs), (vb, pushL xs (kx, ix)), (va, pushL xs (kx, ix)), (v2, xs), (.slice a xs.length cap, xs)] [(w13.heap.size, yk, yi), (w11.heap.size, yk, yi), (w7.heap.size, yk, yi), (w5.heap.size, yk, yi), (w.heap.size, kx, ix)]) := HV20.out.later hb
    clear hb HB20 HV20
    go_wp2_with fail
    refine (rmay_any xs _ _ (HV21.out.its (v := .slice a xs.length cap) (xs := xs) (by simp)) (by omega)).mono ?_
    rintro e w22 ⟨rfl, hb⟩
    have HB22 : Hid (Below w.heap.size w w22) := below_next HB21.out hb HB21.out.size
    have HV22 : Hid (Have w22 [(vt, srt xs), (vs, srt xs), (vj, dropL xs id), (vi, dropL xs id), (vd, popL xs), (vc, popL xs), (vb, pushL xs (kx, ix)), (va, pushL xs (kx, ix)), (v2, xs), (.slice a xs.length cap, xs)] [(w13.heap.size, yk, yi), (w11.heap.size, yk, yi), (w7.heap.size, yk, yi), (w5.heap.size, yk, yi), (w.heap.size, kx, ix)]) := HV21.out.later hb
    clear hb HB21 HV21
    go_wp2_with fail
    refine (same_eq xs _ v2 _ (HV22.out.its (by simp)) (HV22.out.its (by simp)) (by omega)).mono ?_
    rintro e w23 ⟨rfl, hb⟩
    have HB23 : Hid (Below w.heap.size w w23) := below_next HB22.out hb HB22.out.size
    have HV23 : Hid (Have w23 [(vt, srt xs), (vs, srt xs), (vj, dropL xs id), (vi, dropL xs id), (vd, popL xs), (vc, popL xs), (vb, pushL xs (kx, ix)), (va, pushL xs (kx, ix)), (v2, xs), (.slice a xs.length cap, xs)] [(w13.heap.size, yk, yi), (w11.heap.size, yk, yi), (w7.heap.size, yk, yi), (w5.heap.size, yk, yi), (w.heap.size, kx, ix)]) := HV22.out.later hb
    clear hb HB22 HV22
    go_wp2_with fail
    go_ret
    exact ⟨rfl, HB23.out⟩
end Go.Proofs.Ytpefigaaeiaioaa
