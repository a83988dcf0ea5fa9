/- Walks of the document's own: Pop, Drop. -/
import Derived.Test.YtpefigaaeiaioaaG3
import Derived.Deep.RegionHeld3
namespace Go.Proofs.Ytpefigaaeiaioaa
open Go.RowKit
set_option linter.unusedVariables false

/-- What the document's own Pop comes to. -/
def ItsP (xs : List (Int × Int)) (w : World) (e : Ending) (w' : World) : Prop :=
  ∃ v, e = .returned (.tuple #[v, itV (atI (qOf xs) 0), .bool (decide (0 < (qOf xs).length))]) ∧ Its w' v (popL xs) ∧ Below w.heap.size w w'

set_option maxHeartbeats 1000000 in
set_option maxRecDepth 100000 in
theorem rpop_any (xs : List (Int × Int)) (v : Value) (w : World) (h : Its w v xs) (hx : xs.length ≤ 900) :
    Calls Try.prog 14 #[v] w (ItsP xs w) := by
  have b0 : Below w.heap.size w (w.alloc (.cells #[.int .i64 0, .int .i64 0] 24)) := (Below.refl _ _).alloc (Nat.le_refl _) _
  have HI : Hid (Its w v xs) := h
  obtain ⟨a0, cap0, rfl, g1, g2, _, g3⟩ := h
  go_enter Try.func14, Try.ntmps14
  go_wp2_with fail
  refine (rmin_any xs _ _ (HI.out.later b0) (by omega)).mono ?_
  rintro e w1 ⟨rfl, hb1⟩
  have hR := (Res.new w).later hb1
  have HB1 := below_next b0 hb1 (by simp)
  have l1 : w.heap.size < w1.heap.size := World.block_lt_of_cell? _ _ hR.1
  clear hb1 b0
  generalize hxm : atI (qOf xs) 0 = x
  have HX : Hid (atI (qOf xs) 0 = x) := hxm
  clear hxm
  have b1 : Below w1.heap.size w1 (w1.alloc (.cells #[.int .i64 x.1, .int .i64 x.2] 24)) := (Below.refl _ _).alloc (Nat.le_refl _) _
  have y0 : (w1.alloc (.cells #[.int .i64 x.1, .int .i64 x.2] 24)).cell? ⟨w1.heap.size, 0, none⟩ = some (.int .i64 x.1) := by simp
  have y1 : (w1.alloc (.cells #[.int .i64 x.1, .int .i64 x.2] 24)).cell? ⟨w1.heap.size, 1, none⟩ = some (.int .i64 x.2) := by simp
  obtain ⟨r0, r1, r2, r3⟩ := hR.later b1
  have HB2 : Hid (Below w.heap.size w (w1.alloc (.cells #[.int .i64 x.1, .int .i64 x.2] 24))) := below_next HB1 b1 HB1.size
  obtain ⟨w2, hw2⟩ : ∃ w2, w1.alloc (.cells #[.int .i64 x.1, .int .i64 x.2] 24) = w2 := ⟨_, rfl⟩
  rw [hw2] at y0 y1 r0 r1 r2 r3 HB2
  have HW : Hid (w1.alloc (.cells #[.int .i64 x.1, .int .i64 x.2] 24) = w2) := hw2
  clear hw2 b1 HB1 hR
  have ne1 : w.heap.size ≠ w1.heap.size := by omega
  by_cases hpos : 0 < (qOf xs).length
  · rw [decide_eq_true hpos]
    have hq := qOf_pos hpos
    have hne : xs ≠ [] := by intro e; rw [hq.2, e] at hpos; simp at hpos
    have hl : 0 < xs.length := List.length_pos_iff.2 hne
    have HE : Hid (popL xs = xs.drop 1 ∧ decide (0 < (qOf xs).length) = true) := ⟨by rw [popL_of hq.1]; simp, decide_eq_true hpos⟩
    obtain ⟨b, o, rfl, h4⟩ := g3 hne
    have lb : b < w.heap.size := World.block_lt_of_cell? _ _ (h4 0 hl).1
    have q1 : (1 : Int) ≤ xs.length := by omega
    clear hpos hq h4 g3
    unfold itV
    rcases (show 1 < cap0 ∨ cap0 = 1 by omega) with hc | hc
    · have HT : Hid (∀ W, Below w.heap.size w W → Its W (.slice (some ⟨b, o + 2, none⟩) (xs.length - 1) (cap0 - 1)) (popL xs)) := fun W hW => by
        rw [HE.out.1]; exact (HI.out.later hW).tail (t := 1) hl
      have hc' : (1 : Int) < cap0 := by omega
      go_wp2_with fail
      rw [HW.out]
      go_region
      all_goals
        go_wp2_with fail
        have hB := ((HB2.out.setCell (p := ⟨w.heap.size, 0, none⟩) (Nat.le_refl _) (.int .i64 x.1)).setCell (p := ⟨w.heap.size, 1, none⟩) (Nat.le_refl _) (.int .i64 x.2)).drew
        refine bodyPost_ret (v := .tuple #[.slice (some ⟨b, o + 2, none⟩) (xs.length - 1) (cap0 - 1), itV x, .bool true]) ?_ rfl ?_
        · simp [results, Try.results14, go_sem, itV, r0, r1]
        · exact ⟨_, by rw [HX.out, HE.out.2], HT.out _ hB, hB⟩
    · subst hc
      have HT : Hid (∀ W, Its W (.slice (some ⟨b, o, none⟩) 0 0) (popL xs)) := fun W => by
        rw [HE.out.1, List.drop_eq_nil_of_le g1]; exact Its.zero rfl (Nat.zero_le _)
      have hl1 : (xs.length : Int) = 1 := by omega
      go_wp2_with fail
      rw [HW.out]
      go_region
      all_goals
        go_wp2_with fail
        have hB := ((HB2.out.setCell (p := ⟨w.heap.size, 0, none⟩) (Nat.le_refl _) (.int .i64 x.1)).setCell (p := ⟨w.heap.size, 1, none⟩) (Nat.le_refl _) (.int .i64 x.2)).drew
        refine bodyPost_ret (v := .tuple #[.slice (some ⟨b, o, none⟩) 0 0, itV x, .bool true]) ?_ rfl ?_
        · simp [results, Try.results14, go_sem, itV, r0, r1]
        · exact ⟨_, by rw [HX.out, HE.out.2], HT.out _, hB⟩
  · rw [decide_eq_false hpos]
    have HE : Hid (popL xs = xs ∧ decide (0 < (qOf xs).length) = false) := ⟨if_neg hpos, decide_eq_false hpos⟩
    clear hpos
    unfold itV
    go_wp2_with fail
    rw [HW.out]
    go_region
    all_goals
      go_wp2_with fail
      have hB := ((HB2.out.setCell (p := ⟨w.heap.size, 0, none⟩) (Nat.le_refl _) (.int .i64 x.1)).setCell (p := ⟨w.heap.size, 1, none⟩) (Nat.le_refl _) (.int .i64 x.2)).drew
      refine bodyPost_ret (v := .tuple #[.slice a0 xs.length cap0, itV x, .bool false]) ?_ rfl ?_
      · simp [results, Try.results14, go_sem, itV, r0, r1]
      · exact ⟨_, by rw [HX.out, HE.out.2], by rw [HE.out.1]; exact HI.out.later hB, hB⟩

/-- One list of items, the call's own, gets another one behind it: a step of a statement whose order is drawn. -/
theorem step_append_its {w : World} {ops : Array Oper} {o : Oper} {act : Act} {K : Act → World → Prop} {Q : Exit → Act → World → Prop} {E : Prop} (hgd : o.guard = none) (s x : Operand) (T : TypeId) (hT : Try.prog.underlying T = some (.slice 24))
    (ho : o.op = .call { callee := .builtin .append, args := #[s, x], argTypes := #[T, T] }) (base : Nat) (v : Value) (ad : Addr) (m cap : Nat) (n : Nat) (xs ys : List (Int × Int))
    (hs : act.eval s = v) (hown : w.ownsRow base 24 2 v n (flat xs)) (hx : act.eval x = .slice (some ad) m cap) (hr : Its w (.slice (some ad) m cap) ys) (hn : n + ys.length ≤ 100000) (hbase : base ≤ w.heap.size)
    (h : ∀ v' w', w'.ownsRow base 24 2 v' (n + ys.length) (flat (xs ++ ys)) → Below base w w' → K (act.put o.dst v') w') :
    if Region.wanted o (yielded ops act.tmps) = true then Oper.wp Try.prog o act w K Q else E := by
  have hw : Region.wanted o (yielded ops act.tmps) = true := by simp [Region.wanted, hgd]
  rw [if_pos hw]
  obtain ⟨i0, hi, hz0, hz1, hz2⟩ := info_parts Try.infoItem
  have hlow := hown.lt
  obtain ⟨a, cap', e, h1, h2, h0, h3⟩ := hr
  simp only [Value.slice.injEq] at e
  obtain ⟨rfl, rfl, rfl⟩ := e
  have m1 : n + ys.length ≤ maxLen := by unfold maxLen; omega
  have hnews : ∀ j u, (flat ys)[j]? = some u → w.cell? (ad.add j) = some u := by
    intro j u hu
    have hy : ys ≠ [] := by intro e; subst e; simp [flat] at hu
    obtain ⟨b, oo, e, h4⟩ := h3 hy
    simp only [Option.some.injEq] at e
    subst e
    exact Its.cells (cap := cap) h4 j u hu
  refine wp_append_own w s x T ho base 24 i0 _ 2 16 hT hi hz0 hz1 hz2 rfl (by decide) v n (flat xs) hs hown ad ys.length cap (flat ys) hx (by rw [flat_len]) hnews (flat_one _) m1 (by omega) hbase ?_
  intro v' w' g1 g2 _
  rw [← flat_app] at g1
  exact h v' w' g1 ((Below.refl _ _).grown g2 hbase fun k hk => (hlow k hk).1)

set_option maxHeartbeats 4000000 in
set_option maxRecDepth 100000 in
theorem rdrop_any (xs : List (Int × Int)) (v : Value) (id : Int) (w : World) (h : Its w v xs) (hx : xs.length ≤ 900) :
    Calls Try.prog 16 #[v, .int .i64 id] w (ItsB (dropL xs id) (decide (0 ≤ fnd (qOf xs) id)) w) := by
  have HI : Hid (Its w v xs) := h
  obtain ⟨a0, cap0, rfl, g1, g2, _, g3⟩ := h
  go_enter Try.func16, Try.ntmps16
  go_wp2_with fail
  refine (rmay_any xs _ _ HI.out (by omega)).mono ?_
  rintro e w1 ⟨rfl, hb1⟩
  have HB1 : Hid (Below w.heap.size w w1) := hb1
  clear hb1
  generalize hm : mayB xs = m
  have HM : Hid (mayB xs = m) := hm
  clear hm
  go_wp2_with fail
  refine (rat_any xs _ id w1 (HI.out.later HB1.out) (by omega)).mono ?_
  rintro e w2 ⟨rfl, hb2⟩
  have HB2 : Hid (Below w.heap.size w w2) := below_next HB1.out hb2 HB1.out.size
  clear hb2 HB1
  generalize hf : fnd xs id = f
  have HF : Hid (fnd xs id = f) := hf
  clear hf
  cases m
  · have HE : Hid (dropL xs id = xs ∧ decide (0 ≤ fnd (qOf xs) id) = false) := by
      have hq : qOf xs = [] := by unfold qOf; rw [HM.out]; rfl
      have hn : ¬ (0 ≤ fnd (qOf xs) id) := by rw [hq]; show ¬ ((0 : Int) ≤ -1); omega
      exact ⟨if_neg hn, decide_eq_false hn⟩
    go_wp2_with fail
    go_ret2
    exact ⟨_, by rw [HE.out.2]; rfl, by rw [HE.out.1]; exact HI.out.later HB2.out, HB2.out⟩
  · by_cases cf : f < 0
    · have HE : Hid (dropL xs id = xs ∧ decide (0 ≤ fnd (qOf xs) id) = false) := by
        have hn : ¬ (0 ≤ fnd (qOf xs) id) := by rw [qOf_of HM.out, HF.out]; omega
        exact ⟨if_neg hn, decide_eq_false hn⟩
      have cf' : decide (f < 0) = true := decide_eq_true cf
      go_wp2_with fail
      go_ret2
      exact ⟨_, by rw [HE.out.2]; rfl, by rw [HE.out.1]; exact HI.out.later HB2.out, HB2.out⟩
    · have cf' : decide (f < 0) = false := decide_eq_false cf
      obtain ⟨k, hk, hkl, _⟩ := fnd_at (xs := xs) (id := id) (by rw [HF.out]; omega)
      obtain rfl : f = (k : Int) := by rw [← HF.out, hk]
      have HE : Hid (dropL xs id = xs.take k ++ xs.drop (k + 1) ∧ decide (0 ≤ fnd (qOf xs) id) = true) := by
        refine ⟨?_, by rw [qOf_of HM.out, hk]; exact decide_eq_true (by omega)⟩
        unfold dropL; rw [qOf_of HM.out, hk, if_pos (by omega), Int.toNat_natCast]
        exact List.eraseIdx_eq_take_drop_succ xs k
      obtain ⟨b, o, rfl, _⟩ := g3 (by intro e; subst e; simp at hkl)
      clear hk g3 HF
      have s2 := HB2.out.size
      have q1 : (0 : Int) ≤ (k : Int) := by omega
      have q2 : (k : Int) ≤ cap0 := by omega
      have q3 : (0 : Int) ≤ (k : Int) + 1 := by omega
      have q4 : (k : Int) + 1 ≤ xs.length := by omega
      have q5 : (k : Int) ≤ xs.length := by omega
      have q7 : IntKind.i64.wrap ((k : Int) + 1) = (k : Int) + 1 := by rw [IntKind.wrap_i64]; omega
      have ht : k ≤ xs.length := by omega
      have ht1 : k + 1 ≤ xs.length := by omega
      rcases (show k + 1 < cap0 ∨ k + 1 = cap0 by omega) with hc | hc
      · have hc' : (k : Int) + 1 < cap0 := by omega
        have hcn : cap0 ≠ k + 1 := by omega
        go_wp2_with fail
        go_region_held3 (fun _ => True) (exact trivial) (first
          | ((refine step_append_its (by rfl) _ _ 22 Try.underlying22 (by rfl) w2.heap.size (.slice none 0 0) _ _ _ 0 [] (xs.take k) (by rfl) (World.ownsRow_nil _ _ _ _) (by rfl) ((HI.out.later HB2.out.drew).front ht) (by simp; omega) (Nat.le_refl _) ?_; intro v3 w3 hown3 hb3))
          | ((refine step_append_its (by rfl) _ _ 22 Try.underlying22 (by rfl) w2.heap.size v3 _ _ _ (0 + (xs.take k).length) ([] ++ xs.take k) (xs.drop (k + 1)) (by rfl) hown3 (by rfl) ((HI.out.later (HB2.out.drew.trans (hb3.mono s2))).tail ht1) (by simp; omega) hb3.size ?_; intro v4 w4 hown4 hb4)))
        all_goals
          have H4 : Hid (Its w4 v4 (dropL xs id) ∧ Below w.heap.size w w4) := by
            rw [List.nil_append] at hown4
            refine ⟨by rw [HE.out.1]; exact (Its.own hown4).1, (HB2.out.drew.trans (hb3.mono s2)).trans (hb4.mono s2)⟩
          clear hown3 hb3 hown4 hb4
          go_wp2_with fail
          go_ret2
          exact ⟨_, by rw [HE.out.2]; rfl, H4.out.1, H4.out.2⟩
      · subst hc
        have q8 : (k : Int) ≤ (k : Int) + 1 := by omega
        have q9 : k ≤ k + 1 := by omega
        have htl : xs.length - (k + 1) = 0 := by omega
        have HDN : Hid (xs.drop (k + 1) = []) := List.drop_eq_nil_of_le (by omega)
        go_wp2_with fail
        go_region_held3 (fun _ => True) (exact trivial) (first
          | ((refine step_append_its (by rfl) _ _ 22 Try.underlying22 (by rfl) w2.heap.size (.slice none 0 0) _ _ _ 0 [] (xs.take k) (by rfl) (World.ownsRow_nil _ _ _ _) (by rfl) ((HI.out.later HB2.out.drew).front ht) (by simp; omega) (Nat.le_refl _) ?_; intro v3 w3 hown3 hb3))
          | ((refine step_append_its (by rfl) _ _ 22 Try.underlying22 (by rfl) w2.heap.size v3 _ _ _ (0 + (xs.take k).length) ([] ++ xs.take k) (xs.drop (k + 1)) (by rfl) hown3 (by rfl) (HDN.out.symm ▸ Its.zero (by first | rfl | assumption | omega) (Nat.zero_le _)) (by simp; omega) hb3.size ?_; intro v4 w4 hown4 hb4)))
        all_goals
          have H4 : Hid (Its w4 v4 (dropL xs id) ∧ Below w.heap.size w w4) := by
            rw [List.nil_append] at hown4
            refine ⟨by rw [HE.out.1]; exact (Its.own hown4).1, (HB2.out.drew.trans (hb3.mono s2)).trans (hb4.mono s2)⟩
          clear hown3 hb3 hown4 hb4
          go_wp2_with fail
          go_ret2
          exact ⟨_, by rw [HE.out.2]; rfl, H4.out.1, H4.out.2⟩
end Go.Proofs.Ytpefigaaeiaioaa
