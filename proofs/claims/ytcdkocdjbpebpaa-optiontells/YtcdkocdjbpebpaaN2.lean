/- Walks of package option: what is told of one, Less. -/
import Derived.Test.YtcdkocdjbpebpaaN1
import Derived.Laws.StructEq
import Derived.ChangeKeysEq
import Derived.Deep.CutRange
namespace Go.Proofs.Ytcdkocdjbpebpaa
open Go.RowKit

theorem mk_eql (a b c d e f : Int) (w : World) : (binOp .eql 50 (.agg #[.int .i64 a, .int .i64 b, .int .i64 c]) (.agg #[.int .i64 d, .int .i64 e, .int .i64 f])).run Try.prog w = .ok (.bool (decide (a = d) && (decide (b = e) && decide (c = f)))) w := by
  have hi : Try.prog.info? 3 = some ((Try.prog.info? 3).get (by kernel_rfl)) := by kernel_rfl
  have E := fun w => run_equalIn_array (P := Try.prog) w 9999 #[.int .i64 a, .int .i64 b, .int .i64 c] #[.int .i64 d, .int .i64 e, .int .i64 f] (t := 50) (e := 3) (n := 3) (by kernel_rfl) hi
  have hc : Try.prog.cellsOf 3 = 1 := by kernel_rfl
  rw [hc] at E
  rw [run_eql_struct, E]
  by_cases h0 : a = d
  rotate_left
  · simp [go_sem, h0, Op.eqItems, List.range, List.range.loop]
  by_cases h1 : b = e
  rotate_left
  · simp [go_sem, h0, h1, Op.eqItems, List.range, List.range.loop]
  by_cases h2 : c = f
  rotate_left
  · simp [go_sem, h0, h1, h2, Op.eqItems, List.range, List.range.loop]
  simp [go_sem, h0, h1, h2, Op.eqItems, List.range, List.range.loop]

theorem drewB {B : Nat} {w w' : World} (h : Below B w w') (n : Nat) : Below B w (w'.drewN n) := ⟨h.os, h.tape, h.output, h.size, h.block⟩

theorem marks_any (a b c : Int) (w : World) :
    Calls Try.prog 26 #[.agg #[.int .i64 a, .int .i64 b, .int .i64 c]] w fun e w' => e = .returned (.agg #[.int .i64 a, .int .i64 b, .int .i64 c]) ∧ Below w.heap.size w w' := by
  go_enter Try.func26, Try.ntmps26
  go_wp2_with fail
  refine bodyPost_ret (v := .agg #[.int .i64 a, .int .i64 b, .int .i64 c]) ?_ rfl ⟨rfl, ((Below.refl _ _).alloc (Nat.le_refl _) _).alloc (by simp) _⟩
  simp [results, Try.results26, go_sem]

/-- Three cells that may be written. -/
def Tre (w : World) (b : Nat) (u m e : Int) : Prop := Thr w b u m e ∧ ∀ i, i < 3 → w.frozen? ⟨b, i, none⟩ = false
theorem Tre.later {w w' : World} {b : Nat} {u m e : Int} (h : Tre w b u m e) (hb : Below w.heap.size w w') : Tre w' b u m e :=
  ⟨h.1.later hb, fun i hi => (hb.frozen (p := ⟨b, i, none⟩) h.1.lt).trans (h.2 i hi)⟩
theorem Tre.new (w : World) (u m e : Int) : Tre (w.alloc (.cells #[.int .i64 u, .int .i64 m, .int .i64 e] 50)) w.heap.size u m e :=
  ⟨Thr.new w u m e _, fun i hi => by rcases (show i = 0 ∨ i = 1 ∨ i = 2 by omega) with rfl | rfl | rfl <;> simp⟩
theorem Tre.tri {w : World} {b : Nat} {u m e : Int} (h : Tre w b u m e) : (w.cell? ⟨b, 0, none⟩ = some (.int .i64 u) ∧ w.cell? ⟨b, 1, none⟩ = some (.int .i64 m) ∧ w.cell? ⟨b, 2, none⟩ = some (.int .i64 e)) ∧ w.frozen? ⟨b, 0, none⟩ = false ∧ w.frozen? ⟨b, 1, none⟩ = false ∧ w.frozen? ⟨b, 2, none⟩ = false :=
  ⟨h.1, h.2 0 (by omega), h.2 1 (by omega), h.2 2 (by omega)⟩
theorem Tre.put {w : World} {b : Nat} {u m e : Int} (h : Tre w b u m e) (x y z : Int) : Tre (((w.setCell ⟨b, 0, none⟩ (.int .i64 x)).setCell ⟨b, 1, none⟩ (.int .i64 y)).setCell ⟨b, 2, none⟩ (.int .i64 z)) b x y z := by
  obtain ⟨⟨h0, h1, h2⟩, hf⟩ := h
  have far : ∀ (w : World) (k j : Nat) (v : Value), k ≠ j → (w.setCell ⟨b, k, none⟩ v).cell? ⟨b, j, none⟩ = w.cell? ⟨b, j, none⟩ := fun w k j v hn => World.cell?_setCell_other _ _ _ _ (by simp)
  have a1 : (w.setCell ⟨b, 0, none⟩ (.int .i64 x)).cell? ⟨b, 1, none⟩ = some (.int .i64 m) := (far _ 0 1 _ (by omega)).trans h1
  have a2 : ((w.setCell ⟨b, 0, none⟩ (.int .i64 x)).setCell ⟨b, 1, none⟩ (.int .i64 y)).cell? ⟨b, 2, none⟩ = some (.int .i64 e) := (far _ 1 2 _ (by omega)).trans ((far _ 0 2 _ (by omega)).trans h2)
  refine ⟨⟨?_, ?_, ?_⟩, fun i hi => ?_⟩
  · exact (far _ 2 0 _ (by omega)).trans ((far _ 1 0 _ (by omega)).trans (World.cell?_setCell_same _ _ _ h0))
  · exact (far _ 2 1 _ (by omega)).trans (World.cell?_setCell_same _ _ _ a1)
  · exact World.cell?_setCell_same _ _ _ a2
  · simpa using hf i hi
theorem Tre.far {w : World} {b p : Nat} {u m e : Int} (h : Tre w b u m e) (x y z : Int) (hn : p ≠ b) : Tre (((w.setCell ⟨p, 0, none⟩ (.int .i64 x)).setCell ⟨p, 1, none⟩ (.int .i64 y)).setCell ⟨p, 2, none⟩ (.int .i64 z)) b u m e := by
  have far : ∀ (w : World) (k j : Nat) (v : Value), (w.setCell ⟨p, k, none⟩ v).cell? ⟨b, j, none⟩ = w.cell? ⟨b, j, none⟩ := fun w k j v => World.cell?_setCell_far _ _ _ _ hn
  obtain ⟨⟨h0, h1, h2⟩, hf⟩ := h
  refine ⟨⟨?_, ?_, ?_⟩, fun i hi => ?_⟩
  · rw [far, far, far]; exact h0
  · rw [far, far, far]; exact h1
  · rw [far, far, far]; exact h2
  · simpa using hf i hi
theorem below_put3 {w w1 : World} {p : Nat} (h : Below w.heap.size w w1) (hp : w.heap.size ≤ p) (x y z : Value) : Below w.heap.size w (((w1.setCell ⟨p, 0, none⟩ x).setCell ⟨p, 1, none⟩ y).setCell ⟨p, 2, none⟩ z) :=
  ((h.setCell (p := ⟨p, 0, none⟩) hp _).setCell (p := ⟨p, 1, none⟩) hp _).setCell (p := ⟨p, 2, none⟩) hp _

set_option maxHeartbeats 4000000 in
set_option maxRecDepth 100000 in
theorem less14_any (a b c d e f : Int) (w : World) :
    Calls Try.prog 11 #[.agg #[.int .i64 a, .int .i64 b, .int .i64 c], .agg #[.int .i64 d, .int .i64 e, .int .i64 f]] w fun r w' => r = .returned (.bool (ltO (a, b, c) (d, e, f))) ∧ Below w.heap.size w w' := by
  have h1 := (Thr.new w a b c 24).later ((Below.refl _ _).alloc (Nat.le_refl _) (.cells #[.int .i64 d, .int .i64 e, .int .i64 f] 24))
  have h2 := Thr.new (w.alloc (.cells #[.int .i64 a, .int .i64 b, .int .i64 c] 24)) d e f 24
  simp only [World.size_alloc] at h2
  have HW : Hid (Below w.heap.size w ((w.alloc (.cells #[.int .i64 a, .int .i64 b, .int .i64 c] 24)).alloc (.cells #[.int .i64 d, .int .i64 e, .int .i64 f] 24))) := ((Below.refl _ _).alloc (Nat.le_refl _) _).alloc (by simp) _
  go_enter Try.func11, Try.ntmps11
  go_upto_region 1 with fail
  go_cut [5, 6] from 8 to 11 (fun s5 s6 wc => ∃ p q, s5 = .pointer (some ⟨p, 0, none⟩) ∧ s6 = .pointer (some ⟨q, 0, none⟩) ∧ Thr wc p a b c ∧ Thr wc q d e f ∧ Below w.heap.size w wc)
  case first =>
    generalize ((w.alloc (.cells #[.int .i64 a, .int .i64 b, .int .i64 c] 24)).alloc (.cells #[.int .i64 d, .int .i64 e, .int .i64 f] 24)) = W at *
    have MK : Hid (∀ w' : World, Below W.heap.size W w' → (w'.cell? ⟨w.heap.size, 0, none⟩ = some (.int .i64 a) ∧ w'.cell? ⟨w.heap.size, 1, none⟩ = some (.int .i64 b) ∧ w'.cell? ⟨w.heap.size, 2, none⟩ = some (.int .i64 c) ∧ w'.cell? ⟨w.heap.size + 1, 0, none⟩ = some (.int .i64 d) ∧ w'.cell? ⟨w.heap.size + 1, 1, none⟩ = some (.int .i64 e) ∧ w'.cell? ⟨w.heap.size + 1, 2, none⟩ = some (.int .i64 f)) ∧ Below W.heap.size W w') :=
      fun w' hb => ⟨⟨(h1.later hb).1, (h1.later hb).2.1, (h1.later hb).2.2, (h2.later hb).1, (h2.later hb).2.1, (h2.later hb).2.2⟩, hb⟩
    clear h1 h2
    refine wp_region_held_drew (S := (fun w' : World => (w'.cell? ⟨w.heap.size, 0, none⟩ = some (.int .i64 a) ∧ w'.cell? ⟨w.heap.size, 1, none⟩ = some (.int .i64 b) ∧ w'.cell? ⟨w.heap.size, 2, none⟩ = some (.int .i64 c) ∧ w'.cell? ⟨w.heap.size + 1, 0, none⟩ = some (.int .i64 d) ∧ w'.cell? ⟨w.heap.size + 1, 1, none⟩ = some (.int .i64 e) ∧ w'.cell? ⟨w.heap.size + 1, 2, none⟩ = some (.int .i64 f)) ∧ Below W.heap.size W w')) (by kernel_rfl) ?_ (fun hHeld => ?_)
    · exact MK.out _ (Below.refl _ _).drew
    have HBx0 : Hid (Below W.heap.size W W.drew) := (Below.refl _ _).drew
    generalize W.drew = x0 at *
    refine wpAnyH_take (i := 0) (oi := { dst := some 8, op := Op.load 24 (Operand.tmp 2), type := 24, pos := _, after := _, guard := none }) (v := ?_) rfl (by kernel_rfl) (by kernel_rfl) (by kernel_rfl) (fun _ _ _ h => h) (Or.inl ⟨by rfl, ?_⟩) (by assumption) ?_
    rotate_left
    · intro wS hSw; (try dsimp only at hSw); go_simp; first | done | with_reducible rfl
    try simp only [Act.put, List.setIfInBounds_toArray, List.set_cons_zero, List.set_cons_succ]
    refine wpAnyH_take (i := 2) (oi := { dst := some 10, op := Op.load 24 (Operand.tmp 3), type := 24, pos := _, after := _, guard := none }) (v := ?_) rfl (by kernel_rfl) (by kernel_rfl) (by kernel_rfl) (fun _ _ _ h => h) (Or.inl ⟨by rfl, ?_⟩) (by assumption) ?_
    rotate_left
    · intro wS hSw; (try dsimp only at hSw); go_simp; first | done | with_reducible rfl
    try simp only [Act.put, List.setIfInBounds_toArray, List.set_cons_zero, List.set_cons_succ]
    refine wpAnyH_ready (rs := [1, 4, 5]) (by kernel_rfl) (by simp) ?_
    refine AllReadyH.cons (o := { dst := some 9, op := Op.call { callee := Callee.value (Operand.func 26), args := #[Operand.tmp 8], argTypes := #[24] }, type := 50, pos := _, after := _, guard := none }) rfl (fun K hK => ?_) (AllReadyH.cons (o := { dst := some 5, op := Op.alloc 50, type := 0, pos := _, after := _, guard := none }) rfl (fun K hK => ?_) (AllReadyH.cons (o := { dst := some 6, op := Op.alloc 50, type := 0, pos := _, after := _, guard := none }) rfl (fun K hK => ?_) AllReadyH.nil))
    · go_simp
      refine (marks_any _ _ _ _).mono ?_
      rintro r x1 ⟨rfl, hb⟩
      have HBx1 : Hid (Below W.heap.size W x1) := HBx0.out.trans (hb.mono HBx0.out.size)
      clear hb
      go_wp2_with fail
      refine hK.out _ _ ?_ (fun hHeld => ?_)
      · exact MK.out _ HBx1.out
      clear hK K
      try simp only [Act.put, List.setIfInBounds_toArray, List.set_cons_zero, List.set_cons_succ]
      refine wpAnyH_ready (rs := [3, 4, 5]) (by kernel_rfl) (by simp) ?_
      refine AllReadyH.cons (o := { dst := some 11, op := Op.call { callee := Callee.value (Operand.func 26), args := #[Operand.tmp 10], argTypes := #[24] }, type := 50, pos := _, after := _, guard := none }) rfl (fun K hK => ?_) (AllReadyH.cons (o := { dst := some 5, op := Op.alloc 50, type := 0, pos := _, after := _, guard := none }) rfl (fun K hK => ?_) (AllReadyH.cons (o := { dst := some 6, op := Op.alloc 50, type := 0, pos := _, after := _, guard := none }) rfl (fun K hK => ?_) AllReadyH.nil))
      · go_simp
        refine (marks_any _ _ _ _).mono ?_
        rintro r x2 ⟨rfl, hb⟩
        have HBx2 : Hid (Below W.heap.size W x2) := HBx1.out.trans (hb.mono HBx1.out.size)
        clear hb
        go_wp2_with fail
        refine hK.out _ _ ?_ (fun hHeld => ?_)
        · exact MK.out _ HBx2.out
        clear hK K
        try simp only [Act.put, List.setIfInBounds_toArray, List.set_cons_zero, List.set_cons_succ]
        refine wpAnyH_ready (rs := [4, 5]) (by kernel_rfl) (by simp) ?_
        refine AllReadyH.cons (o := { dst := some 5, op := Op.alloc 50, type := 0, pos := _, after := _, guard := none }) rfl (fun K hK => ?_) (AllReadyH.cons (o := { dst := some 6, op := Op.alloc 50, type := 0, pos := _, after := _, guard := none }) rfl (fun K hK => ?_) AllReadyH.nil)
        · go_simp
          obtain ⟨x3, ex3⟩ : ∃ x, x2.alloc (.cells #[.int .i64 0, .int .i64 0, .int .i64 0] 50) = x := ⟨_, rfl⟩
          rw [ex3]
          have hb : Below x2.heap.size x2 x3 := ex3 ▸ (Below.refl _ _).alloc (Nat.le_refl _) _
          have HBx3 : Hid (Below W.heap.size W x3) := HBx2.out.trans (hb.mono HBx2.out.size)
          have LOW4 : Hid (W.heap.size ≤ x2.heap.size) := HBx2.out.size
          have HT4x3 : Hid (Tre x3 x2.heap.size 0 0 0) := ex3 ▸ Tre.new _ 0 0 0
          clear hb ex3
          refine hK.out _ _ ?_ (fun hHeld => ?_)
          · exact MK.out _ HBx3.out
          clear hK K
          try simp only [Act.put, List.setIfInBounds_toArray, List.set_cons_zero, List.set_cons_succ]
          refine wpAnyH_ready (rs := [5]) (by kernel_rfl) (by simp) ?_
          refine AllReadyH.cons (o := { dst := some 6, op := Op.alloc 50, type := 0, pos := _, after := _, guard := none }) rfl (fun K hK => ?_) AllReadyH.nil
          go_simp
          obtain ⟨x4, ex4⟩ : ∃ x, x3.alloc (.cells #[.int .i64 0, .int .i64 0, .int .i64 0] 50) = x := ⟨_, rfl⟩
          rw [ex4]
          have hb : Below x3.heap.size x3 x4 := ex4 ▸ (Below.refl _ _).alloc (Nat.le_refl _) _
          have HBx4 : Hid (Below W.heap.size W x4) := HBx3.out.trans (hb.mono HBx3.out.size)
          have LOW5 : Hid (W.heap.size ≤ x3.heap.size) := HBx3.out.size
          have HT5x4 : Hid (Tre x4 x3.heap.size 0 0 0) := ex4 ▸ Tre.new _ 0 0 0
          have HT4x4 : Hid (Tre x4 x2.heap.size 0 0 0) := HT4x3.out.later hb
          have HNE : Hid (x2.heap.size ≠ x3.heap.size) := Nat.ne_of_lt HT4x3.out.1.lt
          clear hb ex4
          refine hK.out _ _ ?_ (fun hHeld => ?_)
          · exact MK.out _ HBx4.out
          clear hK K
          try simp only [Act.put, List.setIfInBounds_toArray, List.set_cons_zero, List.set_cons_succ]
          refine wpAnyH_ready (rs := [6]) (by kernel_rfl) (by simp) ?_
          refine AllReadyH.cons (o := { dst := none, op := Op.store 50 (Operand.tmp 5) (Operand.tmp 9), type := 0, pos := _, after := _, guard := none }) rfl (fun K hK => ?_) AllReadyH.nil
          obtain ⟨⟨z0, z1, z2⟩, y0, y1, y2⟩ := HT4x4.out.tri
          go_simp
          obtain ⟨x5, ex5⟩ : ∃ x, ((x4.setCell ⟨x2.heap.size, 0, none⟩ (.int .i64 a)).setCell ⟨x2.heap.size, 1, none⟩ (.int .i64 b)).setCell ⟨x2.heap.size, 2, none⟩ (.int .i64 c) = x := ⟨_, rfl⟩
          rw [ex5]
          have HT4x5 : Hid (Tre x5 x2.heap.size a b c) := ex5 ▸ HT4x4.out.put a b c
          have HT5x5 : Hid (Tre x5 x3.heap.size 0 0 0) := ex5 ▸ HT5x4.out.far a b c HNE.out
          have HBx5 : Hid (Below W.heap.size W x5) := ex5 ▸ below_put3 HBx4.out (LOW4.out) _ _ _
          clear z0 z1 z2 y0 y1 y2 ex5
          refine hK.out _ _ ?_ (fun hHeld => ?_)
          · exact MK.out _ HBx5.out
          clear hK K
          try simp only [Act.put, List.setIfInBounds_toArray, List.set_cons_zero, List.set_cons_succ]
          refine wpAnyH_ready (rs := [7]) (by kernel_rfl) (by simp) ?_
          refine AllReadyH.cons (o := { dst := none, op := Op.store 50 (Operand.tmp 6) (Operand.tmp 11), type := 0, pos := _, after := _, guard := none }) rfl (fun K hK => ?_) AllReadyH.nil
          obtain ⟨⟨z0, z1, z2⟩, y0, y1, y2⟩ := HT5x5.out.tri
          go_simp
          obtain ⟨x6, ex6⟩ : ∃ x, ((x5.setCell ⟨x3.heap.size, 0, none⟩ (.int .i64 d)).setCell ⟨x3.heap.size, 1, none⟩ (.int .i64 e)).setCell ⟨x3.heap.size, 2, none⟩ (.int .i64 f) = x := ⟨_, rfl⟩
          rw [ex6]
          have HT5x6 : Hid (Tre x6 x3.heap.size d e f) := ex6 ▸ HT5x5.out.put d e f
          have HT4x6 : Hid (Tre x6 x2.heap.size a b c) := ex6 ▸ HT4x5.out.far d e f (Ne.symm HNE.out)
          have HBx6 : Hid (Below W.heap.size W x6) := ex6 ▸ below_put3 HBx5.out (LOW5.out) _ _ _
          clear z0 z1 z2 y0 y1 y2 ex6
          refine hK.out _ _ ?_ (fun hHeld => ?_)
          · exact MK.out _ HBx6.out
          clear hK K
          try simp only [Act.put, List.setIfInBounds_toArray, List.set_cons_zero, List.set_cons_succ]
          refine wpAnyH_done (by kernel_rfl) ?_ _
          go_wp2_with fail
          go_meet
          case rel => exact ⟨_, _, rfl, rfl, HT4x6.out.1, HT5x6.out.1, HW.out.trans (HBx6.out.mono HW.out.size)⟩
        · go_simp
          obtain ⟨x7, ex7⟩ : ∃ x, x2.alloc (.cells #[.int .i64 0, .int .i64 0, .int .i64 0] 50) = x := ⟨_, rfl⟩
          rw [ex7]
          have hb : Below x2.heap.size x2 x7 := ex7 ▸ (Below.refl _ _).alloc (Nat.le_refl _) _
          have HBx7 : Hid (Below W.heap.size W x7) := HBx2.out.trans (hb.mono HBx2.out.size)
          have LOW5 : Hid (W.heap.size ≤ x2.heap.size) := HBx2.out.size
          have HT5x7 : Hid (Tre x7 x2.heap.size 0 0 0) := ex7 ▸ Tre.new _ 0 0 0
          clear hb ex7
          refine hK.out _ _ ?_ (fun hHeld => ?_)
          · exact MK.out _ HBx7.out
          clear hK K
          try simp only [Act.put, List.setIfInBounds_toArray, List.set_cons_zero, List.set_cons_succ]
          refine wpAnyH_ready (rs := [4]) (by kernel_rfl) (by simp) ?_
          refine AllReadyH.cons (o := { dst := some 5, op := Op.alloc 50, type := 0, pos := _, after := _, guard := none }) rfl (fun K hK => ?_) AllReadyH.nil
          go_simp
          obtain ⟨x8, ex8⟩ : ∃ x, x7.alloc (.cells #[.int .i64 0, .int .i64 0, .int .i64 0] 50) = x := ⟨_, rfl⟩
          rw [ex8]
          have hb : Below x7.heap.size x7 x8 := ex8 ▸ (Below.refl _ _).alloc (Nat.le_refl _) _
          have HBx8 : Hid (Below W.heap.size W x8) := HBx7.out.trans (hb.mono HBx7.out.size)
          have LOW4 : Hid (W.heap.size ≤ x7.heap.size) := HBx7.out.size
          have HT4x8 : Hid (Tre x8 x7.heap.size 0 0 0) := ex8 ▸ Tre.new _ 0 0 0
          have HT5x8 : Hid (Tre x8 x2.heap.size 0 0 0) := HT5x7.out.later hb
          have HNE : Hid (x2.heap.size ≠ x7.heap.size) := Nat.ne_of_lt HT5x7.out.1.lt
          clear hb ex8
          refine hK.out _ _ ?_ (fun hHeld => ?_)
          · exact MK.out _ HBx8.out
          clear hK K
          try simp only [Act.put, List.setIfInBounds_toArray, List.set_cons_zero, List.set_cons_succ]
          refine wpAnyH_ready (rs := [6]) (by kernel_rfl) (by simp) ?_
          refine AllReadyH.cons (o := { dst := none, op := Op.store 50 (Operand.tmp 5) (Operand.tmp 9), type := 0, pos := _, after := _, guard := none }) rfl (fun K hK => ?_) AllReadyH.nil
          obtain ⟨⟨z0, z1, z2⟩, y0, y1, y2⟩ := HT4x8.out.tri
          go_simp
          obtain ⟨x9, ex9⟩ : ∃ x, ((x8.setCell ⟨x7.heap.size, 0, none⟩ (.int .i64 a)).setCell ⟨x7.heap.size, 1, none⟩ (.int .i64 b)).setCell ⟨x7.heap.size, 2, none⟩ (.int .i64 c) = x := ⟨_, rfl⟩
          rw [ex9]
          have HT4x9 : Hid (Tre x9 x7.heap.size a b c) := ex9 ▸ HT4x8.out.put a b c
          have HT5x9 : Hid (Tre x9 x2.heap.size 0 0 0) := ex9 ▸ HT5x8.out.far a b c (Ne.symm HNE.out)
          have HBx9 : Hid (Below W.heap.size W x9) := ex9 ▸ below_put3 HBx8.out (LOW4.out) _ _ _
          clear z0 z1 z2 y0 y1 y2 ex9
          refine hK.out _ _ ?_ (fun hHeld => ?_)
          · exact MK.out _ HBx9.out
          clear hK K
          try simp only [Act.put, List.setIfInBounds_toArray, List.set_cons_zero, List.set_cons_succ]
          refine wpAnyH_ready (rs := [7]) (by kernel_rfl) (by simp) ?_
          refine AllReadyH.cons (o := { dst := none, op := Op.store 50 (Operand.tmp 6) (Operand.tmp 11), type := 0, pos := _, after := _, guard := none }) rfl (fun K hK => ?_) AllReadyH.nil
          obtain ⟨⟨z0, z1, z2⟩, y0, y1, y2⟩ := HT5x9.out.tri
          go_simp
          obtain ⟨x10, ex10⟩ : ∃ x, ((x9.setCell ⟨x2.heap.size, 0, none⟩ (.int .i64 d)).setCell ⟨x2.heap.size, 1, none⟩ (.int .i64 e)).setCell ⟨x2.heap.size, 2, none⟩ (.int .i64 f) = x := ⟨_, rfl⟩
          rw [ex10]
          have HT5x10 : Hid (Tre x10 x2.heap.size d e f) := ex10 ▸ HT5x9.out.put d e f
          have HT4x10 : Hid (Tre x10 x7.heap.size a b c) := ex10 ▸ HT4x9.out.far d e f HNE.out
          have HBx10 : Hid (Below W.heap.size W x10) := ex10 ▸ below_put3 HBx9.out (LOW5.out) _ _ _
          clear z0 z1 z2 y0 y1 y2 ex10
          refine hK.out _ _ ?_ (fun hHeld => ?_)
          · exact MK.out _ HBx10.out
          clear hK K
          try simp only [Act.put, List.setIfInBounds_toArray, List.set_cons_zero, List.set_cons_succ]
          refine wpAnyH_done (by kernel_rfl) ?_ _
          go_wp2_with fail
          go_meet
          case rel => exact ⟨_, _, rfl, rfl, HT4x10.out.1, HT5x10.out.1, HW.out.trans (HBx10.out.mono HW.out.size)⟩
      · go_simp
        obtain ⟨x11, ex11⟩ : ∃ x, x1.alloc (.cells #[.int .i64 0, .int .i64 0, .int .i64 0] 50) = x := ⟨_, rfl⟩
        rw [ex11]
        have hb : Below x1.heap.size x1 x11 := ex11 ▸ (Below.refl _ _).alloc (Nat.le_refl _) _
        have HBx11 : Hid (Below W.heap.size W x11) := HBx1.out.trans (hb.mono HBx1.out.size)
        have LOW4 : Hid (W.heap.size ≤ x1.heap.size) := HBx1.out.size
        have HT4x11 : Hid (Tre x11 x1.heap.size 0 0 0) := ex11 ▸ Tre.new _ 0 0 0
        clear hb ex11
        refine hK.out _ _ ?_ (fun hHeld => ?_)
        · exact MK.out _ HBx11.out
        clear hK K
        try simp only [Act.put, List.setIfInBounds_toArray, List.set_cons_zero, List.set_cons_succ]
        refine wpAnyH_ready (rs := [3, 5]) (by kernel_rfl) (by simp) ?_
        refine AllReadyH.cons (o := { dst := some 11, op := Op.call { callee := Callee.value (Operand.func 26), args := #[Operand.tmp 10], argTypes := #[24] }, type := 50, pos := _, after := _, guard := none }) rfl (fun K hK => ?_) (AllReadyH.cons (o := { dst := some 6, op := Op.alloc 50, type := 0, pos := _, after := _, guard := none }) rfl (fun K hK => ?_) AllReadyH.nil)
        · go_simp
          refine (marks_any _ _ _ _).mono ?_
          rintro r x12 ⟨rfl, hb⟩
          have HBx12 : Hid (Below W.heap.size W x12) := HBx11.out.trans (hb.mono HBx11.out.size)
          have HT4x12 : Hid (Tre x12 x1.heap.size 0 0 0) := HT4x11.out.later hb
          clear hb
          go_wp2_with fail
          refine hK.out _ _ ?_ (fun hHeld => ?_)
          · exact MK.out _ HBx12.out
          clear hK K
          try simp only [Act.put, List.setIfInBounds_toArray, List.set_cons_zero, List.set_cons_succ]
          refine wpAnyH_ready (rs := [5]) (by kernel_rfl) (by simp) ?_
          refine AllReadyH.cons (o := { dst := some 6, op := Op.alloc 50, type := 0, pos := _, after := _, guard := none }) rfl (fun K hK => ?_) AllReadyH.nil
          go_simp
          obtain ⟨x13, ex13⟩ : ∃ x, x12.alloc (.cells #[.int .i64 0, .int .i64 0, .int .i64 0] 50) = x := ⟨_, rfl⟩
          rw [ex13]
          have hb : Below x12.heap.size x12 x13 := ex13 ▸ (Below.refl _ _).alloc (Nat.le_refl _) _
          have HBx13 : Hid (Below W.heap.size W x13) := HBx12.out.trans (hb.mono HBx12.out.size)
          have LOW5 : Hid (W.heap.size ≤ x12.heap.size) := HBx12.out.size
          have HT5x13 : Hid (Tre x13 x12.heap.size 0 0 0) := ex13 ▸ Tre.new _ 0 0 0
          have HT4x13 : Hid (Tre x13 x1.heap.size 0 0 0) := HT4x12.out.later hb
          have HNE : Hid (x1.heap.size ≠ x12.heap.size) := Nat.ne_of_lt HT4x12.out.1.lt
          clear hb ex13
          refine hK.out _ _ ?_ (fun hHeld => ?_)
          · exact MK.out _ HBx13.out
          clear hK K
          try simp only [Act.put, List.setIfInBounds_toArray, List.set_cons_zero, List.set_cons_succ]
          refine wpAnyH_ready (rs := [6]) (by kernel_rfl) (by simp) ?_
          refine AllReadyH.cons (o := { dst := none, op := Op.store 50 (Operand.tmp 5) (Operand.tmp 9), type := 0, pos := _, after := _, guard := none }) rfl (fun K hK => ?_) AllReadyH.nil
          obtain ⟨⟨z0, z1, z2⟩, y0, y1, y2⟩ := HT4x13.out.tri
          go_simp
          obtain ⟨x14, ex14⟩ : ∃ x, ((x13.setCell ⟨x1.heap.size, 0, none⟩ (.int .i64 a)).setCell ⟨x1.heap.size, 1, none⟩ (.int .i64 b)).setCell ⟨x1.heap.size, 2, none⟩ (.int .i64 c) = x := ⟨_, rfl⟩
          rw [ex14]
          have HT4x14 : Hid (Tre x14 x1.heap.size a b c) := ex14 ▸ HT4x13.out.put a b c
          have HT5x14 : Hid (Tre x14 x12.heap.size 0 0 0) := ex14 ▸ HT5x13.out.far a b c HNE.out
          have HBx14 : Hid (Below W.heap.size W x14) := ex14 ▸ below_put3 HBx13.out (LOW4.out) _ _ _
          clear z0 z1 z2 y0 y1 y2 ex14
          refine hK.out _ _ ?_ (fun hHeld => ?_)
          · exact MK.out _ HBx14.out
          clear hK K
          try simp only [Act.put, List.setIfInBounds_toArray, List.set_cons_zero, List.set_cons_succ]
          refine wpAnyH_ready (rs := [7]) (by kernel_rfl) (by simp) ?_
          refine AllReadyH.cons (o := { dst := none, op := Op.store 50 (Operand.tmp 6) (Operand.tmp 11), type := 0, pos := _, after := _, guard := none }) rfl (fun K hK => ?_) AllReadyH.nil
          obtain ⟨⟨z0, z1, z2⟩, y0, y1, y2⟩ := HT5x14.out.tri
          go_simp
          obtain ⟨x15, ex15⟩ : ∃ x, ((x14.setCell ⟨x12.heap.size, 0, none⟩ (.int .i64 d)).setCell ⟨x12.heap.size, 1, none⟩ (.int .i64 e)).setCell ⟨x12.heap.size, 2, none⟩ (.int .i64 f) = x := ⟨_, rfl⟩
          rw [ex15]
          have HT5x15 : Hid (Tre x15 x12.heap.size d e f) := ex15 ▸ HT5x14.out.put d e f
          have HT4x15 : Hid (Tre x15 x1.heap.size a b c) := ex15 ▸ HT4x14.out.far d e f (Ne.symm HNE.out)
          have HBx15 : Hid (Below W.heap.size W x15) := ex15 ▸ below_put3 HBx14.out (LOW5.out) _ _ _
          clear z0 z1 z2 y0 y1 y2 ex15
          refine hK.out _ _ ?_ (fun hHeld => ?_)
          · exact MK.out _ HBx15.out
          clear hK K
          try simp only [Act.put, List.setIfInBounds_toArray, List.set_cons_zero, List.set_cons_succ]
          refine wpAnyH_done (by kernel_rfl) ?_ _
          go_wp2_with fail
          go_meet
          case rel => exact ⟨_, _, rfl, rfl, HT4x15.out.1, HT5x15.out.1, HW.out.trans (HBx15.out.mono HW.out.size)⟩
        · go_simp
          obtain ⟨x16, ex16⟩ : ∃ x, x11.alloc (.cells #[.int .i64 0, .int .i64 0, .int .i64 0] 50) = x := ⟨_, rfl⟩
          rw [ex16]
          have hb : Below x11.heap.size x11 x16 := ex16 ▸ (Below.refl _ _).alloc (Nat.le_refl _) _
          have HBx16 : Hid (Below W.heap.size W x16) := HBx11.out.trans (hb.mono HBx11.out.size)
          have LOW5 : Hid (W.heap.size ≤ x11.heap.size) := HBx11.out.size
          have HT5x16 : Hid (Tre x16 x11.heap.size 0 0 0) := ex16 ▸ Tre.new _ 0 0 0
          have HT4x16 : Hid (Tre x16 x1.heap.size 0 0 0) := HT4x11.out.later hb
          have HNE : Hid (x1.heap.size ≠ x11.heap.size) := Nat.ne_of_lt HT4x11.out.1.lt
          clear hb ex16
          refine hK.out _ _ ?_ (fun hHeld => ?_)
          · exact MK.out _ HBx16.out
          clear hK K
          try simp only [Act.put, List.setIfInBounds_toArray, List.set_cons_zero, List.set_cons_succ]
          refine wpAnyH_ready (rs := [3]) (by kernel_rfl) (by simp) ?_
          refine AllReadyH.cons (o := { dst := some 11, op := Op.call { callee := Callee.value (Operand.func 26), args := #[Operand.tmp 10], argTypes := #[24] }, type := 50, pos := _, after := _, guard := none }) rfl (fun K hK => ?_) AllReadyH.nil
          go_simp
          refine (marks_any _ _ _ _).mono ?_
          rintro r x17 ⟨rfl, hb⟩
          have HBx17 : Hid (Below W.heap.size W x17) := HBx16.out.trans (hb.mono HBx16.out.size)
          have HT4x17 : Hid (Tre x17 x1.heap.size 0 0 0) := HT4x16.out.later hb
          have HT5x17 : Hid (Tre x17 x11.heap.size 0 0 0) := HT5x16.out.later hb
          clear hb
          go_wp2_with fail
          refine hK.out _ _ ?_ (fun hHeld => ?_)
          · exact MK.out _ HBx17.out
          clear hK K
          try simp only [Act.put, List.setIfInBounds_toArray, List.set_cons_zero, List.set_cons_succ]
          refine wpAnyH_ready (rs := [6]) (by kernel_rfl) (by simp) ?_
          refine AllReadyH.cons (o := { dst := none, op := Op.store 50 (Operand.tmp 5) (Operand.tmp 9), type := 0, pos := _, after := _, guard := none }) rfl (fun K hK => ?_) AllReadyH.nil
          obtain ⟨⟨z0, z1, z2⟩, y0, y1, y2⟩ := HT4x17.out.tri
          go_simp
          obtain ⟨x18, ex18⟩ : ∃ x, ((x17.setCell ⟨x1.heap.size, 0, none⟩ (.int .i64 a)).setCell ⟨x1.heap.size, 1, none⟩ (.int .i64 b)).setCell ⟨x1.heap.size, 2, none⟩ (.int .i64 c) = x := ⟨_, rfl⟩
          rw [ex18]
          have HT4x18 : Hid (Tre x18 x1.heap.size a b c) := ex18 ▸ HT4x17.out.put a b c
          have HT5x18 : Hid (Tre x18 x11.heap.size 0 0 0) := ex18 ▸ HT5x17.out.far a b c HNE.out
          have HBx18 : Hid (Below W.heap.size W x18) := ex18 ▸ below_put3 HBx17.out (LOW4.out) _ _ _
          clear z0 z1 z2 y0 y1 y2 ex18
          refine hK.out _ _ ?_ (fun hHeld => ?_)
          · exact MK.out _ HBx18.out
          clear hK K
          try simp only [Act.put, List.setIfInBounds_toArray, List.set_cons_zero, List.set_cons_succ]
          refine wpAnyH_ready (rs := [7]) (by kernel_rfl) (by simp) ?_
          refine AllReadyH.cons (o := { dst := none, op := Op.store 50 (Operand.tmp 6) (Operand.tmp 11), type := 0, pos := _, after := _, guard := none }) rfl (fun K hK => ?_) AllReadyH.nil
          obtain ⟨⟨z0, z1, z2⟩, y0, y1, y2⟩ := HT5x18.out.tri
          go_simp
          obtain ⟨x19, ex19⟩ : ∃ x, ((x18.setCell ⟨x11.heap.size, 0, none⟩ (.int .i64 d)).setCell ⟨x11.heap.size, 1, none⟩ (.int .i64 e)).setCell ⟨x11.heap.size, 2, none⟩ (.int .i64 f) = x := ⟨_, rfl⟩
          rw [ex19]
          have HT5x19 : Hid (Tre x19 x11.heap.size d e f) := ex19 ▸ HT5x18.out.put d e f
          have HT4x19 : Hid (Tre x19 x1.heap.size a b c) := ex19 ▸ HT4x18.out.far d e f (Ne.symm HNE.out)
          have HBx19 : Hid (Below W.heap.size W x19) := ex19 ▸ below_put3 HBx18.out (LOW5.out) _ _ _
          clear z0 z1 z2 y0 y1 y2 ex19
          refine hK.out _ _ ?_ (fun hHeld => ?_)
          · exact MK.out _ HBx19.out
          clear hK K
          try simp only [Act.put, List.setIfInBounds_toArray, List.set_cons_zero, List.set_cons_succ]
          refine wpAnyH_done (by kernel_rfl) ?_ _
          go_wp2_with fail
          go_meet
          case rel => exact ⟨_, _, rfl, rfl, HT4x19.out.1, HT5x19.out.1, HW.out.trans (HBx19.out.mono HW.out.size)⟩
      · go_simp
        obtain ⟨x20, ex20⟩ : ∃ x, x1.alloc (.cells #[.int .i64 0, .int .i64 0, .int .i64 0] 50) = x := ⟨_, rfl⟩
        rw [ex20]
        have hb : Below x1.heap.size x1 x20 := ex20 ▸ (Below.refl _ _).alloc (Nat.le_refl _) _
        have HBx20 : Hid (Below W.heap.size W x20) := HBx1.out.trans (hb.mono HBx1.out.size)
        have LOW5 : Hid (W.heap.size ≤ x1.heap.size) := HBx1.out.size
        have HT5x20 : Hid (Tre x20 x1.heap.size 0 0 0) := ex20 ▸ Tre.new _ 0 0 0
        clear hb ex20
        refine hK.out _ _ ?_ (fun hHeld => ?_)
        · exact MK.out _ HBx20.out
        clear hK K
        try simp only [Act.put, List.setIfInBounds_toArray, List.set_cons_zero, List.set_cons_succ]
        refine wpAnyH_ready (rs := [3, 4]) (by kernel_rfl) (by simp) ?_
        refine AllReadyH.cons (o := { dst := some 11, op := Op.call { callee := Callee.value (Operand.func 26), args := #[Operand.tmp 10], argTypes := #[24] }, type := 50, pos := _, after := _, guard := none }) rfl (fun K hK => ?_) (AllReadyH.cons (o := { dst := some 5, op := Op.alloc 50, type := 0, pos := _, after := _, guard := none }) rfl (fun K hK => ?_) AllReadyH.nil)
        · go_simp
          refine (marks_any _ _ _ _).mono ?_
          rintro r x21 ⟨rfl, hb⟩
          have HBx21 : Hid (Below W.heap.size W x21) := HBx20.out.trans (hb.mono HBx20.out.size)
          have HT5x21 : Hid (Tre x21 x1.heap.size 0 0 0) := HT5x20.out.later hb
          clear hb
          go_wp2_with fail
          refine hK.out _ _ ?_ (fun hHeld => ?_)
          · exact MK.out _ HBx21.out
          clear hK K
          try simp only [Act.put, List.setIfInBounds_toArray, List.set_cons_zero, List.set_cons_succ]
          refine wpAnyH_ready (rs := [4]) (by kernel_rfl) (by simp) ?_
          refine AllReadyH.cons (o := { dst := some 5, op := Op.alloc 50, type := 0, pos := _, after := _, guard := none }) rfl (fun K hK => ?_) AllReadyH.nil
          go_simp
          obtain ⟨x22, ex22⟩ : ∃ x, x21.alloc (.cells #[.int .i64 0, .int .i64 0, .int .i64 0] 50) = x := ⟨_, rfl⟩
          rw [ex22]
          have hb : Below x21.heap.size x21 x22 := ex22 ▸ (Below.refl _ _).alloc (Nat.le_refl _) _
          have HBx22 : Hid (Below W.heap.size W x22) := HBx21.out.trans (hb.mono HBx21.out.size)
          have LOW4 : Hid (W.heap.size ≤ x21.heap.size) := HBx21.out.size
          have HT4x22 : Hid (Tre x22 x21.heap.size 0 0 0) := ex22 ▸ Tre.new _ 0 0 0
          have HT5x22 : Hid (Tre x22 x1.heap.size 0 0 0) := HT5x21.out.later hb
          have HNE : Hid (x1.heap.size ≠ x21.heap.size) := Nat.ne_of_lt HT5x21.out.1.lt
          clear hb ex22
          refine hK.out _ _ ?_ (fun hHeld => ?_)
          · exact MK.out _ HBx22.out
          clear hK K
          try simp only [Act.put, List.setIfInBounds_toArray, List.set_cons_zero, List.set_cons_succ]
          refine wpAnyH_ready (rs := [6]) (by kernel_rfl) (by simp) ?_
          refine AllReadyH.cons (o := { dst := none, op := Op.store 50 (Operand.tmp 5) (Operand.tmp 9), type := 0, pos := _, after := _, guard := none }) rfl (fun K hK => ?_) AllReadyH.nil
          obtain ⟨⟨z0, z1, z2⟩, y0, y1, y2⟩ := HT4x22.out.tri
          go_simp
          obtain ⟨x23, ex23⟩ : ∃ x, ((x22.setCell ⟨x21.heap.size, 0, none⟩ (.int .i64 a)).setCell ⟨x21.heap.size, 1, none⟩ (.int .i64 b)).setCell ⟨x21.heap.size, 2, none⟩ (.int .i64 c) = x := ⟨_, rfl⟩
          rw [ex23]
          have HT4x23 : Hid (Tre x23 x21.heap.size a b c) := ex23 ▸ HT4x22.out.put a b c
          have HT5x23 : Hid (Tre x23 x1.heap.size 0 0 0) := ex23 ▸ HT5x22.out.far a b c (Ne.symm HNE.out)
          have HBx23 : Hid (Below W.heap.size W x23) := ex23 ▸ below_put3 HBx22.out (LOW4.out) _ _ _
          clear z0 z1 z2 y0 y1 y2 ex23
          refine hK.out _ _ ?_ (fun hHeld => ?_)
          · exact MK.out _ HBx23.out
          clear hK K
          try simp only [Act.put, List.setIfInBounds_toArray, List.set_cons_zero, List.set_cons_succ]
          refine wpAnyH_ready (rs := [7]) (by kernel_rfl) (by simp) ?_
          refine AllReadyH.cons (o := { dst := none, op := Op.store 50 (Operand.tmp 6) (Operand.tmp 11), type := 0, pos := _, after := _, guard := none }) rfl (fun K hK => ?_) AllReadyH.nil
          obtain ⟨⟨z0, z1, z2⟩, y0, y1, y2⟩ := HT5x23.out.tri
          go_simp
          obtain ⟨x24, ex24⟩ : ∃ x, ((x23.setCell ⟨x1.heap.size, 0, none⟩ (.int .i64 d)).setCell ⟨x1.heap.size, 1, none⟩ (.int .i64 e)).setCell ⟨x1.heap.size, 2, none⟩ (.int .i64 f) = x := ⟨_, rfl⟩
          rw [ex24]
          have HT5x24 : Hid (Tre x24 x1.heap.size d e f) := ex24 ▸ HT5x23.out.put d e f
          have HT4x24 : Hid (Tre x24 x21.heap.size a b c) := ex24 ▸ HT4x23.out.far d e f HNE.out
          have HBx24 : Hid (Below W.heap.size W x24) := ex24 ▸ below_put3 HBx23.out (LOW5.out) _ _ _
          clear z0 z1 z2 y0 y1 y2 ex24
          refine hK.out _ _ ?_ (fun hHeld => ?_)
          · exact MK.out _ HBx24.out
          clear hK K
          try simp only [Act.put, List.setIfInBounds_toArray, List.set_cons_zero, List.set_cons_succ]
          refine wpAnyH_done (by kernel_rfl) ?_ _
          go_wp2_with fail
          go_meet
          case rel => exact ⟨_, _, rfl, rfl, HT4x24.out.1, HT5x24.out.1, HW.out.trans (HBx24.out.mono HW.out.size)⟩
        · go_simp
          obtain ⟨x25, ex25⟩ : ∃ x, x20.alloc (.cells #[.int .i64 0, .int .i64 0, .int .i64 0] 50) = x := ⟨_, rfl⟩
          rw [ex25]
          have hb : Below x20.heap.size x20 x25 := ex25 ▸ (Below.refl _ _).alloc (Nat.le_refl _) _
          have HBx25 : Hid (Below W.heap.size W x25) := HBx20.out.trans (hb.mono HBx20.out.size)
          have LOW4 : Hid (W.heap.size ≤ x20.heap.size) := HBx20.out.size
          have HT4x25 : Hid (Tre x25 x20.heap.size 0 0 0) := ex25 ▸ Tre.new _ 0 0 0
          have HT5x25 : Hid (Tre x25 x1.heap.size 0 0 0) := HT5x20.out.later hb
          have HNE : Hid (x1.heap.size ≠ x20.heap.size) := Nat.ne_of_lt HT5x20.out.1.lt
          clear hb ex25
          refine hK.out _ _ ?_ (fun hHeld => ?_)
          · exact MK.out _ HBx25.out
          clear hK K
          try simp only [Act.put, List.setIfInBounds_toArray, List.set_cons_zero, List.set_cons_succ]
          refine wpAnyH_ready (rs := [3]) (by kernel_rfl) (by simp) ?_
          refine AllReadyH.cons (o := { dst := some 11, op := Op.call { callee := Callee.value (Operand.func 26), args := #[Operand.tmp 10], argTypes := #[24] }, type := 50, pos := _, after := _, guard := none }) rfl (fun K hK => ?_) AllReadyH.nil
          go_simp
          refine (marks_any _ _ _ _).mono ?_
          rintro r x26 ⟨rfl, hb⟩
          have HBx26 : Hid (Below W.heap.size W x26) := HBx25.out.trans (hb.mono HBx25.out.size)
          have HT5x26 : Hid (Tre x26 x1.heap.size 0 0 0) := HT5x25.out.later hb
          have HT4x26 : Hid (Tre x26 x20.heap.size 0 0 0) := HT4x25.out.later hb
          clear hb
          go_wp2_with fail
          refine hK.out _ _ ?_ (fun hHeld => ?_)
          · exact MK.out _ HBx26.out
          clear hK K
          try simp only [Act.put, List.setIfInBounds_toArray, List.set_cons_zero, List.set_cons_succ]
          refine wpAnyH_ready (rs := [6]) (by kernel_rfl) (by simp) ?_
          refine AllReadyH.cons (o := { dst := none, op := Op.store 50 (Operand.tmp 5) (Operand.tmp 9), type := 0, pos := _, after := _, guard := none }) rfl (fun K hK => ?_) AllReadyH.nil
          obtain ⟨⟨z0, z1, z2⟩, y0, y1, y2⟩ := HT4x26.out.tri
          go_simp
          obtain ⟨x27, ex27⟩ : ∃ x, ((x26.setCell ⟨x20.heap.size, 0, none⟩ (.int .i64 a)).setCell ⟨x20.heap.size, 1, none⟩ (.int .i64 b)).setCell ⟨x20.heap.size, 2, none⟩ (.int .i64 c) = x := ⟨_, rfl⟩
          rw [ex27]
          have HT4x27 : Hid (Tre x27 x20.heap.size a b c) := ex27 ▸ HT4x26.out.put a b c
          have HT5x27 : Hid (Tre x27 x1.heap.size 0 0 0) := ex27 ▸ HT5x26.out.far a b c (Ne.symm HNE.out)
          have HBx27 : Hid (Below W.heap.size W x27) := ex27 ▸ below_put3 HBx26.out (LOW4.out) _ _ _
          clear z0 z1 z2 y0 y1 y2 ex27
          refine hK.out _ _ ?_ (fun hHeld => ?_)
          · exact MK.out _ HBx27.out
          clear hK K
          try simp only [Act.put, List.setIfInBounds_toArray, List.set_cons_zero, List.set_cons_succ]
          refine wpAnyH_ready (rs := [7]) (by kernel_rfl) (by simp) ?_
          refine AllReadyH.cons (o := { dst := none, op := Op.store 50 (Operand.tmp 6) (Operand.tmp 11), type := 0, pos := _, after := _, guard := none }) rfl (fun K hK => ?_) AllReadyH.nil
          obtain ⟨⟨z0, z1, z2⟩, y0, y1, y2⟩ := HT5x27.out.tri
          go_simp
          obtain ⟨x28, ex28⟩ : ∃ x, ((x27.setCell ⟨x1.heap.size, 0, none⟩ (.int .i64 d)).setCell ⟨x1.heap.size, 1, none⟩ (.int .i64 e)).setCell ⟨x1.heap.size, 2, none⟩ (.int .i64 f) = x := ⟨_, rfl⟩
          rw [ex28]
          have HT5x28 : Hid (Tre x28 x1.heap.size d e f) := ex28 ▸ HT5x27.out.put d e f
          have HT4x28 : Hid (Tre x28 x20.heap.size a b c) := ex28 ▸ HT4x27.out.far d e f HNE.out
          have HBx28 : Hid (Below W.heap.size W x28) := ex28 ▸ below_put3 HBx27.out (LOW5.out) _ _ _
          clear z0 z1 z2 y0 y1 y2 ex28
          refine hK.out _ _ ?_ (fun hHeld => ?_)
          · exact MK.out _ HBx28.out
          clear hK K
          try simp only [Act.put, List.setIfInBounds_toArray, List.set_cons_zero, List.set_cons_succ]
          refine wpAnyH_done (by kernel_rfl) ?_ _
          go_wp2_with fail
          go_meet
          case rel => exact ⟨_, _, rfl, rfl, HT4x28.out.1, HT5x28.out.1, HW.out.trans (HBx28.out.mono HW.out.size)⟩
    · go_simp
      obtain ⟨x29, ex29⟩ : ∃ x, x0.alloc (.cells #[.int .i64 0, .int .i64 0, .int .i64 0] 50) = x := ⟨_, rfl⟩
      rw [ex29]
      have hb : Below x0.heap.size x0 x29 := ex29 ▸ (Below.refl _ _).alloc (Nat.le_refl _) _
      have HBx29 : Hid (Below W.heap.size W x29) := HBx0.out.trans (hb.mono HBx0.out.size)
      have LOW4 : Hid (W.heap.size ≤ x0.heap.size) := HBx0.out.size
      have HT4x29 : Hid (Tre x29 x0.heap.size 0 0 0) := ex29 ▸ Tre.new _ 0 0 0
      clear hb ex29
      refine hK.out _ _ ?_ (fun hHeld => ?_)
      · exact MK.out _ HBx29.out
      clear hK K
      try simp only [Act.put, List.setIfInBounds_toArray, List.set_cons_zero, List.set_cons_succ]
      refine wpAnyH_ready (rs := [1, 5]) (by kernel_rfl) (by simp) ?_
      refine AllReadyH.cons (o := { dst := some 9, op := Op.call { callee := Callee.value (Operand.func 26), args := #[Operand.tmp 8], argTypes := #[24] }, type := 50, pos := _, after := _, guard := none }) rfl (fun K hK => ?_) (AllReadyH.cons (o := { dst := some 6, op := Op.alloc 50, type := 0, pos := _, after := _, guard := none }) rfl (fun K hK => ?_) AllReadyH.nil)
      · go_simp
        refine (marks_any _ _ _ _).mono ?_
        rintro r x30 ⟨rfl, hb⟩
        have HBx30 : Hid (Below W.heap.size W x30) := HBx29.out.trans (hb.mono HBx29.out.size)
        have HT4x30 : Hid (Tre x30 x0.heap.size 0 0 0) := HT4x29.out.later hb
        clear hb
        go_wp2_with fail
        refine hK.out _ _ ?_ (fun hHeld => ?_)
        · exact MK.out _ HBx30.out
        clear hK K
        try simp only [Act.put, List.setIfInBounds_toArray, List.set_cons_zero, List.set_cons_succ]
        refine wpAnyH_ready (rs := [3, 5]) (by kernel_rfl) (by simp) ?_
        refine AllReadyH.cons (o := { dst := some 11, op := Op.call { callee := Callee.value (Operand.func 26), args := #[Operand.tmp 10], argTypes := #[24] }, type := 50, pos := _, after := _, guard := none }) rfl (fun K hK => ?_) (AllReadyH.cons (o := { dst := some 6, op := Op.alloc 50, type := 0, pos := _, after := _, guard := none }) rfl (fun K hK => ?_) AllReadyH.nil)
        · go_simp
          refine (marks_any _ _ _ _).mono ?_
          rintro r x31 ⟨rfl, hb⟩
          have HBx31 : Hid (Below W.heap.size W x31) := HBx30.out.trans (hb.mono HBx30.out.size)
          have HT4x31 : Hid (Tre x31 x0.heap.size 0 0 0) := HT4x30.out.later hb
          clear hb
          go_wp2_with fail
          refine hK.out _ _ ?_ (fun hHeld => ?_)
          · exact MK.out _ HBx31.out
          clear hK K
          try simp only [Act.put, List.setIfInBounds_toArray, List.set_cons_zero, List.set_cons_succ]
          refine wpAnyH_ready (rs := [5]) (by kernel_rfl) (by simp) ?_
          refine AllReadyH.cons (o := { dst := some 6, op := Op.alloc 50, type := 0, pos := _, after := _, guard := none }) rfl (fun K hK => ?_) AllReadyH.nil
          go_simp
          obtain ⟨x32, ex32⟩ : ∃ x, x31.alloc (.cells #[.int .i64 0, .int .i64 0, .int .i64 0] 50) = x := ⟨_, rfl⟩
          rw [ex32]
          have hb : Below x31.heap.size x31 x32 := ex32 ▸ (Below.refl _ _).alloc (Nat.le_refl _) _
          have HBx32 : Hid (Below W.heap.size W x32) := HBx31.out.trans (hb.mono HBx31.out.size)
          have LOW5 : Hid (W.heap.size ≤ x31.heap.size) := HBx31.out.size
          have HT5x32 : Hid (Tre x32 x31.heap.size 0 0 0) := ex32 ▸ Tre.new _ 0 0 0
          have HT4x32 : Hid (Tre x32 x0.heap.size 0 0 0) := HT4x31.out.later hb
          have HNE : Hid (x0.heap.size ≠ x31.heap.size) := Nat.ne_of_lt HT4x31.out.1.lt
          clear hb ex32
          refine hK.out _ _ ?_ (fun hHeld => ?_)
          · exact MK.out _ HBx32.out
          clear hK K
          try simp only [Act.put, List.setIfInBounds_toArray, List.set_cons_zero, List.set_cons_succ]
          refine wpAnyH_ready (rs := [6]) (by kernel_rfl) (by simp) ?_
          refine AllReadyH.cons (o := { dst := none, op := Op.store 50 (Operand.tmp 5) (Operand.tmp 9), type := 0, pos := _, after := _, guard := none }) rfl (fun K hK => ?_) AllReadyH.nil
          obtain ⟨⟨z0, z1, z2⟩, y0, y1, y2⟩ := HT4x32.out.tri
          go_simp
          obtain ⟨x33, ex33⟩ : ∃ x, ((x32.setCell ⟨x0.heap.size, 0, none⟩ (.int .i64 a)).setCell ⟨x0.heap.size, 1, none⟩ (.int .i64 b)).setCell ⟨x0.heap.size, 2, none⟩ (.int .i64 c) = x := ⟨_, rfl⟩
          rw [ex33]
          have HT4x33 : Hid (Tre x33 x0.heap.size a b c) := ex33 ▸ HT4x32.out.put a b c
          have HT5x33 : Hid (Tre x33 x31.heap.size 0 0 0) := ex33 ▸ HT5x32.out.far a b c HNE.out
          have HBx33 : Hid (Below W.heap.size W x33) := ex33 ▸ below_put3 HBx32.out (LOW4.out) _ _ _
          clear z0 z1 z2 y0 y1 y2 ex33
          refine hK.out _ _ ?_ (fun hHeld => ?_)
          · exact MK.out _ HBx33.out
          clear hK K
          try simp only [Act.put, List.setIfInBounds_toArray, List.set_cons_zero, List.set_cons_succ]
          refine wpAnyH_ready (rs := [7]) (by kernel_rfl) (by simp) ?_
          refine AllReadyH.cons (o := { dst := none, op := Op.store 50 (Operand.tmp 6) (Operand.tmp 11), type := 0, pos := _, after := _, guard := none }) rfl (fun K hK => ?_) AllReadyH.nil
          obtain ⟨⟨z0, z1, z2⟩, y0, y1, y2⟩ := HT5x33.out.tri
          go_simp
          obtain ⟨x34, ex34⟩ : ∃ x, ((x33.setCell ⟨x31.heap.size, 0, none⟩ (.int .i64 d)).setCell ⟨x31.heap.size, 1, none⟩ (.int .i64 e)).setCell ⟨x31.heap.size, 2, none⟩ (.int .i64 f) = x := ⟨_, rfl⟩
          rw [ex34]
          have HT5x34 : Hid (Tre x34 x31.heap.size d e f) := ex34 ▸ HT5x33.out.put d e f
          have HT4x34 : Hid (Tre x34 x0.heap.size a b c) := ex34 ▸ HT4x33.out.far d e f (Ne.symm HNE.out)
          have HBx34 : Hid (Below W.heap.size W x34) := ex34 ▸ below_put3 HBx33.out (LOW5.out) _ _ _
          clear z0 z1 z2 y0 y1 y2 ex34
          refine hK.out _ _ ?_ (fun hHeld => ?_)
          · exact MK.out _ HBx34.out
          clear hK K
          try simp only [Act.put, List.setIfInBounds_toArray, List.set_cons_zero, List.set_cons_succ]
          refine wpAnyH_done (by kernel_rfl) ?_ _
          go_wp2_with fail
          go_meet
          case rel => exact ⟨_, _, rfl, rfl, HT4x34.out.1, HT5x34.out.1, HW.out.trans (HBx34.out.mono HW.out.size)⟩
        · go_simp
          obtain ⟨x35, ex35⟩ : ∃ x, x30.alloc (.cells #[.int .i64 0, .int .i64 0, .int .i64 0] 50) = x := ⟨_, rfl⟩
          rw [ex35]
          have hb : Below x30.heap.size x30 x35 := ex35 ▸ (Below.refl _ _).alloc (Nat.le_refl _) _
          have HBx35 : Hid (Below W.heap.size W x35) := HBx30.out.trans (hb.mono HBx30.out.size)
          have LOW5 : Hid (W.heap.size ≤ x30.heap.size) := HBx30.out.size
          have HT5x35 : Hid (Tre x35 x30.heap.size 0 0 0) := ex35 ▸ Tre.new _ 0 0 0
          have HT4x35 : Hid (Tre x35 x0.heap.size 0 0 0) := HT4x30.out.later hb
          have HNE : Hid (x0.heap.size ≠ x30.heap.size) := Nat.ne_of_lt HT4x30.out.1.lt
          clear hb ex35
          refine hK.out _ _ ?_ (fun hHeld => ?_)
          · exact MK.out _ HBx35.out
          clear hK K
          try simp only [Act.put, List.setIfInBounds_toArray, List.set_cons_zero, List.set_cons_succ]
          refine wpAnyH_ready (rs := [3]) (by kernel_rfl) (by simp) ?_
          refine AllReadyH.cons (o := { dst := some 11, op := Op.call { callee := Callee.value (Operand.func 26), args := #[Operand.tmp 10], argTypes := #[24] }, type := 50, pos := _, after := _, guard := none }) rfl (fun K hK => ?_) AllReadyH.nil
          go_simp
          refine (marks_any _ _ _ _).mono ?_
          rintro r x36 ⟨rfl, hb⟩
          have HBx36 : Hid (Below W.heap.size W x36) := HBx35.out.trans (hb.mono HBx35.out.size)
          have HT4x36 : Hid (Tre x36 x0.heap.size 0 0 0) := HT4x35.out.later hb
          have HT5x36 : Hid (Tre x36 x30.heap.size 0 0 0) := HT5x35.out.later hb
          clear hb
          go_wp2_with fail
          refine hK.out _ _ ?_ (fun hHeld => ?_)
          · exact MK.out _ HBx36.out
          clear hK K
          try simp only [Act.put, List.setIfInBounds_toArray, List.set_cons_zero, List.set_cons_succ]
          refine wpAnyH_ready (rs := [6]) (by kernel_rfl) (by simp) ?_
          refine AllReadyH.cons (o := { dst := none, op := Op.store 50 (Operand.tmp 5) (Operand.tmp 9), type := 0, pos := _, after := _, guard := none }) rfl (fun K hK => ?_) AllReadyH.nil
          obtain ⟨⟨z0, z1, z2⟩, y0, y1, y2⟩ := HT4x36.out.tri
          go_simp
          obtain ⟨x37, ex37⟩ : ∃ x, ((x36.setCell ⟨x0.heap.size, 0, none⟩ (.int .i64 a)).setCell ⟨x0.heap.size, 1, none⟩ (.int .i64 b)).setCell ⟨x0.heap.size, 2, none⟩ (.int .i64 c) = x := ⟨_, rfl⟩
          rw [ex37]
          have HT4x37 : Hid (Tre x37 x0.heap.size a b c) := ex37 ▸ HT4x36.out.put a b c
          have HT5x37 : Hid (Tre x37 x30.heap.size 0 0 0) := ex37 ▸ HT5x36.out.far a b c HNE.out
          have HBx37 : Hid (Below W.heap.size W x37) := ex37 ▸ below_put3 HBx36.out (LOW4.out) _ _ _
          clear z0 z1 z2 y0 y1 y2 ex37
          refine hK.out _ _ ?_ (fun hHeld => ?_)
          · exact MK.out _ HBx37.out
          clear hK K
          try simp only [Act.put, List.setIfInBounds_toArray, List.set_cons_zero, List.set_cons_succ]
          refine wpAnyH_ready (rs := [7]) (by kernel_rfl) (by simp) ?_
          refine AllReadyH.cons (o := { dst := none, op := Op.store 50 (Operand.tmp 6) (Operand.tmp 11), type := 0, pos := _, after := _, guard := none }) rfl (fun K hK => ?_) AllReadyH.nil
          obtain ⟨⟨z0, z1, z2⟩, y0, y1, y2⟩ := HT5x37.out.tri
          go_simp
          obtain ⟨x38, ex38⟩ : ∃ x, ((x37.setCell ⟨x30.heap.size, 0, none⟩ (.int .i64 d)).setCell ⟨x30.heap.size, 1, none⟩ (.int .i64 e)).setCell ⟨x30.heap.size, 2, none⟩ (.int .i64 f) = x := ⟨_, rfl⟩
          rw [ex38]
          have HT5x38 : Hid (Tre x38 x30.heap.size d e f) := ex38 ▸ HT5x37.out.put d e f
          have HT4x38 : Hid (Tre x38 x0.heap.size a b c) := ex38 ▸ HT4x37.out.far d e f (Ne.symm HNE.out)
          have HBx38 : Hid (Below W.heap.size W x38) := ex38 ▸ below_put3 HBx37.out (LOW5.out) _ _ _
          clear z0 z1 z2 y0 y1 y2 ex38
          refine hK.out _ _ ?_ (fun hHeld => ?_)
          · exact MK.out _ HBx38.out
          clear hK K
          try simp only [Act.put, List.setIfInBounds_toArray, List.set_cons_zero, List.set_cons_succ]
          refine wpAnyH_done (by kernel_rfl) ?_ _
          go_wp2_with fail
          go_meet
          case rel => exact ⟨_, _, rfl, rfl, HT4x38.out.1, HT5x38.out.1, HW.out.trans (HBx38.out.mono HW.out.size)⟩
      · go_simp
        obtain ⟨x39, ex39⟩ : ∃ x, x29.alloc (.cells #[.int .i64 0, .int .i64 0, .int .i64 0] 50) = x := ⟨_, rfl⟩
        rw [ex39]
        have hb : Below x29.heap.size x29 x39 := ex39 ▸ (Below.refl _ _).alloc (Nat.le_refl _) _
        have HBx39 : Hid (Below W.heap.size W x39) := HBx29.out.trans (hb.mono HBx29.out.size)
        have LOW5 : Hid (W.heap.size ≤ x29.heap.size) := HBx29.out.size
        have HT5x39 : Hid (Tre x39 x29.heap.size 0 0 0) := ex39 ▸ Tre.new _ 0 0 0
        have HT4x39 : Hid (Tre x39 x0.heap.size 0 0 0) := HT4x29.out.later hb
        have HNE : Hid (x0.heap.size ≠ x29.heap.size) := Nat.ne_of_lt HT4x29.out.1.lt
        clear hb ex39
        refine hK.out _ _ ?_ (fun hHeld => ?_)
        · exact MK.out _ HBx39.out
        clear hK K
        try simp only [Act.put, List.setIfInBounds_toArray, List.set_cons_zero, List.set_cons_succ]
        refine wpAnyH_ready (rs := [1]) (by kernel_rfl) (by simp) ?_
        refine AllReadyH.cons (o := { dst := some 9, op := Op.call { callee := Callee.value (Operand.func 26), args := #[Operand.tmp 8], argTypes := #[24] }, type := 50, pos := _, after := _, guard := none }) rfl (fun K hK => ?_) AllReadyH.nil
        go_simp
        refine (marks_any _ _ _ _).mono ?_
        rintro r x40 ⟨rfl, hb⟩
        have HBx40 : Hid (Below W.heap.size W x40) := HBx39.out.trans (hb.mono HBx39.out.size)
        have HT4x40 : Hid (Tre x40 x0.heap.size 0 0 0) := HT4x39.out.later hb
        have HT5x40 : Hid (Tre x40 x29.heap.size 0 0 0) := HT5x39.out.later hb
        clear hb
        go_wp2_with fail
        refine hK.out _ _ ?_ (fun hHeld => ?_)
        · exact MK.out _ HBx40.out
        clear hK K
        try simp only [Act.put, List.setIfInBounds_toArray, List.set_cons_zero, List.set_cons_succ]
        refine wpAnyH_ready (rs := [3]) (by kernel_rfl) (by simp) ?_
        refine AllReadyH.cons (o := { dst := some 11, op := Op.call { callee := Callee.value (Operand.func 26), args := #[Operand.tmp 10], argTypes := #[24] }, type := 50, pos := _, after := _, guard := none }) rfl (fun K hK => ?_) AllReadyH.nil
        go_simp
        refine (marks_any _ _ _ _).mono ?_
        rintro r x41 ⟨rfl, hb⟩
        have HBx41 : Hid (Below W.heap.size W x41) := HBx40.out.trans (hb.mono HBx40.out.size)
        have HT4x41 : Hid (Tre x41 x0.heap.size 0 0 0) := HT4x40.out.later hb
        have HT5x41 : Hid (Tre x41 x29.heap.size 0 0 0) := HT5x40.out.later hb
        clear hb
        go_wp2_with fail
        refine hK.out _ _ ?_ (fun hHeld => ?_)
        · exact MK.out _ HBx41.out
        clear hK K
        try simp only [Act.put, List.setIfInBounds_toArray, List.set_cons_zero, List.set_cons_succ]
        refine wpAnyH_ready (rs := [6]) (by kernel_rfl) (by simp) ?_
        refine AllReadyH.cons (o := { dst := none, op := Op.store 50 (Operand.tmp 5) (Operand.tmp 9), type := 0, pos := _, after := _, guard := none }) rfl (fun K hK => ?_) AllReadyH.nil
        obtain ⟨⟨z0, z1, z2⟩, y0, y1, y2⟩ := HT4x41.out.tri
        go_simp
        obtain ⟨x42, ex42⟩ : ∃ x, ((x41.setCell ⟨x0.heap.size, 0, none⟩ (.int .i64 a)).setCell ⟨x0.heap.size, 1, none⟩ (.int .i64 b)).setCell ⟨x0.heap.size, 2, none⟩ (.int .i64 c) = x := ⟨_, rfl⟩
        rw [ex42]
        have HT4x42 : Hid (Tre x42 x0.heap.size a b c) := ex42 ▸ HT4x41.out.put a b c
        have HT5x42 : Hid (Tre x42 x29.heap.size 0 0 0) := ex42 ▸ HT5x41.out.far a b c HNE.out
        have HBx42 : Hid (Below W.heap.size W x42) := ex42 ▸ below_put3 HBx41.out (LOW4.out) _ _ _
        clear z0 z1 z2 y0 y1 y2 ex42
        refine hK.out _ _ ?_ (fun hHeld => ?_)
        · exact MK.out _ HBx42.out
        clear hK K
        try simp only [Act.put, List.setIfInBounds_toArray, List.set_cons_zero, List.set_cons_succ]
        refine wpAnyH_ready (rs := [7]) (by kernel_rfl) (by simp) ?_
        refine AllReadyH.cons (o := { dst := none, op := Op.store 50 (Operand.tmp 6) (Operand.tmp 11), type := 0, pos := _, after := _, guard := none }) rfl (fun K hK => ?_) AllReadyH.nil
        obtain ⟨⟨z0, z1, z2⟩, y0, y1, y2⟩ := HT5x42.out.tri
        go_simp
        obtain ⟨x43, ex43⟩ : ∃ x, ((x42.setCell ⟨x29.heap.size, 0, none⟩ (.int .i64 d)).setCell ⟨x29.heap.size, 1, none⟩ (.int .i64 e)).setCell ⟨x29.heap.size, 2, none⟩ (.int .i64 f) = x := ⟨_, rfl⟩
        rw [ex43]
        have HT5x43 : Hid (Tre x43 x29.heap.size d e f) := ex43 ▸ HT5x42.out.put d e f
        have HT4x43 : Hid (Tre x43 x0.heap.size a b c) := ex43 ▸ HT4x42.out.far d e f (Ne.symm HNE.out)
        have HBx43 : Hid (Below W.heap.size W x43) := ex43 ▸ below_put3 HBx42.out (LOW5.out) _ _ _
        clear z0 z1 z2 y0 y1 y2 ex43
        refine hK.out _ _ ?_ (fun hHeld => ?_)
        · exact MK.out _ HBx43.out
        clear hK K
        try simp only [Act.put, List.setIfInBounds_toArray, List.set_cons_zero, List.set_cons_succ]
        refine wpAnyH_done (by kernel_rfl) ?_ _
        go_wp2_with fail
        go_meet
        case rel => exact ⟨_, _, rfl, rfl, HT4x43.out.1, HT5x43.out.1, HW.out.trans (HBx43.out.mono HW.out.size)⟩
    · go_simp
      obtain ⟨x44, ex44⟩ : ∃ x, x0.alloc (.cells #[.int .i64 0, .int .i64 0, .int .i64 0] 50) = x := ⟨_, rfl⟩
      rw [ex44]
      have hb : Below x0.heap.size x0 x44 := ex44 ▸ (Below.refl _ _).alloc (Nat.le_refl _) _
      have HBx44 : Hid (Below W.heap.size W x44) := HBx0.out.trans (hb.mono HBx0.out.size)
      have LOW5 : Hid (W.heap.size ≤ x0.heap.size) := HBx0.out.size
      have HT5x44 : Hid (Tre x44 x0.heap.size 0 0 0) := ex44 ▸ Tre.new _ 0 0 0
      clear hb ex44
      refine hK.out _ _ ?_ (fun hHeld => ?_)
      · exact MK.out _ HBx44.out
      clear hK K
      try simp only [Act.put, List.setIfInBounds_toArray, List.set_cons_zero, List.set_cons_succ]
      refine wpAnyH_ready (rs := [1, 4]) (by kernel_rfl) (by simp) ?_
      refine AllReadyH.cons (o := { dst := some 9, op := Op.call { callee := Callee.value (Operand.func 26), args := #[Operand.tmp 8], argTypes := #[24] }, type := 50, pos := _, after := _, guard := none }) rfl (fun K hK => ?_) (AllReadyH.cons (o := { dst := some 5, op := Op.alloc 50, type := 0, pos := _, after := _, guard := none }) rfl (fun K hK => ?_) AllReadyH.nil)
      · go_simp
        refine (marks_any _ _ _ _).mono ?_
        rintro r x45 ⟨rfl, hb⟩
        have HBx45 : Hid (Below W.heap.size W x45) := HBx44.out.trans (hb.mono HBx44.out.size)
        have HT5x45 : Hid (Tre x45 x0.heap.size 0 0 0) := HT5x44.out.later hb
        clear hb
        go_wp2_with fail
        refine hK.out _ _ ?_ (fun hHeld => ?_)
        · exact MK.out _ HBx45.out
        clear hK K
        try simp only [Act.put, List.setIfInBounds_toArray, List.set_cons_zero, List.set_cons_succ]
        refine wpAnyH_ready (rs := [3, 4]) (by kernel_rfl) (by simp) ?_
        refine AllReadyH.cons (o := { dst := some 11, op := Op.call { callee := Callee.value (Operand.func 26), args := #[Operand.tmp 10], argTypes := #[24] }, type := 50, pos := _, after := _, guard := none }) rfl (fun K hK => ?_) (AllReadyH.cons (o := { dst := some 5, op := Op.alloc 50, type := 0, pos := _, after := _, guard := none }) rfl (fun K hK => ?_) AllReadyH.nil)
        · go_simp
          refine (marks_any _ _ _ _).mono ?_
          rintro r x46 ⟨rfl, hb⟩
          have HBx46 : Hid (Below W.heap.size W x46) := HBx45.out.trans (hb.mono HBx45.out.size)
          have HT5x46 : Hid (Tre x46 x0.heap.size 0 0 0) := HT5x45.out.later hb
          clear hb
          go_wp2_with fail
          refine hK.out _ _ ?_ (fun hHeld => ?_)
          · exact MK.out _ HBx46.out
          clear hK K
          try simp only [Act.put, List.setIfInBounds_toArray, List.set_cons_zero, List.set_cons_succ]
          refine wpAnyH_ready (rs := [4]) (by kernel_rfl) (by simp) ?_
          refine AllReadyH.cons (o := { dst := some 5, op := Op.alloc 50, type := 0, pos := _, after := _, guard := none }) rfl (fun K hK => ?_) AllReadyH.nil
          go_simp
          obtain ⟨x47, ex47⟩ : ∃ x, x46.alloc (.cells #[.int .i64 0, .int .i64 0, .int .i64 0] 50) = x := ⟨_, rfl⟩
          rw [ex47]
          have hb : Below x46.heap.size x46 x47 := ex47 ▸ (Below.refl _ _).alloc (Nat.le_refl _) _
          have HBx47 : Hid (Below W.heap.size W x47) := HBx46.out.trans (hb.mono HBx46.out.size)
          have LOW4 : Hid (W.heap.size ≤ x46.heap.size) := HBx46.out.size
          have HT4x47 : Hid (Tre x47 x46.heap.size 0 0 0) := ex47 ▸ Tre.new _ 0 0 0
          have HT5x47 : Hid (Tre x47 x0.heap.size 0 0 0) := HT5x46.out.later hb
          have HNE : Hid (x0.heap.size ≠ x46.heap.size) := Nat.ne_of_lt HT5x46.out.1.lt
          clear hb ex47
          refine hK.out _ _ ?_ (fun hHeld => ?_)
          · exact MK.out _ HBx47.out
          clear hK K
          try simp only [Act.put, List.setIfInBounds_toArray, List.set_cons_zero, List.set_cons_succ]
          refine wpAnyH_ready (rs := [6]) (by kernel_rfl) (by simp) ?_
          refine AllReadyH.cons (o := { dst := none, op := Op.store 50 (Operand.tmp 5) (Operand.tmp 9), type := 0, pos := _, after := _, guard := none }) rfl (fun K hK => ?_) AllReadyH.nil
          obtain ⟨⟨z0, z1, z2⟩, y0, y1, y2⟩ := HT4x47.out.tri
          go_simp
          obtain ⟨x48, ex48⟩ : ∃ x, ((x47.setCell ⟨x46.heap.size, 0, none⟩ (.int .i64 a)).setCell ⟨x46.heap.size, 1, none⟩ (.int .i64 b)).setCell ⟨x46.heap.size, 2, none⟩ (.int .i64 c) = x := ⟨_, rfl⟩
          rw [ex48]
          have HT4x48 : Hid (Tre x48 x46.heap.size a b c) := ex48 ▸ HT4x47.out.put a b c
          have HT5x48 : Hid (Tre x48 x0.heap.size 0 0 0) := ex48 ▸ HT5x47.out.far a b c (Ne.symm HNE.out)
          have HBx48 : Hid (Below W.heap.size W x48) := ex48 ▸ below_put3 HBx47.out (LOW4.out) _ _ _
          clear z0 z1 z2 y0 y1 y2 ex48
          refine hK.out _ _ ?_ (fun hHeld => ?_)
          · exact MK.out _ HBx48.out
          clear hK K
          try simp only [Act.put, List.setIfInBounds_toArray, List.set_cons_zero, List.set_cons_succ]
          refine wpAnyH_ready (rs := [7]) (by kernel_rfl) (by simp) ?_
          refine AllReadyH.cons (o := { dst := none, op := Op.store 50 (Operand.tmp 6) (Operand.tmp 11), type := 0, pos := _, after := _, guard := none }) rfl (fun K hK => ?_) AllReadyH.nil
          obtain ⟨⟨z0, z1, z2⟩, y0, y1, y2⟩ := HT5x48.out.tri
          go_simp
          obtain ⟨x49, ex49⟩ : ∃ x, ((x48.setCell ⟨x0.heap.size, 0, none⟩ (.int .i64 d)).setCell ⟨x0.heap.size, 1, none⟩ (.int .i64 e)).setCell ⟨x0.heap.size, 2, none⟩ (.int .i64 f) = x := ⟨_, rfl⟩
          rw [ex49]
          have HT5x49 : Hid (Tre x49 x0.heap.size d e f) := ex49 ▸ HT5x48.out.put d e f
          have HT4x49 : Hid (Tre x49 x46.heap.size a b c) := ex49 ▸ HT4x48.out.far d e f HNE.out
          have HBx49 : Hid (Below W.heap.size W x49) := ex49 ▸ below_put3 HBx48.out (LOW5.out) _ _ _
          clear z0 z1 z2 y0 y1 y2 ex49
          refine hK.out _ _ ?_ (fun hHeld => ?_)
          · exact MK.out _ HBx49.out
          clear hK K
          try simp only [Act.put, List.setIfInBounds_toArray, List.set_cons_zero, List.set_cons_succ]
          refine wpAnyH_done (by kernel_rfl) ?_ _
          go_wp2_with fail
          go_meet
          case rel => exact ⟨_, _, rfl, rfl, HT4x49.out.1, HT5x49.out.1, HW.out.trans (HBx49.out.mono HW.out.size)⟩
        · go_simp
          obtain ⟨x50, ex50⟩ : ∃ x, x45.alloc (.cells #[.int .i64 0, .int .i64 0, .int .i64 0] 50) = x := ⟨_, rfl⟩
          rw [ex50]
          have hb : Below x45.heap.size x45 x50 := ex50 ▸ (Below.refl _ _).alloc (Nat.le_refl _) _
          have HBx50 : Hid (Below W.heap.size W x50) := HBx45.out.trans (hb.mono HBx45.out.size)
          have LOW4 : Hid (W.heap.size ≤ x45.heap.size) := HBx45.out.size
          have HT4x50 : Hid (Tre x50 x45.heap.size 0 0 0) := ex50 ▸ Tre.new _ 0 0 0
          have HT5x50 : Hid (Tre x50 x0.heap.size 0 0 0) := HT5x45.out.later hb
          have HNE : Hid (x0.heap.size ≠ x45.heap.size) := Nat.ne_of_lt HT5x45.out.1.lt
          clear hb ex50
          refine hK.out _ _ ?_ (fun hHeld => ?_)
          · exact MK.out _ HBx50.out
          clear hK K
          try simp only [Act.put, List.setIfInBounds_toArray, List.set_cons_zero, List.set_cons_succ]
          refine wpAnyH_ready (rs := [3]) (by kernel_rfl) (by simp) ?_
          refine AllReadyH.cons (o := { dst := some 11, op := Op.call { callee := Callee.value (Operand.func 26), args := #[Operand.tmp 10], argTypes := #[24] }, type := 50, pos := _, after := _, guard := none }) rfl (fun K hK => ?_) AllReadyH.nil
          go_simp
          refine (marks_any _ _ _ _).mono ?_
          rintro r x51 ⟨rfl, hb⟩
          have HBx51 : Hid (Below W.heap.size W x51) := HBx50.out.trans (hb.mono HBx50.out.size)
          have HT5x51 : Hid (Tre x51 x0.heap.size 0 0 0) := HT5x50.out.later hb
          have HT4x51 : Hid (Tre x51 x45.heap.size 0 0 0) := HT4x50.out.later hb
          clear hb
          go_wp2_with fail
          refine hK.out _ _ ?_ (fun hHeld => ?_)
          · exact MK.out _ HBx51.out
          clear hK K
          try simp only [Act.put, List.setIfInBounds_toArray, List.set_cons_zero, List.set_cons_succ]
          refine wpAnyH_ready (rs := [6]) (by kernel_rfl) (by simp) ?_
          refine AllReadyH.cons (o := { dst := none, op := Op.store 50 (Operand.tmp 5) (Operand.tmp 9), type := 0, pos := _, after := _, guard := none }) rfl (fun K hK => ?_) AllReadyH.nil
          obtain ⟨⟨z0, z1, z2⟩, y0, y1, y2⟩ := HT4x51.out.tri
          go_simp
          obtain ⟨x52, ex52⟩ : ∃ x, ((x51.setCell ⟨x45.heap.size, 0, none⟩ (.int .i64 a)).setCell ⟨x45.heap.size, 1, none⟩ (.int .i64 b)).setCell ⟨x45.heap.size, 2, none⟩ (.int .i64 c) = x := ⟨_, rfl⟩
          rw [ex52]
          have HT4x52 : Hid (Tre x52 x45.heap.size a b c) := ex52 ▸ HT4x51.out.put a b c
          have HT5x52 : Hid (Tre x52 x0.heap.size 0 0 0) := ex52 ▸ HT5x51.out.far a b c (Ne.symm HNE.out)
          have HBx52 : Hid (Below W.heap.size W x52) := ex52 ▸ below_put3 HBx51.out (LOW4.out) _ _ _
          clear z0 z1 z2 y0 y1 y2 ex52
          refine hK.out _ _ ?_ (fun hHeld => ?_)
          · exact MK.out _ HBx52.out
          clear hK K
          try simp only [Act.put, List.setIfInBounds_toArray, List.set_cons_zero, List.set_cons_succ]
          refine wpAnyH_ready (rs := [7]) (by kernel_rfl) (by simp) ?_
          refine AllReadyH.cons (o := { dst := none, op := Op.store 50 (Operand.tmp 6) (Operand.tmp 11), type := 0, pos := _, after := _, guard := none }) rfl (fun K hK => ?_) AllReadyH.nil
          obtain ⟨⟨z0, z1, z2⟩, y0, y1, y2⟩ := HT5x52.out.tri
          go_simp
          obtain ⟨x53, ex53⟩ : ∃ x, ((x52.setCell ⟨x0.heap.size, 0, none⟩ (.int .i64 d)).setCell ⟨x0.heap.size, 1, none⟩ (.int .i64 e)).setCell ⟨x0.heap.size, 2, none⟩ (.int .i64 f) = x := ⟨_, rfl⟩
          rw [ex53]
          have HT5x53 : Hid (Tre x53 x0.heap.size d e f) := ex53 ▸ HT5x52.out.put d e f
          have HT4x53 : Hid (Tre x53 x45.heap.size a b c) := ex53 ▸ HT4x52.out.far d e f HNE.out
          have HBx53 : Hid (Below W.heap.size W x53) := ex53 ▸ below_put3 HBx52.out (LOW5.out) _ _ _
          clear z0 z1 z2 y0 y1 y2 ex53
          refine hK.out _ _ ?_ (fun hHeld => ?_)
          · exact MK.out _ HBx53.out
          clear hK K
          try simp only [Act.put, List.setIfInBounds_toArray, List.set_cons_zero, List.set_cons_succ]
          refine wpAnyH_done (by kernel_rfl) ?_ _
          go_wp2_with fail
          go_meet
          case rel => exact ⟨_, _, rfl, rfl, HT4x53.out.1, HT5x53.out.1, HW.out.trans (HBx53.out.mono HW.out.size)⟩
      · go_simp
        obtain ⟨x54, ex54⟩ : ∃ x, x44.alloc (.cells #[.int .i64 0, .int .i64 0, .int .i64 0] 50) = x := ⟨_, rfl⟩
        rw [ex54]
        have hb : Below x44.heap.size x44 x54 := ex54 ▸ (Below.refl _ _).alloc (Nat.le_refl _) _
        have HBx54 : Hid (Below W.heap.size W x54) := HBx44.out.trans (hb.mono HBx44.out.size)
        have LOW4 : Hid (W.heap.size ≤ x44.heap.size) := HBx44.out.size
        have HT4x54 : Hid (Tre x54 x44.heap.size 0 0 0) := ex54 ▸ Tre.new _ 0 0 0
        have HT5x54 : Hid (Tre x54 x0.heap.size 0 0 0) := HT5x44.out.later hb
        have HNE : Hid (x0.heap.size ≠ x44.heap.size) := Nat.ne_of_lt HT5x44.out.1.lt
        clear hb ex54
        refine hK.out _ _ ?_ (fun hHeld => ?_)
        · exact MK.out _ HBx54.out
        clear hK K
        try simp only [Act.put, List.setIfInBounds_toArray, List.set_cons_zero, List.set_cons_succ]
        refine wpAnyH_ready (rs := [1]) (by kernel_rfl) (by simp) ?_
        refine AllReadyH.cons (o := { dst := some 9, op := Op.call { callee := Callee.value (Operand.func 26), args := #[Operand.tmp 8], argTypes := #[24] }, type := 50, pos := _, after := _, guard := none }) rfl (fun K hK => ?_) AllReadyH.nil
        go_simp
        refine (marks_any _ _ _ _).mono ?_
        rintro r x55 ⟨rfl, hb⟩
        have HBx55 : Hid (Below W.heap.size W x55) := HBx54.out.trans (hb.mono HBx54.out.size)
        have HT5x55 : Hid (Tre x55 x0.heap.size 0 0 0) := HT5x54.out.later hb
        have HT4x55 : Hid (Tre x55 x44.heap.size 0 0 0) := HT4x54.out.later hb
        clear hb
        go_wp2_with fail
        refine hK.out _ _ ?_ (fun hHeld => ?_)
        · exact MK.out _ HBx55.out
        clear hK K
        try simp only [Act.put, List.setIfInBounds_toArray, List.set_cons_zero, List.set_cons_succ]
        refine wpAnyH_ready (rs := [3]) (by kernel_rfl) (by simp) ?_
        refine AllReadyH.cons (o := { dst := some 11, op := Op.call { callee := Callee.value (Operand.func 26), args := #[Operand.tmp 10], argTypes := #[24] }, type := 50, pos := _, after := _, guard := none }) rfl (fun K hK => ?_) AllReadyH.nil
        go_simp
        refine (marks_any _ _ _ _).mono ?_
        rintro r x56 ⟨rfl, hb⟩
        have HBx56 : Hid (Below W.heap.size W x56) := HBx55.out.trans (hb.mono HBx55.out.size)
        have HT5x56 : Hid (Tre x56 x0.heap.size 0 0 0) := HT5x55.out.later hb
        have HT4x56 : Hid (Tre x56 x44.heap.size 0 0 0) := HT4x55.out.later hb
        clear hb
        go_wp2_with fail
        refine hK.out _ _ ?_ (fun hHeld => ?_)
        · exact MK.out _ HBx56.out
        clear hK K
        try simp only [Act.put, List.setIfInBounds_toArray, List.set_cons_zero, List.set_cons_succ]
        refine wpAnyH_ready (rs := [6]) (by kernel_rfl) (by simp) ?_
        refine AllReadyH.cons (o := { dst := none, op := Op.store 50 (Operand.tmp 5) (Operand.tmp 9), type := 0, pos := _, after := _, guard := none }) rfl (fun K hK => ?_) AllReadyH.nil
        obtain ⟨⟨z0, z1, z2⟩, y0, y1, y2⟩ := HT4x56.out.tri
        go_simp
        obtain ⟨x57, ex57⟩ : ∃ x, ((x56.setCell ⟨x44.heap.size, 0, none⟩ (.int .i64 a)).setCell ⟨x44.heap.size, 1, none⟩ (.int .i64 b)).setCell ⟨x44.heap.size, 2, none⟩ (.int .i64 c) = x := ⟨_, rfl⟩
        rw [ex57]
        have HT4x57 : Hid (Tre x57 x44.heap.size a b c) := ex57 ▸ HT4x56.out.put a b c
        have HT5x57 : Hid (Tre x57 x0.heap.size 0 0 0) := ex57 ▸ HT5x56.out.far a b c (Ne.symm HNE.out)
        have HBx57 : Hid (Below W.heap.size W x57) := ex57 ▸ below_put3 HBx56.out (LOW4.out) _ _ _
        clear z0 z1 z2 y0 y1 y2 ex57
        refine hK.out _ _ ?_ (fun hHeld => ?_)
        · exact MK.out _ HBx57.out
        clear hK K
        try simp only [Act.put, List.setIfInBounds_toArray, List.set_cons_zero, List.set_cons_succ]
        refine wpAnyH_ready (rs := [7]) (by kernel_rfl) (by simp) ?_
        refine AllReadyH.cons (o := { dst := none, op := Op.store 50 (Operand.tmp 6) (Operand.tmp 11), type := 0, pos := _, after := _, guard := none }) rfl (fun K hK => ?_) AllReadyH.nil
        obtain ⟨⟨z0, z1, z2⟩, y0, y1, y2⟩ := HT5x57.out.tri
        go_simp
        obtain ⟨x58, ex58⟩ : ∃ x, ((x57.setCell ⟨x0.heap.size, 0, none⟩ (.int .i64 d)).setCell ⟨x0.heap.size, 1, none⟩ (.int .i64 e)).setCell ⟨x0.heap.size, 2, none⟩ (.int .i64 f) = x := ⟨_, rfl⟩
        rw [ex58]
        have HT5x58 : Hid (Tre x58 x0.heap.size d e f) := ex58 ▸ HT5x57.out.put d e f
        have HT4x58 : Hid (Tre x58 x44.heap.size a b c) := ex58 ▸ HT4x57.out.far d e f HNE.out
        have HBx58 : Hid (Below W.heap.size W x58) := ex58 ▸ below_put3 HBx57.out (LOW5.out) _ _ _
        clear z0 z1 z2 y0 y1 y2 ex58
        refine hK.out _ _ ?_ (fun hHeld => ?_)
        · exact MK.out _ HBx58.out
        clear hK K
        try simp only [Act.put, List.setIfInBounds_toArray, List.set_cons_zero, List.set_cons_succ]
        refine wpAnyH_done (by kernel_rfl) ?_ _
        go_wp2_with fail
        go_meet
        case rel => exact ⟨_, _, rfl, rfl, HT4x58.out.1, HT5x58.out.1, HW.out.trans (HBx58.out.mono HW.out.size)⟩
  case rest =>
    obtain ⟨p, q, rfl, rfl, hp, hq, hbw⟩ := hcut
    have HP : Hid (Thr wc p a b c ∧ Thr wc q d e f) := ⟨hp, hq⟩
    have s1 := hp.lt
    have s2 := hq.lt
    obtain ⟨p0, p1, p2⟩ := hp
    obtain ⟨q0, q1, q2⟩ := hq
    clear h1 h2 HW
    have hE : ∀ w, (binOp .eql 50 (.agg #[.int .i64 a, .int .i64 b, .int .i64 c]) (.agg #[.int .i64 d, .int .i64 e, .int .i64 f])).run Try.prog w = .ok (.bool (decide (a = d) && (decide (b = e) && decide (c = f)))) w := fun w => mk_eql a b c d e f w
    by_cases c0 : a = d
    · by_cases c1 : b = e
      · by_cases c2 : c = f
        · have H : Hid (ltO (a, b, c) (d, e, f) = false) := by show _ = _; simp only [ltO, decide_eq_false_iff_not]; omega
          have k : (decide (a = d) && (decide (b = e) && decide (c = f))) = true := by simp [c0, c1, c2]
          rw [k] at hE
          clear c0 c1 c2 k
          go_wp2
          go_ret
          exact ⟨ret_b H.out.symm, hbw⟩
        · have H : Hid (ltO (a, b, c) (d, e, f) = decide (c < f)) := by show _ = _; simp only [ltO]; congr 1; simp only [eq_iff_iff]; omega
          have k : (decide (a = d) && (decide (b = e) && decide (c = f))) = false := by simp [*]
          rw [k] at hE
          have e0 : (a == d) = true := by simpa using c0
          have e1 : (b == e) = true := by simpa using c1
          have e2 : (c == f) = false := by simpa using c2
          clear c0 c1 c2 k
          go_wp2_with fail
          go_loopw [7] (fun i wr => ∃ j : Nat, i = .int .i64 j ∧ j ≤ 2 ∧ Below wc.heap.size wc wr) (fun i _ => (3 - intOf i).toNat)
          case atStart => exact ⟨0, rfl, by omega, Below.refl _ _⟩
          case round =>
            obtain ⟨j, rfl, hj, hbr⟩ := hrel
            have p0 := cell_later hbr p0
            have p1 := cell_later hbr p1
            have p2 := cell_later hbr p2
            have q0 := cell_later hbr q0
            have q1 := cell_later hbr q1
            have q2 := cell_later hbr q2
            rcases (show j = 0 ∨ j = 1 ∨ j = 2 by omega) with rfl | rfl | rfl
            · go_wp2_with fail
              go_quiet (fail)
              go_wp2
              go_roundw
              case rel => exact ⟨1, by rfl, by omega, ⟨hbr.os, hbr.tape, hbr.output, hbr.size, hbr.block⟩⟩
              case measure => simp [intOf]
            · go_wp2_with fail
              go_quiet (fail)
              go_wp2
              go_roundw
              case rel => exact ⟨2, by rfl, by omega, ⟨hbr.os, hbr.tape, hbr.output, hbr.size, hbr.block⟩⟩
              case measure => simp [intOf]
            · go_wp2_with fail
              go_quiet (fail)
              go_wp2
              go_quiet (fail)
              go_wp2
              go_ret
              exact ⟨ret_b H.out.symm, drewB (drewB (hbw.trans (hbr.mono hbw.size)) _) _⟩
      · have H : Hid (ltO (a, b, c) (d, e, f) = decide (b < e)) := by show _ = _; simp only [ltO]; congr 1; simp only [eq_iff_iff]; omega
        have k : (decide (a = d) && (decide (b = e) && decide (c = f))) = false := by simp [*]
        rw [k] at hE
        have e0 : (a == d) = true := by simpa using c0
        have e1 : (b == e) = false := by simpa using c1
        clear c0 c1 k
        go_wp2_with fail
        go_loopw [7] (fun i wr => ∃ j : Nat, i = .int .i64 j ∧ j ≤ 1 ∧ Below wc.heap.size wc wr) (fun i _ => (3 - intOf i).toNat)
        case atStart => exact ⟨0, rfl, by omega, Below.refl _ _⟩
        case round =>
          obtain ⟨j, rfl, hj, hbr⟩ := hrel
          have p0 := cell_later hbr p0
          have p1 := cell_later hbr p1
          have p2 := cell_later hbr p2
          have q0 := cell_later hbr q0
          have q1 := cell_later hbr q1
          have q2 := cell_later hbr q2
          rcases (show j = 0 ∨ j = 1 by omega) with rfl | rfl
          · go_wp2_with fail
            go_quiet (fail)
            go_wp2
            go_roundw
            case rel => exact ⟨1, by rfl, by omega, ⟨hbr.os, hbr.tape, hbr.output, hbr.size, hbr.block⟩⟩
            case measure => simp [intOf]
          · go_wp2_with fail
            go_quiet (fail)
            go_wp2
            go_quiet (fail)
            go_wp2
            go_ret
            exact ⟨ret_b H.out.symm, drewB (drewB (hbw.trans (hbr.mono hbw.size)) _) _⟩
    · have H : Hid (ltO (a, b, c) (d, e, f) = decide (a < d)) := by show _ = _; simp only [ltO]; congr 1; simp only [eq_iff_iff]; omega
      have k : (decide (a = d) && (decide (b = e) && decide (c = f))) = false := by simp [*]
      rw [k] at hE
      have e0 : (a == d) = false := by simpa using c0
      clear c0 k
      go_wp2_with fail
      go_loopw [7] (fun i wr => ∃ j : Nat, i = .int .i64 j ∧ j ≤ 0 ∧ Below wc.heap.size wc wr) (fun i _ => (3 - intOf i).toNat)
      case atStart => exact ⟨0, rfl, by omega, Below.refl _ _⟩
      case round =>
        obtain ⟨j, rfl, hj, hbr⟩ := hrel
        have p0 := cell_later hbr p0
        have p1 := cell_later hbr p1
        have p2 := cell_later hbr p2
        have q0 := cell_later hbr q0
        have q1 := cell_later hbr q1
        have q2 := cell_later hbr q2
        obtain rfl : j = 0 := by omega
        · go_wp2_with fail
          go_quiet (fail)
          go_wp2
          go_quiet (fail)
          go_wp2
          go_ret
          exact ⟨ret_b H.out.symm, drewB (drewB (hbw.trans (hbr.mono hbw.size)) _) _⟩
end Go.Proofs.Ytcdkocdjbpebpaa
