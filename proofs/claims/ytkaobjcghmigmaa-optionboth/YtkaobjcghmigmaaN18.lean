/- Walks of package option: First. -/
import Derived.Test.YtkaobjcghmigmaaN2
import Derived.Test.YtkaobjcghmigmaaD17
import Derived.Deep.RegionHeld3
namespace Go.Proofs.Ytkaobjcghmigmaa
open Go.RowKit

/-- A list of options that is read. -/
def Ops (w : World) (v : Value) (n : Nat) (f : Nat → Int × Int × Int) : Prop := Sprs w v n (fun i => (f i).1) (fun i => (f i).2.1) (fun i => (f i).2.2)
theorem Ops.later {w w' : World} {v : Value} {n : Nat} {f : Nat → Int × Int × Int} (h : Ops w v n f) (hb : Below w.heap.size w w') : Ops w' v n f := Sprs.later h hb

/-- The first one of which no other one is ahead. -/
def IsFst (f : Nat → Int × Int × Int) (n k : Nat) : Prop := k < n ∧ (∀ t, t < n → ltO (f t) (f k) = false) ∧ ∀ t, t < k → ltO (f k) (f t) = true
theorem ltO_trans {x y z : Int × Int × Int} (h1 : ltO x y = true) (h2 : ltO y z = true) : ltO x z = true := swo_ltO.trans _ _ _ h1 h2
theorem ltO_ntrans {x y z : Int × Int × Int} (h1 : ltO x y = false) (h2 : ltO y z = false) : ltO x z = false := swo_ltO.ntrans _ _ _ h1 h2
theorem ltO_asymm {x y : Int × Int × Int} (h : ltO x y = true) : ltO y x = false := by
  cases h2 : ltO y x with
  | false => rfl
  | true => exact absurd (ltO_trans h h2) (by rw [swo_ltO.irrefl]; simp)
theorem IsFst.unique {f : Nat → Int × Int × Int} {n k k' : Nat} (h : IsFst f n k) (h' : IsFst f n k') : k = k' := by
  rcases Nat.lt_trichotomy k k' with c | c | c
  · have := h'.2.2 k c; rw [h.2.1 k' h'.1] at this; cases this
  · exact c
  · have := h.2.2 k' c; rw [h'.2.1 k h.1] at this; cases this
theorem isFst_one (f : Nat → Int × Int × Int) : IsFst f 1 0 := ⟨by omega, fun t ht => by rw [show t = 0 by omega]; exact swo_ltO.irrefl _, fun t ht => by omega⟩
theorem IsFst.old {f : Nat → Int × Int × Int} {j k : Nat} (h : IsFst f j k) (hl : ltO (f j) (f k) = false) : IsFst f (j + 1) k :=
  ⟨by have := h.1; omega, fun t ht => by
    by_cases c : t = j
    · rw [c]; exact hl
    · exact h.2.1 t (by omega), h.2.2⟩
theorem IsFst.new {f : Nat → Int × Int × Int} {j k : Nat} (h : IsFst f j k) (hl : ltO (f j) (f k) = true) : IsFst f (j + 1) j := by
  refine ⟨by omega, fun t ht => ?_, fun t ht => ?_⟩
  · by_cases c : t = j
    · rw [c]; exact swo_ltO.irrefl _
    · cases h2 : ltO (f t) (f j) with
      | false => rfl
      | true => have := ltO_trans h2 hl; rw [h.2.1 t (by omega)] at this; cases this
  · cases h2 : ltO (f j) (f t) with
    | true => rfl
    | false => have := ltO_ntrans h2 (h.2.1 t ht); rw [hl] at this; cases this
def FstE (n : Nat) (f : Nat → Int × Int × Int) (w : World) (e : Ending) (w' : World) : Prop :=
  ∃ r : Int, e = .returned (.int .i64 r) ∧ ((n = 0 ∧ r = -1) ∨ ∃ k : Nat, r = k ∧ IsFst f n k) ∧ Below w.heap.size w w'
def FstR (f : Nat → Int × Int × Int) (j : Nat) (r : Int) : Prop := (j = 0 ∧ r = -1) ∨ ∃ k : Nat, r = k ∧ IsFst f j k

set_option maxHeartbeats 2000000 in
set_option maxRecDepth 100000 in
theorem first14_any (n : Nat) (f : Nat → Int × Int × Int) (v : Value) (w : World) (h : Ops w v n f) (hn : n ≤ 1000) :
    Calls Try.prog 16 #[v] w (FstE n f w) := by
  obtain ⟨a, cap, rfl, h1, h2, h0, h3⟩ := h
  go_enter Try.func16, Try.ntmps16
  go_wp2_with fail
  go_loopw [3, 8] (fun vr vi wr => ∃ (j : Nat) (r : Int), vr = .int .i64 r ∧ vi = .int .i64 j ∧ j ≤ n ∧ Hid (FstR f j r) ∧ Below w.heap.size w wr) (fun _ vi _ => ((n : Int) - intOf vi).toNat)
  case atStart => exact ⟨0, -1, rfl, rfl, by omega, Or.inl ⟨rfl, rfl⟩, Below.refl _ _⟩
  case round =>
    obtain ⟨j, r, rfl, rfl, hj, HF, hbw⟩ := hrel
    by_cases hjn : j < n
    · have hjn' : (j : Int) < n := by omega
      obtain ⟨b, o, rfl, h4⟩ := h3 (by omega)
      obtain ⟨x0, x1, x2⟩ := h4 j hjn
      replace x0 := cell_later hbw x0
      replace x1 := cell_later hbw x1
      replace x2 := cell_later hbw x2
      have HB1 : Hid (Below w.heap.size w (wr.alloc (.cells #[.int .i64 (f j).1, .int .i64 (f j).2.1, .int .i64 (f j).2.2] 24))) := hbw.alloc hbw.size _
      by_cases hj0 : j = 0
      · subst hj0
        simp only [Nat.zero_mul, Nat.add_zero] at x0 x1 x2
        obtain rfl : r = -1 := by
          rcases HF.out with ⟨_, h⟩ | ⟨k, _, h⟩
          · exact h
          · exact absurd h.1 (by omega)
        go_wp2_with fail
        generalize (wr.alloc (.cells #[.int .i64 (f 0).1, .int .i64 (f 0).2.1, .int .i64 (f 0).2.2] 24)) = W at *
        refine wp_region_held_drew (S := fun _ : World => True) (by kernel_rfl) ?_ (fun hHeld => ?_)
        · trivial
        refine wpAnyH_take (i := 0) (oi := { dst := some 13, op := Op.move (Operand.tmp 3), type := 3, pos := _, after := _, guard := none }) (v := ?_) rfl (by kernel_rfl) (by kernel_rfl) (by kernel_rfl) (fun _ _ _ h => h) (Or.inl ⟨by rfl, ?_⟩) (by assumption) ?_
        rotate_left
        · intro wS hSw; (try dsimp only at hSw); go_simp; first | done | with_reducible rfl
        try simp only [Act.put, List.setIfInBounds_toArray, List.set_cons_zero, List.set_cons_succ]
        refine wpAnyH_take (i := 1) (oi := { dst := some 14, op := Op.binOp BinOp.eql 3 (Operand.tmp 13) (Operand.const (Value.int IntKind.i64 (-1))) 3, type := 4, pos := _, after := _, guard := none }) (v := ?_) rfl (by kernel_rfl) (by kernel_rfl) (by kernel_rfl) (fun _ _ _ h => h) (Or.inl ⟨by rfl, ?_⟩) (by assumption) ?_
        rotate_left
        · intro wS hSw; (try dsimp only at hSw); go_simp; first | done | with_reducible rfl
        try simp only [Act.put, List.setIfInBounds_toArray, List.set_cons_zero, List.set_cons_succ]
        refine wpAnyH_take (i := 2) (oi := { dst := some 15, op := Op.move (Operand.tmp 14), type := 4, pos := _, after := _, guard := none }) (v := ?_) rfl (by kernel_rfl) (by kernel_rfl) (by kernel_rfl) (fun _ _ _ h => h) (Or.inl ⟨by rfl, ?_⟩) (by assumption) ?_
        rotate_left
        · intro wS hSw; (try dsimp only at hSw); go_simp; first | done | with_reducible rfl
        try simp only [Act.put, List.setIfInBounds_toArray, List.set_cons_zero, List.set_cons_succ]
        refine wpAnyH_take (i := 3) (oi := { dst := some 16, op := Op.load 24 (Operand.tmp 5), type := 24, pos := _, after := _, guard := some (2, false) }) (v := undef) rfl (by kernel_rfl) (by kernel_rfl) (by kernel_rfl) (fun _ _ _ h => h) (Or.inr ⟨by rfl, rfl⟩) (by assumption) ?_
        try simp only [Act.put, List.setIfInBounds_toArray, List.set_cons_zero, List.set_cons_succ]
        refine wpAnyH_take (i := 4) (oi := { dst := some 17, op := Op.move (Operand.tmp 0), type := 22, pos := _, after := _, guard := some (2, false) }) (v := undef) rfl (by kernel_rfl) (by kernel_rfl) (by kernel_rfl) (fun _ _ _ h => h) (Or.inr ⟨by rfl, rfl⟩) (by assumption) ?_
        try simp only [Act.put, List.setIfInBounds_toArray, List.set_cons_zero, List.set_cons_succ]
        refine wpAnyH_take (i := 5) (oi := { dst := some 18, op := Op.move (Operand.tmp 3), type := 3, pos := _, after := _, guard := some (2, false) }) (v := undef) rfl (by kernel_rfl) (by kernel_rfl) (by kernel_rfl) (fun _ _ _ h => h) (Or.inr ⟨by rfl, rfl⟩) (by assumption) ?_
        try simp only [Act.put, List.setIfInBounds_toArray, List.set_cons_zero, List.set_cons_succ]
        refine wpAnyH_take (i := 6) (oi := { dst := some 19, op := Op.indexAddr 22 (Operand.tmp 17) (Operand.tmp 18), type := 0, pos := _, after := _, guard := some (2, false) }) (v := undef) rfl (by kernel_rfl) (by kernel_rfl) (by kernel_rfl) (fun _ _ _ h => h) (Or.inr ⟨by rfl, rfl⟩) (by assumption) ?_
        try simp only [Act.put, List.setIfInBounds_toArray, List.set_cons_zero, List.set_cons_succ]
        refine wpAnyH_take (i := 7) (oi := { dst := some 20, op := Op.load 24 (Operand.tmp 19), type := 24, pos := _, after := _, guard := some (2, false) }) (v := undef) rfl (by kernel_rfl) (by kernel_rfl) (by kernel_rfl) (fun _ _ _ h => h) (Or.inr ⟨by rfl, rfl⟩) (by assumption) ?_
        try simp only [Act.put, List.setIfInBounds_toArray, List.set_cons_zero, List.set_cons_succ]
        refine wpAnyH_take (i := 8) (oi := { dst := some 21, op := Op.call { callee := Callee.value (Operand.func 11), args := #[Operand.tmp 16, Operand.tmp 20], argTypes := #[24, 24] }, type := 4, pos := _, after := _, guard := some (2, false) }) (v := undef) rfl (by kernel_rfl) (by kernel_rfl) (by kernel_rfl) (fun _ _ _ h => h) (Or.inr ⟨by rfl, rfl⟩) (by assumption) ?_
        try simp only [Act.put, List.setIfInBounds_toArray, List.set_cons_zero, List.set_cons_succ]
        refine wpAnyH_take (i := 9) (oi := { dst := some 22, op := Op.pick (Operand.tmp 15) (Operand.const (Value.bool true)) (Operand.tmp 21), type := 4, pos := _, after := _, guard := none }) (v := ?_) rfl (by kernel_rfl) (by kernel_rfl) (by kernel_rfl) (fun _ _ _ h => h) (Or.inl ⟨by rfl, ?_⟩) (by assumption) ?_
        rotate_left
        · intro wS hSw; (try dsimp only at hSw); go_simp; first | done | with_reducible rfl
        try simp only [Act.put, List.setIfInBounds_toArray, List.set_cons_zero, List.set_cons_succ]
        refine wpAnyH_done (by kernel_rfl) ?_ _
        go_wp2
        go_roundw
        case rel => exact ⟨1, 0, by first | rfl | go_num, by first | rfl | go_num, by omega, Or.inr ⟨0, rfl, isFst_one f⟩, HB1.out.drew⟩
        case measure => simp [intOf]; omega
      · obtain ⟨k, rfl, HK⟩ : ∃ k : Nat, r = k ∧ Hid (IsFst f j k) := by
          rcases HF.out with ⟨h, _⟩ | ⟨k, h, h'⟩
          · omega
          · exact ⟨k, h, h'⟩
        have hk := HK.out.1
        have hk1 : ((k : Int) == -1) = false := by simp
        have hkn : (k : Int) < n := by omega
        obtain ⟨y0, y1, y2⟩ := h4 k (by omega)
        have hT := Thr.new wr (f j).1 (f j).2.1 (f j).2.2 24
        have z0 := cell_later HB1.out y0
        have z1 := cell_later HB1.out y1
        have z2 := cell_later HB1.out y2
        clear hj0 y0 y1 y2
        go_wp2_with fail
        generalize (wr.alloc (.cells #[.int .i64 (f j).1, .int .i64 (f j).2.1, .int .i64 (f j).2.2] 24)) = W at *
        have MK : Hid (∀ w' : World, Below W.heap.size W w' → (w'.cell? ⟨wr.heap.size, 0, none⟩ = some (.int .i64 (f j).1) ∧ w'.cell? ⟨wr.heap.size, 1, none⟩ = some (.int .i64 (f j).2.1) ∧ w'.cell? ⟨wr.heap.size, 2, none⟩ = some (.int .i64 (f j).2.2) ∧ w'.cell? ⟨b, o + k * 3, none⟩ = some (.int .i64 (f k).1) ∧ w'.cell? ⟨b, o + k * 3 + 1, none⟩ = some (.int .i64 (f k).2.1) ∧ w'.cell? ⟨b, o + k * 3 + 2, none⟩ = some (.int .i64 (f k).2.2)) ∧ Below W.heap.size W w') :=
          fun w' hb => ⟨⟨(hT.later hb).1, (hT.later hb).2.1, (hT.later hb).2.2, cell_later hb z0, cell_later hb z1, cell_later hb z2⟩, hb⟩
        clear hT z0 z1 z2 x0 x1 x2
        obtain ⟨q, hq⟩ : ∃ q, ltO (f j) (f k) = q := ⟨_, rfl⟩
        have HQ : Hid (ltO (f j) (f k) = q) := hq
        clear hq
        have hless := fun w => less14_any (f j).1 (f j).2.1 (f j).2.2 (f k).1 (f k).2.1 (f k).2.2 w
        cases q
        · go_region_held3 (fun w' => (w'.cell? ⟨wr.heap.size, 0, none⟩ = some (.int .i64 (f j).1) ∧ w'.cell? ⟨wr.heap.size, 1, none⟩ = some (.int .i64 (f j).2.1) ∧ w'.cell? ⟨wr.heap.size, 2, none⟩ = some (.int .i64 (f j).2.2) ∧ w'.cell? ⟨b, o + k * 3, none⟩ = some (.int .i64 (f k).1) ∧ w'.cell? ⟨b, o + k * 3 + 1, none⟩ = some (.int .i64 (f k).2.1) ∧ w'.cell? ⟨b, o + k * 3 + 2, none⟩ = some (.int .i64 (f k).2.2)) ∧ Below W.heap.size W w')
            (first | exact MK.out _ (bstep (by assumption) (sBel (by assumption))) | exact MK.out _ (Below.refl _ _).drew)
            (first | (go_at_call 11; refine (hless _).mono ?_; rintro e w3 ⟨rfl, hb3⟩; rw [HQ.out]))
          all_goals
            go_wp2
            go_roundw
            case rel => exact ⟨j + 1, k, by first | rfl | go_num, by first | rfl | go_num, by omega, Or.inr ⟨k, rfl, HK.out.old HQ.out⟩, HB1.out.trans ((sBel (by assumption)).mono HB1.out.size)⟩
            case measure => simp [intOf]; omega
        · go_region_held3 (fun w' => (w'.cell? ⟨wr.heap.size, 0, none⟩ = some (.int .i64 (f j).1) ∧ w'.cell? ⟨wr.heap.size, 1, none⟩ = some (.int .i64 (f j).2.1) ∧ w'.cell? ⟨wr.heap.size, 2, none⟩ = some (.int .i64 (f j).2.2) ∧ w'.cell? ⟨b, o + k * 3, none⟩ = some (.int .i64 (f k).1) ∧ w'.cell? ⟨b, o + k * 3 + 1, none⟩ = some (.int .i64 (f k).2.1) ∧ w'.cell? ⟨b, o + k * 3 + 2, none⟩ = some (.int .i64 (f k).2.2)) ∧ Below W.heap.size W w')
            (first | exact MK.out _ (bstep (by assumption) (sBel (by assumption))) | exact MK.out _ (Below.refl _ _).drew)
            (first | (go_at_call 11; refine (hless _).mono ?_; rintro e w3 ⟨rfl, hb3⟩; rw [HQ.out]))
          all_goals
            go_wp2
            go_roundw
            case rel => exact ⟨j + 1, j, by first | rfl | go_num, by first | rfl | go_num, by omega, Or.inr ⟨j, rfl, HK.out.new HQ.out⟩, HB1.out.trans ((sBel (by assumption)).mono HB1.out.size)⟩
            case measure => simp [intOf]; omega
    · have hjn' : ¬ (j : Int) < n := by omega
      obtain rfl : j = n := by omega
      go_wp2
      go_ret
      exact ⟨r, rfl, HF.out, hbw⟩
end Go.Proofs.Ytkaobjcghmigmaa
