import Derived.Test.YtcdkocdjbpebpaaY2
/- The document's own Sort: walk. -/
namespace Go.Proofs.Ytcdkocdjbpebpaa
open Go.RowKit

/-- What the document's Sort answers. -/
def RSortE (n : Nat) (f : Nat → Int × Int × Int) (w : World) (e : Ending) (w' : World) : Prop :=
  ∃ u S, e = .returned u ∧ OwnO w' w.heap.size u S ∧ SrtS S ∧ S.Perm (lstO f n) ∧ Below w.heap.size w w'
set_option maxHeartbeats 4000000 in
set_option maxRecDepth 100000 in
theorem rsort14_any (n : Nat) (f : Nat → Int × Int × Int) (v : Value) (w : World) (h : Ops w v n f) (hx : n ≤ 1000) :
    Calls Try.prog 15 #[v] w (RSortE n f w) := by
  obtain ⟨ad, cap0, rfl, h1, h2, h0, h5⟩ := h
  clear h0
  go_enter Try.func15, Try.ntmps15
  go_wp2_with fail
  go_loopw [3, 4] (fun a i wr => ∃ (j : Nat) (av : Value) (S : List (Int × Int × Int)), av = a ∧ j ≤ n ∧ i = .int .i64 j ∧ Hid (OwnO wr w.heap.size av S ∧ SrtS S ∧ S.Perm (lstO f j)) ∧ Below w.heap.size w wr) (fun _ i _ => ((n : Int) - intOf i).toNat)
  case atStart => exact ⟨0, _, [], rfl, by omega, rfl, ⟨OwnO.nil _ _, List.Pairwise.nil, List.Perm.refl _⟩, Below.refl _ _⟩
  case round =>
    generalize wr = W1 at *
    obtain ⟨j, ov, S, rfl, hj, rfl, HO, hbw⟩ := hrel
    by_cases hjl : (j : Int) < n
    rotate_left
    · obtain rfl : j = n := by omega
      clear h5
      go_wp2_with fail
      go_ret
      exact ⟨_, S, rfl, HO.out.1, HO.out.2.1, HO.out.2.2, hbw⟩
    have hjn : j < n := by omega
    obtain ⟨bk, o, rfl, h6⟩ := h5 (by omega)
    obtain ⟨⟨xa, xb, xc⟩, hX⟩ : ∃ y, f j = y := ⟨_, rfl⟩
    have k3 := h6 j hjn
    rw [hX] at k3
    have HCW : Hid (∀ y, Below w.heap.size w y → y.cell? ⟨bk, o + j * 3, none⟩ = some (.int .i64 xa) ∧ y.cell? ⟨bk, o + j * 3 + 1, none⟩ = some (.int .i64 xb) ∧ y.cell? ⟨bk, o + j * 3 + 2, none⟩ = some (.int .i64 xc)) := fun y hy => ⟨cell_later hy k3.1, cell_later hy k3.2.1, cell_later hy k3.2.2⟩
    have hl : S.length = j := Perm.len14 HO.out.2.2
    have HLN : Hid (S.length = j) := hl
    have HXJ : Hid (f j = (xa, xb, xc)) := hX
    clear h5 h6 k3 hX
    have HB1 : Hid (Below w.heap.size w W1) := hbw
    clear hbw
    rcases HO.out.1.open14 with ⟨rfl, rfl⟩ | ⟨g, cap, rfl, g1, g2, g3, g4⟩
    · obtain rfl : j = 0 := by simpa using hl.symm
      have HI : Hid (SrtS ([] ++ [(xa, xb, xc)] ++ ([] : List (Int × Int × Int))) ∧ ([] ++ [(xa, xb, xc)] ++ ([] : List (Int × Int × Int))).Perm (lstO f (0 + 1))) := ⟨by simp [SrtS], perm_ins14 (S := []) (k := 0) HO.out.2.2 HXJ.out⟩
      have hCW := HCW.out
      simp only [Nat.zero_mul, Nat.add_zero] at hCW
      have HCW : Hid (∀ y, Below w.heap.size w y → y.cell? ⟨bk, o, none⟩ = some (.int .i64 xa) ∧ y.cell? ⟨bk, o + 1, none⟩ = some (.int .i64 xb) ∧ y.cell? ⟨bk, o + 2, none⟩ = some (.int .i64 xc)) := hCW
      clear hCW
      clear hl HO
      go_wp2_with fail
      go_loopw [5] (fun i wr => i = .int .i64 0 ∧ Below W1.heap.size W1 wr) (fun _ _ => 0)
      case atStart => exact ⟨rfl, Below.refl _ _⟩
      case round =>
        obtain ⟨rfl, hbk⟩ := hrel
        have HBK : Hid (Below W1.heap.size W1 wr.drew) := hbk.drew
        clear hbk
        go_wp2_with fail
        refine wp_region_held_drew (S := (fun _ : World => True)) (by kernel_rfl) ?_ (fun hHeld => ?_)
        · trivial
        refine wpAnyH_take (i := 0) (oi := { dst := some 15, op := Op.move (Operand.tmp 5), type := 3, pos := _, after := _, guard := none }) (v := ?_) rfl (by kernel_rfl) (by kernel_rfl) (by kernel_rfl) (fun _ _ _ h => h) (Or.inl ⟨by rfl, ?_⟩) (by assumption) ?_
        rotate_left
        · intro wS hSw; (try dsimp only at hSw); go_simp; first | done | with_reducible rfl
        try simp only [Act.put, List.setIfInBounds_toArray, List.set_cons_zero, List.set_cons_succ]
        refine wpAnyH_take (i := 1) (oi := { dst := some 16, op := Op.binOp BinOp.gtr 3 (Operand.tmp 15) (Operand.const (Value.int IntKind.i64 0)) 3, type := 4, pos := _, after := _, guard := none }) (v := ?_) rfl (by kernel_rfl) (by kernel_rfl) (by kernel_rfl) (fun _ _ _ h => h) (Or.inl ⟨by rfl, ?_⟩) (by assumption) ?_
        rotate_left
        · intro wS hSw; (try dsimp only at hSw); go_simp; first | done | with_reducible rfl
        try simp only [Act.put, List.setIfInBounds_toArray, List.set_cons_zero, List.set_cons_succ]
        refine wpAnyH_take (i := 2) (oi := { dst := some 17, op := Op.move (Operand.tmp 16), type := 4, pos := _, after := _, guard := none }) (v := ?_) rfl (by kernel_rfl) (by kernel_rfl) (by kernel_rfl) (fun _ _ _ h => h) (Or.inl ⟨by rfl, ?_⟩) (by assumption) ?_
        rotate_left
        · intro wS hSw; (try dsimp only at hSw); go_simp; first | done | with_reducible rfl
        try simp only [Act.put, List.setIfInBounds_toArray, List.set_cons_zero, List.set_cons_succ]
        refine wpAnyH_take (i := 3) (oi := { dst := some 18, op := Op.move (Operand.tmp 0), type := 22, pos := _, after := _, guard := some (2, true) }) (v := undef) rfl (by kernel_rfl) (by kernel_rfl) (by kernel_rfl) (fun _ _ _ h => h) (Or.inr ⟨by rfl, rfl⟩) (by assumption) ?_
        try simp only [Act.put, List.setIfInBounds_toArray, List.set_cons_zero, List.set_cons_succ]
        refine wpAnyH_take (i := 4) (oi := { dst := some 19, op := Op.move (Operand.tmp 4), type := 3, pos := _, after := _, guard := some (2, true) }) (v := undef) rfl (by kernel_rfl) (by kernel_rfl) (by kernel_rfl) (fun _ _ _ h => h) (Or.inr ⟨by rfl, rfl⟩) (by assumption) ?_
        try simp only [Act.put, List.setIfInBounds_toArray, List.set_cons_zero, List.set_cons_succ]
        refine wpAnyH_take (i := 5) (oi := { dst := some 20, op := Op.indexAddr 22 (Operand.tmp 18) (Operand.tmp 19), type := 0, pos := _, after := _, guard := some (2, true) }) (v := undef) rfl (by kernel_rfl) (by kernel_rfl) (by kernel_rfl) (fun _ _ _ h => h) (Or.inr ⟨by rfl, rfl⟩) (by assumption) ?_
        try simp only [Act.put, List.setIfInBounds_toArray, List.set_cons_zero, List.set_cons_succ]
        refine wpAnyH_take (i := 6) (oi := { dst := some 21, op := Op.load 24 (Operand.tmp 20), type := 24, pos := _, after := _, guard := some (2, true) }) (v := undef) rfl (by kernel_rfl) (by kernel_rfl) (by kernel_rfl) (fun _ _ _ h => h) (Or.inr ⟨by rfl, rfl⟩) (by assumption) ?_
        try simp only [Act.put, List.setIfInBounds_toArray, List.set_cons_zero, List.set_cons_succ]
        refine wpAnyH_take (i := 7) (oi := { dst := some 22, op := Op.move (Operand.tmp 3), type := 22, pos := _, after := _, guard := some (2, true) }) (v := undef) rfl (by kernel_rfl) (by kernel_rfl) (by kernel_rfl) (fun _ _ _ h => h) (Or.inr ⟨by rfl, rfl⟩) (by assumption) ?_
        try simp only [Act.put, List.setIfInBounds_toArray, List.set_cons_zero, List.set_cons_succ]
        refine wpAnyH_take (i := 8) (oi := { dst := some 23, op := Op.move (Operand.tmp 5), type := 3, pos := _, after := _, guard := some (2, true) }) (v := undef) rfl (by kernel_rfl) (by kernel_rfl) (by kernel_rfl) (fun _ _ _ h => h) (Or.inr ⟨by rfl, rfl⟩) (by assumption) ?_
        try simp only [Act.put, List.setIfInBounds_toArray, List.set_cons_zero, List.set_cons_succ]
        refine wpAnyH_take (i := 9) (oi := { dst := some 24, op := Op.binOp BinOp.sub 3 (Operand.tmp 23) (Operand.const (Value.int IntKind.i64 1)) 3, type := 3, pos := _, after := _, guard := some (2, true) }) (v := undef) rfl (by kernel_rfl) (by kernel_rfl) (by kernel_rfl) (fun _ _ _ h => h) (Or.inr ⟨by rfl, rfl⟩) (by assumption) ?_
        try simp only [Act.put, List.setIfInBounds_toArray, List.set_cons_zero, List.set_cons_succ]
        refine wpAnyH_take (i := 10) (oi := { dst := some 25, op := Op.indexAddr 22 (Operand.tmp 22) (Operand.tmp 24), type := 0, pos := _, after := _, guard := some (2, true) }) (v := undef) rfl (by kernel_rfl) (by kernel_rfl) (by kernel_rfl) (fun _ _ _ h => h) (Or.inr ⟨by rfl, rfl⟩) (by assumption) ?_
        try simp only [Act.put, List.setIfInBounds_toArray, List.set_cons_zero, List.set_cons_succ]
        refine wpAnyH_take (i := 11) (oi := { dst := some 26, op := Op.load 24 (Operand.tmp 25), type := 24, pos := _, after := _, guard := some (2, true) }) (v := undef) rfl (by kernel_rfl) (by kernel_rfl) (by kernel_rfl) (fun _ _ _ h => h) (Or.inr ⟨by rfl, rfl⟩) (by assumption) ?_
        try simp only [Act.put, List.setIfInBounds_toArray, List.set_cons_zero, List.set_cons_succ]
        refine wpAnyH_take (i := 12) (oi := { dst := some 27, op := Op.call { callee := Callee.value (Operand.func 12), args := #[Operand.tmp 21, Operand.tmp 26], argTypes := #[24, 24] }, type := 4, pos := _, after := _, guard := some (2, true) }) (v := undef) rfl (by kernel_rfl) (by kernel_rfl) (by kernel_rfl) (fun _ _ _ h => h) (Or.inr ⟨by rfl, rfl⟩) (by assumption) ?_
        try simp only [Act.put, List.setIfInBounds_toArray, List.set_cons_zero, List.set_cons_succ]
        refine wpAnyH_take (i := 13) (oi := { dst := some 28, op := Op.pick (Operand.tmp 17) (Operand.tmp 27) (Operand.const (Value.bool false)), type := 4, pos := _, after := _, guard := none }) (v := ?_) rfl (by kernel_rfl) (by kernel_rfl) (by kernel_rfl) (fun _ _ _ h => h) (Or.inl ⟨by rfl, ?_⟩) (by assumption) ?_
        rotate_left
        · intro wS hSw; (try dsimp only at hSw); go_simp; first | done | with_reducible rfl
        try simp only [Act.put, List.setIfInBounds_toArray, List.set_cons_zero, List.set_cons_succ]
        refine wpAnyH_done (by kernel_rfl) ?_ _
        generalize wr.drew = W2 at *
        have HT : Hid (Ops W2 (.slice none 0 0) 0 (fun _ => (0, 0, 0))) := ⟨none, 0, rfl, by omega, by unfold maxLen; omega, fun _ => rfl, fun hx => by omega⟩
        have HO2 : Hid (OwnO W2 w.heap.size (.slice none 0 0) []) := OwnO.nil _ _
        have HB2 : Hid (Below w.heap.size w W2) := HB1.out.trans (HBK.out.mono HB1.out.size)
        clear HBK HB1
        go_wp2_with (first | (at_builtin; refine append_ops rfl _ _ rfl W2.heap.size (.slice none 0 0) _ [] 0 (fun _ => (0, 0, 0)) rfl (OwnO.nil _ _) rfl (by go_simp; exact HT.out) (by simp <;> omega) (Nat.le_refl _) ?_; intro rv w6 ho6 hb6))
        have HR6 : Hid (OwnO w6 W2.heap.size rv ([] : List (Int × Int × Int))) := by
          have h := ho6
          exact h
        have HO6 : Hid (OwnO w6 w.heap.size (.slice none 0 0) []) := HO2.out.later hb6
        have HB6 : Hid (Below w.heap.size w w6) := HB2.out.trans (hb6.mono HB2.out.size)
        have s26 := hb6.size
        clear HT HO2 HB2 ho6 hb6
        refine wp_region_held_drew (S := (fun w' : World => w'.cell? ⟨bk, o, none⟩ = some (.int .i64 xa) ∧ w'.cell? ⟨bk, o + 1, none⟩ = some (.int .i64 xb) ∧ w'.cell? ⟨bk, o + 2, none⟩ = some (.int .i64 xc))) (by kernel_rfl) ?_ (fun hHeld => ?_)
        · exact HCW.out _ HB6.out.drew
        refine wpAnyH_take (i := 0) (oi := { dst := some 35, op := Op.move (Operand.tmp 3), type := 22, pos := _, after := _, guard := none }) (v := ?_) rfl (by kernel_rfl) (by kernel_rfl) (by kernel_rfl) (fun _ _ _ h => h) (Or.inl ⟨by rfl, ?_⟩) (by assumption) ?_
        rotate_left
        · intro wS hSw; (try dsimp only at hSw); go_simp; first | done | with_reducible rfl
        try simp only [Act.put, List.setIfInBounds_toArray, List.set_cons_zero, List.set_cons_succ]
        refine wpAnyH_take (i := 1) (oi := { dst := some 36, op := Op.move (Operand.tmp 5), type := 3, pos := _, after := _, guard := none }) (v := ?_) rfl (by kernel_rfl) (by kernel_rfl) (by kernel_rfl) (fun _ _ _ h => h) (Or.inl ⟨by rfl, ?_⟩) (by assumption) ?_
        rotate_left
        · intro wS hSw; (try dsimp only at hSw); go_simp; first | done | with_reducible rfl
        try simp only [Act.put, List.setIfInBounds_toArray, List.set_cons_zero, List.set_cons_succ]
        refine wpAnyH_take (i := 2) (oi := { dst := some 37, op := Op.slice 22 (Operand.tmp 35) none (some (Operand.tmp 36)) none, type := 22, pos := _, after := _, guard := none }) (v := ?_) rfl (by kernel_rfl) (by kernel_rfl) (by kernel_rfl) (fun _ _ _ h => h) (Or.inl ⟨by rfl, ?_⟩) (by assumption) ?_
        rotate_left
        · intro wS hSw; (try dsimp only at hSw); go_simp; first | done | with_reducible rfl
        try simp only [Act.put, List.setIfInBounds_toArray, List.set_cons_zero, List.set_cons_succ]
        refine wpAnyH_take (i := 3) (oi := { dst := some 38, op := Op.move (Operand.tmp 0), type := 22, pos := _, after := _, guard := none }) (v := ?_) rfl (by kernel_rfl) (by kernel_rfl) (by kernel_rfl) (fun _ _ _ h => h) (Or.inl ⟨by rfl, ?_⟩) (by assumption) ?_
        rotate_left
        · intro wS hSw; (try dsimp only at hSw); go_simp; first | done | with_reducible rfl
        try simp only [Act.put, List.setIfInBounds_toArray, List.set_cons_zero, List.set_cons_succ]
        refine wpAnyH_take (i := 4) (oi := { dst := some 39, op := Op.move (Operand.tmp 4), type := 3, pos := _, after := _, guard := none }) (v := ?_) rfl (by kernel_rfl) (by kernel_rfl) (by kernel_rfl) (fun _ _ _ h => h) (Or.inl ⟨by rfl, ?_⟩) (by assumption) ?_
        rotate_left
        · intro wS hSw; (try dsimp only at hSw); go_simp; first | done | with_reducible rfl
        try simp only [Act.put, List.setIfInBounds_toArray, List.set_cons_zero, List.set_cons_succ]
        refine wpAnyH_take (i := 5) (oi := { dst := some 40, op := Op.indexAddr 22 (Operand.tmp 38) (Operand.tmp 39), type := 0, pos := _, after := _, guard := none }) (v := ?_) rfl (by kernel_rfl) (by kernel_rfl) (by kernel_rfl) (fun _ _ _ h => h) (Or.inl ⟨by rfl, ?_⟩) (by assumption) ?_
        rotate_left
        · intro wS hSw; (try dsimp only at hSw); go_simp; first | done | with_reducible rfl
        try simp only [Act.put, List.setIfInBounds_toArray, List.set_cons_zero, List.set_cons_succ]
        refine wpAnyH_take (i := 6) (oi := { dst := some 41, op := Op.load 24 (Operand.tmp 40), type := 24, pos := _, after := _, guard := none }) (v := ?_) rfl (by kernel_rfl) (by kernel_rfl) (by kernel_rfl) (fun _ _ _ h => h) (Or.inl ⟨by rfl, ?_⟩) (by assumption) ?_
        rotate_left
        · intro wS hSw; (try dsimp only at hSw); go_simp; first | done | with_reducible rfl
        try simp only [Act.put, List.setIfInBounds_toArray, List.set_cons_zero, List.set_cons_succ]
        have hB7 : Below w.heap.size w (w6.alloc (.cells #[.int .i64 xa, .int .i64 xb, .int .i64 xc] 24)).drew := (HB6.out.alloc HB6.out.size _).drew
        have ho7 : OwnO (w6.alloc (.cells #[.int .i64 xa, .int .i64 xb, .int .i64 xc] 24)).drew w.heap.size (.slice none 0 0) [] := HO6.out.later (((Below.refl _ _).alloc (Nat.le_refl _) _).drew)
        have hr7 : OwnO (w6.alloc (.cells #[.int .i64 xa, .int .i64 xb, .int .i64 xc] 24)).drew W2.heap.size rv ([] : List (Int × Int × Int)) := HR6.out.later (((Below.refl _ _).alloc (Nat.le_refl _) _).drew)
        have hone := ops_one14 w6 xa xb xc
        refine wpAnyH_ready (rs := [7]) (by kernel_rfl) (by simp) ?_
        refine AllReadyH.cons (o := { dst := some 42, op := Op.buildSlice 22 1 #[(0, Operand.tmp 41)], type := 22, pos := _, after := _, guard := none }) rfl (fun K hK => ?_) AllReadyH.nil
        go_simp
        refine hK.out _ _ ?_ (fun hHeld => ?_)
        · exact HCW.out _ hB7
        clear hK K
        try simp only [Act.put, List.setIfInBounds_toArray, List.set_cons_zero, List.set_cons_succ]
        refine wpAnyH_ready (rs := [8]) (by kernel_rfl) (by simp) ?_
        refine AllReadyH.cons (o := { dst := some 43, op := Op.call { callee := Callee.builtin Builtin.append, args := #[Operand.tmp 37, Operand.tmp 42], argTypes := #[22, 22] }, type := 22, pos := _, after := _, guard := none }) rfl (fun K hK => ?_) AllReadyH.nil
        refine step_append_opsG rfl _ _ rfl w.heap.size (.slice none 0 0) _ ([] : List (Int × Int × Int)) 1 (fun _ => (xa, xb, xc)) (by go_simp) ho7 rfl hone (by simp) hB7.size ?_
        intro v8 w8 ho8 hg8
        have HB8 : Hid (Below w.heap.size w w8) := hB7.grown hg8 hB7.size (fun t ht => by simp [Value.ownBlock] at ht)
        have HR8 : Hid (OwnO w8 W2.heap.size rv ([] : List (Int × Int × Int))) := OwnO.kept hr7 hg8 (fun t ht e => by have h := (OwnO.low hr7 t ht).1; simp [Value.ownBlock] at e)
        have HO8 : Hid (OwnO w8 w.heap.size v8 (([] : List (Int × Int × Int)) ++ [(xa, xb, xc)])) := ho8
        refine hK.out _ _ ?_ (fun hHeld => ?_)
        · exact HCW.out _ HB8.out
        clear hK K
        try simp only [Act.put, List.setIfInBounds_toArray, List.set_cons_zero, List.set_cons_succ]
        refine wpAnyH_take (i := 9) (oi := { dst := some 3, op := Op.assign (Operand.tmp 43), type := 22, pos := _, after := _, guard := none }) (v := ?_) rfl (by kernel_rfl) (by kernel_rfl) (by kernel_rfl) (fun _ _ _ h => h) (Or.inl ⟨by rfl, ?_⟩) (by assumption) ?_
        rotate_left
        · intro wS hSw; (try dsimp only at hSw); go_simp; first | done | with_reducible rfl
        try simp only [Act.put, List.setIfInBounds_toArray, List.set_cons_zero, List.set_cons_succ]
        refine wpAnyH_done (by kernel_rfl) ?_ _
        clear hone hr7 ho7 hB7 ho8 hg8 HR6 HO6 HB6
        go_wp2_with (first | (at_builtin; refine append_ops rfl _ _ rfl w.heap.size v8 rv (([] : List (Int × Int × Int)) ++ [(xa, xb, xc)]) ([] : List (Int × Int × Int)).length (fun i => ([] : List (Int × Int × Int)).getD i (0, 0, 0)) rfl HO8.out rfl (by first | exact HR8.out.ops | (go_simp; exact HR8.out.ops)) (by have hln := HLN.out; simp <;> omega) HB8.out.size ?_; intro v9 w9 ho9 hb9))
        have HN : Hid (OwnO w9 w.heap.size v9 ([] ++ [(xa, xb, xc)] ++ ([] : List (Int × Int × Int)))) := by
          have h := ho9
          rw [lst_all rfl] at h
          exact h
        have HB9 : Hid (Below w.heap.size w w9) := HB8.out.trans hb9
        clear HR8 HO8 HB8 ho9 hb9
        go_wp2_with fail
        go_roundw
        case rel => exact ⟨0 + 1, _, _, rfl, by omega, by go_num, ⟨HN.out, HI.out.1, HI.out.2⟩, HB9.out⟩
        case measure => simp [intOf]; omega
    · have HR : Hid (OwnO W1 w.heap.size (.slice (some ⟨g, 0, none⟩) j cap) S) := by
        have h := HO.out.1
        rw [hl] at h
        exact h
      rw [hl] at g3 ⊢
      have HSP : Hid (SrtS S ∧ S.Perm (lstO f j)) := HO.out.2
      clear HO hl
      have hlw : j ≤ 9223372036854775807 := by omega
      go_wp2_with fail
      go_loopw [5] (fun i wr => ∃ (k : Nat), k ≤ j ∧ i = .int .i64 k ∧ Hid (∀ t, k ≤ t → t < j → ltO (xa, xb, xc) (S.getD t (0, 0, 0)) = true) ∧ Below W1.heap.size W1 wr) (fun i _ => (intOf i).toNat)
      case atStart => exact ⟨j, by omega, rfl, fun t h1 h2 => by omega, Below.refl _ _⟩
      case round =>
        obtain ⟨k, hk, rfl, HA, hbk⟩ := hrel
        by_cases hk0 : k = 0
        · subst hk0
          have HI : Hid (SrtS (S.take 0 ++ [(xa, xb, xc)] ++ S.drop 0) ∧ (S.take 0 ++ [(xa, xb, xc)] ++ S.drop 0).Perm (lstO f (j + 1))) := ⟨HSP.out.1.ins (fun t h1 h2 => HA.out t h1 (by rw [← HLN.out]; exact h2)) (.inl rfl), perm_ins14 HSP.out.2 HXJ.out⟩
          have HBK : Hid (Below W1.heap.size W1 wr.drew) := hbk.drew
          clear hbk HA
          go_wp2_with fail
          refine wp_region_held_drew (S := (fun _ : World => True)) (by kernel_rfl) ?_ (fun hHeld => ?_)
          · trivial
          refine wpAnyH_take (i := 0) (oi := { dst := some 15, op := Op.move (Operand.tmp 5), type := 3, pos := _, after := _, guard := none }) (v := ?_) rfl (by kernel_rfl) (by kernel_rfl) (by kernel_rfl) (fun _ _ _ h => h) (Or.inl ⟨by rfl, ?_⟩) (by assumption) ?_
          rotate_left
          · intro wS hSw; (try dsimp only at hSw); go_simp; first | done | with_reducible rfl
          try simp only [Act.put, List.setIfInBounds_toArray, List.set_cons_zero, List.set_cons_succ]
          refine wpAnyH_take (i := 1) (oi := { dst := some 16, op := Op.binOp BinOp.gtr 3 (Operand.tmp 15) (Operand.const (Value.int IntKind.i64 0)) 3, type := 4, pos := _, after := _, guard := none }) (v := ?_) rfl (by kernel_rfl) (by kernel_rfl) (by kernel_rfl) (fun _ _ _ h => h) (Or.inl ⟨by rfl, ?_⟩) (by assumption) ?_
          rotate_left
          · intro wS hSw; (try dsimp only at hSw); go_simp; first | done | with_reducible rfl
          try simp only [Act.put, List.setIfInBounds_toArray, List.set_cons_zero, List.set_cons_succ]
          refine wpAnyH_take (i := 2) (oi := { dst := some 17, op := Op.move (Operand.tmp 16), type := 4, pos := _, after := _, guard := none }) (v := ?_) rfl (by kernel_rfl) (by kernel_rfl) (by kernel_rfl) (fun _ _ _ h => h) (Or.inl ⟨by rfl, ?_⟩) (by assumption) ?_
          rotate_left
          · intro wS hSw; (try dsimp only at hSw); go_simp; first | done | with_reducible rfl
          try simp only [Act.put, List.setIfInBounds_toArray, List.set_cons_zero, List.set_cons_succ]
          refine wpAnyH_take (i := 3) (oi := { dst := some 18, op := Op.move (Operand.tmp 0), type := 22, pos := _, after := _, guard := some (2, true) }) (v := undef) rfl (by kernel_rfl) (by kernel_rfl) (by kernel_rfl) (fun _ _ _ h => h) (Or.inr ⟨by rfl, rfl⟩) (by assumption) ?_
          try simp only [Act.put, List.setIfInBounds_toArray, List.set_cons_zero, List.set_cons_succ]
          refine wpAnyH_take (i := 4) (oi := { dst := some 19, op := Op.move (Operand.tmp 4), type := 3, pos := _, after := _, guard := some (2, true) }) (v := undef) rfl (by kernel_rfl) (by kernel_rfl) (by kernel_rfl) (fun _ _ _ h => h) (Or.inr ⟨by rfl, rfl⟩) (by assumption) ?_
          try simp only [Act.put, List.setIfInBounds_toArray, List.set_cons_zero, List.set_cons_succ]
          refine wpAnyH_take (i := 5) (oi := { dst := some 20, op := Op.indexAddr 22 (Operand.tmp 18) (Operand.tmp 19), type := 0, pos := _, after := _, guard := some (2, true) }) (v := undef) rfl (by kernel_rfl) (by kernel_rfl) (by kernel_rfl) (fun _ _ _ h => h) (Or.inr ⟨by rfl, rfl⟩) (by assumption) ?_
          try simp only [Act.put, List.setIfInBounds_toArray, List.set_cons_zero, List.set_cons_succ]
          refine wpAnyH_take (i := 6) (oi := { dst := some 21, op := Op.load 24 (Operand.tmp 20), type := 24, pos := _, after := _, guard := some (2, true) }) (v := undef) rfl (by kernel_rfl) (by kernel_rfl) (by kernel_rfl) (fun _ _ _ h => h) (Or.inr ⟨by rfl, rfl⟩) (by assumption) ?_
          try simp only [Act.put, List.setIfInBounds_toArray, List.set_cons_zero, List.set_cons_succ]
          refine wpAnyH_take (i := 7) (oi := { dst := some 22, op := Op.move (Operand.tmp 3), type := 22, pos := _, after := _, guard := some (2, true) }) (v := undef) rfl (by kernel_rfl) (by kernel_rfl) (by kernel_rfl) (fun _ _ _ h => h) (Or.inr ⟨by rfl, rfl⟩) (by assumption) ?_
          try simp only [Act.put, List.setIfInBounds_toArray, List.set_cons_zero, List.set_cons_succ]
          refine wpAnyH_take (i := 8) (oi := { dst := some 23, op := Op.move (Operand.tmp 5), type := 3, pos := _, after := _, guard := some (2, true) }) (v := undef) rfl (by kernel_rfl) (by kernel_rfl) (by kernel_rfl) (fun _ _ _ h => h) (Or.inr ⟨by rfl, rfl⟩) (by assumption) ?_
          try simp only [Act.put, List.setIfInBounds_toArray, List.set_cons_zero, List.set_cons_succ]
          refine wpAnyH_take (i := 9) (oi := { dst := some 24, op := Op.binOp BinOp.sub 3 (Operand.tmp 23) (Operand.const (Value.int IntKind.i64 1)) 3, type := 3, pos := _, after := _, guard := some (2, true) }) (v := undef) rfl (by kernel_rfl) (by kernel_rfl) (by kernel_rfl) (fun _ _ _ h => h) (Or.inr ⟨by rfl, rfl⟩) (by assumption) ?_
          try simp only [Act.put, List.setIfInBounds_toArray, List.set_cons_zero, List.set_cons_succ]
          refine wpAnyH_take (i := 10) (oi := { dst := some 25, op := Op.indexAddr 22 (Operand.tmp 22) (Operand.tmp 24), type := 0, pos := _, after := _, guard := some (2, true) }) (v := undef) rfl (by kernel_rfl) (by kernel_rfl) (by kernel_rfl) (fun _ _ _ h => h) (Or.inr ⟨by rfl, rfl⟩) (by assumption) ?_
          try simp only [Act.put, List.setIfInBounds_toArray, List.set_cons_zero, List.set_cons_succ]
          refine wpAnyH_take (i := 11) (oi := { dst := some 26, op := Op.load 24 (Operand.tmp 25), type := 24, pos := _, after := _, guard := some (2, true) }) (v := undef) rfl (by kernel_rfl) (by kernel_rfl) (by kernel_rfl) (fun _ _ _ h => h) (Or.inr ⟨by rfl, rfl⟩) (by assumption) ?_
          try simp only [Act.put, List.setIfInBounds_toArray, List.set_cons_zero, List.set_cons_succ]
          refine wpAnyH_take (i := 12) (oi := { dst := some 27, op := Op.call { callee := Callee.value (Operand.func 12), args := #[Operand.tmp 21, Operand.tmp 26], argTypes := #[24, 24] }, type := 4, pos := _, after := _, guard := some (2, true) }) (v := undef) rfl (by kernel_rfl) (by kernel_rfl) (by kernel_rfl) (fun _ _ _ h => h) (Or.inr ⟨by rfl, rfl⟩) (by assumption) ?_
          try simp only [Act.put, List.setIfInBounds_toArray, List.set_cons_zero, List.set_cons_succ]
          refine wpAnyH_take (i := 13) (oi := { dst := some 28, op := Op.pick (Operand.tmp 17) (Operand.tmp 27) (Operand.const (Value.bool false)), type := 4, pos := _, after := _, guard := none }) (v := ?_) rfl (by kernel_rfl) (by kernel_rfl) (by kernel_rfl) (fun _ _ _ h => h) (Or.inl ⟨by rfl, ?_⟩) (by assumption) ?_
          rotate_left
          · intro wS hSw; (try dsimp only at hSw); go_simp; first | done | with_reducible rfl
          try simp only [Act.put, List.setIfInBounds_toArray, List.set_cons_zero, List.set_cons_succ]
          refine wpAnyH_done (by kernel_rfl) ?_ _
          generalize wr.drew = W2 at *
          have HO2 : Hid (OwnO W2 w.heap.size (.slice (some ⟨g, 0, none⟩) j cap) S) := HR.out.later HBK.out
          have hg2 : g < W2.heap.size := Nat.lt_of_lt_of_le g2 HBK.out.size
          have HT : Hid (Ops W2 (.slice (some ⟨g, 0, none⟩) j cap) j (fun t => S.getD t (0, 0, 0))) := by
            have h := HO2.out.ops
            rw [HLN.out] at h
            exact h
          have HB2 : Hid (Below w.heap.size w W2) := HB1.out.trans (HBK.out.mono HB1.out.size)
          clear HBK HB1
          go_wp2_with (first | (at_builtin; refine append_ops rfl _ _ rfl W2.heap.size (.slice none 0 0) _ [] j (fun t => S.getD t (0, 0, 0)) rfl (OwnO.nil _ _) rfl (by go_simp; exact HT.out) (by simp <;> omega) (Nat.le_refl _) ?_; intro rv w6 ho6 hb6))
          have HR6 : Hid (OwnO w6 W2.heap.size rv S) := by
            have h := ho6
            rw [List.nil_append, lst_all HLN.out] at h
            exact h
          have HO6 : Hid (OwnO w6 w.heap.size (.slice (some ⟨g, 0, none⟩) j cap) S) := HO2.out.later hb6
          have HB6 : Hid (Below w.heap.size w w6) := HB2.out.trans (hb6.mono HB2.out.size)
          have s26 := hb6.size
          clear HT HO2 HB2 ho6 hb6
          refine wp_region_held_drew (S := (fun w' : World => w'.cell? ⟨bk, o + j * 3, none⟩ = some (.int .i64 xa) ∧ w'.cell? ⟨bk, o + j * 3 + 1, none⟩ = some (.int .i64 xb) ∧ w'.cell? ⟨bk, o + j * 3 + 2, none⟩ = some (.int .i64 xc))) (by kernel_rfl) ?_ (fun hHeld => ?_)
          · exact HCW.out _ HB6.out.drew
          refine wpAnyH_take (i := 0) (oi := { dst := some 35, op := Op.move (Operand.tmp 3), type := 22, pos := _, after := _, guard := none }) (v := ?_) rfl (by kernel_rfl) (by kernel_rfl) (by kernel_rfl) (fun _ _ _ h => h) (Or.inl ⟨by rfl, ?_⟩) (by assumption) ?_
          rotate_left
          · intro wS hSw; (try dsimp only at hSw); go_simp; first | done | with_reducible rfl
          try simp only [Act.put, List.setIfInBounds_toArray, List.set_cons_zero, List.set_cons_succ]
          refine wpAnyH_take (i := 1) (oi := { dst := some 36, op := Op.move (Operand.tmp 5), type := 3, pos := _, after := _, guard := none }) (v := ?_) rfl (by kernel_rfl) (by kernel_rfl) (by kernel_rfl) (fun _ _ _ h => h) (Or.inl ⟨by rfl, ?_⟩) (by assumption) ?_
          rotate_left
          · intro wS hSw; (try dsimp only at hSw); go_simp; first | done | with_reducible rfl
          try simp only [Act.put, List.setIfInBounds_toArray, List.set_cons_zero, List.set_cons_succ]
          refine wpAnyH_take (i := 2) (oi := { dst := some 37, op := Op.slice 22 (Operand.tmp 35) none (some (Operand.tmp 36)) none, type := 22, pos := _, after := _, guard := none }) (v := ?_) rfl (by kernel_rfl) (by kernel_rfl) (by kernel_rfl) (fun _ _ _ h => h) (Or.inl ⟨by rfl, ?_⟩) (by assumption) ?_
          rotate_left
          · intro wS hSw; (try dsimp only at hSw); go_simp; first | done | with_reducible rfl
          try simp only [Act.put, List.setIfInBounds_toArray, List.set_cons_zero, List.set_cons_succ]
          refine wpAnyH_take (i := 3) (oi := { dst := some 38, op := Op.move (Operand.tmp 0), type := 22, pos := _, after := _, guard := none }) (v := ?_) rfl (by kernel_rfl) (by kernel_rfl) (by kernel_rfl) (fun _ _ _ h => h) (Or.inl ⟨by rfl, ?_⟩) (by assumption) ?_
          rotate_left
          · intro wS hSw; (try dsimp only at hSw); go_simp; first | done | with_reducible rfl
          try simp only [Act.put, List.setIfInBounds_toArray, List.set_cons_zero, List.set_cons_succ]
          refine wpAnyH_take (i := 4) (oi := { dst := some 39, op := Op.move (Operand.tmp 4), type := 3, pos := _, after := _, guard := none }) (v := ?_) rfl (by kernel_rfl) (by kernel_rfl) (by kernel_rfl) (fun _ _ _ h => h) (Or.inl ⟨by rfl, ?_⟩) (by assumption) ?_
          rotate_left
          · intro wS hSw; (try dsimp only at hSw); go_simp; first | done | with_reducible rfl
          try simp only [Act.put, List.setIfInBounds_toArray, List.set_cons_zero, List.set_cons_succ]
          refine wpAnyH_take (i := 5) (oi := { dst := some 40, op := Op.indexAddr 22 (Operand.tmp 38) (Operand.tmp 39), type := 0, pos := _, after := _, guard := none }) (v := ?_) rfl (by kernel_rfl) (by kernel_rfl) (by kernel_rfl) (fun _ _ _ h => h) (Or.inl ⟨by rfl, ?_⟩) (by assumption) ?_
          rotate_left
          · intro wS hSw; (try dsimp only at hSw); go_simp; first | done | with_reducible rfl
          try simp only [Act.put, List.setIfInBounds_toArray, List.set_cons_zero, List.set_cons_succ]
          refine wpAnyH_take (i := 6) (oi := { dst := some 41, op := Op.load 24 (Operand.tmp 40), type := 24, pos := _, after := _, guard := none }) (v := ?_) rfl (by kernel_rfl) (by kernel_rfl) (by kernel_rfl) (fun _ _ _ h => h) (Or.inl ⟨by rfl, ?_⟩) (by assumption) ?_
          rotate_left
          · intro wS hSw; (try dsimp only at hSw); go_simp; first | done | with_reducible rfl
          try simp only [Act.put, List.setIfInBounds_toArray, List.set_cons_zero, List.set_cons_succ]
          have hB7 : Below w.heap.size w (w6.alloc (.cells #[.int .i64 xa, .int .i64 xb, .int .i64 xc] 24)).drew := (HB6.out.alloc HB6.out.size _).drew
          have ho7 : OwnO (w6.alloc (.cells #[.int .i64 xa, .int .i64 xb, .int .i64 xc] 24)).drew w.heap.size (.slice (some ⟨g, 0, none⟩) j cap) S := HO6.out.later (((Below.refl _ _).alloc (Nat.le_refl _) _).drew)
          have hr7 : OwnO (w6.alloc (.cells #[.int .i64 xa, .int .i64 xb, .int .i64 xc] 24)).drew W2.heap.size rv S := HR6.out.later (((Below.refl _ _).alloc (Nat.le_refl _) _).drew)
          have hone := ops_one14 w6 xa xb xc
          refine wpAnyH_ready (rs := [7]) (by kernel_rfl) (by simp) ?_
          refine AllReadyH.cons (o := { dst := some 42, op := Op.buildSlice 22 1 #[(0, Operand.tmp 41)], type := 22, pos := _, after := _, guard := none }) rfl (fun K hK => ?_) AllReadyH.nil
          go_simp
          refine hK.out _ _ ?_ (fun hHeld => ?_)
          · exact HCW.out _ hB7
          clear hK K
          try simp only [Act.put, List.setIfInBounds_toArray, List.set_cons_zero, List.set_cons_succ]
          refine wpAnyH_ready (rs := [8]) (by kernel_rfl) (by simp) ?_
          refine AllReadyH.cons (o := { dst := some 43, op := Op.call { callee := Callee.builtin Builtin.append, args := #[Operand.tmp 37, Operand.tmp 42], argTypes := #[22, 22] }, type := 22, pos := _, after := _, guard := none }) rfl (fun K hK => ?_) AllReadyH.nil
          refine step_append_opsG rfl _ _ rfl w.heap.size (.slice (some ⟨g, 0, none⟩) 0 cap) _ (S.take 0) 1 (fun _ => (xa, xb, xc)) (by go_simp) (OwnO.front (t := 0) ho7 HLN.out (by omega)) rfl hone (by simp) hB7.size ?_
          intro v8 w8 ho8 hg8
          have HB8 : Hid (Below w.heap.size w w8) := hB7.grown hg8 hB7.size (fun t ht => by simp [Value.ownBlock] at ht; omega)
          have HR8 : Hid (OwnO w8 W2.heap.size rv S) := OwnO.kept hr7 hg8 (fun t ht e => by have h := (OwnO.low hr7 t ht).1; simp [Value.ownBlock] at e; omega)
          have HO8 : Hid (OwnO w8 w.heap.size v8 ((S.take 0) ++ [(xa, xb, xc)])) := ho8
          refine hK.out _ _ ?_ (fun hHeld => ?_)
          · exact HCW.out _ HB8.out
          clear hK K
          try simp only [Act.put, List.setIfInBounds_toArray, List.set_cons_zero, List.set_cons_succ]
          refine wpAnyH_take (i := 9) (oi := { dst := some 3, op := Op.assign (Operand.tmp 43), type := 22, pos := _, after := _, guard := none }) (v := ?_) rfl (by kernel_rfl) (by kernel_rfl) (by kernel_rfl) (fun _ _ _ h => h) (Or.inl ⟨by rfl, ?_⟩) (by assumption) ?_
          rotate_left
          · intro wS hSw; (try dsimp only at hSw); go_simp; first | done | with_reducible rfl
          try simp only [Act.put, List.setIfInBounds_toArray, List.set_cons_zero, List.set_cons_succ]
          refine wpAnyH_done (by kernel_rfl) ?_ _
          clear hone hr7 ho7 hB7 ho8 hg8 HR6 HO6 HB6
          go_wp2_with (first | (at_builtin; refine append_ops rfl _ _ rfl w.heap.size v8 rv ((S.take 0) ++ [(xa, xb, xc)]) S.length (fun i => S.getD i (0, 0, 0)) rfl HO8.out rfl (by first | exact HR8.out.ops | (go_simp; exact HR8.out.ops)) (by have hln := HLN.out; simp <;> omega) HB8.out.size ?_; intro v9 w9 ho9 hb9))
          have HN : Hid (OwnO w9 w.heap.size v9 (S.take 0 ++ [(xa, xb, xc)] ++ S.drop 0)) := by
            have h := ho9
            rw [lst_all rfl] at h
            exact h
          have HB9 : Hid (Below w.heap.size w w9) := HB8.out.trans hb9
          clear HR8 HO8 HB8 ho9 hb9
          go_wp2_with fail
          go_roundw
          case rel => exact ⟨j + 1, _, _, rfl, by omega, by go_num, ⟨HN.out, HI.out.1, HI.out.2⟩, HB9.out⟩
          case measure => simp [intOf]; omega
        · obtain ⟨m, hm⟩ : ∃ m, k = m + 1 := ⟨k - 1, by omega⟩
          have hmj : m < j := by omega
          have q1 : decide ((0 : Int) < k) = true := decide_eq_true (by omega)
          have q2 : decide (0 < k) = true := decide_eq_true (by omega)
          have hmi : (m : Int) < j := by omega
          have hwm : IntKind.i64.wrap ((k : Int) - 1) = (m : Int) := by rw [IntKind.wrap_i64]; omega
          obtain ⟨⟨ya, yb, yc⟩, hY⟩ : ∃ y, S.getD m (0, 0, 0) = y := ⟨_, rfl⟩
          obtain ⟨l, hl⟩ : ∃ l, ltO (xa, xb, xc) (ya, yb, yc) = l := ⟨_, rfl⟩
          have HL : Hid (ltO (xa, xb, xc) (ya, yb, yc) = l) := hl
          have HN1 : Hid (l = true → ∀ t, m ≤ t → t < j → ltO (xa, xb, xc) (S.getD t (0, 0, 0)) = true) := fun e t h1 h2 => by
            rcases (show t = m ∨ k ≤ t by omega) with rfl | h
            · rw [hY, hl]; exact e
            · exact HA.out t h h2
          have HI1 : Hid (l = false → SrtS (S.take k ++ [(xa, xb, xc)] ++ S.drop k) ∧ (S.take k ++ [(xa, xb, xc)] ++ S.drop k).Perm (lstO f (j + 1))) := fun e => ⟨HSP.out.1.ins (fun t h1 h2 => HA.out t h1 (by rw [← HLN.out]; exact h2)) (.inr ⟨m, hm, by rw [HLN.out]; exact hmj, by rw [hY, hl]; exact e⟩), perm_ins14 HSP.out.2 HXJ.out⟩
          have CS : Hid (∀ y, Below wr.heap.size wr y → (y.cell? ⟨bk, o + j * 3, none⟩ = some (.int .i64 xa) ∧ y.cell? ⟨bk, o + j * 3 + 1, none⟩ = some (.int .i64 xb) ∧ y.cell? ⟨bk, o + j * 3 + 2, none⟩ = some (.int .i64 xc) ∧ y.cell? ⟨g, m * 3, none⟩ = some (.int .i64 ya) ∧ y.cell? ⟨g, m * 3 + 1, none⟩ = some (.int .i64 yb) ∧ y.cell? ⟨g, m * 3 + 2, none⟩ = some (.int .i64 yc)) ∧ Below wr.heap.size wr y) := fun y hy => by
            have hb1 := hbk.trans (hy.mono hbk.size)
            have h1 := HCW.out y (HB1.out.trans (hb1.mono HB1.out.size))
            obtain ⟨a', c', e', _, _, _, h3⟩ := (HR.out.later hb1).ops
            cases e'
            obtain ⟨b', o', e', h4⟩ := h3 (by have := HLN.out; omega)
            cases e'
            have h2 : y.cell? ⟨g, m * 3, none⟩ = some (.int .i64 (S.getD m (0, 0, 0)).1) ∧ y.cell? ⟨g, m * 3 + 1, none⟩ = some (.int .i64 (S.getD m (0, 0, 0)).2.1) ∧ y.cell? ⟨g, m * 3 + 2, none⟩ = some (.int .i64 (S.getD m (0, 0, 0)).2.2) := by
              have h := h4 m (by have := HLN.out; omega)
              rw [Nat.zero_add] at h
              exact h
            rw [hY] at h2
            exact ⟨⟨h1.1, h1.2.1, h1.2.2, h2.1, h2.2.1, h2.2.2⟩, hy⟩
          have HMK : Hid (k = m + 1 ∧ IntKind.i64.wrap ((k : Int) - 1) = (m : Int)) := ⟨hm, hwm⟩
          clear HA hY hl hm
          cases l with
          | true =>
            go_wp2_with fail
            go_region_held3 (fun y => (y.cell? ⟨bk, o + j * 3, none⟩ = some (.int .i64 xa) ∧ y.cell? ⟨bk, o + j * 3 + 1, none⟩ = some (.int .i64 xb) ∧ y.cell? ⟨bk, o + j * 3 + 2, none⟩ = some (.int .i64 xc) ∧ y.cell? ⟨g, m * 3, none⟩ = some (.int .i64 ya) ∧ y.cell? ⟨g, m * 3 + 1, none⟩ = some (.int .i64 yb) ∧ y.cell? ⟨g, m * 3 + 2, none⟩ = some (.int .i64 yc)) ∧ Below wr.heap.size wr y)
              (first | exact CS.out _ (bstep (by assumption) (sBel (by assumption))) | exact CS.out _ (Below.refl _ _).drew)
              (first | (go_at_call 12; refine (rless14_any xa xb xc ya yb yc _).mono ?_; rintro e w7 ⟨rfl, hb7⟩; rw [HL.out]))
            go_wp2_with fail
            go_roundw
            case rel => exact ⟨m, by omega, by first | rfl | go_num, HN1.out (by trivial), hbk.trans ((sBel (by assumption)).mono hbk.size)⟩
            case measure => have hq1 := HMK.out.1; have hq2 := HMK.out.2; simp [intOf]; omega
          | false =>
            have HI := HI1.out rfl
            have HI : Hid (SrtS (S.take k ++ [(xa, xb, xc)] ++ S.drop k) ∧ (S.take k ++ [(xa, xb, xc)] ++ S.drop k).Perm (lstO f (j + 1))) := HI
            clear HN1 HI1
            go_wp2_with fail
            go_region_held3 (fun y => (y.cell? ⟨bk, o + j * 3, none⟩ = some (.int .i64 xa) ∧ y.cell? ⟨bk, o + j * 3 + 1, none⟩ = some (.int .i64 xb) ∧ y.cell? ⟨bk, o + j * 3 + 2, none⟩ = some (.int .i64 xc) ∧ y.cell? ⟨g, m * 3, none⟩ = some (.int .i64 ya) ∧ y.cell? ⟨g, m * 3 + 1, none⟩ = some (.int .i64 yb) ∧ y.cell? ⟨g, m * 3 + 2, none⟩ = some (.int .i64 yc)) ∧ Below wr.heap.size wr y)
              (first | exact CS.out _ (bstep (by assumption) (sBel (by assumption))) | exact CS.out _ (Below.refl _ _).drew)
              (first | (go_at_call 12; refine (rless14_any xa xb xc ya yb yc _).mono ?_; rintro e w7 ⟨rfl, hb7⟩; rw [HL.out]))
            have HBK : Hid (Below W1.heap.size W1 w7) := hbk.trans ((sBel (by assumption)).mono hbk.size)
            clear hbk CS q1 q2 hwm hmi hmj
            generalize w7 = W2 at *
            have HO2 : Hid (OwnO W2 w.heap.size (.slice (some ⟨g, 0, none⟩) j cap) S) := HR.out.later HBK.out
            have hg2 : g < W2.heap.size := Nat.lt_of_lt_of_le g2 HBK.out.size
            have HT : Hid (Ops W2 (.slice (if cap = k then some ⟨g, 0, none⟩ else some ⟨g, k * 3, none⟩) (j - k) (cap - k)) (j - k) (fun t => S.getD (k + t) (0, 0, 0))) := by
              have h := HO2.out.ops
              rw [HLN.out] at h
              have h := Ops.tailK h hk
              rw [Nat.zero_add] at h
              exact h
            have hkc : (k : Int) ≤ cap := by omega
            have HB2 : Hid (Below w.heap.size w W2) := HB1.out.trans (HBK.out.mono HB1.out.size)
            clear HBK HB1
            go_wp2_with (first | (at_builtin; refine append_ops rfl _ _ rfl W2.heap.size (.slice none 0 0) _ [] (j - k) (fun t => S.getD (k + t) (0, 0, 0)) rfl (OwnO.nil _ _) rfl (by go_simp; exact HT.out) (by simp <;> omega) (Nat.le_refl _) ?_; intro rv w6 ho6 hb6))
            · have HR6 : Hid (OwnO w6 W2.heap.size rv (S.drop k)) := by
                have h := ho6
                rw [List.nil_append, lst_drop HLN.out k] at h
                exact h
              have HO6 : Hid (OwnO w6 w.heap.size (.slice (some ⟨g, 0, none⟩) j cap) S) := HO2.out.later hb6
              have HB6 : Hid (Below w.heap.size w w6) := HB2.out.trans (hb6.mono HB2.out.size)
              have s26 := hb6.size
              clear HT HO2 HB2 ho6 hb6
              refine wp_region_held_drew (S := (fun w' : World => w'.cell? ⟨bk, o + j * 3, none⟩ = some (.int .i64 xa) ∧ w'.cell? ⟨bk, o + j * 3 + 1, none⟩ = some (.int .i64 xb) ∧ w'.cell? ⟨bk, o + j * 3 + 2, none⟩ = some (.int .i64 xc))) (by kernel_rfl) ?_ (fun hHeld => ?_)
              · exact HCW.out _ HB6.out.drew
              refine wpAnyH_take (i := 0) (oi := { dst := some 35, op := Op.move (Operand.tmp 3), type := 22, pos := _, after := _, guard := none }) (v := ?_) rfl (by kernel_rfl) (by kernel_rfl) (by kernel_rfl) (fun _ _ _ h => h) (Or.inl ⟨by rfl, ?_⟩) (by assumption) ?_
              rotate_left
              · intro wS hSw; (try dsimp only at hSw); go_simp; first | done | with_reducible rfl
              try simp only [Act.put, List.setIfInBounds_toArray, List.set_cons_zero, List.set_cons_succ]
              refine wpAnyH_take (i := 1) (oi := { dst := some 36, op := Op.move (Operand.tmp 5), type := 3, pos := _, after := _, guard := none }) (v := ?_) rfl (by kernel_rfl) (by kernel_rfl) (by kernel_rfl) (fun _ _ _ h => h) (Or.inl ⟨by rfl, ?_⟩) (by assumption) ?_
              rotate_left
              · intro wS hSw; (try dsimp only at hSw); go_simp; first | done | with_reducible rfl
              try simp only [Act.put, List.setIfInBounds_toArray, List.set_cons_zero, List.set_cons_succ]
              refine wpAnyH_take (i := 2) (oi := { dst := some 37, op := Op.slice 22 (Operand.tmp 35) none (some (Operand.tmp 36)) none, type := 22, pos := _, after := _, guard := none }) (v := ?_) rfl (by kernel_rfl) (by kernel_rfl) (by kernel_rfl) (fun _ _ _ h => h) (Or.inl ⟨by rfl, ?_⟩) (by assumption) ?_
              rotate_left
              · intro wS hSw; (try dsimp only at hSw); go_simp; first | done | with_reducible rfl
              try simp only [Act.put, List.setIfInBounds_toArray, List.set_cons_zero, List.set_cons_succ]
              refine wpAnyH_take (i := 3) (oi := { dst := some 38, op := Op.move (Operand.tmp 0), type := 22, pos := _, after := _, guard := none }) (v := ?_) rfl (by kernel_rfl) (by kernel_rfl) (by kernel_rfl) (fun _ _ _ h => h) (Or.inl ⟨by rfl, ?_⟩) (by assumption) ?_
              rotate_left
              · intro wS hSw; (try dsimp only at hSw); go_simp; first | done | with_reducible rfl
              try simp only [Act.put, List.setIfInBounds_toArray, List.set_cons_zero, List.set_cons_succ]
              refine wpAnyH_take (i := 4) (oi := { dst := some 39, op := Op.move (Operand.tmp 4), type := 3, pos := _, after := _, guard := none }) (v := ?_) rfl (by kernel_rfl) (by kernel_rfl) (by kernel_rfl) (fun _ _ _ h => h) (Or.inl ⟨by rfl, ?_⟩) (by assumption) ?_
              rotate_left
              · intro wS hSw; (try dsimp only at hSw); go_simp; first | done | with_reducible rfl
              try simp only [Act.put, List.setIfInBounds_toArray, List.set_cons_zero, List.set_cons_succ]
              refine wpAnyH_take (i := 5) (oi := { dst := some 40, op := Op.indexAddr 22 (Operand.tmp 38) (Operand.tmp 39), type := 0, pos := _, after := _, guard := none }) (v := ?_) rfl (by kernel_rfl) (by kernel_rfl) (by kernel_rfl) (fun _ _ _ h => h) (Or.inl ⟨by rfl, ?_⟩) (by assumption) ?_
              rotate_left
              · intro wS hSw; (try dsimp only at hSw); go_simp; first | done | with_reducible rfl
              try simp only [Act.put, List.setIfInBounds_toArray, List.set_cons_zero, List.set_cons_succ]
              refine wpAnyH_take (i := 6) (oi := { dst := some 41, op := Op.load 24 (Operand.tmp 40), type := 24, pos := _, after := _, guard := none }) (v := ?_) rfl (by kernel_rfl) (by kernel_rfl) (by kernel_rfl) (fun _ _ _ h => h) (Or.inl ⟨by rfl, ?_⟩) (by assumption) ?_
              rotate_left
              · intro wS hSw; (try dsimp only at hSw); go_simp; first | done | with_reducible rfl
              try simp only [Act.put, List.setIfInBounds_toArray, List.set_cons_zero, List.set_cons_succ]
              have hB7 : Below w.heap.size w (w6.alloc (.cells #[.int .i64 xa, .int .i64 xb, .int .i64 xc] 24)).drew := (HB6.out.alloc HB6.out.size _).drew
              have ho7 : OwnO (w6.alloc (.cells #[.int .i64 xa, .int .i64 xb, .int .i64 xc] 24)).drew w.heap.size (.slice (some ⟨g, 0, none⟩) j cap) S := HO6.out.later (((Below.refl _ _).alloc (Nat.le_refl _) _).drew)
              have hr7 : OwnO (w6.alloc (.cells #[.int .i64 xa, .int .i64 xb, .int .i64 xc] 24)).drew W2.heap.size rv (S.drop k) := HR6.out.later (((Below.refl _ _).alloc (Nat.le_refl _) _).drew)
              have hone := ops_one14 w6 xa xb xc
              refine wpAnyH_ready (rs := [7]) (by kernel_rfl) (by simp) ?_
              refine AllReadyH.cons (o := { dst := some 42, op := Op.buildSlice 22 1 #[(0, Operand.tmp 41)], type := 22, pos := _, after := _, guard := none }) rfl (fun K hK => ?_) AllReadyH.nil
              go_simp
              refine hK.out _ _ ?_ (fun hHeld => ?_)
              · exact HCW.out _ hB7
              clear hK K
              try simp only [Act.put, List.setIfInBounds_toArray, List.set_cons_zero, List.set_cons_succ]
              refine wpAnyH_ready (rs := [8]) (by kernel_rfl) (by simp) ?_
              refine AllReadyH.cons (o := { dst := some 43, op := Op.call { callee := Callee.builtin Builtin.append, args := #[Operand.tmp 37, Operand.tmp 42], argTypes := #[22, 22] }, type := 22, pos := _, after := _, guard := none }) rfl (fun K hK => ?_) AllReadyH.nil
              refine step_append_opsG rfl _ _ rfl w.heap.size (.slice (some ⟨g, 0, none⟩) k cap) _ (S.take k) 1 (fun _ => (xa, xb, xc)) (by go_simp) (OwnO.front (t := k) ho7 HLN.out hk) rfl hone (by rw [List.length_take]; omega) hB7.size ?_
              intro v8 w8 ho8 hg8
              have HB8 : Hid (Below w.heap.size w w8) := hB7.grown hg8 hB7.size (fun t ht => by simp [Value.ownBlock] at ht; omega)
              have HR8 : Hid (OwnO w8 W2.heap.size rv (S.drop k)) := OwnO.kept hr7 hg8 (fun t ht e => by have h := (OwnO.low hr7 t ht).1; simp [Value.ownBlock] at e; omega)
              have HO8 : Hid (OwnO w8 w.heap.size v8 ((S.take k) ++ [(xa, xb, xc)])) := ho8
              refine hK.out _ _ ?_ (fun hHeld => ?_)
              · exact HCW.out _ HB8.out
              clear hK K
              try simp only [Act.put, List.setIfInBounds_toArray, List.set_cons_zero, List.set_cons_succ]
              refine wpAnyH_take (i := 9) (oi := { dst := some 3, op := Op.assign (Operand.tmp 43), type := 22, pos := _, after := _, guard := none }) (v := ?_) rfl (by kernel_rfl) (by kernel_rfl) (by kernel_rfl) (fun _ _ _ h => h) (Or.inl ⟨by rfl, ?_⟩) (by assumption) ?_
              rotate_left
              · intro wS hSw; (try dsimp only at hSw); go_simp; first | done | with_reducible rfl
              try simp only [Act.put, List.setIfInBounds_toArray, List.set_cons_zero, List.set_cons_succ]
              refine wpAnyH_done (by kernel_rfl) ?_ _
              clear hone hr7 ho7 hB7 ho8 hg8 HR6 HO6 HB6
              go_wp2_with (first | (at_builtin; refine append_ops rfl _ _ rfl w.heap.size v8 rv ((S.take k) ++ [(xa, xb, xc)]) (S.drop k).length (fun i => (S.drop k).getD i (0, 0, 0)) rfl HO8.out rfl (by first | exact HR8.out.ops | (go_simp; exact HR8.out.ops)) (by have hln := HLN.out; simp <;> omega) HB8.out.size ?_; intro v9 w9 ho9 hb9))
              have HN : Hid (OwnO w9 w.heap.size v9 (S.take k ++ [(xa, xb, xc)] ++ S.drop k)) := by
                have h := ho9
                rw [lst_all rfl] at h
                exact h
              have HB9 : Hid (Below w.heap.size w w9) := HB8.out.trans hb9
              clear HR8 HO8 HB8 ho9 hb9
              go_wp2_with fail
              go_roundw
              case rel => exact ⟨j + 1, _, _, rfl, by omega, by go_num, ⟨HN.out, HI.out.1, HI.out.2⟩, HB9.out⟩
              case measure => simp [intOf]; omega
            · have HR6 : Hid (OwnO w6 W2.heap.size rv (S.drop k)) := by
                have h := ho6
                rw [List.nil_append, lst_drop HLN.out k] at h
                exact h
              have HO6 : Hid (OwnO w6 w.heap.size (.slice (some ⟨g, 0, none⟩) j cap) S) := HO2.out.later hb6
              have HB6 : Hid (Below w.heap.size w w6) := HB2.out.trans (hb6.mono HB2.out.size)
              have s26 := hb6.size
              clear HT HO2 HB2 ho6 hb6
              refine wp_region_held_drew (S := (fun w' : World => w'.cell? ⟨bk, o + j * 3, none⟩ = some (.int .i64 xa) ∧ w'.cell? ⟨bk, o + j * 3 + 1, none⟩ = some (.int .i64 xb) ∧ w'.cell? ⟨bk, o + j * 3 + 2, none⟩ = some (.int .i64 xc))) (by kernel_rfl) ?_ (fun hHeld => ?_)
              · exact HCW.out _ HB6.out.drew
              refine wpAnyH_take (i := 0) (oi := { dst := some 35, op := Op.move (Operand.tmp 3), type := 22, pos := _, after := _, guard := none }) (v := ?_) rfl (by kernel_rfl) (by kernel_rfl) (by kernel_rfl) (fun _ _ _ h => h) (Or.inl ⟨by rfl, ?_⟩) (by assumption) ?_
              rotate_left
              · intro wS hSw; (try dsimp only at hSw); go_simp; first | done | with_reducible rfl
              try simp only [Act.put, List.setIfInBounds_toArray, List.set_cons_zero, List.set_cons_succ]
              refine wpAnyH_take (i := 1) (oi := { dst := some 36, op := Op.move (Operand.tmp 5), type := 3, pos := _, after := _, guard := none }) (v := ?_) rfl (by kernel_rfl) (by kernel_rfl) (by kernel_rfl) (fun _ _ _ h => h) (Or.inl ⟨by rfl, ?_⟩) (by assumption) ?_
              rotate_left
              · intro wS hSw; (try dsimp only at hSw); go_simp; first | done | with_reducible rfl
              try simp only [Act.put, List.setIfInBounds_toArray, List.set_cons_zero, List.set_cons_succ]
              refine wpAnyH_take (i := 2) (oi := { dst := some 37, op := Op.slice 22 (Operand.tmp 35) none (some (Operand.tmp 36)) none, type := 22, pos := _, after := _, guard := none }) (v := ?_) rfl (by kernel_rfl) (by kernel_rfl) (by kernel_rfl) (fun _ _ _ h => h) (Or.inl ⟨by rfl, ?_⟩) (by assumption) ?_
              rotate_left
              · intro wS hSw; (try dsimp only at hSw); go_simp; first | done | with_reducible rfl
              try simp only [Act.put, List.setIfInBounds_toArray, List.set_cons_zero, List.set_cons_succ]
              refine wpAnyH_take (i := 3) (oi := { dst := some 38, op := Op.move (Operand.tmp 0), type := 22, pos := _, after := _, guard := none }) (v := ?_) rfl (by kernel_rfl) (by kernel_rfl) (by kernel_rfl) (fun _ _ _ h => h) (Or.inl ⟨by rfl, ?_⟩) (by assumption) ?_
              rotate_left
              · intro wS hSw; (try dsimp only at hSw); go_simp; first | done | with_reducible rfl
              try simp only [Act.put, List.setIfInBounds_toArray, List.set_cons_zero, List.set_cons_succ]
              refine wpAnyH_take (i := 4) (oi := { dst := some 39, op := Op.move (Operand.tmp 4), type := 3, pos := _, after := _, guard := none }) (v := ?_) rfl (by kernel_rfl) (by kernel_rfl) (by kernel_rfl) (fun _ _ _ h => h) (Or.inl ⟨by rfl, ?_⟩) (by assumption) ?_
              rotate_left
              · intro wS hSw; (try dsimp only at hSw); go_simp; first | done | with_reducible rfl
              try simp only [Act.put, List.setIfInBounds_toArray, List.set_cons_zero, List.set_cons_succ]
              refine wpAnyH_take (i := 5) (oi := { dst := some 40, op := Op.indexAddr 22 (Operand.tmp 38) (Operand.tmp 39), type := 0, pos := _, after := _, guard := none }) (v := ?_) rfl (by kernel_rfl) (by kernel_rfl) (by kernel_rfl) (fun _ _ _ h => h) (Or.inl ⟨by rfl, ?_⟩) (by assumption) ?_
              rotate_left
              · intro wS hSw; (try dsimp only at hSw); go_simp; first | done | with_reducible rfl
              try simp only [Act.put, List.setIfInBounds_toArray, List.set_cons_zero, List.set_cons_succ]
              refine wpAnyH_take (i := 6) (oi := { dst := some 41, op := Op.load 24 (Operand.tmp 40), type := 24, pos := _, after := _, guard := none }) (v := ?_) rfl (by kernel_rfl) (by kernel_rfl) (by kernel_rfl) (fun _ _ _ h => h) (Or.inl ⟨by rfl, ?_⟩) (by assumption) ?_
              rotate_left
              · intro wS hSw; (try dsimp only at hSw); go_simp; first | done | with_reducible rfl
              try simp only [Act.put, List.setIfInBounds_toArray, List.set_cons_zero, List.set_cons_succ]
              have hB7 : Below w.heap.size w (w6.alloc (.cells #[.int .i64 xa, .int .i64 xb, .int .i64 xc] 24)).drew := (HB6.out.alloc HB6.out.size _).drew
              have ho7 : OwnO (w6.alloc (.cells #[.int .i64 xa, .int .i64 xb, .int .i64 xc] 24)).drew w.heap.size (.slice (some ⟨g, 0, none⟩) j cap) S := HO6.out.later (((Below.refl _ _).alloc (Nat.le_refl _) _).drew)
              have hr7 : OwnO (w6.alloc (.cells #[.int .i64 xa, .int .i64 xb, .int .i64 xc] 24)).drew W2.heap.size rv (S.drop k) := HR6.out.later (((Below.refl _ _).alloc (Nat.le_refl _) _).drew)
              have hone := ops_one14 w6 xa xb xc
              refine wpAnyH_ready (rs := [7]) (by kernel_rfl) (by simp) ?_
              refine AllReadyH.cons (o := { dst := some 42, op := Op.buildSlice 22 1 #[(0, Operand.tmp 41)], type := 22, pos := _, after := _, guard := none }) rfl (fun K hK => ?_) AllReadyH.nil
              go_simp
              refine hK.out _ _ ?_ (fun hHeld => ?_)
              · exact HCW.out _ hB7
              clear hK K
              try simp only [Act.put, List.setIfInBounds_toArray, List.set_cons_zero, List.set_cons_succ]
              refine wpAnyH_ready (rs := [8]) (by kernel_rfl) (by simp) ?_
              refine AllReadyH.cons (o := { dst := some 43, op := Op.call { callee := Callee.builtin Builtin.append, args := #[Operand.tmp 37, Operand.tmp 42], argTypes := #[22, 22] }, type := 22, pos := _, after := _, guard := none }) rfl (fun K hK => ?_) AllReadyH.nil
              refine step_append_opsG rfl _ _ rfl w.heap.size (.slice (some ⟨g, 0, none⟩) k cap) _ (S.take k) 1 (fun _ => (xa, xb, xc)) (by go_simp) (OwnO.front (t := k) ho7 HLN.out hk) rfl hone (by rw [List.length_take]; omega) hB7.size ?_
              intro v8 w8 ho8 hg8
              have HB8 : Hid (Below w.heap.size w w8) := hB7.grown hg8 hB7.size (fun t ht => by simp [Value.ownBlock] at ht; omega)
              have HR8 : Hid (OwnO w8 W2.heap.size rv (S.drop k)) := OwnO.kept hr7 hg8 (fun t ht e => by have h := (OwnO.low hr7 t ht).1; simp [Value.ownBlock] at e; omega)
              have HO8 : Hid (OwnO w8 w.heap.size v8 ((S.take k) ++ [(xa, xb, xc)])) := ho8
              refine hK.out _ _ ?_ (fun hHeld => ?_)
              · exact HCW.out _ HB8.out
              clear hK K
              try simp only [Act.put, List.setIfInBounds_toArray, List.set_cons_zero, List.set_cons_succ]
              refine wpAnyH_take (i := 9) (oi := { dst := some 3, op := Op.assign (Operand.tmp 43), type := 22, pos := _, after := _, guard := none }) (v := ?_) rfl (by kernel_rfl) (by kernel_rfl) (by kernel_rfl) (fun _ _ _ h => h) (Or.inl ⟨by rfl, ?_⟩) (by assumption) ?_
              rotate_left
              · intro wS hSw; (try dsimp only at hSw); go_simp; first | done | with_reducible rfl
              try simp only [Act.put, List.setIfInBounds_toArray, List.set_cons_zero, List.set_cons_succ]
              refine wpAnyH_done (by kernel_rfl) ?_ _
              clear hone hr7 ho7 hB7 ho8 hg8 HR6 HO6 HB6
              go_wp2_with (first | (at_builtin; refine append_ops rfl _ _ rfl w.heap.size v8 rv ((S.take k) ++ [(xa, xb, xc)]) (S.drop k).length (fun i => (S.drop k).getD i (0, 0, 0)) rfl HO8.out rfl (by first | exact HR8.out.ops | (go_simp; exact HR8.out.ops)) (by have hln := HLN.out; simp <;> omega) HB8.out.size ?_; intro v9 w9 ho9 hb9))
              have HN : Hid (OwnO w9 w.heap.size v9 (S.take k ++ [(xa, xb, xc)] ++ S.drop k)) := by
                have h := ho9
                rw [lst_all rfl] at h
                exact h
              have HB9 : Hid (Below w.heap.size w w9) := HB8.out.trans hb9
              clear HR8 HO8 HB8 ho9 hb9
              go_wp2_with fail
              go_roundw
              case rel => exact ⟨j + 1, _, _, rfl, by omega, by go_num, ⟨HN.out, HI.out.1, HI.out.2⟩, HB9.out⟩
              case measure => simp [intOf]; omega
end Go.Proofs.Ytcdkocdjbpebpaa
