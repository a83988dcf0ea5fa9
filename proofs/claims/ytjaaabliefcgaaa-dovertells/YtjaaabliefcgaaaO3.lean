/- Walk of dover's Lax. -/
import Derived.Test.YtjaaabliefcgaaaO2
import Derived.Test.YtjaaabliefcgaaaV2
import Derived.Test.YtjaaabliefcgaaaF1
import Derived.Deep.RegionHeld3
namespace Go.Proofs.Ytjaaabliefcgaaa
open Go.RowKit

theorem wrap_near {x : Int} (h0 : -9223372036854775808 ≤ x) (h1 : x ≤ 9223372036854775807) : IntKind.i64.wrap x = x := by
  rw [IntKind.wrap_i64]; omega
theorem below_of_grown {w w1 w2 : World} {p : Nat} (hb : Below w.heap.size w w1) (hp : w.heap.size ≤ p) (hg : w1.grownBy w2 (some p)) : Below w.heap.size w w2 :=
  hb.grown hg hb.size (fun k hk => by cases hk; exact hp)

set_option maxHeartbeats 1000000 in
set_option maxRecDepth 100000 in
theorem lax_any (i d c v r now : Int) (w : World) (hn : nearA ⟨i, d, c, v, r⟩) (h0 : -36028797018963968 ≤ now) (h1 : now ≤ 36028797018963968) :
    Calls Try.prog 14 #[.agg #[.int .i64 i, .int .i64 d, .int .i64 c, .int .i64 v, .int .i64 r], .int .i64 now] w fun e w' => e = .returned (.int .i64 (laxA ⟨i, d, c, v, r⟩ now)) ∧ Below w.heap.size w w' := by
  have HX : Hid (Bx5 (w.alloc (.cells #[.int .i64 i, .int .i64 d, .int .i64 c, .int .i64 v, .int .i64 r] 30)) w.heap.size i d c v r) := Bx5.new w i d c v r 30
  have HB : Hid (Below w.heap.size w (w.alloc (.cells #[.int .i64 i, .int .i64 d, .int .i64 c, .int .i64 v, .int .i64 r] 30))) := (Below.refl _ _).alloc (Nat.le_refl _) _
  unfold nearA at hn
  obtain ⟨n0, n1, n2, n3, n4, n5⟩ := hn
  simp only at n0 n1 n2 n3 n4 n5
  have q1 : IntKind.i64.wrap (c - r) = c - r := wrap_near (by omega) (by omega)
  have q2 : IntKind.i64.wrap (now + (c - r)) = now + (c - r) := wrap_near (by omega) (by omega)
  have q3 : IntKind.i64.wrap (d - (now + (c - r))) = d - (now + (c - r)) := wrap_near (by omega) (by omega)
  have HQ : Hid (IntKind.i64.wrap (c - r) = c - r ∧ IntKind.i64.wrap (now + (c - r)) = now + (c - r)) := ⟨q1, q2⟩
  have HR : Hid (laxA ⟨i, d, c, v, r⟩ now = d - (now + (c - r))) := by show _ = _; unfold laxA; simp only; omega
  clear n0 n1 n2 n3 n4 n5 h0 h1 q1 q2
  go_enter Try.func14, Try.ntmps14
  go_wp2_with fail
  generalize hW : (w.alloc (.cells #[.int .i64 i, .int .i64 d, .int .i64 c, .int .i64 v, .int .i64 r] 30)) = W at *
  clear hW
  have MK : Hid (∀ w', Below W.heap.size W w' → (w'.cell? ⟨w.heap.size, 0, none⟩ = some (.int .i64 i) ∧ w'.cell? ⟨w.heap.size, 1, none⟩ = some (.int .i64 d) ∧ w'.cell? ⟨w.heap.size, 2, none⟩ = some (.int .i64 c) ∧ w'.cell? ⟨w.heap.size, 3, none⟩ = some (.int .i64 v) ∧ w'.cell? ⟨w.heap.size, 4, none⟩ = some (.int .i64 r)) ∧ Below W.heap.size W w') := fun w' hb => ⟨HX.out.later hb, hb⟩
  refine wp_region_held_drew (S := (fun w' : World => (w'.cell? ⟨w.heap.size, 0, none⟩ = some (.int .i64 i) ∧ w'.cell? ⟨w.heap.size, 1, none⟩ = some (.int .i64 d) ∧ w'.cell? ⟨w.heap.size, 2, none⟩ = some (.int .i64 c) ∧ w'.cell? ⟨w.heap.size, 3, none⟩ = some (.int .i64 v) ∧ w'.cell? ⟨w.heap.size, 4, none⟩ = some (.int .i64 r)) ∧ Below W.heap.size W w')) (by kernel_rfl) ?_ (fun hHeld => ?_)
  · exact MK.out _ (Below.refl _ _).drew
  refine wpAnyH_take (i := 0) (oi := { dst := some 5, op := Op.fieldAddr 30 (Operand.tmp 2) 1, type := 0, pos := _, after := _, guard := none }) (v := ?_) rfl (by kernel_rfl) (by kernel_rfl) (by kernel_rfl) (fun _ _ _ h => h) (Or.inl ⟨by rfl, ?_⟩) (by assumption) ?_
  rotate_left
  · intro wS hSw; (try dsimp only at hSw); go_simp; first | done | with_reducible rfl
  try simp only [Act.put, List.setIfInBounds_toArray, List.set_cons_zero, List.set_cons_succ]
  refine wpAnyH_take (i := 1) (oi := { dst := some 6, op := Op.load 3 (Operand.tmp 5), type := 3, pos := _, after := _, guard := none }) (v := ?_) rfl (by kernel_rfl) (by kernel_rfl) (by kernel_rfl) (fun _ _ _ h => h) (Or.inl ⟨by rfl, ?_⟩) (by assumption) ?_
  rotate_left
  · intro wS hSw; (try dsimp only at hSw); go_simp; first | done | with_reducible rfl
  try simp only [Act.put, List.setIfInBounds_toArray, List.set_cons_zero, List.set_cons_succ]
  refine wpAnyH_take (i := 2) (oi := { dst := some 7, op := Op.move (Operand.tmp 1), type := 3, pos := _, after := _, guard := none }) (v := ?_) rfl (by kernel_rfl) (by kernel_rfl) (by kernel_rfl) (fun _ _ _ h => h) (Or.inl ⟨by rfl, ?_⟩) (by assumption) ?_
  rotate_left
  · intro wS hSw; (try dsimp only at hSw); go_simp; first | done | with_reducible rfl
  try simp only [Act.put, List.setIfInBounds_toArray, List.set_cons_zero, List.set_cons_succ]
  refine wpAnyH_take (i := 4) (oi := { dst := some 9, op := Op.load 30 (Operand.tmp 2), type := 30, pos := _, after := _, guard := none }) (v := ?_) rfl (by kernel_rfl) (by kernel_rfl) (by kernel_rfl) (fun _ _ _ h => h) (Or.inl ⟨by rfl, ?_⟩) (by assumption) ?_
  rotate_left
  · intro wS hSw; (try dsimp only at hSw); go_simp; first | done | with_reducible rfl
  try simp only [Act.put, List.setIfInBounds_toArray, List.set_cons_zero, List.set_cons_succ]
  refine wpAnyH_ready (rs := [3]) (by kernel_rfl) (by simp) ?_
  refine AllReadyH.cons (o := { dst := some 8, op := Op.call { callee := Callee.value (Operand.func 30), args := #[Operand.tmp 7], argTypes := #[3] }, type := 43, pos := _, after := _, guard := none }) rfl (fun K hK => ?_) AllReadyH.nil
  go_simp
  refine (from_any now _).mono ?_
  rintro e w2 ⟨rfl, hc2, hb2⟩
  have hs2 := bstep hb2 (sBel (by assumption))
  have hp2 : W.heap.size ≤ W.drew.heap.size := Nat.le_refl _
  unfold endV
  go_wp2_with fail
  refine hK.out _ _ ?_ (fun hHeld => ?_)
  · exact MK.out _ hs2
  clear hK K
  try simp only [Act.put, List.setIfInBounds_toArray, List.set_cons_zero, List.set_cons_succ]
  refine wpAnyH_ready (rs := [5]) (by kernel_rfl) (by simp) ?_
  refine AllReadyH.cons (o := { dst := some 10, op := Op.call { callee := Callee.value (Operand.tmp 8), args := #[Operand.tmp 9], argTypes := #[30] }, type := 3, pos := _, after := _, guard := none }) rfl (fun K hK => ?_) AllReadyH.nil
  go_simp
  refine (end_any i d c v r now _ _ hc2 HQ.out.1 HQ.out.2).mono ?_
  rintro e w3 ⟨rfl, hc3, hg3⟩
  have hs3 := below_of_grown hs2 hp2 hg3
  go_wp2_with fail
  refine hK.out _ _ ?_ (fun hHeld => ?_)
  · exact MK.out _ hs3
  clear hK K
  try simp only [Act.put, List.setIfInBounds_toArray, List.set_cons_zero, List.set_cons_succ]
  refine wpAnyH_take (i := 6) (oi := { dst := some 11, op := Op.binOp BinOp.sub 3 (Operand.tmp 6) (Operand.tmp 10) 3, type := 3, pos := _, after := _, guard := none }) (v := ?_) rfl (by kernel_rfl) (by kernel_rfl) (by kernel_rfl) (fun _ _ _ h => h) (Or.inl ⟨by rfl, ?_⟩) (by assumption) ?_
  rotate_left
  · intro wS hSw; (try dsimp only at hSw); go_simp; first | done | with_reducible rfl
  try simp only [Act.put, List.setIfInBounds_toArray, List.set_cons_zero, List.set_cons_succ]
  refine wpAnyH_take (i := 7) (oi := { dst := some 4, op := Op.assign (Operand.tmp 11), type := 3, pos := _, after := _, guard := none }) (v := ?_) rfl (by kernel_rfl) (by kernel_rfl) (by kernel_rfl) (fun _ _ _ h => h) (Or.inl ⟨by rfl, ?_⟩) (by assumption) ?_
  rotate_left
  · intro wS hSw; (try dsimp only at hSw); go_simp; first | done | with_reducible rfl
  try simp only [Act.put, List.setIfInBounds_toArray, List.set_cons_zero, List.set_cons_succ]
  refine wpAnyH_done (by kernel_rfl) ?_ _
  go_wp2
  go_ret
  exact ⟨ret_i HR.out.symm, HB.out.trans (hs3.mono HB.out.size)⟩
end Go.Proofs.Ytjaaabliefcgaaa
