/- Walks of package job: New. -/
import Derived.Test.YthbppojglhimnaaJ7
namespace Go.Proofs.Ythbppojglhimnaa
open Go.RowKit Go.Shelf

theorem Eit.put {w : World} {p : Nat} {j : Jb} (h : Eit w p j) (o : Bool) (n r u : Int) (b : Bool) (c d x : Int) : Eit (put8 w p o n r u b c d x) p ⟨o, n, r, u, b, c, d, x⟩ := by
  obtain ⟨o0, n0, r0, u0, b0, c0, d0, x0⟩ := j
  unfold put8
  have e0 := h.set (k := ⟨o, n0, r0, u0, b0, c0, d0, x0⟩) 0 (by omega) (.bool o) rfl (by intro i hi hne; rcases (show i = 0 ∨ i = 1 ∨ i = 2 ∨ i = 3 ∨ i = 4 ∨ i = 5 ∨ i = 6 ∨ i = 7 by omega) with rfl | rfl | rfl | rfl | rfl | rfl | rfl | rfl <;> first | rfl | exact absurd rfl hne)
  have e1 := e0.set (k := ⟨o, n, r0, u0, b0, c0, d0, x0⟩) 1 (by omega) (.int .i64 n) rfl (by intro i hi hne; rcases (show i = 0 ∨ i = 1 ∨ i = 2 ∨ i = 3 ∨ i = 4 ∨ i = 5 ∨ i = 6 ∨ i = 7 by omega) with rfl | rfl | rfl | rfl | rfl | rfl | rfl | rfl <;> first | rfl | exact absurd rfl hne)
  have e2 := e1.set (k := ⟨o, n, r, u0, b0, c0, d0, x0⟩) 2 (by omega) (.int .i64 r) rfl (by intro i hi hne; rcases (show i = 0 ∨ i = 1 ∨ i = 2 ∨ i = 3 ∨ i = 4 ∨ i = 5 ∨ i = 6 ∨ i = 7 by omega) with rfl | rfl | rfl | rfl | rfl | rfl | rfl | rfl <;> first | rfl | exact absurd rfl hne)
  have e3 := e2.set (k := ⟨o, n, r, u, b0, c0, d0, x0⟩) 3 (by omega) (.int .i64 u) rfl (by intro i hi hne; rcases (show i = 0 ∨ i = 1 ∨ i = 2 ∨ i = 3 ∨ i = 4 ∨ i = 5 ∨ i = 6 ∨ i = 7 by omega) with rfl | rfl | rfl | rfl | rfl | rfl | rfl | rfl <;> first | rfl | exact absurd rfl hne)
  have e4 := e3.set (k := ⟨o, n, r, u, b, c0, d0, x0⟩) 4 (by omega) (.bool b) rfl (by intro i hi hne; rcases (show i = 0 ∨ i = 1 ∨ i = 2 ∨ i = 3 ∨ i = 4 ∨ i = 5 ∨ i = 6 ∨ i = 7 by omega) with rfl | rfl | rfl | rfl | rfl | rfl | rfl | rfl <;> first | rfl | exact absurd rfl hne)
  have e5 := e4.set (k := ⟨o, n, r, u, b, c, d0, x0⟩) 5 (by omega) (.int .i64 c) rfl (by intro i hi hne; rcases (show i = 0 ∨ i = 1 ∨ i = 2 ∨ i = 3 ∨ i = 4 ∨ i = 5 ∨ i = 6 ∨ i = 7 by omega) with rfl | rfl | rfl | rfl | rfl | rfl | rfl | rfl <;> first | rfl | exact absurd rfl hne)
  have e6 := e5.set (k := ⟨o, n, r, u, b, c, d, x0⟩) 6 (by omega) (.int .i64 d) rfl (by intro i hi hne; rcases (show i = 0 ∨ i = 1 ∨ i = 2 ∨ i = 3 ∨ i = 4 ∨ i = 5 ∨ i = 6 ∨ i = 7 by omega) with rfl | rfl | rfl | rfl | rfl | rfl | rfl | rfl <;> first | rfl | exact absurd rfl hne)
  have e7 := e6.set (k := ⟨o, n, r, u, b, c, d, x⟩) 7 (by omega) (.int .i64 x) rfl (by intro i hi hne; rcases (show i = 0 ∨ i = 1 ∨ i = 2 ∨ i = 3 ∨ i = 4 ∨ i = 5 ∨ i = 6 ∨ i = 7 by omega) with rfl | rfl | rfl | rfl | rfl | rfl | rfl | rfl <;> first | rfl | exact absurd rfl hne)
  exact e7
set_option maxHeartbeats 2000000 in
set_option maxRecDepth 100000 in
theorem jnew_any (ec et ex em ek ee n r u d : Int) (w : World) :
    Calls Try.prog 18 #[.agg #[.int .i64 ec, .int .i64 et, .int .i64 ex, .int .i64 em, .int .i64 ek, .int .i64 ee], .int .i64 n, .int .i64 r, .int .i64 u, .int .i64 d] w fun e w' => e = .returned (.tuple #[jbV (nwJ ⟨ec, et, ex, em, ek, ee⟩ n r u d), .bool (nwB ⟨ec, et, ex, em, ek, ee⟩ n r u d)]) ∧ Below w.heap.size w w' := by
  obtain ⟨q, hq⟩ : ∃ q, onB em ek n = q := ⟨_, rfl⟩
  have HQ : Hid (onB em ek n = q) := hq
  have HN : Hid (nwB ⟨ec, et, ex, em, ek, ee⟩ n r u d = jmB ⟨ec, et, ex, em, ek, ee⟩ ⟨true, n, r, u, q, ec, d, 0⟩) := by show _ = _; subst hq; rfl
  obtain ⟨k, hk⟩ : ∃ k, jmB ⟨ec, et, ex, em, ek, ee⟩ ⟨true, n, r, u, q, ec, d, 0⟩ = k := ⟨_, rfl⟩
  have HK : Hid (jmB ⟨ec, et, ex, em, ek, ee⟩ ⟨true, n, r, u, q, ec, d, 0⟩ = k) := hk
  have HR : Hid (nwJ ⟨ec, et, ex, em, ek, ee⟩ n r u d = bif k then ⟨true, n, r, u, q, ec, d, 0⟩ else jbZ) := by show _ = _; unfold nwJ; rw [HN.out, hk]; subst hq; rfl
  clear hq hk
  have hZ : Eit ((w.alloc (.cells #[.int .i64 ec, .int .i64 et, .int .i64 ex, .int .i64 em, .int .i64 ek, .int .i64 ee] 23)).alloc (.cells #[.bool false, .int .i64 0, .int .i64 0, .int .i64 0, .bool false, .int .i64 0, .int .i64 0, .int .i64 0] 25)) (w.heap.size + 1) jbZ := by have := Eit.new (w.alloc (.cells #[.int .i64 ec, .int .i64 et, .int .i64 ex, .int .i64 em, .int .i64 ek, .int .i64 ee] 23)) jbZ; simp only [World.size_alloc] at this; exact this
  have hS : Six ((w.alloc (.cells #[.int .i64 ec, .int .i64 et, .int .i64 ex, .int .i64 em, .int .i64 ek, .int .i64 ee] 23)).alloc (.cells #[.bool false, .int .i64 0, .int .i64 0, .int .i64 0, .bool false, .int .i64 0, .int .i64 0, .int .i64 0] 25)) w.heap.size (Sp.at ⟨ec, et, ex, em, ek, ee⟩) := (Six.new w ⟨ec, et, ex, em, ek, ee⟩).later ((Below.refl _ _).alloc (Nat.le_refl _) _)
  have HE : Hid (Below w.heap.size w ((w.alloc (.cells #[.int .i64 ec, .int .i64 et, .int .i64 ex, .int .i64 em, .int .i64 ek, .int .i64 ee] 23)).alloc (.cells #[.bool false, .int .i64 0, .int .i64 0, .int .i64 0, .bool false, .int .i64 0, .int .i64 0, .int .i64 0] 25))) := ((Below.refl _ _).alloc (by simp) _).alloc (by simp) _
  go_enter Try.func18, Try.ntmps18
  go_wp2_with fail
  generalize hW : ((w.alloc (.cells #[.int .i64 ec, .int .i64 et, .int .i64 ex, .int .i64 em, .int .i64 ek, .int .i64 ee] 23)).alloc (.cells #[.bool false, .int .i64 0, .int .i64 0, .int .i64 0, .bool false, .int .i64 0, .int .i64 0, .int .i64 0] 25)) = W at *
  have MK : Hid (∀ w', Below W.heap.size W w' → (w'.cell? ⟨w.heap.size, 0, none⟩ = some (.int .i64 ec) ∧ w'.cell? ⟨w.heap.size, 1, none⟩ = some (.int .i64 et) ∧ w'.cell? ⟨w.heap.size, 2, none⟩ = some (.int .i64 ex) ∧ w'.cell? ⟨w.heap.size, 3, none⟩ = some (.int .i64 em) ∧ w'.cell? ⟨w.heap.size, 4, none⟩ = some (.int .i64 ek) ∧ w'.cell? ⟨w.heap.size, 5, none⟩ = some (.int .i64 ee)) ∧ Below W.heap.size W w') := by
    intro w' hb
    obtain ⟨y0, y1, y2, y3, y4, y5, _⟩ := (hS.later hb).sp
    exact ⟨⟨y0, y1, y2, y3, y4, y5⟩, hb⟩
  have HZ : Hid (Eit W (w.heap.size + 1) jbZ ∧ Six W w.heap.size (Sp.at ⟨ec, et, ex, em, ek, ee⟩)) := ⟨hZ, hS⟩
  have s0 := hZ.lt
  clear hZ hS hW
  refine wp_region_held_drew (S := (fun w' : World => (w'.cell? ⟨w.heap.size, 0, none⟩ = some (.int .i64 ec) ∧ w'.cell? ⟨w.heap.size, 1, none⟩ = some (.int .i64 et) ∧ w'.cell? ⟨w.heap.size, 2, none⟩ = some (.int .i64 ex) ∧ w'.cell? ⟨w.heap.size, 3, none⟩ = some (.int .i64 em) ∧ w'.cell? ⟨w.heap.size, 4, none⟩ = some (.int .i64 ek) ∧ w'.cell? ⟨w.heap.size, 5, none⟩ = some (.int .i64 ee)) ∧ Below W.heap.size W w')) (by kernel_rfl) ?_ (fun hHeld => ?_)
  · exact MK.out _ (Below.refl _ _).drew
  refine wpAnyH_take (i := 0) (oi := { dst := some 13, op := Op.move (Operand.tmp 1), type := 3, pos := _, after := _, guard := none }) (v := ?_) rfl (by kernel_rfl) (by kernel_rfl) (by kernel_rfl) (fun _ _ _ h => h) (Or.inl ⟨by rfl, ?_⟩) (by assumption) ?_
  rotate_left
  · intro wS hSw; (try dsimp only at hSw); go_simp; first | done | with_reducible rfl
  try simp only [Act.put, List.setIfInBounds_toArray, List.set_cons_zero, List.set_cons_succ]
  refine wpAnyH_take (i := 1) (oi := { dst := some 14, op := Op.move (Operand.tmp 2), type := 3, pos := _, after := _, guard := none }) (v := ?_) rfl (by kernel_rfl) (by kernel_rfl) (by kernel_rfl) (fun _ _ _ h => h) (Or.inl ⟨by rfl, ?_⟩) (by assumption) ?_
  rotate_left
  · intro wS hSw; (try dsimp only at hSw); go_simp; first | done | with_reducible rfl
  try simp only [Act.put, List.setIfInBounds_toArray, List.set_cons_zero, List.set_cons_succ]
  refine wpAnyH_take (i := 2) (oi := { dst := some 15, op := Op.move (Operand.tmp 3), type := 3, pos := _, after := _, guard := none }) (v := ?_) rfl (by kernel_rfl) (by kernel_rfl) (by kernel_rfl) (fun _ _ _ h => h) (Or.inl ⟨by rfl, ?_⟩) (by assumption) ?_
  rotate_left
  · intro wS hSw; (try dsimp only at hSw); go_simp; first | done | with_reducible rfl
  try simp only [Act.put, List.setIfInBounds_toArray, List.set_cons_zero, List.set_cons_succ]
  refine wpAnyH_take (i := 3) (oi := { dst := some 16, op := Op.fieldAddr 23 (Operand.tmp 5) 3, type := 0, pos := _, after := _, guard := none }) (v := ?_) rfl (by kernel_rfl) (by kernel_rfl) (by kernel_rfl) (fun _ _ _ h => h) (Or.inl ⟨by rfl, ?_⟩) (by assumption) ?_
  rotate_left
  · intro wS hSw; (try dsimp only at hSw); go_simp; first | done | with_reducible rfl
  try simp only [Act.put, List.setIfInBounds_toArray, List.set_cons_zero, List.set_cons_succ]
  refine wpAnyH_take (i := 4) (oi := { dst := some 17, op := Op.load 3 (Operand.tmp 16), type := 3, pos := _, after := _, guard := none }) (v := ?_) rfl (by kernel_rfl) (by kernel_rfl) (by kernel_rfl) (fun _ _ _ h => h) (Or.inl ⟨by rfl, ?_⟩) (by assumption) ?_
  rotate_left
  · intro wS hSw; (try dsimp only at hSw); go_simp; first | done | with_reducible rfl
  try simp only [Act.put, List.setIfInBounds_toArray, List.set_cons_zero, List.set_cons_succ]
  refine wpAnyH_take (i := 5) (oi := { dst := some 18, op := Op.fieldAddr 23 (Operand.tmp 5) 4, type := 0, pos := _, after := _, guard := none }) (v := ?_) rfl (by kernel_rfl) (by kernel_rfl) (by kernel_rfl) (fun _ _ _ h => h) (Or.inl ⟨by rfl, ?_⟩) (by assumption) ?_
  rotate_left
  · intro wS hSw; (try dsimp only at hSw); go_simp; first | done | with_reducible rfl
  try simp only [Act.put, List.setIfInBounds_toArray, List.set_cons_zero, List.set_cons_succ]
  refine wpAnyH_take (i := 6) (oi := { dst := some 19, op := Op.load 3 (Operand.tmp 18), type := 3, pos := _, after := _, guard := none }) (v := ?_) rfl (by kernel_rfl) (by kernel_rfl) (by kernel_rfl) (fun _ _ _ h => h) (Or.inl ⟨by rfl, ?_⟩) (by assumption) ?_
  rotate_left
  · intro wS hSw; (try dsimp only at hSw); go_simp; first | done | with_reducible rfl
  try simp only [Act.put, List.setIfInBounds_toArray, List.set_cons_zero, List.set_cons_succ]
  refine wpAnyH_take (i := 7) (oi := { dst := some 20, op := Op.move (Operand.tmp 1), type := 3, pos := _, after := _, guard := none }) (v := ?_) rfl (by kernel_rfl) (by kernel_rfl) (by kernel_rfl) (fun _ _ _ h => h) (Or.inl ⟨by rfl, ?_⟩) (by assumption) ?_
  rotate_left
  · intro wS hSw; (try dsimp only at hSw); go_simp; first | done | with_reducible rfl
  try simp only [Act.put, List.setIfInBounds_toArray, List.set_cons_zero, List.set_cons_succ]
  refine wpAnyH_take (i := 9) (oi := { dst := some 22, op := Op.fieldAddr 23 (Operand.tmp 5) 0, type := 0, pos := _, after := _, guard := none }) (v := ?_) rfl (by kernel_rfl) (by kernel_rfl) (by kernel_rfl) (fun _ _ _ h => h) (Or.inl ⟨by rfl, ?_⟩) (by assumption) ?_
  rotate_left
  · intro wS hSw; (try dsimp only at hSw); go_simp; first | done | with_reducible rfl
  try simp only [Act.put, List.setIfInBounds_toArray, List.set_cons_zero, List.set_cons_succ]
  refine wpAnyH_take (i := 10) (oi := { dst := some 23, op := Op.load 3 (Operand.tmp 22), type := 3, pos := _, after := _, guard := none }) (v := ?_) rfl (by kernel_rfl) (by kernel_rfl) (by kernel_rfl) (fun _ _ _ h => h) (Or.inl ⟨by rfl, ?_⟩) (by assumption) ?_
  rotate_left
  · intro wS hSw; (try dsimp only at hSw); go_simp; first | done | with_reducible rfl
  try simp only [Act.put, List.setIfInBounds_toArray, List.set_cons_zero, List.set_cons_succ]
  refine wpAnyH_take (i := 11) (oi := { dst := some 24, op := Op.move (Operand.tmp 4), type := 3, pos := _, after := _, guard := none }) (v := ?_) rfl (by kernel_rfl) (by kernel_rfl) (by kernel_rfl) (fun _ _ _ h => h) (Or.inl ⟨by rfl, ?_⟩) (by assumption) ?_
  rotate_left
  · intro wS hSw; (try dsimp only at hSw); go_simp; first | done | with_reducible rfl
  try simp only [Act.put, List.setIfInBounds_toArray, List.set_cons_zero, List.set_cons_succ]
  refine wpAnyH_ready (rs := [8, 13]) (by kernel_rfl) (by simp) ?_
  refine AllReadyH.cons (o := { dst := some 21, op := Op.call { callee := Callee.value (Operand.func 9), args := #[Operand.tmp 17, Operand.tmp 19, Operand.tmp 20], argTypes := #[3, 3, 3] }, type := 4, pos := _, after := _, guard := none }) rfl (fun K hK => ?_) (AllReadyH.cons (o := { dst := some 12, op := Op.alloc 25, type := 0, pos := _, after := _, guard := none }) rfl (fun K hK => ?_) AllReadyH.nil)
  · go_simp
    refine (on_any em ek n _).mono ?_
    rintro e w1 ⟨rfl, hb1⟩
    rw [HQ.out]
    have hB1 : Below W.heap.size W w1 := bstep hb1 (sBel (by assumption))
    go_wp2_with fail
    refine hK.out _ _ ?_ (fun hHeld => ?_)
    · exact MK.out _ hB1
    clear hK K
    try simp only [Act.put, List.setIfInBounds_toArray, List.set_cons_zero, List.set_cons_succ]
    refine wpAnyH_take (i := 12) (oi := { dst := some 25, op := Op.build 25 #[(0, Operand.const (Value.bool true)), (1, Operand.tmp 13), (2, Operand.tmp 14), (3, Operand.tmp 15), (4, Operand.tmp 21), (5, Operand.tmp 23), (6, Operand.tmp 24)], type := 25, pos := _, after := _, guard := none }) (v := ?_) rfl (by kernel_rfl) (by kernel_rfl) (by kernel_rfl) (fun _ _ _ h => h) (Or.inl ⟨by rfl, ?_⟩) (by assumption) ?_
    rotate_left
    · intro wS hSw; (try dsimp only at hSw); go_simp; first | done | with_reducible rfl
    try simp only [Act.put, List.setIfInBounds_toArray, List.set_cons_zero, List.set_cons_succ]
    refine wpAnyH_ready (rs := [13]) (by kernel_rfl) (by simp) ?_
    refine AllReadyH.cons (o := { dst := some 12, op := Op.alloc 25, type := 0, pos := _, after := _, guard := none }) rfl (fun K hK => ?_) AllReadyH.nil
    go_simp
    refine hK.out _ _ ?_ (fun hHeld => ?_)
    · exact MK.out _ (hB1.alloc hB1.size _)
    clear hK K
    try simp only [Act.put, List.setIfInBounds_toArray, List.set_cons_zero, List.set_cons_succ]
    refine wpAnyH_ready (rs := [14]) (by kernel_rfl) (by simp) ?_
    refine AllReadyH.cons (o := { dst := none, op := Op.store 25 (Operand.tmp 12) (Operand.tmp 25), type := 0, pos := _, after := _, guard := none }) rfl (fun K hK => ?_) AllReadyH.nil
    go_simp
    refine hK.out _ _ ?_ (fun hHeld => ?_)
    · exact MK.out _ (hB1.alloc hB1.size _)
    clear hK K
    try simp only [Act.put, List.setIfInBounds_toArray, List.set_cons_zero, List.set_cons_succ]
    refine wpAnyH_done (by kernel_rfl) ?_ _
    have hE' := Eit.new w1 ⟨true, n, r, u, q, ec, d, 0⟩
    have hBV := hB1.alloc hB1.size (.cells #[.bool true, .int .i64 n, .int .i64 r, .int .i64 u, .bool q, .int .i64 ec, .int .i64 d, .int .i64 0] 25)
    have hZV := HZ.out.1.later hBV
    have hSV := HZ.out.2.later hBV
    have hBw := HE.out.trans (hBV.mono HE.out.size)
    have sE := hE'.lt
    have sZ := hZV.lt
    have sS := hSV.lt
    obtain ⟨x0, x1, x2, x3, x4, x5, x6, x7, _⟩ := hE'.op
    obtain ⟨y0, y1, y2, y3, y4, y5, _⟩ := hSV.sp
    go_wp2_with fail
    refine (jmay_any ec et ex em ek ee true n r u q ec d 0 _).mono ?_
    rintro e w2 ⟨rfl, hb2⟩
    rw [HK.out]
    have hE2 := hE'.later hb2
    have hZ2 := hZV.later hb2
    have hB2 := hBw.trans (hb2.mono hBw.size)
    have t1 := hE2.lt
    have t2 := hZ2.lt
    obtain ⟨u0, u1, u2, u3, u4, u5, u6, u7, _⟩ := hE2.op
    obtain ⟨z0, z1, z2, z3, z4, z5, z6, z7, v0, v1, v2, v3, v4, v5, v6, v7⟩ := hZ2.op
    clear x0 x1 x2 x3 x4 x5 x6 x7 y0 y1 y2 y3 y4 y5
    cases k
    · go_wp2_with fail
      refine bodyPost_ret (v := .tuple #[jbV jbZ, .bool false]) ?_ rfl ⟨by rw [HR.out, HN.out, HK.out]; rfl, below8 hB2 (by simp) false 0 0 0 false 0 0 0⟩
      simp [results, Try.results18, go_sem, jbV, jbZ, z0, z1, z2, z3, z4, z5, z6, z7]
    · go_wp2_with fail
      refine bodyPost_ret (v := .tuple #[jbV (⟨true, n, r, u, q, ec, d, 0⟩ : Jb), .bool true]) ?_ rfl ⟨by rw [HR.out, HN.out, HK.out]; rfl, below8 hB2 (by simp) true n r u q ec d 0⟩
      simp [results, Try.results18, go_sem, jbV, z0, z1, z2, z3, z4, z5, z6, z7]
  · go_simp
    refine hK.out _ _ ?_ (fun hHeld => ?_)
    · exact MK.out _ ((Below.refl W.heap.size W).drew.alloc (by simp) _)
    clear hK K
    try simp only [Act.put, List.setIfInBounds_toArray, List.set_cons_zero, List.set_cons_succ]
    refine wpAnyH_ready (rs := [8]) (by kernel_rfl) (by simp) ?_
    refine AllReadyH.cons (o := { dst := some 21, op := Op.call { callee := Callee.value (Operand.func 9), args := #[Operand.tmp 17, Operand.tmp 19, Operand.tmp 20], argTypes := #[3, 3, 3] }, type := 4, pos := _, after := _, guard := none }) rfl (fun K hK => ?_) AllReadyH.nil
    go_simp
    refine (on_any em ek n _).mono ?_
    rintro e w1 ⟨rfl, hb1⟩
    rw [HQ.out]
    have hB1 : Below W.heap.size W w1 := bstep hb1 (sBel (by assumption))
    have hE1 : Eit w1 W.heap.size jbZ := by have := (Eit.new W.drew jbZ).later hb1; simpa using this
    obtain ⟨z0, z1, z2, z3, z4, z5, z6, z7, b0, b1, b2, b3, b4, b5, b6, b7⟩ := hE1.op
    go_wp2_with fail
    refine hK.out _ _ ?_ (fun hHeld => ?_)
    · exact MK.out _ hB1
    clear hK K
    try simp only [Act.put, List.setIfInBounds_toArray, List.set_cons_zero, List.set_cons_succ]
    refine wpAnyH_take (i := 12) (oi := { dst := some 25, op := Op.build 25 #[(0, Operand.const (Value.bool true)), (1, Operand.tmp 13), (2, Operand.tmp 14), (3, Operand.tmp 15), (4, Operand.tmp 21), (5, Operand.tmp 23), (6, Operand.tmp 24)], type := 25, pos := _, after := _, guard := none }) (v := ?_) rfl (by kernel_rfl) (by kernel_rfl) (by kernel_rfl) (fun _ _ _ h => h) (Or.inl ⟨by rfl, ?_⟩) (by assumption) ?_
    rotate_left
    · intro wS hSw; (try dsimp only at hSw); go_simp; first | done | with_reducible rfl
    try simp only [Act.put, List.setIfInBounds_toArray, List.set_cons_zero, List.set_cons_succ]
    refine wpAnyH_ready (rs := [14]) (by kernel_rfl) (by simp) ?_
    refine AllReadyH.cons (o := { dst := none, op := Op.store 25 (Operand.tmp 12) (Operand.tmp 25), type := 0, pos := _, after := _, guard := none }) rfl (fun K hK => ?_) AllReadyH.nil
    go_simp
    refine hK.out _ _ ?_ (fun hHeld => ?_)
    · exact MK.out _ (below8 hB1 (Nat.le_refl _) true n r u q ec d 0)
    clear hK K
    try simp only [Act.put, List.setIfInBounds_toArray, List.set_cons_zero, List.set_cons_succ]
    refine wpAnyH_done (by kernel_rfl) ?_ _
    have hE' := hE1.put true n r u q ec d 0
    have hBV := below8 hB1 (Nat.le_refl W.heap.size) true n r u q ec d 0
    have hZV := HZ.out.1.later hBV
    have hSV := HZ.out.2.later hBV
    have hBw := HE.out.trans (hBV.mono HE.out.size)
    have sE := hE'.lt
    have sZ := hZV.lt
    have sS := hSV.lt
    obtain ⟨x0, x1, x2, x3, x4, x5, x6, x7, _⟩ := hE'.op
    obtain ⟨y0, y1, y2, y3, y4, y5, _⟩ := hSV.sp
    go_wp2_with fail
    refine (jmay_any ec et ex em ek ee true n r u q ec d 0 _).mono ?_
    rintro e w2 ⟨rfl, hb2⟩
    rw [HK.out]
    have hE2 := hE'.later hb2
    have hZ2 := hZV.later hb2
    have hB2 := hBw.trans (hb2.mono hBw.size)
    have t1 := hE2.lt
    have t2 := hZ2.lt
    obtain ⟨u0, u1, u2, u3, u4, u5, u6, u7, _⟩ := hE2.op
    obtain ⟨z0, z1, z2, z3, z4, z5, z6, z7, v0, v1, v2, v3, v4, v5, v6, v7⟩ := hZ2.op
    clear x0 x1 x2 x3 x4 x5 x6 x7 y0 y1 y2 y3 y4 y5
    cases k
    · go_wp2_with fail
      refine bodyPost_ret (v := .tuple #[jbV jbZ, .bool false]) ?_ rfl ⟨by rw [HR.out, HN.out, HK.out]; rfl, below8 hB2 (by simp) false 0 0 0 false 0 0 0⟩
      simp [results, Try.results18, go_sem, jbV, jbZ, z0, z1, z2, z3, z4, z5, z6, z7]
    · go_wp2_with fail
      refine bodyPost_ret (v := .tuple #[jbV (⟨true, n, r, u, q, ec, d, 0⟩ : Jb), .bool true]) ?_ rfl ⟨by rw [HR.out, HN.out, HK.out]; rfl, below8 hB2 (by simp) true n r u q ec d 0⟩
      simp [results, Try.results18, go_sem, jbV, z0, z1, z2, z3, z4, z5, z6, z7]
end Go.Proofs.Ythbppojglhimnaa
