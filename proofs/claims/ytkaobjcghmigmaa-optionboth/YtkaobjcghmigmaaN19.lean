/- Walks of package option: Of. -/
import Derived.Test.YtkaobjcghmigmaaN18
import Derived.Test.YtkaobjcghmigmaaJ4
import Derived.Test.YtkaobjcghmigmaaR6
namespace Go.Proofs.Ytkaobjcghmigmaa
open Go.RowKit

/-- How far a ring is. -/
def FarIs (N B m k q : Int) : Prop := (mayB m k = false ∧ q = k) ∨ (1 ≤ m ∧ m ≤ k ∧ k ≤ 6 ∧ ∃ n : Nat, q = n ∧ IsFar (ringOf N B) m k.toNat n)
theorem FarIs.unique {N B m k q q' : Int} (h : FarIs N B m k q) (h' : FarIs N B m k q') : q = q' := by
  rcases h with ⟨h1, e1⟩ | ⟨m0, mk, k6, p, e1, hp⟩ <;> rcases h' with ⟨h2, e2⟩ | ⟨m0', mk', k6', p', e2, hp'⟩
  · exact e1.trans e2.symm
  · rw [mayB_mk m0' mk' k6'] at h1; cases h1
  · rw [mayB_mk m0 mk k6] at h2; cases h2
  · rw [e1, e2, hp.unique hp']
theorem far14_any (N B m k : Int) (w : World) (b0 : 0 ≤ B) (_k : True) :
    Calls Try.prog 23 #[.agg #[.int .i64 N, .int .u64 B], .int .i64 m, .int .i64 k] w fun e w' => ∃ q, e = .returned (.int .i64 q) ∧ FarIs N B m k q ∧ Below w.heap.size w w' := by
  cases hm : mayB m k with
  | false =>
    refine (far_no N B m k w hm).mono ?_
    rintro e w' ⟨rfl, hb⟩
    exact ⟨k, rfl, Or.inl ⟨hm, rfl⟩, hb⟩
  | true =>
    obtain ⟨m0, mk, k6⟩ := mayB_of hm
    obtain ⟨K, rfl⟩ := Int.eq_ofNat_of_zero_le (show 0 ≤ k by omega)
    refine (far_in N B m K w b0 m0 mk k6).mono ?_
    rintro e w' ⟨n, rfl, hn, hb⟩
    exact ⟨n, rfl, Or.inr ⟨m0, mk, k6, n, rfl, hn⟩, hb⟩
theorem Tre.newO (w : World) (u m e : Int) : Tre (w.alloc (.cells #[.int .i64 u, .int .i64 m, .int .i64 e] 24)) w.heap.size u m e :=
  ⟨Thr.new w u m e _, fun i hi => by rcases (show i = 0 ∨ i = 1 ∨ i = 2 by omega) with rfl | rfl | rfl <;> simp⟩

theorem below_a1 (w : World) (p : Obj) : Below w.heap.size w (w.alloc p) := (Below.refl _ _).alloc (Nat.le_refl _) _
theorem below_a2 (w : World) (p q : Obj) : Below w.heap.size w ((w.alloc p).alloc q) := (below_a1 w p).alloc (by simp) _
theorem below_a3 (w : World) (p q r : Obj) : Below w.heap.size w (((w.alloc p).alloc q).alloc r) := (below_a2 w p q).alloc (by simp; omega) _

/-- Need it not run, and would it? -/
def ofB14 (j : Jb) : Bool := j.on && !j.md && decide (lftV j ≠ 0)
def OfE14 (N B m k id : Int) (j : Jb) (w : World) (e : Ending) (w' : World) : Prop :=
  Below w.heap.size w w' ∧ ((ofB14 j = false ∧ e = .returned (.tuple #[.agg #[.int .i64 0, .int .i64 0, .int .i64 0], .bool false])) ∨
    (ofB14 j = true ∧ ∃ q, FarIs N B m k q ∧ e = .returned (.tuple #[.agg #[.int .i64 q, .int .i64 j.due, .int .i64 id], .bool true])))
theorem far5 {w w' : World} {p : Nat} {em ek u N B : Int} (h : w'.cell? ⟨w.heap.size, 3, none⟩ = some (.int .i64 em) ∧ w'.cell? ⟨w.heap.size, 4, none⟩ = some (.int .i64 ek) ∧ w'.cell? ⟨w.heap.size + 1, 3, none⟩ = some (.int .i64 u) ∧ w'.cell? ⟨w.heap.size + 2, 0, none⟩ = some (.int .i64 N) ∧ w'.cell? ⟨w.heap.size + 2, 1, none⟩ = some (.int .u64 B)) (hp : w.heap.size + 3 ≤ p) (x y z : Value) : (((w'.setCell ⟨p, 0, none⟩ x).setCell ⟨p, 1, none⟩ y).setCell ⟨p, 2, none⟩ z).cell? ⟨w.heap.size, 3, none⟩ = some (.int .i64 em) ∧ (((w'.setCell ⟨p, 0, none⟩ x).setCell ⟨p, 1, none⟩ y).setCell ⟨p, 2, none⟩ z).cell? ⟨w.heap.size, 4, none⟩ = some (.int .i64 ek) ∧ (((w'.setCell ⟨p, 0, none⟩ x).setCell ⟨p, 1, none⟩ y).setCell ⟨p, 2, none⟩ z).cell? ⟨w.heap.size + 1, 3, none⟩ = some (.int .i64 u) ∧ (((w'.setCell ⟨p, 0, none⟩ x).setCell ⟨p, 1, none⟩ y).setCell ⟨p, 2, none⟩ z).cell? ⟨w.heap.size + 2, 0, none⟩ = some (.int .i64 N) ∧ (((w'.setCell ⟨p, 0, none⟩ x).setCell ⟨p, 1, none⟩ y).setCell ⟨p, 2, none⟩ z).cell? ⟨w.heap.size + 2, 1, none⟩ = some (.int .u64 B) := by
  have far : ∀ (w1 : World) (k b j : Nat) (v : Value), b ≠ p → (w1.setCell ⟨p, k, none⟩ v).cell? ⟨b, j, none⟩ = w1.cell? ⟨b, j, none⟩ := fun w1 k b j v hn => World.cell?_setCell_far _ _ _ _ (fun e => hn e.symm)
  obtain ⟨h0, h1, h2, h3, h4⟩ := h
  refine ⟨?_, ?_, ?_, ?_, ?_⟩
  · rw [far _ _ _ _ _ (by omega), far _ _ _ _ _ (by omega), far _ _ _ _ _ (by omega)]; exact h0
  · rw [far _ _ _ _ _ (by omega), far _ _ _ _ _ (by omega), far _ _ _ _ _ (by omega)]; exact h1
  · rw [far _ _ _ _ _ (by omega), far _ _ _ _ _ (by omega), far _ _ _ _ _ (by omega)]; exact h2
  · rw [far _ _ _ _ _ (by omega), far _ _ _ _ _ (by omega), far _ _ _ _ _ (by omega)]; exact h3
  · rw [far _ _ _ _ _ (by omega), far _ _ _ _ _ (by omega), far _ _ _ _ _ (by omega)]; exact h4

set_option maxHeartbeats 4000000 in
set_option maxRecDepth 100000 in
theorem of14_any (id ec et ex em ek ee : Int) (o : Bool) (n r u : Int) (b : Bool) (c d x N B : Int) (w : World) (h1 : IntKind.i64.wrap (c - x) = c - x) (h2 : IntKind.i64.wrap (d - x) = d - x) (b0 : 0 ≤ B) :
    Calls Try.prog 9 #[.int .i64 id, .agg #[.int .i64 ec, .int .i64 et, .int .i64 ex, .int .i64 em, .int .i64 ek, .int .i64 ee], .agg #[.bool o, .int .i64 n, .int .i64 r, .int .i64 u, .bool b, .int .i64 c, .int .i64 d, .int .i64 x], .agg #[.int .i64 N, .int .u64 B]] w (OfE14 N B em ek id ⟨o, n, r, u, b, c, d, x⟩ w) := by
  have HW : Hid (IntKind.i64.wrap (c - x) = c - x ∧ IntKind.i64.wrap (d - x) = d - x) := ⟨h1, h2⟩
  have hBe : Below w.heap.size w ((((w.alloc (.cells #[.int .i64 ec, .int .i64 et, .int .i64 ex, .int .i64 em, .int .i64 ek, .int .i64 ee] 26)).alloc (.cells #[.bool o, .int .i64 n, .int .i64 r, .int .i64 u, .bool b, .int .i64 c, .int .i64 d, .int .i64 x] 28)).alloc (.cells #[.int .i64 N, .int .u64 B] 31)).alloc (.cells #[.int .i64 0, .int .i64 0, .int .i64 0] 24)) := (((((Below.refl _ _).alloc (Nat.le_refl _) _).alloc (by simp) _).alloc (by simp; omega) _).alloc (by simp; omega) _)
  have HBe : Hid (Below w.heap.size w ((((w.alloc (.cells #[.int .i64 ec, .int .i64 et, .int .i64 ex, .int .i64 em, .int .i64 ek, .int .i64 ee] 26)).alloc (.cells #[.bool o, .int .i64 n, .int .i64 r, .int .i64 u, .bool b, .int .i64 c, .int .i64 d, .int .i64 x] 28)).alloc (.cells #[.int .i64 N, .int .u64 B] 31)).alloc (.cells #[.int .i64 0, .int .i64 0, .int .i64 0] 24))) := hBe
  have k6 : True := trivial
  clear h1 h2 hBe
  cases o with
  | false =>
    have HF : Hid (ofB14 ⟨false, n, r, u, b, c, d, x⟩ = false) := by show _ = _; simp [ofB14]
    go_enter Try.func9, Try.ntmps9
    go_wp2_with fail
    refine bodyPost_ret (v := .tuple #[.agg #[.int .i64 0, .int .i64 0, .int .i64 0], .bool false]) ?_ rfl ⟨HBe.out, Or.inl ⟨HF.out, rfl⟩⟩
    simp [results, Try.results9, go_sem]
  | true =>
    cases b with
    | true =>
      have HF : Hid (ofB14 ⟨true, n, r, u, true, c, d, x⟩ = false) := by show _ = _; simp [ofB14]
      go_enter Try.func9, Try.ntmps9
      go_wp2_with fail
      refine bodyPost_ret (v := .tuple #[.agg #[.int .i64 0, .int .i64 0, .int .i64 0], .bool false]) ?_ rfl ⟨HBe.out, Or.inl ⟨HF.out, rfl⟩⟩
      simp [results, Try.results9, go_sem]
    | false =>
      obtain ⟨l, hl⟩ : ∃ l, lftV ⟨true, n, r, u, false, c, d, x⟩ = l := ⟨_, rfl⟩
      have HL : Hid (lftV ⟨true, n, r, u, false, c, d, x⟩ = l) := hl
      clear hl
      go_enter Try.func9, Try.ntmps9
      go_wp2_with fail
      refine (left_any true n r u false c d x _ HW.out.1 HW.out.2).mono ?_
      rintro e w1 ⟨rfl, hb1⟩
      rw [HL.out]
      have HT : Hid (Tre w1 (w.heap.size + 3) 0 0 0) := by
        have := Tre.newO (((w.alloc (.cells #[.int .i64 ec, .int .i64 et, .int .i64 ex, .int .i64 em, .int .i64 ek, .int .i64 ee] 26)).alloc (.cells #[.bool true, .int .i64 n, .int .i64 r, .int .i64 u, .bool false, .int .i64 c, .int .i64 d, .int .i64 x] 28)).alloc (.cells #[.int .i64 N, .int .u64 B] 31)) 0 0 0
        simp only [World.size_alloc] at this
        exact this.later hb1
      have c0 : w1.cell? ⟨w.heap.size, 3, none⟩ = some (.int .i64 em) := cell_later hb1 (cell_later (below_a3 (w.alloc (.cells #[.int .i64 ec, .int .i64 et, .int .i64 ex, .int .i64 em, .int .i64 ek, .int .i64 ee] 26)) _ _ _) (by simp))
      have c1 : w1.cell? ⟨w.heap.size, 4, none⟩ = some (.int .i64 ek) := cell_later hb1 (cell_later (below_a3 (w.alloc (.cells #[.int .i64 ec, .int .i64 et, .int .i64 ex, .int .i64 em, .int .i64 ek, .int .i64 ee] 26)) _ _ _) (by simp))
      have c2 : w1.cell? ⟨w.heap.size + 1, 3, none⟩ = some (.int .i64 u) := cell_later hb1 (cell_later (below_a2 ((w.alloc (.cells #[.int .i64 ec, .int .i64 et, .int .i64 ex, .int .i64 em, .int .i64 ek, .int .i64 ee] 26)).alloc (.cells #[.bool true, .int .i64 n, .int .i64 r, .int .i64 u, .bool false, .int .i64 c, .int .i64 d, .int .i64 x] 28)) _ _) (by simp))
      have hR0 := (fun X : World => (by simp : (X.alloc (.cells #[.int .i64 N, .int .u64 B] 31)).cell? ⟨X.heap.size, 0, none⟩ = some (.int .i64 N))) ((w.alloc (.cells #[.int .i64 ec, .int .i64 et, .int .i64 ex, .int .i64 em, .int .i64 ek, .int .i64 ee] 26)).alloc (.cells #[.bool true, .int .i64 n, .int .i64 r, .int .i64 u, .bool false, .int .i64 c, .int .i64 d, .int .i64 x] 28))
      have hR1 := (fun X : World => (by simp : (X.alloc (.cells #[.int .i64 N, .int .u64 B] 31)).cell? ⟨X.heap.size, 1, none⟩ = some (.int .u64 B))) ((w.alloc (.cells #[.int .i64 ec, .int .i64 et, .int .i64 ex, .int .i64 em, .int .i64 ek, .int .i64 ee] 26)).alloc (.cells #[.bool true, .int .i64 n, .int .i64 r, .int .i64 u, .bool false, .int .i64 c, .int .i64 d, .int .i64 x] 28))
      simp only [World.size_alloc] at hR0 hR1
      have c3 : w1.cell? ⟨w.heap.size + 2, 0, none⟩ = some (.int .i64 N) := cell_later hb1 (cell_later (below_a1 (((w.alloc (.cells #[.int .i64 ec, .int .i64 et, .int .i64 ex, .int .i64 em, .int .i64 ek, .int .i64 ee] 26)).alloc (.cells #[.bool true, .int .i64 n, .int .i64 r, .int .i64 u, .bool false, .int .i64 c, .int .i64 d, .int .i64 x] 28)).alloc (.cells #[.int .i64 N, .int .u64 B] 31)) _) hR0)
      have c4 : w1.cell? ⟨w.heap.size + 2, 1, none⟩ = some (.int .u64 B) := cell_later hb1 (cell_later (below_a1 (((w.alloc (.cells #[.int .i64 ec, .int .i64 et, .int .i64 ex, .int .i64 em, .int .i64 ek, .int .i64 ee] 26)).alloc (.cells #[.bool true, .int .i64 n, .int .i64 r, .int .i64 u, .bool false, .int .i64 c, .int .i64 d, .int .i64 x] 28)).alloc (.cells #[.int .i64 N, .int .u64 B] 31)) _) hR1)
      clear hR0 hR1
      have HE : Hid (Below w.heap.size w w1) := HBe.out.trans (hb1.mono HBe.out.size)
      obtain ⟨⟨z0, z1, z2⟩, y0, y1, y2⟩ := HT.out.tri
      have s3 := HT.out.1.lt
      by_cases hl0 : l = 0
      · subst hl0
        have HF : Hid (ofB14 ⟨true, n, r, u, false, c, d, x⟩ = false) := by show _ = _; simp [ofB14, HL.out]
        clear hb1
        have HE0 : Hid (Tre (((w1.setCell ⟨w.heap.size + 3, 0, none⟩ (.int .i64 0)).setCell ⟨w.heap.size + 3, 1, none⟩ (.int .i64 0)).setCell ⟨w.heap.size + 3, 2, none⟩ (.int .i64 0)) (w.heap.size + 3) 0 0 0 ∧ Below w.heap.size w (((w1.setCell ⟨w.heap.size + 3, 0, none⟩ (.int .i64 0)).setCell ⟨w.heap.size + 3, 1, none⟩ (.int .i64 0)).setCell ⟨w.heap.size + 3, 2, none⟩ (.int .i64 0))) := ⟨HT.out.put 0 0 0, below_put3 HE.out (by omega) _ _ _⟩
        go_wp2_with fail
        generalize (((w1.setCell ⟨w.heap.size + 3, 0, none⟩ (.int .i64 0)).setCell ⟨w.heap.size + 3, 1, none⟩ (.int .i64 0)).setCell ⟨w.heap.size + 3, 2, none⟩ (.int .i64 0)) = w2 at *
        obtain ⟨⟨v0, v1, v2⟩, _⟩ := HE0.out.1.tri
        refine bodyPost_ret (v := .tuple #[.agg #[.int .i64 0, .int .i64 0, .int .i64 0], .bool false]) ?_ rfl ⟨HE0.out.2, Or.inl ⟨HF.out, rfl⟩⟩
        simp [results, Try.results9, go_sem, v0, v1, v2]
      · have HF : Hid (ofB14 ⟨true, n, r, u, false, c, d, x⟩ = true) := by show _ = _; simp [ofB14, HL.out, hl0]
        have hl1 : (l == 0) = false := by simpa using hl0
        have MK : Hid (∀ w' : World, Below w1.heap.size w1 w' → (w'.cell? ⟨w.heap.size, 3, none⟩ = some (.int .i64 em) ∧ w'.cell? ⟨w.heap.size, 4, none⟩ = some (.int .i64 ek) ∧ w'.cell? ⟨w.heap.size + 1, 3, none⟩ = some (.int .i64 u) ∧ w'.cell? ⟨w.heap.size + 2, 0, none⟩ = some (.int .i64 N) ∧ w'.cell? ⟨w.heap.size + 2, 1, none⟩ = some (.int .u64 B)) ∧ Below w1.heap.size w1 w') := fun w' hb => ⟨⟨cell_later hb c0, cell_later hb c1, cell_later hb c2, cell_later hb c3, cell_later hb c4⟩, hb⟩
        clear hb1 z0 z1 z2 y0 y1 y2 hl0 c0 c1 c2 c3 c4
        go_wp2_with fail
        refine wp_region_held_drew (S := (fun w' : World => w'.cell? ⟨w.heap.size, 3, none⟩ = some (.int .i64 em) ∧ w'.cell? ⟨w.heap.size, 4, none⟩ = some (.int .i64 ek) ∧ w'.cell? ⟨w.heap.size + 1, 3, none⟩ = some (.int .i64 u) ∧ w'.cell? ⟨w.heap.size + 2, 0, none⟩ = some (.int .i64 N) ∧ w'.cell? ⟨w.heap.size + 2, 1, none⟩ = some (.int .u64 B))) (by kernel_rfl) ?_ (fun hHeld => ?_)
        · exact (MK.out _ (Below.refl _ _).drew).1
        refine wpAnyH_take (i := 0) (oi := { dst := some 23, op := Op.load 31 (Operand.tmp 7), type := 31, pos := _, after := _, guard := none }) (v := ?_) rfl (by kernel_rfl) (by kernel_rfl) (by kernel_rfl) (fun _ _ _ h => h) (Or.inl ⟨by rfl, ?_⟩) (by assumption) ?_
        rotate_left
        · intro wS hSw; (try dsimp only at hSw); go_simp; first | done | with_reducible rfl
        try simp only [Act.put, List.setIfInBounds_toArray, List.set_cons_zero, List.set_cons_succ]
        refine wpAnyH_take (i := 1) (oi := { dst := some 24, op := Op.fieldAddr 26 (Operand.tmp 5) 3, type := 0, pos := _, after := _, guard := none }) (v := ?_) rfl (by kernel_rfl) (by kernel_rfl) (by kernel_rfl) (fun _ _ _ h => h) (Or.inl ⟨by rfl, ?_⟩) (by assumption) ?_
        rotate_left
        · intro wS hSw; (try dsimp only at hSw); go_simp; first | done | with_reducible rfl
        try simp only [Act.put, List.setIfInBounds_toArray, List.set_cons_zero, List.set_cons_succ]
        refine wpAnyH_take (i := 2) (oi := { dst := some 25, op := Op.load 3 (Operand.tmp 24), type := 3, pos := _, after := _, guard := none }) (v := ?_) rfl (by kernel_rfl) (by kernel_rfl) (by kernel_rfl) (fun _ _ _ h => h) (Or.inl ⟨by rfl, ?_⟩) (by assumption) ?_
        rotate_left
        · intro wS hSw; (try dsimp only at hSw); go_simp; first | done | with_reducible rfl
        try simp only [Act.put, List.setIfInBounds_toArray, List.set_cons_zero, List.set_cons_succ]
        refine wpAnyH_take (i := 3) (oi := { dst := some 26, op := Op.fieldAddr 26 (Operand.tmp 5) 4, type := 0, pos := _, after := _, guard := none }) (v := ?_) rfl (by kernel_rfl) (by kernel_rfl) (by kernel_rfl) (fun _ _ _ h => h) (Or.inl ⟨by rfl, ?_⟩) (by assumption) ?_
        rotate_left
        · intro wS hSw; (try dsimp only at hSw); go_simp; first | done | with_reducible rfl
        try simp only [Act.put, List.setIfInBounds_toArray, List.set_cons_zero, List.set_cons_succ]
        refine wpAnyH_take (i := 4) (oi := { dst := some 27, op := Op.load 3 (Operand.tmp 26), type := 3, pos := _, after := _, guard := none }) (v := ?_) rfl (by kernel_rfl) (by kernel_rfl) (by kernel_rfl) (fun _ _ _ h => h) (Or.inl ⟨by rfl, ?_⟩) (by assumption) ?_
        rotate_left
        · intro wS hSw; (try dsimp only at hSw); go_simp; first | done | with_reducible rfl
        try simp only [Act.put, List.setIfInBounds_toArray, List.set_cons_zero, List.set_cons_succ]
        refine wpAnyH_take (i := 6) (oi := { dst := some 29, op := Op.fieldAddr 28 (Operand.tmp 6) 3, type := 0, pos := _, after := _, guard := none }) (v := ?_) rfl (by kernel_rfl) (by kernel_rfl) (by kernel_rfl) (fun _ _ _ h => h) (Or.inl ⟨by rfl, ?_⟩) (by assumption) ?_
        rotate_left
        · intro wS hSw; (try dsimp only at hSw); go_simp; first | done | with_reducible rfl
        try simp only [Act.put, List.setIfInBounds_toArray, List.set_cons_zero, List.set_cons_succ]
        refine wpAnyH_take (i := 7) (oi := { dst := some 30, op := Op.load 3 (Operand.tmp 29), type := 3, pos := _, after := _, guard := none }) (v := ?_) rfl (by kernel_rfl) (by kernel_rfl) (by kernel_rfl) (fun _ _ _ h => h) (Or.inl ⟨by rfl, ?_⟩) (by assumption) ?_
        rotate_left
        · intro wS hSw; (try dsimp only at hSw); go_simp; first | done | with_reducible rfl
        try simp only [Act.put, List.setIfInBounds_toArray, List.set_cons_zero, List.set_cons_succ]
        refine wpAnyH_take (i := 8) (oi := { dst := some 31, op := Op.move (Operand.tmp 0), type := 3, pos := _, after := _, guard := none }) (v := ?_) rfl (by kernel_rfl) (by kernel_rfl) (by kernel_rfl) (fun _ _ _ h => h) (Or.inl ⟨by rfl, ?_⟩) (by assumption) ?_
        rotate_left
        · intro wS hSw; (try dsimp only at hSw); go_simp; first | done | with_reducible rfl
        try simp only [Act.put, List.setIfInBounds_toArray, List.set_cons_zero, List.set_cons_succ]
        refine wpAnyH_ready (rs := [5]) (by kernel_rfl) (by simp) ?_
        refine AllReadyH.cons (o := { dst := some 28, op := Op.call { callee := Callee.value (Operand.func 23), args := #[Operand.tmp 23, Operand.tmp 25, Operand.tmp 27], argTypes := #[31, 3, 3] }, type := 3, pos := _, after := _, guard := none }) rfl (fun K hK => ?_) AllReadyH.nil
        go_simp
        refine (far14_any N B em ek _ b0 k6).mono ?_
        rintro e x2 ⟨q, rfl, hq, hb⟩
        have HQ : Hid (FarIs N B em ek q) := hq
        have HB2 : Hid (Below w1.heap.size w1 x2) := ((Below.refl w1.heap.size w1).drew).trans hb
        have HT2 : Hid (Tre x2 (w.heap.size + 3) 0 0 0) := (HT.out.later (Below.refl _ _).drew).later hb
        clear hb hq
        go_wp2_with fail
        refine hK.out _ _ ?_ (fun hHeld => ?_)
        · exact (MK.out _ HB2.out).1
        clear hK K
        try simp only [Act.put, List.setIfInBounds_toArray, List.set_cons_zero, List.set_cons_succ]
        refine wpAnyH_take (i := 9) (oi := { dst := some 32, op := Op.build 24 #[(0, Operand.tmp 28), (1, Operand.tmp 30), (2, Operand.tmp 31)], type := 24, pos := _, after := _, guard := none }) (v := ?_) rfl (by kernel_rfl) (by kernel_rfl) (by kernel_rfl) (fun _ _ _ h => h) (Or.inl ⟨by rfl, ?_⟩) (by assumption) ?_
        rotate_left
        · intro wS hSw; (try dsimp only at hSw); go_simp; first | done | with_reducible rfl
        try simp only [Act.put, List.setIfInBounds_toArray, List.set_cons_zero, List.set_cons_succ]
        obtain ⟨⟨z0, z1, z2⟩, y0, y1, y2⟩ := HT2.out.tri
        refine wpAnyH_ready (rs := [10]) (by kernel_rfl) (by simp) ?_
        refine AllReadyH.cons (o := { dst := none, op := Op.store 24 (Operand.tmp 8) (Operand.tmp 32), type := 0, pos := _, after := _, guard := none }) rfl (fun K hK => ?_) AllReadyH.nil
        go_simp
        obtain ⟨x3, e3⟩ : ∃ y, ((x2.setCell ⟨w.heap.size + 3, 0, none⟩ (.int .i64 q)).setCell ⟨w.heap.size + 3, 1, none⟩ (.int .i64 u)).setCell ⟨w.heap.size + 3, 2, none⟩ (.int .i64 id) = y := ⟨_, rfl⟩
        rw [e3]
        have HT3 : Hid (Tre x3 (w.heap.size + 3) q u id) := e3 ▸ HT2.out.put q u id
        have HB3 : Hid (Below w.heap.size w x3) := e3 ▸ below_put3 (HE.out.trans (HB2.out.mono HE.out.size)) (by omega) _ _ _
        have e4 := e3
        clear z0 z1 z2 y0 y1 y2 e3
        refine hK.out _ _ ?_ (fun hHeld => ?_)
        · exact e4 ▸ far5 (MK.out _ HB2.out).1 (by omega) _ _ _
        clear hK K
        try simp only [Act.put, List.setIfInBounds_toArray, List.set_cons_zero, List.set_cons_succ]
        refine wpAnyH_take (i := 11) (oi := { dst := some 9, op := Op.assign (Operand.const (Value.bool true)), type := 4, pos := _, after := _, guard := none }) (v := ?_) rfl (by kernel_rfl) (by kernel_rfl) (by kernel_rfl) (fun _ _ _ h => h) (Or.inl ⟨by rfl, ?_⟩) (by assumption) ?_
        rotate_left
        · intro wS hSw; (try dsimp only at hSw); go_simp; first | done | with_reducible rfl
        try simp only [Act.put, List.setIfInBounds_toArray, List.set_cons_zero, List.set_cons_succ]
        refine wpAnyH_done (by kernel_rfl) ?_ _
        obtain ⟨⟨v0, v1, v2⟩, _⟩ := HT3.out.tri
        go_wp2_with fail
        refine bodyPost_ret (v := .tuple #[.agg #[.int .i64 q, .int .i64 u, .int .i64 id], .bool true]) ?_ rfl ⟨HB3.out, Or.inr ⟨HF.out, q, HQ.out, rfl⟩⟩
        simp [results, Try.results9, go_sem, v0, v1, v2]
end Go.Proofs.Ytkaobjcghmigmaa
