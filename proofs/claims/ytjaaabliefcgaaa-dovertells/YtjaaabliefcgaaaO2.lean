/- Such jobs as cells; walks of dover's within, mayOne, none, yields, from, and of what it makes. -/
import Derived.Test.YtjaaabliefcgaaaO1
import Derived.Test.YtjaaabliefcgaaaP1
import Derived.Test.YtjaaabliefcgaaaW3
import Derived.Laws.StructEq
namespace Go.Proofs.Ytjaaabliefcgaaa
open Go.RowKit

def Ap.row (a : Ap) : List Value := [.int .i64 a.id, .int .i64 a.due, .int .i64 a.c, .int .i64 a.v, .int .i64 a.r]
def recA : Rec Ap := ⟨5, Ap.row, fun _ => rfl, fun _ u hu => by
  simp [Ap.row] at hu
  rcases hu with rfl | rfl | rfl | rfl | rfl <;> rfl, by decide⟩
def apV (a : Ap) : Value := .agg #[.int .i64 a.id, .int .i64 a.due, .int .i64 a.c, .int .i64 a.v, .int .i64 a.r]
theorem Try.infoApe : (Try.prog.info? 30).map (fun i => (i.zero, i.size, i.bytes)) = some (some (.agg #[.int .i64 0, .int .i64 0, .int .i64 0, .int .i64 0, .int .i64 0]), 5, 40) := by kernel_rfl
/-- A boxed one. -/
def Bx5 (w : World) (b : Nat) (i d c v r : Int) : Prop := w.cell? ⟨b, 0, none⟩ = some (.int .i64 i) ∧ w.cell? ⟨b, 1, none⟩ = some (.int .i64 d) ∧ w.cell? ⟨b, 2, none⟩ = some (.int .i64 c) ∧ w.cell? ⟨b, 3, none⟩ = some (.int .i64 v) ∧ w.cell? ⟨b, 4, none⟩ = some (.int .i64 r)
theorem Bx5.new (w : World) (i d c v r : Int) (t : TypeId) : Bx5 (w.alloc (.cells #[.int .i64 i, .int .i64 d, .int .i64 c, .int .i64 v, .int .i64 r] t)) w.heap.size i d c v r := by
  unfold Bx5
  refine ⟨?_, ?_, ?_, ?_, ?_⟩ <;> simp
theorem Bx5.later {w w' : World} {b : Nat} {i d c v r : Int} (h : Bx5 w b i d c v r) (hb : Below w.heap.size w w') : Bx5 w' b i d c v r := by
  obtain ⟨h0, h1, h2, h3, h4⟩ := h
  exact ⟨cell_later hb h0, cell_later hb h1, cell_later hb h2, cell_later hb h3, cell_later hb h4⟩
theorem Bx5.lt {w : World} {b : Nat} {i d c v r : Int} (h : Bx5 w b i d c v r) : b < w.heap.size := World.block_lt_of_cell? _ _ h.1
theorem Bx5.kept {w w' : World} {b : Nat} {i d c v r : Int} {row : Option Nat} (h : Bx5 w b i d c v r) (hg : w.grownBy w' row) (hne : some b ≠ row) : Bx5 w' b i d c v r := by
  have hb := hg.block b h.lt hne
  obtain ⟨h0, h1, h2, h3, h4⟩ := h
  exact ⟨(World.cell?_of_block (w := w) (a := ⟨b, 0, none⟩) hb).trans h0, (World.cell?_of_block (w := w) (a := ⟨b, 1, none⟩) hb).trans h1, (World.cell?_of_block (w := w) (a := ⟨b, 2, none⟩) hb).trans h2, (World.cell?_of_block (w := w) (a := ⟨b, 3, none⟩) hb).trans h3, (World.cell?_of_block (w := w) (a := ⟨b, 4, none⟩) hb).trans h4⟩
/-- One number in a cell of its own. -/
def CellN (w : World) (p : Nat) (n : Int) : Prop := w.cell? ⟨p, 0, none⟩ = some (.int .i64 n) ∧ w.frozen? ⟨p, 0, none⟩ = false
theorem CellN.lt {w : World} {p : Nat} {n : Int} (h : CellN w p n) : p < w.heap.size := World.block_lt_of_cell? _ _ h.1
theorem CellN.later {w w' : World} {p : Nat} {n : Int} (h : CellN w p n) (hb : Below w.heap.size w w') : CellN w' p n :=
  ⟨cell_later hb h.1, (hb.frozen (p := ⟨p, 0, none⟩) h.lt).trans h.2⟩
theorem CellN.new (w : World) (n : Int) (t : TypeId) : CellN (w.alloc (.cells #[.int .i64 n] t)) w.heap.size n := by
  unfold CellN
  have hg := heap_alloc_new w (.cells #[.int .i64 n] t)
  exact ⟨by rw [cell_of_row _ _ 0 _ t (0, 0) hg]; simp, frozen_of_row _ _ 0 _ t hg⟩

set_option maxHeartbeats 1000000 in
theorem ap_eql (i d c v r i' d' c' v' r' : Int) (w : World) : (binOp .eql 30 (.agg #[.int .i64 i, .int .i64 d, .int .i64 c, .int .i64 v, .int .i64 r]) (.agg #[.int .i64 i', .int .i64 d', .int .i64 c', .int .i64 v', .int .i64 r'])).run Try.prog w = .ok (.bool (eqA ⟨i, d, c, v, r⟩ ⟨i', d', c', v', r'⟩)) w := by
  unfold eqA
  by_cases h0 : i = i'
  rotate_left
  · simp [go_sem, h0]
  by_cases h1 : d = d'
  rotate_left
  · simp [go_sem, h0, h1]
  by_cases h2 : c = c'
  rotate_left
  · simp [go_sem, h0, h1, h2]
  by_cases h3 : v = v'
  rotate_left
  · simp [go_sem, h0, h1, h2, h3]
  by_cases h4 : r = r'
  rotate_left
  · simp [go_sem, h0, h1, h2, h3, h4]
  simp [go_sem, h0, h1, h2, h3, h4]

theorem dwithin_any (n lo hi : Int) (w : World) :
    Calls Try.prog 31 #[.int .i64 n, .int .i64 lo, .int .i64 hi] w fun e w' => e = .returned (.bool (decide (lo ≤ n ∧ n ≤ hi))) ∧ w' = w := by
  by_cases h : lo ≤ n
  · by_cases h2 : n ≤ hi
    · go_enter Try.func31, Try.ntmps31
      go_wp2
      go_ret
      exact ⟨ret_b (by rw [Bool.eq_iff_iff]; simp; omega), rfl⟩
    · go_enter Try.func31, Try.ntmps31
      go_wp2
      go_ret
      exact ⟨ret_b (by rw [Bool.eq_iff_iff]; simp; omega), rfl⟩
  · go_enter Try.func31, Try.ntmps31
    go_wp2
    go_ret
    exact ⟨ret_b (by rw [Bool.eq_iff_iff]; simp; omega), rfl⟩

/-- May one be? -/
def mayA (a : Ap) : Bool := decide (0 ≤ a.id ∧ a.id ≤ 549755813888) && (decide (1 ≤ a.due ∧ a.due ≤ 1099511627776) && (decide (1 ≤ a.c ∧ a.c ≤ 40) && (decide (1 ≤ a.v ∧ a.v ≤ 1000) && decide (0 ≤ a.r ∧ a.r ≤ a.c - 1))))
theorem mayA_iff {a : Ap} : mayA a = true ↔ (0 ≤ a.id ∧ a.id ≤ 549755813888) ∧ (1 ≤ a.due ∧ a.due ≤ 1099511627776) ∧ (1 ≤ a.c ∧ a.c ≤ 40) ∧ (1 ≤ a.v ∧ a.v ≤ 1000) ∧ (0 ≤ a.r ∧ a.r ≤ a.c - 1) := by
  unfold mayA; simp [and_assoc]
set_option maxHeartbeats 1000000 in
set_option maxRecDepth 100000 in
theorem mayOne_any (i d c v r : Int) (w : World) :
    Calls Try.prog 33 #[.agg #[.int .i64 i, .int .i64 d, .int .i64 c, .int .i64 v, .int .i64 r]] w fun e w' => e = .returned (.bool (mayA ⟨i, d, c, v, r⟩)) ∧ Below w.heap.size w w' := by
  have hX := Bx5.new w i d c v r 30
  obtain ⟨x0, x1, x2, x3, x4⟩ := hX
  have HB : Hid (Below w.heap.size w (w.alloc (.cells #[.int .i64 i, .int .i64 d, .int .i64 c, .int .i64 v, .int .i64 r] 30))) := (Below.refl _ _).alloc (Nat.le_refl _) _
  have HA : Hid (mayA ⟨i, d, c, v, r⟩ = (decide (0 ≤ i ∧ i ≤ 549755813888) && (decide (1 ≤ d ∧ d ≤ 1099511627776) && (decide (1 ≤ c ∧ c ≤ 40) && (decide (1 ≤ v ∧ v ≤ 1000) && decide (0 ≤ r ∧ r ≤ c - 1)))))) := rfl
  have HC : Hid (decide (1 ≤ c ∧ c ≤ 40) = true → IntKind.i64.wrap (c - 1) = c - 1) := fun h => by
    have := of_decide_eq_true h
    rw [IntKind.wrap_i64]; omega
  obtain ⟨b0, h0⟩ : ∃ b, decide (0 ≤ i ∧ i ≤ 549755813888) = b := ⟨_, rfl⟩
  obtain ⟨b1, h1⟩ : ∃ b, decide (1 ≤ d ∧ d ≤ 1099511627776) = b := ⟨_, rfl⟩
  obtain ⟨b2, h2⟩ : ∃ b, decide (1 ≤ c ∧ c ≤ 40) = b := ⟨_, rfl⟩
  obtain ⟨b3, h3⟩ : ∃ b, decide (1 ≤ v ∧ v ≤ 1000) = b := ⟨_, rfl⟩
  obtain ⟨b4, h4⟩ : ∃ b, decide (0 ≤ r ∧ r ≤ c - 1) = b := ⟨_, rfl⟩
  rw [h0, h1, h2, h3, h4] at HA
  rw [h2] at HC
  have H0 : Hid (decide (0 ≤ i ∧ i ≤ 549755813888) = b0) := h0
  have H1 : Hid (decide (1 ≤ d ∧ d ≤ 1099511627776) = b1) := h1
  have H2 : Hid (decide (1 ≤ c ∧ c ≤ 40) = b2) := h2
  have H3 : Hid (decide (1 ≤ v ∧ v ≤ 1000) = b3) := h3
  have H4 : Hid (decide (0 ≤ r ∧ r ≤ c - 1) = b4) := h4
  clear h0 h1 h2 h3 h4
  go_enter Try.func33, Try.ntmps33
  go_wp2_with fail
  refine (dwithin_any _ _ _ _).mono ?_
  rintro e w1 ⟨rfl, rfl⟩
  rw [H0.out]
  cases b0
  · go_wp2
    go_ret
    exact ⟨ret_b (by rw [HA.out]; rfl), HB.out⟩
  go_wp2_with fail
  refine (dwithin_any _ _ _ _).mono ?_
  rintro e w1 ⟨rfl, rfl⟩
  rw [H1.out]
  cases b1
  · go_wp2
    go_ret
    exact ⟨ret_b (by rw [HA.out]; rfl), HB.out⟩
  go_wp2_with fail
  refine (dwithin_any _ _ _ _).mono ?_
  rintro e w1 ⟨rfl, rfl⟩
  rw [H2.out]
  cases b2
  · go_wp2
    go_ret
    exact ⟨ret_b (by rw [HA.out]; rfl), HB.out⟩
  have hc := HC.out rfl
  go_wp2_with fail
  refine (dwithin_any _ _ _ _).mono ?_
  rintro e w1 ⟨rfl, rfl⟩
  rw [H3.out]
  cases b3
  · go_wp2
    go_ret
    exact ⟨ret_b (by rw [HA.out]; rfl), HB.out⟩
  go_wp2_with fail
  refine (dwithin_any _ _ _ _).mono ?_
  rintro e w1 ⟨rfl, rfl⟩
  rw [H4.out]
  go_wp2
  go_ret
  exact ⟨ret_b (by rw [HA.out]; cases b4 <;> rfl), HB.out⟩

theorem none_any (i d c v r : Int) (w : World) :
    Calls Try.prog 40 #[.agg #[.int .i64 i, .int .i64 d, .int .i64 c, .int .i64 v, .int .i64 r]] w fun e w' => e = .returned (.bool (eqA ⟨i, d, c, v, r⟩ apZ)) ∧ Below w.heap.size w w' := by
  have hX := Bx5.new w i d c v r 30
  obtain ⟨x0, x1, x2, x3, x4⟩ := hX
  have HB : Hid (Below w.heap.size w (w.alloc (.cells #[.int .i64 i, .int .i64 d, .int .i64 c, .int .i64 v, .int .i64 r] 30))) := (Below.refl _ _).alloc (Nat.le_refl _) _
  have hE := fun w' => ap_eql i d c v r 0 0 0 0 0 w'
  go_enter Try.func40, Try.ntmps40
  go_wp2
  go_ret
  exact ⟨rfl, HB.out⟩

/-- Does who runs let another one run? -/
def yldB (a b : Ap) : Bool := eqA a apZ || bt b.v a.v 4
set_option maxHeartbeats 1000000 in
set_option maxRecDepth 100000 in
theorem yields_any (i d c v r i' d' c' v' r' : Int) (w : World) :
    Calls Try.prog 39 #[.agg #[.int .i64 i, .int .i64 d, .int .i64 c, .int .i64 v, .int .i64 r], .agg #[.int .i64 i', .int .i64 d', .int .i64 c', .int .i64 v', .int .i64 r']] w fun e w' => e = .returned (.bool (yldB ⟨i, d, c, v, r⟩ ⟨i', d', c', v', r'⟩)) ∧ Below w.heap.size w w' := by
  have hX := (Bx5.new w i d c v r 30).later ((Below.refl _ _).alloc (Nat.le_refl _) (.cells #[.int .i64 i', .int .i64 d', .int .i64 c', .int .i64 v', .int .i64 r'] 30))
  have hY := Bx5.new (w.alloc (.cells #[.int .i64 i, .int .i64 d, .int .i64 c, .int .i64 v, .int .i64 r] 30)) i' d' c' v' r' 30
  rw [World.size_alloc] at hY
  have HX : Hid (Bx5 _ _ _ _ _ _ _) := hX
  have HY : Hid (Bx5 _ _ _ _ _ _ _) := hY
  obtain ⟨x0, x1, x2, x3, x4⟩ := hX
  obtain ⟨y0, y1, y2, y3, y4⟩ := hY
  have HB : Hid (Below w.heap.size w ((w.alloc (.cells #[.int .i64 i, .int .i64 d, .int .i64 c, .int .i64 v, .int .i64 r] 30)).alloc (.cells #[.int .i64 i', .int .i64 d', .int .i64 c', .int .i64 v', .int .i64 r'] 30))) := ((Below.refl _ _).alloc (Nat.le_refl _) _).alloc (by simp) _
  obtain ⟨q, hq⟩ : ∃ q, eqA ⟨i, d, c, v, r⟩ apZ = q := ⟨_, rfl⟩
  have HQ : Hid (eqA ⟨i, d, c, v, r⟩ apZ = q) := hq
  have HA : Hid (yldB ⟨i, d, c, v, r⟩ ⟨i', d', c', v', r'⟩ = (q || bt v' v 4)) := by show _ = _; unfold yldB; rw [hq]
  clear hq
  go_enter Try.func39, Try.ntmps39
  go_wp2_with fail
  refine (none_any _ _ _ _ _ _).mono ?_
  rintro e w1 ⟨rfl, hb1⟩
  rw [HQ.out]
  have HB1 : Hid (Below w.heap.size w w1) := HB.out.trans (hb1.mono HB.out.size)
  obtain ⟨z0, z1, z2, z3, z4⟩ := HX.out.later hb1
  obtain ⟨u0, u1, u2, u3, u4⟩ := HY.out.later hb1
  clear x0 x1 x2 x3 x4 y0 y1 y2 y3 y4 hb1
  cases q
  · go_wp2_with fail
    refine (beats_any _ _ _ _).mono ?_
    rintro e w2 ⟨rfl, hb2⟩
    have HB2 : Hid (Below w.heap.size w w2) := HB1.out.trans (hb2.mono HB1.out.size)
    clear hb2
    go_wp2
    go_ret
    exact ⟨ret_b (by rw [HA.out]; rfl), HB2.out⟩
  · go_wp2
    go_ret
    exact ⟨ret_b (by rw [HA.out]; rfl), HB1.out⟩

theorem setCell_grown (w : World) (b o : Nat) (u : Value) : w.grownBy (w.setCell ⟨b, o, none⟩ u) (some b) :=
  ⟨rfl, rfl, rfl, by simp, fun k _ hk => Below.heap_setCell _ _ _ k (fun e => hk (by rw [e]))⟩
/-- What tells when each ends: the time lies in block b. -/
def endV (b : Nat) : Value := .func (.func 41) #[] #[.pointer (some ⟨b, 0, none⟩)]
theorem from_any (now : Int) (w : World) :
    Calls Try.prog 30 #[.int .i64 now] w fun e w' => e = .returned (endV w.heap.size) ∧ CellN w' w.heap.size now ∧ Below w.heap.size w w' := by
  have HC := CellN.new w now 3
  have HH : Hid (CellN _ _ _) := HC
  clear HC
  go_enter Try.func30, Try.ntmps30
  go_wp2
  go_ret
  exact ⟨rfl, HH.out, (Below.refl _ _).alloc (Nat.le_refl _) _⟩
set_option maxHeartbeats 1000000 in
set_option maxRecDepth 100000 in
theorem end_any (i d c v r now : Int) (p : Nat) (w : World) (hc : CellN w p now) (h1 : IntKind.i64.wrap (c - r) = c - r) (h2 : IntKind.i64.wrap (now + (c - r)) = now + (c - r)) :
    Calls Try.prog 41 #[.agg #[.int .i64 i, .int .i64 d, .int .i64 c, .int .i64 v, .int .i64 r], .pointer (some ⟨p, 0, none⟩)] w fun e w' => e = .returned (.int .i64 (now + (c - r))) ∧ CellN w' p (now + (c - r)) ∧ w.grownBy w' (some p) := by
  have hX := Bx5.new w i d c v r 30
  obtain ⟨x0, x1, x2, x3, x4⟩ := hX
  have hl := hc.lt
  obtain ⟨c0, c1⟩ := hc
  have H0 : Hid (w.cell? ⟨p, 0, none⟩ = some (.int .i64 now)) := c0
  have H1 : Hid (w.frozen? ⟨p, 0, none⟩ = false) := c1
  have hs : w.cell? ⟨p, 0, none⟩ = some (.int .i64 now) → (w.setCell ⟨p, 0, none⟩ (.int .i64 (now + (c - r)))).cell? ⟨p, 0, none⟩ = some (.int .i64 (now + (c - r))) := fun h => World.cell?_setCell_same _ _ _ h
  have h3 := hs c0
  clear hs
  go_enter Try.func41, Try.ntmps41
  go_wp2
  go_ret
  have hb : Below (w.setCell ⟨p, 0, none⟩ (.int .i64 (now + (c - r)))).heap.size (w.setCell ⟨p, 0, none⟩ (.int .i64 (now + (c - r)))) ((w.setCell ⟨p, 0, none⟩ (.int .i64 (now + (c - r)))).alloc (.cells #[.int .i64 i, .int .i64 d, .int .i64 c, .int .i64 v, .int .i64 r] 30)) := (Below.refl _ _).alloc (Nat.le_refl _) _
  refine ⟨rfl, CellN.later ⟨h3, by rw [World.frozen?_setCell]; exact H1.out⟩ hb, ?_⟩
  exact (setCell_grown w p 0 _).trans (World.grownBy_alloc _ _ _)
end Go.Proofs.Ytjaaabliefcgaaa
