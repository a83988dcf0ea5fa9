/- Jobs as values: what is the same; boxed ones; the table of fates. -/
import Derived.Test.YthbppojglhimnaaJ1
import Derived.Test.YthbppojglhimnaaE4
import Derived.Test.YthbppojglhimnaaF1
import Derived.Laws.StructEq
namespace Go.Proofs.Ythbppojglhimnaa
open Go.RowKit

def jbV (j : Jb) : Value := .agg #[.bool j.on, .int .i64 j.n, .int .i64 j.rel, .int .i64 j.due, .bool j.md, .int .i64 j.c, .int .i64 j.d, .int .i64 j.ran]
/-- Are two jobs the same? -/
def eqJ (a b : Jb) : Bool := (a.on == b.on) && (decide (a.n = b.n) && (decide (a.rel = b.rel) && (decide (a.due = b.due) && ((a.md == b.md) && (decide (a.c = b.c) && (decide (a.d = b.d) && (decide (a.ran = b.ran))))))))
theorem eqJ_self (a : Jb) : eqJ a a = true := by simp [eqJ]
theorem eqJ_z (a : Jb) : eqJ a jbZ = zeB a := by
  unfold eqJ zeB jbZ
  rw [Bool.eq_iff_iff]
  simp
  intro _
  simp [and_assoc]
set_option maxHeartbeats 1000000 in
theorem job_eql (o : Bool) (n r u : Int) (b : Bool) (c d x : Int) (o' : Bool) (n' r' u' : Int) (b' : Bool) (c' d' x' : Int) (w : World) : (binOp .eql 25 (.agg #[.bool o, .int .i64 n, .int .i64 r, .int .i64 u, .bool b, .int .i64 c, .int .i64 d, .int .i64 x]) (.agg #[.bool o', .int .i64 n', .int .i64 r', .int .i64 u', .bool b', .int .i64 c', .int .i64 d', .int .i64 x'])).run Try.prog w = .ok (.bool (eqJ ⟨o, n, r, u, b, c, d, x⟩ ⟨o', n', r', u', b', c', d', x'⟩)) w := by
  unfold eqJ
  by_cases h0 : o = o'
  rotate_left
  · simp [go_sem, h0]
  by_cases h1 : n = n'
  rotate_left
  · simp [go_sem, h0, h1]
  by_cases h2 : r = r'
  rotate_left
  · simp [go_sem, h0, h1, h2]
  by_cases h3 : u = u'
  rotate_left
  · simp [go_sem, h0, h1, h2, h3]
  by_cases h4 : b = b'
  rotate_left
  · simp [go_sem, h0, h1, h2, h3, h4]
  by_cases h5 : c = c'
  rotate_left
  · simp [go_sem, h0, h1, h2, h3, h4, h5]
  by_cases h6 : d = d'
  rotate_left
  · simp [go_sem, h0, h1, h2, h3, h4, h5, h6]
  by_cases h7 : x = x'
  rotate_left
  · simp [go_sem, h0, h1, h2, h3, h4, h5, h6, h7]
  simp [go_sem, h0, h1, h2, h3, h4, h5, h6, h7]
set_option maxHeartbeats 1000000 in
theorem job_neq (o : Bool) (n r u : Int) (b : Bool) (c d x : Int) (o' : Bool) (n' r' u' : Int) (b' : Bool) (c' d' x' : Int) (w : World) : (binOp .neq 25 (.agg #[.bool o, .int .i64 n, .int .i64 r, .int .i64 u, .bool b, .int .i64 c, .int .i64 d, .int .i64 x]) (.agg #[.bool o', .int .i64 n', .int .i64 r', .int .i64 u', .bool b', .int .i64 c', .int .i64 d', .int .i64 x'])).run Try.prog w = .ok (.bool (!eqJ ⟨o, n, r, u, b, c, d, x⟩ ⟨o', n', r', u', b', c', d', x'⟩)) w := by
  unfold eqJ
  by_cases h0 : o = o'
  rotate_left
  · simp [go_sem, h0]
  by_cases h1 : n = n'
  rotate_left
  · simp [go_sem, h0, h1]
  by_cases h2 : r = r'
  rotate_left
  · simp [go_sem, h0, h1, h2]
  by_cases h3 : u = u'
  rotate_left
  · simp [go_sem, h0, h1, h2, h3]
  by_cases h4 : b = b'
  rotate_left
  · simp [go_sem, h0, h1, h2, h3, h4]
  by_cases h5 : c = c'
  rotate_left
  · simp [go_sem, h0, h1, h2, h3, h4, h5]
  by_cases h6 : d = d'
  rotate_left
  · simp [go_sem, h0, h1, h2, h3, h4, h5, h6]
  by_cases h7 : x = x'
  rotate_left
  · simp [go_sem, h0, h1, h2, h3, h4, h5, h6, h7]
  simp [go_sem, h0, h1, h2, h3, h4, h5, h6, h7]
/-- A job that lies in a block, and may be written. -/
def Eit (w : World) (b : Nat) (j : Jb) : Prop := ∀ i, i < 8 → w.cell? ⟨b, i, none⟩ = j.row[i]? ∧ w.frozen? ⟨b, i, none⟩ = false
theorem Eit.new (w : World) (j : Jb) : Eit (w.alloc (.cells #[.bool j.on, .int .i64 j.n, .int .i64 j.rel, .int .i64 j.due, .bool j.md, .int .i64 j.c, .int .i64 j.d, .int .i64 j.ran] 25)) w.heap.size j := by
  intro i hi
  rcases (show i = 0 ∨ i = 1 ∨ i = 2 ∨ i = 3 ∨ i = 4 ∨ i = 5 ∨ i = 6 ∨ i = 7 by omega) with rfl | rfl | rfl | rfl | rfl | rfl | rfl | rfl <;> exact ⟨by simp [Jb.row], by simp⟩
theorem jrow_some (j : Jb) {i : Nat} (h : i < 8) : ∃ u, j.row[i]? = some u := ⟨_, List.getElem?_eq_getElem (by show i < 8; exact h)⟩
theorem Eit.later {w w' : World} {b : Nat} {j : Jb} (h : Eit w b j) (hb : Below w.heap.size w w') : Eit w' b j := by
  intro i hi
  obtain ⟨h1, h2⟩ := h i hi
  obtain ⟨u, hu⟩ := jrow_some j hi
  rw [hu] at h1
  exact ⟨by rw [hu]; exact cell_later hb h1, (hb.frozen (p := ⟨b, i, none⟩) (World.block_lt_of_cell? _ _ h1)).trans h2⟩
theorem Eit.lt {w : World} {b : Nat} {j : Jb} (h : Eit w b j) : b < w.heap.size := World.block_lt_of_cell? _ _ (h 0 (by omega)).1
theorem Eit.other {w : World} {b k i : Nat} {j : Jb} (h : Eit w b j) (hc : k ≠ b) (v : Value) : Eit (w.setCell ⟨k, i, none⟩ v) b j := by
  intro t ht
  obtain ⟨h1, h2⟩ := h t ht
  exact ⟨by rw [World.cell?_setCell_other _ _ _ _ (fun h => hc (congrArg Addr.block h))]; exact h1, by simpa using h2⟩
theorem Eit.set {w : World} {b : Nat} {j k : Jb} (h : Eit w b j) (t : Nat) (ht : t < 8) (v : Value) (hv : k.row[t]? = some v) (hg : ∀ i, i < 8 → i ≠ t → k.row[i]? = j.row[i]?) : Eit (w.setCell ⟨b, t, none⟩ v) b k := by
  intro i hi
  obtain ⟨h1, h2⟩ := h i hi
  refine ⟨?_, by simpa using h2⟩
  by_cases e : i = t
  · subst e
    rw [hv]
    obtain ⟨u, hu⟩ := jrow_some j hi
    exact World.cell?_setCell_same _ _ _ (h1.trans hu)
  · rw [World.cell?_setCell_other _ _ _ _ (by intro he; exact e (Addr.mk.injEq .. ▸ he).2.1.symm), hg i hi e]; exact h1
theorem Eit.op {w : World} {p : Nat} {o : Bool} {n r u : Int} {b : Bool} {c d x : Int} (h : Eit w p ⟨o, n, r, u, b, c, d, x⟩) :
    w.cell? ⟨p, 0, none⟩ = some (.bool o) ∧ w.cell? ⟨p, 1, none⟩ = some (.int .i64 n) ∧ w.cell? ⟨p, 2, none⟩ = some (.int .i64 r) ∧ w.cell? ⟨p, 3, none⟩ = some (.int .i64 u) ∧ w.cell? ⟨p, 4, none⟩ = some (.bool b) ∧ w.cell? ⟨p, 5, none⟩ = some (.int .i64 c) ∧ w.cell? ⟨p, 6, none⟩ = some (.int .i64 d) ∧ w.cell? ⟨p, 7, none⟩ = some (.int .i64 x) ∧
    w.frozen? ⟨p, 0, none⟩ = false ∧ w.frozen? ⟨p, 1, none⟩ = false ∧ w.frozen? ⟨p, 2, none⟩ = false ∧ w.frozen? ⟨p, 3, none⟩ = false ∧ w.frozen? ⟨p, 4, none⟩ = false ∧ w.frozen? ⟨p, 5, none⟩ = false ∧ w.frozen? ⟨p, 6, none⟩ = false ∧ w.frozen? ⟨p, 7, none⟩ = false :=
  ⟨(h 0 (by omega)).1, (h 1 (by omega)).1, (h 2 (by omega)).1, (h 3 (by omega)).1, (h 4 (by omega)).1, (h 5 (by omega)).1, (h 6 (by omega)).1, (h 7 (by omega)).1, (h 0 (by omega)).2, (h 1 (by omega)).2, (h 2 (by omega)).2, (h 3 (by omega)).2, (h 4 (by omega)).2, (h 5 (by omega)).2, (h 6 (by omega)).2, (h 7 (by omega)).2⟩
/-- A write of all eight. -/
def put8 (w : World) (p : Nat) (o : Bool) (n r u : Int) (b : Bool) (c d x : Int) : World := ((((((((w.setCell ⟨p, 0, none⟩ (.bool o)).setCell ⟨p, 1, none⟩ (.int .i64 n)).setCell ⟨p, 2, none⟩ (.int .i64 r)).setCell ⟨p, 3, none⟩ (.int .i64 u)).setCell ⟨p, 4, none⟩ (.bool b)).setCell ⟨p, 5, none⟩ (.int .i64 c)).setCell ⟨p, 6, none⟩ (.int .i64 d)).setCell ⟨p, 7, none⟩ (.int .i64 x))
theorem below8 {B : Nat} {a w : World} {p : Nat} (h : Below B a w) (hB : B ≤ p) (o : Bool) (n r u : Int) (b : Bool) (c d x : Int) : Below B a (put8 w p o n r u b c d x) := ((((((((h.setCell (p := ⟨p, 0, none⟩) hB _).setCell (p := ⟨p, 1, none⟩) hB _).setCell (p := ⟨p, 2, none⟩) hB _).setCell (p := ⟨p, 3, none⟩) hB _).setCell (p := ⟨p, 4, none⟩) hB _).setCell (p := ⟨p, 5, none⟩) hB _).setCell (p := ⟨p, 6, none⟩) hB _).setCell (p := ⟨p, 7, none⟩) hB _)
end Go.Proofs.Ythbppojglhimnaa
