/- A description's cells; walks of package spec: known, Stretch. -/
import Derived.Test.YthbppojglhimnaaE3
namespace Go.Proofs.Ythbppojglhimnaa
open Go.RowKit

def Sp.at (s : Sp) (i : Nat) : Int := match i with
  | 0 => s.c
  | 1 => s.t
  | 2 => s.x
  | 3 => s.m
  | 4 => s.k
  | _ => s.e
def spV (s : Sp) : Value := .agg #[.int .i64 s.c, .int .i64 s.t, .int .i64 s.x, .int .i64 s.m, .int .i64 s.k, .int .i64 s.e]
theorem maySp_eq (s : Sp) : maySp s = decide (1 ≤ s.c ∧ s.c ≤ 6 ∧ s.c ≤ s.t ∧ s.t ≤ s.x ∧ s.x ≤ 48 ∧ (1 ≤ s.m ∧ s.m ≤ s.k ∧ s.k ≤ 6) ∧ 0 ≤ s.e ∧ s.e ≤ 8 ∧ (s.e ≠ 0 ∨ s.t = s.x)) := by
  have e : maySp s = (((((fitC s && fitT s) && fitX s) && fitW s) && fitW s) && fitE s) := by
    show ((((((true && fitC s) && fitT s) && fitX s) && fitW s) && fitW s) && fitE s) = _
    rw [Bool.true_and]
  rw [e]
  unfold fitC fitT fitX fitW fitE wiB leT mayB
  rw [Bool.eq_iff_iff]
  simp only [Bool.and_eq_true, decide_eq_true_eq]
  by_cases h : s.e = 0
  · simp only [h, if_true]; omega
  · simp only [h, if_false]; omega

/-- Six numbers that lie in a block, and may be written. -/
def Six (w : World) (b : Nat) (f : Nat → Int) : Prop := ∀ i, i < 6 → w.cell? ⟨b, i, none⟩ = some (.int .i64 (f i)) ∧ w.frozen? ⟨b, i, none⟩ = false
theorem Six.new (w : World) (s : Sp) : Six (w.alloc (.cells #[.int .i64 s.c, .int .i64 s.t, .int .i64 s.x, .int .i64 s.m, .int .i64 s.k, .int .i64 s.e] 23)) w.heap.size s.at := by
  intro i hi
  rcases (show i = 0 ∨ i = 1 ∨ i = 2 ∨ i = 3 ∨ i = 4 ∨ i = 5 by omega) with rfl | rfl | rfl | rfl | rfl | rfl <;> exact ⟨by simp [Sp.at], by simp⟩
theorem Six.later {w w' : World} {b : Nat} {f : Nat → Int} (h : Six w b f) (hb : Below w.heap.size w w') : Six w' b f := by
  intro i hi
  obtain ⟨h1, h2⟩ := h i hi
  exact ⟨cell_later hb h1, (hb.frozen (p := ⟨b, i, none⟩) (World.block_lt_of_cell? _ _ h1)).trans h2⟩
theorem Six.lt {w : World} {b : Nat} {f : Nat → Int} (h : Six w b f) : b < w.heap.size := World.block_lt_of_cell? _ _ (h 0 (by omega)).1
theorem Six.other {w : World} {b c i : Nat} {f : Nat → Int} (h : Six w b f) (hc : c ≠ b) (v : Value) : Six (w.setCell ⟨c, i, none⟩ v) b f := by
  intro j hj
  obtain ⟨h1, h2⟩ := h j hj
  exact ⟨by rw [World.cell?_setCell_other _ _ _ _ (fun h => hc (congrArg Addr.block h))]; exact h1, by simpa using h2⟩
theorem Six.set {w : World} {b : Nat} {f g : Nat → Int} (h : Six w b f) (j : Nat) (hj : j < 6) (v : Int) (hv : g j = v) (hg : ∀ i, i < 6 → i ≠ j → g i = f i) : Six (w.setCell ⟨b, j, none⟩ (.int .i64 v)) b g := by
  intro i hi
  obtain ⟨h1, h2⟩ := h i hi
  refine ⟨?_, by simpa using h2⟩
  by_cases e : i = j
  · subst e; rw [hv]; exact World.cell?_setCell_same _ _ _ h1
  · rw [World.cell?_setCell_other _ _ _ _ (by intro he; exact e (Addr.mk.injEq .. ▸ he).2.1.symm), hg i hi e]; exact h1

theorem Six.sp {w : World} {b : Nat} {c t x m k e : Int} (h : Six w b (Sp.at ⟨c, t, x, m, k, e⟩)) :
    w.cell? ⟨b, 0, none⟩ = some (.int .i64 c) ∧ w.cell? ⟨b, 1, none⟩ = some (.int .i64 t) ∧ w.cell? ⟨b, 2, none⟩ = some (.int .i64 x) ∧ w.cell? ⟨b, 3, none⟩ = some (.int .i64 m) ∧ w.cell? ⟨b, 4, none⟩ = some (.int .i64 k) ∧ w.cell? ⟨b, 5, none⟩ = some (.int .i64 e) ∧
    w.frozen? ⟨b, 0, none⟩ = false ∧ w.frozen? ⟨b, 1, none⟩ = false ∧ w.frozen? ⟨b, 2, none⟩ = false ∧ w.frozen? ⟨b, 3, none⟩ = false ∧ w.frozen? ⟨b, 4, none⟩ = false ∧ w.frozen? ⟨b, 5, none⟩ = false :=
  ⟨(h 0 (by omega)).1, (h 1 (by omega)).1, (h 2 (by omega)).1, (h 3 (by omega)).1, (h 4 (by omega)).1, (h 5 (by omega)).1, (h 0 (by omega)).2, (h 1 (by omega)).2, (h 2 (by omega)).2, (h 3 (by omega)).2, (h 4 (by omega)).2, (h 5 (by omega)).2⟩
/-- A write of all six. -/
def put6 (w : World) (b : Nat) (c t x m k e : Int) : World := (((((w.setCell ⟨b, 0, none⟩ (.int .i64 c)).setCell ⟨b, 1, none⟩ (.int .i64 t)).setCell ⟨b, 2, none⟩ (.int .i64 x)).setCell ⟨b, 3, none⟩ (.int .i64 m)).setCell ⟨b, 4, none⟩ (.int .i64 k)).setCell ⟨b, 5, none⟩ (.int .i64 e)
theorem below6 {B : Nat} {a w : World} {b : Nat} (h : Below B a w) (hB : B ≤ b) (c t x m k e : Int) : Below B a (put6 w b c t x m k e) :=
  (((((h.setCell (p := ⟨b, 0, none⟩) hB _).setCell (p := ⟨b, 1, none⟩) hB _).setCell (p := ⟨b, 2, none⟩) hB _).setCell (p := ⟨b, 3, none⟩) hB _).setCell (p := ⟨b, 4, none⟩) hB _).setCell (p := ⟨b, 5, none⟩) hB _

set_option maxHeartbeats 1000000 in
set_option maxRecDepth 100000 in
theorem spone_any (w : World) :
    Calls Try.prog 14 #[] w fun r w' => r = .returned (spV ⟨2, 10, 20, 1, 2, 3⟩) ∧ Below w.heap.size w w' := by
  go_enter Try.func14, Try.ntmps14
  go_wp2_with fail
  refine bodyPost_ret (v := spV ⟨2, 10, 20, 1, 2, 3⟩) ?_ rfl ⟨rfl, ?_⟩
  · simp [results, Try.results14, go_sem, spV]
  · exact (Below.refl _ _).alloc (by simp) _
end Go.Proofs.Ythbppojglhimnaa
