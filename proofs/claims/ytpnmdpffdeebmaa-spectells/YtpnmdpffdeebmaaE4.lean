/- A description's cells; walks of package spec: known, Stretch. -/
import Derived.Test.YtpnmdpffdeebmaaE3
namespace Go.Proofs.Ytpnmdpffdeebmaa
open Go.RowKit

def Sp.at (s : Sp) (i : Nat) : Int := match i with
  | 0 => s.c
  | 1 => s.t
  | 2 => s.x
  | 3 => s.m
  | 4 => s.k
  | _ => s.e
def spZ : Sp := ⟨0, 0, 0, 0, 0, 0⟩
def spV (s : Sp) : Value := .agg #[.int .i64 s.c, .int .i64 s.t, .int .i64 s.x, .int .i64 s.m, .int .i64 s.k, .int .i64 s.e]
/-- What is handed out of a description: itself, if it may be. -/
def knS (s : Sp) : Sp := bif maySp s then s else spZ
theorem knS_no {s : Sp} (h : maySp s = false) : knS s = spZ := by unfold knS; rw [h]; rfl
theorem knS_yes {s : Sp} (h : maySp s = true) : knS s = s := by unfold knS; rw [h]; rfl

theorem maySp_eq (s : Sp) : maySp s = decide (1 ≤ s.c ∧ s.c ≤ 6 ∧ s.c ≤ s.t ∧ s.t ≤ s.x ∧ s.x ≤ 48 ∧ (1 ≤ s.m ∧ s.m ≤ s.k ∧ s.k ≤ 6) ∧ 0 ≤ s.e ∧ s.e ≤ 8 ∧ (s.e ≠ 0 ∨ s.t = s.x)) := by
  have e : maySp s = (((((fitC s && fitT s) && fitX s) && fitW s) && fitW s) && fitE s) := by
    show ((((((true && fitC s) && fitT s) && fitX s) && fitW s) && fitW s) && fitE s) = _
    rw [Bool.true_and]
  rw [e]
  unfold fitC fitT fitX fitW fitE wiB leT mayB
  rw [Bool.eq_iff_iff]
  simp only [Bool.and_eq_true, decide_eq_true_eq]
  by_cases h : s.e = 0
  · simp only [h, if_true]; omega
  · simp only [h, if_false]; omega

/-- Six numbers that lie in a block, and may be written. -/
def Six (w : World) (b : Nat) (f : Nat → Int) : Prop := ∀ i, i < 6 → w.cell? ⟨b, i, none⟩ = some (.int .i64 (f i)) ∧ w.frozen? ⟨b, i, none⟩ = false
theorem Six.new (w : World) (s : Sp) : Six (w.alloc (.cells #[.int .i64 s.c, .int .i64 s.t, .int .i64 s.x, .int .i64 s.m, .int .i64 s.k, .int .i64 s.e] 23)) w.heap.size s.at := by
  intro i hi
  rcases (show i = 0 ∨ i = 1 ∨ i = 2 ∨ i = 3 ∨ i = 4 ∨ i = 5 by omega) with rfl | rfl | rfl | rfl | rfl | rfl <;> exact ⟨by simp [Sp.at], by simp⟩
theorem Six.later {w w' : World} {b : Nat} {f : Nat → Int} (h : Six w b f) (hb : Below w.heap.size w w') : Six w' b f := by
  intro i hi
  obtain ⟨h1, h2⟩ := h i hi
  exact ⟨cell_later hb h1, (hb.frozen (p := ⟨b, i, none⟩) (World.block_lt_of_cell? _ _ h1)).trans h2⟩
theorem Six.lt {w : World} {b : Nat} {f : Nat → Int} (h : Six w b f) : b < w.heap.size := World.block_lt_of_cell? _ _ (h 0 (by omega)).1
theorem Six.other {w : World} {b c i : Nat} {f : Nat → Int} (h : Six w b f) (hc : c ≠ b) (v : Value) : Six (w.setCell ⟨c, i, none⟩ v) b f := by
  intro j hj
  obtain ⟨h1, h2⟩ := h j hj
  exact ⟨by rw [World.cell?_setCell_other _ _ _ _ (fun h => hc (congrArg Addr.block h))]; exact h1, by simpa using h2⟩
theorem Six.set {w : World} {b : Nat} {f g : Nat → Int} (h : Six w b f) (j : Nat) (hj : j < 6) (v : Int) (hv : g j = v) (hg : ∀ i, i < 6 → i ≠ j → g i = f i) : Six (w.setCell ⟨b, j, none⟩ (.int .i64 v)) b g := by
  intro i hi
  obtain ⟨h1, h2⟩ := h i hi
  refine ⟨?_, by simpa using h2⟩
  by_cases e : i = j
  · subst e; rw [hv]; exact World.cell?_setCell_same _ _ _ h1
  · rw [World.cell?_setCell_other _ _ _ _ (by intro he; exact e (Addr.mk.injEq .. ▸ he).2.1.symm), hg i hi e]; exact h1

theorem Six.sp {w : World} {b : Nat} {c t x m k e : Int} (h : Six w b (Sp.at ⟨c, t, x, m, k, e⟩)) :
    w.cell? ⟨b, 0, none⟩ = some (.int .i64 c) ∧ w.cell? ⟨b, 1, none⟩ = some (.int .i64 t) ∧ w.cell? ⟨b, 2, none⟩ = some (.int .i64 x) ∧ w.cell? ⟨b, 3, none⟩ = some (.int .i64 m) ∧ w.cell? ⟨b, 4, none⟩ = some (.int .i64 k) ∧ w.cell? ⟨b, 5, none⟩ = some (.int .i64 e) ∧
    w.frozen? ⟨b, 0, none⟩ = false ∧ w.frozen? ⟨b, 1, none⟩ = false ∧ w.frozen? ⟨b, 2, none⟩ = false ∧ w.frozen? ⟨b, 3, none⟩ = false ∧ w.frozen? ⟨b, 4, none⟩ = false ∧ w.frozen? ⟨b, 5, none⟩ = false :=
  ⟨(h 0 (by omega)).1, (h 1 (by omega)).1, (h 2 (by omega)).1, (h 3 (by omega)).1, (h 4 (by omega)).1, (h 5 (by omega)).1, (h 0 (by omega)).2, (h 1 (by omega)).2, (h 2 (by omega)).2, (h 3 (by omega)).2, (h 4 (by omega)).2, (h 5 (by omega)).2⟩
/-- A write of all six. -/
def put6 (w : World) (b : Nat) (c t x m k e : Int) : World := (((((w.setCell ⟨b, 0, none⟩ (.int .i64 c)).setCell ⟨b, 1, none⟩ (.int .i64 t)).setCell ⟨b, 2, none⟩ (.int .i64 x)).setCell ⟨b, 3, none⟩ (.int .i64 m)).setCell ⟨b, 4, none⟩ (.int .i64 k)).setCell ⟨b, 5, none⟩ (.int .i64 e)
theorem below6 {B : Nat} {a w : World} {b : Nat} (h : Below B a w) (hB : B ≤ b) (c t x m k e : Int) : Below B a (put6 w b c t x m k e) :=
  (((((h.setCell (p := ⟨b, 0, none⟩) hB _).setCell (p := ⟨b, 1, none⟩) hB _).setCell (p := ⟨b, 2, none⟩) hB _).setCell (p := ⟨b, 3, none⟩) hB _).setCell (p := ⟨b, 4, none⟩) hB _).setCell (p := ⟨b, 5, none⟩) hB _

set_option maxHeartbeats 1000000 in
set_option maxRecDepth 100000 in
theorem known_any (c t x m k e : Int) (w : World) :
    Calls Try.prog 20 #[.agg #[.int .i64 c, .int .i64 t, .int .i64 x, .int .i64 m, .int .i64 k, .int .i64 e]] w fun r w' => r = .returned (.tuple #[spV (knS ⟨c, t, x, m, k, e⟩), .bool (maySp ⟨c, t, x, m, k, e⟩)]) ∧ Below w.heap.size w w' := by
  have hS : Six ((w.alloc (.cells #[.int .i64 c, .int .i64 t, .int .i64 x, .int .i64 m, .int .i64 k, .int .i64 e] 23)).alloc (.cells #[.int .i64 0, .int .i64 0, .int .i64 0, .int .i64 0, .int .i64 0, .int .i64 0] 23)) w.heap.size (Sp.at ⟨c, t, x, m, k, e⟩) := (Six.new w ⟨c, t, x, m, k, e⟩).later ((Below.refl _ _).alloc (Nat.le_refl _) _)
  have hZ : Six ((w.alloc (.cells #[.int .i64 c, .int .i64 t, .int .i64 x, .int .i64 m, .int .i64 k, .int .i64 e] 23)).alloc (.cells #[.int .i64 0, .int .i64 0, .int .i64 0, .int .i64 0, .int .i64 0, .int .i64 0] 23)) (w.heap.size + 1) (Sp.at ⟨0, 0, 0, 0, 0, 0⟩) := by have := Six.new (w.alloc (.cells #[.int .i64 c, .int .i64 t, .int .i64 x, .int .i64 m, .int .i64 k, .int .i64 e] 23)) spZ; simp only [World.size_alloc] at this; exact this
  cases h : maySp ⟨c, t, x, m, k, e⟩
  · have H : Hid (maySp ⟨c, t, x, m, k, e⟩ = false) := h
    have H0 : Hid (knS ⟨c, t, x, m, k, e⟩ = spZ) := knS_no h
    clear h
    go_enter Try.func20, Try.ntmps20
    go_wp2_with fail
    refine (spmay_any c t x m k e _).mono ?_
    rintro r w1 ⟨rfl, hb1⟩
    rw [H.out]
    have hb : Below w.heap.size w w1 := (((Below.refl _ _).alloc (by simp) _).alloc (by simp) _).trans (hb1.mono (by simp; omega))
    have hZ1 := Six.later hZ hb1
    have s1 := hZ1.lt
    clear hS hb1 hZ
    obtain ⟨z0, z1, z2, z3, z4, z5, y0, y1, y2, y3, y4, y5⟩ := hZ1.sp
    go_wp2_with fail
    refine bodyPost_ret (v := .tuple #[spV spZ, .bool false]) ?_ rfl ⟨by rw [H0.out], below6 hb (by simp) 0 0 0 0 0 0⟩
    simp [results, Try.results20, go_sem, spV, spZ, z0, z1, z2, z3, z4, z5]
  · have H : Hid (maySp ⟨c, t, x, m, k, e⟩ = true) := h
    have H0 : Hid (knS ⟨c, t, x, m, k, e⟩ = ⟨c, t, x, m, k, e⟩) := knS_yes h
    clear h
    go_enter Try.func20, Try.ntmps20
    go_wp2_with fail
    refine (spmay_any c t x m k e _).mono ?_
    rintro r w1 ⟨rfl, hb1⟩
    rw [H.out]
    have hb : Below w.heap.size w w1 := (((Below.refl _ _).alloc (by simp) _).alloc (by simp) _).trans (hb1.mono (by simp; omega))
    have hZ1 := Six.later hZ hb1
    have hS1 := Six.later hS hb1
    have s1 := hZ1.lt
    clear hS hb1 hZ
    obtain ⟨z0, z1, z2, z3, z4, z5, y0, y1, y2, y3, y4, y5⟩ := hZ1.sp
    obtain ⟨a0, a1, a2, a3, a4, a5, b0, b1, b2, b3, b4, b5⟩ := hS1.sp
    go_wp2_with fail
    refine bodyPost_ret (v := .tuple #[spV ⟨c, t, x, m, k, e⟩, .bool true]) ?_ rfl ⟨by rw [H0.out], below6 hb (by simp) c t x m k e⟩
    simp [results, Try.results20, go_sem, spV, z0, z1, z2, z3, z4, z5]

/-- A description with other periods. -/
def stS (s : Sp) (t' x' : Int) : Sp := ⟨s.c, t', x', s.m, s.k, s.e⟩
/-- Does it give way? -/
def stB (s : Sp) (t' x' : Int) : Bool := maySp s && maySp (stS s t' x')
def strS (s : Sp) (t' x' : Int) : Sp := bif maySp s then knS (stS s t' x') else spZ

set_option maxHeartbeats 1000000 in
set_option maxRecDepth 100000 in
theorem stretch_any (c t x m k e t' x' : Int) (w : World) :
    Calls Try.prog 13 #[.agg #[.int .i64 c, .int .i64 t, .int .i64 x, .int .i64 m, .int .i64 k, .int .i64 e], .int .i64 t', .int .i64 x'] w fun r w' => r = .returned (.tuple #[spV (strS ⟨c, t, x, m, k, e⟩ t' x'), .bool (stB ⟨c, t, x, m, k, e⟩ t' x')]) ∧ Below w.heap.size w w' := by
  have hS : Six ((w.alloc (.cells #[.int .i64 c, .int .i64 t, .int .i64 x, .int .i64 m, .int .i64 k, .int .i64 e] 23)).alloc (.cells #[.int .i64 0, .int .i64 0, .int .i64 0, .int .i64 0, .int .i64 0, .int .i64 0] 23)) w.heap.size (Sp.at ⟨c, t, x, m, k, e⟩) := (Six.new w ⟨c, t, x, m, k, e⟩).later ((Below.refl _ _).alloc (Nat.le_refl _) _)
  have hZ : Six ((w.alloc (.cells #[.int .i64 c, .int .i64 t, .int .i64 x, .int .i64 m, .int .i64 k, .int .i64 e] 23)).alloc (.cells #[.int .i64 0, .int .i64 0, .int .i64 0, .int .i64 0, .int .i64 0, .int .i64 0] 23)) (w.heap.size + 1) (Sp.at ⟨0, 0, 0, 0, 0, 0⟩) := by have := Six.new (w.alloc (.cells #[.int .i64 c, .int .i64 t, .int .i64 x, .int .i64 m, .int .i64 k, .int .i64 e] 23)) spZ; simp only [World.size_alloc] at this; exact this
  cases h : maySp ⟨c, t, x, m, k, e⟩
  · have H : Hid (maySp ⟨c, t, x, m, k, e⟩ = false) := h
    have H0 : Hid (strS ⟨c, t, x, m, k, e⟩ t' x' = spZ) := by show _ = _; unfold strS; rw [h]; rfl
    have H1 : Hid (stB ⟨c, t, x, m, k, e⟩ t' x' = false) := by show _ = _; unfold stB; rw [h]; rfl
    clear h
    go_enter Try.func13, Try.ntmps13
    go_wp2_with fail
    refine (spmay_any c t x m k e _).mono ?_
    rintro r w1 ⟨rfl, hb1⟩
    rw [H.out]
    have hb : Below w.heap.size w w1 := (((Below.refl _ _).alloc (by simp) _).alloc (by simp) _).trans (hb1.mono (by simp; omega))
    have hZ1 := Six.later hZ hb1
    have s1 := hZ1.lt
    clear hS hb1 hZ
    obtain ⟨z0, z1, z2, z3, z4, z5, y0, y1, y2, y3, y4, y5⟩ := hZ1.sp
    go_wp2_with fail
    refine bodyPost_ret (v := .tuple #[spV spZ, .bool false]) ?_ rfl ⟨by rw [H0.out, H1.out], below6 hb (by simp) 0 0 0 0 0 0⟩
    simp [results, Try.results13, go_sem, spV, spZ, z0, z1, z2, z3, z4, z5]
  · have H : Hid (maySp ⟨c, t, x, m, k, e⟩ = true) := h
    have H0 : Hid (strS ⟨c, t, x, m, k, e⟩ t' x' = knS ⟨c, t', x', m, k, e⟩) := by show _ = _; unfold strS; rw [h]; rfl
    have H1 : Hid (stB ⟨c, t, x, m, k, e⟩ t' x' = maySp ⟨c, t', x', m, k, e⟩) := by show _ = _; unfold stB; rw [h]; rfl
    clear h
    go_enter Try.func13, Try.ntmps13
    go_wp2_with fail
    refine (spmay_any c t x m k e _).mono ?_
    rintro r w1 ⟨rfl, hb1⟩
    rw [H.out]
    have hb : Below w.heap.size w w1 := (((Below.refl _ _).alloc (by simp) _).alloc (by simp) _).trans (hb1.mono (by simp; omega))
    have hZ1 := Six.later hZ hb1
    have hS1 := Six.later hS hb1
    have s1 := hZ1.lt
    clear hS hb1 hZ
    have HS : Hid (Six w1 (w.heap.size + 1) (Sp.at ⟨0, 0, 0, 0, 0, 0⟩)) := hZ1
    obtain ⟨a0, a1, a2, a3, a4, a5, b0, b1, b2, b3, b4, b5⟩ := hS1.sp
    clear hZ1 hS1
    go_wp2_with fail
    refine (known_any c t' x' m k e _).mono ?_
    rintro r w2 ⟨rfl, hb2⟩
    have hZ2 := ((HS.out.other (i := 1) (v := .int .i64 t') (show w.heap.size ≠ w.heap.size + 1 by omega)).other (i := 2) (v := .int .i64 x') (show w.heap.size ≠ w.heap.size + 1 by omega)).later hb2
    replace hb2 : Below w.heap.size w w2 := ((hb.setCell (by simp) _).setCell (by simp) _).trans (hb2.mono (by simp; omega))
    have s2 := hZ2.lt
    clear hb s1 a0 a1 a2 a3 a4 a5 b0 b1 b2 b3 b4 b5
    obtain ⟨z0, z1, z2, z3, z4, z5, y0, y1, y2, y3, y4, y5⟩ := hZ2.sp
    generalize knS ⟨c, t', x', m, k, e⟩ = q at *
    obtain ⟨q0, q1, q2, q3, q4, q5⟩ := q
    unfold spV
    go_wp2_with fail
    refine bodyPost_ret (v := .tuple #[spV ⟨q0, q1, q2, q3, q4, q5⟩, .bool (maySp ⟨c, t', x', m, k, e⟩)]) ?_ rfl ⟨by rw [H0.out, H1.out], below6 hb2 (by simp) q0 q1 q2 q3 q4 q5⟩
    simp [results, Try.results13, go_sem, spV, z0, z1, z2, z3, z4, z5]

set_option maxHeartbeats 1000000 in
set_option maxRecDepth 100000 in
theorem spone_any (w : World) :
    Calls Try.prog 18 #[] w fun r w' => r = .returned (spV ⟨2, 10, 20, 1, 2, 3⟩) ∧ Below w.heap.size w w' := by
  go_enter Try.func18, Try.ntmps18
  go_wp2_with fail
  refine bodyPost_ret (v := spV ⟨2, 10, 20, 1, 2, 3⟩) ?_ rfl ⟨rfl, ?_⟩
  · simp [results, Try.results18, go_sem, spV]
  · exact (Below.refl _ _).alloc (by simp) _
end Go.Proofs.Ytpnmdpffdeebmaa
