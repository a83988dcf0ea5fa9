/- Lists of one and two; the document's own Ints; the chapter's example. -/
import Derived.Test.YtjaaabliefcgaaaO12
import Derived.BigQuiet
namespace Go.Proofs.Ytjaaabliefcgaaa
open Go.RowKit Go.Maps Go.Shelf

theorem Aps.two (w : World) (i d c v r i' d' c' v' r' : Int) : Aps (w.alloc (.cells #[.int .i64 i, .int .i64 d, .int .i64 c, .int .i64 v, .int .i64 r, .int .i64 i', .int .i64 d', .int .i64 c', .int .i64 v', .int .i64 r'] 30)) (.slice (some ⟨w.heap.size, 0, none⟩) 2 2) [⟨i, d, c, v, r⟩, ⟨i', d', c', v', r'⟩] := by
  refine ⟨_, 2, rfl, Nat.le_refl _, by unfold maxLen; omega, fun h => by simp at h, fun _ => ⟨_, 0, rfl, fun a ha j hj => ?_⟩⟩
  have ha' : a < 2 := ha
  have hj' : j < 5 := hj
  rcases (show a = 0 ∨ a = 1 by omega) with rfl | rfl <;> rcases (show j = 0 ∨ j = 1 ∨ j = 2 ∨ j = 3 ∨ j = 4 by omega) with rfl | rfl | rfl | rfl | rfl <;> simp [recA, Ap.row, atA]
theorem Aps.one (w : World) (i d c v r : Int) : Aps (w.alloc (.cells #[.int .i64 i, .int .i64 d, .int .i64 c, .int .i64 v, .int .i64 r] 30)) (.slice (some ⟨w.heap.size, 0, none⟩) 1 1) [⟨i, d, c, v, r⟩] := by
  refine ⟨_, 1, rfl, Nat.le_refl _, by unfold maxLen; omega, fun h => by simp at h, fun _ => ⟨_, 0, rfl, fun a ha j hj => ?_⟩⟩
  have ha' : a < 1 := ha
  have hj' : j < 5 := hj
  obtain rfl : a = 0 := by omega
  rcases (show j = 0 ∨ j = 1 ∨ j = 2 ∨ j = 3 ∨ j = 4 by omega) with rfl | rfl | rfl | rfl | rfl <;> simp [recA, Ap.row, atA]
theorem Aps.at5 {w : World} {b o n cap : Nat} {xs : List Ap} (h : Aps w (.slice (some ⟨b, o, none⟩) n cap) xs) {i : Nat} (hi : i < xs.length) : w.cell? ⟨b, o + i * 5, none⟩ = some (.int .i64 (atA xs i).id) ∧ w.cell? ⟨b, o + i * 5 + 1, none⟩ = some (.int .i64 (atA xs i).due) ∧ w.cell? ⟨b, o + i * 5 + 2, none⟩ = some (.int .i64 (atA xs i).c) ∧ w.cell? ⟨b, o + i * 5 + 3, none⟩ = some (.int .i64 (atA xs i).v) ∧ w.cell? ⟨b, o + i * 5 + 4, none⟩ = some (.int .i64 (atA xs i).r) := by
  obtain ⟨a, cap', e, _, _, _, h4⟩ := h.open
  obtain ⟨b', o', rfl, h5⟩ := h4 (by omega)
  simp only [Value.slice.injEq, Option.some.injEq, Addr.mk.injEq, and_true] at e
  obtain ⟨⟨rfl, rfl⟩, _⟩ := e
  exact h5 i hi
theorem Aps.first {w : World} {b n cap : Nat} {a : Ap} {xs : List Ap} (h : Aps w (.slice (some ⟨b, 0, none⟩) n cap) (a :: xs)) (hn : n = xs.length + 1) : Aps w (.slice (some ⟨b, 0, none⟩) 1 cap) [a] := by
  subst hn
  have := Rws.front (R := recA) (t := 1) h (by simp)
  exact this.congr (fun i hi => by have e : i = 0 := (by omega); rw [e]; rfl)

/-- The chapter's two jobs. -/
def ex1 : Ap := ⟨1, 4, 4, 10, 0⟩
def ex2 : Ap := ⟨2, 4, 4, 90, 0⟩
theorem ex_facts : pickA [ex1, ex2] 1 0 = (2, []) ∧ pickA [ex1] (-1) 0 = (1, []) ∧ mayL [ex1, ex2] 0 = true ∧ fitsA [ex1, ex2] 0 = false ∧ laxA ex1 0 = 0 := by
  refine ⟨?_, ?_, ?_, ?_, ?_⟩ <;> decide

set_option maxHeartbeats 1000000 in
set_option maxRecDepth 100000 in
theorem awake13_any (w : World) :
    Calls Try.prog 10 #[] w fun r w' => r = .returned (.bool true) ∧ Below w.heap.size w w' := by
  have HF : Hid (pickA [ex1, ex2] 1 0 = (2, []) ∧ pickA [ex1] (-1) 0 = (1, []) ∧ mayL [ex1, ex2] 0 = true ∧ fitsA [ex1, ex2] 0 = false ∧ laxA ex1 0 = 0) := ex_facts
  have HW : Hid ((∀ a ∈ [ex1, ex2], wfK a.key) ∧ nearL [ex1, ex2] ∧ nearA ex1) := by
    refine ⟨fun a ha => ?_, fun a ha => ?_, ?_⟩
    · simp at ha
      rcases ha with rfl | rfl <;> (unfold wfK okI Ap.key; decide)
    · simp at ha
      rcases ha with rfl | rfl <;> (unfold nearA; decide)
    · unfold nearA; decide
  have HL : Hid (Aps (w.alloc (.cells #[.int .i64 1, .int .i64 4, .int .i64 4, .int .i64 10, .int .i64 0, .int .i64 2, .int .i64 4, .int .i64 4, .int .i64 90, .int .i64 0] 30)) (.slice (some ⟨w.heap.size, 0, none⟩) 2 2) [ex1, ex2]) := Aps.two w 1 4 4 10 0 2 4 4 90 0
  have HB : Hid (Below w.heap.size w (w.alloc (.cells #[.int .i64 1, .int .i64 4, .int .i64 4, .int .i64 10, .int .i64 0, .int .i64 2, .int .i64 4, .int .i64 4, .int .i64 90, .int .i64 0] 30))) := (Below.refl _ _).alloc (Nat.le_refl _) _
  go_enter Try.func10, Try.ntmps10
  go_wp2_with fail
  refine (pick13_any [ex1, ex2] _ 1 0 _ HL.out HW.out.1 (by unfold okI; omega)).mono ?_
  rintro e w1 ⟨g1, rfl, hg1, hb1⟩
  rw [HF.out.1] at hg1 ⊢
  have HL1 : Hid (Aps w1 (.slice (some ⟨w.heap.size, 0, none⟩) 2 2) [ex1, ex2]) := HL.out.later hb1
  have HB1 : Hid (Below w.heap.size w w1) := HB.out.trans (hb1.mono HB.out.size)
  obtain ⟨a1, c1, rfl, _⟩ := hg1.nums.1
  clear hg1 hb1 HL HB
  go_wp2_with fail
  refine (pick13_any [ex1] _ (-1) 0 _ (HL1.out.first rfl) (fun a ha => HW.out.1 a (by simp at ha; simp [ha])) (by unfold okI; omega)).mono ?_
  rintro e w2 ⟨g2, rfl, hg2, hb2⟩
  rw [HF.out.2.1] at hg2 ⊢
  have HL2 : Hid (Aps w2 (.slice (some ⟨w.heap.size, 0, none⟩) 2 2) [ex1, ex2]) := HL1.out.later hb2
  have HB2 : Hid (Below w.heap.size w w2) := HB1.out.trans (hb2.mono HB1.out.size)
  obtain ⟨a2, c2, rfl, _⟩ := hg2.nums.1
  clear hg2 hb2 HL1 HB1
  go_wp2_with fail
  refine (may13_any [ex1, ex2] _ 0 _ HL2.out HW.out.1).mono ?_
  rintro e w3 ⟨rfl, hb3⟩
  rw [HF.out.2.2.1]
  have HL3 : Hid (Aps w3 (.slice (some ⟨w.heap.size, 0, none⟩) 2 2) [ex1, ex2]) := HL2.out.later hb3
  have HB3 : Hid (Below w.heap.size w w3) := HB2.out.trans (hb3.mono HB2.out.size)
  clear hb3 HL2 HB2
  go_wp2_with fail
  refine (fits13_any [ex1, ex2] _ 0 _ HL3.out (by decide) HW.out.1 HW.out.2.1 (by omega) (by omega)).mono ?_
  rintro e w4 ⟨rfl, hb4⟩
  rw [HF.out.2.2.2.1]
  have HL4 : Hid (Aps w4 (.slice (some ⟨w.heap.size, 0, none⟩) 2 2) [ex1, ex2]) := HL3.out.later hb4
  have HB4 : Hid (Below w.heap.size w w4) := HB3.out.trans (hb4.mono HB3.out.size)
  obtain ⟨k0, k1, k2, k3, k4⟩ := HL4.out.at5 (i := 0) (by decide)
  simp [atA, ex1] at k0 k1 k2 k3 k4
  clear hb4 HL3 HB3
  go_wp2_with fail
  refine (lax_any 1 4 4 10 0 0 _ HW.out.2.2 (by omega) (by omega)).mono ?_
  rintro e w5 ⟨rfl, hb5⟩
  have e5 : laxA ⟨1, 4, 4, 10, 0⟩ 0 = 0 := HF.out.2.2.2.2
  rw [e5]
  have HB5 : Hid (Below w.heap.size w w5) := HB4.out.trans (hb5.mono HB4.out.size)
  clear hb5 e5
  go_wp2_with fail
  go_ret
  exact ⟨rfl, HB5.out⟩

theorem same13_of {xs ys : List Int} (hl : xs.length = ys.length) (h : ∀ i, i < xs.length → xs.getD i 0 = ys.getD i 0) : xs = ys := by
  apply List.ext_getElem hl
  intro i h1 h2
  have := h i h1
  simpa [List.getD, h1, h2] using this

set_option maxHeartbeats 1000000 in
set_option maxRecDepth 100000 in
theorem ints13_any (xs ys : List Int) (v v' : Value) (w : World) (h : Nums w v xs) (h' : Nums w v' ys) (hx : xs.length ≤ 100000) :
    Calls Try.prog 20 #[v, v'] w fun r w' => r = .returned (.bool (decide (xs = ys))) ∧ Below w.heap.size w w' := by
  obtain ⟨a, cap, rfl, h1, h2, h3⟩ := h
  obtain ⟨a', cap', rfl, h1', h2', h3'⟩ := h'
  by_cases hl : xs.length = ys.length
  · have hl1 : ((xs.length : Int)) = ys.length := by omega
    have HL : Hid (xs.length = ys.length) := hl
    clear hl1
    generalize hy : ys.length = ly at *
    have HY : Hid (ys.length = ly) := hy
    clear hy
    subst hl
    go_enter Try.func20, Try.ntmps20
    go_wp2_with fail
    go_loopw [5] (fun i wr => ∃ (j : Nat), j ≤ xs.length ∧ i = .int .i64 j ∧ Hid (∀ i, i < j → xs.getD i 0 = ys.getD i 0) ∧ Below w.heap.size w wr) (fun i _ => ((xs.length : Int) - intOf i).toNat)
    case atStart => exact ⟨0, by omega, rfl, (fun i hi => by omega), Below.refl _ _⟩
    case round =>
      obtain ⟨j, hj, rfl, HG, hbw⟩ := hrel
      by_cases hlt : (j : Int) < xs.length
      · obtain ⟨b, o, rfl, h4⟩ := h3 (by intro e; rw [e, List.length_nil] at hlt; omega)
        obtain ⟨b', o', rfl, h4'⟩ := h3' (by intro e; have := HY.out; rw [e, List.length_nil] at this; omega)
        have c0 := cell_later hbw (h4 j (by omega))
        have c1 := cell_later hbw (h4' j (by have := HY.out; omega))
        clear h3 h3' h4 h4'
        obtain ⟨x, hx⟩ : ∃ x, xs.getD j 0 = x := ⟨_, rfl⟩
        obtain ⟨y, hy⟩ : ∃ y, ys.getD j 0 = y := ⟨_, rfl⟩
        have HX : Hid (xs.getD j 0 = x) := hx
        have HZ : Hid (ys.getD j 0 = y) := hy
        rw [hx] at c0
        rw [hy] at c1
        clear hx hy
        by_cases hxy : x = y
        · subst hxy
          have HN : Hid (∀ i, i < j + 1 → xs.getD i 0 = ys.getD i 0) := by
            intro i hi
            rcases Nat.lt_succ_iff_lt_or_eq.1 hi with hi | rfl
            · exact HG.out i hi
            · rw [HX.out, HZ.out]
          go_wp2_with fail
          go_quiet (fail)
          go_wp2_with fail
          go_roundw
          case rel => exact ⟨j + 1, by omega, by go_num, HN.out, ⟨hbw.os, hbw.tape, hbw.output, hbw.size, hbw.block⟩⟩
          case measure => simp [intOf]; omega
        · have H : Hid (decide (xs = ys) = false) := decide_eq_false (fun e => hxy (by rw [← HX.out, ← HZ.out, e]))
          have q1 : (x == y) = false := by simpa using hxy
          go_wp2_with fail
          go_quiet (fail)
          go_wp2
          go_ret
          exact ⟨ret_b H.out.symm, ⟨hbw.os, hbw.tape, hbw.output, hbw.size, hbw.block⟩⟩
      · have hjk : j = xs.length := by omega
        have H : Hid (decide (xs = ys) = true) := decide_eq_true (same13_of HY.out.symm (fun i hi => HG.out i (by omega)))
        subst hjk
        go_wp2
        go_ret
        exact ⟨ret_b H.out.symm, hbw⟩
  · have H : Hid (decide (xs = ys) = false) := decide_eq_false (fun e => hl (by rw [e]))
    have hl1 : ¬ ((xs.length : Int)) = ys.length := by omega
    have q1 : ((xs.length : Int) == ys.length) = false := by simpa using hl1
    go_enter Try.func20, Try.ntmps20
    go_wp2
    go_ret
    exact ⟨ret_b H.out.symm, Below.refl _ _⟩
end Go.Proofs.Ytjaaabliefcgaaa
