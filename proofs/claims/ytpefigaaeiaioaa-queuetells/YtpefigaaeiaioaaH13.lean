/- Walks: queueOf, peek, first, Min, Pop. -/
import Derived.Test.YtpefigaaeiaioaaH12
namespace Go.Proofs.Ytpefigaaeiaioaa
open Go.RowKit
set_option linter.unusedVariables false

theorem may_len {xs : List (Int × Int)} (h : mayB xs = true) : xs.length ≤ 40 := by
  unfold mayB at h; simp at h; omega
theorem may_srtd {xs : List (Int × Int)} (h : mayB xs = true) : srtd xs := by
  have ho : ∀ i, i < xs.length → 0 < i → ahd (atI xs i) (atI xs (i - 1)) = false := by
    unfold mayB ordB at h; rw [Bool.and_eq_true] at h; exact of_decide_eq_true h.2
  have e : ∀ k (hk : k < xs.length), xs[k] = atI xs k := fun k hk => by simp [atI, List.getD, hk]
  have key : ∀ d i, i + d < xs.length → ile (atI xs i) (atI xs (i + d)) := by
    intro d
    induction d with
    | zero => intro i _; exact ile_refl _
    | succ d ih => intro i hi; exact ile_trans (ih i (by omega)) (ho (i + (d + 1)) hi (by omega))
  unfold srtd
  rw [List.pairwise_iff_getElem]
  intro i j hi hj hij
  rw [e i hi, e j hj]
  have := key (j - i) i (by omega)
  rwa [show i + (j - i) = j by omega] at this
theorem may_ids {xs : List (Int × Int)} (h : mayB xs = true) {i j : Nat} (hi : i < xs.length) (hj : j < i) : (atI xs j).2 ≠ (atI xs i).2 := by
  have hd : ∀ i, i < xs.length → fnd (xs.take i) (atI xs i).2 < 0 := by
    unfold mayB difB at h; rw [Bool.and_eq_true, Bool.and_eq_true] at h; exact of_decide_eq_true h.1.2
  have := hd i hi
  rcases fnd_cases (xs.take i) (atI xs i).2 with ⟨k, hk, _⟩ | ⟨_, hk⟩
  · omega
  · have := hk j (by simp; omega)
    rwa [atI_take hj] at this
theorem srtd_adj {xs : List (Int × Int)} (h : srtd xs) : ordB xs = true := by
  refine decide_eq_true (fun i hi i0 => ?_)
  have e : ∀ k (hk : k < xs.length), xs[k] = atI xs k := fun k hk => by simp [atI, List.getD, hk]
  have := (List.pairwise_iff_getElem.1 h) (i - 1) i (by omega) hi (by omega)
  rw [e _ (by omega), e _ hi] at this; exact this
theorem may_of {xs : List (Int × Int)} (h1 : xs.length ≤ 40) (h2 : srtd xs) (h3 : ∀ i j, i < xs.length → j < i → (atI xs j).2 ≠ (atI xs i).2) : mayB xs = true := by
  unfold mayB
  rw [decide_eq_true h1, srtd_adj h2]
  have : difB xs = true := by
    refine decide_eq_true (fun i hi => ?_)
    rw [fnd_none (fun k hk => ?_)]; · omega
    have hk' : k < i := by simp at hk; omega
    rw [atI_take hk']; exact h3 i k hi hk'
  rw [this]; rfl

/-- A list that may be a queue; of any other one, none. -/
def qOf (xs : List (Int × Int)) : List (Int × Int) := if mayB xs = true then xs else []
theorem qOf_len (xs : List (Int × Int)) : (qOf xs).length ≤ 40 := by
  unfold qOf; split
  · next h => exact may_len h
  · simp
theorem qOf_srtd (xs : List (Int × Int)) : srtd (qOf xs) := by
  unfold qOf; split
  · next h => exact may_srtd h
  · exact List.Pairwise.nil
theorem heap_head {xs ys : List (Int × Int)} (h : heapN ys ys.length) (p : ys.Perm xs) (s : srtd xs) : atI ys 0 = atI xs 0 := by
  cases xs with
  | nil => obtain rfl := List.perm_nil.1 p; rfl
  | cons x xs =>
    have hl : 0 < ys.length := by rw [p.length_eq]; simp
    have h1 : ile (atI ys 0) x := head_least h x (p.mem_iff.2 (by simp))
    have h2 : ile x (atI ys 0) := by
      rcases List.mem_cons.1 (p.mem_iff.1 (atI_mem hl)) with e | hm
      · rw [e]; exact ile_refl _
      · exact (List.pairwise_cons.1 s).1 _ hm
    have : atI (x :: xs) 0 = x := rfl
    rw [this]; exact ile_anti h1 h2

set_option maxHeartbeats 1000000 in
set_option maxRecDepth 100000 in
theorem queueOf_any (xs : List (Int × Int)) (v : Value) (w : World) (h : Its w v xs) :
    Calls Try.prog 33 #[v] w (HeapE (qOf xs) w) := by
  go_enter Try.func33, Try.ntmps33
  go_wp2_with fail
  refine (may_any xs v w h).mono ?_
  rintro e w1 ⟨rfl, hb1⟩
  have HI : Hid (Its w1 v xs ∧ Below w.heap.size w w1) := ⟨h.later hb1, hb1⟩
  clear h
  generalize hm : mayB xs = m
  have HM : Hid (mayB xs = m) := hm
  clear hm
  cases m
  · have HQ : Hid (qOf xs = []) := by show _ = _; unfold qOf; rw [HM.out]; simp
    go_wp2_with fail
    go_ret
    rw [HQ.out]
    have b1 := (HI.out.2.alloc HI.out.2.size (.cells #[] 24)).alloc (by have := HI.out.2.size; simp; omega) (.cells #[.slice (some ⟨w1.heap.size, 0, none⟩) 0 0] 41)
    refine ⟨w1.heap.size + 1, some ⟨w1.heap.size, 0, none⟩, 0, [], rfl, ⟨by have := HI.out.2.size; omega, ?_, ?_⟩, List.Perm.refl _, fun c _ hc => by simp at hc, b1⟩
    · have := heap_alloc_new (w1.alloc (.cells #[] 24)) (.cells #[.slice (some ⟨w1.heap.size, 0, none⟩) 0 0] 41)
      simpa using this
    · exact (World.ownsRow_made w1 #[] 0 HI.out.2.size (by decide) rfl).alloc _
  · have HQ : Hid (qOf xs = xs) := by show _ = _; unfold qOf; rw [HM.out]; simp
    have hl : xs.length ≤ 40 := may_len HM.out
    go_wp2_with fail
    refine (heapOf_any xs v w1 HI.out.1 (by omega)).mono ?_
    rintro e w2 ⟨p, a, cap, ys, rfl, hp, hper, hh, hb2⟩
    have HE : Hid (HeapE (qOf xs) w (.returned (.pointer (some ⟨p, 0, none⟩))) w2) := by
      have hB := HI.out.2.size
      refine ⟨p, a, cap, ys, rfl, ⟨Nat.le_trans hB hp.le, hp.var, hp.own.1, hp.own.2.imp id ?_⟩, by rw [HQ.out]; exact hper, hh, below_next HI.out.2 hb2 hB⟩
      rintro ⟨g, c, cur, e, r1, r2⟩
      exact ⟨g, c, cur, e, Nat.le_trans hB r1, r2⟩
    clear hp hper hh hb2
    go_wp2_with fail
    go_ret
    exact HE.out

set_option maxHeartbeats 1000000 in
set_option maxRecDepth 100000 in
theorem peek_any (B p cap : Nat) (a : Option Addr) (xs : List (Int × Int)) (w : World) (h : Hp B w p a cap xs) (hl : 0 < xs.length) :
    Calls Try.prog 36 #[.pointer (some ⟨p, 0, none⟩)] w fun e w' => e = .returned (itV (atI xs 0)) ∧ Below w.heap.size w w' := by
  have hc := h.cell
  obtain ⟨b, rfl⟩ := h.some_b hl
  obtain ⟨a', cap', e', h1, h2, h0, h3⟩ := h.its
  simp only [Value.slice.injEq, true_and] at e'
  obtain ⟨rfl, rfl⟩ := e'
  obtain ⟨b', o', e', h4⟩ := h3 (by intro e; subst e; simp at hl)
  simp only [Option.some.injEq, Addr.mk.injEq, and_true] at e'
  obtain ⟨rfl, rfl⟩ := e'
  obtain ⟨c0, c1⟩ := h4 0 hl
  simp only [Nat.zero_mul, Nat.zero_add] at c0 c1
  have lb := World.block_lt_of_cell? _ _ c0
  have lp := World.block_lt_of_cell? _ _ hc
  simp only at lb lp
  clear h h3 h4 h0
  unfold itV
  generalize atI xs 0 = x at *
  go_enter Try.func36, Try.ntmps36
  go_wp2_with fail
  refine bodyPost_ret (v := itV x) ?_ rfl ⟨rfl, ?_⟩
  · simp [results, Try.results36, go_sem, itV]
  · exact (Below.refl _ _).alloc (Nat.le_refl _) _

set_option maxHeartbeats 1000000 in
set_option maxRecDepth 100000 in
theorem first_peek (B p cap : Nat) (a : Option Addr) (xs : List (Int × Int)) (w : World) (h : Hp B w p a cap xs) :
    Calls Try.prog 34 #[.pointer (some ⟨p, 0, none⟩), .func (.func 36) #[] #[]] w fun e w' => e = .returned (.tuple #[itV (atI xs 0), .bool (decide (0 < xs.length))]) ∧ Below w.heap.size w w' := by
  have hc := h.cell
  have lp := h.lt
  by_cases hz : xs.length = 0
  · obtain rfl := List.eq_nil_of_length_eq_zero hz
    simp only [List.length_nil] at hc hz
    clear h hz
    go_enter Try.func34, Try.ntmps34
    go_wp2_with fail
    refine (len_any _ _ _ _).mono ?_
    rintro e w2 ⟨rfl, hw⟩
    obtain rfl := hw.symm
    go_wp2_with fail
    refine bodyPost_ret (v := .tuple #[itV (0, 0), .bool false]) ?_ rfl ⟨rfl, ?_⟩
    · simp [results, Try.results34, go_sem, itV]
    · exact (Below.refl _ _).alloc (Nat.le_refl _) _
  · have hl : 0 < xs.length := by omega
    have hl' : (0 : Int) < (xs.length : Int) := by omega
    have HH : Hid (Hp B w p a cap xs) := h
    clear h
    go_enter Try.func34, Try.ntmps34
    go_wp2_with fail
    refine (len_any _ _ _ _).mono ?_
    rintro e w2 ⟨rfl, hw⟩
    obtain rfl := hw.symm
    go_wp2_with fail
    refine (peek_any B p cap a xs _ (HH.out.alloc _) hl).mono ?_
    rintro e w3 ⟨rfl, hb3⟩
    have c0 := cell_later (p := ⟨w.heap.size, 0, none⟩) hb3 (by simp; rfl)
    have c1 := cell_later (p := ⟨w.heap.size, 1, none⟩) hb3 (by simp; rfl)
    have f0 := hb3.frozen (p := ⟨w.heap.size, 0, none⟩) (by simp)
    have f1 := hb3.frozen (p := ⟨w.heap.size, 1, none⟩) (by simp)
    simp at f0 f1
    have HB : Hid (Below w.heap.size w w3) := below_next ((Below.refl _ _).alloc (Nat.le_refl _) _) hb3 (by simp)
    clear hb3
    unfold itV
    go_wp2_with fail
    refine bodyPost_ret (v := .tuple #[itV (atI xs 0), .bool true]) ?_ rfl ⟨?_, ?_⟩
    · simp [results, Try.results34, go_sem, itV, c0, c1]
    · rw [decide_eq_true hl]
    · exact (HB.out.setCell (Nat.le_refl _) _).setCell (Nat.le_refl _) _

/-- What first comes to, where the item is taken. -/
def FirstE (B p cap : Nat) (a : Option Addr) (xs : List (Int × Int)) (w : World) (e : Ending) (w' : World) : Prop :=
  ∃ ys, e = .returned (.tuple #[itV (atI xs 0), .bool (decide (0 < xs.length))]) ∧ Hp B w' p a cap ys ∧ heapN ys ys.length ∧ (0 < xs.length → (atI xs 0 :: ys).Perm xs) ∧ Kept p a w w'

set_option maxHeartbeats 1000000 in
set_option maxRecDepth 100000 in
theorem first_take (B p cap : Nat) (a : Option Addr) (xs : List (Int × Int)) (w : World) (h : Hp B w p a cap xs) (hx : xs.length ≤ 900) (hh : heapN xs xs.length) :
    Calls Try.prog 34 #[.pointer (some ⟨p, 0, none⟩), .func (.func 30) #[] #[]] w (FirstE B p cap a xs w) := by
  have hc := h.cell
  have lp := h.lt
  have hnew := h.new (Nat.le_refl _)
  have HH : Hid (Hp B w p a cap xs ∧ heapN xs xs.length) := ⟨h, hh⟩
  clear h hh
  by_cases hz : xs.length = 0
  · obtain rfl := List.eq_nil_of_length_eq_zero hz
    simp only [List.length_nil] at hc hz
    clear hz
    go_enter Try.func34, Try.ntmps34
    go_wp2_with fail
    refine (len_any _ _ _ _).mono ?_
    rintro e w2 ⟨rfl, hw⟩
    obtain rfl := hw.symm
    go_wp2_with fail
    refine bodyPost_ret (v := .tuple #[itV (0, 0), .bool false]) ?_ rfl ?_
    · simp [results, Try.results34, go_sem, itV]
    · exact ⟨[], rfl, HH.out.1.alloc _, HH.out.2, fun h => absurd h (by simp), (Kept.refl _ _ _).alloc _⟩
  · obtain ⟨n, hn⟩ : ∃ n, xs.length = n + 1 := ⟨xs.length - 1, by omega⟩
    have hl' : (0 : Int) < (xs.length : Int) := by omega
    have HN : Hid (xs.length = n + 1) := hn
    clear hn hz
    go_enter Try.func34, Try.ntmps34
    go_wp2_with fail
    refine (len_any _ _ _ _).mono ?_
    rintro e w2 ⟨rfl, hw⟩
    obtain rfl := hw.symm
    go_wp2_with fail
    refine (take_any B p cap n a xs _ (HH.out.1.alloc _) HN.out (by rw [← HN.out]; omega) (by rw [← HN.out]; exact HH.out.2)).mono ?_
    rintro e w3 ⟨ys, rfl, hp3, hly, hh3, hper, hk3⟩
    have c0 := hk3.cell (q := ⟨w.heap.size, 0, none⟩) (by simp) hnew.1 hnew.2
    have c1 := hk3.cell (q := ⟨w.heap.size, 1, none⟩) (by simp) hnew.1 hnew.2
    have f0 := hk3.frozen (q := ⟨w.heap.size, 0, none⟩) (by simp) hnew.1 hnew.2
    have f1 := hk3.frozen (q := ⟨w.heap.size, 1, none⟩) (by simp) hnew.1 hnew.2
    simp at c0 c1 f0 f1
    have HE : Hid (Hp B w3 p a cap ys ∧ ys.length = n ∧ heapN ys n ∧ (atI xs 0 :: ys).Perm xs ∧ Kept p a w w3) := ⟨hp3, hly, hh3, hper, hk3.after ((Below.refl _ _).alloc (Nat.le_refl _) _)⟩
    clear hp3 hly hh3 hper hk3
    unfold itV
    go_wp2_with fail
    refine bodyPost_ret (v := .tuple #[itV (atI xs 0), .bool true]) ?_ rfl ?_
    · simp [results, Try.results34, go_sem, itV, c0, c1]
    · obtain ⟨h1, h2, h3, h4, h5⟩ := HE.out
      have e : decide (0 < xs.length) = true := decide_eq_true (by omega)
      exact ⟨ys, by rw [e], (h1.mine (w0 := w) hnew.1 hnew.2 _).mine (w0 := w) hnew.1 hnew.2 _, by rw [h2]; exact h3, fun _ => h4, (h5.mine (Nat.le_refl _) _).mine (Nat.le_refl _) _⟩

set_option maxHeartbeats 1000000 in
set_option maxRecDepth 100000 in
theorem min_any (xs : List (Int × Int)) (v : Value) (w : World) (h : Its w v xs) :
    Calls Try.prog 17 #[v] w fun e w' => e = .returned (.tuple #[itV (atI (qOf xs) 0), .bool (decide (0 < (qOf xs).length))]) ∧ Below w.heap.size w w' := by
  have HI : Hid (Its (w.alloc (.cells #[.int .i64 0, .int .i64 0] 24)) v xs) := h.later ((Below.refl _ _).alloc (Nat.le_refl _) _)
  clear h
  go_enter Try.func17, Try.ntmps17
  go_wp2_with fail
  refine (queueOf_any xs v _ HI.out).mono ?_
  rintro e w1 ⟨p, a, cap, ys, rfl, hp, hper, hh, hb1⟩
  have hd := heap_head hh hper (qOf_srtd xs)
  have hln := hper.length_eq
  have HP : Hid (Hp (w.alloc (.cells #[.int .i64 0, .int .i64 0] 24)).heap.size w1 p a cap ys) := hp
  have HL : Hid (atI ys 0 = atI (qOf xs) 0 ∧ ys.length = (qOf xs).length) := ⟨hd, hln⟩
  clear hp hper hh hd hln
  go_wp2_with fail
  refine (first_peek _ p cap a ys w1 HP.out).mono ?_
  rintro e w2 ⟨rfl, hb2⟩
  rw [HL.out.1, HL.out.2]
  have c0 := cell_later (p := ⟨w.heap.size, 0, none⟩) hb2 (cell_later hb1 (by simp; rfl))
  have c1 := cell_later (p := ⟨w.heap.size, 1, none⟩) hb2 (cell_later hb1 (by simp; rfl))
  have f0 := (hb2.frozen (p := ⟨w.heap.size, 0, none⟩) (by have := hb1.size; simp at this ⊢; omega)).trans (hb1.frozen (p := ⟨w.heap.size, 0, none⟩) (by simp))
  have f1 := (hb2.frozen (p := ⟨w.heap.size, 1, none⟩) (by have := hb1.size; simp at this ⊢; omega)).trans (hb1.frozen (p := ⟨w.heap.size, 1, none⟩) (by simp))
  simp at f0 f1
  have HB : Hid (Below w.heap.size w w2) := below_next (below_next ((Below.refl _ _).alloc (Nat.le_refl _) _) hb1 (by simp)) hb2 (by have := hb1.size; simp at this; omega)
  clear hb1 hb2
  unfold itV
  generalize hx : atI (qOf xs) 0 = x
  generalize hb : decide (0 < (qOf xs).length) = b
  have HX : Hid (atI (qOf xs) 0 = x ∧ decide (0 < (qOf xs).length) = b) := ⟨hx, hb⟩
  clear hx hb HL
  go_wp2_with fail
  refine bodyPost_ret (v := .tuple #[itV x, .bool b]) ?_ rfl ⟨by rw [HX.out.1, HX.out.2], ?_⟩
  · simp [results, Try.results17, go_sem, itV, c0, c1]
  · exact (HB.out.setCell (Nat.le_refl _) _).setCell (Nat.le_refl _) _
end Go.Proofs.Ytpefigaaeiaioaa
