/- The least period of units: walks of within and Of of package period. -/
import Derived.Test.YtociniaaeflokaaB2
namespace Go.Proofs.Ytociniaaeflokaa
open Go.RowKit Go.Shelf
attribute [local go_sem] Oper.semAt_some

/-- How many periods a task may have, and which. -/
def perN (s : Sp) : Nat := (s.x - s.t + 1).toNat
def perL (s : Sp) : List Int := lst7 (perN s) (rn s.t 1)
/-- The least of them at which it has no more than u units. -/
def ofO (s : Sp) (u : Int) : Option Int := bif maySp s && wiB u 1 1048576 then (perL s).find? (fun p => decide (atV s p ≤ u)) else none
def ofP (s : Sp) (u : Int) : Int := (ofO s u).getD 0
def ofB (s : Sp) (u : Int) : Bool := (ofO s u).isSome

theorem per_runs {s : Sp} (h : maySp s = true) : Runs s.t 1 s.x (perN s) := by
  obtain ⟨c0, c1, f2, f3, f4, _⟩ := may_facts h
  have e : ((perN s : Nat) : Int) = s.x - s.t + 1 := by unfold perN; omega
  refine ⟨by omega, by omega, by omega, by omega, by omega, fun i hi => ?_, ?_⟩
  · unfold rn; have : (i : Int) < perN s := by exact_mod_cast hi
    omega
  · unfold rn; omega

set_option maxHeartbeats 1000000 in
set_option maxRecDepth 100000 in
theorem pwithin_any (n lo hi : Int) (w : World) : Calls Try.prog 20 #[.int .i64 n, .int .i64 lo, .int .i64 hi] w fun r w' => r = .returned (.bool (wiB n lo hi)) ∧ w' = w := by
  by_cases h : lo ≤ n
  · by_cases h' : n ≤ hi
    · have H : Hid (wiB n lo hi = true) := decide_eq_true ⟨h, h'⟩
      go_enter Try.func20, Try.ntmps20
      go_wp2_with fail
      go_ret
      exact ⟨ret_b H.out.symm, rfl⟩
    · have H : Hid (wiB n lo hi = false) := decide_eq_false (fun q => h' q.2)
      go_enter Try.func20, Try.ntmps20
      go_wp2_with fail
      go_ret
      exact ⟨ret_b H.out.symm, rfl⟩
  · have H : Hid (wiB n lo hi = false) := decide_eq_false (fun q => h q.1)
    go_enter Try.func20, Try.ntmps20
    go_wp2_with fail
    go_ret
    exact ⟨ret_b H.out.symm, rfl⟩

theorem of_no1 {s : Sp} {u : Int} (h : maySp s = false) : ofO s u = none := by unfold ofO; rw [h]; rfl
theorem of_no2 {s : Sp} {u : Int} (h : wiB u 1 1048576 = false) : ofO s u = none := by unfold ofO; rw [h, Bool.and_false]; rfl
theorem of_yes {s : Sp} {u : Int} (h : maySp s = true) (h' : wiB u 1 1048576 = true) : ofO s u = (perL s).find? (fun p => decide (atV s p ≤ u)) := by unfold ofO; rw [h, h']; rfl

/-- What Of keeps: the task, the units, and its two answers. -/
structure OfAt (W : World) (n : Nat) (s : Sp) (u p : Int) (b : Bool) : Prop where
  sp : Six W n s.at
  un : Boxed W (n + 1) 3 (.int .i64 u)
  pe : Boxed W (n + 1 + 1) 3 (.int .i64 p)
  is : Boxed W (n + 1 + 1 + 1) 4 (.bool b)
theorem OfAt.new (w : World) (c t x m k e u : Int) : OfAt ((((w.alloc (.cells #[.int .i64 c, .int .i64 t, .int .i64 x, .int .i64 m, .int .i64 k, .int .i64 e] 23)).alloc (.cells #[.int .i64 u] 3)).alloc (.cells #[.int .i64 0] 3)).alloc (.cells #[.bool false] 4)) w.heap.size ⟨c, t, x, m, k, e⟩ u 0 false := by
  have q0 : Six (w.alloc (.cells #[.int .i64 c, .int .i64 t, .int .i64 x, .int .i64 m, .int .i64 k, .int .i64 e] 23)) w.heap.size (Sp.at ⟨c, t, x, m, k, e⟩) := Six.new w ⟨c, t, x, m, k, e⟩
  have q1 := Boxed.alloc (Boxed.alloc (Boxed.new (w.alloc (.cells #[.int .i64 c, .int .i64 t, .int .i64 x, .int .i64 m, .int .i64 k, .int .i64 e] 23)) 3 (.int .i64 u)) (.cells #[.int .i64 0] 3)) (.cells #[.bool false] 4)
  have q2 := Boxed.alloc (Boxed.new ((w.alloc (.cells #[.int .i64 c, .int .i64 t, .int .i64 x, .int .i64 m, .int .i64 k, .int .i64 e] 23)).alloc (.cells #[.int .i64 u] 3)) 3 (.int .i64 0)) (.cells #[.bool false] 4)
  have q3 := Boxed.new (((w.alloc (.cells #[.int .i64 c, .int .i64 t, .int .i64 x, .int .i64 m, .int .i64 k, .int .i64 e] 23)).alloc (.cells #[.int .i64 u] 3)).alloc (.cells #[.int .i64 0] 3)) 4 (.bool false)
  simp only [World.size_alloc] at q1 q2 q3
  exact ⟨q0.later ((((Below.refl _ _).alloc (by simp) _).alloc (by simp) _).alloc (by simp) _), q1, q2, q3⟩
theorem OfAt.later {w w' : World} {n : Nat} {s : Sp} {u p : Int} {b : Bool} (h : OfAt w n s u p b) (hb : Below w.heap.size w w') : OfAt w' n s u p b :=
  ⟨h.sp.later hb, Boxed.later h.un hb, Boxed.later h.pe hb, Boxed.later h.is hb⟩
theorem Boxed.beside {W : World} {B b : Nat} {t : TypeId} {v : Value} (h : Boxed W B t v) (hn : B ≠ b) (y : Value) : Boxed (W.setCell ⟨b, 0, none⟩ y) B t v := h.kept (grownBy_setCell' W b y) (by simpa using hn)
theorem six_beside {w : World} {b c : Nat} {f : Nat → Int} (h : Six w b f) (hc : b ≠ c) (v : Value) : Six (w.setCell ⟨c, 0, none⟩ v) b f := fun i hi =>
  ⟨(World.cell?_of_block ((grownBy_setCell' w c v).block b (World.block_lt_of_cell? _ _ (h 0 (by omega)).1) (by simpa using hc))).trans (h i hi).1, (World.frozen?_of_block ((grownBy_setCell' w c v).block b (World.block_lt_of_cell? _ _ (h 0 (by omega)).1) (by simpa using hc))).trans (h i hi).2⟩
/-- What is answered is there behind the call. -/
theorem OfAt.put {W : World} {n : Nat} {s : Sp} {u p p' : Int} {b b' : Bool} (h : OfAt W n s u p b) : OfAt ((W.setCell ⟨n + 1 + 1, 0, none⟩ (.int .i64 p')).setCell ⟨n + 1 + 1 + 1, 0, none⟩ (.bool b')) n s u p' b' :=
  ⟨six_beside (six_beside h.sp (by omega) _) (by omega) _, Boxed.beside (Boxed.beside h.un (by omega) _) (by omega) _, Boxed.beside (h.pe.set _) (by omega) _, (Boxed.beside h.is (by omega) _).set _⟩
theorem two_below {w W : World} {n : Nat} {u v : Value} (h : Below w.heap.size w W) (hn : w.heap.size ≤ n) : Below w.heap.size w ((W.setCell ⟨n + 1 + 1, 0, none⟩ u).setCell ⟨n + 1 + 1 + 1, 0, none⟩ v) :=
  (h.setCell (p := ⟨n + 1 + 1, 0, none⟩) (by simp; omega) _).setCell (p := ⟨n + 1 + 1 + 1, 0, none⟩) (by simp; omega) _

set_option maxHeartbeats 1000000 in
set_option maxRecDepth 100000 in
theorem of_out1 (c t x m k e u : Int) (w : World) (h1 : maySp ⟨c, t, x, m, k, e⟩ = false) :
    Calls Try.prog 9 #[.agg #[.int .i64 c, .int .i64 t, .int .i64 x, .int .i64 m, .int .i64 k, .int .i64 e], .int .i64 u] w fun r w' => r = .returned (.tuple #[.int .i64 0, .bool false]) ∧ Below w.heap.size w w' := by
  have H1 : Hid (maySp ⟨c, t, x, m, k, e⟩ = false) := h1
  clear h1
  refine (callsIn_wide (n := 4)).1 ?_
  refine callsIn_of_wp_marks Try.func9 rfl trivial ?_ rfl
  simp only [Try.ntmps9, List.size_toArray, List.length_cons, List.length_nil, Nat.reduceAdd, Nat.reduceSub, Array.replicate_succ, Array.replicate_zero, List.push_toArray, List.append_toArray, List.nil_append, List.cons_append]
  have hO := OfAt.new w c t x m k e u
  have hb0 : Below w.heap.size w ((((w.alloc (.cells #[.int .i64 c, .int .i64 t, .int .i64 x, .int .i64 m, .int .i64 k, .int .i64 e] 23)).alloc (.cells #[.int .i64 u] 3)).alloc (.cells #[.int .i64 0] 3)).alloc (.cells #[.bool false] 4)) := ((((Below.refl _ w).alloc (Nat.le_refl _) _).alloc (by simp) _).alloc (by simp; omega) _).alloc (by simp; omega) _
  gi_wp2_with fail
  refine ⟨trivial, (callsIn_wide.2 (spmay_any c t x m k e _)).mono ?_⟩
  rintro r w1 ⟨rfl, hb1⟩
  have hO1 := hO.later hb1
  replace hb1 := hb0.trans (hb1.mono hb0.size)
  clear hO hb0
  obtain ⟨hS, hU, hP, hB⟩ := hO1
  obtain ⟨a0, a1, a2, a3, a4, a5, b0, b1, b2, b3, b4, b5⟩ := hS.sp
  have cU := hU.cell
  have cP := hP.cell
  have dP := hP.frozen
  have cB := hB.cell
  have dB := hB.frozen
  rw [H1.out]
  gi_wp2_with fail
  refine ⟨trivial, ?_⟩
  gi_wp2_with fail
  have hR := OfAt.put (p' := 0) (b' := false) ⟨hS, hU, hP, hB⟩
  have z1 := hR.pe.cell
  have z2 := hR.is.cell
  refine ⟨.tuple #[.int .i64 0, .bool false], ?_, rfl, two_below hb1 (Nat.le_refl _)⟩
  simp [results, Try.results9, go_sem, z1, z2]

set_option maxHeartbeats 1000000 in
set_option maxRecDepth 100000 in
theorem of_out2 (c t x m k e u : Int) (w : World) (h1 : maySp ⟨c, t, x, m, k, e⟩ = true) (h2 : wiB u 1 1048576 = false) :
    Calls Try.prog 9 #[.agg #[.int .i64 c, .int .i64 t, .int .i64 x, .int .i64 m, .int .i64 k, .int .i64 e], .int .i64 u] w fun r w' => r = .returned (.tuple #[.int .i64 0, .bool false]) ∧ Below w.heap.size w w' := by
  have H1 : Hid (maySp ⟨c, t, x, m, k, e⟩ = true) := h1
  have H2 : Hid (wiB u 1 1048576 = false) := h2
  clear h1 h2
  refine (callsIn_wide (n := 4)).1 ?_
  refine callsIn_of_wp_marks Try.func9 rfl trivial ?_ rfl
  simp only [Try.ntmps9, List.size_toArray, List.length_cons, List.length_nil, Nat.reduceAdd, Nat.reduceSub, Array.replicate_succ, Array.replicate_zero, List.push_toArray, List.append_toArray, List.nil_append, List.cons_append]
  have hO := OfAt.new w c t x m k e u
  have hb0 : Below w.heap.size w ((((w.alloc (.cells #[.int .i64 c, .int .i64 t, .int .i64 x, .int .i64 m, .int .i64 k, .int .i64 e] 23)).alloc (.cells #[.int .i64 u] 3)).alloc (.cells #[.int .i64 0] 3)).alloc (.cells #[.bool false] 4)) := ((((Below.refl _ w).alloc (Nat.le_refl _) _).alloc (by simp) _).alloc (by simp; omega) _).alloc (by simp; omega) _
  gi_wp2_with fail
  refine ⟨trivial, (callsIn_wide.2 (spmay_any c t x m k e _)).mono ?_⟩
  rintro r w1 ⟨rfl, hb1⟩
  have hO1 := hO.later hb1
  replace hb1 := hb0.trans (hb1.mono hb0.size)
  clear hO hb0
  obtain ⟨hS, hU, hP, hB⟩ := hO1
  obtain ⟨a0, a1, a2, a3, a4, a5, b0, b1, b2, b3, b4, b5⟩ := hS.sp
  have cU := hU.cell
  have cP := hP.cell
  have dP := hP.frozen
  have cB := hB.cell
  have dB := hB.frozen
  rw [H1.out]
  gi_wp2_with fail
  refine ⟨trivial, (callsIn_wide.2 (pwithin_any u 1 1048576 _)).mono ?_⟩
  rintro r w2 ⟨rfl, hw⟩
  obtain rfl := hw.symm
  rw [H2.out]
  gi_wp2_with fail
  have hR := OfAt.put (p' := 0) (b' := false) ⟨hS, hU, hP, hB⟩
  have z1 := hR.pe.cell
  have z2 := hR.is.cell
  refine ⟨.tuple #[.int .i64 0, .bool false], ?_, rfl, two_below hb1 (Nat.le_refl _)⟩
  simp [results, Try.results9, go_sem, z1, z2]
end Go.Proofs.Ytociniaaeflokaa
