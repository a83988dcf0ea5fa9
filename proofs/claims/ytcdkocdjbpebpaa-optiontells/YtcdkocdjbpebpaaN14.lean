/- The library's sort.Slice over a row of options. -/
import Derived.Test.YtcdkocdjbpebpaaN13
import Derived.Shelf.GgSortFunc.Tiny
namespace Go.Proofs.Ytcdkocdjbpebpaa
open Go.RowKit Go.Shelf
open Go.Sort (SWO swp HoldsK putRowK PermIn SortedIn)

set_option maxRecDepth 100000 in
theorem laid_slice : LaysGg.n6 Try.prog ⟨fun k => match k with | 6 => 29 | 10 => 43 | 11 => 44 | 12 => 45 | 13 => 46 | 14 => 47 | 24 => 64 | 25 => 65 | 26 => 66 | 27 => 67 | 28 => 68 | 29 => 69 | 30 => 70 | 31 => 71 | 32 => 72 | 33 => 73 | 34 => 95 | 35 => 96 | 36 => 97 | 37 => 98 | 38 => 99 | 39 => 101 | k => k, fun k => match k with | 20 => 20 | 26 => 56 | 35 => 74 | 0 => 0 | 37 => 76 | 3 => 3 | 41 => 61 | 44 => 82 | 49 => 90 | 51 => 29 | 4 => 4 | 54 => 102 | 53 => 101 | 58 => 106 | 5 => 5 | 9 => 9 | 60 => 109 | 64 => 113 | 66 => 116 | 67 => 117 | 17 => 17 | 32 => 71 | 33 => 72 | 82 => 136 | 12 => 12 | 75 => 129 | 76 => 130 | 77 => 131 | 78 => 132 | 79 => 133 | 80 => 134 | k => k, fun _ => 0⟩ where
  mixed := by kernel_rfl
  f6 := by kernel_rfl
  f10 := by kernel_rfl
  f11 := by kernel_rfl
  f12 := by kernel_rfl
  f13 := by kernel_rfl
  f14 := by kernel_rfl
  f24 := by kernel_rfl
  f25 := by kernel_rfl
  f26 := by kernel_rfl
  f27 := by kernel_rfl
  f28 := by kernel_rfl
  f29 := by kernel_rfl
  f30 := by kernel_rfl
  f31 := by kernel_rfl
  f32 := by kernel_rfl
  f33 := by kernel_rfl
  f34 := by kernel_rfl
  f35 := by kernel_rfl
  f36 := by kernel_rfl
  f37 := by kernel_rfl
  f38 := by kernel_rfl
  f39 := by kernel_rfl
  t0 := by kernel_rfl
  a0 := fun _ => by kernel_rfl
  z0 := fun _ => by kernel_rfl
  v0 := fun _ => by kernel_rfl
  i0 := by kernel_rfl
  t3 := by kernel_rfl
  a3 := fun _ => by kernel_rfl
  z3 := fun _ => by kernel_rfl
  v3 := fun _ => by kernel_rfl
  i3 := by kernel_rfl
  t4 := by kernel_rfl
  a4 := fun _ => by kernel_rfl
  z4 := fun _ => by kernel_rfl
  v4 := fun _ => by kernel_rfl
  i4 := by kernel_rfl
  t5 := by kernel_rfl
  a5 := fun _ => by kernel_rfl
  z5 := fun _ => by kernel_rfl
  v5 := fun _ => by kernel_rfl
  i5 := by kernel_rfl
  t9 := by kernel_rfl
  a9 := fun _ => by kernel_rfl
  z9 := fun _ => by kernel_rfl
  v9 := fun _ => by kernel_rfl
  i9 := by kernel_rfl
  t12 := by kernel_rfl
  a12 := fun _ => by kernel_rfl
  z12 := fun _ => by kernel_rfl
  v12 := fun _ => by kernel_rfl
  i12 := by kernel_rfl
  t17 := by kernel_rfl
  a17 := fun _ => by kernel_rfl
  z17 := fun _ => by kernel_rfl
  v17 := fun _ => by kernel_rfl
  i17 := by kernel_rfl
  t20 := by kernel_rfl
  a20 := fun _ => by kernel_rfl
  z20 := fun _ => by kernel_rfl
  v20 := fun _ => by kernel_rfl
  i20 := by kernel_rfl
  t26 := by kernel_rfl
  a26 := fun _ => by kernel_rfl
  z26 := fun _ => by kernel_rfl
  v26 := fun _ => by kernel_rfl
  i26 := by kernel_rfl
  t32 := by kernel_rfl
  a32 := fun _ => by kernel_rfl
  z32 := fun _ => by kernel_rfl
  v32 := fun _ => by kernel_rfl
  i32 := by kernel_rfl
  t33 := by kernel_rfl
  a33 := fun _ => by kernel_rfl
  z33 := fun _ => by kernel_rfl
  v33 := fun _ => by kernel_rfl
  i33 := by kernel_rfl
  t35 := by kernel_rfl
  a35 := fun _ => by kernel_rfl
  z35 := fun _ => by kernel_rfl
  v35 := fun _ => by kernel_rfl
  i35 := by kernel_rfl
  t37 := by kernel_rfl
  a37 := fun _ => by kernel_rfl
  z37 := fun _ => by kernel_rfl
  v37 := fun _ => by kernel_rfl
  i37 := by kernel_rfl
  t41 := by kernel_rfl
  a41 := fun _ => by kernel_rfl
  z41 := fun _ => by kernel_rfl
  v41 := fun _ => by kernel_rfl
  i41 := by kernel_rfl
  t44 := by kernel_rfl
  a44 := fun _ => by kernel_rfl
  z44 := fun _ => by kernel_rfl
  v44 := fun _ => by kernel_rfl
  i44 := by kernel_rfl
  t49 := by kernel_rfl
  a49 := fun _ => by kernel_rfl
  z49 := fun _ => by kernel_rfl
  v49 := fun _ => by kernel_rfl
  i49 := by kernel_rfl
  t51 := by kernel_rfl
  a51 := fun _ => by kernel_rfl
  z51 := fun _ => by kernel_rfl
  v51 := fun _ => by kernel_rfl
  i51 := by kernel_rfl
  t53 := by kernel_rfl
  a53 := fun _ => by kernel_rfl
  z53 := fun _ => by kernel_rfl
  v53 := fun _ => by kernel_rfl
  i53 := by kernel_rfl
  t54 := by kernel_rfl
  a54 := fun _ => by kernel_rfl
  z54 := fun _ => by kernel_rfl
  v54 := fun _ => by kernel_rfl
  i54 := by kernel_rfl
  t58 := by kernel_rfl
  a58 := fun _ => by kernel_rfl
  z58 := fun _ => by kernel_rfl
  v58 := fun _ => by kernel_rfl
  i58 := by kernel_rfl
  t60 := by kernel_rfl
  a60 := fun _ => by kernel_rfl
  z60 := fun _ => by kernel_rfl
  v60 := fun _ => by kernel_rfl
  i60 := by kernel_rfl
  t64 := by kernel_rfl
  a64 := fun _ => by kernel_rfl
  z64 := fun _ => by kernel_rfl
  v64 := fun _ => by kernel_rfl
  i64 := by kernel_rfl
  t66 := by kernel_rfl
  a66 := fun _ => by kernel_rfl
  z66 := fun _ => by kernel_rfl
  v66 := fun _ => by kernel_rfl
  i66 := by kernel_rfl
  t67 := by kernel_rfl
  a67 := fun _ => by kernel_rfl
  z67 := fun _ => by kernel_rfl
  v67 := fun _ => by kernel_rfl
  i67 := by kernel_rfl
  t75 := by kernel_rfl
  a75 := fun _ => by kernel_rfl
  z75 := fun _ => by kernel_rfl
  v75 := fun _ => by kernel_rfl
  i75 := by kernel_rfl
  t76 := by kernel_rfl
  a76 := fun _ => by kernel_rfl
  z76 := fun _ => by kernel_rfl
  v76 := fun _ => by kernel_rfl
  i76 := by kernel_rfl
  t77 := by kernel_rfl
  a77 := fun _ => by kernel_rfl
  z77 := fun _ => by kernel_rfl
  v77 := fun _ => by kernel_rfl
  i77 := by kernel_rfl
  t78 := by kernel_rfl
  a78 := fun _ => by kernel_rfl
  z78 := fun _ => by kernel_rfl
  v78 := fun _ => by kernel_rfl
  i78 := by kernel_rfl
  t79 := by kernel_rfl
  a79 := fun _ => by kernel_rfl
  z79 := fun _ => by kernel_rfl
  v79 := fun _ => by kernel_rfl
  i79 := by kernel_rfl
  t80 := by kernel_rfl
  a80 := fun _ => by kernel_rfl
  z80 := fun _ => by kernel_rfl
  v80 := fun _ => by kernel_rfl
  i80 := by kernel_rfl
  t82 := by kernel_rfl
  a82 := fun _ => by kernel_rfl
  z82 := fun _ => by kernel_rfl
  v82 := fun _ => by kernel_rfl
  i82 := by kernel_rfl

theorem pdq14_all {Bs B o n c : Nat} {ty : Value} : ∀ N, PdqAll Bs B o n c ty N
  | 0 => fun _ a b _ h => by omega
  | N + 1 => pdq14_step N (pdq14_all N)
def SlcE (Bs B o n c : Nat) (ty : Value) (d : Array (Int × Int × Int)) (w : World) (e : Ending) (w' : World) : Prop :=
  ∃ d', e = .returned (.tuple #[]) ∧ Srt Bs B o n c ty w' d' ∧ Kpt B w w' ∧ PermIn 0 n d d' ∧ SortedIn ltO 0 n d'

theorem below_grow (w : World) (os : Array Obj) : Below w.heap.size w (Go.Sort.grow w os) := ⟨rfl, rfl, rfl, by rw [Go.Sort.size_grow]; omega, fun k hk => Go.Sort.heap_grow_old w os hk⟩

theorem below_slice (ρ : Ren) (p : Option Addr) (n c : Nat) (w : World) : Below w.heap.size w (Go.Proofs.sliceWorld Try.prog ρ 22 p n c w) := by
  unfold Go.Proofs.sliceWorld
  exact ((Below.refl _ _).alloc (Nat.le_refl _) _).alloc (by simp) _

theorem swk (k : Nat) : Go.Lib.swapperK k ((Try.prog.info? 24).get (by kernel_rfl)) 25 = if k = 0 then 1 else if k = 1 then 2 else 9 := by
  have a : ((Try.prog.info? 24).get (by kernel_rfl)).hasPointers = false := by kernel_rfl
  have b : ((Try.prog.info? 24).get (by kernel_rfl)).bytes = 24 := by kernel_rfl
  by_cases h0 : k = 0
  · subst h0; simp [Go.Lib.swapperK]
  · by_cases h1 : k = 1
    · subst h1; simp [Go.Lib.swapperK]
    · have c : (k == 0) = false := by simpa using h0
      have d : (k == 1) = false := by simpa using h1
      simp [Go.Lib.swapperK, a, b, c, d, h0, h1]

set_option maxHeartbeats 2000000 in
set_option maxRecDepth 100000 in
theorem slice_any {Bs B o n c : Nat} {ty : Value} {w : World} {d : Array (Int × Int × Int)} (h : Srt Bs B o n c ty w d) :
    Calls Try.prog 29 #[.iface 22 (.slice (some ⟨B, o, none⟩) n c), (.func (.func 30) #[] #[.pointer (some ⟨Bs, 0, none⟩)])] w (SlcE Bs B o n c ty d w) := by
  have hsm := h.small
  by_cases h1 : n ≤ 1
  · refine (Go.Proofs.Any.sort_Slice_tiny laid_slice 22 24 ((Try.prog.info? 22).get (by kernel_rfl)) _ (by kernel_rfl) (by kernel_rfl) (by kernel_rfl) (by kernel_rfl) 25 (fun _ => by kernel_rfl) (some ⟨B, o, none⟩) n c h1 (if n = 0 then 55 else 56) (by
      rw [swk]
      rcases (show n = 0 ∨ n = 1 by omega) with rfl | rfl
      · kernel_rfl
      · kernel_rfl) (.func 30) #[] #[.pointer (some ⟨Bs, 0, none⟩)] w).mono ?_
    rintro e w' ⟨rfl, os, rfl⟩
    exact ⟨d, rfl, h.later (below_grow w os), Kpt.of (below_grow w os), Go.Sort.permIn_refl _ _ _, fun i j _ _ _ => by omega⟩
  · refine Go.Proofs.Any.sort_Slice_of_pdq laid_slice 22 24 ((Try.prog.info? 22).get (by kernel_rfl)) _ (by kernel_rfl) (by kernel_rfl) (by kernel_rfl) (by kernel_rfl) 25 (fun _ => by kernel_rfl) (some ⟨B, o, none⟩) n c (by omega) 63 (by
      rw [swk, if_neg (by omega), if_neg (by omega)]
      kernel_rfl) (.func 30) #[] #[.pointer (some ⟨Bs, 0, none⟩)] w (fun w' => ∃ d', Srt Bs B o n c ty w' d' ∧ Kpt B w w' ∧ PermIn 0 n d d' ∧ SortedIn ltO 0 n d') ?_ |>.mono ?_
    rotate_left
    · rintro e w' ⟨rfl, d', r1, r2, r3, r4⟩
      exact ⟨d', rfl, r1, r2, r3, r4⟩
    have hB : Go.Proofs.sliceBound Try.prog 24 ((Try.prog.info? 24).get (by kernel_rfl)) 25 (some ⟨B, o, none⟩) n c = #[.slice (some ⟨B, o, none⟩) n c, typeHandle Try.prog 24] := by
      unfold Go.Proofs.sliceBound; rw [swk, if_neg (show ¬ n = 0 by omega), if_neg (show ¬ n = 1 by omega), if_neg (by omega)]
    rw [hB, ← h.hnd]
    have hb := fun ρ => below_slice ρ (some ⟨B, o, none⟩) n c w
    have hl := len_facts n (by omega) hsm
    refine (pdq14_all (n + 1) (h.later (hb _)) 0 n (Go.Lib.bitLen n) (by omega) (by omega) (by omega) (Or.inl rfl) (by omega)).mono ?_
    rintro e w' ⟨d', rfl, r1, r2, r3, r4⟩
    exact ⟨rfl, d', r1, (Kpt.of (hb _)).trans r2, r3, r4⟩
end Go.Proofs.Ytcdkocdjbpebpaa
