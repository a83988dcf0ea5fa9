/- Options in a row that the library's sort goes over: what they are as cells, which is ahead, what is kept while they are swapped. -/
import Derived.Test.YtcdkocdjbpebpaaX3
import Derived.Shelf.GgSortFunc.SmallK
import Derived.Shelf.SlSortFuncK.RowK2
namespace Go.Proofs.Ytcdkocdjbpebpaa
open Go.RowKit
open Go.Sort (SWO swp HoldsK putRowK PermIn SortedIn)

/-- An option's three cells. -/
def encO (x : Int × Int × Int) : List Value := [.int .i64 x.1, .int .i64 x.2.1, .int .i64 x.2.2]
theorem encO_len (x : Int × Int × Int) : (encO x).length = 3 := rfl
/-- Is a ahead of b? -/
def ltO (a b : Int × Int × Int) : Bool := decide (a.1 < b.1 ∨ a.1 = b.1 ∧ (a.2.1 < b.2.1 ∨ a.2.1 = b.2.1 ∧ a.2.2 < b.2.2))
theorem swo_ltO : SWO ltO where
  irrefl := fun x => by simp [ltO]
  trans := fun x y z h1 h2 => by simp only [ltO, decide_eq_true_eq] at *; omega
  ntrans := fun x y z h1 h2 => by simp only [ltO, decide_eq_false_iff_not] at *; omega
theorem ltO_same {x y : Int × Int × Int} (h1 : ltO x y = false) (h2 : ltO y x = false) : x = y := by
  obtain ⟨a, b, c⟩ := x
  obtain ⟨d, e, f⟩ := y
  simp only [ltO, decide_eq_false_iff_not] at h1 h2
  simp only [Prod.mk.injEq]
  omega

/-- All but block B is as it was. -/
structure Kpt (B : Nat) (w w' : World) : Prop where
  os : w'.os = w.os
  tape : w'.tape = w.tape
  output : w'.output = w.output
  size : w.heap.size ≤ w'.heap.size
  block : ∀ k, k < w.heap.size → k ≠ B → w'.heap[k]? = w.heap[k]?
theorem Kpt.of {w w' : World} {B : Nat} (h : Below w.heap.size w w') : Kpt B w w' := ⟨h.os, h.tape, h.output, h.size, fun k hk _ => h.block k hk⟩
theorem Kpt.refl (B : Nat) (w : World) : Kpt B w w := ⟨rfl, rfl, rfl, Nat.le_refl _, fun _ _ _ => rfl⟩
theorem Kpt.trans {B : Nat} {w w1 w2 : World} (h : Kpt B w w1) (k : Kpt B w1 w2) : Kpt B w w2 :=
  ⟨k.os.trans h.os, k.tape.trans h.tape, k.output.trans h.output, Nat.le_trans h.size k.size, fun i hi h1 => (k.block i (Nat.lt_of_lt_of_le hi h.size) h1).trans (h.block i hi h1)⟩
theorem Kpt.set {B : Nat} {w w' : World} (h : Kpt B w w') (k : Nat) (v : Value) : Kpt B w (w'.setCell ⟨B, k, none⟩ v) :=
  h.trans ⟨rfl, rfl, rfl, by simp, fun i _ h1 => Below.heap_setCell _ _ _ _ h1⟩
theorem Kpt.cell {B : Nat} {w w' : World} (h : Kpt B w w') {p : Addr} {v : Value} (hc : w.cell? p = some v) (hp : p.block ≠ B) : w'.cell? p = some v :=
  (World.cell?_of_block (w := w) (h.block p.block (World.block_lt_of_cell? _ _ hc) hp)).trans hc
theorem Kpt.below {B base : Nat} {w w' : World} (h : Kpt B w w') (hb : base ≤ B) (hs : base ≤ w.heap.size) : Below base w w' := ⟨h.os, h.tape, h.output, h.size, fun k hk => h.block k (by omega) (by omega)⟩
theorem Kpt.from {B base : Nat} {w w1 w2 : World} (h : Kpt B w1 w2) (hB : Below base w w1) (hb : base ≤ B) (hs : base ≤ w1.heap.size) : Below base w w2 := hB.trans (h.below hb hs)

/-- The row of n options at B, and the variable Bs that holds it. -/
structure Srt (Bs B o n c : Nat) (ty : Value) (w : World) (d : Array (Int × Int × Int)) : Prop where
  holds : HoldsK encO 3 w B o d
  var : w.cell? ⟨Bs, 0, none⟩ = some (.slice (some ⟨B, o, none⟩) n c)
  lt : B < w.heap.size
  ne : Bs ≠ B
  size : d.size = n
  small : n ≤ 1000
  hnd : ty = typeHandle Try.prog 24
theorem holdsK_later {B o : Nat} {w w' : World} {d : Array (Int × Int × Int)} (h : HoldsK encO 3 w B o d) (hb : Below w.heap.size w w') (hB : B < w.heap.size) : HoldsK encO 3 w' B o d :=
  fun j hj => ⟨(hb.cell (p := ⟨B, o + j, none⟩) hB).trans (h j hj).1, (hb.frozen (p := ⟨B, o + j, none⟩) hB).trans (h j hj).2⟩
theorem Srt.later {Bs B o n c : Nat} {ty : Value} {w w' : World} {d : Array (Int × Int × Int)} (h : Srt Bs B o n c ty w d) (hb : Below w.heap.size w w') : Srt Bs B o n c ty w' d :=
  ⟨holdsK_later h.holds hb h.lt, cell_later hb h.var, Nat.lt_of_lt_of_le h.lt hb.size, h.ne, h.size, h.small, h.hnd⟩
/-- What element i holds. -/
theorem Srt.at {Bs B o n c : Nat} {ty : Value} {w : World} {d : Array (Int × Int × Int)} (h : Srt Bs B o n c ty w d) (i : Nat) (hi : i < n) :
    w.cell? ⟨B, o + i * 3, none⟩ = some (.int .i64 d[i]!.1) ∧ w.cell? ⟨B, o + i * 3 + 1, none⟩ = some (.int .i64 d[i]!.2.1) ∧ w.cell? ⟨B, o + i * 3 + 2, none⟩ = some (.int .i64 d[i]!.2.2) := by
  have hs : i < d.size := by rw [h.size]; exact hi
  exact ⟨(h.holds.cell (c := 0) hs (by omega)).1, (h.holds.cell (c := 1) hs (by omega)).1, (h.holds.cell (c := 2) hs (by omega)).1⟩

/-- Two functions, as the library keeps them: who is ahead, and the swap. -/
def datL (Bs : Nat) : Value := .func (.func 30) #[] #[.pointer (some ⟨Bs, 0, none⟩)]
def datS (B o n c : Nat) (ty : Value) : Value := .func (.func 63) #[] #[.slice (some ⟨B, o, none⟩) n c, ty]

theorem swaps_any (B o n c : Nat) : Go.Proofs.SwapSwapsK Try.prog 63 #[.slice (some ⟨B, o, none⟩) n c, typeHandle Try.prog 24] encO 3 B o n :=
  Go.Proofs.swapSwapsK_of_literal (P := Try.prog) false 63
    (fun args W => run_callFunc_extern Try.func63 (by kernel_rfl) (by kernel_rfl) (by kernel_rfl) (e := Go.Extern.ReflectliteSwapper.swap false) (by kernel_rfl) args W)
    24 ((Try.prog.info? 24).get (by kernel_rfl)) (by kernel_rfl) encO 3 (fun _ => rfl) (by kernel_rfl) (fun _ => by kernel_rfl)
    (fun x v hv => by simp [encO] at hv; rcases hv with rfl | rfl | rfl <;> rfl) B o n c

/-- A swap of two of them. -/
theorem swap_at14 {Bs B o n c : Nat} {ty : Value} {w : World} {d : Array (Int × Int × Int)} (h : Srt Bs B o n c ty w d) (i j : Nat) (I J : Int) (eI : I = i) (eJ : J = j) (hi : i < n) (hj : j < n) :
    ∃ w', (callFunc 63 (#[.int .i64 I, .int .i64 J] ++ #[.slice (some ⟨B, o, none⟩) n c, ty])).run Try.prog w = .ok (.value (.tuple #[])) w' ∧ Srt Bs B o n c ty w' (swp d i j) ∧ Kpt B w w' := by
  have ht := h.hnd
  subst eI eJ ht
  have hi' : i < d.size := by rw [h.size]; exact hi
  have hj' : j < d.size := by rw [h.size]; exact hj
  refine ⟨_, swaps_any B o n c w d h.holds h.size i j hi hj, ?_⟩
  have K : Kpt B w ((w.setCells B (o + i * 3) (encO d[j]!)).setCells B (o + j * 3) (encO d[i]!)) := by
    simp only [encO, World.setCells]
    exact ((((((Kpt.refl _ _).set _ _).set _ _).set _ _).set _ _).set _ _).set _ _
  have E : (w.setCells B (o + i * 3) (encO d[j]!)).setCells B (o + j * 3) (encO d[i]!) = putRowK encO 3 w B o (swp d i j) := by
    have := Go.Sort.putRowK_swp encO 3 (fun _ => rfl) w B o d i j hi' hj'
    rwa [Go.Sort.putRowK_self encO 3 w B o d h.holds] at this
  refine ⟨⟨?_, K.cell h.var h.ne, Nat.lt_of_lt_of_le h.lt K.size, h.ne, by rw [Go.Sort.size_swp]; exact h.size, h.small, h.hnd⟩, K⟩
  rw [E]
  exact Go.Sort.holdsK_putRowK encO 3 w B o d _ h.holds (by rw [Go.Sort.size_swp])
end Go.Proofs.Ytcdkocdjbpebpaa
