/- Walks: what is taken from a heap, one by one. -/
import Derived.Test.YtjaaabliefcgaaaH9
namespace Go.Proofs.Ytjaaabliefcgaaa
open Go.RowKit
set_option linter.unusedVariables false

theorem Kept.cell {p : Nat} {a : Option Addr} {w w' : World} {q : Addr} (h : Kept p a w w') (hq : q.block < w.heap.size) (h1 : q.block ≠ p) (h2 : some q.block ≠ a.map (·.block)) : w'.cell? q = w.cell? q := World.cell?_of_block (w := w) (h.block _ hq h1 h2)
theorem Kept.frozen {p : Nat} {a : Option Addr} {w w' : World} {q : Addr} (h : Kept p a w w') (hq : q.block < w.heap.size) (h1 : q.block ≠ p) (h2 : some q.block ≠ a.map (·.block)) : w'.frozen? q = w.frozen? q := World.frozen?_of_block (w := w) (h.block _ hq h1 h2)
theorem Hp.new {B p cap : Nat} {w : World} {a : Option Addr} {xs : List (Int × Int)} (h : Hp B w p a cap xs) {k : Nat} (hk : w.heap.size ≤ k) : k ≠ p ∧ some k ≠ a.map (·.block) := by
  refine ⟨by have := h.lt; omega, fun e => ?_⟩
  have := (h.own.lt k (by rw [Value.ownBlock_map]; exact e.symm)).2
  omega
theorem Kept.old {p : Nat} {a : Option Addr} {w w1 w' : World} (h : Kept p a w1 w') (hs : w.heap.size ≤ w1.heap.size) (hb : ∀ k, k < w.heap.size → w1.heap[k]? = w.heap[k]?) (e1 : w1.os = w.os) (e2 : w1.tape = w.tape) (e3 : w1.output = w.output) : Kept p a w w' :=
  ⟨h.os.trans e1, h.tape.trans e2, h.output.trans e3, Nat.le_trans hs h.size, fun k hk h1 h2 => (h.block k (Nat.lt_of_lt_of_le hk hs) h1 h2).trans (hb k hk)⟩
theorem Kept.after {p : Nat} {a : Option Addr} {w w1 w' : World} (h : Kept p a w1 w') (hb : Below w.heap.size w w1) : Kept p a w w' := h.old hb.size hb.block hb.os hb.tape hb.output
theorem Kept.then {p : Nat} {a : Option Addr} {w w1 w' : World} (h : Kept p a w w1) (hs : w1.heap.size ≤ w'.heap.size) (hb : ∀ k, k < w.heap.size → w'.heap[k]? = w1.heap[k]?) (e1 : w'.os = w1.os) (e2 : w'.tape = w1.tape) (e3 : w'.output = w1.output) : Kept p a w w' :=
  ⟨e1.trans h.os, e2.trans h.tape, e3.trans h.output, Nat.le_trans h.size hs, fun k hk h1 h2 => (hb k hk).trans (h.block k hk h1 h2)⟩
/-- A store into what the call has made. -/
theorem Kept.mine {p : Nat} {a : Option Addr} {w w1 : World} (h : Kept p a w w1) {b k : Nat} (hb : w.heap.size ≤ b) (v : Value) : Kept p a w (w1.setCell ⟨b, k, none⟩ v) :=
  h.then (by simp) (fun i hi => Below.heap_setCell _ _ _ _ (by simp; omega)) rfl rfl rfl
theorem Hp.mine {B p cap : Nat} {w w0 : World} {a : Option Addr} {xs : List (Int × Int)} (h : Hp B w p a cap xs) {b k : Nat} (h1 : b ≠ p) (h2 : some b ≠ a.map (·.block)) (v : Value) : Hp B (w.setCell ⟨b, k, none⟩ v) p a cap xs := by
  refine ⟨h.le, (Below.heap_setCell _ _ _ _ (fun e => h1 e.symm)).trans h.var, ?_⟩
  exact h.own.kept (row := some b) ⟨rfl, rfl, rfl, by simp, fun k _ hk => Below.heap_setCell _ _ _ _ (fun e => hk (by rw [e]))⟩ (Or.inr (by rw [Value.ownBlock_map]; exact fun e => h2 e.symm))

/-- What take comes to. -/
def TookE (B p cap n : Nat) (a : Option Addr) (xs : List (Int × Int)) (w : World) (e : Ending) (w' : World) : Prop :=
  ∃ ys, e = .returned (itV (atI xs 0)) ∧ Hp B w' p a cap ys ∧ ys.length = n ∧ heapN ys n ∧ (atI xs 0 :: ys).Perm xs ∧ Kept p a w w'

set_option maxHeartbeats 1000000 in
set_option maxRecDepth 100000 in
theorem take_any (B p cap n : Nat) (a : Option Addr) (xs : List (Int × Int)) (w : World) (h : Hp B w p a cap xs) (hl : xs.length = n + 1) (hx : n + 1 ≤ 1000) (hh : heapN xs (n + 1)) :
    Calls Try.prog 48 #[.pointer (some ⟨p, 0, none⟩)] w (TookE B p cap n a xs w) := by
  have hta := as_item
  have HH : Hid (Hp B w p a cap xs ∧ heapN xs (n + 1) ∧ xs.length = n + 1) := ⟨h, hh, hl⟩
  have hnew := h.new (Nat.le_refl _)
  clear h hh hl
  go_enter Try.func48, Try.ntmps48
  go_wp2_with fail
  refine (hpop_any B p cap n a xs _ (HH.out.1.alloc _) HH.out.2.2 hx HH.out.2.1).mono ?_
  rintro e w2 ⟨ys, rfl, hp2, hly, hh2, hper, hk2⟩
  have c0 := hk2.cell (q := ⟨w.heap.size, 0, none⟩) (by simp) hnew.1 hnew.2
  have c1 := hk2.cell (q := ⟨w.heap.size, 1, none⟩) (by simp) hnew.1 hnew.2
  have f0 := hk2.frozen (q := ⟨w.heap.size, 0, none⟩) (by simp) hnew.1 hnew.2
  have f1 := hk2.frozen (q := ⟨w.heap.size, 1, none⟩) (by simp) hnew.1 hnew.2
  simp at c0 c1 f0 f1
  have HE : Hid (Hp B w2 p a cap ys ∧ ys.length = n ∧ heapN ys n ∧ (atI xs 0 :: ys).Perm xs ∧ Kept p a w w2) := ⟨hp2, hly, hh2, hper, hk2.after ((Below.refl _ _).alloc (Nat.le_refl _) _)⟩
  clear hp2 hly hh2 hper hk2
  unfold itV
  go_wp2_with fail
  refine bodyPost_ret (v := itV (atI xs 0)) ?_ rfl ?_
  · simp [results, Try.results48, go_sem, itV, c0, c1]
  · obtain ⟨h1, h2, h3, h4, h5⟩ := HE.out
    exact ⟨ys, rfl, (h1.mine (w0 := w) hnew.1 hnew.2 _).mine (w0 := w) hnew.1 hnew.2 _, h2, h3, h4, (h5.mine (Nat.le_refl _) _).mine (Nat.le_refl _) _⟩
end Go.Proofs.Ytjaaabliefcgaaa
