/- Walks of the methods that change a heap: Swap. -/
import Derived.Test.YtjaaabliefcgaaaH2
import Derived.BigRegion
import Derived.Laws.OwnMore
namespace Go.Proofs.Ytjaaabliefcgaaa
open Go.RowKit

theorem Hp.apart {B p cap b : Nat} {w : World} {xs : List (Int × Int)} (h : Hp B w p (some ⟨b, 0, none⟩) cap xs) : b ≠ p := by
  obtain ⟨_, ⟨e, _⟩ | ⟨g, cap, cur, e, hb, hh, _⟩⟩ := h.own
  · simp at e
  · simp at e
    intro e2
    have hv := h.var
    rw [← e2, e.1, hh] at hv
    simp at hv
theorem Hp.put {B p cap b : Nat} {w : World} {xs : List (Int × Int)} (h : Hp B w p (some ⟨b, 0, none⟩) cap xs) (i : Nat) (x : Int × Int) :
    Hp B ((w.setCell ⟨b, i * 2, none⟩ (.int .i64 x.1)).setCell ⟨b, i * 2 + 1, none⟩ (.int .i64 x.2)) p (some ⟨b, 0, none⟩) cap (xs.set i x) := by
  have hn := h.apart
  refine ⟨h.le, ?_, ?_⟩
  · rw [Below.heap_setCell _ _ _ _ (fun e => hn e.symm), Below.heap_setCell _ _ _ _ (fun e => hn e.symm), List.length_set]; exact h.var
  · rw [flat_set, List.length_set]
    exact ((h.own.stored (i * 2) _).1.stored (i * 2 + 1) _).1
theorem Kept.set {p b k : Nat} {w w' : World} (h : Kept p (some ⟨b, 0, none⟩) w w') (v : Value) : Kept p (some ⟨b, 0, none⟩) w (w'.setCell ⟨b, k, none⟩ v) :=
  h.trans ⟨rfl, rfl, rfl, by simp, fun i _ _ h2 => Below.heap_setCell _ _ _ _ (fun e => h2 (by simpa using e))⟩
theorem Hp.drew {B p cap : Nat} {w : World} {a : Option Addr} {xs : List (Int × Int)} (h : Hp B w p a cap xs) : Hp B w.drew p a cap xs := h.later (Below.refl _ _).drew
theorem Kept.drew {p : Nat} {a : Option Addr} {w w' : World} (h : Kept p a w w') : Kept p a w w'.drew := h.trans (Kept.of (Below.refl _ _).drew)

set_option maxHeartbeats 1000000 in
set_option maxRecDepth 100000 in
theorem swap_any (B p cap i j : Nat) (a : Option Addr) (xs : List (Int × Int)) (w : World) (h : Hp B w p a cap xs) (hi : i < xs.length) (hj : j < xs.length) (hx : xs.length ≤ 1000) :
    Calls Try.prog 72 #[.slice a xs.length cap, .int .i64 i, .int .i64 j] w fun e w' => e = .returned (.tuple #[]) ∧ Hp B w' p a cap (swp xs i j) ∧ Kept p a w w' := by
  obtain ⟨a', cap', e', h1, h2, h0, h3⟩ := h.its
  simp only [Value.slice.injEq, true_and] at e'
  obtain ⟨rfl, rfl⟩ := e'
  obtain ⟨b, o, rfl, h4⟩ := h3 (by intro e; subst e; simp at hi)
  obtain ⟨ci0, ci1⟩ := h4 i hi
  obtain ⟨cj0, cj1⟩ := h4 j hj
  obtain rfl : o = 0 := by
    obtain ⟨_, ⟨e, _⟩ | ⟨g, cap, cur, e, hb, hh, h1, h2, _⟩⟩ := h.own
    · simp at e
    · simp at e; exact e.1.2
  simp only [Nat.zero_add] at ci0 ci1 cj0 cj1
  have fi0 := h.own.frozenAt (i * 2)
  have fi1 := h.own.frozenAt (i * 2 + 1)
  have fj0 := h.own.frozenAt (j * 2)
  have fj1 := h.own.frozenAt (j * 2 + 1)
  clear h3 h4 h0
  have HH : Hid (Hp B w p (some ⟨b, 0, none⟩) cap xs) := h
  clear h
  generalize hxi : atI xs i = xi at *
  generalize hxj : atI xs j = xj at *
  have HI : Hid (atI xs i = xi) := hxi
  have HJ : Hid (atI xs j = xj) := hxj
  clear hxi hxj
  by_cases hij : i = j
  · subst hij
    go_enter Try.func72, Try.ntmps72
    go_wp2_with fail
    go_region
    all_goals go_wp2_with fail
    all_goals
      go_end0
      refine ⟨rfl, ?_, ?_⟩
      · unfold swp; rw [HI.out]; exact ((HH.out.put i _).put i _).drew
      · exact (((((Kept.refl _ _ _).set _).set _).set _).set _).drew
  · go_enter Try.func72, Try.ntmps72
    go_wp2_with fail
    go_region
    all_goals go_wp2_with fail
    all_goals
      go_end0
      refine ⟨rfl, ?_, ?_⟩
      · unfold swp; rw [HI.out, HJ.out]; exact ((HH.out.put i _).put j _).drew
      · exact (((((Kept.refl _ _ _).set _).set _).set _).set _).drew

theorem Hp.some_b {B p cap : Nat} {w : World} {a : Option Addr} {xs : List (Int × Int)} (h : Hp B w p a cap xs) (hx : 0 < xs.length) : ∃ b, a = some ⟨b, 0, none⟩ := by
  obtain ⟨_, ⟨e, h0⟩ | ⟨g, cap, cur, e, hb, hh, _⟩⟩ := h.own
  · omega
  · simp at e; exact ⟨g, e.1⟩
theorem heap_putVar {w : World} {p : Nat} {u v : Value} {t : TypeId} (h : w.heap[p]? = some (.cells #[u] t (0, 0))) : (w.setCell ⟨p, 0, none⟩ v).heap[p]? = some (.cells #[v] t (0, 0)) := by
  have := heap_setCell_same w p 0 #[u] t v h
  simpa using this
theorem Hp.cut {B p cap b n : Nat} {w : World} {xs : List (Int × Int)} (h : Hp B w p (some ⟨b, 0, none⟩) cap xs) (hn : n ≤ xs.length) :
    Hp B (w.setCell ⟨p, 0, none⟩ (.slice (some ⟨b, 0, none⟩) n cap)) p (some ⟨b, 0, none⟩) cap (xs.take n) := by
  have hb := h.apart
  have hl : (xs.take n).length = n := by simp; omega
  refine ⟨h.le, by rw [hl]; exact heap_putVar h.var, ?_⟩
  obtain ⟨_, ⟨e, h0⟩ | ⟨g, cap', cur, e, hb', hh, h1, h2, h3, h4⟩⟩ := h.own
  · simp at e
  · simp only [Value.slice.injEq, Option.some.injEq, Addr.mk.injEq, and_true, true_and] at e
    obtain ⟨rfl, rfl⟩ := e
    refine ⟨by rw [flat_len], .inr ⟨b, cap, cur, by rw [hl], hb', by rw [Below.heap_setCell _ _ _ _ hb]; exact hh, by omega, h2, h3, ?_⟩⟩
    rw [flat_take, hl, ← h4, List.take_take]
    congr 1; omega
theorem Kept.var {p : Nat} {a : Option Addr} {w w' : World} (h : Kept p a w w') (v : Value) : Kept p a w (w'.setCell ⟨p, 0, none⟩ v) :=
  h.trans ⟨rfl, rfl, rfl, by simp, fun i _ h1 _ => Below.heap_setCell _ _ _ _ h1⟩
theorem Kept.alloc {p : Nat} {a : Option Addr} {w w' : World} (h : Kept p a w w') (o : Obj) : Kept p a w (w'.alloc o) :=
  h.trans ⟨rfl, rfl, rfl, by simp, fun i hi _ _ => Below.heap_alloc _ _ _ hi⟩
theorem Hp.alloc {B p cap : Nat} {w : World} {a : Option Addr} {xs : List (Int × Int)} (h : Hp B w p a cap xs) (o : Obj) : Hp B (w.alloc o) p a cap xs :=
  h.later ((Below.refl _ _).alloc (Nat.le_refl _) o)
theorem Hp.lt {B p cap : Nat} {w : World} {a : Option Addr} {xs : List (Int × Int)} (h : Hp B w p a cap xs) : p < w.heap.size := (Array.getElem?_eq_some_iff.1 h.var).1
/-- An item, as a value. -/
def itV (x : Int × Int) : Value := .agg #[.int .i64 x.1, .int .i64 x.2]

set_option maxHeartbeats 1000000 in
set_option maxRecDepth 100000 in
theorem pop_it (B p cap n : Nat) (a : Option Addr) (xs : List (Int × Int)) (w : World) (h : Hp B w p a cap xs) (hn : xs.length = n + 1) (hx : xs.length ≤ 1000) :
    Calls Try.prog 71 #[.pointer (some ⟨p, 0, none⟩)] w fun e w' => e = .returned (.iface 50 (itV (atI xs n))) ∧ Hp B w' p a cap (xs.take n) ∧ Kept p a w w' := by
  obtain ⟨b, rfl⟩ := h.some_b (by omega)
  obtain ⟨a', cap', e', h1, h2, h0, h3⟩ := h.its
  simp only [Value.slice.injEq, true_and] at e'
  obtain ⟨rfl, rfl⟩ := e'
  obtain ⟨b', o', e', h4⟩ := h3 (by intro e; subst e; simp at hn)
  simp only [Option.some.injEq, Addr.mk.injEq, and_true] at e'
  obtain ⟨rfl, rfl⟩ := e'
  obtain ⟨c0, c1⟩ := h4 n (by omega)
  simp only [Nat.zero_add] at c0 c1
  have cv := h.cell
  have fv := h.frozen
  have hpl := h.lt
  have HH : Hid (Hp B w p (some ⟨b, 0, none⟩) cap xs) := h
  clear h h3 h4 h0
  unfold itV
  generalize hxi : atI xs n = xi at *
  clear hxi
  rw [hn] at cv
  have HN : Hid (xs.length = n + 1) := hn
  rw [hn] at h1 hx
  clear hn
  go_enter Try.func71, Try.ntmps71
  go_wp2
  go_ret
  exact ⟨rfl, (HH.out.cut (by rw [HN.out]; omega)).alloc _, ((Kept.refl _ _ _).var _).alloc _⟩
end Go.Proofs.Ytjaaabliefcgaaa
