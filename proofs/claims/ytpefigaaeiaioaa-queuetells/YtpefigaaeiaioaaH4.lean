/- The walk of the method that puts an item last. -/
import Derived.Test.YtpefigaaeiaioaaH3
import Derived.Deep.RegionHeld3
import Derived.Deep.AppendLies
import Derived.OwnWalk
import Derived.Deep.RegionLaw
namespace Go.Proofs.Ytpefigaaeiaioaa
open Go.RowKit

theorem Try.infoItem : (Try.prog.info? 24).map (fun i => (i.zero, i.size, i.bytes)) = some (some (.agg #[.int .i64 0, .int .i64 0]), 2, 16) := by kernel_rfl

theorem as_item (v : Value) (w : World) : (Instr.typeAssert (.iface 24 v) 20 24 false).run Try.prog w = .ok v w := by kernel_rfl

theorem Hp.row {B p cap : Nat} {w : World} {a : Option Addr} {xs : List (Int × Int)} (h : Hp B w p a cap xs) : Value.ownBlock (.slice a xs.length cap) ≠ some p := by
  cases a with
  | none => simp [Value.ownBlock]
  | some ad =>
    obtain ⟨_, ⟨e, _⟩ | ⟨g, cap, cur, e, hb, hh, _⟩⟩ := h.own
    · simp at e
    · simp at e
      have := (show Hp B w p (some ⟨g, 0, none⟩) _ xs from e.1 ▸ h).apart
      rw [e.1]; simpa [Value.ownBlock] using this
theorem Value.ownBlock_map (a : Option Addr) (n c : Nat) : Value.ownBlock (.slice a n c) = a.map (·.block) := by cases a <;> rfl

theorem keep_below {w w' : World} {p : Addr} {u : Value} (hb : Below w.heap.size w w') (h : w.cell? p = some u) (f : w.frozen? p = false) : w'.cell? p = some u ∧ w'.frozen? p = false :=
  ⟨cell_later hb h, (hb.frozen (World.block_lt_of_cell? _ _ h)).trans f⟩

theorem grown_cell {w w1 w2 : World} {p : Addr} {u : Value} {row : Option Nat} (hg : w1.grownBy w2 row) (hr : row ≠ some p.block) (hb : Below w.heap.size w w1) (h : w.cell? p = some u) (f : w.frozen? p = false) : w2.cell? p = some u ∧ w2.frozen? p = false := by
  have hl := World.block_lt_of_cell? _ _ h
  have e := hg.block p.block (Nat.lt_of_lt_of_le hl hb.size) (Ne.symm hr)
  exact ⟨(World.cell?_of_block (w := w1) e).trans (cell_later hb h), (World.frozen?_of_block (w := w1) e).trans ((hb.frozen hl).trans f)⟩

theorem push_end {B p cap gg cap' : Nat} {a : Option Addr} {xs : List (Int × Int)} {x : Int × Int} {w w1 : World} {o : Obj} (h : Hp B w p a cap xs)
    (hown : w1.ownsRow B 24 2 (.slice (some ⟨gg, 0, none⟩) (xs.length + 1) cap') (xs.length + 1) (flat xs ++ [.int .i64 x.1, .int .i64 x.2]))
    (hgrow : (w.alloc o).drew.grownBy w1 (Value.ownBlock (.slice a xs.length cap))) (hat : Value.ownBlock (.slice a xs.length cap) = some gg ∨ gg = w.heap.size + 1) :
    ∃ a' c', Hp B (w1.setCell ⟨p, 0, none⟩ (.slice (some ⟨gg, 0, none⟩) (xs.length + 1) cap')) p a' c' (xs ++ [x]) ∧ Kept p a w (w1.setCell ⟨p, 0, none⟩ (.slice (some ⟨gg, 0, none⟩) (xs.length + 1) cap')) := by
  have hl := h.lt
  have hr := h.row
  have hsz : (w.alloc o).drew.heap.size = w.heap.size + 1 := by show (w.alloc o).heap.size = _; simp
  have hbl : ∀ k, k < w.heap.size → (w.alloc o).drew.heap[k]? = w.heap[k]? := fun k hk => Below.heap_alloc w o k hk
  have hv : w1.heap[p]? = some (.cells #[.slice a xs.length cap] 41 (0, 0)) := by
    rw [hgrow.block p (by omega) (Ne.symm hr), hbl p hl]; exact h.var
  have hg : gg ≠ p := by
    rcases hat with e | e
    · intro e2; rw [e2] at e; exact hr e
    · omega
  refine ⟨some ⟨gg, 0, none⟩, cap', ⟨h.le, ?_, ?_⟩, ?_⟩
  · rw [List.length_append]; exact heap_putVar hv
  · rw [List.length_append, flat_app]
    exact hown.kept (row := some p) ⟨rfl, rfl, rfl, by simp, fun k _ hk => Below.heap_setCell _ _ _ _ (fun e => hk (by rw [e]))⟩ (Or.inr (by simpa [Value.ownBlock] using hg))
  · have k1 : Kept p a w w1 := by
      refine ⟨hgrow.os, hgrow.tape, hgrow.output, by have := hgrow.size; omega, fun k hk h1 h2 => ?_⟩
      rw [hgrow.block k (by omega) (by rw [Value.ownBlock_map]; exact h2), hbl k hk]
    exact k1.var _

set_option maxHeartbeats 1000000 in
set_option maxRecDepth 100000 in
theorem push_it (B p cap : Nat) (a : Option Addr) (xs : List (Int × Int)) (x : Int × Int) (w : World) (h : Hp B w p a cap xs) (hx : xs.length ≤ 1000) (hB : B ≤ w.heap.size) :
    Calls Try.prog 63 #[.pointer (some ⟨p, 0, none⟩), .iface 24 (itV x)] w fun e w' => e = .returned (.tuple #[]) ∧ ∃ a' cap', Hp B w' p a' cap' (xs ++ [x]) ∧ Kept p a w w' := by
  obtain ⟨i0, hi0, hz0, hz1, hz2⟩ := info_parts Try.infoItem
  have cv := h.cell
  have fv := h.frozen
  have hpl := h.lt
  have hown := h.own
  have hrow := h.row
  have HH : Hid (Hp B w p a cap xs) := h
  clear h
  unfold itV
  have hta := as_item
  go_enter Try.func63, Try.ntmps63
  go_wp2_with fail
  go_region_law
    ((refine step_append_lies _ (by rfl) _ _ _ (by rfl) B 24 i0 _ 2 16 Try.underlying41 hi0 hz0 hz1 hz2 rfl (by omega) (.slice a xs.length cap) xs.length (flat xs) (by rfl) ((hown.alloc _).drew)
        ⟨w.heap.size, 0, none⟩ 1 1 [.int .i64 x.1, .int .i64 x.2] (by rfl) (by rfl) (World.news_of_block (cs := #[.int .i64 x.1, .int .i64 x.2]) (t := 24) (fr := (0, 0)) (heap_alloc_new w _)) (by simp [Value.oneCell'])
        (by omega) (by unfold maxLen; omega) (by omega) (by simp; omega) (w.heap.size + 1) (by simp) ?_; intro gg cap' w1 hown1 hgrow hat hlt; have kv := grown_cell hgrow hrow ((Below.refl _ _).alloc (Nat.le_refl _) _).drew cv fv; have kv0 := kv.1; have kv1 := kv.2))
  all_goals
    go_end0
    exact ⟨rfl, push_end HH.out hown1 hgrow hat⟩
end Go.Proofs.Ytpefigaaeiaioaa
