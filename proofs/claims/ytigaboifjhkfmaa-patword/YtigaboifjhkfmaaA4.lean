/- The walk of pat's Word: a list of its own, of k bools. -/
import Derived.Test.YtigaboifjhkfmaaA3
namespace Go.Proofs.Ytigaboifjhkfmaa
open Go.RowKit

theorem Try.info4 : (Try.prog.info? 4).map (fun i => (i.zero, i.size, i.bytes)) = some (some (.bool false), 1, 1) := by kernel_rfl

/-- A word, as cells. -/
def wordV (m k : Int) (n : Nat) : List Value := (List.range n).map fun (t : Nat) => Value.bool (adB m k t)

theorem wordV_cells {m : Int} {k : Nat} {w1 : World} (k6 : k ≤ 6) : ∀ j u, (wordV m k k)[j]? = some u →
    (w1.alloc (Obj.cells #[Value.bool (bw m (k : Int) k 0), Value.bool (bw m (k : Int) k 1), Value.bool (bw m (k : Int) k 2), Value.bool (bw m (k : Int) k 3), Value.bool (bw m (k : Int) k 4), Value.bool (bw m (k : Int) k 5)] 33)).cell? ((⟨w1.heap.size, 0, none⟩ : Addr).add j) = some u := by
  intro j u h
  unfold wordV at h
  rw [List.getElem?_map] at h
  by_cases hj : j < k
  · rw [List.getElem?_range hj] at h
    simp only [Option.map_some, Option.some.injEq] at h
    have e : ∀ t, t < k → bw m (k : Int) k t = adB m k t := fun t ht => by simp [bw, ht]
    subst h
    have hj6 : j < 6 := by omega
    rw [← e j hj]
    match j, hj6 with
    | 0, _ => simp [Addr.add]
    | 1, _ => simp [Addr.add]
    | 2, _ => simp [Addr.add]
    | 3, _ => simp [Addr.add]
    | 4, _ => simp [Addr.add]
    | 5, _ => simp [Addr.add]
  · rw [List.getElem?_eq_none (by simp; omega)] at h
    simp at h

theorem wordV_len (m k : Int) (n : Nat) : (wordV m k n).length = n := by simp [wordV]
theorem wordV_one (m k : Int) (n : Nat) : ∀ u ∈ wordV m k n, u.oneCell' = true := by
  intro u hu
  unfold wordV at hu
  obtain ⟨t, _, rfl⟩ := List.mem_map.1 hu
  rfl

set_option maxHeartbeats 1000000 in
set_option maxRecDepth 100000 in
theorem word_in (m : Int) (k : Nat) (w : World) (m0 : 1 ≤ m) (mk : m ≤ k) (k6 : (k : Int) ≤ 6) :
    Calls Try.prog 12 #[.int .i64 m, .int .i64 k] w fun e w' => ∃ v, e = .returned v ∧ w'.ownsRow w.heap.size 4 1 v k (wordV m k k) ∧ Below w.heap.size w w' := by
  have H1 : Hid (mayB m k = true) := mayB_mk m0 mk k6
  obtain ⟨i0, hi, hz0, hz1, hz2⟩ := info_parts Try.info4
  go_enter Try.func12, Try.ntmps12
  go_wp2_with fail
  refine (may_any _ _ _).mono ?_
  rintro e w2 ⟨rfl, rfl⟩
  rw [H1.out]
  go_wp2_with fail
  refine (wordOf_in m k _ m0 mk k6).mono ?_
  rintro e w1 ⟨rfl, hb1⟩
  have s1 := hb1.size
  go_wp2_with (first
    | (at_builtin; refine wpList_append_own _ rfl _ _ 24 rfl w2.heap.size 4 i0 (.bool false) 1 1 Try.underlying24 hi hz0 hz1 hz2 rfl (by decide) _ _ _ rfl (World.ownsRow_nil _ _ _ _) ⟨w1.heap.size, 0, none⟩ k 6 (wordV m k k) rfl (by rw [wordV_len]; omega) (wordV_cells (by omega)) (wordV_one _ _ _) (by unfold maxLen; omega) (by omega) (by simp; omega) ?_; intro v' w3 hown hgrow _; simp only [Nat.zero_add, List.nil_append] at hown))
  go_ret
  exact ⟨_, rfl, hown, (hb1.alloc s1 _).grown hgrow (by simp; omega) (by intro k hk; cases hk)⟩

set_option maxHeartbeats 1000000 in
set_option maxRecDepth 100000 in
theorem word_no (m k : Int) (w : World) (h : mayB m k = false) :
    Calls Try.prog 12 #[.int .i64 m, .int .i64 k] w fun e w' => e = .returned (.slice none 0 0) ∧ w' = w := by
  have H1 : Hid (mayB m k = false) := h
  clear h
  go_enter Try.func12, Try.ntmps12
  go_wp2_with fail
  refine (may_any _ _ _).mono ?_
  rintro e w2 ⟨rfl, rfl⟩
  rw [H1.out]
  go_wp2
  go_ret
  exact ⟨rfl, rfl⟩
end Go.Proofs.Ytigaboifjhkfmaa
