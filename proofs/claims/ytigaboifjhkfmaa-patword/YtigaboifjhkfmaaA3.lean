/- The walk of pat's wordOf: a window's word, as an array. -/
import Derived.Test.YtigaboifjhkfmaaA2
import Derived.Test.YtigaboifjhkfmaaM1
namespace Go.Proofs.Ytigaboifjhkfmaa
open Go.RowKit

/-- A word's place t when the first j jobs have been gone through. -/
def bw (m k : Int) (j t : Nat) : Bool := decide (t < j) && adB m k t

theorem bw_step {m k : Int} {B j : Nat} {w1 w3 : World} (hb : Below w1.heap.size w1 w3) (hB : B < w1.heap.size) (hj : j < 6)
    (h : ∀ t, t < 6 → w1.cell? ⟨B, t, none⟩ = some (.bool (bw m k j t))) :
    ∀ t, t < 6 → (w3.setCell ⟨B, j, none⟩ (.bool (adB m k j))).cell? ⟨B, t, none⟩ = some (.bool (bw m k (j + 1) t)) := by
  intro t ht
  have h3 : ∀ t, t < 6 → w3.cell? ⟨B, t, none⟩ = some (.bool (bw m k j t)) := fun t ht => (hb.cell (p := ⟨B, t, none⟩) hB).trans (h t ht)
  by_cases e : t = j
  · subst e
    rw [World.cell?_setCell_same _ _ _ (h3 t ht)]
    simp [bw]
  · rw [World.cell?_setCell_other _ _ _ _ (fun h => e (congrArg Addr.off h).symm), h3 t ht]
    have : decide (t < j) = decide (t < j + 1) := by
      by_cases c : t < j
      · simp [c]; omega
      · simp [c]; omega
    unfold bw; rw [this]

theorem fr_step {B j : Nat} {u : Value} {w1 w3 : World} (hb : Below w1.heap.size w1 w3) (hB : B < w1.heap.size) 
    (h : ∀ t, w1.frozen? ⟨B, t, none⟩ = false) : ∀ t, (w3.setCell ⟨B, j, none⟩ u).frozen? ⟨B, t, none⟩ = false := by
  intro t
  have := (hb.frozen (p := ⟨B, t, none⟩) hB).trans (h t)
  simpa using this

set_option maxHeartbeats 1000000 in
set_option maxRecDepth 100000 in
theorem wordOf_in (m : Int) (k : Nat) (w : World) (m0 : 1 ≤ m) (mk : m ≤ k) (k6 : (k : Int) ≤ 6) :
    Calls Try.prog 22 #[.int .i64 m, .int .i64 k] w fun e w' => e = .returned (.agg #[.bool (bw m k k 0), .bool (bw m k k 1), .bool (bw m k k 2), .bool (bw m k k 3), .bool (bw m k k 4), .bool (bw m k k 5)]) ∧ Below w.heap.size w w' := by
  go_enter Try.func22, Try.ntmps22
  go_wp2_with fail
  go_loopw [8] (fun i wr => ∃ (j : Nat), (j : Int) ≤ k ∧ i = .int .i64 j ∧ Below w.heap.size w wr ∧ w.heap.size + 2 ≤ wr.heap.size ∧ (∀ t, t < 6 → wr.cell? ⟨w.heap.size + 1, t, none⟩ = some (.bool (bw m k j t))) ∧ (∀ t, wr.frozen? ⟨w.heap.size + 1, t, none⟩ = false) ∧ (∀ t, t < 6 → wr.cell? ⟨w.heap.size, t, none⟩ = some (.bool false)) ∧ (∀ t, wr.frozen? ⟨w.heap.size, t, none⟩ = false)) (fun i _ => ((k : Int) - intOf i).toNat)
  case atStart =>
    refine ⟨0, by simp, rfl, by repeat (first | exact Below.refl _ _ | refine Below.alloc ?_ (by simp) _), by simp, ?_, ?_, ?_, ?_⟩
    · intro t ht
      match t, ht with
      | 0, _ => simp [bw]
      | 1, _ => simp [bw]
      | 2, _ => simp [bw]
      | 3, _ => simp [bw]
      | 4, _ => simp [bw]
      | 5, _ => simp [bw]
    · intro t; simp
    · intro t ht
      match t, ht with
      | 0, _ => simp
      | 1, _ => simp
      | 2, _ => simp
      | 3, _ => simp
      | 4, _ => simp
      | 5, _ => simp
    · intro t; simp
  case round =>
    obtain ⟨j, hj, rfl, hbw, hsz, hc, hf, hc', hf'⟩ := hrel
    by_cases hlt : (j : Int) < k
    · have hj6 : j < 6 := by omega
      go_wp2_with fail
      refine (adds_in m k j _ m0 mk k6 (by omega) (by omega)).mono ?_
      rintro e w3 ⟨rfl, hb3⟩
      have hcj : w3.cell? ⟨w.heap.size + 1, j, none⟩ = some (.bool (bw m k j j)) := (hb3.cell (p := ⟨w.heap.size + 1, j, none⟩) (by simp; omega)).trans (hc j hj6)
      have hfj : w3.frozen? ⟨w.heap.size + 1, j, none⟩ = false := (hb3.frozen (p := ⟨w.heap.size + 1, j, none⟩) (by simp; omega)).trans (hf j)
      go_wp2_with fail
      go_roundw
      case rel =>
        have s3 := hb3.size
        exact ⟨j + 1, by omega, by go_num, (hbw.trans (hb3.mono (by omega))).setCell (by simp) _, by simp; omega, bw_step hb3 (by omega) hj6 hc, fr_step hb3 (by omega) hf, fun t ht => by rw [World.cell?_setCell_other _ _ _ _ (fun h => by have := congrArg Addr.block h; simp at this)]; exact (hb3.cell (p := ⟨w.heap.size, t, none⟩) (by simp; omega)).trans (hc' t ht), fun t => by have := (hb3.frozen (p := ⟨w.heap.size, t, none⟩) (by simp; omega)).trans (hf' t); simpa using this⟩
      case measure => simp [intOf]; omega
    · have hjk : j = k := by omega
      subst hjk
      have a0 := hc 0 (by omega)
      have a1 := hc 1 (by omega)
      have a2 := hc 2 (by omega)
      have a3 := hc 3 (by omega)
      have a4 := hc 4 (by omega)
      have a5 := hc 5 (by omega)
      have b0 := hc' 0 (by omega)
      have b1 := hc' 1 (by omega)
      have b2 := hc' 2 (by omega)
      have b3 := hc' 3 (by omega)
      have b4 := hc' 4 (by omega)
      have b5 := hc' 5 (by omega)
      have g0 := hf' 0
      have g1 := hf' 1
      have g2 := hf' 2
      have g3 := hf' 3
      have g4 := hf' 4
      have g5 := hf' 5
      clear hc hc' hf hf'
      go_wp2_with fail
      refine bodyPost_ret (v := .agg #[.bool (bw m j j 0), .bool (bw m j j 1), .bool (bw m j j 2), .bool (bw m j j 3), .bool (bw m j j 4), .bool (bw m j j 5)]) ?_ rfl ⟨rfl, ?_⟩
      · simp [results, Try.results22, go_sem, b0, b1, b2, b3, b4, b5]
      · exact (((((hbw.setCell (by simp) _).setCell (by simp) _).setCell (by simp) _).setCell (by simp) _).setCell (by simp) _).setCell (by simp) _
end Go.Proofs.Ytigaboifjhkfmaa
