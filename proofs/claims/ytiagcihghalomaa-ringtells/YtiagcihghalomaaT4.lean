/- Walks of the document's own Fine and Far. -/
import Derived.Test.YtiagcihghalomaaT3
namespace Go.Proofs.Ytiagcihghalomaa
open Go.RowKit

theorem gd_drop (zs : List Bool) (s b : Nat) : gd (zs.drop s) b = gd zs (s + b) := by simp [gd, List.getD, List.getElem?_drop]

/-- The first elements of a list. -/
theorem Row.front {w : World} {b o cap n : Nat} {xs : List Bool} (h : Row w (.slice (some ⟨b, o, none⟩) xs.length cap) xs) (hn : n ≤ xs.length) :
    Row w (.slice (some ⟨b, o, none⟩) n cap) (xs.take n) := by
  obtain ⟨a, cap', e, h1, h2, h3⟩ := h
  simp only [Value.slice.injEq, true_and] at e
  obtain ⟨rfl, rfl⟩ := e
  refine ⟨some ⟨b, o, none⟩, cap, by simp; omega, by simp; omega, h2, fun hne => ⟨b, o, rfl, fun i x hi => ?_⟩⟩
  obtain ⟨b', o', e', h4⟩ := h3 (by intro e; subst e; simp at hne)
  simp only [Option.some.injEq, Addr.mk.injEq, and_true] at e'
  obtain ⟨rfl, rfl⟩ := e'
  refine h4 i x ?_
  rw [List.getElem?_take] at hi
  split at hi
  · exact hi
  · simp at hi

theorem front_cnt (zs : List Bool) (k i : Nat) (hk : k ≤ i) (hi : i ≤ zs.length) : lastG (zs.reverse.take i) k (zs.reverse.take i).length = cnt (gd zs) (zs.length - i) k := by
  rw [lastG_eq, List.reverse_take, List.reverse_reverse, List.length_reverse]
  rw [show min k (zs.reverse.take i).length = k by simp; omega]
  refine cnt_congr fun t ht => ?_
  rw [gd_drop, Nat.zero_add]

set_option maxHeartbeats 1000000 in
set_option maxRecDepth 100000 in
theorem refFine_no (N B m k : Int) (w : World) (b0 : 0 ≤ B) (h : mayB m k = false) :
    Calls Try.prog 21 #[.agg #[.int .i64 N, .int .u64 B], .int .i64 m, .int .i64 k] w fun e w' => e = .returned (.bool true) ∧ Below w.heap.size w w' := by
  have H1 : Hid (mayB m k = false) := h
  have hl := ringOf_len N B
  clear h
  go_enter Try.func21, Try.ntmps21
  go_wp2_with fail
  refine (refMay_any _ _ _).mono ?_
  rintro e w0 ⟨rfl, rfl⟩
  rw [H1.out]
  go_wp2_with fail
  refine (refList_any N B _ b0).mono ?_
  rintro e w1 ⟨v, rfl, hown, hb1⟩
  have hrow := Row.own hown (by simp)
  have hb : Below w.heap.size w w1 := ((Below.refl _ _).alloc (by simp) _).trans (hb1.mono (by simp))
  clear hb1 hown
  obtain ⟨a, cap, rfl, r1, r2, _⟩ := hrow
  generalize (ringOf N B).reverse.length = q at *
  unfold maxLen at r2
  go_wp2_with fail
  go_loop [9] (fun i => i = .int .i64 k) (fun _ => 0)
  case atStart => exact rfl
  case round =>
    subst hrel
    by_cases c : k ≤ q
    · go_wp2_with fail
      go_ret
      exact ⟨rfl, hb⟩
    · go_wp2_with fail
      go_ret
      exact ⟨rfl, hb⟩

set_option maxHeartbeats 1000000 in
set_option maxRecDepth 100000 in
theorem refFine_in (N B m : Int) (k : Nat) (w : World) (b0 : 0 ≤ B) (m0 : 1 ≤ m) (mk : m ≤ k) (k6 : (k : Int) ≤ 6) :
    Calls Try.prog 21 #[.agg #[.int .i64 N, .int .u64 B], .int .i64 m, .int .i64 k] w fun e w' => e = .returned (.bool (fineB (ringOf N B) m k)) ∧ Below w.heap.size w w' := by
  have H1 : Hid (mayB m k = true) := mayB_mk m0 mk k6
  have hl := ringOf_len N B
  go_enter Try.func21, Try.ntmps21
  go_wp2_with fail
  refine (refMay_any _ _ _).mono ?_
  rintro e w0 ⟨rfl, rfl⟩
  rw [H1.out]
  go_wp2_with fail
  refine (refList_any N B _ b0).mono ?_
  rintro e w1 ⟨v, rfl, hown, hb1⟩
  generalize hz : ringOf N B = zs at *
  have HZ : Hid (ringOf N B = zs) := hz
  clear hz
  have hrow := Row.own hown (by simp)
  have hb : Below w.heap.size w w1 := ((Below.refl _ _).alloc (by simp) _).trans (hb1.mono (by simp))
  clear hb1 hown
  have hrow' := hrow
  obtain ⟨a, cap, rfl, r1, r2, r3⟩ := hrow'
  unfold maxLen at r2
  rw [List.length_reverse] at r1 ⊢
  go_wp2_with fail
  go_loop [9] (fun i => ∃ (t : Nat), t ≤ 61 ∧ Hid (∀ i', k ≤ i' → i' < k + t → m ≤ (cnt (gd zs) (zs.length - i') k : Int)) ∧ i = .int .i64 (k + t : Nat)) (fun i => (62 + (k : Int) - intOf i).toNat)
  case atStart => exact ⟨0, by omega, fun i' h1 h2 => by omega, by simp⟩
  case round =>
    obtain ⟨t, ht, HI, rfl⟩ := hrel
    by_cases hlt : ((k + t : Nat) : Int) ≤ zs.length
    · obtain ⟨b, o, rfl, _⟩ := r3 (by intro e; have := congrArg List.length e; simp at this; subst this; simp at hlt; omega)
      have hfr := hrow.front (n := k + t) (by simp; omega)
      have HC : Hid (lastG (zs.reverse.take (k + t)) k (zs.reverse.take (k + t)).length = cnt (gd zs) (zs.length - (k + t)) k) := front_cnt zs k (k + t) (by omega) (by omega)
      have hcl := cnt_le (gd zs) (zs.length - (k + t)) k
      clear r3
      go_wp2_with fail
      refine (refCount3_any _ _ _ _ hfr (by simp; omega) (by omega) (by omega)).mono ?_
      rintro e w2 ⟨rfl, rfl⟩
      rw [HC.out]
      by_cases hc : (cnt (gd zs) (zs.length - (k + t)) k : Int) < m
      · have HF : Hid (fineB zs m k = false) := fineB_not (fun h => by have := h (zs.length - (k + t)) (by omega); omega)
        go_wp2_with fail
        go_ret
        exact ⟨ret_b (by rw [HZ.out]; exact HF.out.symm), hb⟩
      · go_wp2_with fail
        go_round
        case rel => exact ⟨t + 1, by omega, fun i' h1 h2 => (by rcases Nat.lt_or_ge i' (k + t) with h | h; exact HI.out i' h1 h; obtain rfl : i' = k + t := (by omega); omega), by go_num⟩
        case measure => simp [intOf]; omega
    · have HF : Hid (fineB zs m k = true) := fineB_yes (fun s hs => by
        have := HI.out (zs.length - s) (by omega) (by omega)
        rwa [show zs.length - (zs.length - s) = s by omega] at this)
      clear r3
      go_wp2_with fail
      go_ret
      exact ⟨ret_b (by rw [HZ.out]; exact HF.out.symm), hb⟩
end Go.Proofs.Ytiagcihghalomaa
