/- Walks of the library's heap: Push, Remove. -/
import Derived.Test.YtpefigaaeiaioaaH7
namespace Go.Proofs.Ytpefigaaeiaioaa
open Go.RowKit
set_option linter.unusedVariables false

/-- What the heap's Push comes to. -/
def PushE (B p : Nat) (xs : List (Int × Int)) (x : Int × Int) (w : World) (e : Ending) (w' : World) : Prop :=
  ∃ a cap ys, e = .returned (.tuple #[]) ∧ Hp B w' p a cap ys ∧ ys.Perm (xs ++ [x]) ∧ heapN ys ys.length ∧ Below B w w'
theorem push_up {n : Nat} {xs : List (Int × Int)} (x : Int × Int) (hl : xs.length = n) (h : heapN xs n) : upI (n + 1) (xs ++ [x]) n := by
  refine ⟨fun c c0 cn cj => ?_, fun c c0 cn cp j0 => by omega⟩
  unfold okE; rw [atI_app1 (by omega), atI_app1 (by omega)]; exact h c c0 (by omega)

set_option maxHeartbeats 2000000 in
set_option maxRecDepth 100000 in
theorem hpush_any (B p cap : Nat) (a : Option Addr) (xs : List (Int × Int)) (x : Int × Int) (w : World) (h : Hp B w p a cap xs) (hx : xs.length ≤ 900) (hh : heapN xs xs.length) (hB : B ≤ w.heap.size) :
    Calls Try.prog 27 #[hpV p, .iface 24 (itV x)] w (PushE B p xs x w) := by
  unfold hpV
  have hmP : ∀ w, (method 182 43 (.pointer (some ⟨p, 0, none⟩)) "Push").run Try.prog w = .ok (63, .pointer (some ⟨p, 0, none⟩)) w := fun w => method_push _ w
  have HH : Hid (Hp B w p a cap xs ∧ heapN xs xs.length) := ⟨h, hh⟩
  clear h hh
  generalize hv : itV x = v
  have HV : Hid (itV x = v) := hv
  clear hv
  go_enter Try.func27, Try.ntmps27
  go_wp2_with fail
  rw [← HV.out]
  refine (push_it B p cap a xs x _ HH.out.1 (by omega) hB).mono ?_
  rintro e w1 ⟨rfl, a', cap', hp1, hk1⟩
  have hc := hp1.cell
  rw [List.length_append] at hc
  simp only [List.length_cons, List.length_nil, Nat.zero_add] at hc
  have hmL : ∀ w, w.cell? ⟨p, 0, none⟩ = some (.slice a' (xs.length + 1) cap') → (method 182 43 (.pointer (some ⟨p, 0, none⟩)) "Len").run Try.prog w = .ok (29, .slice a' (xs.length + 1) cap') w := fun w hc => method_len hc
  have H1 : Hid (Hp B w1 p a' cap' (xs ++ [x]) ∧ Kept p a w w1) := ⟨hp1, hk1⟩
  clear hp1 hk1
  generalize itV x = v
  go_wp2_with fail
  refine (len_any _ _ _ _).mono ?_
  rintro e w2 ⟨rfl, hw⟩
  obtain rfl := hw.symm
  go_wp2_with fail
  refine (up_at B p cap' xs.length (xs.length + 1) _ a' (xs ++ [x]) _ H1.out.1 (by omega) (by simp; omega) (by simp) (by omega) (push_up x rfl HH.out.2)).mono ?_
  rintro e w3 ⟨ys, rfl, hp3, hper, hhp, _, hk3⟩
  have HE : Hid (PushE B p xs x w (.returned (.tuple #[])) w3) := by
    have hl : ys.length = xs.length + 1 := by rw [hper.length_eq]; simp
    have b1 := H1.out.2.below HH.out.1 hB
    exact ⟨a', cap', ys, rfl, hp3, hper, by rw [hl]; exact hhp, b1.trans (hk3.below H1.out.1 (Nat.le_trans hB b1.size))⟩
  clear hp3 hper hhp hk3 H1 HH
  go_wp2_with fail
  go_end0
  exact HE.out

/-- What the heap's Remove comes to. -/
theorem rem_up {i n : Nat} {xs zs : List (Int × Int)} (hd : dd 0 i n zs zs false) (hz : dn 0 i n zs i) : upI n zs i :=
  ⟨fun c c0 cn cj => hd.ok c c0 cn (by omega) (Or.inr cj), fun c c0 cn cp j0 => hz.gr c c0 cn cp j0 (by omega)⟩

set_option maxHeartbeats 2000000 in
set_option maxRecDepth 100000 in
theorem hrem_any (B p cap n i : Nat) (a : Option Addr) (xs : List (Int × Int)) (w : World) (h : Hp B w p a cap xs) (hl : xs.length = n + 1) (hx : n + 1 ≤ 1000) (hh : heapN xs (n + 1)) (hi : i ≤ n) :
    Calls Try.prog 35 #[hpV p, .int .i64 i] w (TakeE B p cap i n a xs w) := by
  unfold hpV
  have hc := h.cell
  rw [hl] at hc
  have hmL : ∀ w, w.cell? ⟨p, 0, none⟩ = some (.slice a (n + 1) cap) → (method 182 43 (.pointer (some ⟨p, 0, none⟩)) "Len").run Try.prog w = .ok (29, .slice a (n + 1) cap) w := fun w hc => method_len hc
  have hmS : ∀ w, w.cell? ⟨p, 0, none⟩ = some (.slice a (n + 1) cap) → (method 182 43 (.pointer (some ⟨p, 0, none⟩)) "Swap").run Try.prog w = .ok (61, .slice a (n + 1) cap) w := fun w hc => method_swap hc
  have hmP : ∀ w, (method 182 43 (.pointer (some ⟨p, 0, none⟩)) "Pop").run Try.prog w = .ok (62, .pointer (some ⟨p, 0, none⟩)) w := fun w => method_pop _ w
  have HH : Hid (Hp B w p a cap xs ∧ heapN xs (n + 1) ∧ xs.length = n + 1) := ⟨h, hh, hl⟩
  clear h hh hl
  by_cases hin : i = n
  · subst hin
    go_enter Try.func35, Try.ntmps35
    go_wp2_with fail
    refine (len_any _ _ _ _).mono ?_
    rintro e w1 ⟨rfl, hw⟩
    obtain rfl := hw.symm
    go_wp2_with fail
    refine (pop_it B p cap i a xs _ HH.out.1 HH.out.2.2 (by rw [HH.out.2.2]; exact hx)).mono ?_
    rintro e w4 ⟨rfl, hp4, hk4⟩
    have HE : Hid (TakeE B p cap i i a xs w (.returned (.iface 24 (itV (atI xs i)))) w4) := by
      obtain ⟨h1, h2, h3⟩ := HH.out
      exact TakeE.of h3 (List.Perm.refl _) (List.Perm.refl _) (fun c c0 cn => h2 c c0 (by omega)) rfl hp4 (Kept.refl _ _ _) hk4
    clear hp4 hk4
    generalize itV (atI xs i) = v at *
    go_wp2_with fail
    go_ret
    exact HE.out
  · have hin' : i < n := by omega
    go_enter Try.func35, Try.ntmps35
    go_wp2_with fail
    refine (len_any _ _ _ _).mono ?_
    rintro e w1 ⟨rfl, hw⟩
    obtain rfl := hw.symm
    go_wp2_with fail
    refine (swap_at B p cap i n _ _ (n + 1) a xs _ HH.out.1 (by omega) (by omega) HH.out.2.2 (by omega) (by omega) hx).mono ?_
    rintro e w2 ⟨rfl, hp2, hk2⟩
    have HK2 : Hid (Kept p a w w2) := hk2
    clear hk2
    go_wp2_with fail
    refine (down_at B p cap 0 i n _ _ a _ _ hp2 (by omega) (by omega) (by rw [swp_len, HH.out.2.2]; exact hx) (by rw [swp_len, HH.out.2.2]; omega) (by omega) (swp_dn HH.out.2.2 hin' HH.out.2.1) (by omega)).mono ?_
    rintro e w3 ⟨b, ys, rfl, hp3, hdd, hk3⟩
    have hl3 : ys.length = n + 1 := by rw [hdd.perm.length_eq, swp_len, HH.out.2.2]
    cases b
    · obtain rfl := hdd.stay rfl
      have hup := up_at B p cap i n _ a (swp xs i n) w3 hp3 rfl (by omega) (by omega) hin' (rem_up (xs := xs) hdd (swp_dn HH.out.2.2 hin' HH.out.2.1))
      have HK3 : Hid (Kept p a w2 w3) := hk3
      clear hp3 hdd hk3 hl3 hp2
      go_wp2_with fail
      refine hup.mono ?_
      rintro e w5 ⟨ys, rfl, hp5, hper, hhp, hsm, hk5⟩
      have hl5 : ys.length = n + 1 := by rw [hper.length_eq, swp_len, HH.out.2.2]
      have hPc := pop_it B p cap n a ys w5 hp5 hl5 (by omega)
      have HD : Hid (ys.Perm (swp xs i n) ∧ heapN ys n ∧ (∀ k, n ≤ k → atI ys k = atI (swp xs i n) k) ∧ Kept p a w3 w5) := ⟨hper, hhp, hsm, hk5⟩
      clear hp5 hper hhp hsm hk5 hl5
      go_wp2_with fail
      refine hPc.mono ?_
      rintro e w4 ⟨rfl, hp4, hk4⟩
      have HE : Hid (TakeE B p cap i n a xs w (.returned (.iface 24 (itV (atI ys n)))) w4) := by
        obtain ⟨h1, h2, h3⟩ := HH.out
        obtain ⟨d1, d2, d3, d4⟩ := HD.out
        refine TakeE.of h3 d1 (swp_perm (by omega) (by omega)) d2 ?_ hp4 ((HK2.out.trans HK3.out).trans d4) hk4
        rw [d3 n (Nat.le_refl _), swp_at (by omega) (by omega), if_pos rfl]
      clear hp4 hk4 hPc
      generalize itV (atI ys n) = v at *
      go_wp2_with fail
      go_ret
      exact HE.out
    · have hPc := pop_it B p cap n a ys w3 hp3 hl3 (by omega)
      have HD : Hid (dd 0 i n (swp xs i n) ys true ∧ Kept p a w2 w3) := ⟨hdd, hk3⟩
      clear hp3 hdd hk3 hl3 hp2
      go_wp2_with fail
      refine hPc.mono ?_
      rintro e w4 ⟨rfl, hp4, hk4⟩
      have HE : Hid (TakeE B p cap i n a xs w (.returned (.iface 24 (itV (atI ys n)))) w4) := by
        obtain ⟨h1, h2, h3⟩ := HH.out
        obtain ⟨d1, d2⟩ := HD.out
        refine TakeE.of h3 d1.perm (swp_perm (by omega) (by omega)) (fun c c0 cn => d1.ok c c0 cn (by omega) (Or.inl rfl)) ?_ hp4 (HK2.out.trans d2) hk4
        rw [d1.same n (Nat.le_refl _), swp_at (by omega) (by omega), if_pos rfl]
      clear hp4 hk4 hPc
      generalize itV (atI ys n) = v at *
      go_wp2_with fail
      go_ret
      exact HE.out
end Go.Proofs.Ytpefigaaeiaioaa
