/- Walks of the library's heap: Init, Pop, Push, Remove. -/
import Derived.Test.YtjaaabliefcgaaaH6
namespace Go.Proofs.Ytjaaabliefcgaaa
open Go.RowKit

/-- What Init comes to. -/
def InitE (B p cap : Nat) (a : Option Addr) (xs : List (Int × Int)) (w : World) (e : Ending) (w' : World) : Prop :=
  ∃ ys, e = .returned (.tuple #[]) ∧ Hp B w' p a cap ys ∧ ys.Perm xs ∧ heapN ys ys.length ∧ Kept p a w w'
def InR (B p cap : Nat) (a : Option Addr) (xs : List (Int × Int)) (w wr : World) (k : Nat) (ys : List (Int × Int)) : Prop :=
  k ≤ xs.length ∧ Hp B wr p a cap ys ∧ ys.Perm xs ∧ (∀ c, 0 < c → c < xs.length → k ≤ (c - 1) / 2 → okE ys c) ∧ Kept p a w wr

set_option maxHeartbeats 2000000 in
set_option maxRecDepth 100000 in
theorem init_any (B p cap : Nat) (a : Option Addr) (xs : List (Int × Int)) (w : World) (h : Hp B w p a cap xs) (hx : xs.length ≤ 1000) :
    Calls Try.prog 51 #[hpV p] w (InitE B p cap a xs w) := by
  unfold hpV
  have hc := h.cell
  have hmL : ∀ w, w.cell? ⟨p, 0, none⟩ = some (.slice a xs.length cap) → (method 195 62 (.pointer (some ⟨p, 0, none⟩)) "Len").run Try.prog w = .ok (47, .slice a xs.length cap) w := fun w hc => method_len hc
  go_enter Try.func51, Try.ntmps51
  go_wp2_with fail
  refine (len_any _ _ _ _).mono ?_
  rintro e w1 ⟨rfl, rfl⟩
  clear hc hmL
  obtain ⟨m, hm⟩ : ∃ m, xs.length / 2 = m := ⟨_, rfl⟩
  have hq : (xs.length : Int) / 2 = (m : Int) := by omega
  have HM : Hid (xs.length / 2 = m) := hm
  have hm2 : m ≤ xs.length := by omega
  clear hm
  go_wp2_with fail
  go_loopw [3] (fun i wr => ∃ (k : Nat) (ys : List (Int × Int)), i = .int .i64 ((k : Int) - 1) ∧ InR B p cap a xs w1 wr k ys) (fun i _ => (intOf i + 1).toNat)
  case atStart => exact ⟨m, xs, rfl, hm2, h, List.Perm.refl _, fun c c0 c1 c2 => by have := HM.out; omega, Kept.refl _ _ _⟩
  case round =>
    clear h
    obtain ⟨k, ys, rfl, hR⟩ := hrel
    obtain ⟨hk, hh, hper, hok, hke⟩ := hR
    have hl := hper.length_eq
    by_cases c1 : (0 : Int) ≤ (k : Int) - 1
    · go_wp2_with fail
      refine (down_at B p cap (k - 1) (k - 1) xs.length _ _ a ys _ hh (by omega) rfl (by omega) (by omega) (by omega) ⟨fun c c0 cn cp cj _ => hok c c0 cn (by omega), fun c c0 cn cp j0 cA => by omega⟩ (Nat.le_refl _)).mono ?_
      rintro e w2 ⟨b, zs, rfl, hz, hdd, hkz⟩
      have HR : Hid (InR B p cap a xs w1 w2 (k - 1) zs) := ⟨by omega, hz, hdd.perm.trans hper, fun c c0 cn cp => hdd.ok c c0 cn cp (Or.inr (by omega)), hke.trans hkz⟩
      clear hz hdd hkz hh hper hok hke hl
      go_wp2_with fail
      go_roundw
      case rel => exact ⟨k - 1, zs, by congr 1; omega, HR.out⟩
      case measure => simp [intOf]; omega
    · have HR : Hid (InitE B p cap a xs w1 (.returned (.tuple #[])) wr) := ⟨ys, rfl, hh, hper, fun c c0 cn => hok c c0 (by omega) (by omega), hke⟩
      clear hh hper hok hke hl
      go_wp2_with fail
      go_end0
      exact HR.out

theorem take_last {ys : List (Int × Int)} {n : Nat} (h : ys.length = n + 1) : (atI ys n :: ys.take n).Perm ys := by
  have e : ys = ys.take n ++ [atI ys n] := by
    conv => lhs; rw [← List.take_length (l := ys), h]
    rw [List.take_add_one, atI_get (by omega)]; rfl
  have p := List.perm_append_comm (l₁ := ys.take n) (l₂ := [atI ys n])
  conv => rhs; rw [e]
  exact p.symm
theorem heap_take {ys : List (Int × Int)} {n : Nat} (h : heapN ys n) : heapN (ys.take n) n := by
  intro c c0 cn
  unfold okE; rw [atI_take cn, atI_take (by omega)]; exact h c c0 cn
/-- What the heap's Pop comes to, where the item at i is taken. -/
def TakeE (B p cap i n : Nat) (a : Option Addr) (xs : List (Int × Int)) (w : World) (e : Ending) (w' : World) : Prop :=
  ∃ ys, e = .returned (.iface 50 (itV (atI xs i))) ∧ Hp B w' p a cap ys ∧ ys.length = n ∧ heapN ys n ∧ (atI xs i :: ys).Perm xs ∧ Kept p a w w'
theorem TakeE.of {B p cap i n : Nat} {a : Option Addr} {xs ys zs : List (Int × Int)} {w w2 w3 : World} (hl : xs.length = n + 1) (pz : ys.Perm zs) (pz2 : zs.Perm xs) (hy : heapN ys n) (hs : atI ys n = atI xs i) (hp : Hp B w3 p a cap (ys.take n)) (hk : Kept p a w w2) (hk2 : Kept p a w2 w3) :
    TakeE B p cap i n a xs w (.returned (.iface 50 (itV (atI ys n)))) w3 := by
  have l1 : ys.length = n + 1 := ((pz.trans pz2).length_eq).trans hl
  refine ⟨ys.take n, by rw [hs], hp, by simp; omega, heap_take hy, ?_, hk.trans hk2⟩
  rw [← hs]; exact (take_last l1).trans (pz.trans pz2)
theorem swp_dn {i n : Nat} {xs : List (Int × Int)} (hl : xs.length = n + 1) (hi : i < n) (h : heapN xs (n + 1)) : dn 0 i n (swp xs i n) i := by
  have e := swp_at (xs := xs) (i := i) (j := n) (by omega) (by omega)
  refine ⟨fun c c0 cn _ cj ci => ?_, fun c c0 cn cp j0 _ => ?_⟩
  · unfold okE; rw [e, e, if_neg (by omega), if_neg (fun h => ci h rfl), if_neg (by omega), if_neg cj]; exact h c c0 (by omega)
  · rw [e, e, if_neg (by omega), if_neg (by omega), if_neg (by omega), if_neg (by omega)]
    have k1 := h c c0 (by omega)
    have k2 := h i j0 (by omega)
    unfold okE at k1 k2; rw [cp] at k1
    exact ile_trans k2 k1
theorem swp_dn0 {xs : List (Int × Int)} (n : Nat) (hl : xs.length = n + 1) (h : heapN xs (n + 1)) : dn 0 0 n (swp xs 0 n) 0 := by
  rcases Nat.eq_zero_or_pos n with rfl | hn
  · exact ⟨fun c c0 cn _ cj ci => by omega, fun c c0 cn cp j0 _ => by omega⟩
  · exact swp_dn hl hn h

set_option maxHeartbeats 2000000 in
set_option maxRecDepth 100000 in
theorem hpop_any (B p cap n : Nat) (a : Option Addr) (xs : List (Int × Int)) (w : World) (h : Hp B w p a cap xs) (hl : xs.length = n + 1) (hx : n + 1 ≤ 1000) (hh : heapN xs (n + 1)) :
    Calls Try.prog 52 #[hpV p] w (TakeE B p cap 0 n a xs w) := by
  unfold hpV
  have hc := h.cell
  rw [hl] at hc
  have hmL : ∀ w, w.cell? ⟨p, 0, none⟩ = some (.slice a (n + 1) cap) → (method 195 62 (.pointer (some ⟨p, 0, none⟩)) "Len").run Try.prog w = .ok (47, .slice a (n + 1) cap) w := fun w hc => method_len hc
  have hmS : ∀ w, w.cell? ⟨p, 0, none⟩ = some (.slice a (n + 1) cap) → (method 195 62 (.pointer (some ⟨p, 0, none⟩)) "Swap").run Try.prog w = .ok (72, .slice a (n + 1) cap) w := fun w hc => method_swap hc
  have hmP : ∀ w, (method 195 62 (.pointer (some ⟨p, 0, none⟩)) "Pop").run Try.prog w = .ok (71, .pointer (some ⟨p, 0, none⟩)) w := fun w => method_pop _ w
  have HH : Hid (Hp B w p a cap xs ∧ heapN xs (n + 1) ∧ xs.length = n + 1) := ⟨h, hh, hl⟩
  clear h hh hl
  go_enter Try.func52, Try.ntmps52
  go_wp2_with fail
  refine (len_any _ _ _ _).mono ?_
  rintro e w1 ⟨rfl, hw⟩
  obtain rfl := hw.symm
  go_wp2_with fail
  refine (swap_at B p cap 0 n _ _ (n + 1) a xs _ HH.out.1 (by omega) (by omega) HH.out.2.2 (by omega) (by omega) hx).mono ?_
  rintro e w2 ⟨rfl, hp2, hk2⟩
  have HK2 : Hid (Kept p a w w2) := hk2
  clear hk2
  go_wp2_with fail
  refine (down_at B p cap 0 0 n _ _ a _ _ hp2 (by omega) (by omega) (by rw [swp_len, HH.out.2.2]; exact hx) (by rw [swp_len, HH.out.2.2]; omega) (by omega) (swp_dn0 n HH.out.2.2 HH.out.2.1) (Nat.le_refl _)).mono ?_
  rintro e w3 ⟨b, ys, rfl, hp3, hdd, hk3⟩
  have hl3 : ys.length = n + 1 := by rw [hdd.perm.length_eq, swp_len, HH.out.2.2]
  have hPc := pop_it B p cap n a ys w3 hp3 hl3 (by omega)
  have HD : Hid (dd 0 0 n (swp xs 0 n) ys b ∧ Kept p a w2 w3) := ⟨hdd, hk3⟩
  clear hp3 hdd hk3 hl3 hp2
  go_wp2_with fail
  refine hPc.mono ?_
  rintro e w4 ⟨rfl, hp4, hk4⟩
  have HE : Hid (TakeE B p cap 0 n a xs w (.returned (.iface 50 (itV (atI ys n)))) w4) := by
    obtain ⟨h1, h2, h3⟩ := HH.out
    obtain ⟨d1, d2⟩ := HD.out
    refine TakeE.of h3 d1.perm (swp_perm (by omega) (by omega)) (fun c c0 cn => d1.ok c c0 cn (by omega) (Or.inr (by omega))) ?_ hp4 (HK2.out.trans d2) hk4
    rw [d1.same n (Nat.le_refl _), swp_at (by omega) (by omega), if_pos rfl]
  clear hp4 hk4 hPc
  go_wp2_with fail
  go_ret
  exact HE.out
end Go.Proofs.Ytjaaabliefcgaaa
