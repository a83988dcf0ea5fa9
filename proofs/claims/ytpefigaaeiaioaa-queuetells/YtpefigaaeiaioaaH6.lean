/- Walks of the library's heap: up. -/
import Derived.Test.YtpefigaaeiaioaaH5
namespace Go.Proofs.Ytpefigaaeiaioaa
open Go.RowKit

/-- What up comes to. -/
def UpE (B p cap n : Nat) (a : Option Addr) (xs : List (Int × Int)) (w : World) (e : Ending) (w' : World) : Prop :=
  ∃ ys, e = .returned (.tuple #[]) ∧ Hp B w' p a cap ys ∧ ys.Perm xs ∧ heapN ys n ∧ (∀ k, n ≤ k → atI ys k = atI xs k) ∧ Kept p a w w'
def UpR (B p cap n : Nat) (a : Option Addr) (xs : List (Int × Int)) (w wr : World) (j : Nat) (ys : List (Int × Int)) : Prop :=
  j < n ∧ Hp B wr p a cap ys ∧ upI n ys j ∧ ys.Perm xs ∧ (∀ k, n ≤ k → atI ys k = atI xs k) ∧ Kept p a w wr
theorem UpR.stop {B p cap n : Nat} {a : Option Addr} {xs : List (Int × Int)} {w wr w2 : World} {j : Nat} {ys : List (Int × Int)} (h : UpR B p cap n a xs w wr j ys) (hb : Below wr.heap.size wr w2)
    (hs : j = 0 ∨ okE ys j) : UpE B p cap n a xs w (.returned (.tuple #[])) w2 := by
  obtain ⟨h1, h2, h3, h4, h5, h6⟩ := h
  exact ⟨ys, rfl, h2.later hb, h4, up_stop h3 hs, h5, h6.trans (Kept.of hb)⟩
theorem UpR.step {B p cap n : Nat} {a : Option Addr} {xs : List (Int × Int)} {w wr w2 w3 : World} {i j : Nat} {ys : List (Int × Int)} (h : UpR B p cap n a xs w wr j ys) (hb : Below wr.heap.size wr w2)
    (hn : n ≤ xs.length) (hi : (j - 1) / 2 = i) (j0 : 0 < j) (hx : ahd (atI ys j) (atI ys i) = true)
    (hp : Hp B w3 p a cap (swp ys i j)) (hk : Kept p a w2 w3) : UpR B p cap n a xs w w3 i (swp ys i j) := by
  subst hi
  obtain ⟨h1, h2, h3, h4, h5, h6⟩ := h
  have hl := h4.length_eq
  refine ⟨by omega, hp, up_step h3 (by omega) j0 h1 hx, (swp_perm (by omega) (by omega)).trans h4, fun k hk => ?_, (h6.trans (Kept.of hb)).trans hk⟩
  rw [swp_at (by omega) (by omega), if_neg (by omega), if_neg (by omega)]; exact h5 k hk

set_option maxHeartbeats 2000000 in
set_option maxRecDepth 100000 in
theorem up_any (B p cap j0 n : Nat) (a : Option Addr) (xs : List (Int × Int)) (w : World) (h : Hp B w p a cap xs) (hx : xs.length ≤ 1000) (hn : n ≤ xs.length) (hj : j0 < n) (hu : upI n xs j0) :
    Calls Try.prog 42 #[hpV p, .int .i64 j0] w (UpE B p cap n a xs w) := by
  unfold hpV
  go_enter Try.func42, Try.ntmps42
  go_wp2_with fail
  go_loopw [1] (fun i wr => ∃ (j : Nat) (ys : List (Int × Int)), i = .int .i64 j ∧ UpR B p cap n a xs w wr j ys) (fun i _ => (intOf i).toNat)
  case atStart => exact ⟨j0, xs, rfl, hj, h, hu, List.Perm.refl _, fun _ _ => rfl, Kept.refl _ _ _⟩
  case round =>
    obtain ⟨j, ys, rfl, hR⟩ := hrel
    have HR : Hid (UpR B p cap n a xs w wr j ys) := hR
    obtain ⟨hjn, hh, _, hper, _, _⟩ := hR
    have hl := hper.length_eq
    have hits := hh.its
    have hc := hh.cell
    clear hh hper h hu
    rw [hl] at hc hits
    have HL : Hid (ys.length = xs.length) := hl
    have hmL : ∀ w, w.cell? ⟨p, 0, none⟩ = some (.slice a xs.length cap) → (method 182 43 (.pointer (some ⟨p, 0, none⟩)) "Less").run Try.prog w = .ok (39, .slice a xs.length cap) w := fun w hc => method_less hc
    have hmS : ∀ w, w.cell? ⟨p, 0, none⟩ = some (.slice a xs.length cap) → (method 182 43 (.pointer (some ⟨p, 0, none⟩)) "Swap").run Try.prog w = .ok (61, .slice a xs.length cap) w := fun w hc => method_swap hc
    have hless := fun (w : World) (u v : Nat) (U V : Int) hU hV (hu : u < xs.length) (hv : v < xs.length) hI => less_at ys (.slice a xs.length cap) u v U V w hI hU hV (by rw [HL.out]; exact hu) (by rw [HL.out]; exact hv) (by rw [HL.out]; exact hx)
    have hswap := fun (w : World) (u v : Nat) (U V : Int) hU hV (hu : u < xs.length) (hv : v < xs.length) hI => swap_at B p cap u v U V xs.length a ys w hI hU hV HL.out hu hv hx
    clear hl
    rcases Nat.eq_zero_or_pos j with rfl | hj0
    · go_wp2_with fail
      go_end0
      exact HR.out.stop (Below.refl _ _) (Or.inl rfl)
    · obtain ⟨i, hi⟩ : ∃ i, (j - 1) / 2 = i := ⟨_, rfl⟩
      have hq : ((j : Int) - 1) / 2 = (i : Int) := by omega
      have HI : Hid ((j - 1) / 2 = i) := hi
      have hij : i < j := by omega
      clear hi
      go_wp2_with fail
      refine (hless _ j i _ _ rfl rfl (by omega) (by omega) hits).mono ?_
      rintro e w3 ⟨rfl, hb3⟩
      have hc3 := cell_later hb3 hc
      generalize hg : ahd (atI ys j) (atI ys i) = g
      have HG : Hid (ahd (atI ys j) (atI ys i) = g) := hg
      clear hg
      cases g
      · go_wp2_with fail
        go_end0
        exact HR.out.stop hb3 (Or.inr (by unfold okE; rw [HI.out]; exact HG.out))
      · go_wp2_with fail
        refine (hswap _ i j _ _ (by omega) (by omega) (by omega) (by omega) (HR.out.2.1.later hb3)).mono ?_
        rintro e w4 ⟨rfl, hp4, hk4⟩
        have HP : Hid (Hp B w4 p a cap (swp ys i j) ∧ Kept p a w3 w4) := ⟨hp4, hk4⟩
        clear hp4 hk4
        go_wp2_with fail
        go_roundw
        case rel => exact ⟨i, swp ys i j, by go_num, HR.out.step hb3 hn HI.out hj0 HG.out HP.out.1 HP.out.2⟩
        case measure => simp [intOf]; omega

theorem len_any (a : Option Addr) (n c : Nat) (w : World) : Calls Try.prog 29 #[.slice a n c] w fun e w' => e = .returned (.int .i64 n) ∧ w' = w := by
  go_enter Try.func29, Try.ntmps29
  go_wp2
  go_ret
  exact ⟨rfl, rfl⟩
theorem down_at (B p cap A i0 n : Nat) (I M : Int) (a : Option Addr) (xs : List (Int × Int)) (w : World) (h : Hp B w p a cap xs) (eI : I = i0) (eM : M = n) (hx : xs.length ≤ 1000) (hn : n ≤ xs.length) (hi : i0 ≤ n) (hd : dn A i0 n xs i0) (hA : A ≤ i0) :
    Calls Try.prog 44 #[.iface 43 (.pointer (some ⟨p, 0, none⟩)), .int .i64 I, .int .i64 M] w (DownE B p cap A i0 n a xs w) := by
  subst eI eM; exact down_any B p cap A i0 n a xs w h hx hn hi hd hA
theorem up_at (B p cap j0 n : Nat) (J : Int) (a : Option Addr) (xs : List (Int × Int)) (w : World) (h : Hp B w p a cap xs) (eJ : J = j0) (hx : xs.length ≤ 1000) (hn : n ≤ xs.length) (hj : j0 < n) (hu : upI n xs j0) :
    Calls Try.prog 42 #[.iface 43 (.pointer (some ⟨p, 0, none⟩)), .int .i64 J] w (UpE B p cap n a xs w) := by
  subst eJ; exact up_any B p cap j0 n a xs w h hx hn hj hu

end Go.Proofs.Ytpefigaaeiaioaa
