/- Walks of the library's heap: down and up. -/
import Derived.Test.YtjaaabliefcgaaaH4
namespace Go.Proofs.Ytjaaabliefcgaaa
open Go.RowKit

theorem less_at (xs : List (Int × Int)) (v : Value) (i j : Nat) (I J : Int) (w : World) (h : Its w v xs) (eI : I = i) (eJ : J = j) (hi : i < xs.length) (hj : j < xs.length) (hx : xs.length ≤ 1000) :
    Calls Try.prog 70 #[v, .int .i64 I, .int .i64 J] w fun e w' => e = .returned (.bool (ahd (atI xs i) (atI xs j))) ∧ Below w.heap.size w w' := by
  subst eI eJ; exact less_any xs v i j w h hi hj hx
theorem swap_at (B p cap i j : Nat) (I J : Int) (n : Nat) (a : Option Addr) (xs : List (Int × Int)) (w : World) (h : Hp B w p a cap xs) (eI : I = i) (eJ : J = j) (hn : xs.length = n) (hi : i < n) (hj : j < n) (hx : n ≤ 1000) :
    Calls Try.prog 72 #[.slice a n cap, .int .i64 I, .int .i64 J] w fun e w' => e = .returned (.tuple #[]) ∧ Hp B w' p a cap (swp xs i j) ∧ Kept p a w w' := by
  subst eI eJ hn; exact swap_any B p cap i j a xs w h hi hj hx

/-- The heap's variable, as container/heap is handed it. -/
def hpV (p : Nat) : Value := .iface 62 (.pointer (some ⟨p, 0, none⟩))
/-- What down comes to. -/
def DownE (B p cap A i0 n : Nat) (a : Option Addr) (xs : List (Int × Int)) (w : World) (e : Ending) (w' : World) : Prop :=
  ∃ b ys, e = .returned (.bool b) ∧ Hp B w' p a cap ys ∧ dd A i0 n xs ys b ∧ Kept p a w w'
/-- What holds in a round of down. -/
def DnR (B p cap A i0 n : Nat) (a : Option Addr) (xs : List (Int × Int)) (w wr : World) (j : Nat) (ys : List (Int × Int)) : Prop :=
  j ≤ n ∧ i0 ≤ j ∧ Hp B wr p a cap ys ∧ dn A i0 n ys j ∧ ys.Perm xs ∧ (∀ k, n ≤ k → atI ys k = atI xs k) ∧ (j = i0 → ys = xs) ∧ Kept p a w wr

theorem kid2 {d j : Nat} {ys : List (Int × Int)} {x : Int × Int} (hd : (d - 1) / 2 = j) (h1 : ile x (atI ys (2 * j + 1))) (h2 : ile x (atI ys (2 * j + 2))) (d0 : 0 < d := by assumption) : ahd (atI ys d) x = false := by
  rcases (show d = 2 * j + 1 ∨ d = 2 * j + 2 by omega) with rfl | rfl
  · exact h1
  · exact h2
theorem DnR.stop {B p cap A i0 n : Nat} {a : Option Addr} {xs : List (Int × Int)} {w wr w2 : World} {j : Nat} {ys : List (Int × Int)} (h : DnR B p cap A i0 n a xs w wr j ys) (hb : Below wr.heap.size wr w2)
    (hs : ∀ d, 0 < d → d < n → (d - 1) / 2 = j → ahd (atI ys d) (atI ys j) = false) : DownE B p cap A i0 n a xs w (.returned (.bool (decide (i0 < j)))) w2 := by
  obtain ⟨h1, h2, h3, h4, h5, h6, h7, h8⟩ := h
  exact ⟨_, ys, rfl, h3.later hb, dn_stop h4 h5 h6 h7 h2 hs, h8.trans (Kept.of hb)⟩
theorem DnR.step {B p cap A i0 n : Nat} {a : Option Addr} {xs : List (Int × Int)} {w wr w2 w3 : World} {j c : Nat} {ys : List (Int × Int)} (h : DnR B p cap A i0 n a xs w wr j ys) (hb : Below wr.heap.size wr w2)
    (hn : n ≤ xs.length) (hA : A ≤ i0) (hc : (c - 1) / 2 = j) (c0 : 0 < c) (cn : c < n) (hx : ahd (atI ys c) (atI ys j) = true) (hs : ∀ d, 0 < d → d < n → (d - 1) / 2 = j → ahd (atI ys d) (atI ys c) = false)
    (hp : Hp B w3 p a cap (swp ys j c)) (hk : Kept p a w2 w3) : DnR B p cap A i0 n a xs w w3 c (swp ys j c) := by
  obtain ⟨h1, h2, h3, h4, h5, h6, h7, h8⟩ := h
  have hl := h5.length_eq
  refine ⟨by omega, by omega, hp, dn_step h4 (by omega) hc c0 cn (by omega) h2 hx hs, (swp_perm (by omega) (by omega)).trans h5, fun k hk => ?_, fun e => by omega, (h8.trans (Kept.of hb)).trans hk⟩
  rw [swp_at (by omega) (by omega), if_neg (by omega), if_neg (by omega)]; exact h6 k hk

set_option maxHeartbeats 2000000 in
set_option maxRecDepth 100000 in
theorem down_any (B p cap A i0 n : Nat) (a : Option Addr) (xs : List (Int × Int)) (w : World) (h : Hp B w p a cap xs) (hx : xs.length ≤ 1000) (hn : n ≤ xs.length) (hi : i0 ≤ n) (hd : dn A i0 n xs i0) (hA : A ≤ i0) :
    Calls Try.prog 53 #[hpV p, .int .i64 i0, .int .i64 n] w (DownE B p cap A i0 n a xs w) := by
  unfold hpV
  go_enter Try.func53, Try.ntmps53
  go_wp2_with fail
  go_loopw [7] (fun i wr => ∃ (j : Nat) (ys : List (Int × Int)), i = .int .i64 j ∧ DnR B p cap A i0 n a xs w wr j ys) (fun i _ => ((n : Int) - intOf i).toNat)
  case atStart => exact ⟨i0, xs, rfl, hi, by omega, h, hd, List.Perm.refl _, fun _ _ => rfl, fun _ => rfl, Kept.refl _ _ _⟩
  case round =>
    obtain ⟨j, ys, rfl, hR⟩ := hrel
    have HR : Hid (DnR B p cap A i0 n a xs w wr j ys) := hR
    obtain ⟨hjn, hij, hh, _, hper, _, _, _⟩ := hR
    have hl := hper.length_eq
    have hits := hh.its
    have hc := hh.cell
    clear hh hper h hd
    rw [hl] at hc hits
    have HL : Hid (ys.length = xs.length) := hl
    have hmL : ∀ w, w.cell? ⟨p, 0, none⟩ = some (.slice a xs.length cap) → (method 195 62 (.pointer (some ⟨p, 0, none⟩)) "Less").run Try.prog w = .ok (70, .slice a xs.length cap) w := fun w hc => method_less hc
    have hmS : ∀ w, w.cell? ⟨p, 0, none⟩ = some (.slice a xs.length cap) → (method 195 62 (.pointer (some ⟨p, 0, none⟩)) "Swap").run Try.prog w = .ok (72, .slice a xs.length cap) w := fun w hc => method_swap hc
    have hless := fun (w : World) (u v : Nat) (U V : Int) hU hV (hu : u < xs.length) (hv : v < xs.length) hI => less_at ys (.slice a xs.length cap) u v U V w hI hU hV (by rw [HL.out]; exact hu) (by rw [HL.out]; exact hv) (by rw [HL.out]; exact hx)
    have hswap := fun (w : World) (u v : Nat) (U V : Int) hU hV (hu : u < xs.length) (hv : v < xs.length) hI => swap_at B p cap u v U V xs.length a ys w hI hU hV HL.out hu hv hx
    clear hl
    by_cases c1 : 2 * (j : Int) + 1 < n
    · have c1' : decide (2 * (j : Int) + 1 ≥ n) = false := decide_eq_false (by omega)
      by_cases c2 : 2 * (j : Int) + 1 + 1 < n
      · have c2' : decide (2 * (j : Int) + 1 + 1 < n) = true := decide_eq_true (by omega)
        go_wp2_with fail
        refine (hless _ (2 * j + 2) (2 * j + 1) _ _ (by omega) (by omega) (by omega) (by omega) hits).mono ?_
        rintro e w2 ⟨rfl, hb2⟩
        have hc2 := cell_later hb2 hc
        generalize hf : ahd (atI ys (2 * j + 2)) (atI ys (2 * j + 1)) = f
        have HF : Hid (ahd (atI ys (2 * j + 2)) (atI ys (2 * j + 1)) = f) := hf
        clear hf
        cases f
        · go_wp2_with fail
          refine (hless _ (2 * j + 1) j _ _ (by omega) (by omega) (by omega) (by omega) (hits.later hb2)).mono ?_
          rintro e w3 ⟨rfl, hb3⟩
          have b3 : Hid (Below wr.heap.size wr w3) := hb2.trans (hb3.mono hb2.size)
          have hc3 := cell_later b3.out hc
          generalize hg : ahd (atI ys (2 * j + 1)) (atI ys j) = g
          have HG : Hid (ahd (atI ys (2 * j + 1)) (atI ys j) = g) := hg
          clear hg
          cases g
          · go_wp2_with fail
            go_ret
            exact HR.out.stop b3.out (fun d d0 d1 d2 => by exact kid2 d2 HG.out (ile_trans HG.out HF.out))
          · go_wp2_with fail
            refine (hswap _ j (2 * j + 1) _ _ (by omega) (by omega) (by omega) (by omega) (HR.out.2.2.1.later b3.out)).mono ?_
            rintro e w4 ⟨rfl, hp4, hk4⟩
            have HP : Hid (Hp B w4 p a cap (swp ys j (2 * j + 1)) ∧ Kept p a w3 w4) := ⟨hp4, hk4⟩
            clear hp4 hk4
            go_wp2_with fail
            go_roundw
            case rel => exact ⟨2 * j + 1, swp ys j (2 * j + 1), by go_num, HR.out.step b3.out hn hA (by omega) (by omega) (by omega) HG.out (fun d d0 d1 d2 => by exact kid2 d2 (ile_refl _) HF.out) HP.out.1 HP.out.2⟩
            case measure => simp [intOf]; omega
        · go_wp2_with fail
          refine (hless _ (2 * j + 2) j _ _ (by omega) (by omega) (by omega) (by omega) (hits.later hb2)).mono ?_
          rintro e w3 ⟨rfl, hb3⟩
          have b3 : Hid (Below wr.heap.size wr w3) := hb2.trans (hb3.mono hb2.size)
          have hc3 := cell_later b3.out hc
          generalize hg : ahd (atI ys (2 * j + 2)) (atI ys j) = g
          have HG : Hid (ahd (atI ys (2 * j + 2)) (atI ys j) = g) := hg
          clear hg
          cases g
          · go_wp2_with fail
            go_ret
            exact HR.out.stop b3.out (fun d d0 d1 d2 => by exact kid2 d2 (ile_trans HG.out (ile_of HF.out)) HG.out)
          · go_wp2_with fail
            refine (hswap _ j (2 * j + 2) _ _ (by omega) (by omega) (by omega) (by omega) (HR.out.2.2.1.later b3.out)).mono ?_
            rintro e w4 ⟨rfl, hp4, hk4⟩
            have HP : Hid (Hp B w4 p a cap (swp ys j (2 * j + 2)) ∧ Kept p a w3 w4) := ⟨hp4, hk4⟩
            clear hp4 hk4
            go_wp2_with fail
            go_roundw
            case rel => exact ⟨2 * j + 2, swp ys j (2 * j + 2), by go_num, HR.out.step b3.out hn hA (by omega) (by omega) (by omega) HG.out (fun d d0 d1 d2 => by exact kid2 d2 (ile_of HF.out) (ile_refl _)) HP.out.1 HP.out.2⟩
            case measure => simp [intOf]; omega
      · have c2' : decide (2 * (j : Int) + 1 + 1 < n) = false := decide_eq_false (by omega)
        go_wp2_with fail
        refine (hless _ (2 * j + 1) j _ _ (by omega) (by omega) (by omega) (by omega) hits).mono ?_
        rintro e w3 ⟨rfl, hb3⟩
        have b3 : Hid (Below wr.heap.size wr w3) := hb3
        have hc3 := cell_later b3.out hc
        generalize hg : ahd (atI ys (2 * j + 1)) (atI ys j) = g
        have HG : Hid (ahd (atI ys (2 * j + 1)) (atI ys j) = g) := hg
        clear hg
        cases g
        · go_wp2_with fail
          go_ret
          exact HR.out.stop b3.out (fun d d0 d1 d2 => by rw [show d = 2 * j + 1 by omega]; exact HG.out)
        · go_wp2_with fail
          refine (hswap _ j (2 * j + 1) _ _ (by omega) (by omega) (by omega) (by omega) (HR.out.2.2.1.later b3.out)).mono ?_
          rintro e w4 ⟨rfl, hp4, hk4⟩
          have HP : Hid (Hp B w4 p a cap (swp ys j (2 * j + 1)) ∧ Kept p a w3 w4) := ⟨hp4, hk4⟩
          clear hp4 hk4
          go_wp2_with fail
          go_roundw
          case rel => exact ⟨2 * j + 1, swp ys j (2 * j + 1), by go_num, HR.out.step b3.out hn hA (by omega) (by omega) (by omega) HG.out (fun d d0 d1 d2 => by rw [show d = 2 * j + 1 by omega]; exact ile_refl _) HP.out.1 HP.out.2⟩
          case measure => simp [intOf]; omega
    · have c1' : decide (2 * (j : Int) + 1 ≥ n) = true := decide_eq_true (by omega)
      go_wp2_with fail
      go_ret
      exact HR.out.stop (Below.refl _ _) (fun d d0 d1 d2 => by omega)
end Go.Proofs.Ytjaaabliefcgaaa
