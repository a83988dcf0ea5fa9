/- The law: in another order springs are pressed alike: the walk. -/
import Derived.Test.YtjiockmphbhljaaDoorX12
namespace Go.Proofs.YtjiockmphbhljaaDoor
open Go.RowKit

theorem prs_open {w : World} {v : Value} {n : Nat} {u m e : Nat → Int} {a b : Int} {rb : Bool} (h : Nums w v (prs7 n u m e a b rb)) : ∃ ax cap L, v = .slice ax L cap ∧ L ≤ cap ∧ cap ≤ maxLen ∧ (rb = true → L = n) ∧ (rb = false → L = 0) ∧ (0 < L → ∃ bk o, ax = some ⟨bk, o, none⟩ ∧ ∀ i, i < n → w.cell? ⟨bk, o + i, none⟩ = some (.int .i64 (hv u m e a b i))) := by
  cases rb
  · obtain ⟨ax, cap, rfl, h1, h2, _⟩ := h
    exact ⟨ax, cap, 0, rfl, h1, h2, (fun h => by cases h), fun _ => rfl, fun h => by omega⟩
  · obtain ⟨ax, cap, rfl, h1, h2, h3⟩ := nums_open (g := hv u m e a b) h
    exact ⟨ax, cap, n, rfl, h1, h2, fun _ => rfl, (fun h => by cases h), h3⟩

set_option maxHeartbeats 2000000 in
set_option maxRecDepth 100000 in
theorem law_sturned (n : Nat) (u m e : Nat → Int) (load : Int) (v : Value) (w : World) (h : Sprs w v n u m e) (hsz : n * 24 ≤ 140737488351232) (hL : Lim w) :
    Calls Tryd.prog 7 #[v, .int .i64 load] w fun r w' => r = .returned (.bool true) ∧ Below w.heap.size w w' := by
  obtain ⟨a, b, rb, hF⟩ := frc_exists n u m e load
  have hG := rev7_frc hF
  have HSp : Hid (Sprs w v n u m e) := h
  go_enter Tryd.func7, Tryd.ntmps7
  go_wp2_with fail
  refine (awake7_any _ hL).mono ?_
  rintro r w1 ⟨rfl, hb1⟩
  go_wp2_with fail
  refine (press7_any n u m e load a b rb v _ (h.later hb1) hF (hL.later hb1)).mono ?_
  rintro r w2 ⟨x, rfl, hown, hb2⟩
  have hB2 : Below w.heap.size w w2 := hb1.trans (hb2.mono hb1.size)
  have hs2 := hB2.size
  have HN : Hid (Nums w2 x (prs7 n u m e a b rb)) := (Nums.own hown).1
  obtain ⟨ad, cap, rfl, h1, h2, h0, h3⟩ := h.later hB2
  have HF : Hid (Frc n u m e load a b rb) := hF
  have HG : Hid (Frc n (rev7 n u) (rev7 n m) (rev7 n e) load a b rb) := hG
  clear hown hb1 hb2 h hF hG
  go_wp2_with fail
  go_loopw [8, 9] (fun s8 s9 wr => ∃ r : Nat, r ≤ n ∧ s9 = .int .i64 r ∧ wr.ownsRow w2.heap.size 33 3 s8 (n - r) (flat7 (n - r) (rev7 n u) (rev7 n m) (rev7 n e)) ∧ Below w2.heap.size w2 wr) (fun _ s9 _ => (intOf s9).toNat)
  case atStart => exact ⟨n, by omega, rfl, by rw [Nat.sub_self]; exact ⟨rfl, .inl ⟨rfl, rfl⟩⟩, Below.refl _ _⟩
  case round =>
    obtain ⟨r, hr, rfl, hown, hbw⟩ := hrel
    cases r with
    | zero =>
      rw [Nat.sub_zero] at hown
      have hSb := Sprs.own hown
      have hB3 : Below w.heap.size w wr := hB2.trans (hbw.mono hs2)
      have HN3 : Hid (Nums wr x (prs7 n u m e a b rb)) := HN.out.later hbw
      clear h3 hown hbw HN
      by_cases hn : (n : Int) > 10
      · go_wp2
        go_ret
        exact ⟨rfl, hB3⟩
      · go_wp2_with fail
        refine (press7_any n _ _ _ load a b rb _ _ hSb HG.out (hL.later hB3)).mono ?_
        rintro r w4 ⟨y, rfl, hown4, hb4⟩
        have hB4 : Below w.heap.size w w4 := hB3.trans (hb4.mono hB3.size)
        have hSb4 := hSb.later hb4
        have HN4 : Hid (Nums w4 x (prs7 n u m e a b rb)) := HN3.out.later hb4
        have HM4 : Hid (Nums w4 y (prs7 n (rev7 n u) (rev7 n m) (rev7 n e) a b rb)) := (Nums.own hown4).1
        clear hb4 hB3 hSb HN3 hown4
        go_wp2_with fail
        refine (force7_any n u m e load a b rb _ _ (HSp.out.later hB4) HF.out (hL.later hB4)).mono ?_
        rintro r w5 ⟨rfl, hb5⟩
        have hB5 : Below w.heap.size w w5 := hB4.trans (hb5.mono hB4.size)
        have hSb5 := hSb4.later hb5
        have HN5 : Hid (Nums w5 x (prs7 n u m e a b rb)) := HN4.out.later hb5
        have HM5 : Hid (Nums w5 y (prs7 n (rev7 n u) (rev7 n m) (rev7 n e) a b rb)) := HM4.out.later hb5
        clear hb5 hB4 hSb4 HN4 HM4
        go_wp2_with fail
        refine (force7_any n _ _ _ load a b rb _ _ hSb5 HG.out (hL.later hB5)).mono ?_
        rintro r w6 ⟨rfl, hb6⟩
        have hB6 : Below w.heap.size w w6 := hB5.trans (hb6.mono hB5.size)
        obtain ⟨ax, cx, Lx, rfl, x1, x2, xt, xf, x3⟩ := prs_open (HN5.out.later hb6)
        obtain ⟨ay, cy, Ly, rfl, y1, y2, yt, yf, y3⟩ := prs_open (HM5.out.later hb6)
        obtain ⟨_, cap', he', g1, g2, g0, g3⟩ := HSp.out.later hB6
        simp only [Value.slice.injEq, true_and] at he'
        obtain ⟨rfl, rfl⟩ := he'
        clear hb6 hB5 hSb5 HN5 HM5
        cases rb
        · obtain rfl := xf rfl
          obtain rfl := yf rfl
          clear x3 y3 g3 xt xf yt yf
          go_wp2_with fail
          go_loopw [18] (fun s18 wr => s18 = .int .i64 0 ∧ Below w6.heap.size w6 wr) (fun _ _ => 0)
          case atStart => exact ⟨rfl, Below.refl _ _⟩
          case round =>
            obtain ⟨rfl, hbw⟩ := hrel
            have hB7 : Below w.heap.size w wr := hB6.trans (hbw.mono hB6.size)
            go_wp2
            go_ret
            exact ⟨rfl, hB7⟩
        · obtain rfl := xt rfl
          obtain hy := yt rfl
          subst hy
          clear xt xf yt yf
          go_wp2_with fail
          go_loopw [18] (fun s18 wr => ∃ j : Nat, j ≤ Ly ∧ s18 = .int .i64 j ∧ Below w6.heap.size w6 wr) (fun s18 _ => ((Ly : Int) - intOf s18).toNat)
          case atStart => exact ⟨0, by omega, rfl, Below.refl _ _⟩
          case round =>
            obtain ⟨j, hj, rfl, hbw⟩ := hrel
            by_cases hlt : (j : Int) < Ly
            · obtain ⟨bx, ox, rfl, x4⟩ := x3 (by omega)
              obtain ⟨by', oy, rfl, y4⟩ := y3 (by omega)
              obtain ⟨bk, o, rfl, g4⟩ := g3 (by omega)
              obtain ⟨k0, k1, k2⟩ := g4 j (by omega)
              have cx0 := cell_later hbw (x4 j (by omega))
              have cy0 := cell_later hbw (y4 (Ly - 1 - j) (by omega))
              have ey : hv (rev7 Ly u) (rev7 Ly m) (rev7 Ly e) a b (Ly - 1 - j) = hv u m e a b j := by
                show hv u m e a b (Ly - 1 - (Ly - 1 - j)) = _
                have : Ly - 1 - (Ly - 1 - j) = j := by omega
                rw [this]
              rw [ey] at cy0
              have e0 := cell_later hbw k0
              have e2 := cell_later hbw k2
              have HI := HF.out.2.1 rfl
              have HZ : Hid (e j = 0 → hv u m e a b j = u j) := fun he => hv_stiff he HI.b1
              obtain ⟨t, ht⟩ : ∃ t : Nat, Ly - 1 - j = t := ⟨_, rfl⟩
              rw [ht] at cy0
              have ht3 : IntKind.i64.wrap ((Ly : Int) - 1) = Ly - 1 := by rw [IntKind.wrap_i64]; omega
              have ht4 : t < Ly := by omega
              have ht5 : (Ly : Int) - 1 - j = t := by omega
              clear ht k0 k1 k2 g4 x4 y4 g3 x3 y3 ey HI
              generalize hv u m e a b j = hj' at *
              generalize u j = uj at *
              generalize e j = ej at *
              by_cases he : ej = 0
              · have hu := HZ.out he
                subst hu
                subst he
                go_wp2_with fail
                go_quiet (fail)
                go_wp2_with fail
                go_roundw
                case rel => exact ⟨j + 1, by omega, by go_num, ⟨hbw.os, hbw.tape, hbw.output, hbw.size, hbw.block⟩⟩
                case measure => simp [intOf]; omega
              · have he' : (ej == 0) = false := by simpa using he
                go_wp2_with fail
                go_quiet (fail)
                go_wp2_with fail
                go_roundw
                case rel => exact ⟨j + 1, by omega, by go_num, ⟨hbw.os, hbw.tape, hbw.output, hbw.size, hbw.block⟩⟩
                case measure => simp [intOf]; omega
            · have hB7 : Below w.heap.size w wr := hB6.trans (hbw.mono hB6.size)
              go_wp2
              go_ret
              exact ⟨rfl, hB7⟩
    | succ k =>
      obtain ⟨bk, o, rfl, h4⟩ := h3 (by omega)
      obtain ⟨k0, k1, k2⟩ := h4 k (by omega)
      have e0 := cell_later hbw k0
      have e1 := cell_later hbw k1
      have e2 := cell_later hbw k2
      have hu : rev7 n u (n - (k + 1)) = u k ∧ rev7 n m (n - (k + 1)) = m k ∧ rev7 n e (n - (k + 1)) = e k := by
        have : n - 1 - (n - (k + 1)) = k := by omega
        unfold rev7
        rw [this]
        exact ⟨rfl, rfl, rfl⟩
      have HU : Hid (rev7 n u (n - (k + 1)) = u k ∧ rev7 n m (n - (k + 1)) = m k ∧ rev7 n e (n - (k + 1)) = e k) := hu
      have sw := hbw.size
      have hw1 : IntKind.i64.wrap (((k + 1 : Nat) : Int) - 1) = k := by rw [IntKind.wrap_i64]; omega
      clear k0 k1 k2 h4 h3 hu
      generalize u k = uk at *
      generalize m k = mk at *
      generalize e k = ek at *
      go_wp2_with (first
        | (at_builtin; refine append_spr rfl _ _ rfl w2.heap.size _ (n - (k + 1)) wr.heap.size uk mk ek _ _ _ rfl (hown.alloc _) rfl (Thr.new _ _ _ _ _) HU.out (by omega) (by simp; omega) ?_; intro v' w3 hown3 hb3)
        | go_in)
      have hb4 : Below w2.heap.size w2 w3 := (hbw.alloc sw _).trans hb3
      have ek : n - (k + 1) + 1 = n - k := by omega
      rw [ek] at hown3
      clear hb3 hbw hown ek
      go_wp2_with fail
      go_roundw
      case rel => exact ⟨k, by omega, by go_num, hown3, hb4⟩
      case measure => simp [intOf]
end Go.Proofs.YtjiockmphbhljaaDoor
