/- What squares are worth: plain arithmetic; the walk of cost. -/
import Derived.Test.YtjiockmphbhljaaDoorX10
import Derived.Maps.AppendAt
namespace Go.Proofs.YtjiockmphbhljaaDoor
open Go.RowKit

def dst7 (u : Nat → Int) (den : Int) (g : Nat → Int) (i : Nat) : Int := u i * den - g i
def cst7 (u e : Nat → Int) (den : Int) (g : Nat → Int) (i : Nat) : Int := if e i > 0 then dst7 u den g i * dst7 u den g i / e i else 0
def okc7 (u lo : Nat → Int) (den : Int) (g : Nat → Int) (i : Nat) : Prop := 0 ≤ dst7 u den g i ∧ lo i * den ≤ g i

theorem sq_nonneg (x : Int) : 0 ≤ x * x := by
  by_cases h : 0 ≤ x
  · exact Int.mul_nonneg h h
  · have := Int.mul_nonneg (show 0 ≤ -x by omega) (show 0 ≤ -x by omega)
    rwa [Int.neg_mul_neg] at this
theorem sq_dvd {x e : Int} (h : 840 ∣ x) (e1 : 1 ≤ e) (e8 : e ≤ 8) : x * x = e * (x * x / e) := by
  have h1 : e ∣ x := by
    refine Int.dvd_trans ?_ h
    rcases (show e = 1 ∨ e = 2 ∨ e = 3 ∨ e = 4 ∨ e = 5 ∨ e = 6 ∨ e = 7 ∨ e = 8 by omega) with rfl | rfl | rfl | rfl | rfl | rfl | rfl | rfl <;> decide
  exact (Int.mul_ediv_cancel' (Int.dvd_trans h1 (Int.dvd_mul_right x x))).symm
theorem cross {D G K : Int} (h : 0 ≤ (D - G) * (D + G - K)) : G * G + K * (D - G) ≤ D * D := by
  have e : (D - G) * (D + G - K) = D * D - G * G - K * (D - G) := by
    rw [Int.sub_mul, Int.mul_sub, Int.mul_sub, Int.mul_add, Int.mul_add, Int.mul_sub K, Int.mul_comm G D, Int.mul_comm D K, Int.mul_comm G K]
    omega
  omega

/-- One of them: what it costs at the force, and what it costs elsewhere. -/
theorem one_cost {u l e a b o : Int} (he0 : 0 ≤ e) (he8 : e ≤ 8) (st : e = 0 → l = u) (a0 : 0 ≤ a) (b1 : 1 ≤ b) (hl : l ≤ u) (ho : l ≤ o) (hu : o ≤ u) (x : Int) (hx : x = max (b * u - a * e) (b * l)) :
    (if e > 0 then (u * (840 * b) - 840 * x) * (u * (840 * b) - 840 * x) / e else 0) + 1680 * a * (840 * x - 840 * b * o) ≤ (if e > 0 then (u * (840 * b) - 840 * b * o) * (u * (840 * b) - 840 * b * o) / e else 0) := by
  have eu : u * (840 * b) = 840 * (b * u) := by rw [Int.mul_comm, Int.mul_assoc]
  have eo : 840 * b * o = 840 * (b * o) := Int.mul_assoc _ _ _
  rw [eu, eo]
  have h1 : b * l ≤ b * o := Int.mul_le_mul_of_nonneg_left ho (by omega)
  have h2 : b * o ≤ b * u := Int.mul_le_mul_of_nonneg_left hu (by omega)
  have h3 : 0 ≤ a * e := Int.mul_nonneg a0 he0
  by_cases c : e > 0
  · rw [if_pos c, if_pos c]
    have dG : (840 : Int) ∣ 840 * (b * u) - 840 * x := by rw [← Int.mul_sub]; exact Int.dvd_mul_right _ _
    have dD : (840 : Int) ∣ 840 * (b * u) - 840 * (b * o) := by rw [← Int.mul_sub]; exact Int.dvd_mul_right _ _
    have qG := sq_dvd dG (by omega) he8
    have qD := sq_dvd dD (by omega) he8
    have key : 0 ≤ ((840 * (b * u) - 840 * (b * o)) - (840 * (b * u) - 840 * x)) * ((840 * (b * u) - 840 * (b * o)) + (840 * (b * u) - 840 * x) - 1680 * (a * e)) := by
      by_cases c2 : b * u - a * e ≤ b * l
      · have : x = b * l := by omega
        rw [← Int.neg_mul_neg]
        exact Int.mul_nonneg (by omega) (by omega)
      · have : x = b * u - a * e := by omega
        have e1 : ((840 * (b * u) - 840 * (b * o)) + (840 * (b * u) - 840 * x) - 1680 * (a * e)) = ((840 * (b * u) - 840 * (b * o)) - (840 * (b * u) - 840 * x)) := by omega
        rw [e1]
        exact sq_nonneg _
    have k2 := cross key
    have e2 : 840 * x - 840 * (b * o) = (840 * (b * u) - 840 * (b * o)) - (840 * (b * u) - 840 * x) := by omega
    rw [e2]
    generalize 840 * (b * u) - 840 * (b * o) = D at *
    generalize 840 * (b * u) - 840 * x = G at *
    generalize G * G / e = p at *
    generalize D * D / e = q at *
    generalize D - G = T at *
    have e3 : 1680 * (a * e) * T = e * (1680 * a * T) := by rw [← Int.mul_assoc 1680 a e, Int.mul_comm (1680 * a) e, Int.mul_assoc e]
    rw [qG, qD, e3, ← Int.mul_add] at k2
    exact Int.le_of_mul_le_mul_left k2 c
  · have e0 : e = 0 := by omega
    rw [if_neg c, if_neg c]
    have h4 := st e0
    subst h4
    have h5 : o = l := by omega
    subst h5
    rw [e0, Int.mul_zero] at hx
    have : x = b * o := by omega
    rw [this]
    simp

section
variable {n : Nat} {u m e o : Nat → Int} {a b load : Int}
/-- What is asked of the units by the force, and of others. -/
def ownG (u m e : Nat → Int) (a b : Int) (i : Nat) : Int := 840 * hav u (lo7 u m e) e a b i
def rivG (o : Nat → Int) (b : Int) (i : Nat) : Int := 840 * b * o i

theorem own_ok (h : fitS n u m e) (a0 : 0 ≤ a) (b1 : 1 ≤ b) {i : Nat} (hi : i < n) : okc7 u (lo7 u m e) (840 * b) (ownG u m e a b) i := by
  have h1 := h.sp.top i hi
  have h3 : 0 ≤ a * e i := Int.mul_nonneg a0 (h.sp.e0 i hi)
  have h2 : b * lo7 u m e i ≤ b * u i := Int.mul_le_mul_of_nonneg_left h1 (by omega)
  have e1 : u i * (840 * b) = 840 * (b * u i) := by rw [Int.mul_comm, Int.mul_assoc]
  have e2 : lo7 u m e i * (840 * b) = 840 * (b * lo7 u m e i) := by rw [Int.mul_comm, Int.mul_assoc]
  unfold okc7 dst7 ownG hav
  rw [e1, e2]
  omega
theorem riv_ok (b1 : 1 ≤ b) {i : Nat} (hi : okc7 u (lo7 u m e) (840 * b) (rivG o b) i) : lo7 u m e i ≤ o i ∧ o i ≤ u i := by
  unfold okc7 dst7 rivG at hi
  have e1 : u i * (840 * b) = 840 * b * u i := Int.mul_comm _ _
  have e2 : lo7 u m e i * (840 * b) = 840 * b * lo7 u m e i := Int.mul_comm _ _
  rw [e1, e2] at hi
  exact ⟨Int.le_of_mul_le_mul_left hi.2 (by omega), Int.le_of_mul_le_mul_left (show 840 * b * o i ≤ 840 * b * u i by omega) (by omega)⟩

/-- No others are better. -/
theorem best_cost (h : fitS n u m e) (hF : IsF n u (lo7 u m e) e load a b) (hok : ∀ i, i < n → okc7 u (lo7 u m e) (840 * b) (rivG o b) i) (hs : sm n o ≤ load) :
    sm n (cst7 u e (840 * b) (ownG u m e a b)) ≤ sm n (cst7 u e (840 * b) (rivG o b)) := by
  have each : ∀ i, i < n → cst7 u e (840 * b) (ownG u m e a b) i + 1680 * a * (ownG u m e a b i - rivG o b i) ≤ cst7 u e (840 * b) (rivG o b) i := by
    intro i hi
    obtain ⟨r1, r2⟩ := riv_ok hF.b1 (hok i hi)
    exact one_cost (h.sp.e0 i hi) (h.sp.e8 i hi) (h.sp.stiff i hi) hF.a0 hF.b1 (h.sp.top i hi) r1 r2 _ rfl
  have h1 := sm_le each
  rw [sm_add n (cst7 u e (840 * b) (ownG u m e a b)) (fun i => 1680 * a * (ownG u m e a b i - rivG o b i)), sm_mul, sm_sub n (ownG u m e a b) (rivG o b)] at h1
  have h2 : sm n (ownG u m e a b) = 840 * tot n u (lo7 u m e) e a b := sm_mul n 840 (hav u (lo7 u m e) e a b)
  have h3 : sm n (rivG o b) = 840 * b * sm n o := sm_mul n (840 * b) o
  rw [h2, h3] at h1
  have h4 : 0 ≤ 1680 * a * (840 * tot n u (lo7 u m e) e a b - 840 * b * sm n o) := by
    by_cases c : load < sm n u
    · rw [hF.just c]
      refine Int.mul_nonneg (by have := hF.a0; omega) ?_
      have : b * sm n o ≤ b * load := Int.mul_le_mul_of_nonneg_left hs (by have := hF.b1; omega)
      rw [Int.mul_assoc 840 b]
      omega
    · obtain ⟨rfl, _⟩ := (isF_none h.sp (show sm n u ≤ load by omega)).one hF
      rw [Int.mul_zero, Int.zero_mul]
      exact Int.le_refl _
  omega
end

/-- What cost tells: less than 0, where one may not be. -/
def CostE (B n : Nat) (u lo e : Nat → Int) (den : Int) (g : Nat → Int) (w : World) (r : Ending) (w' : World) : Prop :=
  ∃ z : Int, r = .returned (.int .i64 z) ∧ ((z = -1 ∧ ¬ ∀ i, i < n → okc7 u lo den g i) ∨ ((∀ i, i < n → okc7 u lo den g i) ∧ z = sm n (cst7 u e den g) ∧ 0 ≤ z)) ∧ Below B w w'

set_option maxHeartbeats 2000000 in
set_option maxRecDepth 100000 in
theorem cost_any (n : Nat) (u m e g : Nat → Int) (den : Int) (v v' : Value) (w : World) (h : Sprs w v n u m e) (h' : Nums w v' (lst7 n g)) (hn : n ≤ 4) (hS : fitS n u m e) (hu : ∀ i, i < n → u i ≤ 4096) (d0 : 0 ≤ den) (d1 : den ≤ 26880) (hg : ∀ i, i < n → 0 ≤ g i ∧ g i ≤ 110100480) :
    Calls Tryd.prog 19 #[v, v', .int .i64 den] w (CostE w.heap.size n u (lo7 u m e) e den g w) := by
  obtain ⟨ad, cap, rfl, h1, h2, h0, h3⟩ := h
  obtain ⟨ax, cx, rfl, x1, x2, x3⟩ := nums_open h'
  have HS : Hid (fitS n u m e) := hS
  have HU : Hid (∀ i, i < n → u i ≤ 4096) := hu
  have HG : Hid (∀ i, i < n → 0 ≤ g i ∧ g i ≤ 110100480) := hg
  clear hS hu hg
  go_enter Tryd.func19, Tryd.ntmps19
  go_wp2_with fail
  go_loopw [7, 8] (fun s7 s8 wr => ∃ (j : Nat) (z : Int), j ≤ n ∧ s7 = .int .i64 z ∧ s8 = .int .i64 j ∧ 0 ≤ z ∧ z ≤ j * 12122115696230400 ∧ Hid ((∀ i, i < j → okc7 u (lo7 u m e) den g i) ∧ z = sm j (cst7 u e den g)) ∧ Below w.heap.size w wr) (fun _ s8 _ => ((n : Int) - intOf s8).toNat)
  case atStart => exact ⟨0, 0, by omega, rfl, rfl, by omega, by omega, ⟨fun i hi => by omega, rfl⟩, Below.refl _ _⟩
  case round =>
    obtain ⟨j, z, hj, rfl, rfl, z0, z1, HV, hbw⟩ := hrel
    by_cases hlt : (j : Int) < n
    · obtain ⟨bx, ox, rfl, x4⟩ := x3 (by omega)
      obtain ⟨bk, o, rfl, h4⟩ := h3 (by omega)
      obtain ⟨k0, k1, k2⟩ := h4 j (by omega)
      have cx0 := cell_later hbw (x4 j (by omega))
      have e0 := cell_later hbw k0
      have e1 := cell_later hbw k1
      have e2 := cell_later hbw k2
      have f1 := HS.out.sp.low j (by omega)
      have f2 := HS.out.sp.top j (by omega)
      have f3 := HU.out j (by omega)
      have f4 := HG.out j (by omega)
      have f5 := HS.out.sp.e0 j (by omega)
      have f6 := HS.out.sp.e8 j (by omega)
      have HLo : Hid (lo7 u m e j = lea (u j) (m j) (e j)) := rfl
      have m0 : 0 ≤ u j * den := Int.mul_nonneg (by omega) d0
      have m1 : u j * den ≤ 110100480 := Int.le_trans (Int.mul_le_mul f3 d1 d0 (by omega)) (by omega)
      have m2 : 0 ≤ lo7 u m e j * den := Int.mul_nonneg (by omega) d0
      have m3 : lo7 u m e j * den ≤ 110100480 := Int.le_trans (Int.mul_le_mul (show lo7 u m e j ≤ 4096 by omega) d1 d0 (by omega)) (by omega)
      have HB : Hid (dst7 u den g j = u j * den - g j) := rfl
      have HNo : Hid (¬ okc7 u (lo7 u m e) den g j → ¬ ∀ i, i < n → okc7 u (lo7 u m e) den g i) := fun hc hall => hc (hall j (by omega))
      have HYes : Hid (okc7 u (lo7 u m e) den g j → ((∀ i, i < j + 1 → okc7 u (lo7 u m e) den g i) ∧ z + cst7 u e den g j = sm (j + 1) (cst7 u e den g))) := fun hc => ⟨fun i hi => by
        rcases Nat.lt_succ_iff_lt_or_eq.1 hi with h | rfl
        · exact HV.out.1 i h
        · exact hc, by rw [HV.out.2]; rfl⟩
      have HC : Hid (∀ x, dst7 u den g j = x → cst7 u e den g j = if e j > 0 then x * x / e j else 0) := fun x hx => by unfold cst7; rw [hx]
      have HO : Hid (okc7 u (lo7 u m e) den g j ↔ 0 ≤ u j * den - g j ∧ lo7 u m e j * den ≤ g j) := Iff.rfl
      clear k0 k1 k2 h4 x4 h3 x3 HV h'
      generalize cst7 u e den g j = cj at *
      generalize dst7 u den g j = dj at *
      generalize okc7 u (lo7 u m e) den g j = okj at *
      generalize lo7 u m e j = lj at *
      generalize u j = uj at *
      generalize m j = mj at *
      generalize e j = ej at *
      generalize g j = gj at *
      have w1 : IntKind.i64.wrap (uj * den) = uj * den := by rw [IntKind.wrap_i64]; omega
      have w2 : IntKind.i64.wrap (lj * den) = lj * den := by rw [IntKind.wrap_i64]; omega
      have w3 : IntKind.i64.wrap (uj * den - gj) = uj * den - gj := by rw [IntKind.wrap_i64]; omega
      go_wp2_with fail
      go_quiet (fail)
      have hW : Below w.heap.size w (wr.drewN nq) := ⟨hbw.os, hbw.tape, hbw.output, hbw.size, hbw.block⟩
      have MK : Hid (∀ w' : World, Below (wr.drewN nq).heap.size (wr.drewN nq) w' → (w'.cell? ⟨bk, o + j * 3, none⟩ = some (.int .i64 uj) ∧ w'.cell? ⟨bk, o + j * 3 + 1, none⟩ = some (.int .i64 mj) ∧ w'.cell? ⟨bk, o + j * 3 + 2, none⟩ = some (.int .i64 ej) ∧ w'.cell? ⟨bx, ox + j, none⟩ = some (.int .i64 gj)) ∧ Below (wr.drewN nq).heap.size (wr.drewN nq) w') := fun w' hb => ⟨⟨cell_later (w := wr.drewN nq) hb e0, cell_later (w := wr.drewN nq) hb e1, cell_later (w := wr.drewN nq) hb e2, cell_later (w := wr.drewN nq) hb cx0⟩, hb⟩
      clear hbw e0 e1 e2 cx0
      generalize wr.drewN nq = W at *
      have sW := hW.size
      have n1 : ((j : Int) + 1) * 12122115696230400 = j * 12122115696230400 + 12122115696230400 := by omega
      by_cases cD : uj * den - gj < 0
      · have HE : Hid (¬ ∀ i, i < n → okc7 u (lo7 u m e) den g i) := HNo.out (fun hc => by have := (HO.out.1 hc).1; omega)
        have q1 : decide (uj * den - gj < 0) = true := decide_eq_true cD
        clear MK
        go_wp2_with fail
        go_quiet (fail)
        go_wp2
        go_ret
        exact ⟨-1, rfl, .inl ⟨rfl, HE.out⟩, ⟨hW.os, hW.tape, hW.output, hW.size, hW.block⟩⟩
      · have q1 : decide (uj * den - gj < 0) = false := decide_eq_false cD
        by_cases cL : gj < lj * den
        · have HE : Hid (¬ ∀ i, i < n → okc7 u (lo7 u m e) den g i) := HNo.out (fun hc => by have := (HO.out.1 hc).2; omega)
          have q2 : decide (gj < lj * den) = true := decide_eq_true cL
          go_wp2_with fail
          go_region_held3 (fun w' => (w'.cell? ⟨bk, o + j * 3, none⟩ = some (.int .i64 uj) ∧ w'.cell? ⟨bk, o + j * 3 + 1, none⟩ = some (.int .i64 mj) ∧ w'.cell? ⟨bk, o + j * 3 + 2, none⟩ = some (.int .i64 ej) ∧ w'.cell? ⟨bx, ox + j, none⟩ = some (.int .i64 gj)) ∧ Below W.heap.size W w')
            (first | assumption | exact MK.out _ (bstep (by assumption) (sBel (by assumption))) | exact MK.out _ (Below.refl _ _).drew)
            (first | (go_at_call 18; refine (refLeast7_any _ _ _ _).mono ?_; rintro r w3 ⟨rfl, hb3⟩; rw [← HLo.out]))
          all_goals
            go_wp2
            go_ret
            exact ⟨-1, rfl, .inl ⟨rfl, HE.out⟩, hW.trans ((sBel (by assumption)).mono sW)⟩
        · have q2 : decide (gj < lj * den) = false := decide_eq_false cL
          have HY := HYes.out (HO.out.2 ⟨by omega, by omega⟩)
          have HY2 : Hid ((∀ i, i < j + 1 → okc7 u (lo7 u m e) den g i) ∧ z + cj = sm (j + 1) (cst7 u e den g)) := HY
          have hcj := HC.out _ HB.out
          have x0 : 0 ≤ uj * den - gj := by omega
          have x1 : uj * den - gj ≤ 110100480 := by omega
          have y0 := Int.mul_nonneg x0 x0
          have y1 : (uj * den - gj) * (uj * den - gj) ≤ 12122115696230400 := Int.le_trans (Int.mul_le_mul x1 x1 x0 (by omega)) (by omega)
          clear HY
          by_cases cE : ej > 0
          · rw [if_pos cE] at hcj
            have p0 : 0 ≤ (uj * den - gj) * (uj * den - gj) / ej := Int.ediv_nonneg y0 (by omega)
            have p1 : (uj * den - gj) * (uj * den - gj) / ej ≤ (uj * den - gj) * (uj * den - gj) := Int.ediv_le_self _ y0
            subst hcj
            obtain ⟨d, hd⟩ : ∃ d, uj * den - gj = d := ⟨_, rfl⟩
            have w4 : IntKind.i64.wrap (d * d) = d * d := by rw [← hd, IntKind.wrap_i64]; omega
            rw [hd] at q1 p0 p1 y0 y1 x0 x1 HY2
            have p2 : d * d / ej ≤ 12122115696230400 := Int.le_trans p1 y1
            have w5 : IntKind.i64.wrap (d * d / ej) = d * d / ej := by rw [IntKind.wrap_i64]; generalize d * d / ej = qq at *; omega
            have w6 : IntKind.i64.wrap (z + d * d / ej) = z + d * d / ej := by rw [IntKind.wrap_i64]; generalize d * d / ej = qq at *; omega
            have w3' : IntKind.i64.wrap (uj * den - gj) = d := by rw [w3, hd]
            rw [hd]
            clear w3 cD
            go_wp2_with fail
            go_region_held3 (fun w' => (w'.cell? ⟨bk, o + j * 3, none⟩ = some (.int .i64 uj) ∧ w'.cell? ⟨bk, o + j * 3 + 1, none⟩ = some (.int .i64 mj) ∧ w'.cell? ⟨bk, o + j * 3 + 2, none⟩ = some (.int .i64 ej) ∧ w'.cell? ⟨bx, ox + j, none⟩ = some (.int .i64 gj)) ∧ Below W.heap.size W w')
              (first | assumption | exact MK.out _ (bstep (by assumption) (sBel (by assumption))) | exact MK.out _ (Below.refl _ _).drew)
              (first | (go_at_call 18; refine (refLeast7_any _ _ _ _).mono ?_; rintro r w3 ⟨rfl, hb3⟩; rw [← HLo.out]))
            go_wp2_with fail
            go_roundw
            case rel => exact ⟨j + 1, z + d * d / ej, by omega, by first | rfl | go_num, by go_num, (by clear w5 w6; generalize d * d / ej = qq at *; omega), (by clear w5 w6; generalize d * d / ej = qq at *; omega), HY2.out, hW.trans ((sBel (by assumption)).mono sW)⟩
            case measure => simp [intOf]; omega
          · rw [if_neg cE] at hcj
            subst hcj
            rw [Int.add_zero] at HY2
            go_wp2_with fail
            go_region_held3 (fun w' => (w'.cell? ⟨bk, o + j * 3, none⟩ = some (.int .i64 uj) ∧ w'.cell? ⟨bk, o + j * 3 + 1, none⟩ = some (.int .i64 mj) ∧ w'.cell? ⟨bk, o + j * 3 + 2, none⟩ = some (.int .i64 ej) ∧ w'.cell? ⟨bx, ox + j, none⟩ = some (.int .i64 gj)) ∧ Below W.heap.size W w')
              (first | assumption | exact MK.out _ (bstep (by assumption) (sBel (by assumption))) | exact MK.out _ (Below.refl _ _).drew)
              (first | (go_at_call 18; refine (refLeast7_any _ _ _ _).mono ?_; rintro r w3 ⟨rfl, hb3⟩; rw [← HLo.out]))
            go_wp2_with fail
            go_roundw
            case rel => exact ⟨j + 1, z, by omega, rfl, by go_num, by omega, by omega, HY2.out, hW.trans ((sBel (by assumption)).mono sW)⟩
            case measure => simp [intOf]; omega
    · have hjk : j = n := by omega
      subst hjk
      go_wp2
      go_ret
      exact ⟨z, rfl, .inr ⟨HV.out.1, HV.out.2, z0⟩, hbw⟩
end Go.Proofs.YtjiockmphbhljaaDoor
