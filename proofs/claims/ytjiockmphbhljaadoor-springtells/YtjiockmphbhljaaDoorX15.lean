/- The law: no others have lesser squares. -/
import Derived.Test.YtjiockmphbhljaaDoorX14
namespace Go.Proofs.YtjiockmphbhljaaDoor
open Go.RowKit

theorem lst7_succ (n : Nat) (g : Nat → Int) : lst7 (n + 1) g = lst7 n g ++ [g n] := by unfold lst7; rw [List.range_succ, List.map_append]; rfl
/-- One number more, behind those of the call's own. -/
theorem append_int {w : World} {ops : Array Oper} {rest : List Oper} {o : Oper} {act : Act} {Q : Exit → Act → World → Prop} (hgd : o.guard = none) (s x : Operand)
    (ho : o.op = .call { callee := .builtin .append, args := #[s, x], argTypes := #[26, 26] }) (base : Nat) (v : Value) (k bb : Nat) (y : Int) (g : Nat → Int)
    (hs : act.eval s = v) (hown : w.ownsRow base 3 1 v k (ivs (lst7 k g))) (hx : act.eval x = .slice (some ⟨bb, 0, none⟩) 1 1) (hc : w.cell? ⟨bb, 0, none⟩ = some (.int .i64 y)) (hy : g k = y) (hk : k ≤ 1000) (hbase : base ≤ w.heap.size)
    (h : ∀ v' w', w'.ownsRow base 3 1 v' (k + 1) (ivs (lst7 (k + 1) g)) → w.grownBy w' v.ownBlock → (v'.ownBlock = v.ownBlock ∨ v'.ownBlock = some w.heap.size) → wpList Tryd.prog ops Q rest (act.put o.dst v') w') : wpList Tryd.prog ops Q (o :: rest) act w := by
  obtain ⟨i0, hi, hz0, hz1, hz2⟩ := info_parts Tryd.infoInt
  subst hy
  refine wpList_append_own_at w hgd s x 26 ho base 3 i0 _ 1 8 Tryd.underlying26 hi hz0 hz1 hz2 rfl (by decide) v k (ivs (lst7 k g)) hs hown ⟨bb, 0, none⟩ 1 1 [.int .i64 (g k)] hx rfl (fun j y hy => ?_) (fun y hy => ?_) (by unfold maxLen; omega) (by omega) hbase ?_
  · match j, hy with
    | 0, hy => simp at hy; subst hy; simpa [Addr.add] using hc
  · simp at hy; subst hy; rfl
  · intro v' w' g1 g2 _ g4
    have e : ivs (lst7 k g) ++ [.int .i64 (g k)] = ivs (lst7 (k + 1) g) := by rw [lst7_succ, ivs_app]; rfl
    rw [e] at g1
    exact h v' w' g1 g2 g4

/-- Two lists that do not lie in one block. -/
def Apt (v v' : Value) : Prop := v.ownBlock = none ∨ v.ownBlock ≠ v'.ownBlock
def Ap2 (v v' : Value) : Prop := Apt v v' ∧ Apt v' v
theorem ap2_left {w : World} {base n : Nat} {e : TypeId} {size : Nat} {v v1 v' : Value} {xs : List Value} (h : w.ownsRow base e size v' n xs) (ha : Ap2 v v') (hv : v1.ownBlock = v.ownBlock ∨ v1.ownBlock = some w.heap.size) : Ap2 v1 v' := by
  rcases hv with hv | hv
  · unfold Ap2 Apt at *; rw [hv]; exact ha
  · have hl := h.lt
    refine ⟨.inr (fun e => ?_), ?_⟩
    · have := (hl w.heap.size (by rw [← e, hv])).2; omega
    · cases hb : v'.ownBlock with
      | none => exact .inl hb
      | some k => exact .inr (fun e => by have := (hl k hb).2; rw [hb, hv] at e; injection e with e; omega)
theorem Ap2.symm {v v' : Value} (h : Ap2 v v') : Ap2 v' v := ⟨h.2, h.1⟩

set_option maxHeartbeats 1000000 in
set_option maxRecDepth 100000 in
theorem law_sleast_no (n : Nat) (u m e : Nat → Int) (load a b : Int) (rb : Bool) (ks : List Int) (v v' : Value) (w : World) (h : Sprs w v n u m e) (h' : Nums w v' ks) (hF : Frc n u m e load a b rb) (hr : ¬ (rb = true ∧ ks.length = n)) (hL : Lim w) :
    Calls Tryd.prog 5 #[v, .int .i64 load, v'] w fun r w' => r = .returned (.bool true) ∧ Below w.heap.size w w' := by
  have HF : Hid (Frc n u m e load a b rb) := hF
  go_enter Tryd.func5, Tryd.ntmps5
  go_wp2_with fail
  refine (awake7_any _ hL).mono ?_
  rintro r w1 ⟨rfl, hb1⟩
  go_wp2_with fail
  refine (force7_any n u m e load a b rb v _ (h.later hb1) hF (hL.later hb1)).mono ?_
  rintro r w2 ⟨rfl, hb2⟩
  have hB2 : Below w.heap.size w w2 := hb1.trans (hb2.mono hb1.size)
  clear hb1 hb2 hF
  obtain ⟨ad, cap, rfl, h1, h2, h0, h3⟩ := h
  obtain ⟨ax, cx, rfl, x1, x2, x3⟩ := h'
  clear h3 x3
  cases rb
  · go_wp2
    go_ret
    exact ⟨rfl, hB2⟩
  · have hl : ¬ ks.length = n := fun hl => hr ⟨rfl, hl⟩
    have HI := HF.out.2.1 rfl
    have g1 := HI.b1
    have g2 := HI.b32
    have g3 := HI.a0
    have hl1 : ¬ ((ks.length : Int)) = n := by omega
    have q1 : ((ks.length : Int) == n) = false := by simpa using hl1
    clear hr HI
    go_wp2
    go_ret
    exact ⟨rfl, hB2⟩

set_option maxHeartbeats 1000000 in
set_option maxRecDepth 100000 in
theorem law_sleast_yes (n : Nat) (u m e : Nat → Int) (load a b : Int) (ks : List Int) (v v' : Value) (w : World) (h : Sprs w v n u m e) (h' : Nums w v' ks) (hF : Frc n u m e load a b true) (hk : ks.length = n) (hL : Lim w) :
    Calls Tryd.prog 5 #[v, .int .i64 load, v'] w fun r w' => r = .returned (.bool true) ∧ Below w.heap.size w w' := by
  obtain ⟨o, ho⟩ : ∃ o : Nat → Int, o = fun i => ks.getD i 0 := ⟨_, rfl⟩
  have hN : Nums w v' (lst7 n o) := by
    have : lst7 n o = ks := same_of (by rw [lst7_len, hk]) (fun i hi => by rw [lst7_len] at hi; rw [lst7_at hi, ho])
    rw [this]; exact h'
  clear ho hk h'
  have HS : Hid (fitS n u m e) := (roomB_of hF.1).1
  have HI : Hid (IsF n u (lo7 u m e) e load a b) := hF.2.1 rfl
  have hn : n ≤ 4 := HS.out.1
  have HSp : Hid (Sprs w v n u m e) := h
  have b1 := HI.out.b1
  have b32 := HI.out.b32
  have a0 := HI.out.a0
  have a22 := HI.out.abig
  go_enter Tryd.func5, Tryd.ntmps5
  go_wp2_with fail
  refine (awake7_any _ hL).mono ?_
  rintro r w1 ⟨rfl, hb1⟩
  go_wp2_with fail
  refine (force7_any n u m e load a b true v _ (h.later hb1) hF (hL.later hb1)).mono ?_
  rintro r w2 ⟨rfl, hb2⟩
  have hB2 : Below w.heap.size w w2 := hb1.trans (hb2.mono hb1.size)
  have hs2 := hB2.size
  obtain ⟨ad, cap, rfl, h1, h2, h0, h3⟩ := h.later hB2
  obtain ⟨ax, cx, rfl, x1, x2, x3⟩ := nums_open (hN.later hB2)
  have HN : Hid (Nums w (.slice ax n cx) (lst7 n o)) := hN
  clear hb1 hb2 hF h hN hL
  have w7 : IntKind.i64.wrap (840 * b) = 840 * b := by rw [IntKind.wrap_i64]; omega
  go_wp2_with fail
  go_loopw [11, 12, 13, 14] (fun s11 s12 s13 s14 wr => ∃ (j : Nat) (z : Int) (so sr : Value), j ≤ n ∧ s12 = so ∧ s13 = sr ∧ s11 = .int .i64 z ∧ s14 = .int .i64 j ∧ 0 ≤ z ∧ z ≤ j * 4096 ∧ Hid (z = sm j o ∧ ∀ i, i < j → u i ≤ 4096 ∧ 0 ≤ o i ∧ o i ≤ 4096) ∧ wr.ownsRow w2.heap.size 3 1 so j (ivs (lst7 j (ownG u m e a b))) ∧ wr.ownsRow w2.heap.size 3 1 sr j (ivs (lst7 j (rivG o b))) ∧ Ap2 so sr ∧ Below w2.heap.size w2 wr) (fun _ _ _ s14 _ => ((n : Int) - intOf s14).toNat)
  case atStart => exact ⟨0, 0, _, _, by omega, rfl, rfl, rfl, rfl, by omega, by omega, ⟨rfl, fun i hi => by omega⟩, ⟨rfl, .inl ⟨rfl, rfl⟩⟩, ⟨rfl, .inl ⟨rfl, rfl⟩⟩, ⟨.inl rfl, .inl rfl⟩, Below.refl _ _⟩
  case round =>
    obtain ⟨j, z, so, sr, hj, hso, hsr, rfl, rfl, z0, z1, HV, hown, hriv, hap, hbw⟩ := hrel
    replace hso := hso.symm
    replace hsr := hsr.symm
    subst hso hsr
    by_cases hlt : (j : Int) < n
    · obtain ⟨bx, ox, rfl, x4⟩ := x3 (by omega)
      obtain ⟨bk, o', rfl, h4⟩ := h3 (by omega)
      obtain ⟨k0, k1, k2⟩ := h4 j (by omega)
      have kx := x4 j (by omega)
      have cx0 := cell_later hbw kx
      have e0 := cell_later hbw k0
      have e1 := cell_later hbw k1
      have e2 := cell_later hbw k2
      have f0 := HS.out.sp.low j (by omega)
      have f1 := HS.out.sp.top j (by omega)
      have f5 := HS.out.sp.e0 j (by omega)
      have f6 := HS.out.sp.e8 j (by omega)
      have HV2 : Hid (u j ≤ 4096 → 0 ≤ o j → o j ≤ 4096 → (z + o j = sm (j + 1) o ∧ ∀ i, i < j + 1 → u i ≤ 4096 ∧ 0 ≤ o i ∧ o i ≤ 4096)) := fun q1 q2 q3 => ⟨by rw [HV.out.1]; rfl, fun i hi => by
        rcases Nat.lt_succ_iff_lt_or_eq.1 hi with h | rfl
        · exact HV.out.2 i h
        · exact ⟨q1, q2, q3⟩⟩
      have HLo : Hid (lo7 u m e j = lea (u j) (m j) (e j)) := rfl
      have HH : Hid (hav u (lo7 u m e) e a b j = max (b * u j - a * e j) (b * lo7 u m e j)) := rfl
      have HRG : Hid (rivG o b j = 840 * b * o j) := rfl
      have hB : Below w.heap.size w wr := hB2.trans (hbw.mono hs2)
      clear h4 x4 h3 x3 HV
      generalize lo7 u m e j = lj at *
      generalize u j = uj at *
      generalize m j = mj at *
      generalize e j = ej at *
      generalize o j = oj at *
      by_cases c1 : uj > 4096
      · go_wp2
        go_ret
        exact ⟨rfl, hB⟩
      by_cases c2 : oj < 0
      · go_wp2
        go_ret
        exact ⟨rfl, hB⟩
      by_cases c3 : oj > 4096
      · go_wp2
        go_ret
        exact ⟨rfl, hB⟩
      clear hB
      have HV3 := HV2.out (by omega) (by omega) (by omega)
      have HV2 : Hid (z + oj = sm (j + 1) o ∧ ∀ i, i < j + 1 → u i ≤ 4096 ∧ 0 ≤ o i ∧ o i ≤ 4096) := HV3
      clear HV3
      have p0 : 0 ≤ b * uj := Int.mul_nonneg (by omega) (by omega)
      have p1 : b * uj ≤ 131072 := Int.le_trans (Int.mul_le_mul b32 (show uj ≤ 4096 by omega) (by omega) (by omega)) (by omega)
      have p2 : 0 ≤ a * ej := Int.mul_nonneg a0 f5
      have p3 : a * ej ≤ 33554432 := Int.le_trans (Int.mul_le_mul a22 f6 f5 (by omega)) (by omega)
      have p4 : 0 ≤ b * lj := Int.mul_nonneg (by omega) (by omega)
      have p5 : b * lj ≤ b * uj := Int.mul_le_mul_of_nonneg_left f1 (by omega)
      have p6 : 0 ≤ 840 * b * oj := Int.mul_nonneg (by omega) (by omega)
      have p7 : 840 * b * oj ≤ 110100480 := Int.le_trans (Int.mul_le_mul (show 840 * b ≤ 26880 by omega) (show oj ≤ 4096 by omega) (by omega) (by omega)) (by omega)
      have w1 : IntKind.i64.wrap (b * uj) = b * uj := by rw [IntKind.wrap_i64]; omega
      have w3 : IntKind.i64.wrap (a * ej) = a * ej := by rw [IntKind.wrap_i64]; omega
      have w4 : IntKind.i64.wrap (b * uj - a * ej) = b * uj - a * ej := by rw [IntKind.wrap_i64]; omega
      have w5 : IntKind.i64.wrap (b * lj) = b * lj := by rw [IntKind.wrap_i64]; omega
      have w8 : IntKind.i64.wrap (840 * b * oj) = 840 * b * oj := by rw [IntKind.wrap_i64]; omega
      go_wp2_with fail
      go_quiet (fail)
      have hW : Below w2.heap.size w2 (wr.drewN nq) := ⟨hbw.os, hbw.tape, hbw.output, hbw.size, hbw.block⟩
      have hownW : (wr.drewN nq).ownsRow w2.heap.size 3 1 so j (ivs (lst7 j (ownG u m e a b))) := hown
      have hrivW : (wr.drewN nq).ownsRow w2.heap.size 3 1 sr j (ivs (lst7 j (rivG o b))) := hriv
      have e0' := cell_later hW k0
      have e1' := cell_later hW k1
      have e2' := cell_later hW k2
      clear hbw hown hriv e0 e1 e2 cx0
      generalize wr.drewN nq = W at *
      go_wp2_with fail
      refine (refLeast7_any uj mj ej _).mono ?_
      rintro r w4 ⟨rfl, hb4⟩
      rw [← HLo.out]
      have hown4 := own_later hownW hb4
      have hriv4 := own_later hrivW hb4
      have hbw4 : Below w2.heap.size w2 w4 := hW.trans (hb4.mono hW.size)
      have sw4 := hbw4.size
      clear hb4 hW hownW hrivW e0' e1' e2'
      by_cases cX : b * uj - a * ej < b * lj
      · have HX : Hid (hav u (lo7 u m e) e a b j = (b * lj)) := by show _ = _; rw [HH.out]; omega
        have HOG : Hid (ownG u m e a b j = 840 * (b * lj)) := by show 840 * hav u (lo7 u m e) e a b j = _; rw [HX.out]
        have w6 : IntKind.i64.wrap (840 * (b * lj)) = 840 * (b * lj) := by rw [IntKind.wrap_i64]; omega
        go_wp2_with (first
          | (at_builtin; refine append_int rfl _ _ rfl w2.heap.size _ j w5.heap.size (840 * b * oj) (rivG o b) rfl (hriv5.alloc _) rfl (by simp) HRG.out (by omega) (by simp; omega) ?_; intro sr6 w6' hriv6 hg6 hat6; have hown6 := (hown5.alloc (.cells #[.int .i64 (840 * b * oj)] 3)).kept hg6 hap5.1; have hap6 : Ap2 so5 sr6 := (ap2_left (hown5.alloc (.cells #[.int .i64 (840 * b * oj)] 3)) hap5.symm hat6).symm; have hbw6 : Below w2.heap.size w2 w6' := (hbw5.alloc sw5 _).grown hg6 (by simp; omega) (fun k hk => ((hriv5.alloc (.cells #[.int .i64 (840 * b * oj)] 3)).lt k hk).1); have cy6 := cell_later hbw6 kx; clear hg6 hat6 hown5 hriv5 hap5 cy5)
          | (at_builtin; refine append_int rfl _ _ rfl w2.heap.size _ j w4.heap.size (840 * (b * lj)) (ownG u m e a b) rfl (hown4.alloc _) rfl (by simp) HOG.out (by omega) (by simp; omega) ?_; intro so5 w5 hown5 hg5 hat5; have hriv5 := (hriv4.alloc (.cells #[.int .i64 (840 * (b * lj))] 3)).kept hg5 hap.2; have hap5 : Ap2 so5 sr := ap2_left (hriv4.alloc (.cells #[.int .i64 (840 * (b * lj))] 3)) hap hat5; have hbw5 : Below w2.heap.size w2 w5 := (hbw4.alloc sw4 _).grown hg5 (by simp; omega) (fun k hk => ((hown4.alloc (.cells #[.int .i64 (840 * (b * lj))] 3)).lt k hk).1); have cy5 := cell_later hbw5 kx; have sw5 := hbw5.size; clear hg5 hat5 hriv4 hown4)
          | go_in)
        go_roundw
        case rel => exact ⟨j + 1, z + oj, so5, sr6, by omega, rfl, rfl, by go_num, by go_num, by omega, by omega, HV2.out, hown6, hriv6, hap6, hbw6⟩
        case measure => simp [intOf]; omega
      · have HX : Hid (hav u (lo7 u m e) e a b j = (b * uj - a * ej)) := by show _ = _; rw [HH.out]; omega
        have HOG : Hid (ownG u m e a b j = 840 * (b * uj - a * ej)) := by show 840 * hav u (lo7 u m e) e a b j = _; rw [HX.out]
        have w6 : IntKind.i64.wrap (840 * (b * uj - a * ej)) = 840 * (b * uj - a * ej) := by rw [IntKind.wrap_i64]; omega
        go_wp2_with (first
          | (at_builtin; refine append_int rfl _ _ rfl w2.heap.size _ j w5.heap.size (840 * b * oj) (rivG o b) rfl (hriv5.alloc _) rfl (by simp) HRG.out (by omega) (by simp; omega) ?_; intro sr6 w6' hriv6 hg6 hat6; have hown6 := (hown5.alloc (.cells #[.int .i64 (840 * b * oj)] 3)).kept hg6 hap5.1; have hap6 : Ap2 so5 sr6 := (ap2_left (hown5.alloc (.cells #[.int .i64 (840 * b * oj)] 3)) hap5.symm hat6).symm; have hbw6 : Below w2.heap.size w2 w6' := (hbw5.alloc sw5 _).grown hg6 (by simp; omega) (fun k hk => ((hriv5.alloc (.cells #[.int .i64 (840 * b * oj)] 3)).lt k hk).1); have cy6 := cell_later hbw6 kx; clear hg6 hat6 hown5 hriv5 hap5 cy5)
          | (at_builtin; refine append_int rfl _ _ rfl w2.heap.size _ j w4.heap.size (840 * (b * uj - a * ej)) (ownG u m e a b) rfl (hown4.alloc _) rfl (by simp) HOG.out (by omega) (by simp; omega) ?_; intro so5 w5 hown5 hg5 hat5; have hriv5 := (hriv4.alloc (.cells #[.int .i64 (840 * (b * uj - a * ej))] 3)).kept hg5 hap.2; have hap5 : Ap2 so5 sr := ap2_left (hriv4.alloc (.cells #[.int .i64 (840 * (b * uj - a * ej))] 3)) hap hat5; have hbw5 : Below w2.heap.size w2 w5 := (hbw4.alloc sw4 _).grown hg5 (by simp; omega) (fun k hk => ((hown4.alloc (.cells #[.int .i64 (840 * (b * uj - a * ej))] 3)).lt k hk).1); have cy5 := cell_later hbw5 kx; have sw5 := hbw5.size; clear hg5 hat5 hriv4 hown4)
          | go_in)
        go_roundw
        case rel => exact ⟨j + 1, z + oj, so5, sr6, by omega, rfl, rfl, by go_num, by go_num, by omega, by omega, HV2.out, hown6, hriv6, hap6, hbw6⟩
        case measure => simp [intOf]; omega
    · have hjk : j = n := by omega
      subst hjk
      have hB : Below w.heap.size w wr := hB2.trans (hbw.mono hs2)
      have HO : Hid (Nums wr so (lst7 j (ownG u m e a b))) := (Nums.own hown).1
      have HR : Hid (Nums wr sr (lst7 j (rivG o b))) := (Nums.own hriv).1
      have HBO : Hid (∀ i, i < j → 0 ≤ ownG u m e a b i ∧ ownG u m e a b i ≤ 110100480) := fun i hi => by
        have q1 := HS.out.sp.low i hi
        have q2 := HS.out.sp.top i hi
        have q3 := (HV.out.2 i hi).1
        have p0 : 0 ≤ b * lo7 u m e i := Int.mul_nonneg (by omega) (by omega)
        have p1 : b * u i ≤ 131072 := Int.le_trans (Int.mul_le_mul b32 q3 (by omega) (by omega)) (by omega)
        have p2 : 0 ≤ a * e i := Int.mul_nonneg a0 (HS.out.sp.e0 i hi)
        have p5 : b * lo7 u m e i ≤ b * u i := Int.mul_le_mul_of_nonneg_left q2 (by omega)
        unfold ownG hav
        omega
      have HBR : Hid (∀ i, i < j → 0 ≤ rivG o b i ∧ rivG o b i ≤ 110100480) := fun i hi => by
        have q3 := HV.out.2 i hi
        exact ⟨Int.mul_nonneg (by omega) q3.2.1, Int.le_trans (Int.mul_le_mul (show 840 * b ≤ 26880 by omega) q3.2.2 q3.2.1 (by omega)) (by omega)⟩
      have HUU : Hid (∀ i, i < j → u i ≤ 4096) := fun i hi => (HV.out.2 i hi).1
      have HZ : Hid (z = sm j o) := HV.out.1
      clear hown hriv hap HV hbw h3 x3
      go_wp2_with fail
      refine (cost_any j u m e _ (840 * b) _ so _ (HSp.out.later hB) HO.out hn HS.out HUU.out (by omega) (by omega) HBO.out).mono ?_
      rintro r w3 ⟨y1, rfl, hy1, hb3⟩
      have hB3 : Below w.heap.size w w3 := hB.trans (hb3.mono hB.size)
      have HR3 : Hid (Nums w3 sr (lst7 j (rivG o b))) := HR.out.later hb3
      clear hb3 hB HR HO
      go_wp2_with fail
      refine (cost_any j u m e _ (840 * b) _ sr _ (HSp.out.later hB3) HR3.out hn HS.out HUU.out (by omega) (by omega) HBR.out).mono ?_
      rintro r w4 ⟨y2, rfl, hy2, hb4⟩
      have hB4 : Below w.heap.size w w4 := hB3.trans (hb4.mono hB3.size)
      have hy1' : y1 = sm j (cst7 u e (840 * b) (ownG u m e a b)) ∧ 0 ≤ y1 := by
        rcases hy1 with ⟨_, hno⟩ | ⟨_, h1, h2⟩
        · exact absurd (fun i hi => own_ok HS.out a0 b1 hi) hno
        · exact ⟨h1, h2⟩
      have hfin : z > load ∨ y2 < 0 ∨ (y1 ≥ 0 ∧ y1 ≤ y2) := by
        by_cases c : z > load
        · exact .inl c
        · right
          rcases hy2 with ⟨h, _⟩ | ⟨hok, h1, h2⟩
          · left; omega
          · right
            refine ⟨hy1'.2, ?_⟩
            rw [hy1'.1, h1]
            exact best_cost HS.out HI.out hok (by rw [← HZ.out]; omega)
      clear hy1 hy2 hy1' hb4 hB3 HZ HR3
      by_cases c : z > load
      · go_wp2
        go_ret
        exact ⟨rfl, hB4⟩
      · by_cases c2 : y2 < 0
        · go_wp2
          go_ret
          exact ⟨rfl, hB4⟩
        · have c3 : y1 ≥ 0 := by omega
          have c4 : y1 ≤ y2 := by omega
          clear hfin
          go_wp2
          go_ret
          exact ⟨rfl, hB4⟩

theorem law_sleast (n : Nat) (u m e : Nat → Int) (load : Int) (ks : List Int) (v v' : Value) (w : World) (h : Sprs w v n u m e) (h' : Nums w v' ks) (hL : Lim w) :
    Calls Tryd.prog 5 #[v, .int .i64 load, v'] w fun r w' => r = .returned (.bool true) ∧ Below w.heap.size w w' := by
  obtain ⟨a, b, rb, hF⟩ := frc_exists n u m e load
  by_cases hr : rb = true ∧ ks.length = n
  · obtain ⟨rfl, hk⟩ := hr
    exact law_sleast_yes n u m e load a b ks v v' w h h' hF hk hL
  · exact law_sleast_no n u m e load a b rb ks v v' w h h' hF hr hL
end Go.Proofs.YtjiockmphbhljaaDoor
