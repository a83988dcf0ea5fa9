/- Texts that belong together, one behind the other: AA7, AA8, AA9. -/
import Derived.Test.YteklcolphbcjlaaQ11
/- The document's own Put. -/
namespace Go.Proofs.Yteklcolphbcjlaa
open Go.RowKit

/-- What stays beside a row that is written. -/
theorem OwY.kept15 {w w' : World} {B : Nat} {v : Value} {xs : List Int} {row : Option Nat} (h : OwY w B v xs) (hg : w.grownBy w' row) (hr : ∀ k, row = some k → k < B) : OwY w' B v xs := by
  unfold OwY at h ⊢
  refine h.kept hg ?_
  cases c : v.ownBlock with
  | none => exact .inl rfl
  | some k =>
    refine .inr (fun e => ?_)
    have := (h.lt k c).1
    have := hr k e.symm
    omega
theorem OwY.low15 {w : World} {B : Nat} {v : Value} {xs : List Int} (h : OwY w B v xs) : ∀ k, v.ownBlock = some k → B ≤ k := fun k hk => (World.ownsRow.lt h k hk).1
theorem wp_append_bysK {w : World} {o : Oper} {act : Act} {K : Act → World → Prop} {Q : Exit → Act → World → Prop} (s x : Operand)
    (ho : o.op = .call { callee := .builtin .append, args := #[s, x], argTypes := #[27, 27] }) (base : Nat) (v u : Value) (xs ys : List Int)
    (hs : act.eval s = v) (hown : OwY w base v xs) (hx : act.eval x = u) (hr : Bys w u ys) (hy : ys ≠ []) (hn : xs.length + ys.length ≤ 100000) (hbase : base ≤ w.heap.size)
    (h : ∀ v' w', OwY w' base v' (xs ++ ys) → w.grownBy w' v.ownBlock → K (act.put o.dst v') w') : Oper.wp Try.prog o act w K Q := by
  obtain ⟨i0, hi, hz0, hz1, hz2⟩ := info_parts Try.infoU8
  obtain ⟨a, cap, rfl, h1, h2, hcap, _, h3⟩ := hr
  have m1 : xs.length + ys.length ≤ maxLen := by unfold maxLen; omega
  obtain ⟨b, oo, rfl, h4⟩ := h3 hy
  refine wp_append_own w s x 27 ho base 5 i0 _ 1 1 Try.underlying27 hi hz0 hz1 hz2 rfl (by decide) v xs.length (bv8 xs) hs hown ⟨b, oo, Option.none⟩ ys.length cap (bv8 ys) hx (by rw [bv8_len]; omega) (fun j q hq => ?_) (bv8_one _) m1 (by omega) hbase ?_
  · have hj : j < ys.length := by have := (List.getElem?_eq_some_iff.1 hq).1; rwa [bv8_len] at this
    rw [bv8_at hj] at hq
    rw [← hq, Go.WideShapes.add_plain]
    exact h4 j hj
  · intro v' w' g1 g2 _
    refine h v' w' ?_ g2
    rw [← bv8_app] at g1
    unfold OwY
    rw [List.length_append]
    exact g1
theorem step_append_bysK {w : World} {ops : Array Oper} {o : Oper} {act : Act} {K : Act → World → Prop} {Q : Exit → Act → World → Prop} {X : Prop} (hgd : o.guard = Option.none) (s x : Operand)
    (ho : o.op = .call { callee := .builtin .append, args := #[s, x], argTypes := #[27, 27] }) (base : Nat) (v u : Value) (xs ys : List Int)
    (hs : act.eval s = v) (hown : OwY w base v xs) (hx : act.eval x = u) (hr : Bys w u ys) (hy : ys ≠ []) (hn : xs.length + ys.length ≤ 100000) (hbase : base ≤ w.heap.size)
    (h : ∀ v' w', OwY w' base v' (xs ++ ys) → w.grownBy w' v.ownBlock → K (act.put o.dst v') w') :
    if Region.wanted o (yielded ops act.tmps) = true then Oper.wp Try.prog o act w K Q else X := by
  have hw : Region.wanted o (yielded ops act.tmps) = true := by simp [Region.wanted, hgd]
  rw [if_pos hw]
  exact wp_append_bysK s x ho base v u xs ys hs hown hx hr hy hn hbase h
def PutE (o : Ow) (w : World) (r : Ending) (w' : World) : Prop := ∃ v, r = .returned (.tuple #[v, .bool (omB o)]) ∧ OwY w' w.heap.size v (bif omB o then obL o else []) ∧ Below w.heap.size w w'
set_option maxHeartbeats 8000000 in
set_option maxRecDepth 100000 in
theorem roput_any (ok oid ec et ex em ek ee ot om ow oc ov : Int) (dv : Value) (ds : List Int) (w : World) (h : Nums w dv ds) (hl : ds.length ≤ 1000) :
    Calls Try.prog 10 #[.agg #[.int .i64 ok, .int .i64 oid, .int .i64 ec, .int .i64 et, .int .i64 ex, .int .i64 em, .int .i64 ek, .int .i64 ee, .int .i64 ot, .int .i64 om, .int .i64 ow, .int .i64 oc, .int .i64 ov, dv]] w (PutE ⟨ok, oid, ⟨ec, et, ex, em, ek, ee⟩, ot, om, ow, oc, ov, ds⟩ w) := by
  have HB0 : Hid (Bk (w.alloc (.cells #[.int .i64 ok, .int .i64 oid, .int .i64 ec, .int .i64 et, .int .i64 ex, .int .i64 em, .int .i64 ek, .int .i64 ee, .int .i64 ot, .int .i64 om, .int .i64 ow, .int .i64 oc, .int .i64 ov, dv] 26)) w.heap.size [.int .i64 ok, .int .i64 oid, .int .i64 ec, .int .i64 et, .int .i64 ex, .int .i64 em, .int .i64 ek, .int .i64 ee, .int .i64 ot, .int .i64 om, .int .i64 ow, .int .i64 oc, .int .i64 ov, dv] ∧ Below w.heap.size w (w.alloc (.cells #[.int .i64 ok, .int .i64 oid, .int .i64 ec, .int .i64 et, .int .i64 ex, .int .i64 em, .int .i64 ek, .int .i64 ee, .int .i64 ot, .int .i64 om, .int .i64 ow, .int .i64 oc, .int .i64 ov, dv] 26))) := ⟨Bk.new w _ _, below_b1 _ _⟩
  have HN : Hid ((∀ w', Below w.heap.size w w' → Nums w' dv ds) ∧ ds.length ≤ 1000) := ⟨fun w' hb => h.later hb, hl⟩
  obtain ⟨y, hy⟩ : ∃ y, omB ⟨ok, oid, ⟨ec, et, ex, em, ek, ee⟩, ot, om, ow, oc, ov, ds⟩ = y := ⟨_, rfl⟩
  have HY : Hid (omB ⟨ok, oid, ⟨ec, et, ex, em, ek, ee⟩, ot, om, ow, oc, ov, ds⟩ = y) := hy
  clear h hl hy
  go_enter Try.func10, Try.ntmps10
  go_upto_region 1 with fail
  generalize (w.alloc (.cells #[.int .i64 ok, .int .i64 oid, .int .i64 ec, .int .i64 et, .int .i64 ex, .int .i64 em, .int .i64 ek, .int .i64 ee, .int .i64 ot, .int .i64 om, .int .i64 ow, .int .i64 oc, .int .i64 ov, dv] 26)) = W0 at *
  have hl0 := HB0.out.1.lt
  go_wp2_with (refine load_bk rfl 26 _ rfl _ 0 [.int .i64 ok, .int .i64 oid, .int .i64 ec, .int .i64 et, .int .i64 ex, .int .i64 em, .int .i64 ek, .int .i64 ee, .int .i64 ot, .int .i64 om, .int .i64 ow, .int .i64 oc, .int .i64 ov, dv] [.int .i64 ok, .int .i64 oid, .int .i64 ec, .int .i64 et, .int .i64 ex, .int .i64 em, .int .i64 ek, .int .i64 ee, .int .i64 ot, .int .i64 om, .int .i64 ow, .int .i64 oc, .int .i64 ov, dv] rfl HB0.out.1 rfl _ Try.underlying26 rfl (by kernel_rfl) ?_)
  refine (romay_any ok oid ec et ex em ek ee ot om ow oc ov dv ds _ (HN.out.1 _ HB0.out.2) HN.out.2).mono ?_
  rintro e w1 ⟨rfl, hb1⟩
  rw [HY.out]
  have HG : Hid (Bk w1 w.heap.size [.int .i64 ok, .int .i64 oid, .int .i64 ec, .int .i64 et, .int .i64 ex, .int .i64 em, .int .i64 ek, .int .i64 ee, .int .i64 ot, .int .i64 om, .int .i64 ow, .int .i64 oc, .int .i64 ov, dv] ∧ Below w.heap.size w w1) := ⟨HB0.out.1.later hb1, HB0.out.2.trans (hb1.mono HB0.out.2.size)⟩
  clear hb1 HB0 hl0
  cases y with
  | false => go_wp2_with fail; go_ret2; exact ⟨_, by rw [HY.out]; rfl, by rw [HY.out]; exact OwY.nil _ _, HG.out.2⟩
  | true =>
    have hl1 := HG.out.1.lt
    have e0 : w1.cell? ⟨w.heap.size, 0, none⟩ = some (.int .i64 ok) := HG.out.1.cell rfl
    rcases om_cases HY.out with ⟨s, e, h1⟩ | ⟨id, t, m, e, h1, h2, h3⟩ | ⟨id, e, h1⟩ | ⟨w', c, v, e, h1, h2, h3⟩ | ⟨d, e, h1, h2⟩
    · simp only [Ow.mk.injEq] at e
      obtain ⟨rfl, rfl, rfl, rfl, rfl, rfl, rfl, rfl, rfl⟩ := e
      have hs := of_decide_eq_true h1
      simp only at hs
      have HS : Hid (∀ i, i < 6 → 0 ≤ [ec, et, ex, em, ek, ee].getD i 0 ∧ [ec, et, ex, em, ek, ee].getD i 0 ≤ 255) := fun i hi => by
        rcases (show i = 0 ∨ i = 1 ∨ i = 2 ∨ i = 3 ∨ i = 4 ∨ i = 5 by omega) with rfl | rfl | rfl | rfl | rfl | rfl <;> simp <;> omega
      have u0 : IntKind.u8.wrap ec = ec := by rw [IntKind.wrap_u8]; omega
      have u1 : IntKind.u8.wrap et = et := by rw [IntKind.wrap_u8]; omega
      have u2 : IntKind.u8.wrap ex = ex := by rw [IntKind.wrap_u8]; omega
      have u3 : IntKind.u8.wrap em = em := by rw [IntKind.wrap_u8]; omega
      have u4' : IntKind.u8.wrap ek = ek := by rw [IntKind.wrap_u8]; omega
      have u5' : IntKind.u8.wrap ee = ee := by rw [IntKind.wrap_u8]; omega
      clear h1 hs
      go_upto_region 7 with fail
      have HO : Hid (OwY (w1.alloc (.cells #[.int .u8 0] 5)) (w.heap.size + 1) (.slice (some ⟨w1.heap.size, 0, none⟩) 1 1) [0] ∧ Below w.heap.size w (w1.alloc (.cells #[.int .u8 0] 5)) ∧ w.heap.size + 1 ≤ (w1.alloc (.cells #[.int .u8 0] 5)).heap.size) := ⟨owy_one _ _ _ hl1, HG.out.2.alloc HG.out.2.size _, by simp; omega⟩
      have c2 : (w1.alloc (.cells #[.int .u8 0] 5)).cell? ⟨w.heap.size, 2, none⟩ = some (.int .i64 ec) := (HG.out.1.later (below_b1 _ _)).cell rfl
      have c3 : (w1.alloc (.cells #[.int .u8 0] 5)).cell? ⟨w.heap.size, 3, none⟩ = some (.int .i64 et) := (HG.out.1.later (below_b1 _ _)).cell rfl
      have c4 : (w1.alloc (.cells #[.int .u8 0] 5)).cell? ⟨w.heap.size, 4, none⟩ = some (.int .i64 ex) := (HG.out.1.later (below_b1 _ _)).cell rfl
      have c5 : (w1.alloc (.cells #[.int .u8 0] 5)).cell? ⟨w.heap.size, 5, none⟩ = some (.int .i64 em) := (HG.out.1.later (below_b1 _ _)).cell rfl
      have c6 : (w1.alloc (.cells #[.int .u8 0] 5)).cell? ⟨w.heap.size, 6, none⟩ = some (.int .i64 ek) := (HG.out.1.later (below_b1 _ _)).cell rfl
      have c7 : (w1.alloc (.cells #[.int .u8 0] 5)).cell? ⟨w.heap.size, 7, none⟩ = some (.int .i64 ee) := (HG.out.1.later (below_b1 _ _)).cell rfl
      clear e0
      generalize (w1.alloc (.cells #[.int .u8 0] 5)) = W2 at *
      go_wp2_with (first | (at_builtin; refine append_bys rfl _ _ rfl (w.heap.size + 1) _ _ 1 [0] [ec, et, ex, em, ek, ee] rfl (HO.out.1.later (below_b1 _ _)) rfl ((owy_six W2 W2.heap.size ec et ex em ek ee (Nat.le_refl _)).bys HS.out) (by simp) (Nat.le_trans HO.out.2.2 (by simp)) ?_; intro v9 w9 ho9 hb9))
      go_ret2
      exact ⟨_, by rw [HY.out]; rfl, by rw [HY.out]; exact OwY.lower (B := w.heap.size + 1) ho9 (by omega), (HO.out.2.1.alloc HO.out.2.1.size _).trans (hb9.mono (by omega))⟩
    · simp only [Ow.mk.injEq, Sp.mk.injEq] at e
      obtain ⟨rfl, rfl, ⟨rfl, rfl, rfl, rfl, rfl, rfl⟩, rfl, rfl, rfl, rfl, rfl, rfl⟩ := e
      have HI : Hid (0 ≤ oid ∧ oid ≤ 65535) := h1
      have HRP : Hid (∀ i, i < [oid / 256, oid % 256].length → 0 ≤ [oid / 256, oid % 256].getD i 0 ∧ [oid / 256, oid % 256].getD i 0 ≤ 255) := fun i hi => by rcases (show i = 0 ∨ i = 1 by simp at hi; omega) with rfl | rfl <;> simp <;> omega
      have HRB : Hid (∀ i, i < [ot, om].length → 0 ≤ [ot, om].getD i 0 ∧ [ot, om].getD i 0 ≤ 255) := fun i hi => by rcases (show i = 0 ∨ i = 1 by simp at hi; omega) with rfl | rfl <;> simp <;> omega
      have ut : IntKind.u8.wrap ot = ot := by rw [IntKind.wrap_u8]; omega
      have um : IntKind.u8.wrap om = om := by rw [IntKind.wrap_u8]; omega
      clear h1 h2 h3
      go_upto_region 9 with fail
      have HC0 : ∀ y, Below (w.heap.size + 1) w1 y → (y.cell? ⟨w.heap.size, 1, none⟩ = some (.int .i64 oid) ∧ y.cell? ⟨w.heap.size, 8, none⟩ = some (.int .i64 ot) ∧ y.cell? ⟨w.heap.size, 9, none⟩ = some (.int .i64 om)) := fun y hy => ⟨(HG.out.1.keep hy (by omega)).cell rfl, (HG.out.1.keep hy (by omega)).cell rfl, (HG.out.1.keep hy (by omega)).cell rfl⟩
      clear e0
      have HW2 : Hid (Below w.heap.size w (w1.alloc (.cells #[.int .u8 1] 5))) := HG.out.2.alloc HG.out.2.size _
      have HOW : Hid (OwY (w1.alloc (.cells #[.int .u8 1] 5)) (w.heap.size + 1) (.slice (some ⟨w1.heap.size, 0, none⟩) 1 1) [1] ∧ w.heap.size + 1 ≤ (w1.alloc (.cells #[.int .u8 1] 5)).heap.size ∧ w1.heap.size < (w1.alloc (.cells #[.int .u8 1] 5)).heap.size) := ⟨owy_one _ _ _ hl1, by simp; omega, by simp⟩
      have HC : Hid (∀ y, Below (w.heap.size + 1) (w1.alloc (.cells #[.int .u8 1] 5)) y → (y.cell? ⟨w.heap.size, 1, none⟩ = some (.int .i64 oid) ∧ y.cell? ⟨w.heap.size, 8, none⟩ = some (.int .i64 ot) ∧ y.cell? ⟨w.heap.size, 9, none⟩ = some (.int .i64 om))) := fun y hy => HC0 y (((below_b1 w1 _).mono hl1).trans hy)
      clear HC0 HG hl1
      generalize (w1.alloc (.cells #[.int .u8 1] 5)) = W2 at *
      generalize w1.heap.size = q0 at *
      refine wp_region_held_drew (S := (fun w' : World => w'.cell? ⟨w.heap.size, 1, none⟩ = some (.int .i64 oid) ∧ w'.cell? ⟨w.heap.size, 8, none⟩ = some (.int .i64 ot) ∧ w'.cell? ⟨w.heap.size, 9, none⟩ = some (.int .i64 om))) (by kernel_rfl) ?_ (fun hHeld => ?_)
      · exact HC.out _ (Below.refl _ _).drew
      have HBel0 : Hid (Below (w.heap.size + 1) W2 W2.drew) := (Below.refl _ _).drew
      have HO0 : Hid (OwY W2.drew (w.heap.size + 1) (.slice (some ⟨q0, 0, none⟩) 1 1) [1]) := HOW.out.1.later (Below.refl _ _).drew
      have HZ0 : Hid (w.heap.size + 1 ≤ W2.drew.heap.size ∧ q0 < W2.drew.heap.size) := HOW.out.2
      generalize W2.drew = x0 at *
      refine wpAnyH_take (i := 0) (oi := { dst := some 48, op := Op.move (Operand.tmp 5), type := 27, pos := _, after := _, guard := none }) (v := ?_) rfl (by kernel_rfl) (by kernel_rfl) (by kernel_rfl) (fun _ _ _ h => h) (Or.inl ⟨by rfl, ?_⟩) (by assumption) ?_
      rotate_left
      · intro wS hSw; (try dsimp only at hSw); go_simp; first | done | with_reducible rfl
      try simp only [Act.put, List.setIfInBounds_toArray, List.set_cons_zero, List.set_cons_succ]
      refine wpAnyH_take (i := 1) (oi := { dst := some 49, op := Op.fieldAddr 26 (Operand.tmp 1) 1, type := 0, pos := _, after := _, guard := none }) (v := ?_) rfl (by kernel_rfl) (by kernel_rfl) (by kernel_rfl) (fun _ _ _ h => h) (Or.inl ⟨by rfl, ?_⟩) (by assumption) ?_
      rotate_left
      · intro wS hSw; (try dsimp only at hSw); go_simp; first | done | with_reducible rfl
      try simp only [Act.put, List.setIfInBounds_toArray, List.set_cons_zero, List.set_cons_succ]
      refine wpAnyH_take (i := 2) (oi := { dst := some 50, op := Op.load 3 (Operand.tmp 49), type := 3, pos := _, after := _, guard := none }) (v := ?_) rfl (by kernel_rfl) (by kernel_rfl) (by kernel_rfl) (fun _ _ _ h => h) (Or.inl ⟨by rfl, ?_⟩) (by assumption) ?_
      rotate_left
      · intro wS hSw; (try dsimp only at hSw); go_simp; first | done | with_reducible rfl
      try simp only [Act.put, List.setIfInBounds_toArray, List.set_cons_zero, List.set_cons_succ]
      refine wpAnyH_take (i := 5) (oi := { dst := some 53, op := Op.fieldAddr 26 (Operand.tmp 1) 3, type := 0, pos := _, after := _, guard := none }) (v := ?_) rfl (by kernel_rfl) (by kernel_rfl) (by kernel_rfl) (fun _ _ _ h => h) (Or.inl ⟨by rfl, ?_⟩) (by assumption) ?_
      rotate_left
      · intro wS hSw; (try dsimp only at hSw); go_simp; first | done | with_reducible rfl
      try simp only [Act.put, List.setIfInBounds_toArray, List.set_cons_zero, List.set_cons_succ]
      refine wpAnyH_take (i := 6) (oi := { dst := some 54, op := Op.load 3 (Operand.tmp 53), type := 3, pos := _, after := _, guard := none }) (v := ?_) rfl (by kernel_rfl) (by kernel_rfl) (by kernel_rfl) (fun _ _ _ h => h) (Or.inl ⟨by rfl, ?_⟩) (by assumption) ?_
      rotate_left
      · intro wS hSw; (try dsimp only at hSw); go_simp; first | done | with_reducible rfl
      try simp only [Act.put, List.setIfInBounds_toArray, List.set_cons_zero, List.set_cons_succ]
      refine wpAnyH_take (i := 7) (oi := { dst := some 55, op := Op.convert 3 5 (Operand.tmp 54), type := 5, pos := _, after := _, guard := none }) (v := ?_) rfl (by kernel_rfl) (by kernel_rfl) (by kernel_rfl) (fun _ _ _ h => h) (Or.inl ⟨by rfl, ?_⟩) (by assumption) ?_
      rotate_left
      · intro wS hSw; (try dsimp only at hSw); go_simp; first | done | with_reducible rfl
      try simp only [Act.put, List.setIfInBounds_toArray, List.set_cons_zero, List.set_cons_succ]
      refine wpAnyH_take (i := 8) (oi := { dst := some 56, op := Op.fieldAddr 26 (Operand.tmp 1) 4, type := 0, pos := _, after := _, guard := none }) (v := ?_) rfl (by kernel_rfl) (by kernel_rfl) (by kernel_rfl) (fun _ _ _ h => h) (Or.inl ⟨by rfl, ?_⟩) (by assumption) ?_
      rotate_left
      · intro wS hSw; (try dsimp only at hSw); go_simp; first | done | with_reducible rfl
      try simp only [Act.put, List.setIfInBounds_toArray, List.set_cons_zero, List.set_cons_succ]
      refine wpAnyH_take (i := 9) (oi := { dst := some 57, op := Op.load 3 (Operand.tmp 56), type := 3, pos := _, after := _, guard := none }) (v := ?_) rfl (by kernel_rfl) (by kernel_rfl) (by kernel_rfl) (fun _ _ _ h => h) (Or.inl ⟨by rfl, ?_⟩) (by assumption) ?_
      rotate_left
      · intro wS hSw; (try dsimp only at hSw); go_simp; first | done | with_reducible rfl
      try simp only [Act.put, List.setIfInBounds_toArray, List.set_cons_zero, List.set_cons_succ]
      refine wpAnyH_take (i := 10) (oi := { dst := some 58, op := Op.convert 3 5 (Operand.tmp 57), type := 5, pos := _, after := _, guard := none }) (v := ?_) rfl (by kernel_rfl) (by kernel_rfl) (by kernel_rfl) (fun _ _ _ h => h) (Or.inl ⟨by rfl, ?_⟩) (by assumption) ?_
      rotate_left
      · intro wS hSw; (try dsimp only at hSw); go_simp; first | done | with_reducible rfl
      try simp only [Act.put, List.setIfInBounds_toArray, List.set_cons_zero, List.set_cons_succ]
      refine wpAnyH_ready (rs := [3, 11]) (by kernel_rfl) (by simp) ?_
      refine (AllReadyH.cons (o := { dst := some 51, op := Op.call { callee := Callee.value (Operand.func 24), args := #[Operand.tmp 50], argTypes := #[3] }, type := 27, pos := _, after := _, guard := none }) rfl (fun K hK => ?_) (AllReadyH.cons (o := { dst := some 59, op := Op.buildSlice 27 2 #[(0, Operand.tmp 55), (1, Operand.tmp 58)], type := 27, pos := _, after := _, guard := none }) rfl (fun K hK => ?_) AllReadyH.nil))
      · go_simp
        refine (ropair_any oid _ HI.out).mono ?_
        rintro e x1 ⟨vp, rfl, hop, hb1⟩
        have HO1 : Hid (OwY x1 (w.heap.size + 1) (.slice (some ⟨q0, 0, none⟩) 1 1) [1]) := HO0.out.later hb1
        have HP1 : Hid (OwY x1 x0.heap.size vp [oid / 256, oid % 256] ∧ q0 < x0.heap.size) := ⟨hop, HZ0.out.2⟩
        have HBel1 : Hid (Below (w.heap.size + 1) W2 x1) := HBel0.out.trans (hb1.mono HZ0.out.1)
        have HZ1 : Hid (w.heap.size + 1 ≤ x1.heap.size ∧ q0 < x1.heap.size) := ⟨Nat.le_trans HZ0.out.1 hb1.size, Nat.lt_of_lt_of_le HZ0.out.2 hb1.size⟩
        clear hop hb1
        go_wp2_with fail
        refine hK.out _ _ ?_ (fun hHeld => ?_)
        · exact HC.out _ HBel1.out
        clear hK K
        try simp only [Act.put, List.setIfInBounds_toArray, List.set_cons_zero, List.set_cons_succ]
        refine wpAnyH_ready (rs := [4, 11]) (by kernel_rfl) (by simp) ?_
        refine (AllReadyH.cons (o := { dst := some 52, op := Op.call { callee := Callee.builtin Builtin.append, args := #[Operand.tmp 48, Operand.tmp 51], argTypes := #[27, 27] }, type := 27, pos := _, after := _, guard := none }) rfl (fun K hK => ?_) (AllReadyH.cons (o := { dst := some 59, op := Op.buildSlice 27 2 #[(0, Operand.tmp 55), (1, Operand.tmp 58)], type := 27, pos := _, after := _, guard := none }) rfl (fun K hK => ?_) AllReadyH.nil))
        · refine step_append_bysK rfl _ _ rfl (w.heap.size + 1) (.slice (some ⟨q0, 0, none⟩) 1 1) _ [1] [oid / 256, oid % 256] rfl HO1.out rfl (HP1.out.1.bys HRP.out) (by simp) (by simp) HZ1.out.1 ?_
          intro v2 x2 ho2 hg2
          have HO2 : Hid (OwY x2 (w.heap.size + 1) v2 ([1] ++ [oid / 256, oid % 256])) := ho2
          have HBel2 : Hid (Below (w.heap.size + 1) W2 x2) := HBel1.out.grown hg2 HZ1.out.1 (fun k hk => (OwY.low15 HO1.out k hk))
          have HZ2 : Hid (w.heap.size + 1 ≤ x2.heap.size ∧ q0 < x2.heap.size) := ⟨Nat.le_trans HZ1.out.1 hg2.size, Nat.lt_of_lt_of_le HZ1.out.2 hg2.size⟩
          clear ho2 hg2
          refine hK.out _ _ ?_ (fun hHeld => ?_)
          · exact HC.out _ HBel2.out
          clear hK K
          try simp only [Act.put, List.setIfInBounds_toArray, List.set_cons_zero, List.set_cons_succ]
          refine wpAnyH_ready (rs := [11]) (by kernel_rfl) (by simp) ?_
          refine (AllReadyH.cons (o := { dst := some 59, op := Op.buildSlice 27 2 #[(0, Operand.tmp 55), (1, Operand.tmp 58)], type := 27, pos := _, after := _, guard := none }) rfl (fun K hK => ?_) AllReadyH.nil)
          go_simp
          obtain ⟨x3, hx3⟩ : ∃ y, (x2.alloc (.cells #[.int .u8 ot, .int .u8 om] 5)) = y := ⟨_, rfl⟩
          rw [hx3]
          have HBA3 : Hid (Below x2.heap.size x2 x3 ∧ OwY x3 x2.heap.size (.slice (some ⟨x2.heap.size, 0, none⟩) 2 2) [ot, om]) := hx3 ▸ ⟨below_b1 _ _, owy_two _ _ _ _ (Nat.le_refl _)⟩
          clear hx3
          have HO3 : Hid (OwY x3 (w.heap.size + 1) v2 ([1] ++ [oid / 256, oid % 256])) := HO2.out.later HBA3.out.1
          have HB3 : Hid (OwY x3 x2.heap.size (.slice (some ⟨x2.heap.size, 0, none⟩) 2 2) [ot, om] ∧ q0 < x2.heap.size) := ⟨HBA3.out.2, HZ2.out.2⟩
          have HBel3 : Hid (Below (w.heap.size + 1) W2 x3) := HBel2.out.trans (HBA3.out.1.mono HZ2.out.1)
          have HZ3 : Hid (w.heap.size + 1 ≤ x3.heap.size ∧ q0 < x3.heap.size) := ⟨Nat.le_trans HZ2.out.1 HBA3.out.1.size, Nat.lt_of_lt_of_le HZ2.out.2 HBA3.out.1.size⟩
          clear HBA3
          refine hK.out _ _ ?_ (fun hHeld => ?_)
          · exact HC.out _ HBel3.out
          clear hK K
          try simp only [Act.put, List.setIfInBounds_toArray, List.set_cons_zero, List.set_cons_succ]
          refine wpAnyH_ready (rs := [12]) (by kernel_rfl) (by simp) ?_
          refine (AllReadyH.cons (o := { dst := some 60, op := Op.call { callee := Callee.builtin Builtin.append, args := #[Operand.tmp 52, Operand.tmp 59], argTypes := #[27, 27] }, type := 27, pos := _, after := _, guard := none }) rfl (fun K hK => ?_) AllReadyH.nil)
          refine step_append_bysK rfl _ _ rfl (w.heap.size + 1) v2 _ ([1] ++ [oid / 256, oid % 256]) [ot, om] rfl HO3.out rfl (HB3.out.1.bys HRB.out) (by simp) (by simp) HZ3.out.1 ?_
          intro v4 x4 ho4 hg4
          have HO4 : Hid (OwY x4 (w.heap.size + 1) v4 (([1] ++ [oid / 256, oid % 256]) ++ [ot, om])) := ho4
          have HBel4 : Hid (Below (w.heap.size + 1) W2 x4) := HBel3.out.grown hg4 HZ3.out.1 (fun k hk => (OwY.low15 HO3.out k hk))
          have HZ4 : Hid (w.heap.size + 1 ≤ x4.heap.size ∧ q0 < x4.heap.size) := ⟨Nat.le_trans HZ3.out.1 hg4.size, Nat.lt_of_lt_of_le HZ3.out.2 hg4.size⟩
          clear ho4 hg4
          refine hK.out _ _ ?_ (fun hHeld => ?_)
          · exact HC.out _ HBel4.out
          clear hK K
          try simp only [Act.put, List.setIfInBounds_toArray, List.set_cons_zero, List.set_cons_succ]
          refine wpAnyH_take (i := 13) (oi := { dst := some 5, op := Op.assign (Operand.tmp 60), type := 27, pos := _, after := _, guard := none }) (v := ?_) rfl (by kernel_rfl) (by kernel_rfl) (by kernel_rfl) (fun _ _ _ h => h) (Or.inl ⟨by rfl, ?_⟩) (by assumption) ?_
          rotate_left
          · intro wS hSw; (try dsimp only at hSw); go_simp; first | done | with_reducible rfl
          try simp only [Act.put, List.setIfInBounds_toArray, List.set_cons_zero, List.set_cons_succ]
          refine wpAnyH_done (by kernel_rfl) ?_ _
          go_wp2_with fail
          go_ret2
          exact ⟨_, by rw [HY.out]; rfl, by rw [HY.out]; exact OwY.lower (B := w.heap.size + 1) HO4.out (by omega), HW2.out.trans (HBel4.out.mono (by omega))⟩
        · go_simp
          obtain ⟨x5, hx5⟩ : ∃ y, (x1.alloc (.cells #[.int .u8 ot, .int .u8 om] 5)) = y := ⟨_, rfl⟩
          rw [hx5]
          have HBA5 : Hid (Below x1.heap.size x1 x5 ∧ OwY x5 x1.heap.size (.slice (some ⟨x1.heap.size, 0, none⟩) 2 2) [ot, om]) := hx5 ▸ ⟨below_b1 _ _, owy_two _ _ _ _ (Nat.le_refl _)⟩
          clear hx5
          have HO5 : Hid (OwY x5 (w.heap.size + 1) (.slice (some ⟨q0, 0, none⟩) 1 1) [1]) := HO1.out.later HBA5.out.1
          have HB5 : Hid (OwY x5 x1.heap.size (.slice (some ⟨x1.heap.size, 0, none⟩) 2 2) [ot, om] ∧ q0 < x1.heap.size) := ⟨HBA5.out.2, HZ1.out.2⟩
          have HP5 : Hid (OwY x5 x0.heap.size vp [oid / 256, oid % 256] ∧ q0 < x0.heap.size) := ⟨HP1.out.1.later HBA5.out.1, HP1.out.2⟩
          have HBel5 : Hid (Below (w.heap.size + 1) W2 x5) := HBel1.out.trans (HBA5.out.1.mono HZ1.out.1)
          have HZ5 : Hid (w.heap.size + 1 ≤ x5.heap.size ∧ q0 < x5.heap.size) := ⟨Nat.le_trans HZ1.out.1 HBA5.out.1.size, Nat.lt_of_lt_of_le HZ1.out.2 HBA5.out.1.size⟩
          clear HBA5
          refine hK.out _ _ ?_ (fun hHeld => ?_)
          · exact HC.out _ HBel5.out
          clear hK K
          try simp only [Act.put, List.setIfInBounds_toArray, List.set_cons_zero, List.set_cons_succ]
          refine wpAnyH_ready (rs := [4]) (by kernel_rfl) (by simp) ?_
          refine (AllReadyH.cons (o := { dst := some 52, op := Op.call { callee := Callee.builtin Builtin.append, args := #[Operand.tmp 48, Operand.tmp 51], argTypes := #[27, 27] }, type := 27, pos := _, after := _, guard := none }) rfl (fun K hK => ?_) AllReadyH.nil)
          refine step_append_bysK rfl _ _ rfl (w.heap.size + 1) (.slice (some ⟨q0, 0, none⟩) 1 1) _ [1] [oid / 256, oid % 256] rfl HO5.out rfl (HP5.out.1.bys HRP.out) (by simp) (by simp) HZ5.out.1 ?_
          intro v6 x6 ho6 hg6
          have HO6 : Hid (OwY x6 (w.heap.size + 1) v6 ([1] ++ [oid / 256, oid % 256])) := ho6
          have HB6 : Hid (OwY x6 x1.heap.size (.slice (some ⟨x1.heap.size, 0, none⟩) 2 2) [ot, om] ∧ q0 < x1.heap.size) := ⟨HB5.out.1.kept15 hg6 (fun k hk => by simp [Value.ownBlock] at hk; have := HB5.out.2; omega), HB5.out.2⟩
          have HBel6 : Hid (Below (w.heap.size + 1) W2 x6) := HBel5.out.grown hg6 HZ5.out.1 (fun k hk => (OwY.low15 HO5.out k hk))
          have HZ6 : Hid (w.heap.size + 1 ≤ x6.heap.size ∧ q0 < x6.heap.size) := ⟨Nat.le_trans HZ5.out.1 hg6.size, Nat.lt_of_lt_of_le HZ5.out.2 hg6.size⟩
          clear ho6 hg6
          refine hK.out _ _ ?_ (fun hHeld => ?_)
          · exact HC.out _ HBel6.out
          clear hK K
          try simp only [Act.put, List.setIfInBounds_toArray, List.set_cons_zero, List.set_cons_succ]
          refine wpAnyH_ready (rs := [12]) (by kernel_rfl) (by simp) ?_
          refine (AllReadyH.cons (o := { dst := some 60, op := Op.call { callee := Callee.builtin Builtin.append, args := #[Operand.tmp 52, Operand.tmp 59], argTypes := #[27, 27] }, type := 27, pos := _, after := _, guard := none }) rfl (fun K hK => ?_) AllReadyH.nil)
          refine step_append_bysK rfl _ _ rfl (w.heap.size + 1) v6 _ ([1] ++ [oid / 256, oid % 256]) [ot, om] rfl HO6.out rfl (HB6.out.1.bys HRB.out) (by simp) (by simp) HZ6.out.1 ?_
          intro v7 x7 ho7 hg7
          have HO7 : Hid (OwY x7 (w.heap.size + 1) v7 (([1] ++ [oid / 256, oid % 256]) ++ [ot, om])) := ho7
          have HBel7 : Hid (Below (w.heap.size + 1) W2 x7) := HBel6.out.grown hg7 HZ6.out.1 (fun k hk => (OwY.low15 HO6.out k hk))
          have HZ7 : Hid (w.heap.size + 1 ≤ x7.heap.size ∧ q0 < x7.heap.size) := ⟨Nat.le_trans HZ6.out.1 hg7.size, Nat.lt_of_lt_of_le HZ6.out.2 hg7.size⟩
          clear ho7 hg7
          refine hK.out _ _ ?_ (fun hHeld => ?_)
          · exact HC.out _ HBel7.out
          clear hK K
          try simp only [Act.put, List.setIfInBounds_toArray, List.set_cons_zero, List.set_cons_succ]
          refine wpAnyH_take (i := 13) (oi := { dst := some 5, op := Op.assign (Operand.tmp 60), type := 27, pos := _, after := _, guard := none }) (v := ?_) rfl (by kernel_rfl) (by kernel_rfl) (by kernel_rfl) (fun _ _ _ h => h) (Or.inl ⟨by rfl, ?_⟩) (by assumption) ?_
          rotate_left
          · intro wS hSw; (try dsimp only at hSw); go_simp; first | done | with_reducible rfl
          try simp only [Act.put, List.setIfInBounds_toArray, List.set_cons_zero, List.set_cons_succ]
          refine wpAnyH_done (by kernel_rfl) ?_ _
          go_wp2_with fail
          go_ret2
          exact ⟨_, by rw [HY.out]; rfl, by rw [HY.out]; exact OwY.lower (B := w.heap.size + 1) HO7.out (by omega), HW2.out.trans (HBel7.out.mono (by omega))⟩
      · go_simp
        obtain ⟨x8, hx8⟩ : ∃ y, (x0.alloc (.cells #[.int .u8 ot, .int .u8 om] 5)) = y := ⟨_, rfl⟩
        rw [hx8]
        have HBA8 : Hid (Below x0.heap.size x0 x8 ∧ OwY x8 x0.heap.size (.slice (some ⟨x0.heap.size, 0, none⟩) 2 2) [ot, om]) := hx8 ▸ ⟨below_b1 _ _, owy_two _ _ _ _ (Nat.le_refl _)⟩
        clear hx8
        have HO8 : Hid (OwY x8 (w.heap.size + 1) (.slice (some ⟨q0, 0, none⟩) 1 1) [1]) := HO0.out.later HBA8.out.1
        have HB8 : Hid (OwY x8 x0.heap.size (.slice (some ⟨x0.heap.size, 0, none⟩) 2 2) [ot, om] ∧ q0 < x0.heap.size) := ⟨HBA8.out.2, HZ0.out.2⟩
        have HBel8 : Hid (Below (w.heap.size + 1) W2 x8) := HBel0.out.trans (HBA8.out.1.mono HZ0.out.1)
        have HZ8 : Hid (w.heap.size + 1 ≤ x8.heap.size ∧ q0 < x8.heap.size) := ⟨Nat.le_trans HZ0.out.1 HBA8.out.1.size, Nat.lt_of_lt_of_le HZ0.out.2 HBA8.out.1.size⟩
        clear HBA8
        refine hK.out _ _ ?_ (fun hHeld => ?_)
        · exact HC.out _ HBel8.out
        clear hK K
        try simp only [Act.put, List.setIfInBounds_toArray, List.set_cons_zero, List.set_cons_succ]
        refine wpAnyH_ready (rs := [3]) (by kernel_rfl) (by simp) ?_
        refine (AllReadyH.cons (o := { dst := some 51, op := Op.call { callee := Callee.value (Operand.func 24), args := #[Operand.tmp 50], argTypes := #[3] }, type := 27, pos := _, after := _, guard := none }) rfl (fun K hK => ?_) AllReadyH.nil)
        go_simp
        refine (ropair_any oid _ HI.out).mono ?_
        rintro e x9 ⟨vp, rfl, hop, hb9⟩
        have HO9 : Hid (OwY x9 (w.heap.size + 1) (.slice (some ⟨q0, 0, none⟩) 1 1) [1]) := HO8.out.later hb9
        have HP9 : Hid (OwY x9 x8.heap.size vp [oid / 256, oid % 256] ∧ q0 < x8.heap.size) := ⟨hop, HZ8.out.2⟩
        have HB9 : Hid (OwY x9 x0.heap.size (.slice (some ⟨x0.heap.size, 0, none⟩) 2 2) [ot, om] ∧ q0 < x0.heap.size) := ⟨HB8.out.1.later hb9, HB8.out.2⟩
        have HBel9 : Hid (Below (w.heap.size + 1) W2 x9) := HBel8.out.trans (hb9.mono HZ8.out.1)
        have HZ9 : Hid (w.heap.size + 1 ≤ x9.heap.size ∧ q0 < x9.heap.size) := ⟨Nat.le_trans HZ8.out.1 hb9.size, Nat.lt_of_lt_of_le HZ8.out.2 hb9.size⟩
        clear hop hb9
        go_wp2_with fail
        refine hK.out _ _ ?_ (fun hHeld => ?_)
        · exact HC.out _ HBel9.out
        clear hK K
        try simp only [Act.put, List.setIfInBounds_toArray, List.set_cons_zero, List.set_cons_succ]
        refine wpAnyH_ready (rs := [4]) (by kernel_rfl) (by simp) ?_
        refine (AllReadyH.cons (o := { dst := some 52, op := Op.call { callee := Callee.builtin Builtin.append, args := #[Operand.tmp 48, Operand.tmp 51], argTypes := #[27, 27] }, type := 27, pos := _, after := _, guard := none }) rfl (fun K hK => ?_) AllReadyH.nil)
        refine step_append_bysK rfl _ _ rfl (w.heap.size + 1) (.slice (some ⟨q0, 0, none⟩) 1 1) _ [1] [oid / 256, oid % 256] rfl HO9.out rfl (HP9.out.1.bys HRP.out) (by simp) (by simp) HZ9.out.1 ?_
        intro v10 x10 ho10 hg10
        have HO10 : Hid (OwY x10 (w.heap.size + 1) v10 ([1] ++ [oid / 256, oid % 256])) := ho10
        have HB10 : Hid (OwY x10 x0.heap.size (.slice (some ⟨x0.heap.size, 0, none⟩) 2 2) [ot, om] ∧ q0 < x0.heap.size) := ⟨HB9.out.1.kept15 hg10 (fun k hk => by simp [Value.ownBlock] at hk; have := HB9.out.2; omega), HB9.out.2⟩
        have HBel10 : Hid (Below (w.heap.size + 1) W2 x10) := HBel9.out.grown hg10 HZ9.out.1 (fun k hk => (OwY.low15 HO9.out k hk))
        have HZ10 : Hid (w.heap.size + 1 ≤ x10.heap.size ∧ q0 < x10.heap.size) := ⟨Nat.le_trans HZ9.out.1 hg10.size, Nat.lt_of_lt_of_le HZ9.out.2 hg10.size⟩
        clear ho10 hg10
        refine hK.out _ _ ?_ (fun hHeld => ?_)
        · exact HC.out _ HBel10.out
        clear hK K
        try simp only [Act.put, List.setIfInBounds_toArray, List.set_cons_zero, List.set_cons_succ]
        refine wpAnyH_ready (rs := [12]) (by kernel_rfl) (by simp) ?_
        refine (AllReadyH.cons (o := { dst := some 60, op := Op.call { callee := Callee.builtin Builtin.append, args := #[Operand.tmp 52, Operand.tmp 59], argTypes := #[27, 27] }, type := 27, pos := _, after := _, guard := none }) rfl (fun K hK => ?_) AllReadyH.nil)
        refine step_append_bysK rfl _ _ rfl (w.heap.size + 1) v10 _ ([1] ++ [oid / 256, oid % 256]) [ot, om] rfl HO10.out rfl (HB10.out.1.bys HRB.out) (by simp) (by simp) HZ10.out.1 ?_
        intro v11 x11 ho11 hg11
        have HO11 : Hid (OwY x11 (w.heap.size + 1) v11 (([1] ++ [oid / 256, oid % 256]) ++ [ot, om])) := ho11
        have HBel11 : Hid (Below (w.heap.size + 1) W2 x11) := HBel10.out.grown hg11 HZ10.out.1 (fun k hk => (OwY.low15 HO10.out k hk))
        have HZ11 : Hid (w.heap.size + 1 ≤ x11.heap.size ∧ q0 < x11.heap.size) := ⟨Nat.le_trans HZ10.out.1 hg11.size, Nat.lt_of_lt_of_le HZ10.out.2 hg11.size⟩
        clear ho11 hg11
        refine hK.out _ _ ?_ (fun hHeld => ?_)
        · exact HC.out _ HBel11.out
        clear hK K
        try simp only [Act.put, List.setIfInBounds_toArray, List.set_cons_zero, List.set_cons_succ]
        refine wpAnyH_take (i := 13) (oi := { dst := some 5, op := Op.assign (Operand.tmp 60), type := 27, pos := _, after := _, guard := none }) (v := ?_) rfl (by kernel_rfl) (by kernel_rfl) (by kernel_rfl) (fun _ _ _ h => h) (Or.inl ⟨by rfl, ?_⟩) (by assumption) ?_
        rotate_left
        · intro wS hSw; (try dsimp only at hSw); go_simp; first | done | with_reducible rfl
        try simp only [Act.put, List.setIfInBounds_toArray, List.set_cons_zero, List.set_cons_succ]
        refine wpAnyH_done (by kernel_rfl) ?_ _
        go_wp2_with fail
        go_ret2
        exact ⟨_, by rw [HY.out]; rfl, by rw [HY.out]; exact OwY.lower (B := w.heap.size + 1) HO11.out (by omega), HW2.out.trans (HBel11.out.mono (by omega))⟩
    · simp only [Ow.mk.injEq, Sp.mk.injEq] at e
      obtain ⟨rfl, rfl, ⟨rfl, rfl, rfl, rfl, rfl, rfl⟩, rfl, rfl, rfl, rfl, rfl, rfl⟩ := e
      have HI : Hid (0 ≤ oid ∧ oid ≤ 65535) := h1
      have e1 : w1.cell? ⟨w.heap.size, 1, none⟩ = some (.int .i64 oid) := HG.out.1.cell rfl
      clear h1
      go_upto_region 11 with fail
      have HO : Hid (OwY (w1.alloc (.cells #[.int .u8 2] 5)) (w.heap.size + 1) (.slice (some ⟨w1.heap.size, 0, none⟩) 1 1) [2] ∧ Below w.heap.size w (w1.alloc (.cells #[.int .u8 2] 5))) := ⟨owy_one _ _ _ hl1, HG.out.2.alloc HG.out.2.size _⟩
      have e2 : (w1.alloc (.cells #[.int .u8 2] 5)).cell? ⟨w.heap.size, 1, none⟩ = some (.int .i64 oid) := cell_later (below_b1 _ _) e1
      clear e0 e1
      generalize (w1.alloc (.cells #[.int .u8 2] 5)) = W2 at *
      go_wp2_with fail
      refine (ropair_any oid _ HI.out).mono ?_
      rintro e w3 ⟨vp, rfl, hop, hb3⟩
      have HP : Hid (OwY w3 (w.heap.size + 1) (.slice (some ⟨w1.heap.size, 0, none⟩) 1 1) [2] ∧ Bys w3 vp [oid / 256, oid % 256] ∧ Below w.heap.size w w3 ∧ w.heap.size + 1 ≤ w3.heap.size) := ⟨HO.out.1.later hb3, hop.bys (by have := HI.out; intro i hi; rcases (show i = 0 ∨ i = 1 by simp at hi; omega) with rfl | rfl <;> simp <;> omega), HO.out.2.trans (hb3.mono HO.out.2.size), by have := hb3.size; have := World.block_lt_of_cell? _ _ e2; simp at this; omega⟩
      clear hop hb3 HO e2
      go_wp2_with (first | (at_builtin; refine append_bys rfl _ _ rfl (w.heap.size + 1) _ _ 1 [2] [oid / 256, oid % 256] rfl HP.out.1 rfl HP.out.2.1 (by simp) HP.out.2.2.2 ?_; intro v9 w9 ho9 hb9))
      go_ret2
      exact ⟨_, by rw [HY.out]; rfl, by rw [HY.out]; exact OwY.lower (B := w.heap.size + 1) ho9 (by omega), HP.out.2.2.1.trans (hb9.mono (by omega))⟩
    · simp only [Ow.mk.injEq, Sp.mk.injEq] at e
      obtain ⟨rfl, rfl, ⟨rfl, rfl, rfl, rfl, rfl, rfl⟩, rfl, rfl, rfl, rfl, rfl, rfl⟩ := e
      have HI : Hid (0 ≤ ov ∧ ov ≤ 65535) := h3
      have HRP : Hid (∀ i, i < [ov / 256, ov % 256].length → 0 ≤ [ov / 256, ov % 256].getD i 0 ∧ [ov / 256, ov % 256].getD i 0 ≤ 255) := fun i hi => by rcases (show i = 0 ∨ i = 1 by simp at hi; omega) with rfl | rfl <;> simp <;> omega
      have HRB : Hid (∀ i, i < [ow, oc].length → 0 ≤ [ow, oc].getD i 0 ∧ [ow, oc].getD i 0 ≤ 255) := fun i hi => by rcases (show i = 0 ∨ i = 1 by simp at hi; omega) with rfl | rfl <;> simp <;> omega
      have ut : IntKind.u8.wrap ow = ow := by rw [IntKind.wrap_u8]; omega
      have um : IntKind.u8.wrap oc = oc := by rw [IntKind.wrap_u8]; omega
      clear h1 h2 h3
      go_upto_region 13 with fail
      have HC0 : ∀ y, Below (w.heap.size + 1) w1 y → (y.cell? ⟨w.heap.size, 10, none⟩ = some (.int .i64 ow) ∧ y.cell? ⟨w.heap.size, 11, none⟩ = some (.int .i64 oc) ∧ y.cell? ⟨w.heap.size, 12, none⟩ = some (.int .i64 ov)) := fun y hy => ⟨(HG.out.1.keep hy (by omega)).cell rfl, (HG.out.1.keep hy (by omega)).cell rfl, (HG.out.1.keep hy (by omega)).cell rfl⟩
      clear e0
      have HW2 : Hid (Below w.heap.size w (w1.alloc (.cells #[.int .u8 3] 5))) := HG.out.2.alloc HG.out.2.size _
      have HOW : Hid (OwY (w1.alloc (.cells #[.int .u8 3] 5)) (w.heap.size + 1) (.slice (some ⟨w1.heap.size, 0, none⟩) 1 1) [3] ∧ w.heap.size + 1 ≤ (w1.alloc (.cells #[.int .u8 3] 5)).heap.size ∧ w1.heap.size < (w1.alloc (.cells #[.int .u8 3] 5)).heap.size) := ⟨owy_one _ _ _ hl1, by simp; omega, by simp⟩
      have HC : Hid (∀ y, Below (w.heap.size + 1) (w1.alloc (.cells #[.int .u8 3] 5)) y → (y.cell? ⟨w.heap.size, 10, none⟩ = some (.int .i64 ow) ∧ y.cell? ⟨w.heap.size, 11, none⟩ = some (.int .i64 oc) ∧ y.cell? ⟨w.heap.size, 12, none⟩ = some (.int .i64 ov))) := fun y hy => HC0 y (((below_b1 w1 _).mono hl1).trans hy)
      clear HC0 HG hl1
      generalize (w1.alloc (.cells #[.int .u8 3] 5)) = W2 at *
      generalize w1.heap.size = q0 at *
      refine wp_region_held_drew (S := (fun w' : World => w'.cell? ⟨w.heap.size, 10, none⟩ = some (.int .i64 ow) ∧ w'.cell? ⟨w.heap.size, 11, none⟩ = some (.int .i64 oc) ∧ w'.cell? ⟨w.heap.size, 12, none⟩ = some (.int .i64 ov))) (by kernel_rfl) ?_ (fun hHeld => ?_)
      · exact HC.out _ (Below.refl _ _).drew
      have HBel0 : Hid (Below (w.heap.size + 1) W2 W2.drew) := (Below.refl _ _).drew
      have HO0 : Hid (OwY W2.drew (w.heap.size + 1) (.slice (some ⟨q0, 0, none⟩) 1 1) [3]) := HOW.out.1.later (Below.refl _ _).drew
      have HZ0 : Hid (w.heap.size + 1 ≤ W2.drew.heap.size ∧ q0 < W2.drew.heap.size) := HOW.out.2
      generalize W2.drew = x0 at *
      refine wpAnyH_take (i := 0) (oi := { dst := some 70, op := Op.move (Operand.tmp 5), type := 27, pos := _, after := _, guard := none }) (v := ?_) rfl (by kernel_rfl) (by kernel_rfl) (by kernel_rfl) (fun _ _ _ h => h) (Or.inl ⟨by rfl, ?_⟩) (by assumption) ?_
      rotate_left
      · intro wS hSw; (try dsimp only at hSw); go_simp; first | done | with_reducible rfl
      try simp only [Act.put, List.setIfInBounds_toArray, List.set_cons_zero, List.set_cons_succ]
      refine wpAnyH_take (i := 1) (oi := { dst := some 71, op := Op.fieldAddr 26 (Operand.tmp 1) 5, type := 0, pos := _, after := _, guard := none }) (v := ?_) rfl (by kernel_rfl) (by kernel_rfl) (by kernel_rfl) (fun _ _ _ h => h) (Or.inl ⟨by rfl, ?_⟩) (by assumption) ?_
      rotate_left
      · intro wS hSw; (try dsimp only at hSw); go_simp; first | done | with_reducible rfl
      try simp only [Act.put, List.setIfInBounds_toArray, List.set_cons_zero, List.set_cons_succ]
      refine wpAnyH_take (i := 2) (oi := { dst := some 72, op := Op.load 3 (Operand.tmp 71), type := 3, pos := _, after := _, guard := none }) (v := ?_) rfl (by kernel_rfl) (by kernel_rfl) (by kernel_rfl) (fun _ _ _ h => h) (Or.inl ⟨by rfl, ?_⟩) (by assumption) ?_
      rotate_left
      · intro wS hSw; (try dsimp only at hSw); go_simp; first | done | with_reducible rfl
      try simp only [Act.put, List.setIfInBounds_toArray, List.set_cons_zero, List.set_cons_succ]
      refine wpAnyH_take (i := 3) (oi := { dst := some 73, op := Op.convert 3 5 (Operand.tmp 72), type := 5, pos := _, after := _, guard := none }) (v := ?_) rfl (by kernel_rfl) (by kernel_rfl) (by kernel_rfl) (fun _ _ _ h => h) (Or.inl ⟨by rfl, ?_⟩) (by assumption) ?_
      rotate_left
      · intro wS hSw; (try dsimp only at hSw); go_simp; first | done | with_reducible rfl
      try simp only [Act.put, List.setIfInBounds_toArray, List.set_cons_zero, List.set_cons_succ]
      refine wpAnyH_take (i := 4) (oi := { dst := some 74, op := Op.fieldAddr 26 (Operand.tmp 1) 6, type := 0, pos := _, after := _, guard := none }) (v := ?_) rfl (by kernel_rfl) (by kernel_rfl) (by kernel_rfl) (fun _ _ _ h => h) (Or.inl ⟨by rfl, ?_⟩) (by assumption) ?_
      rotate_left
      · intro wS hSw; (try dsimp only at hSw); go_simp; first | done | with_reducible rfl
      try simp only [Act.put, List.setIfInBounds_toArray, List.set_cons_zero, List.set_cons_succ]
      refine wpAnyH_take (i := 5) (oi := { dst := some 75, op := Op.load 3 (Operand.tmp 74), type := 3, pos := _, after := _, guard := none }) (v := ?_) rfl (by kernel_rfl) (by kernel_rfl) (by kernel_rfl) (fun _ _ _ h => h) (Or.inl ⟨by rfl, ?_⟩) (by assumption) ?_
      rotate_left
      · intro wS hSw; (try dsimp only at hSw); go_simp; first | done | with_reducible rfl
      try simp only [Act.put, List.setIfInBounds_toArray, List.set_cons_zero, List.set_cons_succ]
      refine wpAnyH_take (i := 6) (oi := { dst := some 76, op := Op.convert 3 5 (Operand.tmp 75), type := 5, pos := _, after := _, guard := none }) (v := ?_) rfl (by kernel_rfl) (by kernel_rfl) (by kernel_rfl) (fun _ _ _ h => h) (Or.inl ⟨by rfl, ?_⟩) (by assumption) ?_
      rotate_left
      · intro wS hSw; (try dsimp only at hSw); go_simp; first | done | with_reducible rfl
      try simp only [Act.put, List.setIfInBounds_toArray, List.set_cons_zero, List.set_cons_succ]
      refine wpAnyH_take (i := 9) (oi := { dst := some 79, op := Op.fieldAddr 26 (Operand.tmp 1) 7, type := 0, pos := _, after := _, guard := none }) (v := ?_) rfl (by kernel_rfl) (by kernel_rfl) (by kernel_rfl) (fun _ _ _ h => h) (Or.inl ⟨by rfl, ?_⟩) (by assumption) ?_
      rotate_left
      · intro wS hSw; (try dsimp only at hSw); go_simp; first | done | with_reducible rfl
      try simp only [Act.put, List.setIfInBounds_toArray, List.set_cons_zero, List.set_cons_succ]
      refine wpAnyH_take (i := 10) (oi := { dst := some 80, op := Op.load 3 (Operand.tmp 79), type := 3, pos := _, after := _, guard := none }) (v := ?_) rfl (by kernel_rfl) (by kernel_rfl) (by kernel_rfl) (fun _ _ _ h => h) (Or.inl ⟨by rfl, ?_⟩) (by assumption) ?_
      rotate_left
      · intro wS hSw; (try dsimp only at hSw); go_simp; first | done | with_reducible rfl
      try simp only [Act.put, List.setIfInBounds_toArray, List.set_cons_zero, List.set_cons_succ]
      refine wpAnyH_ready (rs := [7]) (by kernel_rfl) (by simp) ?_
      refine (AllReadyH.cons (o := { dst := some 77, op := Op.buildSlice 27 2 #[(0, Operand.tmp 73), (1, Operand.tmp 76)], type := 27, pos := _, after := _, guard := none }) rfl (fun K hK => ?_) AllReadyH.nil)
      go_simp
      obtain ⟨x1, hx1⟩ : ∃ y, (x0.alloc (.cells #[.int .u8 ow, .int .u8 oc] 5)) = y := ⟨_, rfl⟩
      rw [hx1]
      have HBA1 : Hid (Below x0.heap.size x0 x1 ∧ OwY x1 x0.heap.size (.slice (some ⟨x0.heap.size, 0, none⟩) 2 2) [ow, oc]) := hx1 ▸ ⟨below_b1 _ _, owy_two _ _ _ _ (Nat.le_refl _)⟩
      clear hx1
      have HO1 : Hid (OwY x1 (w.heap.size + 1) (.slice (some ⟨q0, 0, none⟩) 1 1) [3]) := HO0.out.later HBA1.out.1
      have HB1 : Hid (OwY x1 x0.heap.size (.slice (some ⟨x0.heap.size, 0, none⟩) 2 2) [ow, oc] ∧ q0 < x0.heap.size) := ⟨HBA1.out.2, HZ0.out.2⟩
      have HBel1 : Hid (Below (w.heap.size + 1) W2 x1) := HBel0.out.trans (HBA1.out.1.mono HZ0.out.1)
      have HZ1 : Hid (w.heap.size + 1 ≤ x1.heap.size ∧ q0 < x1.heap.size) := ⟨Nat.le_trans HZ0.out.1 HBA1.out.1.size, Nat.lt_of_lt_of_le HZ0.out.2 HBA1.out.1.size⟩
      clear HBA1
      refine hK.out _ _ ?_ (fun hHeld => ?_)
      · exact HC.out _ HBel1.out
      clear hK K
      try simp only [Act.put, List.setIfInBounds_toArray, List.set_cons_zero, List.set_cons_succ]
      refine wpAnyH_ready (rs := [8]) (by kernel_rfl) (by simp) ?_
      refine (AllReadyH.cons (o := { dst := some 78, op := Op.call { callee := Callee.builtin Builtin.append, args := #[Operand.tmp 70, Operand.tmp 77], argTypes := #[27, 27] }, type := 27, pos := _, after := _, guard := none }) rfl (fun K hK => ?_) AllReadyH.nil)
      refine step_append_bysK rfl _ _ rfl (w.heap.size + 1) (.slice (some ⟨q0, 0, none⟩) 1 1) _ [3] [ow, oc] rfl HO1.out rfl (HB1.out.1.bys HRB.out) (by simp) (by simp) HZ1.out.1 ?_
      intro v2 x2 ho2 hg2
      have HO2 : Hid (OwY x2 (w.heap.size + 1) v2 ([3] ++ [ow, oc])) := ho2
      have HBel2 : Hid (Below (w.heap.size + 1) W2 x2) := HBel1.out.grown hg2 HZ1.out.1 (fun k hk => (OwY.low15 HO1.out k hk))
      have HZ2 : Hid (w.heap.size + 1 ≤ x2.heap.size ∧ q0 < x2.heap.size) := ⟨Nat.le_trans HZ1.out.1 hg2.size, Nat.lt_of_lt_of_le HZ1.out.2 hg2.size⟩
      clear ho2 hg2
      refine hK.out _ _ ?_ (fun hHeld => ?_)
      · exact HC.out _ HBel2.out
      clear hK K
      try simp only [Act.put, List.setIfInBounds_toArray, List.set_cons_zero, List.set_cons_succ]
      refine wpAnyH_ready (rs := [11]) (by kernel_rfl) (by simp) ?_
      refine (AllReadyH.cons (o := { dst := some 81, op := Op.call { callee := Callee.value (Operand.func 24), args := #[Operand.tmp 80], argTypes := #[3] }, type := 27, pos := _, after := _, guard := none }) rfl (fun K hK => ?_) AllReadyH.nil)
      go_simp
      refine (ropair_any ov _ HI.out).mono ?_
      rintro e x3 ⟨vp, rfl, hop, hb3⟩
      have HO3 : Hid (OwY x3 (w.heap.size + 1) v2 ([3] ++ [ow, oc])) := HO2.out.later hb3
      have HP3 : Hid (OwY x3 x2.heap.size vp [ov / 256, ov % 256] ∧ q0 < x2.heap.size) := ⟨hop, HZ2.out.2⟩
      have HBel3 : Hid (Below (w.heap.size + 1) W2 x3) := HBel2.out.trans (hb3.mono HZ2.out.1)
      have HZ3 : Hid (w.heap.size + 1 ≤ x3.heap.size ∧ q0 < x3.heap.size) := ⟨Nat.le_trans HZ2.out.1 hb3.size, Nat.lt_of_lt_of_le HZ2.out.2 hb3.size⟩
      clear hop hb3
      go_wp2_with fail
      refine hK.out _ _ ?_ (fun hHeld => ?_)
      · exact HC.out _ HBel3.out
      clear hK K
      try simp only [Act.put, List.setIfInBounds_toArray, List.set_cons_zero, List.set_cons_succ]
      refine wpAnyH_ready (rs := [12]) (by kernel_rfl) (by simp) ?_
      refine (AllReadyH.cons (o := { dst := some 82, op := Op.call { callee := Callee.builtin Builtin.append, args := #[Operand.tmp 78, Operand.tmp 81], argTypes := #[27, 27] }, type := 27, pos := _, after := _, guard := none }) rfl (fun K hK => ?_) AllReadyH.nil)
      refine step_append_bysK rfl _ _ rfl (w.heap.size + 1) v2 _ ([3] ++ [ow, oc]) [ov / 256, ov % 256] rfl HO3.out rfl (HP3.out.1.bys HRP.out) (by simp) (by simp) HZ3.out.1 ?_
      intro v4 x4 ho4 hg4
      have HO4 : Hid (OwY x4 (w.heap.size + 1) v4 (([3] ++ [ow, oc]) ++ [ov / 256, ov % 256])) := ho4
      have HBel4 : Hid (Below (w.heap.size + 1) W2 x4) := HBel3.out.grown hg4 HZ3.out.1 (fun k hk => (OwY.low15 HO3.out k hk))
      have HZ4 : Hid (w.heap.size + 1 ≤ x4.heap.size ∧ q0 < x4.heap.size) := ⟨Nat.le_trans HZ3.out.1 hg4.size, Nat.lt_of_lt_of_le HZ3.out.2 hg4.size⟩
      clear ho4 hg4
      refine hK.out _ _ ?_ (fun hHeld => ?_)
      · exact HC.out _ HBel4.out
      clear hK K
      try simp only [Act.put, List.setIfInBounds_toArray, List.set_cons_zero, List.set_cons_succ]
      refine wpAnyH_take (i := 13) (oi := { dst := some 5, op := Op.assign (Operand.tmp 82), type := 27, pos := _, after := _, guard := none }) (v := ?_) rfl (by kernel_rfl) (by kernel_rfl) (by kernel_rfl) (fun _ _ _ h => h) (Or.inl ⟨by rfl, ?_⟩) (by assumption) ?_
      rotate_left
      · intro wS hSw; (try dsimp only at hSw); go_simp; first | done | with_reducible rfl
      try simp only [Act.put, List.setIfInBounds_toArray, List.set_cons_zero, List.set_cons_succ]
      refine wpAnyH_done (by kernel_rfl) ?_ _
      go_wp2_with fail
      go_ret2
      exact ⟨_, by rw [HY.out]; rfl, by rw [HY.out]; exact OwY.lower (B := w.heap.size + 1) HO4.out (by omega), HW2.out.trans (HBel4.out.mono (by omega))⟩
    · simp only [Ow.mk.injEq, Sp.mk.injEq] at e
      obtain ⟨rfl, rfl, ⟨rfl, rfl, rfl, rfl, rfl, rfl⟩, rfl, rfl, rfl, rfl, rfl, rfl⟩ := e
      obtain ⟨a', cap', hdv, n1, n2, n5⟩ := HN.out.1 _ HG.out.2
      subst hdv
      have HL : Hid (ds.length ≤ 4 ∧ ∀ x ∈ ds, 1 ≤ x ∧ x ≤ 20) := ⟨h1, h2⟩
      have e13 : w1.cell? ⟨w.heap.size, 13, none⟩ = some (.slice a' ds.length cap') := HG.out.1.cell rfl
      have ul : IntKind.u8.wrap (ds.length : Int) = ds.length := by rw [IntKind.wrap_u8]; omega
      clear h1 h2
      go_upto_region 15 with fail
      have HO : Hid (OwY (w1.alloc (.cells #[.int .u8 4] 5)) (w.heap.size + 1) (.slice (some ⟨w1.heap.size, 0, none⟩) 1 1) [4] ∧ Below w1.heap.size w1 (w1.alloc (.cells #[.int .u8 4] 5)) ∧ w.heap.size + 1 ≤ (w1.alloc (.cells #[.int .u8 4] 5)).heap.size) := ⟨owy_one _ _ _ hl1, below_b1 _ _, by simp; omega⟩
      have d13 : (w1.alloc (.cells #[.int .u8 4] 5)).cell? ⟨w.heap.size, 13, none⟩ = some (.slice a' ds.length cap') := cell_later (below_b1 _ _) e13
      clear e0 e13
      generalize (w1.alloc (.cells #[.int .u8 4] 5)) = W2 at *
      go_upto_region 16 with (first | (at_builtin; refine append_bys rfl _ _ rfl (w.heap.size + 1) _ _ 1 [4] [(ds.length : Int)] rfl (HO.out.1.later (below_b1 _ _)) rfl (bys_one W2 _ (by have := HL.out.1; omega)) (by simp) (Nat.le_trans HO.out.2.2 (by simp)) ?_; intro v3 w3 ho3 hb3))
      have HX : Hid (OwY w3 (w.heap.size + 1) v3 (4 :: (ds.length : Int) :: ds.take 0) ∧ Bk w3 w.heap.size [.int .i64 4, .int .i64 0, .int .i64 0, .int .i64 0, .int .i64 0, .int .i64 0, .int .i64 0, .int .i64 0, .int .i64 0, .int .i64 0, .int .i64 0, .int .i64 0, .int .i64 0, .slice a' ds.length cap'] ∧ Below w.heap.size w w3 ∧ w.heap.size + 1 ≤ w3.heap.size) := ⟨ho3, ((HG.out.1.later HO.out.2.1).later (below_b1 _ _)).keep hb3 (by omega), ((HG.out.2.trans (HO.out.2.1.mono HG.out.2.size)).alloc (HG.out.2.trans (HO.out.2.1.mono HG.out.2.size)).size _).trans (hb3.mono (by omega)), Nat.le_trans (Nat.le_trans HO.out.2.2 (by simp)) hb3.size⟩
      clear ho3 hb3 HO d13 ul HG hl1 n5
      go_wp2_with fail
      go_loopw [5, 6] (fun v5 iv wr => ∃ j : Nat, j ≤ ds.length ∧ iv = .int .i64 j ∧ Hid (OwY wr (w.heap.size + 1) v5 (4 :: (ds.length : Int) :: ds.take j) ∧ Bk wr w.heap.size [.int .i64 4, .int .i64 0, .int .i64 0, .int .i64 0, .int .i64 0, .int .i64 0, .int .i64 0, .int .i64 0, .int .i64 0, .int .i64 0, .int .i64 0, .int .i64 0, .int .i64 0, .slice a' ds.length cap'] ∧ Below w.heap.size w wr ∧ w.heap.size + 1 ≤ wr.heap.size)) (fun _ iv _ => ((ds.length : Int) - intOf iv).toNat)
      case atStart => exact ⟨0, by omega, by go_num, HX.out⟩
      case round =>
        clear HX
        obtain ⟨j, hj, rfl, HZ⟩ := hrel
        have e13 : wr.cell? ⟨w.heap.size, 13, none⟩ = some (.slice a' ds.length cap') := HZ.out.2.1.cell rfl
        by_cases hjn : j < ds.length
        · have hjn' : (j : Int) < ds.length := by omega
          obtain ⟨ax, cx, exx, _, _, nx5⟩ := HN.out.1 wr HZ.out.2.2.1
          cases exx
          obtain ⟨b, o, hab, h6⟩ := nx5 (by intro e; rw [e] at hjn; simp at hjn)
          obtain ⟨x, hx⟩ : ∃ x, ds.getD j 0 = x := ⟨_, rfl⟩
          have cxx := h6 j hjn
          rw [hx] at cxx
          have hm : 1 ≤ x ∧ x ≤ 20 := HL.out.2 x (by rw [← hx, List.getD_eq_getElem?_getD, List.getElem?_eq_getElem hjn]; exact List.getElem_mem hjn)
          have HM : Hid (0 ≤ x ∧ x ≤ 255) := ⟨by omega, by omega⟩
          have ux : IntKind.u8.wrap x = x := by rw [IntKind.wrap_u8]; omega
          have HT : Hid (4 :: (ds.length : Int) :: ds.take j ++ [x] = 4 :: (ds.length : Int) :: ds.take (j + 1)) := by
            show _ = _
            rw [List.take_add_one, List.getElem?_eq_getElem hjn, ← hx, List.getD_eq_getElem?_getD, List.getElem?_eq_getElem hjn]
            rfl
          have HLN : Hid ((4 :: (ds.length : Int) :: ds.take j).length ≤ 1002) := by show _ ≤ _; have := HN.out.2; simp; omega
          have hwj : IntKind.i64.wrap ((j : Int) + 1) = (j : Int) + 1 := by rw [IntKind.wrap_i64]; have := HN.out.2; omega
          subst hab
          clear h6 nx5 hx hm
          go_wp2_with (first | (at_builtin; refine append_bys rfl _ _ rfl (w.heap.size + 1) _ _ _ (4 :: (ds.length : Int) :: ds.take j) [x] rfl (HZ.out.1.later (below_b1 _ _)) rfl (bys_one wr x HM.out) (by have := HLN.out; simp only [List.length_singleton]; omega) (Nat.le_trans HZ.out.2.2.2 (by simp)) ?_; intro v9 w9 ho9 hb9))
          have HW : Hid (OwY w9 (w.heap.size + 1) v9 (4 :: (ds.length : Int) :: ds.take (j + 1)) ∧ Bk w9 w.heap.size [.int .i64 4, .int .i64 0, .int .i64 0, .int .i64 0, .int .i64 0, .int .i64 0, .int .i64 0, .int .i64 0, .int .i64 0, .int .i64 0, .int .i64 0, .int .i64 0, .int .i64 0, .slice (some ⟨b, o, none⟩) ds.length cap'] ∧ Below w.heap.size w w9 ∧ w.heap.size + 1 ≤ w9.heap.size) := by
            refine ⟨?_, (HZ.out.2.1.later (below_b1 _ _)).keep hb9 (by omega), (HZ.out.2.2.1.alloc HZ.out.2.2.1.size _).trans (hb9.mono (by omega)), Nat.le_trans (Nat.le_trans HZ.out.2.2.2 (by simp)) hb9.size⟩
            rw [← HT.out]
            unfold OwY
            rw [List.length_append]
            exact ho9
          clear HZ ho9 hb9 HT HLN HM
          go_wp2_with fail
          go_roundw
          case rel => exact ⟨j + 1, by omega, by go_num, HW.out⟩
          case measure => simp [intOf]; omega
        · have hjn' : ¬ (j : Int) < ds.length := by omega
          have HT : Hid (ds.take j = ds) := List.take_of_length_le (by omega)
          go_wp2_with fail
          go_ret2
          exact ⟨_, by rw [HY.out]; rfl, by rw [HY.out]; exact OwY.lower (B := w.heap.size + 1) (by have h := HZ.out.1; rw [HT.out] at h; exact h) (by omega), HZ.out.2.2.1⟩
end Go.Proofs.Yteklcolphbcjlaa
/- What bytes ask: plain facts of Get. -/
namespace Go.Proofs.Yteklcolphbcjlaa

/-- What is read, ahead of putting it again. -/
def odG (b : List Int) : Ow :=
  if 0 ≤ b.getD 0 0 ∧ b.getD 0 0 ≤ 4 then odR b else ⟨b.getD 0 0, 0, ⟨0, 0, 0, 0, 0, 0⟩, 0, 0, 0, 0, 0, []⟩
theorem om_kind {p : Ow} (h : omB p = true) : 0 ≤ p.k ∧ p.k ≤ 4 := by
  rcases om_cases h with ⟨s, rfl, _⟩ | ⟨id, t, m, rfl, h1, _⟩ | ⟨id, rfl, h1⟩ | ⟨w, c, v, rfl, _, _, h1⟩ | ⟨d, rfl, _⟩ <;> simp
theorem odG_ob {p : Ow} (h : omB p = true) : odG (obL p) = p := by
  have := om_kind h
  unfold odG
  rw [(ob_head h).1, if_pos this, od_ob h]
/-- Got by putting what is read again. -/
theorem isGet_readG (b : List Int) : IsGet b (if omB (odG b) = true ∧ obL (odG b) = b then odG b else owZ) (decide (omB (odG b) = true ∧ obL (odG b) = b)) := by
  by_cases h : omB (odG b) = true ∧ obL (odG b) = b
  · rw [if_pos h]; exact .inl ⟨decide_eq_true h, h.1, h.2⟩
  · rw [if_neg h]
    refine .inr ⟨decide_eq_false h, rfl, fun p hp e => h ?_⟩
    have : odG b = p := by rw [← e, odG_ob hp]
    rw [this]
    exact ⟨hp, e⟩
/-- None has no bytes, or more than twenty. -/
theorem isGet_long {b : List Int} (h : b.length = 0 ∨ 20 < b.length) : IsGet b owZ false := by
  refine .inr ⟨rfl, rfl, fun p hp e => ?_⟩
  have h1 := (ob_head hp).2
  have h2 : (obL p).length ≤ 20 := by
    rcases om_cases hp with ⟨s, rfl, _⟩ | ⟨id, t, m, rfl, _, _⟩ | ⟨id, rfl, _⟩ | ⟨w, c, v, rfl, _, _, _⟩ | ⟨d, rfl, hd, _⟩ <;> simp [obL]
    omega
  rw [e] at h1 h2
  omega
/-- The bytes behind the first, with zeros behind them. -/
theorem pad_at (b : List Int) (i : Nat) (hi : i < 6) : (b.drop 1 ++ [0, 0, 0, 0, 0, 0]).getD i 0 = b.getD (i + 1) 0 := by
  simp only [List.getD_eq_getElem?_getD]
  by_cases h : i < (b.drop 1).length
  · rw [List.getElem?_append_left h, List.getElem?_drop, Nat.add_comm]
  · have h' : b.length ≤ i + 1 := by simp at h; omega
    rw [List.getElem?_append_right (by omega), List.getElem?_eq_none h']
    rcases (show i - (b.drop 1).length = 0 ∨ i - (b.drop 1).length = 1 ∨ i - (b.drop 1).length = 2 ∨ i - (b.drop 1).length = 3 ∨ i - (b.drop 1).length = 4 ∨ i - (b.drop 1).length = 5 by omega) with e | e | e | e | e | e <;> rw [e] <;> rfl
end Go.Proofs.Yteklcolphbcjlaa
/- Bytes appended, none too: what stands beside stays. -/
namespace Go.Proofs.Yteklcolphbcjlaa
open Go.RowKit

set_option maxHeartbeats 2000000 in
theorem wp_append_bysA {w : World} {o : Oper} {act : Act} {K : Act → World → Prop} {Q : Exit → Act → World → Prop} (s x : Operand)
    (ho : o.op = .call { callee := .builtin .append, args := #[s, x], argTypes := #[27, 27] }) (base : Nat) (v u : Value) (xs ys : List Int)
    (hs : act.eval s = v) (hown : OwY w base v xs) (hx : act.eval x = u) (hr : Bys w u ys) (hn : xs.length + ys.length ≤ 100000) (hbase : base ≤ w.heap.size)
    (h : ∀ v' w', OwY w' base v' (xs ++ ys) → Below base w w' → K (act.put o.dst v') w') : Oper.wp Try.prog o act w K Q := by
  obtain ⟨i0, hi, hz0, hz1, hz2⟩ := info_parts Try.infoU8
  have hlow := OwY.low15 hown
  unfold OwY at hown
  obtain ⟨a, cap, rfl, h1, h2, hcap, _, h3⟩ := hr
  have m1 : xs.length + ys.length ≤ maxLen := by unfold maxLen; omega
  cases a with
  | none =>
    have hy : ys = [] := by
      by_cases hy : ys = []
      · exact hy
      · obtain ⟨b, oo, e, _⟩ := h3 hy; cases e
    subst hy
    obtain rfl := hcap rfl
    have hr := run_append_owned_none (P := Try.prog) (w := w) base 27 o.type 5 i0 1 Try.underlying27 hi v xs.length (bv8 xs) hown
    unfold Oper.wp execOp
    have hx' : act.eval x = .slice none 0 0 := hx
    simp only [ho, resolve, invoke, builtin, Sem.run_bind, Sem.run_pure, Result.andThen_ok, List.map_toArray, List.map_cons, List.map_nil, hs, hx', hr]
    refine h v w ?_ (Below.refl _ _)
    rw [List.append_nil]
    exact hown
  | some ad =>
    refine wp_append_own w s x 27 ho base 5 i0 _ 1 1 Try.underlying27 hi hz0 hz1 hz2 rfl (by decide) v xs.length (bv8 xs) hs hown ad ys.length cap (bv8 ys) hx (by rw [bv8_len]; omega) (fun j q hq => ?_) (bv8_one _) m1 (by omega) hbase ?_
    · have hj : j < ys.length := by have := (List.getElem?_eq_some_iff.1 hq).1; rwa [bv8_len] at this
      obtain ⟨b, oo, e, h4⟩ := h3 (by intro e; rw [e] at hj; simp at hj)
      cases e
      rw [bv8_at hj] at hq
      rw [← hq, Go.WideShapes.add_plain]
      exact h4 j hj
    · intro v' w' g1 g2 _
      refine h v' w' ?_ ((Below.refl base w).grown g2 hbase hlow)
      rw [← bv8_app] at g1
      unfold OwY
      rw [List.length_append]
      exact g1
end Go.Proofs.Yteklcolphbcjlaa
