/- Texts that belong together, one behind the other: BB9, BB10, BB11, BB12. -/
import Derived.Test.YteklcolphbcjlaaQ11
import Derived.Test.YteklcolphbcjlaaQ12
import Derived.Test.YteklcolphbcjlaaQ10
import Derived.BigQuiet
import Derived.Deep.RegionLaw
/- Walks of package wire: the part that is a list: may it be, cleared, put. -/
namespace Go.Proofs.Yteklcolphbcjlaa
open Go.RowKit

set_option maxHeartbeats 2000000 in
set_option maxRecDepth 100000 in
theorem lmay_any (ok oid ec et ex em ek ee ot om ow oc ov : Int) (dv : Value) (ds : List Int) (w : World) (h : Nums w dv ds) :
    Calls Try.prog 51 #[.agg #[.int .i64 ok, .int .i64 oid, .int .i64 ec, .int .i64 et, .int .i64 ex, .int .i64 em, .int .i64 ek, .int .i64 ee, .int .i64 ot, .int .i64 om, .int .i64 ow, .int .i64 oc, .int .i64 ov, dv]] w fun e w' => e = .returned (.bool (decide (ds.length ≤ 4) && inD ds)) ∧ Below w.heap.size w w' := by
  have HN : Hid (Nums (w.alloc (.cells #[.int .i64 ok, .int .i64 oid, .int .i64 ec, .int .i64 et, .int .i64 ex, .int .i64 em, .int .i64 ek, .int .i64 ee, .int .i64 ot, .int .i64 om, .int .i64 ow, .int .i64 oc, .int .i64 ov, dv] 26)) dv ds ∧ Below w.heap.size w (w.alloc (.cells #[.int .i64 ok, .int .i64 oid, .int .i64 ec, .int .i64 et, .int .i64 ex, .int .i64 em, .int .i64 ek, .int .i64 ee, .int .i64 ot, .int .i64 om, .int .i64 ow, .int .i64 oc, .int .i64 ov, dv] 26))) := ⟨h.later (below_b1 _ _), below_b1 _ _⟩
  have hB : Bk (w.alloc (.cells #[.int .i64 ok, .int .i64 oid, .int .i64 ec, .int .i64 et, .int .i64 ex, .int .i64 em, .int .i64 ek, .int .i64 ee, .int .i64 ot, .int .i64 om, .int .i64 ow, .int .i64 oc, .int .i64 ov, dv] 26)) w.heap.size [.int .i64 ok, .int .i64 oid, .int .i64 ec, .int .i64 et, .int .i64 ex, .int .i64 em, .int .i64 ek, .int .i64 ee, .int .i64 ot, .int .i64 om, .int .i64 ow, .int .i64 oc, .int .i64 ov, dv] := Bk.new w _ _
  have e13 := hB.cell (i := 13) rfl
  obtain ⟨a, cap, rfl, h1, h2, h3⟩ := h
  clear h3 hB
  by_cases c : ds.length ≤ 4
  · have c' : (ds.length : Int) ≤ 4 := by omega
    have HR : Hid ((decide (ds.length ≤ 4) && inD ds) = !!inD ds) := by show _ = _; rw [decide_eq_true c]; simp
    clear c
    go_enter Try.func51, Try.ntmps51
    go_upto_region 1 with fail
    generalize (w.alloc (.cells #[.int .i64 ok, .int .i64 oid, .int .i64 ec, .int .i64 et, .int .i64 ex, .int .i64 em, .int .i64 ek, .int .i64 ee, .int .i64 ot, .int .i64 om, .int .i64 ow, .int .i64 oc, .int .i64 ov, .slice a ds.length cap] 26)) = W at *
    go_wp2_with fail
    refine (con16_any ds _ _ HN.out.1).mono ?_
    rintro e w2 ⟨rfl, hb2⟩
    have HE := HN.out.2.trans (hb2.mono HN.out.2.size)
    clear hb2 HN e13
    go_wp2_with fail
    go_ret
    exact ⟨ret_b (by rw [HR.out]; simp), HE⟩
  · have c' : ¬ (ds.length : Int) ≤ 4 := by omega
    have HR : Hid ((decide (ds.length ≤ 4) && inD ds) = false) := by show _ = _; rw [decide_eq_false c]; rfl
    clear c
    go_enter Try.func51, Try.ntmps51
    go_upto_region 1 with fail
    generalize (w.alloc (.cells #[.int .i64 ok, .int .i64 oid, .int .i64 ec, .int .i64 et, .int .i64 ex, .int .i64 em, .int .i64 ek, .int .i64 ee, .int .i64 ot, .int .i64 om, .int .i64 ow, .int .i64 oc, .int .i64 ov, .slice a ds.length cap] 26)) = W at *
    go_wp2_with fail
    go_ret
    exact ⟨ret_b HR.out.symm, HN.out.2⟩
theorem lclr_any (b : Nat) (x : Value) (w : World) (hx : w.cell? ⟨b, 13, none⟩ = some x) (hz : w.frozen? ⟨b, 13, none⟩ = false) :
    Calls Try.prog 54 #[.pointer (some ⟨b, 0, none⟩)] w fun e w' => e = .returned (.tuple #[]) ∧ w' = w.setCell ⟨b, 13, none⟩ (.slice none 0 0) := by
  go_enter Try.func54, Try.ntmps54
  go_wp2_with fail
  exact bodyPost_end (results_none rfl _ _ _) rfl ⟨rfl, rfl⟩
theorem append_ys {w : World} {ops : Array Oper} {rest : List Oper} {o : Oper} {act : Act} {Q : Exit → Act → World → Prop} (hgd : o.guard = none) (s x : Operand)
    (ho : o.op = .call { callee := .builtin .append, args := #[s, x], argTypes := #[27, 27] }) (base : Nat) (v u : Value) (xs ys : List Int)
    (hs : act.eval s = v) (hown : OwY w base v xs) (hx : act.eval x = u) (hr : Bys w u ys) (hn : xs.length + ys.length ≤ 100000) (hbase : base ≤ w.heap.size)
    (h : ∀ v' w', OwY w' base v' (xs ++ ys) → Below base w w' → wpList Try.prog ops Q rest (act.put o.dst v') w') : wpList Try.prog ops Q (o :: rest) act w :=
  append_bys hgd s x ho base v u xs.length xs ys hs hown hx hr hn hbase fun v' w' h1 h2 => h v' w' (by unfold OwY; rw [List.length_append]; exact h1) h2
theorem bys_d {w : World} {B : Nat} {v : Value} {d : Int} (h : OwY w B v [d]) (hd : 0 ≤ d ∧ d ≤ 255) : Bys w v [d] := OwY.bys h (fun i hi => by
  obtain rfl : i = 0 := by simp at hi; exact hi
  exact hd)
theorem dg_one (n : Int) (h : 0 ≤ n ∧ n ≤ 255) : dgP n 1 1 = [n] := by
  show [if 1 - 1 ≤ 0 then n / 256 ^ (1 - 1 - 0) % 256 else 0] = [n]
  rw [if_pos (by omega)]
  have : n / 256 ^ (1 - 1 - 0) % 256 = n := by
    show n / 1 % 256 = n
    omega
  rw [this]
set_option maxHeartbeats 4000000 in
set_option maxRecDepth 100000 in
theorem lput_any (ok oid ec et ex em ek ee ot om ow oc ov : Int) (dv : Value) (ds : List Int) (w : World) (h : Nums w dv ds) (hl : ds.length ≤ 4) (hd : ∀ x ∈ ds, 1 ≤ x ∧ x ≤ 20) :
    Calls Try.prog 55 #[.agg #[.int .i64 ok, .int .i64 oid, .int .i64 ec, .int .i64 et, .int .i64 ex, .int .i64 em, .int .i64 ek, .int .i64 ee, .int .i64 ot, .int .i64 om, .int .i64 ow, .int .i64 oc, .int .i64 ov, dv]] w fun e w' => ∃ v, e = .returned v ∧ OwY w' w.heap.size v ((ds.length : Int) :: ds) ∧ Below w.heap.size w w' := by
  have HN : Hid ((∀ y, Below w.heap.size w y → Nums y dv ds) ∧ Below w.heap.size w (w.alloc (.cells #[.int .i64 ok, .int .i64 oid, .int .i64 ec, .int .i64 et, .int .i64 ex, .int .i64 em, .int .i64 ek, .int .i64 ee, .int .i64 ot, .int .i64 om, .int .i64 ow, .int .i64 oc, .int .i64 ov, dv] 26)) ∧ Bk (w.alloc (.cells #[.int .i64 ok, .int .i64 oid, .int .i64 ec, .int .i64 et, .int .i64 ex, .int .i64 em, .int .i64 ek, .int .i64 ee, .int .i64 ot, .int .i64 om, .int .i64 ow, .int .i64 oc, .int .i64 ov, dv] 26)) w.heap.size [.int .i64 ok, .int .i64 oid, .int .i64 ec, .int .i64 et, .int .i64 ex, .int .i64 em, .int .i64 ek, .int .i64 ee, .int .i64 ot, .int .i64 om, .int .i64 ow, .int .i64 oc, .int .i64 ov, dv]) := ⟨fun y hy => h.later hy, below_b1 _ _, Bk.new w _ _⟩
  have HD : Hid (ds.length ≤ 4 ∧ ∀ x ∈ ds, 1 ≤ x ∧ x ≤ 20) := ⟨hl, hd⟩
  have e13 := HN.out.2.2.cell (i := 13) rfl
  obtain ⟨a, cap, rfl, h1, h2, h3⟩ := h
  clear h3 hl hd
  go_enter Try.func55, Try.ntmps55
  go_upto_region 1 with fail
  generalize (w.alloc (.cells #[.int .i64 ok, .int .i64 oid, .int .i64 ec, .int .i64 et, .int .i64 ex, .int .i64 em, .int .i64 ek, .int .i64 ee, .int .i64 ot, .int .i64 om, .int .i64 ow, .int .i64 oc, .int .i64 ov, .slice a ds.length cap] 26)) = W at *
  go_wp2_with fail
  refine (digits_any ds.length 1 (by omega) (by omega) _).mono ?_
  rintro e w2 ⟨v2, rfl, ho2, hb2⟩
  rw [dg_one _ (by have := HD.out.1; omega)] at ho2
  have HX : Hid (OwY w2 (w.heap.size + 1) v2 ([(ds.length : Int)] ++ ds.take 0) ∧ Below w.heap.size w w2) := ⟨ho2.lower HN.out.2.2.lt, HN.out.2.1.trans (hb2.mono HN.out.2.1.size)⟩
  have HZ : Hid (w.heap.size + 1 ≤ w2.heap.size) := (HN.out.2.2.later hb2).lt
  have f13 := (HN.out.2.2.later hb2).cell (i := 13) rfl
  clear ho2 hb2 e13
  go_wp2_with fail
  go_loopw [3, 13] (fun lv iv wr => ∃ t : Nat, t ≤ ds.length ∧ iv = .int .i64 t ∧ Hid (OwY wr (w.heap.size + 1) lv ([(ds.length : Int)] ++ ds.take t) ∧ Below (w.heap.size + 1) w2 wr)) (fun _ iv _ => (ds.length - intOf iv).toNat)
  case atStart => exact ⟨0, by omega, by go_num, HX.out.1, Below.refl _ _⟩
  case round =>
    obtain ⟨t, ht, rfl, HR⟩ := hrel
    have HW : Hid (Below w.heap.size w wr) := HX.out.2.trans (HR.out.2.mono (by omega))
    by_cases hlt : t < ds.length
    · have hlt' : (t : Int) < ds.length := by omega
      have ht4 : (t : Int) < 4 := by have := HD.out.1; omega
      obtain ⟨a', cap', e, h1', h2', h3'⟩ := HN.out.1 _ HW.out
      obtain ⟨bd, od, rfl, h4⟩ := h3' (by intro e; rw [e] at hlt; simp at hlt)
      cases e
      have c0 := h4 t hlt
      have hd := HD.out.2 (ds.getD t 0) (by rw [List.getD_eq_getElem?_getD, List.getElem?_eq_getElem hlt]; exact List.getElem_mem hlt)
      have HT : Hid (([(ds.length : Int)] ++ ds.take t) ++ [ds.getD t 0] = [(ds.length : Int)] ++ ds.take (t + 1) ∧ ([(ds.length : Int)] ++ ds.take t).length + [ds.getD t 0].length ≤ 100000) := by
        refine ⟨?_, ?_⟩
        · rw [List.append_assoc, List.take_add_one, List.getElem?_eq_getElem hlt, List.getD_eq_getElem?_getD, List.getElem?_eq_getElem hlt]; rfl
        · have := HD.out.1; simp; omega
      generalize ds.getD t 0 = d at *
      clear h3' h4
      go_wp2_with fail
      refine (digits_any d 1 (by omega) (by omega) _).mono ?_
      rintro e w5 ⟨v5, rfl, ho5, hb5⟩
      rw [dg_one _ (by omega)] at ho5
      have HY : Hid (Bys w5 v5 [d] ∧ OwY w5 (w.heap.size + 1) _ ([(ds.length : Int)] ++ ds.take t) ∧ Below (w.heap.size + 1) w2 w5 ∧ w.heap.size + 1 ≤ w5.heap.size) := ⟨bys_d ho5 (by omega), HR.out.1.later hb5, HR.out.2.trans (hb5.mono (Nat.le_trans HZ.out HR.out.2.size)), Nat.le_trans (Nat.le_trans HZ.out HR.out.2.size) hb5.size⟩
      clear ho5 hb5 hd
      go_wp2_with (at_builtin; refine append_ys rfl _ _ rfl (w.heap.size + 1) _ _ _ _ rfl HY.out.2.1 rfl HY.out.1 HT.out.2 HY.out.2.2.2 ?_; intro v6 w6 ho6 hb6)
      go_roundw
      case rel => exact ⟨t + 1, by omega, by go_num, by rw [← HT.out.1]; exact ho6, HY.out.2.2.1.trans hb6⟩
      case measure => simp [intOf]; omega
    · obtain rfl : t = ds.length := by omega
      have hlt' : ¬ (ds.length : Int) < ds.length := by omega
      go_wp2_with fail
      go_ret
      have h := HR.out.1
      rw [List.take_length] at h
      exact ⟨_, rfl, h.lower (by omega), HW.out⟩
end Go.Proofs.Yteklcolphbcjlaa
/- Walks of package wire: the part that is a list is got. -/
namespace Go.Proofs.Yteklcolphbcjlaa
open Go.RowKit

/-- Integers of the call's own. -/
def OwN (w : World) (base : Nat) (v : Value) (xs : List Int) : Prop := w.ownsRow base 3 1 v xs.length (ivs xs)
theorem OwN.later {w w' : World} {base : Nat} {v : Value} {xs : List Int} (h : OwN w base v xs) (hb : Below w.heap.size w w') : OwN w' base v xs := own_laterF h hb
theorem OwN.nums {w : World} {base : Nat} {v : Value} {xs : List Int} (h : OwN w base v xs) : Nums w v xs := (Nums.own h).1
theorem OwN.is {w : World} {base : Nat} {v : Value} {xs : List Int} (h : OwN w base v xs) : ∃ a z c, v = .slice a z c := by
  obtain ⟨a, c, e, _⟩ := h.nums
  exact ⟨a, _, c, e⟩
theorem OwN.set {w : World} {B b i : Nat} {v : Value} {xs : List Int} (h : OwN w B v xs) (hb : b < B) (u : Value) : OwN (w.setCell ⟨b, i, none⟩ u) B v xs := by
  unfold OwN at h ⊢
  refine h.kept (row := some b) ⟨rfl, rfl, rfl, by simp, fun k _ hne => Below.heap_setCell _ _ _ _ (fun e => hne (by rw [e]))⟩ ?_
  cases c : v.ownBlock with
  | none => exact .inl rfl
  | some k =>
    refine .inr (fun e => ?_)
    have := (h.lt k c).1
    cases e
    omega
theorem infoI_16 : (Try.prog.info? 3).map (fun i => (i.zero, i.size, i.bytes)) = some (some (.int .i64 0), 1, 8) := by kernel_rfl
theorem step_app1 {w : World} {ops : Array Oper} {o : Oper} {act : Act} {K : Act → World → Prop} {Q : Exit → Act → World → Prop} {X : Prop} (hgd : o.guard = Option.none) (s x : Operand)
    (ho : o.op = .call { callee := .builtin .append, args := #[s, x], argTypes := #[24, 24] }) (base : Nat) (v : Value) (xs : List Int) (bb : Nat) (d : Int)
    (hs : act.eval s = v) (hown : OwN w base v xs) (hx : act.eval x = .slice (some ⟨bb, 0, none⟩) 1 1) (hc : w.cell? ⟨bb, 0, none⟩ = some (.int .i64 d)) (hn : xs.length ≤ 1000) (hbase : base ≤ w.heap.size)
    (h : ∀ v' w', OwN w' base v' (xs ++ [d]) → Below base w w' → K (act.put o.dst v') w') :
    if Region.wanted o (yielded ops act.tmps) = true then Oper.wp Try.prog o act w K Q else X := by
  have hw : Region.wanted o (yielded ops act.tmps) = true := by simp [Region.wanted, hgd]
  rw [if_pos hw]
  obtain ⟨i0, hi, hz0, hz1, hz2⟩ := info_parts infoI_16
  have hlow := World.ownsRow.lt hown
  refine wp_append_own w s x 24 ho base 3 i0 _ 1 8 Try.underlying24 hi hz0 hz1 hz2 rfl (by decide) v xs.length (ivs xs) hs hown ⟨bb, 0, none⟩ 1 1 [.int .i64 d] hx rfl (fun j y hy => ?_) (fun y hy => ?_) (by unfold maxLen; omega) (by omega) hbase ?_
  · rw [Go.WideShapes.add_plain]
    match j, hy with
    | 0, hy => simp at hy; subst hy; exact hc
  · simp at hy; subst hy; rfl
  · intro v' w' g1 g2 _
    refine h v' w' ?_ ((Below.refl _ _).grown g2 hbase fun k hk => (hlow k hk).1)
    unfold OwN
    rw [List.length_append]
    have e : ivs (xs ++ [d]) = ivs xs ++ [.int .i64 d] := by simp [ivs]
    rw [e]; exact g1
theorem gr_below {w wr y : World} {b : Nat} (h : w.grownBy wr (some b)) (hb : Below w.heap.size wr y) : w.grownBy y (some b) :=
  ⟨hb.os.trans h.os, hb.tape.trans h.tape, hb.output.trans h.output, Nat.le_trans h.size hb.size, fun k hk hne => (hb.block k hk).trans (h.block k hk hne)⟩
theorem gr_set {w wr : World} {b : Nat} (h : w.grownBy wr (some b)) (i : Nat) (u : Value) : w.grownBy (wr.setCell ⟨b, i, none⟩ u) (some b) :=
  ⟨h.os, h.tape, h.output, by simpa using h.size, fun k hk hne => (Below.heap_setCell _ _ _ _ (fun e => hne (by rw [e]))).trans (h.block k hk hne)⟩
theorem Bk.below {w w' : World} {B q : Nat} {l : List Value} (h : Bk w q l) (hb : Below B w w') (hq : q < B) : Bk w' q l := h.keep hb hq
theorem Bys.rest1 {w : World} {b o n cap S : Nat} {xs : List Int} (h : Bys w (.slice (some ⟨b, o, Option.none⟩) n cap) xs) (hS : S ≤ xs.length) (u : Nat) (hu : S < cap → u = o + S) : Bys w (.slice (some ⟨b, u, Option.none⟩) (xs.length - S) (cap - S)) (xs.drop S) := by
  have := h.rest hS u hu
  rw [List.length_drop] at this
  exact this
def LgetE (vb : Value) (xs : List Int) (l : List Value) (b : Nat) (w : World) (e : Ending) (w' : World) : Prop :=
  ((xs.length = 0 ∨ (xs.length : Int) - 1 < xs.getD 0 0) ∧ e = .returned (.tuple #[.slice none 0 0, .bool false]) ∧ w' = w) ∨
  (∃ n : Nat, xs.getD 0 0 = n ∧ 0 < xs.length ∧ n ≤ xs.length - 1 ∧ ∃ v vd, e = .returned (.tuple #[v, .bool true]) ∧ (∀ y, Bys y vb xs → Bys y v ((xs.drop 1).drop n)) ∧ OwN w' w.heap.size vd ((xs.drop 1).take n) ∧ Bk w' b (l.set 13 vd) ∧ w.grownBy w' (some b))
set_option maxHeartbeats 4000000 in
set_option maxRecDepth 100000 in
theorem lget_any (b : Nat) (l : List Value) (vb : Value) (xs : List Int) (w : World) (hv : Bys w vb xs) (hvb : ∀ w', w.grownBy w' (some b) → Bys w' vb xs) (hl : Bk w b l) (hl14 : l.length = 14) (h13 : l[13]? = some (.slice none 0 0)) :
    Calls Try.prog 56 #[.pointer (some ⟨b, 0, none⟩), vb] w (LgetE vb xs l b w) := by
  have HV : Hid (Bys w vb xs ∧ (∀ w', w.grownBy w' (some b) → Bys w' vb xs) ∧ Bk w b l ∧ l.length = 14 ∧ l[13]? = some (.slice none 0 0)) := ⟨hv, hvb, hl, hl14, h13⟩
  clear hvb hl hl14 h13
  obtain ⟨a, cap, rfl, h1, h2, h3, h4, h5⟩ := hv
  clear h3
  by_cases c0 : xs.length = 0
  · have HC : Hid (xs.length = 0) := c0
    have c0' : ((xs.length : Int) == 0) = true := beq_iff_eq.2 (by omega)
    clear h5 h4
    go_enter Try.func56, Try.ntmps56
    go_wp2_with fail
    go_ret2
    exact .inl ⟨.inl HC.out, rfl, rfl⟩
  have c0' : ((xs.length : Int) == 0) = false := beq_eq_false_iff_ne.2 (by omega)
  have c0a : 0 < xs.length := by omega
  obtain ⟨bb, oo, rfl, h6⟩ := h5 (by intro e; rw [e] at c0; simp at c0)
  have e0 := h6 0 (by omega)
  rw [Nat.add_zero] at e0
  have b0 := h4 0 (by omega)
  obtain ⟨x0, hx0⟩ : ∃ x, xs.getD 0 0 = x := ⟨_, rfl⟩
  have HX0 : Hid (xs.getD 0 0 = x0) := hx0
  rw [hx0] at e0 b0
  clear hx0 h4 h5 h6 c0
  have wx : IntKind.i64.wrap x0 = x0 := by rw [IntKind.wrap_i64]; omega
  have hmx : (xs.length : Int) ≤ 9223372036854775807 := by unfold maxLen at h2; omega
  have hln : (0 : Int) < xs.length := by omega
  by_cases c1 : (xs.length : Int) - 1 < x0
  · have HC : Hid ((xs.length : Int) - 1 < x0) := c1
    go_enter Try.func56, Try.ntmps56
    go_wp2_with fail
    go_ret2
    exact .inl ⟨.inr (by rw [HX0.out]; exact HC.out), rfl, rfl⟩
  obtain ⟨n, rfl⟩ : ∃ n : Nat, x0 = n := ⟨x0.toNat, by omega⟩
  have HC : Hid (0 < xs.length ∧ n ≤ xs.length - 1 ∧ n ≤ 255 ∧ xs.length ≤ cap) := ⟨c0a, by omega, by omega, h1⟩
  have hbl : b < w.heap.size := by
    have h := HV.out.2.2.1.cell HV.out.2.2.2.2
    exact World.block_lt_of_cell? _ _ h
  have h1c : (1 : Int) ≤ cap := by omega
  have h1d : (1 : Int) ≤ xs.length := by omega
  go_enter Try.func56, Try.ntmps56
  go_upto_region 3 with fail
  rcases Nat.lt_or_ge 1 cap with hc | hc
  · have hc' : (1 : Int) < cap := by omega
    have HL : Hid (1 < cap ∧ bb < w.heap.size) := ⟨hc, World.block_lt_of_cell? _ _ e0⟩
    go_quiet (fail)
    have HQ : Hid (∃ v, OwN (w.drewN nq) w.heap.size v ((xs.drop 1).take 0) ∧ Bk (w.drewN nq) b (l.set 13 v) ∧ w.grownBy (w.drewN nq) (some b)) := by
      refine ⟨.slice none 0 0, World.ownsRow_nil _ _ _ _, ?_, ⟨rfl, rfl, rfl, Nat.le_refl _, fun _ _ _ => rfl⟩⟩
      have e : l.set 13 (.slice none 0 0) = l := by
        refine List.ext_getElem? fun i => ?_
        rw [List.getElem?_set]
        by_cases c : 13 = i
        · subst c; rw [if_pos rfl, if_pos (by rw [HV.out.2.2.2.1]; omega), HV.out.2.2.2.2]
        · rw [if_neg c]
      rw [e]
      exact HV.out.2.2.1
    generalize w.drewN nq = W3 at *
    clear e0
    go_wp2_with fail
    go_loopw [29] (fun iv wr => ∃ i : Nat, i ≤ n ∧ iv = .int .i64 i ∧ Hid (∃ v, OwN wr w.heap.size v ((xs.drop 1).take i) ∧ Bk wr b (l.set 13 v) ∧ w.grownBy wr (some b))) (fun iv _ => (n - intOf iv).toNat)
    case atStart => exact ⟨0, by omega, by go_num, HQ⟩
    case round =>
      obtain ⟨i, hi, rfl, HR⟩ := hrel
      by_cases hlt : i < n
      · have hlt' : (i : Int) < n := by omega
        have hlt2 : (i : Int) < xs.length - 1 := by have := HC.out; omega
        have hi255 : (i : Int) < 255 := by have := HC.out.2.2.1; omega
        obtain ⟨v, ho, hk, hg⟩ := HR.out
        have c13 : wr.cell? ⟨b, 13, none⟩ = some v := hk.cell (by rw [List.getElem?_set_self (by rw [HV.out.2.2.2.1]; omega)])
        have f13 : wr.frozen? ⟨b, 13, none⟩ = false := hk.frz (by rw [List.length_set, HV.out.2.2.2.1]; omega)
        obtain ⟨a', cap', e, g1, g2, g3, g4, g5⟩ := HV.out.2.1 _ hg
        obtain ⟨b', o', e', g6⟩ := g5 (by intro e; have := HC.out.1; rw [e] at this; simp at this)
        cases e
        cases e'
        have cx := g6 (i + 1) (by have := HC.out; omega)
        have bx := g4 (i + 1) (by have := HC.out; omega)
        rw [show oo + (i + 1) = oo + 1 + i by omega] at cx
        have HT : Hid ((xs.drop 1).take (i + 1) = (xs.drop 1).take i ++ [xs.getD (i + 1) 0] ∧ ((xs.drop 1).take i).length ≤ 1000) := by
          refine ⟨?_, by have := HC.out; simp; omega⟩
          have hi' : i + 1 < xs.length := by have := HC.out; omega
          rw [List.take_add_one, List.getElem?_drop, Nat.add_comm 1 i, List.getD_eq_getElem?_getD, List.getElem?_eq_getElem hi']
          rfl
        generalize xs.getD (i + 1) 0 = x at *
        have wx : IntKind.i64.wrap x = x := by rw [IntKind.wrap_i64]; omega
        have hsz : w.heap.size ≤ wr.heap.size := hg.size
        have MK : Hid (∀ y : World, Below w.heap.size wr y → ((y.cell? ⟨b, 13, none⟩ = some v ∧ y.frozen? ⟨b, 13, none⟩ = false) ∧ y.cell? ⟨bb, oo + 1 + i, none⟩ = some (.int .u8 x)) ∧ Below w.heap.size wr y) := fun y hy => ⟨⟨⟨(hy.cell (p := ⟨b, 13, none⟩) hbl).trans c13, (hy.frozen (p := ⟨b, 13, none⟩) hbl).trans f13⟩, (hy.cell (p := ⟨bb, oo + 1 + i, none⟩) HL.out.2).trans cx⟩, hy⟩
        have HA : Hid (OwN (wr.alloc (.cells #[.int .i64 x] 3)).drew w.heap.size v ((xs.drop 1).take i) ∧ (wr.alloc (.cells #[.int .i64 x] 3)).drew.cell? ⟨wr.heap.size, 0, none⟩ = some (.int .i64 x) ∧ w.heap.size ≤ (wr.alloc (.cells #[.int .i64 x] 3)).drew.heap.size ∧ Below w.heap.size wr (wr.alloc (.cells #[.int .i64 x] 3)).drew ∧ Below w.heap.size wr wr.drew) := ⟨(OwN.later ho (below_b1 _ _)).later (Below.refl _ _).drew, (Bk.new wr [.int .i64 x] 3).cell (i := 0) rfl, (by show w.heap.size ≤ (wr.alloc _).heap.size; simp; omega), (((Below.refl _ _).alloc hsz _)).drew, (Below.refl _ _).drew⟩
        have HK : Hid (Bk wr b (l.set 13 v) ∧ w.grownBy wr (some b)) := ⟨hk, hg⟩
        have hbr : b < wr.heap.size := by omega
        have hbbr : bb < wr.heap.size := by have := HL.out.2; omega
        have i0 : (0 : Int) ≤ (i : Int) := by omega
        have hlt3 : (i : Int) < ((xs.length - 1 : Nat) : Int) := by omega
        clear ho hk hg g1 g2 g3 g4 g5 g6 HR
        go_wp2_with fail
        go_region_law (refine step_app1 (by rfl) _ _ (by rfl) w.heap.size v ((xs.drop 1).take i) wr.heap.size x (by rfl) HA.out.1 (by rfl) HA.out.2.1 HT.out.2 HA.out.2.2.1 ?_; intro v7 w7 ho7 hb7; obtain ⟨a7, z7, k7, rfl⟩ := OwN.is ho7; have q13 := (MK.out _ (HA.out.2.2.2.1.trans hb7)).1.1.1; have qf := (MK.out _ (HA.out.2.2.2.1.trans hb7)).1.1.2)
        all_goals
          have HN : Hid (OwN (w7.setCell ⟨b, 13, none⟩ (.slice a7 z7 k7)) w.heap.size (.slice a7 z7 k7) ((xs.drop 1).take (i + 1)) ∧ Bk (w7.setCell ⟨b, 13, none⟩ (.slice a7 z7 k7)) b (l.set 13 (.slice a7 z7 k7)) ∧ w.grownBy (w7.setCell ⟨b, 13, none⟩ (.slice a7 z7 k7)) (some b)) := by
            have hk7 := (HK.out.1.below (HA.out.2.2.2.1.trans hb7) hbl).set 13 (.slice a7 z7 k7)
            rw [List.set_set] at hk7
            refine ⟨?_, hk7, gr_set (gr_below HK.out.2 (HA.out.2.2.2.1.trans hb7)) _ _⟩
            rw [HT.out.1]
            exact ho7.set hbl _
          clear ho7 hb7 q13 qf
          go_wp2_with fail
          go_roundw
          case rel => exact ⟨i + 1, by omega, by go_num, ⟨_, HN.out⟩⟩
          case measure => simp [intOf]; omega
      · obtain rfl : i = n := by omega
        have hlt' : ¬ (i : Int) < i := by omega
        obtain ⟨v, ho, hk, hg⟩ := HR.out
        have HF : Hid (OwN wr w.heap.size v ((xs.drop 1).take i) ∧ Bk wr b (l.set 13 v) ∧ w.grownBy wr (some b)) := ⟨ho, hk, hg⟩
        have i1 : i ≤ cap - 1 := by have := HC.out; omega
        have i2 : i ≤ xs.length - 1 := HC.out.2.1
        have i3 : (i : Int) ≤ ((cap - 1 : Nat) : Int) := by omega
        have i4 : (i : Int) ≤ ((xs.length - 1 : Nat) : Int) := by omega
        have i5 : (0 : Int) ≤ i := by omega
        rcases Nat.lt_or_ge i (cap - 1) with hq | hq
        · have hq' : (i : Int) < ((cap - 1 : Nat) : Int) := by omega
          have HB : Hid (∀ y, Bys y (.slice (some ⟨bb, oo, none⟩) xs.length cap) xs → Bys y (.slice (some ⟨bb, oo + 1 + i, none⟩) (xs.length - 1 - i) (cap - 1 - i)) ((xs.drop 1).drop i)) := fun y hy => by
            have HB1 := hy.rest1 (S := 1) HC.out.1 (oo + 1) (fun _ => rfl)
            have HB2 := Bys.rest1 (S := i) HB1 (by rw [List.length_drop]; omega) (oo + 1 + i) (fun _ => rfl)
            rw [List.length_drop] at HB2
            exact HB2
          clear ho hk hg HR
          go_wp2_with fail
          go_ret2
          exact .inr ⟨i, HX0.out, HC.out.1, HC.out.2.1, _, v, rfl, HB.out, HF.out⟩
        · obtain rfl : i = cap - 1 := by omega
          have HB : Hid (∀ y, Bys y (.slice (some ⟨bb, oo, none⟩) xs.length cap) xs → Bys y (.slice (some ⟨bb, oo + 1, none⟩) (xs.length - 1 - (cap - 1)) 0) ((xs.drop 1).drop (cap - 1))) := fun y hy => by
            have HB1 := hy.rest1 (S := 1) HC.out.1 (oo + 1) (fun _ => rfl)
            have HB2 := Bys.rest1 (S := cap - 1) HB1 (by rw [List.length_drop]; omega) (oo + 1) (fun h => absurd h (by omega))
            rw [List.length_drop, Nat.sub_self] at HB2
            exact HB2
          clear ho hk hg HR
          go_wp2_with fail
          go_ret2
          exact .inr ⟨cap - 1, HX0.out, HC.out.1, HC.out.2.1, _, v, rfl, HB.out, HF.out⟩
  · obtain rfl : cap = 1 := by omega
    obtain rfl : n = 0 := by have := HC.out; omega
    have hl1 : xs.length - 1 = 0 := by omega
    go_quiet (fail)
    have HQ : Hid (w.grownBy (w.drewN nq) (some b) ∧ Bk (w.drewN nq) b (l.set 13 (.slice none 0 0))) := by
      refine ⟨⟨rfl, rfl, rfl, Nat.le_refl _, fun _ _ _ => rfl⟩, ?_⟩
      have e : l.set 13 (.slice none 0 0) = l := by
        refine List.ext_getElem? fun i => ?_
        rw [List.getElem?_set]
        by_cases c : 13 = i
        · subst c; rw [if_pos rfl, if_pos (by rw [HV.out.2.2.2.1]; omega), HV.out.2.2.2.2]
        · rw [if_neg c]
      rw [e]
      exact HV.out.2.2.1
    generalize w.drewN nq = W3 at *
    clear e0
    go_wp2_with fail
    go_loopw [29] (fun iv wr => iv = .int .i64 0 ∧ Hid (wr = W3)) (fun _ _ => 0)
    case atStart => exact ⟨by go_num, rfl⟩
    case round =>
      obtain ⟨rfl, HR⟩ := hrel
      have HB : Hid (∀ y, Bys y (.slice (some ⟨bb, oo, none⟩) xs.length 1) xs → Bys y (.slice (some ⟨bb, oo, none⟩) 0 0) ((xs.drop 1).drop 0)) := fun y hy => by
        have hb1 := hy.rest1 (S := 1) HC.out.1 oo (fun h => absurd h (by omega))
        rw [hl1] at hb1
        exact hb1
      go_wp2_with fail
      go_ret2
      exact .inr ⟨0, HX0.out, HC.out.1, HC.out.2.1, _, .slice none 0 0, rfl, HB.out, World.ownsRow_nil _ _ _ _, by rw [HR.out]; exact HQ.out.2, by rw [HR.out]; exact HQ.out.1⟩
end Go.Proofs.Yteklcolphbcjlaa
/- What the parts of what is asked are: plain. -/
namespace Go.Proofs.Yteklcolphbcjlaa
open Go.RowKit

def pvN (o : Ow) (i : Nat) : Int := [o.s.c, o.s.t, o.s.x, o.s.m, o.s.k, o.s.e, o.id, o.t, o.m, o.w, o.c, o.v].getD i 0
/-- One part is another number. -/
def puN (o : Ow) (i : Nat) (u : Int) : Ow := match i with
  | 0 => { o with s := { o.s with c := u } }
  | 1 => { o with s := { o.s with t := u } }
  | 2 => { o with s := { o.s with x := u } }
  | 3 => { o with s := { o.s with m := u } }
  | 4 => { o with s := { o.s with k := u } }
  | 5 => { o with s := { o.s with e := u } }
  | 6 => { o with id := u }
  | 7 => { o with t := u }
  | 8 => { o with m := u }
  | 9 => { o with w := u }
  | 10 => { o with c := u }
  | _ => { o with v := u }
def tpN (i : Nat) : Int := if siN i = 1 then 255 else 65535
theorem oL_at (o : Ow) (dv : Value) {i : Nat} (h : i < 12) : (oL o dv)[ciN i]? = some (.int .i64 (pvN o i)) := by
  rcases (show i = 0 ∨ i = 1 ∨ i = 2 ∨ i = 3 ∨ i = 4 ∨ i = 5 ∨ i = 6 ∨ i = 7 ∨ i = 8 ∨ i = 9 ∨ i = 10 ∨ i = 11 by omega) with rfl | rfl | rfl | rfl | rfl | rfl | rfl | rfl | rfl | rfl | rfl | rfl <;> rfl
theorem oL_put (o : Ow) (dv : Value) {i : Nat} (h : i < 12) (u : Int) : (oL o dv).set (ciN i) (.int .i64 u) = oL (puN o i u) dv := by
  rcases (show i = 0 ∨ i = 1 ∨ i = 2 ∨ i = 3 ∨ i = 4 ∨ i = 5 ∨ i = 6 ∨ i = 7 ∨ i = 8 ∨ i = 9 ∨ i = 10 ∨ i = 11 by omega) with rfl | rfl | rfl | rfl | rfl | rfl | rfl | rfl | rfl | rfl | rfl | rfl <;> rfl
theorem ci_lt {i : Nat} (h : i < 12) : ciN i < 14 := by
  rcases (show i = 0 ∨ i = 1 ∨ i = 2 ∨ i = 3 ∨ i = 4 ∨ i = 5 ∨ i = 6 ∨ i = 7 ∨ i = 8 ∨ i = 9 ∨ i = 10 ∨ i = 11 by omega) with rfl | rfl | rfl | rfl | rfl | rfl | rfl | rfl | rfl | rfl | rfl | rfl <;> decide
theorem si_12 {i : Nat} (h : i < 12) : siN i = 1 ∨ siN i = 2 := by
  rcases (show i = 0 ∨ i = 1 ∨ i = 2 ∨ i = 3 ∨ i = 4 ∨ i = 5 ∨ i = 6 ∨ i = 7 ∨ i = 8 ∨ i = 9 ∨ i = 10 ∨ i = 11 by omega) with rfl | rfl | rfl | rfl | rfl | rfl | rfl | rfl | rfl | rfl | rfl | rfl <;> decide
theorem tp_12 {i : Nat} (h : i < 12) : (siN i = 1 ∧ tpN i = 255) ∨ (siN i = 2 ∧ tpN i = 65535) := by
  unfold tpN
  rcases si_12 h with e | e
  · exact .inl ⟨e, by rw [if_pos e]⟩
  · exact .inr ⟨e, by rw [if_neg (by omega)]⟩
def okP (o : Ow) (L : List Nat) : Bool := L.all fun i => wtB (pvN o i) 0 (tpN i)
def clP (o : Ow) (L : List Nat) : Ow := L.foldl (fun p i => puN p i 0) o
theorem okP_next (o : Ow) {L : List Nat} {t i : Nat} (h : L[t]? = some i) : okP o (L.take (t + 1)) = (okP o (L.take t) && wtB (pvN o i) 0 (tpN i)) := by
  unfold okP; rw [List.take_add_one, h, List.all_append]; simp
theorem okP_no (o : Ow) {L : List Nat} {t i : Nat} (h : L[t]? = some i) (hn : wtB (pvN o i) 0 (tpN i) = false) : okP o L = false := by
  unfold okP
  rw [List.all_eq_false]
  exact ⟨i, List.mem_of_getElem? h, by rw [hn]; simp⟩
theorem clP_next (o : Ow) {L : List Nat} {t i : Nat} (h : L[t]? = some i) : clP o (L.take (t + 1)) = puN (clP o (L.take t)) i 0 := by
  unfold clP; rw [List.take_add_one, h, List.foldl_append]; rfl
theorem ixs_3 {k : Int} (h : 0 ≤ k ∧ k ≤ 3) : ∀ i ∈ ixs k, i < 12 := by
  intro i hi
  rcases (show k = 0 ∨ k = 1 ∨ k = 2 ∨ k = 3 by omega) with rfl | rfl | rfl | rfl
  · have : i ∈ [0, 1, 2, 3, 4, 5] := hi
    simp at this; omega
  · have : i ∈ [6, 7, 8] := hi
    simp at this; omega
  · have : i ∈ [6] := hi
    simp at this; omega
  · have : i ∈ [9, 10, 11] := hi
    simp at this; omega
/-- May it be: by its parts. -/
theorem om_ix {ok oid ec et ex em ek ee ot om ow oc ov : Int} {ds : List Int} (h : 0 ≤ ok ∧ ok ≤ 3) : omB ⟨ok, oid, ⟨ec, et, ex, em, ek, ee⟩, ot, om, ow, oc, ov, ds⟩ = (okP ⟨ok, oid, ⟨ec, et, ex, em, ek, ee⟩, ot, om, ow, oc, ov, ds⟩ (ixs ok) && smO (clP ⟨ok, oid, ⟨ec, et, ex, em, ek, ee⟩, ot, om, ow, oc, ov, ds⟩ (ixs ok)) ⟨ok, 0, ⟨0, 0, 0, 0, 0, 0⟩, 0, 0, 0, 0, 0, []⟩) := by
  rcases (show ok = 0 ∨ ok = 1 ∨ ok = 2 ∨ ok = 3 by omega) with rfl | rfl | rfl | rfl
  · rw [om_0]
    show _ = (okP _ [0, 1, 2, 3, 4, 5] && smO (clP _ [0, 1, 2, 3, 4, 5]) _)
    rw [sy16_eq]
    simp [okP, clP, puN, pvN, tpN, siN, wtB, smN, smO, List.foldl]
  · rw [om_1]
    show _ = (okP _ [6, 7, 8] && smO (clP _ [6, 7, 8]) _)
    simp [okP, clP, puN, pvN, tpN, siN, wtB, smN, smO, List.foldl]
  · rw [om_2]
    show _ = (okP _ [6] && smO (clP _ [6]) _)
    simp [okP, clP, puN, pvN, tpN, siN, wtB, smN, smO, List.foldl]
  · rw [om_3]
    show _ = (okP _ [9, 10, 11] && smO (clP _ [9, 10, 11]) _)
    simp [okP, clP, puN, pvN, tpN, siN, wtB, smN, smO, List.foldl]
theorem om_4k {oid ec et ex em ek ee ot om ow oc ov : Int} {ds : List Int} : omB ⟨4, oid, ⟨ec, et, ex, em, ek, ee⟩, ot, om, ow, oc, ov, ds⟩ = ((decide (ds.length ≤ 4) && inD ds) && smO ⟨4, oid, ⟨ec, et, ex, em, ek, ee⟩, ot, om, ow, oc, ov, []⟩ ⟨4, 0, ⟨0, 0, 0, 0, 0, 0⟩, 0, 0, 0, 0, 0, []⟩) := by
  rw [om_4]
  simp [smO]
theorem om_far {ok oid ec et ex em ek ee ot om ow oc ov : Int} {ds : List Int} (h : ¬ (0 ≤ ok ∧ ok ≤ 4)) : omB ⟨ok, oid, ⟨ec, et, ex, em, ek, ee⟩, ot, om, ow, oc, ov, ds⟩ = false := om_x (by omega) (by omega) (by omega) (by omega) (by omega)
end Go.Proofs.Yteklcolphbcjlaa
/- Walks of package wire: May. -/
namespace Go.Proofs.Yteklcolphbcjlaa
open Go.RowKit

/-- Of the parts that a kind has, the one at a place. -/
theorem po_some (q : Nat → Nat) {i : Nat} (h : i < 12) : po q i = some (q i) := by unfold po; rw [if_neg (by omega)]
theorem kind_no {k : Int} (h : wtB k 0 4 = false) : ¬ (0 ≤ k ∧ k ≤ 4) := of_decide_eq_false h
theorem puN_d (o : Ow) (i : Nat) (u : Int) : (puN o i u).d = o.d := by
  unfold puN; split <;> rfl
theorem clP_d (L : List Nat) : ∀ (o : Ow), (clP o L).d = o.d := by
  induction L with
  | nil => intro o; rfl
  | cons a L ih => intro o; show (clP (puN o a 0) L).d = o.d; rw [ih, puN_d]
/-- What holds when the first parts are seen: the rest of what is asked, what is asked, the parts. -/
def MyR (o : Ow) (dv : Value) (L : List Nat) (q : Nat → Nat) (p b g : Nat) (w wr : World) (t : Nat) : Prop := okP o (L.take t) = true ∧ Bk wr p (oL (clP o (L.take t)) dv) ∧ Bk wr b (oL o dv) ∧ Bk wr g (fl (L.map (po q))) ∧ (∀ i, i < 12 → Wh wr (q i) i) ∧ Below b w wr
theorem MyR.later {o : Ow} {dv : Value} {L : List Nat} {q : Nat → Nat} {p b g : Nat} {w wr y : World} {t : Nat} (h : MyR o dv L q p b g w wr t) (hb : Below wr.heap.size wr y) : MyR o dv L q p b g w y t :=
  ⟨h.1, h.2.1.later hb, h.2.2.1.later hb, h.2.2.2.1.later hb, fun i hi => (h.2.2.2.2.1 i hi).later hb, h.2.2.2.2.2.trans (hb.mono (Nat.le_of_lt h.2.2.1.lt))⟩
theorem MyR.step {o : Ow} {dv : Value} {L : List Nat} {q : Nat → Nat} {p b g : Nat} {w wr : World} {t i : Nat} (h : MyR o dv L q p b g w wr t) (hi : L[t]? = some i) (hi12 : i < 12) (hy : wtB (pvN o i) 0 (tpN i) = true) (hbp : b < p) (hpg : p < g) (hq : ∀ i, i < 12 → p < q i) : MyR o dv L q p b g w (wr.setCell ⟨p, ciN i, none⟩ (.int .i64 0)) (t + 1) := by
  refine ⟨by rw [okP_next o hi, h.1, hy]; rfl, ?_, h.2.2.1.other (by omega) _, h.2.2.2.1.other (by omega) _, fun j hj => ?_, h.2.2.2.2.2.setCell (p := ⟨p, ciN i, none⟩) (by show b ≤ p; omega) _⟩
  · rw [clP_next o hi, ← oL_put _ _ hi12]
    exact h.2.1.set _ _
  · obtain ⟨e1, K, e2, e3⟩ := h.2.2.2.2.1 j hj
    have := hq j hj
    exact ⟨e1.other (by omega) _, K, e2, e3.other (by omega) _⟩
set_option maxHeartbeats 8000000 in
set_option maxRecDepth 100000 in
theorem wmay16_0 (ok oid ec et ex em ek ee ot om ow oc ov : Int) (dv : Value) (ds : List Int) (w : World) (h : Nums w dv ds) (hk : 0 ≤ ok ∧ ok ≤ 3) :
    Calls Try.prog 19 #[.agg #[.int .i64 ok, .int .i64 oid, .int .i64 ec, .int .i64 et, .int .i64 ex, .int .i64 em, .int .i64 ek, .int .i64 ee, .int .i64 ot, .int .i64 om, .int .i64 ow, .int .i64 oc, .int .i64 ov, dv]] w fun e w' => e = .returned (.bool (omB ⟨ok, oid, ⟨ec, et, ex, em, ek, ee⟩, ot, om, ow, oc, ov, ds⟩)) ∧ Below w.heap.size w w' := by
  obtain ⟨a, zn, cap, rfl⟩ : ∃ a z c, dv = .slice a z c := by obtain ⟨a, c, e, _⟩ := h; exact ⟨a, _, c, e⟩
  have HN : Hid ((∀ y, Below w.heap.size w y → Nums y (.slice a zn cap) ds) ∧ 0 ≤ ok ∧ ok ≤ 3) := ⟨fun y hy => h.later hy, hk⟩
  have HM : Hid (omB ⟨ok, oid, ⟨ec, et, ex, em, ek, ee⟩, ot, om, ow, oc, ov, ds⟩ = (okP ⟨ok, oid, ⟨ec, et, ex, em, ek, ee⟩, ot, om, ow, oc, ov, ds⟩ (ixs ok) && smO (clP ⟨ok, oid, ⟨ec, et, ex, em, ek, ee⟩, ot, om, ow, oc, ov, ds⟩ (ixs ok)) ⟨ok, 0, ⟨0, 0, 0, 0, 0, 0⟩, 0, 0, 0, 0, 0, []⟩)) := om_ix hk
  have HB : Hid (Bk (w.alloc (.cells #[.int .i64 ok, .int .i64 oid, .int .i64 ec, .int .i64 et, .int .i64 ex, .int .i64 em, .int .i64 ek, .int .i64 ee, .int .i64 ot, .int .i64 om, .int .i64 ow, .int .i64 oc, .int .i64 ov, .slice a zn cap] 26)) w.heap.size [.int .i64 ok, .int .i64 oid, .int .i64 ec, .int .i64 et, .int .i64 ex, .int .i64 em, .int .i64 ek, .int .i64 ee, .int .i64 ot, .int .i64 om, .int .i64 ow, .int .i64 oc, .int .i64 ov, .slice a zn cap] ∧ Below w.heap.size w (w.alloc (.cells #[.int .i64 ok, .int .i64 oid, .int .i64 ec, .int .i64 et, .int .i64 ex, .int .i64 em, .int .i64 ek, .int .i64 ee, .int .i64 ot, .int .i64 om, .int .i64 ow, .int .i64 oc, .int .i64 ov, .slice a zn cap] 26))) := ⟨Bk.new w _ _, below_b1 _ _⟩
  have e0 := HB.out.1.cell (i := 0) rfl
  have HT : Hid (wtB ok 0 4 = true) := by show _ = _; exact decide_eq_true (by omega)
  clear h hk
  go_enter Try.func19, Try.ntmps19
  go_upto_region 1 with fail
  generalize (w.alloc (.cells #[.int .i64 ok, .int .i64 oid, .int .i64 ec, .int .i64 et, .int .i64 ex, .int .i64 em, .int .i64 ek, .int .i64 ee, .int .i64 ot, .int .i64 om, .int .i64 ow, .int .i64 oc, .int .i64 ov, .slice a zn cap] 26)) = W at *
  go_wp2_with fail
  refine (wtn_any ok 0 4 _).mono ?_
  rintro e w2 ⟨rfl, rfl⟩
  rw [HT.out]
  have hlw := HB.out.1.lt
  go_wp2_with (refine load_bk rfl 26 _ rfl w.heap.size 0 [.int .i64 ok, .int .i64 oid, .int .i64 ec, .int .i64 et, .int .i64 ex, .int .i64 em, .int .i64 ek, .int .i64 ee, .int .i64 ot, .int .i64 om, .int .i64 ow, .int .i64 oc, .int .i64 ov, .slice a zn cap] [.int .i64 ok, .int .i64 oid, .int .i64 ec, .int .i64 et, .int .i64 ex, .int .i64 em, .int .i64 ek, .int .i64 ee, .int .i64 ot, .int .i64 om, .int .i64 ow, .int .i64 oc, .int .i64 ov, .slice a zn cap] rfl HB.out.1 rfl _ Try.underlying26 rfl (by kernel_rfl) ?_)
  have HC : Hid (Bk (w2.alloc (.cells #[.int .i64 ok, .int .i64 oid, .int .i64 ec, .int .i64 et, .int .i64 ex, .int .i64 em, .int .i64 ek, .int .i64 ee, .int .i64 ot, .int .i64 om, .int .i64 ow, .int .i64 oc, .int .i64 ov, .slice a zn cap] 26)) w.heap.size [.int .i64 ok, .int .i64 oid, .int .i64 ec, .int .i64 et, .int .i64 ex, .int .i64 em, .int .i64 ek, .int .i64 ee, .int .i64 ot, .int .i64 om, .int .i64 ow, .int .i64 oc, .int .i64 ov, .slice a zn cap] ∧ Bk (w2.alloc (.cells #[.int .i64 ok, .int .i64 oid, .int .i64 ec, .int .i64 et, .int .i64 ex, .int .i64 em, .int .i64 ek, .int .i64 ee, .int .i64 ot, .int .i64 om, .int .i64 ow, .int .i64 oc, .int .i64 ov, .slice a zn cap] 26)) w2.heap.size [.int .i64 ok, .int .i64 oid, .int .i64 ec, .int .i64 et, .int .i64 ex, .int .i64 em, .int .i64 ek, .int .i64 ee, .int .i64 ot, .int .i64 om, .int .i64 ow, .int .i64 oc, .int .i64 ov, .slice a zn cap] ∧ Below w.heap.size w (w2.alloc (.cells #[.int .i64 ok, .int .i64 oid, .int .i64 ec, .int .i64 et, .int .i64 ex, .int .i64 em, .int .i64 ek, .int .i64 ee, .int .i64 ot, .int .i64 om, .int .i64 ow, .int .i64 oc, .int .i64 ov, .slice a zn cap] 26))) := ⟨HB.out.1.later (below_b1 _ _), Bk.new _ _ _, HB.out.2.trans ((below_b1 _ _).mono HB.out.2.size)⟩
  have HS2 : Hid (w.heap.size < w2.heap.size) := hlw
  generalize hW3 : (w2.alloc (.cells #[.int .i64 ok, .int .i64 oid, .int .i64 ec, .int .i64 et, .int .i64 ex, .int .i64 em, .int .i64 ek, .int .i64 ee, .int .i64 ot, .int .i64 om, .int .i64 ow, .int .i64 oc, .int .i64 ov, .slice a zn cap] 26)) = W3 at *
  have HS3 : Hid (W3.heap.size = w2.heap.size + 1) := by show _ = _; rw [← hW3]; simp
  clear hW3
  refine (had_any ok _).mono ?_
  rintro e w4 ⟨v4, q, rfl, ho4, hw4, hb4⟩
  have HQ : Hid (∀ i, i < 12 → w2.heap.size < q i) := fun i hi => by have := (hw4 i hi).2; have := HS3.out; omega
  obtain ⟨Lx, hL⟩ : ∃ Lx, ixs ok = Lx := ⟨_, rfl⟩
  have HL : Hid ((∀ i ∈ Lx, i < 12) ∧ Lx.length ≤ 6) := ⟨by rw [← hL]; exact ixs_3 HN.out.2, by rw [← hL]; exact ixs_len ok⟩
  rw [hL] at HM ho4
  have hne : Lx ≠ [] := by
    rw [← hL]
    rcases (show ok = 0 ∨ ok = 1 ∨ ok = 2 ∨ ok = 3 by have := HN.out.2; omega) with rfl | rfl | rfl | rfl <;> exact List.cons_ne_nil _ _
  clear hL
  rcases ho4.rd with ⟨hz, _⟩ | ⟨g, cap4, rfl, hg, hc4, hbk⟩
  · exact absurd (List.map_eq_nil_iff.1 hz) hne
  rw [List.length_map] at hc4 ⊢
  have HG : Hid (w2.heap.size < g) := by have := HS3.out; show _ < _; omega
  have HX : Hid (MyR ⟨ok, oid, ⟨ec, et, ex, em, ek, ee⟩, ot, om, ow, oc, ov, ds⟩ (.slice a zn cap) Lx q w2.heap.size w.heap.size g w w4 0) := ⟨rfl, HC.out.2.1.later hb4, HC.out.1.later hb4, hbk, fun i hi => (hw4 i hi).1, HC.out.2.2.trans (hb4.mono HC.out.2.2.size)⟩
  clear ho4 hw4 hb4 hbk hg hne hc4
  go_wp2_with fail
  go_loopw [15] (fun iv wr => ∃ t : Nat, t ≤ Lx.length ∧ iv = .int .i64 t ∧ Hid (MyR ⟨ok, oid, ⟨ec, et, ex, em, ek, ee⟩, ot, om, ow, oc, ov, ds⟩ (.slice a zn cap) Lx q w2.heap.size w.heap.size g w wr t)) (fun iv _ => (Lx.length - intOf iv).toNat)
  case atStart => exact ⟨0, by omega, by go_num, HX⟩
  case round =>
    obtain ⟨t, ht, rfl, HR⟩ := hrel
    clear HX HC HB e0
    by_cases hlt : t < Lx.length
    · have hlt' : (t : Int) < Lx.length := by omega
      have ht6 : (t : Int) < 6 := by have := HL.out.2; omega
      obtain ⟨i, hi⟩ : ∃ i, Lx[t]? = some i := ⟨_, List.getElem?_eq_getElem hlt⟩
      have hi12 : i < 12 := HL.out.1 i (List.mem_of_getElem? hi)
      have HI : Hid (Lx[t]? = some i ∧ i < 12) := ⟨hi, hi12⟩
      have HD : Hid (((fl (Lx.map (po q))).drop (t * 4)).take ([.func (.func 47) #[] #[.pointer (some ⟨(q i) + 1, 0, none⟩), .pointer (some ⟨(q i), 0, none⟩)], .func (.func 48) #[] #[.pointer (some ⟨(q i) + 1, 0, none⟩)], .func (.func 49) #[] #[.pointer (some ⟨(q i) + 1, 0, none⟩), .pointer (some ⟨(q i), 0, none⟩)], .func (.func 50) #[] #[.pointer (some ⟨(q i), 0, none⟩), .pointer (some ⟨(q i) + 1, 0, none⟩)]] : List Value).length = [.func (.func 47) #[] #[.pointer (some ⟨(q i) + 1, 0, none⟩), .pointer (some ⟨(q i), 0, none⟩)], .func (.func 48) #[] #[.pointer (some ⟨(q i) + 1, 0, none⟩)], .func (.func 49) #[] #[.pointer (some ⟨(q i) + 1, 0, none⟩), .pointer (some ⟨(q i), 0, none⟩)], .func (.func 50) #[] #[.pointer (some ⟨(q i), 0, none⟩), .pointer (some ⟨(q i) + 1, 0, none⟩)]]) := by
        have := fl_at (Lx.map (po q)) t (some (q i)) (by rw [List.getElem?_map, hi]; show some (po q i) = _; rw [po_some q hi12])
        exact this
      have HA : Hid (MyR ⟨ok, oid, ⟨ec, et, ex, em, ek, ee⟩, ot, om, ow, oc, ov, ds⟩ (.slice a zn cap) Lx q w2.heap.size w.heap.size g w (wr.alloc (.cells #[.func (.func 47) #[] #[.pointer (some ⟨(q i) + 1, 0, none⟩), .pointer (some ⟨(q i), 0, none⟩)], .func (.func 48) #[] #[.pointer (some ⟨(q i) + 1, 0, none⟩)], .func (.func 49) #[] #[.pointer (some ⟨(q i) + 1, 0, none⟩), .pointer (some ⟨(q i), 0, none⟩)], .func (.func 50) #[] #[.pointer (some ⟨(q i), 0, none⟩), .pointer (some ⟨(q i) + 1, 0, none⟩)]] 52)) t ∧ Bk (wr.alloc (.cells #[.func (.func 47) #[] #[.pointer (some ⟨(q i) + 1, 0, none⟩), .pointer (some ⟨(q i), 0, none⟩)], .func (.func 48) #[] #[.pointer (some ⟨(q i) + 1, 0, none⟩)], .func (.func 49) #[] #[.pointer (some ⟨(q i) + 1, 0, none⟩), .pointer (some ⟨(q i), 0, none⟩)], .func (.func 50) #[] #[.pointer (some ⟨(q i), 0, none⟩), .pointer (some ⟨(q i) + 1, 0, none⟩)]] 52)) wr.heap.size [.func (.func 47) #[] #[.pointer (some ⟨(q i) + 1, 0, none⟩), .pointer (some ⟨(q i), 0, none⟩)], .func (.func 48) #[] #[.pointer (some ⟨(q i) + 1, 0, none⟩)], .func (.func 49) #[] #[.pointer (some ⟨(q i) + 1, 0, none⟩), .pointer (some ⟨(q i), 0, none⟩)], .func (.func 50) #[] #[.pointer (some ⟨(q i), 0, none⟩), .pointer (some ⟨(q i) + 1, 0, none⟩)]]) := ⟨HR.out.later (below_b1 _ _), Bk.new _ _ _⟩
      obtain ⟨hq0, K, hK, hf0⟩ := HA.out.1.2.2.2.2.1 i hi12
      have HK : Hid (AtK K (ciN i) ∧ (wr.alloc (.cells #[.func (.func 47) #[] #[.pointer (some ⟨(q i) + 1, 0, none⟩), .pointer (some ⟨(q i), 0, none⟩)], .func (.func 48) #[] #[.pointer (some ⟨(q i) + 1, 0, none⟩)], .func (.func 49) #[] #[.pointer (some ⟨(q i) + 1, 0, none⟩), .pointer (some ⟨(q i), 0, none⟩)], .func (.func 50) #[] #[.pointer (some ⟨(q i), 0, none⟩), .pointer (some ⟨(q i) + 1, 0, none⟩)]] 52)).cell? ⟨q i, 0, none⟩ = some (.int .i64 (siN i)) ∧ (wr.alloc (.cells #[.func (.func 47) #[] #[.pointer (some ⟨(q i) + 1, 0, none⟩), .pointer (some ⟨(q i), 0, none⟩)], .func (.func 48) #[] #[.pointer (some ⟨(q i) + 1, 0, none⟩)], .func (.func 49) #[] #[.pointer (some ⟨(q i) + 1, 0, none⟩), .pointer (some ⟨(q i), 0, none⟩)], .func (.func 50) #[] #[.pointer (some ⟨(q i), 0, none⟩), .pointer (some ⟨(q i) + 1, 0, none⟩)]] 52)).cell? ⟨q i + 1, 0, none⟩ = some (.func (.func K) #[] #[])) := ⟨hK, hq0.cell rfl, hf0.cell rfl⟩
      obtain ⟨y, hy⟩ : ∃ y, wtB (pvN ⟨ok, oid, ⟨ec, et, ex, em, ek, ee⟩, ot, om, ow, oc, ov, ds⟩ i) 0 (tpN i) = y := ⟨_, rfl⟩
      have HY : Hid (wtB (pvN ⟨ok, oid, ⟨ec, et, ex, em, ek, ee⟩, ot, om, ow, oc, ov, ds⟩ i) 0 (tpN i) = y) := hy
      clear hq0 hf0 hK hy hi hi12
      go_wp2_with (first
        | (refine load_bk rfl 52 _ rfl g (t * 4) _ [.func (.func 47) #[] #[.pointer (some ⟨(q i) + 1, 0, none⟩), .pointer (some ⟨(q i), 0, none⟩)], .func (.func 48) #[] #[.pointer (some ⟨(q i) + 1, 0, none⟩)], .func (.func 49) #[] #[.pointer (some ⟨(q i) + 1, 0, none⟩), .pointer (some ⟨(q i), 0, none⟩)], .func (.func 50) #[] #[.pointer (some ⟨(q i), 0, none⟩), .pointer (some ⟨(q i) + 1, 0, none⟩)]] ?_ HR.out.2.2.2.1 HD.out _ Try.underlying52 rfl (by kernel_rfl) ?_; · rfl)
        | (refine load_bk rfl 26 _ rfl w.heap.size 0 [.int .i64 ok, .int .i64 oid, .int .i64 ec, .int .i64 et, .int .i64 ex, .int .i64 em, .int .i64 ek, .int .i64 ee, .int .i64 ot, .int .i64 om, .int .i64 ow, .int .i64 oc, .int .i64 ov, .slice a zn cap] [.int .i64 ok, .int .i64 oid, .int .i64 ec, .int .i64 et, .int .i64 ex, .int .i64 em, .int .i64 ek, .int .i64 ee, .int .i64 ot, .int .i64 om, .int .i64 ow, .int .i64 oc, .int .i64 ov, .slice a zn cap] rfl HA.out.1.2.2.1 rfl _ Try.underlying26 rfl (by kernel_rfl) ?_))
      refine (wmay_any K (ciN i) HK.out.1 (siN i) (tpN i) (tp_12 HI.out.2) ok oid ec et ex em ek ee ot om ow oc ov (.slice a zn cap) (pvN ⟨ok, oid, ⟨ec, et, ex, em, ek, ee⟩, ot, om, ow, oc, ov, ds⟩ i) (q i) _ (oL_at ⟨ok, oid, ⟨ec, et, ex, em, ek, ee⟩, ot, om, ow, oc, ov, ds⟩ (.slice a zn cap) HI.out.2) HK.out.2.1 HK.out.2.2).mono ?_
      rintro e w5 ⟨rfl, hb5⟩
      rw [HY.out]
      have HE : Hid (MyR ⟨ok, oid, ⟨ec, et, ex, em, ek, ee⟩, ot, om, ow, oc, ov, ds⟩ (.slice a zn cap) Lx q w2.heap.size w.heap.size g w w5 t ∧ Bk w5 wr.heap.size [.func (.func 47) #[] #[.pointer (some ⟨(q i) + 1, 0, none⟩), .pointer (some ⟨(q i), 0, none⟩)], .func (.func 48) #[] #[.pointer (some ⟨(q i) + 1, 0, none⟩)], .func (.func 49) #[] #[.pointer (some ⟨(q i) + 1, 0, none⟩), .pointer (some ⟨(q i), 0, none⟩)], .func (.func 50) #[] #[.pointer (some ⟨(q i), 0, none⟩), .pointer (some ⟨(q i) + 1, 0, none⟩)]]) := ⟨HA.out.1.later hb5, HA.out.2.later hb5⟩
      clear hb5 HA
      cases y with
      | false =>
        have HF : Hid (omB ⟨ok, oid, ⟨ec, et, ex, em, ek, ee⟩, ot, om, ow, oc, ov, ds⟩ = false) := by show _ = _; rw [HM.out, okP_no _ HI.out.1 HY.out]; rfl
        go_wp2_with fail
        go_ret
        exact ⟨ret_b HF.out.symm, HE.out.1.2.2.2.2.2⟩
      | true =>
        have e1 := HE.out.2.cell (i := 1) rfl
        have hlr : wr.heap.size < w5.heap.size := HE.out.2.lt
        obtain ⟨hq0, K', hK', hf0⟩ := HE.out.1.2.2.2.2.1 i HI.out.2
        have HK2 : Hid (AtK K' (ciN i) ∧ w5.cell? ⟨q i + 1, 0, none⟩ = some (.func (.func K') #[] #[]) ∧ w5.cell? ⟨w2.heap.size, ciN i, none⟩ = some (.int .i64 (pvN (clP ⟨ok, oid, ⟨ec, et, ex, em, ek, ee⟩, ot, om, ow, oc, ov, ds⟩ (Lx.take t)) i)) ∧ w5.frozen? ⟨w2.heap.size, ciN i, none⟩ = false) := ⟨hK', hf0.cell rfl, HE.out.1.2.1.cell (oL_at _ _ HI.out.2), HE.out.1.2.1.frz (by show ciN i < 14; exact ci_lt HI.out.2)⟩
        clear hq0 hf0 hK'
        go_wp2_with fail
        refine (wclr_any K' (ciN i) HK2.out.1 w2.heap.size (q i) _ _ HK2.out.2.2.1 HK2.out.2.2.2 HK2.out.2.1).mono ?_
        rintro e w6 ⟨rfl, rfl⟩
        have HF : Hid (MyR ⟨ok, oid, ⟨ec, et, ex, em, ek, ee⟩, ot, om, ow, oc, ov, ds⟩ (.slice a zn cap) Lx q w2.heap.size w.heap.size g w (w5.setCell ⟨w2.heap.size, ciN i, none⟩ (.int .i64 0)) (t + 1)) := HE.out.1.step HI.out.1 HI.out.2 HY.out HS2.out HG.out HQ.out
        generalize (w5.setCell ⟨w2.heap.size, ciN i, none⟩ (.int .i64 0)) = w6 at *
        clear HE e1
        go_wp2_with fail
        go_roundw
        case rel => exact ⟨t + 1, by omega, by go_num, HF⟩
        case measure => simp [intOf]; omega
    · obtain rfl : t = Lx.length := by omega
      have hlt' : ¬ (Lx.length : Int) < Lx.length := by omega
      have HR2 : Hid (okP ⟨ok, oid, ⟨ec, et, ex, em, ek, ee⟩, ot, om, ow, oc, ov, ds⟩ Lx = true ∧ Bk wr w2.heap.size (oL (clP ⟨ok, oid, ⟨ec, et, ex, em, ek, ee⟩, ot, om, ow, oc, ov, ds⟩ Lx) (.slice a zn cap)) ∧ Bk wr w.heap.size [.int .i64 ok, .int .i64 oid, .int .i64 ec, .int .i64 et, .int .i64 ex, .int .i64 em, .int .i64 ek, .int .i64 ee, .int .i64 ot, .int .i64 om, .int .i64 ow, .int .i64 oc, .int .i64 ov, .slice a zn cap] ∧ Below w.heap.size w wr) := by
        have h := HR.out
        unfold MyR at h
        rw [List.take_length] at h
        exact ⟨h.1, h.2.1, h.2.2.1, h.2.2.2.2.2⟩
      have hd : (clP ⟨ok, oid, ⟨ec, et, ex, em, ek, ee⟩, ot, om, ow, oc, ov, ds⟩ Lx).d = ds := clP_d Lx ⟨ok, oid, ⟨ec, et, ex, em, ek, ee⟩, ot, om, ow, oc, ov, ds⟩
      clear HR
      generalize clP ⟨ok, oid, ⟨ec, et, ex, em, ek, ee⟩, ot, om, ow, oc, ov, ds⟩ Lx = o' at *
      obtain ⟨pk, pid, ⟨fc, ft, fx, fm, fk, fe⟩, pt, pm, pw, pc, pv, es⟩ := o'
      obtain rfl : es = ds := hd
      have HF : Hid (omB ⟨ok, oid, ⟨ec, et, ex, em, ek, ee⟩, ot, om, ow, oc, ov, es⟩ = smO ⟨pk, pid, ⟨fc, ft, fx, fm, fk, fe⟩, pt, pm, pw, pc, pv, es⟩ ⟨ok, 0, ⟨0, 0, 0, 0, 0, 0⟩, 0, 0, 0, 0, 0, []⟩) := by show _ = _; rw [HM.out, HR2.out.1]; rfl
      have e0 := HR2.out.2.2.1.cell (i := 0) rfl
      go_wp2_with (refine load_bk rfl 26 _ rfl w2.heap.size 0 [.int .i64 pk, .int .i64 pid, .int .i64 fc, .int .i64 ft, .int .i64 fx, .int .i64 fm, .int .i64 fk, .int .i64 fe, .int .i64 pt, .int .i64 pm, .int .i64 pw, .int .i64 pc, .int .i64 pv, .slice a zn cap] [.int .i64 pk, .int .i64 pid, .int .i64 fc, .int .i64 ft, .int .i64 fx, .int .i64 fm, .int .i64 fk, .int .i64 fe, .int .i64 pt, .int .i64 pm, .int .i64 pw, .int .i64 pc, .int .i64 pv, .slice a zn cap] rfl HR2.out.2.1 rfl _ Try.underlying26 rfl (by kernel_rfl) ?_)
      refine (wsm_any pk pid fc ft fx fm fk fe pt pm pw pc pv (.slice a zn cap) ok 0 0 0 0 0 0 0 0 0 0 0 0 (.slice none 0 0) es [] _ (HN.out.1 _ HR2.out.2.2.2) (Nums_nil _)).mono ?_
      rintro e w7 ⟨rfl, hb7⟩
      rw [← HF.out]
      have HZ := HR2.out.2.2.2.trans (hb7.mono HR2.out.2.2.2.size)
      clear hb7 HR2 HF e0
      go_wp2_with fail
      go_ret
      exact ⟨rfl, HZ⟩
end Go.Proofs.Yteklcolphbcjlaa
