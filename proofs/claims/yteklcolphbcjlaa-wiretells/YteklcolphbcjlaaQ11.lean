/- Texts that belong together, one behind the other: BB6, BB7, BB8, AA5, AA6. -/
import Derived.Test.YteklcolphbcjlaaQ10
import Derived.Test.YteklcolphbcjlaaQ9
import Derived.Deep.RegionHeld3
/- Walks of package wire: which parts a kind has; all of these. -/
namespace Go.Proofs.Yteklcolphbcjlaa
open Go.RowKit

/-- Which parts a kind has. -/
def ixs (k : Int) : List Nat := if k = 0 then [0, 1, 2, 3, 4, 5] else if k = 1 then [6, 7, 8] else if k = 2 then [6] else if k = 3 then [9, 10, 11] else if k = 4 then [12] else []
theorem ixs_lt {k : Int} : ∀ i ∈ ixs k, i ≤ 12 := by
  intro i hi
  unfold ixs at hi
  split at hi
  · simp at hi; omega
  split at hi
  · simp at hi; omega
  split at hi
  · simp at hi; omega
  split at hi
  · simp at hi; omega
  split at hi
  · simp at hi; omega
  · simp at hi
theorem ixs_len (k : Int) : (ixs k).length ≤ 6 := by
  unfold ixs
  repeat' split
  all_goals simp
def NbR (w : World) (v : Value) (L : List Nat) : Prop := (L = [] ∧ v = .slice none 0 0) ∨ ∃ g, v = .slice (some ⟨g, 0, none⟩) L.length L.length ∧ Bk w g (L.map fun i => .int .i64 (i : Nat))
set_option maxHeartbeats 2000000 in
set_option maxRecDepth 100000 in
theorem nbo_any (k : Int) (w : World) : Calls Try.prog 32 #[.int .i64 k] w fun e w' => ∃ v, e = .returned v ∧ NbR w' v (ixs k) ∧ Below w.heap.size w w' := by
  by_cases c0 : k = 0
  · have HI : Hid (ixs k = [0, 1, 2, 3, 4, 5]) := by show _ = _; unfold ixs; rw [if_pos c0]
    have d0 : (k == 0) = true := by simpa using c0
    clear c0
    go_enter Try.func32, Try.ntmps32
    go_wp2_with fail
    go_ret
    exact ⟨_, rfl, by rw [HI.out]; exact .inr ⟨w.heap.size, rfl, Bk.new w _ _⟩, below_b1 _ _⟩
  by_cases c1 : k = 1
  · have HI : Hid (ixs k = [6, 7, 8]) := by show _ = _; unfold ixs; rw [if_neg c0, if_pos c1]
    have d0 : (k == 0) = false := by simpa using c0
    have d1 : (k == 1) = true := by simpa using c1
    clear c0 c1
    go_enter Try.func32, Try.ntmps32
    go_wp2_with fail
    go_ret
    exact ⟨_, rfl, by rw [HI.out]; exact .inr ⟨w.heap.size, rfl, Bk.new w _ _⟩, below_b1 _ _⟩
  by_cases c2 : k = 2
  · have HI : Hid (ixs k = [6]) := by show _ = _; unfold ixs; rw [if_neg c0, if_neg c1, if_pos c2]
    have d0 : (k == 0) = false := by simpa using c0
    have d1 : (k == 1) = false := by simpa using c1
    have d2 : (k == 2) = true := by simpa using c2
    clear c0 c1 c2
    go_enter Try.func32, Try.ntmps32
    go_wp2_with fail
    go_ret
    exact ⟨_, rfl, by rw [HI.out]; exact .inr ⟨w.heap.size, rfl, Bk.new w _ _⟩, below_b1 _ _⟩
  by_cases c3 : k = 3
  · have HI : Hid (ixs k = [9, 10, 11]) := by show _ = _; unfold ixs; rw [if_neg c0, if_neg c1, if_neg c2, if_pos c3]
    have d0 : (k == 0) = false := by simpa using c0
    have d1 : (k == 1) = false := by simpa using c1
    have d2 : (k == 2) = false := by simpa using c2
    have d3 : (k == 3) = true := by simpa using c3
    clear c0 c1 c2 c3
    go_enter Try.func32, Try.ntmps32
    go_wp2_with fail
    go_ret
    exact ⟨_, rfl, by rw [HI.out]; exact .inr ⟨w.heap.size, rfl, Bk.new w _ _⟩, below_b1 _ _⟩
  by_cases c4 : k = 4
  · have HI : Hid (ixs k = [12]) := by show _ = _; unfold ixs; rw [if_neg c0, if_neg c1, if_neg c2, if_neg c3, if_pos c4]
    have d0 : (k == 0) = false := by simpa using c0
    have d1 : (k == 1) = false := by simpa using c1
    have d2 : (k == 2) = false := by simpa using c2
    have d3 : (k == 3) = false := by simpa using c3
    have d4 : (k == 4) = true := by simpa using c4
    clear c0 c1 c2 c3 c4
    go_enter Try.func32, Try.ntmps32
    go_wp2_with fail
    go_ret
    exact ⟨_, rfl, by rw [HI.out]; exact .inr ⟨w.heap.size, rfl, Bk.new w _ _⟩, below_b1 _ _⟩
  have HI : Hid (ixs k = []) := by show _ = _; unfold ixs; rw [if_neg c0, if_neg c1, if_neg c2, if_neg c3, if_neg c4]
  have d0 : (k == 0) = false := by simpa using c0
  have d1 : (k == 1) = false := by simpa using c1
  have d2 : (k == 2) = false := by simpa using c2
  have d3 : (k == 3) = false := by simpa using c3
  have d4 : (k == 4) = false := by simpa using c4
  clear c0 c1 c2 c3 c4
  go_enter Try.func32, Try.ntmps32
  go_wp2_with fail
  go_ret
  exact ⟨_, rfl, by rw [HI.out]; exact .inl ⟨rfl, rfl⟩, Below.refl _ _⟩
theorem Try.infoPart : (Try.prog.info? 52).map (fun i => (i.zero, i.size, i.bytes)) = some (some (.agg #[.nilFunc, .nilFunc, .nilFunc, .nilFunc]), 4, 32) := by kernel_rfl
/-- Parts of the call's own. -/
def OwP (w : World) (base : Nat) (v : Value) (ps : List (Option Nat)) : Prop := w.ownsRow base 52 4 v ps.length (fl ps)
theorem fl_one (ps : List (Option Nat)) : ∀ u ∈ fl ps, u.oneCell' = true := fun u hu => by
  obtain ⟨x, _, hx⟩ := List.mem_flatMap.1 hu
  exact pr_one x u hx
theorem append_part {w : World} {ops : Array Oper} {rest : List Oper} {o : Oper} {act : Act} {Q : Exit → Act → World → Prop} (hgd : o.guard = none) (s x : Operand)
    (ho : o.op = .call { callee := .builtin .append, args := #[s, x], argTypes := #[46, 46] }) (base : Nat) (v : Value) (ps : List (Option Nat)) (bb : Nat) (p : Option Nat)
    (hs : act.eval s = v) (hown : OwP w base v ps) (hx : act.eval x = .slice (some ⟨bb, 0, none⟩) 1 1) (hc : Bk w bb (pr p)) (hn : ps.length ≤ 1000) (hbase : base ≤ w.heap.size)
    (h : ∀ v' w', OwP w' base v' (ps ++ [p]) → Below base w w' → wpList Try.prog ops Q rest (act.put o.dst v') w') : wpList Try.prog ops Q (o :: rest) act w := by
  obtain ⟨i0, hi, hz0, hz1, hz2⟩ := info_parts Try.infoPart
  have hlow := hown.lt
  refine wpList_append_own w hgd s x 46 ho base 52 i0 _ 4 32 Try.underlying46 hi hz0 hz1 hz2 rfl (by decide) v ps.length (fl ps) hs hown ⟨bb, 0, none⟩ 1 1 (pr p) hx (by rw [pr_len]) (fun j y hy => ?_) (pr_one p) (by unfold maxLen; omega) (by omega) hbase ?_
  · rw [Go.WideShapes.add_plain, Nat.zero_add]
    exact hc.cell hy
  · intro v' w' g1 g2 _
    refine h v' w' ?_ ((Below.refl _ _).grown g2 hbase fun k hk => (hlow k hk).1)
    unfold OwP
    rw [fl_app, List.length_append]
    rw [show fl [p] = pr p by simp [fl]]
    exact g1
theorem OwP.later {w w' : World} {base : Nat} {v : Value} {ps : List (Option Nat)} (h : OwP w base v ps) (hb : Below w.heap.size w w') : OwP w' base v ps := own_laterF h hb
theorem OwP.lower {w : World} {B B' : Nat} {v : Value} {ps : List (Option Nat)} (h : OwP w B v ps) (hb : B' ≤ B) : OwP w B' v ps := by
  obtain ⟨h0, h1 | ⟨g, cap, cur, h2, h3, h4⟩⟩ := h
  · exact ⟨h0, .inl h1⟩
  · exact ⟨h0, .inr ⟨g, cap, cur, h2, Nat.le_trans hb h3, h4⟩⟩
/-- Parts that are read. -/
def RdP (w : World) (v : Value) (ps : List (Option Nat)) : Prop := (ps = [] ∧ v = .slice none 0 0) ∨ ∃ g cap, v = .slice (some ⟨g, 0, none⟩) ps.length cap ∧ Bk w g (fl ps)
theorem OwP.rd {w : World} {base : Nat} {v : Value} {ps : List (Option Nat)} (h : OwP w base v ps) : (ps = [] ∧ v = .slice none 0 0) ∨ ∃ g cap, v = .slice (some ⟨g, 0, none⟩) ps.length cap ∧ base ≤ g ∧ ps.length ≤ cap ∧ Bk w g (fl ps) := by
  have hcopy := h
  obtain ⟨_, ⟨rfl, hz⟩ | ⟨g, cap, cur, rfl, hb, hh, h1, h2, _⟩⟩ := h
  · exact .inl ⟨List.eq_nil_of_length_eq_zero hz, rfl⟩
  · exact .inr ⟨g, cap, rfl, hb, h1, fun i hi => ⟨hcopy.cellAt i (by rw [← fl_len]; exact hi), hcopy.frozenAt i⟩⟩
def HadE (k : Int) (w : World) (e : Ending) (w' : World) : Prop := ∃ v q, e = .returned v ∧ OwP w' w.heap.size v ((ixs k).map (po q)) ∧ (∀ i, i < 12 → Wh w' (q i) i ∧ w.heap.size ≤ q i) ∧ Below w.heap.size w w'
set_option maxHeartbeats 4000000 in
set_option maxRecDepth 100000 in
theorem had_any (k : Int) (w : World) : Calls Try.prog 23 #[.int .i64 k] w (HadE k w) := by
  go_enter Try.func23, Try.ntmps23
  go_wp2_with fail
  refine (wparts_any _).mono ?_
  rintro e w1 ⟨q, rfl, hW, hb1⟩
  have HZ : Hid (Bk (w1.alloc (.cells #[.nilFunc, .nilFunc, .nilFunc, .nilFunc, .nilFunc, .nilFunc, .nilFunc, .nilFunc, .nilFunc, .nilFunc, .nilFunc, .nilFunc, .nilFunc, .nilFunc, .nilFunc, .nilFunc, .nilFunc, .nilFunc, .nilFunc, .nilFunc, .nilFunc, .nilFunc, .nilFunc, .nilFunc, .nilFunc, .nilFunc, .nilFunc, .nilFunc, .nilFunc, .nilFunc, .nilFunc, .nilFunc, .nilFunc, .nilFunc, .nilFunc, .nilFunc, .nilFunc, .nilFunc, .nilFunc, .nilFunc, .nilFunc, .nilFunc, .nilFunc, .nilFunc, .nilFunc, .nilFunc, .nilFunc, .nilFunc, .nilFunc, .nilFunc, .nilFunc, .nilFunc] 61)) w1.heap.size [.nilFunc, .nilFunc, .nilFunc, .nilFunc, .nilFunc, .nilFunc, .nilFunc, .nilFunc, .nilFunc, .nilFunc, .nilFunc, .nilFunc, .nilFunc, .nilFunc, .nilFunc, .nilFunc, .nilFunc, .nilFunc, .nilFunc, .nilFunc, .nilFunc, .nilFunc, .nilFunc, .nilFunc, .nilFunc, .nilFunc, .nilFunc, .nilFunc, .nilFunc, .nilFunc, .nilFunc, .nilFunc, .nilFunc, .nilFunc, .nilFunc, .nilFunc, .nilFunc, .nilFunc, .nilFunc, .nilFunc, .nilFunc, .nilFunc, .nilFunc, .nilFunc, .nilFunc, .nilFunc, .nilFunc, .nilFunc, .nilFunc, .nilFunc, .nilFunc, .nilFunc] ∧ Below w.heap.size w (w1.alloc (.cells #[.nilFunc, .nilFunc, .nilFunc, .nilFunc, .nilFunc, .nilFunc, .nilFunc, .nilFunc, .nilFunc, .nilFunc, .nilFunc, .nilFunc, .nilFunc, .nilFunc, .nilFunc, .nilFunc, .nilFunc, .nilFunc, .nilFunc, .nilFunc, .nilFunc, .nilFunc, .nilFunc, .nilFunc, .nilFunc, .nilFunc, .nilFunc, .nilFunc, .nilFunc, .nilFunc, .nilFunc, .nilFunc, .nilFunc, .nilFunc, .nilFunc, .nilFunc, .nilFunc, .nilFunc, .nilFunc, .nilFunc, .nilFunc, .nilFunc, .nilFunc, .nilFunc, .nilFunc, .nilFunc, .nilFunc, .nilFunc, .nilFunc, .nilFunc, .nilFunc, .nilFunc] 61)) ∧ ∀ i, i < 12 → Wh (w1.alloc (.cells #[.nilFunc, .nilFunc, .nilFunc, .nilFunc, .nilFunc, .nilFunc, .nilFunc, .nilFunc, .nilFunc, .nilFunc, .nilFunc, .nilFunc, .nilFunc, .nilFunc, .nilFunc, .nilFunc, .nilFunc, .nilFunc, .nilFunc, .nilFunc, .nilFunc, .nilFunc, .nilFunc, .nilFunc, .nilFunc, .nilFunc, .nilFunc, .nilFunc, .nilFunc, .nilFunc, .nilFunc, .nilFunc, .nilFunc, .nilFunc, .nilFunc, .nilFunc, .nilFunc, .nilFunc, .nilFunc, .nilFunc, .nilFunc, .nilFunc, .nilFunc, .nilFunc, .nilFunc, .nilFunc, .nilFunc, .nilFunc, .nilFunc, .nilFunc, .nilFunc, .nilFunc] 61)) (q i) i ∧ w.heap.size ≤ q i) := ⟨Bk.new w1 _ _, hb1.alloc hb1.size _, fun i hi => ⟨(hW i hi).1.later (below_b1 _ _), (hW i hi).2⟩⟩
  have HS : Hid (∀ i, i < 12 → q i < w1.heap.size) := fun i hi => (hW i hi).1.1.lt
  have HS1 : Hid (∀ i, i < 12 → q i + 1 ≠ w1.heap.size) := fun i hi => by obtain ⟨_, K, _, h⟩ := (hW i hi).1; exact Nat.ne_of_lt h.lt
  have HL : Hid (w.heap.size ≤ w1.heap.size) := hb1.size
  clear hW hb1
  go_wp2_with (refine store_bk rfl 61 _ _ rfl w1.heap.size 0 [.nilFunc, .nilFunc, .nilFunc, .nilFunc, .nilFunc, .nilFunc, .nilFunc, .nilFunc, .nilFunc, .nilFunc, .nilFunc, .nilFunc, .nilFunc, .nilFunc, .nilFunc, .nilFunc, .nilFunc, .nilFunc, .nilFunc, .nilFunc, .nilFunc, .nilFunc, .nilFunc, .nilFunc, .nilFunc, .nilFunc, .nilFunc, .nilFunc, .nilFunc, .nilFunc, .nilFunc, .nilFunc, .nilFunc, .nilFunc, .nilFunc, .nilFunc, .nilFunc, .nilFunc, .nilFunc, .nilFunc, .nilFunc, .nilFunc, .nilFunc, .nilFunc, .nilFunc, .nilFunc, .nilFunc, .nilFunc, .nilFunc, .nilFunc, .nilFunc, .nilFunc] (fl ((List.range 13).map (po q))) (fl ((List.range 13).map (po q))) rfl rfl 52 rfl HZ.out.1 (Nat.le_refl _) rfl (by kernel_rfl) (fl_one _) ?_; intro w2 h1 h2 h3 h4)
  refine (nbo_any k _).mono ?_
  rintro e w3 ⟨v3, rfl, hn3, hb3⟩
  have HX : Hid (Bk w3 w1.heap.size (fl ((List.range 13).map (po q))) ∧ Below w.heap.size w w3 ∧ ∀ i, i < 12 → Wh w3 (q i) i ∧ w.heap.size ≤ q i) := by
    have hle : w.heap.size ≤ w1.heap.size := HL.out
    refine ⟨h1.later hb3, (h3 _ _ hle HZ.out.2.1).trans (hb3.mono (h3 _ _ hle HZ.out.2.1).size), fun i hi => ⟨?_, (HZ.out.2.2 i hi).2⟩⟩
    obtain ⟨⟨e1, K, e2, e3⟩, _⟩ := HZ.out.2.2 i hi
    exact ⟨(h2 _ _ (by have := HS.out i hi; omega) e1).later hb3, K, e2, (h2 _ _ (HS1.out i hi) e3).later hb3⟩
  clear h1 h2 h3 h4 hb3 HZ HS HS1 HL
  rcases hn3 with ⟨hi3, rfl⟩ | ⟨g, rfl, hg⟩
  · have HI : Hid (ixs k = []) := hi3
    clear hi3
    go_wp2_with fail
    go_loopw [4, 11] (fun lv iv wr => lv = .slice none 0 0 ∧ iv = .int .i64 0 ∧ Hid (wr = w3)) (fun _ _ _ => 0)
    case atStart => exact ⟨rfl, by go_num, rfl⟩
    case round =>
      obtain ⟨rfl, rfl, HR⟩ := hrel
      go_wp2_with fail
      go_ret
      refine ⟨_, q, rfl, ?_, ?_, ?_⟩
      · rw [HI.out]; exact World.ownsRow_nil _ _ _ _
      · rw [HR.out]; exact HX.out.2.2
      · rw [HR.out]; exact HX.out.2.1
  · obtain ⟨L, hL⟩ : ∃ L, ixs k = L := ⟨_, rfl⟩
    have HI : Hid (ixs k = L ∧ (∀ i ∈ L, i ≤ 12) ∧ L.length ≤ 6) := ⟨hL, by rw [← hL]; exact ixs_lt, by rw [← hL]; exact ixs_len k⟩
    rw [hL] at hg ⊢
    clear hL
    have HG : Hid (Bk w3 g (L.map fun i => .int .i64 (i : Nat))) := hg
    clear hg
    go_wp2_with fail
    go_loopw [4, 11] (fun lv iv wr => ∃ t : Nat, t ≤ L.length ∧ iv = .int .i64 t ∧ Hid (OwP wr w3.heap.size lv ((L.take t).map (po q)) ∧ Below w3.heap.size w3 wr)) (fun _ iv _ => (L.length - intOf iv).toNat)
    case atStart => exact ⟨0, by omega, by go_num, World.ownsRow_nil _ _ _ _, Below.refl _ _⟩
    case round =>
      obtain ⟨t, ht, rfl, HR⟩ := hrel
      by_cases hlt : t < L.length
      · have hlt' : (t : Int) < L.length := by omega
        obtain ⟨i, hi⟩ : ∃ i, L[t]? = some i := ⟨_, List.getElem?_eq_getElem hlt⟩
        have hi12 : i ≤ 12 := HI.out.2.1 i (List.mem_of_getElem? hi)
        have hi13 : (i : Int) < 13 := by omega
        have ht6 : (t : Int) < 6 := by have := HI.out.2.2; omega
        have c1 : wr.cell? ⟨g, t, none⟩ = some (.int .i64 i) := cell_later HR.out.2 (HG.out.cell (by rw [List.getElem?_map, hi]; rfl))
        have HT : Hid ((L.take (t + 1)).map (po q) = (L.take t).map (po q) ++ [po q i] ∧ ((L.take t).map (po q)).length ≤ 1000) := by
          refine ⟨?_, ?_⟩
          · rw [List.take_add_one, hi, List.map_append]; rfl
          · have := HI.out.2.2; simp; omega
        obtain ⟨x, hx⟩ : ∃ x, po q i = x := ⟨_, rfl⟩
        have HM : Hid ((((fl ((List.range 13).map (po q))).drop (i * 4)).take (pr x).length) = pr x ∧ po q i = x) := by
          refine ⟨?_, hx⟩
          rw [pr_len]
          exact fl_at _ _ _ (by rw [List.getElem?_map, List.getElem?_range (by omega), ← hx]; rfl)
        have HBX : Hid (Bk wr w1.heap.size (fl ((List.range 13).map (po q)))) := HX.out.1.later HR.out.2
        clear hx hi
        cases x with
        | none =>
          have HA : Hid (OwP (wr.alloc (.cells #[.func (.func 51) #[] #[], .func (.func 54) #[] #[], .func (.func 55) #[] #[], .func (.func 56) #[] #[]] 52)) w3.heap.size _ ((L.take t).map (po q)) ∧ Bk (wr.alloc (.cells #[.func (.func 51) #[] #[], .func (.func 54) #[] #[], .func (.func 55) #[] #[], .func (.func 56) #[] #[]] 52)) wr.heap.size [.func (.func 51) #[] #[], .func (.func 54) #[] #[], .func (.func 55) #[] #[], .func (.func 56) #[] #[]] ∧ Below w3.heap.size w3 (wr.alloc (.cells #[.func (.func 51) #[] #[], .func (.func 54) #[] #[], .func (.func 55) #[] #[], .func (.func 56) #[] #[]] 52)) ∧ w3.heap.size ≤ (wr.alloc (.cells #[.func (.func 51) #[] #[], .func (.func 54) #[] #[], .func (.func 55) #[] #[], .func (.func 56) #[] #[]] 52)).heap.size) := ⟨HR.out.1.later (below_b1 _ _), Bk.new _ _ _, HR.out.2.trans ((below_b1 _ _).mono HR.out.2.size), by have h2 := HR.out.2.size; simp; omega⟩
          go_wp2_with (first
            | (at_builtin; refine append_part rfl _ _ rfl w3.heap.size _ _ wr.heap.size (none) rfl HA.out.1 rfl HA.out.2.1 HT.out.2 HA.out.2.2.2 ?_; intro v5 w5 ho5 hb5)
            | (refine load_bk rfl 52 _ rfl w1.heap.size (i * 4) _ [.func (.func 51) #[] #[], .func (.func 54) #[] #[], .func (.func 55) #[] #[], .func (.func 56) #[] #[]] ?_ HBX.out HM.out.1 _ Try.underlying52 rfl (by kernel_rfl) ?_; · rfl))
          go_roundw
          case rel => exact ⟨t + 1, by omega, by go_num, by rw [HT.out.1, HM.out.2]; exact ho5, HA.out.2.2.1.trans hb5⟩
          case measure => simp [intOf]; omega
        | some q0 =>
          have HA : Hid (OwP (wr.alloc (.cells #[.func (.func 47) #[] #[.pointer (some ⟨q0 + 1, 0, none⟩), .pointer (some ⟨q0, 0, none⟩)], .func (.func 48) #[] #[.pointer (some ⟨q0 + 1, 0, none⟩)], .func (.func 49) #[] #[.pointer (some ⟨q0 + 1, 0, none⟩), .pointer (some ⟨q0, 0, none⟩)], .func (.func 50) #[] #[.pointer (some ⟨q0, 0, none⟩), .pointer (some ⟨q0 + 1, 0, none⟩)]] 52)) w3.heap.size _ ((L.take t).map (po q)) ∧ Bk (wr.alloc (.cells #[.func (.func 47) #[] #[.pointer (some ⟨q0 + 1, 0, none⟩), .pointer (some ⟨q0, 0, none⟩)], .func (.func 48) #[] #[.pointer (some ⟨q0 + 1, 0, none⟩)], .func (.func 49) #[] #[.pointer (some ⟨q0 + 1, 0, none⟩), .pointer (some ⟨q0, 0, none⟩)], .func (.func 50) #[] #[.pointer (some ⟨q0, 0, none⟩), .pointer (some ⟨q0 + 1, 0, none⟩)]] 52)) wr.heap.size [.func (.func 47) #[] #[.pointer (some ⟨q0 + 1, 0, none⟩), .pointer (some ⟨q0, 0, none⟩)], .func (.func 48) #[] #[.pointer (some ⟨q0 + 1, 0, none⟩)], .func (.func 49) #[] #[.pointer (some ⟨q0 + 1, 0, none⟩), .pointer (some ⟨q0, 0, none⟩)], .func (.func 50) #[] #[.pointer (some ⟨q0, 0, none⟩), .pointer (some ⟨q0 + 1, 0, none⟩)]] ∧ Below w3.heap.size w3 (wr.alloc (.cells #[.func (.func 47) #[] #[.pointer (some ⟨q0 + 1, 0, none⟩), .pointer (some ⟨q0, 0, none⟩)], .func (.func 48) #[] #[.pointer (some ⟨q0 + 1, 0, none⟩)], .func (.func 49) #[] #[.pointer (some ⟨q0 + 1, 0, none⟩), .pointer (some ⟨q0, 0, none⟩)], .func (.func 50) #[] #[.pointer (some ⟨q0, 0, none⟩), .pointer (some ⟨q0 + 1, 0, none⟩)]] 52)) ∧ w3.heap.size ≤ (wr.alloc (.cells #[.func (.func 47) #[] #[.pointer (some ⟨q0 + 1, 0, none⟩), .pointer (some ⟨q0, 0, none⟩)], .func (.func 48) #[] #[.pointer (some ⟨q0 + 1, 0, none⟩)], .func (.func 49) #[] #[.pointer (some ⟨q0 + 1, 0, none⟩), .pointer (some ⟨q0, 0, none⟩)], .func (.func 50) #[] #[.pointer (some ⟨q0, 0, none⟩), .pointer (some ⟨q0 + 1, 0, none⟩)]] 52)).heap.size) := ⟨HR.out.1.later (below_b1 _ _), Bk.new _ _ _, HR.out.2.trans ((below_b1 _ _).mono HR.out.2.size), by have h2 := HR.out.2.size; simp; omega⟩
          go_wp2_with (first
            | (at_builtin; refine append_part rfl _ _ rfl w3.heap.size _ _ wr.heap.size (some q0) rfl HA.out.1 rfl HA.out.2.1 HT.out.2 HA.out.2.2.2 ?_; intro v5 w5 ho5 hb5)
            | (refine load_bk rfl 52 _ rfl w1.heap.size (i * 4) _ [.func (.func 47) #[] #[.pointer (some ⟨q0 + 1, 0, none⟩), .pointer (some ⟨q0, 0, none⟩)], .func (.func 48) #[] #[.pointer (some ⟨q0 + 1, 0, none⟩)], .func (.func 49) #[] #[.pointer (some ⟨q0 + 1, 0, none⟩), .pointer (some ⟨q0, 0, none⟩)], .func (.func 50) #[] #[.pointer (some ⟨q0, 0, none⟩), .pointer (some ⟨q0 + 1, 0, none⟩)]] ?_ HBX.out HM.out.1 _ Try.underlying52 rfl (by kernel_rfl) ?_; · rfl))
          go_roundw
          case rel => exact ⟨t + 1, by omega, by go_num, by rw [HT.out.1, HM.out.2]; exact ho5, HA.out.2.2.1.trans hb5⟩
          case measure => simp [intOf]; omega
      · obtain rfl : t = L.length := by omega
        have hlt' : ¬ (L.length : Int) < L.length := by omega
        go_wp2_with fail
        go_ret
        refine ⟨_, q, rfl, ?_, fun i hi => ⟨(HX.out.2.2 i hi).1.later HR.out.2, (HX.out.2.2 i hi).2⟩, HX.out.2.1.trans (HR.out.2.mono HX.out.2.1.size)⟩
        have h := HR.out.1
        rw [List.take_length] at h
        rw [HI.out.1]; exact h.lower HX.out.2.1.size
end Go.Proofs.Yteklcolphbcjlaa
/- Lists of numbers: held against one another; one that is none of a job's lengths is looked for. -/
namespace Go.Proofs.Yteklcolphbcjlaa
open Go.RowKit

set_option maxHeartbeats 2000000 in
set_option maxRecDepth 100000 in
theorem seq16_any (xs ys : List Int) (v v' : Value) (w : World) (h : Nums w v xs) (h' : Nums w v' ys) :
    Calls Try.prog 30 #[v, v'] w fun r w' => r = .returned (.bool (decide (xs = ys))) ∧ Below w.heap.size w w' := by
  obtain ⟨a, cap, rfl, h1, h2, h3⟩ := h
  obtain ⟨a', cap', rfl, h1', h2', h3'⟩ := h'
  have hx : (xs.length : Int) ≤ 9223372036854775807 := by unfold maxLen at h2; omega
  by_cases hl : xs.length = ys.length
  · have hl1 : ((xs.length : Int)) = ys.length := by omega
    have HL : Hid (xs.length = ys.length) := hl
    clear hl1
    generalize hy : ys.length = ly at *
    have HY : Hid (ys.length = ly) := hy
    clear hy
    subst hl
    go_enter Try.func30, Try.ntmps30
    go_wp2_with fail
    go_loopw [13] (fun i wr => ∃ (j : Nat), j ≤ xs.length ∧ i = .int .i64 j ∧ Hid (∀ i, i < j → xs.getD i 0 = ys.getD i 0) ∧ Below w.heap.size w wr) (fun i _ => ((xs.length : Int) - intOf i).toNat)
    case atStart => exact ⟨0, by omega, rfl, (fun i hi => by omega), Below.refl _ _⟩
    case round =>
      obtain ⟨j, hj, rfl, HG, hbw⟩ := hrel
      by_cases hlt : (j : Int) < xs.length
      · obtain ⟨b, o, rfl, h4⟩ := h3 (by intro e; rw [e, List.length_nil] at hlt; omega)
        obtain ⟨b', o', rfl, h4'⟩ := h3' (by intro e; have := HY.out; rw [e, List.length_nil] at this; omega)
        have c0 := cell_later hbw (h4 j (by omega))
        have c1 := cell_later hbw (h4' j (by have := HY.out; omega))
        clear h3 h3' h4 h4'
        obtain ⟨x, hx⟩ : ∃ x, xs.getD j 0 = x := ⟨_, rfl⟩
        obtain ⟨y, hy⟩ : ∃ y, ys.getD j 0 = y := ⟨_, rfl⟩
        have HX : Hid (xs.getD j 0 = x) := hx
        have HZ : Hid (ys.getD j 0 = y) := hy
        rw [hx] at c0
        rw [hy] at c1
        clear hx hy
        by_cases hxy : x = y
        · subst hxy
          have HN : Hid (∀ i, i < j + 1 → xs.getD i 0 = ys.getD i 0) := by
            intro i hi
            rcases Nat.lt_succ_iff_lt_or_eq.1 hi with hi | rfl
            · exact HG.out i hi
            · rw [HX.out, HZ.out]
          go_wp2_with fail
          go_quiet (fail)
          go_wp2_with fail
          go_roundw
          case rel => exact ⟨j + 1, by omega, by go_num, HN.out, ⟨hbw.os, hbw.tape, hbw.output, hbw.size, hbw.block⟩⟩
          case measure => simp [intOf]; omega
        · have H : Hid (decide (xs = ys) = false) := decide_eq_false (fun e => hxy (by rw [← HX.out, ← HZ.out, e]))
          have q1 : (x == y) = false := by simpa using hxy
          go_wp2_with fail
          go_quiet (fail)
          go_wp2
          go_ret
          exact ⟨ret_b H.out.symm, ⟨hbw.os, hbw.tape, hbw.output, hbw.size, hbw.block⟩⟩
      · have hjk : j = xs.length := by omega
        have H : Hid (decide (xs = ys) = true) := decide_eq_true (same_of HY.out.symm (fun i hi => HG.out i (by omega)))
        subst hjk
        go_wp2
        go_ret
        exact ⟨ret_b H.out.symm, hbw⟩
  · have H : Hid (decide (xs = ys) = false) := decide_eq_false (fun e => hl (by rw [e]))
    have hl1 : ¬ ((xs.length : Int)) = ys.length := by omega
    have q1 : ((xs.length : Int) == ys.length) = false := by simpa using hl1
    go_enter Try.func30, Try.ntmps30
    go_wp2
    go_ret
    exact ⟨ret_b H.out.symm, Below.refl _ _⟩

theorem notLong_any (d : Int) (w : World) : Calls Try.prog 53 #[.int .i64 d] w fun e w' => e = .returned (.bool (!wtB d 1 20)) ∧ w' = w := by
  go_enter Try.func53, Try.ntmps53
  go_wp2_with fail
  refine (wtn_any d 1 20 _).mono ?_
  rintro e w2 ⟨rfl, rfl⟩
  go_wp2_with fail
  go_ret
  exact ⟨rfl, rfl⟩
theorem inD_take (xs : List Int) (j : Nat) (h : j < xs.length) : inD (xs.take (j + 1)) = (inD (xs.take j) && wtB (xs.getD j 0) 1 20) := by
  rw [List.take_add_one, List.getElem?_eq_getElem h, Option.toList_some, inD_snoc]
  unfold wtB
  rw [List.getD_eq_getElem?_getD, List.getElem?_eq_getElem h]
  rfl
theorem inD_no {xs : List Int} {j : Nat} (h : j < xs.length) (hn : wtB (xs.getD j 0) 1 20 = false) : inD xs = false := by
  cases c : inD xs with
  | false => rfl
  | true =>
    have h1 := inD_iff.1 c (xs.getD j 0) (by rw [List.getD_eq_getElem?_getD, List.getElem?_eq_getElem h]; exact List.getElem_mem h)
    have h2 := of_decide_eq_false hn
    omega
set_option maxHeartbeats 2000000 in
set_option maxRecDepth 100000 in
theorem idx16_any (xs : List Int) (v : Value) (w : World) (h : Nums w v xs) :
    Calls Try.prog 57 #[v, .func (.func 53) #[] #[]] w fun r w' => ∃ z : Int, r = .returned (.int .i64 z) ∧ -1 ≤ z ∧ z ≤ 9223372036854775807 ∧ Hid (inD xs = decide (z < 0)) ∧ Below w.heap.size w w' := by
  obtain ⟨a, cap, rfl, h1, h2, h3⟩ := h
  have hx : (xs.length : Int) ≤ 9223372036854775807 := by unfold maxLen at h2; omega
  go_enter Try.func57, Try.ntmps57
  go_wp2_with fail
  go_loopw [8] (fun i wr => ∃ (j : Nat), j ≤ xs.length ∧ i = .int .i64 j ∧ Hid (inD (xs.take j) = true ∧ wr = w)) (fun i _ => ((xs.length : Int) - intOf i).toNat)
  case atStart => exact ⟨0, by omega, by go_num, rfl, rfl⟩
  case round =>
    obtain ⟨j, hj, rfl, HG⟩ := hrel
    by_cases hlt : (j : Int) < xs.length
    · obtain ⟨b, o, rfl, h4⟩ := h3 (by intro e; rw [e, List.length_nil] at hlt; omega)
      have c0 : wr.cell? ⟨b, o + j, none⟩ = some (.int .i64 (xs.getD j 0)) := by rw [HG.out.2]; exact h4 j (by omega)
      have HN := inD_take xs j (by omega)
      have HM : Hid (inD (xs.take (j + 1)) = (inD (xs.take j) && wtB (xs.getD j 0) 1 20) ∧ (wtB (xs.getD j 0) 1 20 = false → inD xs = false)) := ⟨HN, inD_no (by omega)⟩
      clear HN h3 h4
      generalize xs.getD j 0 = x at *
      obtain ⟨y, hy⟩ : ∃ y, wtB x 1 20 = y := ⟨_, rfl⟩
      have HY : Hid (wtB x 1 20 = y) := hy
      rw [hy] at HM
      clear hy
      go_wp2_with fail
      refine (notLong_any x _).mono ?_
      rintro e w2 ⟨rfl, rfl⟩
      rw [HY.out]
      cases y with
      | false =>
        go_wp2_with fail
        go_ret
        exact ⟨j, rfl, by omega, by omega, by show _ = _; rw [HM.out.2 (by first | rfl | trivial), decide_eq_false (by omega)], by rw [HG.out.2]; exact Below.refl _ _⟩
      | true =>
        go_wp2_with fail
        go_roundw
        case rel => exact ⟨j + 1, by omega, by go_num, by rw [HM.out.1, HG.out.1]; rfl, HG.out.2⟩
        case measure => simp [intOf]; omega
    · obtain rfl : j = xs.length := by omega
      go_wp2_with fail
      go_ret
      exact ⟨-1, rfl, by omega, by omega, by show _ = _; have := HG.out.1; rw [List.take_length] at this; rw [this]; rfl, by rw [HG.out.2]; exact Below.refl _ _⟩
set_option maxHeartbeats 2000000 in
set_option maxRecDepth 100000 in
theorem con16_any (xs : List Int) (v : Value) (w : World) (h : Nums w v xs) :
    Calls Try.prog 52 #[v, .func (.func 53) #[] #[]] w fun r w' => r = .returned (.bool (!inD xs)) ∧ Below w.heap.size w w' := by
  go_enter Try.func52, Try.ntmps52
  go_wp2_with fail
  refine (idx16_any xs v _ h).mono ?_
  rintro r w1 ⟨z, rfl, z0, z1, HZ, hb1⟩
  go_wp2
  go_ret
  refine ⟨ret_b ?_, hb1⟩
  rw [HZ.out]
  by_cases c : z < 0
  · rw [decide_eq_true c, decide_eq_false (by omega)]; rfl
  · rw [decide_eq_false c, decide_eq_true (by omega)]; rfl
end Go.Proofs.Yteklcolphbcjlaa
/- Walks of package wire: Same. -/
namespace Go.Proofs.Yteklcolphbcjlaa
open Go.RowKit

set_option maxHeartbeats 4000000 in
set_option maxRecDepth 100000 in
theorem wsm_any (ok oid ec et ex em ek ee ot om ow oc ov : Int) (dv : Value) (pk pid fc ft fx fm fk fe pt pm pw pc pv : Int) (du : Value) (ds es : List Int) (w : World) (h : Nums w dv ds) (h' : Nums w du es) :
    Calls Try.prog 21 #[.agg #[.int .i64 ok, .int .i64 oid, .int .i64 ec, .int .i64 et, .int .i64 ex, .int .i64 em, .int .i64 ek, .int .i64 ee, .int .i64 ot, .int .i64 om, .int .i64 ow, .int .i64 oc, .int .i64 ov, dv], .agg #[.int .i64 pk, .int .i64 pid, .int .i64 fc, .int .i64 ft, .int .i64 fx, .int .i64 fm, .int .i64 fk, .int .i64 fe, .int .i64 pt, .int .i64 pm, .int .i64 pw, .int .i64 pc, .int .i64 pv, du]] w fun e w' => e = .returned (.bool (smO ⟨ok, oid, ⟨ec, et, ex, em, ek, ee⟩, ot, om, ow, oc, ov, ds⟩ ⟨pk, pid, ⟨fc, ft, fx, fm, fk, fe⟩, pt, pm, pw, pc, pv, es⟩)) ∧ Below w.heap.size w w' := by
  have HN : Hid (∀ w', Below w.heap.size w w' → Nums w' dv ds ∧ Nums w' du es) := fun w' hb => ⟨h.later hb, h'.later hb⟩
  have HG : Hid (Bk ((w.alloc (.cells #[.int .i64 ok, .int .i64 oid, .int .i64 ec, .int .i64 et, .int .i64 ex, .int .i64 em, .int .i64 ek, .int .i64 ee, .int .i64 ot, .int .i64 om, .int .i64 ow, .int .i64 oc, .int .i64 ov, dv] 26)).alloc (.cells #[.int .i64 pk, .int .i64 pid, .int .i64 fc, .int .i64 ft, .int .i64 fx, .int .i64 fm, .int .i64 fk, .int .i64 fe, .int .i64 pt, .int .i64 pm, .int .i64 pw, .int .i64 pc, .int .i64 pv, du] 26)) w.heap.size [.int .i64 ok, .int .i64 oid, .int .i64 ec, .int .i64 et, .int .i64 ex, .int .i64 em, .int .i64 ek, .int .i64 ee, .int .i64 ot, .int .i64 om, .int .i64 ow, .int .i64 oc, .int .i64 ov, dv] ∧ Bk ((w.alloc (.cells #[.int .i64 ok, .int .i64 oid, .int .i64 ec, .int .i64 et, .int .i64 ex, .int .i64 em, .int .i64 ek, .int .i64 ee, .int .i64 ot, .int .i64 om, .int .i64 ow, .int .i64 oc, .int .i64 ov, dv] 26)).alloc (.cells #[.int .i64 pk, .int .i64 pid, .int .i64 fc, .int .i64 ft, .int .i64 fx, .int .i64 fm, .int .i64 fk, .int .i64 fe, .int .i64 pt, .int .i64 pm, .int .i64 pw, .int .i64 pc, .int .i64 pv, du] 26)) (w.heap.size + 1) [.int .i64 pk, .int .i64 pid, .int .i64 fc, .int .i64 ft, .int .i64 fx, .int .i64 fm, .int .i64 fk, .int .i64 fe, .int .i64 pt, .int .i64 pm, .int .i64 pw, .int .i64 pc, .int .i64 pv, du] ∧ Below w.heap.size w ((w.alloc (.cells #[.int .i64 ok, .int .i64 oid, .int .i64 ec, .int .i64 et, .int .i64 ex, .int .i64 em, .int .i64 ek, .int .i64 ee, .int .i64 ot, .int .i64 om, .int .i64 ow, .int .i64 oc, .int .i64 ov, dv] 26)).alloc (.cells #[.int .i64 pk, .int .i64 pid, .int .i64 fc, .int .i64 ft, .int .i64 fx, .int .i64 fm, .int .i64 fk, .int .i64 fe, .int .i64 pt, .int .i64 pm, .int .i64 pw, .int .i64 pc, .int .i64 pv, du] 26))) := ⟨(Bk.new w _ _).later (below_b1 _ _), (by have := Bk.new (w.alloc (.cells #[.int .i64 ok, .int .i64 oid, .int .i64 ec, .int .i64 et, .int .i64 ex, .int .i64 em, .int .i64 ek, .int .i64 ee, .int .i64 ot, .int .i64 om, .int .i64 ow, .int .i64 oc, .int .i64 ov, dv] 26)) [.int .i64 pk, .int .i64 pid, .int .i64 fc, .int .i64 ft, .int .i64 fx, .int .i64 fm, .int .i64 fk, .int .i64 fe, .int .i64 pt, .int .i64 pm, .int .i64 pw, .int .i64 pc, .int .i64 pv, du] 26; simp only [World.size_alloc] at this; exact this), below_b2 _ _ _⟩
  clear h h'
  have HS : Hid (smO ⟨ok, oid, ⟨ec, et, ex, em, ek, ee⟩, ot, om, ow, oc, ov, ds⟩ ⟨pk, pid, ⟨fc, ft, fx, fm, fk, fe⟩, pt, pm, pw, pc, pv, es⟩ = (decide (ds = es) && (decide (ok = pk) && (decide (oid = pid) && (spB ec et ex em ek ee fc ft fx fm fk fe && (decide (ot = pt) && (decide (om = pm) && (decide (ow = pw) && (decide (oc = pc) && decide (ov = pv)))))))))) := rfl
  go_enter Try.func21, Try.ntmps21
  go_upto_region 1 with fail
  generalize ((w.alloc (.cells #[.int .i64 ok, .int .i64 oid, .int .i64 ec, .int .i64 et, .int .i64 ex, .int .i64 em, .int .i64 ek, .int .i64 ee, .int .i64 ot, .int .i64 om, .int .i64 ow, .int .i64 oc, .int .i64 ov, dv] 26)).alloc (.cells #[.int .i64 pk, .int .i64 pid, .int .i64 fc, .int .i64 ft, .int .i64 fx, .int .i64 fm, .int .i64 fk, .int .i64 fe, .int .i64 pt, .int .i64 pm, .int .i64 pw, .int .i64 pc, .int .i64 pv, du] 26)) = W at *
  obtain ⟨g0, g1, g2, g3, g4, g5, g6, g7, g8, g9, g10, g11, g12, g13⟩ := HG.out.1.c14
  obtain ⟨m0, m1, m2, m3, m4, m5, m6, m7, m8, m9, m10, m11, m12, m13⟩ := HG.out.2.1.c14
  by_cases k0 : ok = pk
  rotate_left
  · have dk0 : (ok == pk) = false := by simpa using k0
    have HF : Hid (smO ⟨ok, oid, ⟨ec, et, ex, em, ek, ee⟩, ot, om, ow, oc, ov, ds⟩ ⟨pk, pid, ⟨fc, ft, fx, fm, fk, fe⟩, pt, pm, pw, pc, pv, es⟩ = false) := by show _ = _; rw [HS.out]; simp [k0]
    clear k0
    go_wp2; go_ret; exact ⟨ret_b HF.out.symm, HG.out.2.2⟩
  have dk0 : (ok == pk) = true := by simpa using k0
  have Hk0 : Hid (ok = pk) := k0
  clear k0
  by_cases k1 : oid = pid
  rotate_left
  · have dk1 : (oid == pid) = false := by simpa using k1
    have HF : Hid (smO ⟨ok, oid, ⟨ec, et, ex, em, ek, ee⟩, ot, om, ow, oc, ov, ds⟩ ⟨pk, pid, ⟨fc, ft, fx, fm, fk, fe⟩, pt, pm, pw, pc, pv, es⟩ = false) := by show _ = _; rw [HS.out]; simp [k1]
    clear k1
    go_wp2; go_ret; exact ⟨ret_b HF.out.symm, HG.out.2.2⟩
  have dk1 : (oid == pid) = true := by simpa using k1
  have Hk1 : Hid (oid = pid) := k1
  clear k1
  have hS := fun w => sp_eql ec et ex em ek ee fc ft fx fm fk fe w
  cases hq : spB ec et ex em ek ee fc ft fx fm fk fe with
  | false =>
    have HF : Hid (smO ⟨ok, oid, ⟨ec, et, ex, em, ek, ee⟩, ot, om, ow, oc, ov, ds⟩ ⟨pk, pid, ⟨fc, ft, fx, fm, fk, fe⟩, pt, pm, pw, pc, pv, es⟩ = false) := by show _ = _; rw [HS.out]; simp [hq]
    rw [hq] at hS
    clear hq
    go_wp2; go_ret; exact ⟨ret_b HF.out.symm, HG.out.2.2⟩
  | true =>
    rw [hq] at hS
    have HQ : Hid (spB ec et ex em ek ee fc ft fx fm fk fe = true) := hq
    clear hq
    by_cases k2 : ot = pt
    rotate_left
    · have dk2 : (ot == pt) = false := by simpa using k2
      have HF : Hid (smO ⟨ok, oid, ⟨ec, et, ex, em, ek, ee⟩, ot, om, ow, oc, ov, ds⟩ ⟨pk, pid, ⟨fc, ft, fx, fm, fk, fe⟩, pt, pm, pw, pc, pv, es⟩ = false) := by show _ = _; rw [HS.out]; simp [k2]
      clear k2
      go_wp2; go_ret; exact ⟨ret_b HF.out.symm, HG.out.2.2⟩
    have dk2 : (ot == pt) = true := by simpa using k2
    have Hk2 : Hid (ot = pt) := k2
    clear k2
    by_cases k3 : om = pm
    rotate_left
    · have dk3 : (om == pm) = false := by simpa using k3
      have HF : Hid (smO ⟨ok, oid, ⟨ec, et, ex, em, ek, ee⟩, ot, om, ow, oc, ov, ds⟩ ⟨pk, pid, ⟨fc, ft, fx, fm, fk, fe⟩, pt, pm, pw, pc, pv, es⟩ = false) := by show _ = _; rw [HS.out]; simp [k3]
      clear k3
      go_wp2; go_ret; exact ⟨ret_b HF.out.symm, HG.out.2.2⟩
    have dk3 : (om == pm) = true := by simpa using k3
    have Hk3 : Hid (om = pm) := k3
    clear k3
    by_cases k4 : ow = pw
    rotate_left
    · have dk4 : (ow == pw) = false := by simpa using k4
      have HF : Hid (smO ⟨ok, oid, ⟨ec, et, ex, em, ek, ee⟩, ot, om, ow, oc, ov, ds⟩ ⟨pk, pid, ⟨fc, ft, fx, fm, fk, fe⟩, pt, pm, pw, pc, pv, es⟩ = false) := by show _ = _; rw [HS.out]; simp [k4]
      clear k4
      go_wp2; go_ret; exact ⟨ret_b HF.out.symm, HG.out.2.2⟩
    have dk4 : (ow == pw) = true := by simpa using k4
    have Hk4 : Hid (ow = pw) := k4
    clear k4
    by_cases k5 : oc = pc
    rotate_left
    · have dk5 : (oc == pc) = false := by simpa using k5
      have HF : Hid (smO ⟨ok, oid, ⟨ec, et, ex, em, ek, ee⟩, ot, om, ow, oc, ov, ds⟩ ⟨pk, pid, ⟨fc, ft, fx, fm, fk, fe⟩, pt, pm, pw, pc, pv, es⟩ = false) := by show _ = _; rw [HS.out]; simp [k5]
      clear k5
      go_wp2; go_ret; exact ⟨ret_b HF.out.symm, HG.out.2.2⟩
    have dk5 : (oc == pc) = true := by simpa using k5
    have Hk5 : Hid (oc = pc) := k5
    clear k5
    by_cases k6 : ov = pv
    rotate_left
    · have dk6 : (ov == pv) = false := by simpa using k6
      have HF : Hid (smO ⟨ok, oid, ⟨ec, et, ex, em, ek, ee⟩, ot, om, ow, oc, ov, ds⟩ ⟨pk, pid, ⟨fc, ft, fx, fm, fk, fe⟩, pt, pm, pw, pc, pv, es⟩ = false) := by show _ = _; rw [HS.out]; simp [k6]
      clear k6
      go_wp2; go_ret; exact ⟨ret_b HF.out.symm, HG.out.2.2⟩
    have dk6 : (ov == pv) = true := by simpa using k6
    have Hk6 : Hid (ov = pv) := k6
    clear k6
    have HF : Hid (smO ⟨ok, oid, ⟨ec, et, ex, em, ek, ee⟩, ot, om, ow, oc, ov, ds⟩ ⟨pk, pid, ⟨fc, ft, fx, fm, fk, fe⟩, pt, pm, pw, pc, pv, es⟩ = decide (ds = es)) := by show _ = _; rw [HS.out, HQ.out, decide_eq_true Hk0.out, decide_eq_true Hk1.out, decide_eq_true Hk2.out, decide_eq_true Hk3.out, decide_eq_true Hk4.out, decide_eq_true Hk5.out, decide_eq_true Hk6.out]; simp
    go_wp2_with fail
    refine (seq16_any ds es dv du _ (HN.out _ HG.out.2.2).1 (HN.out _ HG.out.2.2).2).mono ?_
    rintro e w2 ⟨rfl, hb2⟩
    have HE := HG.out.2.2.trans (hb2.mono HG.out.2.2.size)
    rw [← HF.out]
    go_wp2_with fail
    go_ret
    exact ⟨rfl, HE⟩
end Go.Proofs.Yteklcolphbcjlaa
/- The document's own Answered. -/
namespace Go.Proofs.Yteklcolphbcjlaa
open Go.RowKit

/-- What is read of the number, so far. -/
def pN (xs : List Int) : Nat → Int
  | 0 => 0
  | i + 1 => if i = 0 then 0 else pN xs i * 256 + xs.getD i 0
theorem pN_next (xs : List Int) {i : Nat} (h : 0 < i) : pN xs (i + 1) = pN xs i * 256 + xs.getD i 0 := by
  show (if i = 0 then 0 else pN xs i * 256 + xs.getD i 0) = _
  rw [if_neg (by omega)]
theorem pN_7 (xs : List Int) : pN xs 7 = adN xs := by
  simp [pN, adN]
theorem pN_bd {xs : List Int} (hx : xs.length = 7) (hb : ∀ i, i < xs.length → 0 ≤ xs.getD i 0 ∧ xs.getD i 0 ≤ 255) : ∀ i, i ≤ 7 → 0 ≤ pN xs i ∧ pN xs i < 281474976710656 := by
  have b1 := hb 1 (by omega)
  have b2 := hb 2 (by omega)
  have b3 := hb 3 (by omega)
  have b4 := hb 4 (by omega)
  have b5 := hb 5 (by omega)
  have b6 := hb 6 (by omega)
  have p1 : pN xs 1 = 0 := rfl
  have p2 : pN xs 2 = pN xs 1 * 256 + xs.getD 1 0 := pN_next xs (by omega)
  have p3 : pN xs 3 = pN xs 2 * 256 + xs.getD 2 0 := pN_next xs (by omega)
  have p4 : pN xs 4 = pN xs 3 * 256 + xs.getD 3 0 := pN_next xs (by omega)
  have p5 : pN xs 5 = pN xs 4 * 256 + xs.getD 4 0 := pN_next xs (by omega)
  have p6 : pN xs 6 = pN xs 5 * 256 + xs.getD 5 0 := pN_next xs (by omega)
  have p7 : pN xs 7 = pN xs 6 * 256 + xs.getD 6 0 := pN_next xs (by omega)
  intro i hi
  rcases (show i = 0 ∨ i = 1 ∨ i = 2 ∨ i = 3 ∨ i = 4 ∨ i = 5 ∨ i = 6 ∨ i = 7 by omega) with rfl | rfl | rfl | rfl | rfl | rfl | rfl | rfl
  · have p0 : pN xs 0 = 0 := rfl
    omega
  all_goals omega
def AndE (xs : List Int) (w : World) (r : Ending) (w' : World) : Prop := ∃ e n y, r = .returned (.tuple #[.agg #[.int .i64 e, .int .i64 n], .bool y]) ∧ IsAns xs e n y ∧ Below w.heap.size w w'
set_option maxHeartbeats 4000000 in
set_option maxRecDepth 100000 in
theorem roand_any (xs : List Int) (v : Value) (w : World) (h : Bys w v xs) :
    Calls Try.prog 16 #[v] w (AndE xs w) := by
  have HB : Hid (Bk (w.alloc (.cells #[.int .i64 0, .int .i64 0] 30)) w.heap.size [.int .i64 0, .int .i64 0] ∧ Below w.heap.size w (w.alloc (.cells #[.int .i64 0, .int .i64 0] 30))) := ⟨Bk.new w _ _, below_b1 _ _⟩
  obtain ⟨a, cap, rfl, h1, h2, h3, h4, h5⟩ := h
  have HD : Hid (∀ i, i < xs.length → 0 ≤ xs.getD i 0 ∧ xs.getD i 0 ≤ 255) := h4
  clear h4 h3
  by_cases c7 : xs.length = 7
  rotate_left
  · have HR : Hid (IsAns xs 0 0 false) := isAns_long c7
    have c8 : ((xs.length : Int) != 7) = true := by simp; omega
    clear h5 c7
    go_enter Try.func16, Try.ntmps16
    go_wp2_with fail
    refine bodyPost_ret (v := .tuple #[.agg #[.int .i64 0, .int .i64 0], .bool false]) ?_ rfl ⟨0, 0, false, rfl, HR.out, HB.out.2⟩
    simp [results, Try.results16, go_sem]
  have HC7 : Hid (xs.length = 7) := c7
  obtain ⟨b, o, rfl, h6⟩ := h5 (by intro e; rw [e] at c7; simp at c7)
  have HBY : Hid (∀ i, i < 7 → ∀ y, Below w.heap.size w y → y.cell? ⟨b, o + i, none⟩ = some (.int .u8 (xs.getD i 0))) := fun i hi y hy => cell_later hy (h6 i (by omega))
  have hbl : b < w.heap.size := World.block_lt_of_cell? _ _ (h6 0 (by omega))
  have c8 : ((xs.length : Int) != 7) = false := by simp; omega
  obtain ⟨x0, hx0⟩ : ∃ x, xs.getD 0 0 = x := ⟨_, rfl⟩
  have HX0 : Hid (xs.getD 0 0 = x0) := hx0
  have d0 := HD.out 0 (by omega)
  rw [hx0] at d0
  have w0 : IntKind.i64.wrap x0 = x0 := by rw [IntKind.wrap_i64]; omega
  have e0 := HBY.out 0 (by omega) _ HB.out.2
  rw [hx0, Nat.add_zero] at e0
  have hln : (0 : Int) < xs.length := by omega
  clear h5 h6 hx0 d0
  go_enter Try.func16, Try.ntmps16
  go_wp2_with fail
  go_loopw [5] (fun iv wr => ∃ i : Nat, 1 ≤ i ∧ i ≤ 7 ∧ iv = .int .i64 i ∧ Hid (Bk wr (w.heap.size + 1) [.int .i64 x0, .int .i64 (pN xs i)] ∧ Bk wr w.heap.size [.int .i64 0, .int .i64 0] ∧ Below w.heap.size w wr)) (fun iv _ => (7 - intOf iv).toNat)
  case atStart => exact ⟨1, by omega, by omega, by go_num, ⟨(by have h := Bk.new (w.alloc (.cells #[.int .i64 0, .int .i64 0] 30)) [.int .i64 x0, .int .i64 0] 30; simp only [World.size_alloc] at h; exact h), HB.out.1.later (below_b1 _ _), HB.out.2.alloc HB.out.2.size _⟩⟩
  case round =>
    clear e0 w0
    obtain ⟨i, hi1, hi7, rfl, HX⟩ := hrel
    by_cases hlt : i < 7
    · have hlt' : (i : Int) < 7 := by omega
      have hlt2 : (i : Int) < xs.length := by omega
      obtain ⟨p, hp⟩ : ∃ p, pN xs i = p := ⟨_, rfl⟩
      obtain ⟨x, hxx⟩ : ∃ x, xs.getD i 0 = x := ⟨_, rfl⟩
      have bp := pN_bd HC7.out HD.out i hi7
      have bx := HD.out i (by omega)
      have HPN : Hid (pN xs (i + 1) = p * 256 + x) := by show _ = _; rw [pN_next xs (by omega), hp, hxx]
      rw [hp] at bp
      rw [hxx] at bx
      have wx : IntKind.i64.wrap x = x := by rw [IntKind.wrap_i64]; omega
      have wm : IntKind.i64.wrap (p * 256) = p * 256 := by rw [IntKind.wrap_i64]; omega
      have wa : IntKind.i64.wrap (p * 256 + x) = p * 256 + x := by rw [IntKind.wrap_i64]; omega
      have c1 : wr.cell? ⟨w.heap.size + 1, 1, none⟩ = some (.int .i64 p) := by rw [← hp]; exact HX.out.1.cell rfl
      have f1 : wr.frozen? ⟨w.heap.size + 1, 1, none⟩ = false := HX.out.1.frz (by simp)
      have cb := HBY.out i hlt _ HX.out.2.2
      rw [hxx] at cb
      have HY : Hid (Bk (wr.setCell ⟨w.heap.size + 1, 1, none⟩ (.int .i64 (p * 256 + x))) (w.heap.size + 1) [.int .i64 x0, .int .i64 (p * 256 + x)] ∧ Bk (wr.setCell ⟨w.heap.size + 1, 1, none⟩ (.int .i64 (p * 256 + x))) w.heap.size [.int .i64 0, .int .i64 0] ∧ Below w.heap.size w (wr.setCell ⟨w.heap.size + 1, 1, none⟩ (.int .i64 (p * 256 + x)))) := ⟨HX.out.1.set 1 _, HX.out.2.1.other (by omega) _, HX.out.2.2.setCell (p := ⟨w.heap.size + 1, 1, none⟩) (by show w.heap.size ≤ w.heap.size + 1; omega) _⟩
      clear hp hxx bp bx
      go_wp2_with fail
      go_region
      all_goals
        go_wp2_with fail
        go_roundw
        case rel => exact ⟨i + 1, by omega, by omega, by go_num, ⟨by rw [HPN.out]; exact HY.out.1.later (Below.refl _ _).drew, HY.out.2.1.later (Below.refl _ _).drew, HY.out.2.2.drew⟩⟩
        case measure => simp [intOf]; omega
    · obtain rfl : i = 7 := by omega
      have hp7 := pN_7 xs
      rw [hp7] at HX
      have HR : Hid (IsAns xs (if anB x0 (adN xs) = true then x0 else 0) (if anB x0 (adN xs) = true then adN xs else 0) (anB x0 (adN xs))) := by
        have hb : ∀ x ∈ xs, 0 ≤ x ∧ x ≤ 255 := fun x hx => by
          obtain ⟨j, hj, e⟩ := List.getElem_of_mem hx
          have := HD.out j hj
          rw [List.getD_eq_getElem?_getD, List.getElem?_eq_getElem hj] at this
          rw [← e]; exact this
        have := isAns_read HC7.out hb
        rw [HX0.out] at this
        exact this
      generalize adN xs = nn at *
      obtain ⟨y, hy⟩ : ∃ y, anB x0 nn = y := ⟨_, rfl⟩
      have HA : Hid (anB x0 nn = y) := hy
      rw [hy] at HR
      clear hy hp7
      have c0 : wr.cell? ⟨w.heap.size + 1, 0, none⟩ = some (.int .i64 x0) := HX.out.1.cell rfl
      have c1 : wr.cell? ⟨w.heap.size + 1, 1, none⟩ = some (.int .i64 nn) := HX.out.1.cell rfl
      go_wp2_with fail
      refine (roans_any x0 nn _).mono ?_
      rintro e w9 ⟨v9, rfl, _, hb9⟩
      rw [HA.out]
      have HY : Hid (Bk w9 (w.heap.size + 1) [.int .i64 x0, .int .i64 nn] ∧ Bk w9 w.heap.size [.int .i64 0, .int .i64 0] ∧ Below w.heap.size w w9) := ⟨HX.out.1.later hb9, HX.out.2.1.later hb9, HX.out.2.2.trans (hb9.mono HX.out.2.2.size)⟩
      clear hb9 HX c0 c1
      obtain ⟨a0, a1⟩ := HY.out.1.c2
      obtain ⟨z0, z1⟩ := HY.out.2.1.c2
      obtain ⟨f0, f1⟩ := HY.out.2.1.f2
      cases y with
      | false =>
        have HP : Hid (Bk ((w9.setCell ⟨w.heap.size, 0, none⟩ (.int .i64 0)).setCell ⟨w.heap.size, 1, none⟩ (.int .i64 0)) w.heap.size [.int .i64 0, .int .i64 0] ∧ Below w.heap.size w ((w9.setCell ⟨w.heap.size, 0, none⟩ (.int .i64 0)).setCell ⟨w.heap.size, 1, none⟩ (.int .i64 0))) := ⟨(HY.out.2.1.set 0 _).set 1 _, (HY.out.2.2.setCell (p := ⟨w.heap.size, 0, none⟩) (Nat.le_refl _) _).setCell (p := ⟨w.heap.size, 1, none⟩) (Nat.le_refl _) _⟩
        go_wp2_with fail
        generalize ((w9.setCell ⟨w.heap.size, 0, none⟩ (.int .i64 0)).setCell ⟨w.heap.size, 1, none⟩ (.int .i64 0)) = W9 at *
        obtain ⟨p0, p1⟩ := HP.out.1.c2
        refine bodyPost_ret (v := .tuple #[.agg #[.int .i64 0, .int .i64 0], .bool false]) ?_ rfl ⟨0, 0, false, rfl, HR.out, HP.out.2⟩
        simp [results, Try.results16, go_sem, p0, p1]
      | true =>
        have HP : Hid (Bk ((w9.setCell ⟨w.heap.size, 0, none⟩ (.int .i64 x0)).setCell ⟨w.heap.size, 1, none⟩ (.int .i64 nn)) w.heap.size [.int .i64 x0, .int .i64 nn] ∧ Below w.heap.size w ((w9.setCell ⟨w.heap.size, 0, none⟩ (.int .i64 x0)).setCell ⟨w.heap.size, 1, none⟩ (.int .i64 nn))) := ⟨(HY.out.2.1.set 0 _).set 1 _, (HY.out.2.2.setCell (p := ⟨w.heap.size, 0, none⟩) (Nat.le_refl _) _).setCell (p := ⟨w.heap.size, 1, none⟩) (Nat.le_refl _) _⟩
        go_wp2_with fail
        generalize ((w9.setCell ⟨w.heap.size, 0, none⟩ (.int .i64 x0)).setCell ⟨w.heap.size, 1, none⟩ (.int .i64 nn)) = W9 at *
        obtain ⟨p0, p1⟩ := HP.out.1.c2
        refine bodyPost_ret (v := .tuple #[.agg #[.int .i64 x0, .int .i64 nn], .bool true]) ?_ rfl ⟨x0, nn, true, rfl, HR.out, HP.out.2⟩
        simp [results, Try.results16, go_sem, p0, p1]
end Go.Proofs.Yteklcolphbcjlaa
/- The document's own pair; bytes as they are made, put together in a region that draws. -/
namespace Go.Proofs.Yteklcolphbcjlaa
open Go.RowKit

/-- What is the call's own is read. -/
theorem OwY.bys {w : World} {base : Nat} {v : Value} {xs : List Int} (h : OwY w base v xs) (hx : ∀ i, i < xs.length → 0 ≤ xs.getD i 0 ∧ xs.getD i 0 ≤ 255) : Bys w v xs := Bys.own h rfl hx
theorem owy_two (w : World) (base : Nat) (x y : Int) (hb : base ≤ w.heap.size) : OwY (w.alloc (.cells #[.int .u8 x, .int .u8 y] 5)) base (.slice (some ⟨w.heap.size, 0, none⟩) 2 2) [x, y] :=
  World.ownsRow_lit (base := base) (e := 5) (size := 1) w #[.int .u8 x, .int .u8 y] 2 hb (by decide) rfl
theorem owy_six (w : World) (base : Nat) (a b c d e f : Int) (hb : base ≤ w.heap.size) : OwY (w.alloc (.cells #[.int .u8 a, .int .u8 b, .int .u8 c, .int .u8 d, .int .u8 e, .int .u8 f] 5)) base (.slice (some ⟨w.heap.size, 0, none⟩) 6 6) [a, b, c, d, e, f] :=
  World.ownsRow_lit (base := base) (e := 5) (size := 1) w #[.int .u8 a, .int .u8 b, .int .u8 c, .int .u8 d, .int .u8 e, .int .u8 f] 6 hb (by decide) rfl
/-- Two bytes of a number. -/
def PairE (n : Int) (w : World) (r : Ending) (w' : World) : Prop := ∃ v, r = .returned v ∧ OwY w' w.heap.size v [n / 256, n % 256] ∧ Below w.heap.size w w'
theorem ropair_any (n : Int) (w : World) (h : 0 ≤ n ∧ n ≤ 65535) : Calls Try.prog 24 #[.int .i64 n] w (PairE n w) := by
  obtain ⟨a, ha⟩ : ∃ a, n / 256 = a := ⟨_, rfl⟩
  obtain ⟨b, hb⟩ : ∃ b, n % 256 = b := ⟨_, rfl⟩
  have t1 : n.tdiv 256 = a := by rw [Int.tdiv_eq_ediv_of_nonneg h.1]; exact ha
  have t2 : n.tmod 256 = b := by rw [Int.tmod_eq_emod_of_nonneg h.1]; exact hb
  have a0 : 0 ≤ a ∧ a ≤ 255 := by omega
  have b0 : 0 ≤ b ∧ b ≤ 255 := by omega
  have w1 : IntKind.i64.wrap a = a := by rw [IntKind.wrap_i64]; omega
  have w2 : IntKind.i64.wrap b = b := by rw [IntKind.wrap_i64]; omega
  have w3 : IntKind.u8.wrap a = a := by rw [IntKind.wrap_u8]; omega
  have w4 : IntKind.u8.wrap b = b := by rw [IntKind.wrap_u8]; omega
  have HP : Hid (∀ v w', OwY w' w.heap.size v [a, b] → OwY w' w.heap.size v [n / 256, n % 256]) := fun v w' hh => by rw [ha, hb]; exact hh
  clear ha hb h a0 b0
  go_enter Try.func24, Try.ntmps24
  go_wp2
  go_ret
  exact ⟨_, rfl, HP.out _ _ (owy_two w w.heap.size a b (Nat.le_refl _)), (Below.refl _ _).alloc (Nat.le_refl _) _⟩
end Go.Proofs.Yteklcolphbcjlaa
