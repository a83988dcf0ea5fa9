/- Walks of the document's own answers of chapter 10: springs. -/
import Derived.Test.YtmiakknagjncpaaGreatDoorC11
import Derived.Test.YtmiakknagjncpaaGreatDoorY6
import Derived.Test.YtmiakknagjncpaaGreatDoorY9
import Derived.Deep.RegionHeld3
namespace Go.Proofs.YtmiakknagjncpaaGreatDoor
open Go.RowKit Go.Shelf

/-- One spring more, in a region that draws its order. -/
theorem step_append_spr {w : World} {ops : Array Oper} {o : Oper} {act : Act} {K : Act → World → Prop} {Q : Exit → Act → World → Prop} {E : Prop} (hgd : o.guard = Option.none) (s x : Operand)
    (ho : o.op = .call { callee := .builtin .append, args := #[s, x], argTypes := #[25, 25] }) (base : Nat) (v : Value) (k bb : Nat) (p q r : Int) (u m e : Nat → Int)
    (hs : act.eval s = v) (hown : w.ownsRow base 47 3 v k (flat7 k u m e)) (hx : act.eval x = .slice (some ⟨bb, 0, none⟩) 1 1) (hc : Thr w bb p q r) (hp : u k = p ∧ m k = q ∧ e k = r) (hn : (k + 1) * 24 ≤ 140737488355328) (hbase : base ≤ w.heap.size)
    (h : ∀ v' w', w'.ownsRow base 47 3 v' (k + 1) (flat7 (k + 1) u m e) → Below base w w' → K (act.put o.dst v') w') :
    if Region.wanted o (yielded ops act.tmps) = true then Oper.wp Tryz.prog o act w K Q else E := by
  have hw : Region.wanted o (yielded ops act.tmps) = true := by simp [Region.wanted, hgd]
  rw [if_pos hw]
  obtain ⟨i0, hi, hz0, hz1, hz2⟩ := info_parts Tryz.infoSpr
  have hlow := hown.lt
  obtain ⟨rfl, rfl, rfl⟩ := hp
  refine wp_append_own w s x 25 ho base 47 i0 _ 3 24 Tryz.underlying25 hi hz0 hz1 hz2 rfl (by decide) v k (flat7 k u m e) hs hown ⟨bb, 0, none⟩ 1 1 [.int .i64 (u k), .int .i64 (m k), .int .i64 (e k)] hx rfl (fun j y hy => ?_) (fun y hy => ?_) (by unfold maxLen; omega) hn hbase ?_
  · rw [Go.WideShapes.add_plain]
    match j, hy with
    | 0, hy => simp at hy; subst hy; simpa using hc.1
    | 1, hy => simp at hy; subst hy; simpa using hc.2.1
    | 2, hy => simp at hy; subst hy; simpa using hc.2.2
  · simp at hy
    rcases hy with rfl | rfl | rfl <;> rfl
  · intro v' w' g1 g2 _
    rw [← flat7_succ] at g1
    exact h v' w' g1 ((Below.refl _ _).grown g2 hbase fun k hk => (hlow k hk).1)

set_option maxHeartbeats 2000000 in
set_option maxRecDepth 100000 in
theorem rspgs_any (n : Nat) (s : Nat → Sp) (v : Value) (w : World) (h : Sps w v n s) (hn : n ≤ 10) :
    Calls Tryz.prog 6 #[v] w (SpgE n s w) := by
  obtain ⟨a, cap, rfl, h1, h2, h0, h3⟩ := h
  go_enter Tryz.func6, Tryz.ntmps6
  go_wp2_with fail
  go_loopw [4, 5] (fun s4 i wr => ∃ (j : Nat), j ≤ n ∧ i = .int .i64 j ∧ (0 < j → n ≤ 4) ∧ Hid (∀ i, i < j → maySp (s i) = true) ∧ Hid (wr.ownsRow w.heap.size 47 3 s4 j (flat7 j (topF s) (leaF s) (elF s))) ∧ Below w.heap.size w wr) (fun _ i _ => ((n : Int) - intOf i).toNat)
  case atStart => exact ⟨0, by omega, rfl, fun h => by omega, fun i hi => by omega, World.ownsRow_nil _ _ _ _, Below.refl _ _⟩
  case round =>
    obtain ⟨j, hj, rfl, hj4, HK, HO, hbw⟩ := hrel
    by_cases hlt : (j : Int) < n
    · obtain ⟨bk, o, rfl, h4⟩ := h3 (by omega)
      have hrow := rowS_open (f := s j) (h4 j (by omega))
      clear h4 h3
      obtain ⟨⟨cj, tj, xj, mj, kj, ej⟩, hf⟩ : ∃ y, s j = y := ⟨_, rfl⟩
      have HF : Hid (s j = ⟨cj, tj, xj, mj, kj, ej⟩) := hf
      rw [hf] at hrow
      clear hf
      obtain ⟨k0, k1, k2, k3, k4, k5⟩ := hrow
      simp only at k0 k1 k2 k3 k4 k5
      have e0 := cell_later hbw k0
      have e1 := cell_later hbw k1
      have e2 := cell_later hbw k2
      have e3 := cell_later hbw k3
      have e4 := cell_later hbw k4
      have e5 := cell_later hbw k5
      have sb := World.block_lt_of_cell? _ _ k0
      have sw := hbw.size
      cases hk : maySp ⟨cj, tj, xj, mj, kj, ej⟩ with
      | false =>
        have H1 : Hid (maySp ⟨cj, tj, xj, mj, kj, ej⟩ = false) := hk
        have H : Hid (spgB n s = false ∧ spgN n s = 0) := spg_no (sps_no (i := j) (by omega) (by rw [HF.out]; exact hk))
        clear hk
        go_wp2_with fail
        refine (refSp_any cj tj xj mj kj ej _).mono ?_
        rintro r w2 ⟨rfl, hb2⟩
        rw [H1.out]
        go_wp2
        go_ret2
        exact ⟨_, by rw [H.out.1]; rfl, by rw [H.out.2]; exact Sprs.nil _ _ _ _, hbw.trans (hb2.mono sw)⟩
      | true =>
        have H1 : Hid (maySp ⟨cj, tj, xj, mj, kj, ej⟩ = true) := hk
        have HK2 : Hid (∀ i, i < j + 1 → maySp (s i) = true) := by
          intro i hi
          by_cases c : i = j
          · subst c; rw [HF.out]; exact hk
          · exact HK.out i (by omega)
        clear hk
        by_cases hn4 : (n : Int) > 4
        · have H : Hid (spgB n s = false ∧ spgN n s = 0) := spg_long (by omega)
          go_wp2_with fail
          refine (refSp_any cj tj xj mj kj ej _).mono ?_
          rintro r w2 ⟨rfl, hb2⟩
          rw [H1.out]
          go_wp2
          go_ret2
          exact ⟨_, by rw [H.out.1]; rfl, by rw [H.out.2]; exact Sprs.nil _ _ _ _, hbw.trans (hb2.mono sw)⟩
        · have HV : Hid (topF s j = atV ⟨cj, tj, xj, mj, kj, ej⟩ tj ∧ leaF s j = leastV ⟨cj, tj, xj, mj, kj, ej⟩ ∧ elF s j = ej) := by show _ ∧ _ ∧ _; unfold topF leaF elF; rw [HF.out]; exact ⟨rfl, rfl, rfl⟩
          go_wp2_with fail
          refine (refSp_any cj tj xj mj kj ej _).mono ?_
          rintro r w2 ⟨rfl, hb2⟩
          rw [H1.out]
          have HO2 : Hid (World.ownsRow w2.drew w.heap.size 47 3 u4 j (flat7 j (topF s) (leaF s) (elF s))) := own_laterF (own_laterF HO.out hb2) (Below.refl _ _).drew
          have HB2 : Hid (Below w.heap.size w w2.drew) := (hbw.trans (hb2.mono sw)).drew
          have MK2 : Hid (∀ w' : World, Below w.heap.size w w' → (w'.cell? ⟨bk, o + j * 6, none⟩ = some (.int .i64 cj) ∧ w'.cell? ⟨bk, o + j * 6 + 1, none⟩ = some (.int .i64 tj) ∧ w'.cell? ⟨bk, o + j * 6 + 2, none⟩ = some (.int .i64 xj) ∧ w'.cell? ⟨bk, o + j * 6 + 3, none⟩ = some (.int .i64 mj) ∧ w'.cell? ⟨bk, o + j * 6 + 4, none⟩ = some (.int .i64 kj) ∧ w'.cell? ⟨bk, o + j * 6 + 5, none⟩ = some (.int .i64 ej)) ∧ Below w.heap.size w w') := fun w' hb => ⟨⟨cell_later hb k0, cell_later hb k1, cell_later hb k2, cell_later hb k3, cell_later hb k4, cell_later hb k5⟩, hb⟩
          have i0 : (0 : Int) ≤ (j : Int) := by omega
          clear e0 e1 e2 e3 e4 e5 k0 k1 k2 k3 k4 k5 hb2 HO
          go_wp2_with fail
          go_region_held3 (fun w' => (w'.cell? ⟨bk, o + j * 6, none⟩ = some (.int .i64 cj) ∧ w'.cell? ⟨bk, o + j * 6 + 1, none⟩ = some (.int .i64 tj) ∧ w'.cell? ⟨bk, o + j * 6 + 2, none⟩ = some (.int .i64 xj) ∧ w'.cell? ⟨bk, o + j * 6 + 3, none⟩ = some (.int .i64 mj) ∧ w'.cell? ⟨bk, o + j * 6 + 4, none⟩ = some (.int .i64 kj) ∧ w'.cell? ⟨bk, o + j * 6 + 5, none⟩ = some (.int .i64 ej)) ∧ Below w.heap.size w w')
            (first | exact MK2.out _ HB2.out | exact MK2.out _ (bstep (by assumption) (sBel (by assumption))) | exact MK2.out _ ((sBel (by assumption)).alloc (sBel (by assumption)).size _) | exact MK2.out _ ((sBel (by assumption)).trans (by assumption)))
            (first
            | (go_at_call 21; refine (refTop_any cj tj xj mj kj ej _).mono ?_; rintro r w3 ⟨rfl, hb3⟩; have HO3 : Hid (w3.ownsRow w.heap.size 47 3 u4 j (flat7 j (topF s) (leaF s) (elF s))) := own_laterF HO2.out hb3; have HS3 : Hid (w.heap.size ≤ w3.heap.size) := (bstep hb3 HB2.out).size)
            | (go_at_call 22; refine (refLeast_any cj tj xj mj kj ej _).mono ?_; rintro r w4 ⟨rfl, hb4⟩; have HO4 : Hid (w4.ownsRow w.heap.size 47 3 u4 j (flat7 j (topF s) (leaF s) (elF s))) := own_laterF HO3.out hb4; have HS4 : Hid (w.heap.size ≤ w4.heap.size) := Nat.le_trans HS3.out hb4.size)
            | (have ho := HO4.out.alloc (.cells #[.int .i64 (atV ⟨cj, tj, xj, mj, kj, ej⟩ tj), .int .i64 (leastV ⟨cj, tj, xj, mj, kj, ej⟩), .int .i64 ej] 47); refine step_append_spr (by rfl) _ _ (by rfl) w.heap.size u4 j w4.heap.size _ _ _ _ _ _ (by rfl) ho (by rfl) (Thr.new _ _ _ _ _) HV.out (by omega) (by have := HS4.out; simp; omega) ?_; intro v' w5 hown5 hb5))
          all_goals
            have HO5 : Hid (w5.ownsRow w.heap.size 47 3 v' (j + 1) (flat7 (j + 1) (topF s) (leaF s) (elF s))) := hown5
            clear hown5
            go_wp2_with fail
            go_roundw
            case rel => exact ⟨j + 1, by omega, by go_num, fun _ => by omega, HK2.out, HO5.out, sBel (by assumption)⟩
            case measure => simp [intOf]; omega
    · obtain rfl : j = n := by omega
      have hs : spsB j s = true := sps_yes HK.out
      have H : Hid (spgB j s = true ∧ spgN j s = j) := by
        by_cases c : 0 < j
        · exact spg_yes (hj4 c) hs
        · exact spg_yes (by omega) hs
      have HX : Hid (Sprs wr u4 j (topF s) (leaF s) (elF s)) := Sprs.own HO.out
      clear hs
      go_wp2
      go_ret2
      exact ⟨_, by rw [H.out.1]; rfl, by rw [H.out.2]; exact HX.out, hbw⟩
end Go.Proofs.YtmiakknagjncpaaGreatDoor
