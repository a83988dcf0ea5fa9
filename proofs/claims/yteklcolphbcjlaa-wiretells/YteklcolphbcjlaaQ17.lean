/- Texts that belong together, one behind the other: BB25. -/
import Derived.Test.YteklcolphbcjlaaQ16
/- Two things that may be asked have the same bytes only if they are the same. -/
namespace Go.Proofs.Yteklcolphbcjlaa
open Go.RowKit

theorem smO_iff (o p : Ow) : smO o p = true ↔ o = p := by
  obtain ⟨k, id, ⟨c0, t0, x0, m0, k0, e0⟩, t, m, w, c, v, d⟩ := o
  obtain ⟨k', id', ⟨c0', t0', x0', m0', k0', e0'⟩, t', m', w', c', v', d'⟩ := p
  unfold smO spB
  simp only [Bool.and_eq_true, decide_eq_true_eq, Ow.mk.injEq, Sp.mk.injEq]
  constructor
  · rintro ⟨h0, h1, h2, h3, h4, h5, h6, h7, h8⟩
    refine ⟨h1, h2, ?_, h4, h5, h6, h7, h8, h0⟩
    simpa [and_assoc] using h3
  · rintro ⟨h1, h2, h3, h4, h5, h6, h7, h8, h0⟩
    refine ⟨h0, h1, h2, ?_, h4, h5, h6, h7, h8⟩
    simpa [and_assoc] using h3
theorem ob_sm {o p : Ow} (h : omB o = true) (h' : omB p = true) : sameB (obL o) (obL p) = smO o p := by
  unfold sameB
  rw [Bool.eq_iff_iff, decide_eq_true_iff, smO_iff]
  exact ⟨ob_inj h h', fun e => by rw [e]⟩
theorem ob_far {o p : Ow} (h : omB o = true) (h' : omB p = true) (hk : o.k = p.k) (h4 : o.k ≠ 4) : (obL o).length = (obL p).length := by
  rw [ob_len h, ob_len h']
  unfold olN
  rw [← hk]
  by_cases c0 : o.k = 0
  · rw [if_pos c0, if_pos c0]
  rw [if_neg c0, if_neg c0]
  by_cases c2 : o.k = 2
  · rw [if_pos c2, if_pos c2]
  rw [if_neg c2, if_neg c2, if_neg h4, if_neg h4]
set_option maxHeartbeats 4000000 in
set_option maxRecDepth 100000 in
theorem law_wone16 (ok oid ec et ex em ek ee ot om ow oc ov : Int) (dv : Value) (pk pid fc ft fx fm fk fe pt pm pw pc pv : Int) (du : Value) (ds es : List Int) (w : World) (h : Nums w dv ds) (h' : Nums w du es) :
    Calls Try.prog 6 #[.agg #[.int .i64 ok, .int .i64 oid, .int .i64 ec, .int .i64 et, .int .i64 ex, .int .i64 em, .int .i64 ek, .int .i64 ee, .int .i64 ot, .int .i64 om, .int .i64 ow, .int .i64 oc, .int .i64 ov, dv], .agg #[.int .i64 pk, .int .i64 pid, .int .i64 fc, .int .i64 ft, .int .i64 fx, .int .i64 fm, .int .i64 fk, .int .i64 fe, .int .i64 pt, .int .i64 pm, .int .i64 pw, .int .i64 pc, .int .i64 pv, du]] w fun e w' => e = .returned (.bool true) ∧ Below w.heap.size w w' := by
  obtain ⟨a, cap, rfl⟩ : ∃ a c, dv = .slice a ds.length c := by obtain ⟨a, c, e, _⟩ := h; exact ⟨a, c, e⟩
  obtain ⟨a', cap', rfl⟩ : ∃ a c, du = .slice a es.length c := by obtain ⟨a, c, e, _⟩ := h'; exact ⟨a, c, e⟩
  have HN : Hid (∀ y, Below w.heap.size w y → Nums y (.slice a ds.length cap) ds ∧ Nums y (.slice a' es.length cap') es) := fun y hy => ⟨h.later hy, h'.later hy⟩
  have HB : Hid (Bk ((w.alloc (.cells #[.int .i64 ok, .int .i64 oid, .int .i64 ec, .int .i64 et, .int .i64 ex, .int .i64 em, .int .i64 ek, .int .i64 ee, .int .i64 ot, .int .i64 om, .int .i64 ow, .int .i64 oc, .int .i64 ov, .slice a ds.length cap] 26)).alloc (.cells #[.int .i64 pk, .int .i64 pid, .int .i64 fc, .int .i64 ft, .int .i64 fx, .int .i64 fm, .int .i64 fk, .int .i64 fe, .int .i64 pt, .int .i64 pm, .int .i64 pw, .int .i64 pc, .int .i64 pv, .slice a' es.length cap'] 26)) w.heap.size [.int .i64 ok, .int .i64 oid, .int .i64 ec, .int .i64 et, .int .i64 ex, .int .i64 em, .int .i64 ek, .int .i64 ee, .int .i64 ot, .int .i64 om, .int .i64 ow, .int .i64 oc, .int .i64 ov, .slice a ds.length cap] ∧ Bk ((w.alloc (.cells #[.int .i64 ok, .int .i64 oid, .int .i64 ec, .int .i64 et, .int .i64 ex, .int .i64 em, .int .i64 ek, .int .i64 ee, .int .i64 ot, .int .i64 om, .int .i64 ow, .int .i64 oc, .int .i64 ov, .slice a ds.length cap] 26)).alloc (.cells #[.int .i64 pk, .int .i64 pid, .int .i64 fc, .int .i64 ft, .int .i64 fx, .int .i64 fm, .int .i64 fk, .int .i64 fe, .int .i64 pt, .int .i64 pm, .int .i64 pw, .int .i64 pc, .int .i64 pv, .slice a' es.length cap'] 26)) (w.heap.size + 1) [.int .i64 pk, .int .i64 pid, .int .i64 fc, .int .i64 ft, .int .i64 fx, .int .i64 fm, .int .i64 fk, .int .i64 fe, .int .i64 pt, .int .i64 pm, .int .i64 pw, .int .i64 pc, .int .i64 pv, .slice a' es.length cap'] ∧ Below w.heap.size w ((w.alloc (.cells #[.int .i64 ok, .int .i64 oid, .int .i64 ec, .int .i64 et, .int .i64 ex, .int .i64 em, .int .i64 ek, .int .i64 ee, .int .i64 ot, .int .i64 om, .int .i64 ow, .int .i64 oc, .int .i64 ov, .slice a ds.length cap] 26)).alloc (.cells #[.int .i64 pk, .int .i64 pid, .int .i64 fc, .int .i64 ft, .int .i64 fx, .int .i64 fm, .int .i64 fk, .int .i64 fe, .int .i64 pt, .int .i64 pm, .int .i64 pw, .int .i64 pc, .int .i64 pv, .slice a' es.length cap'] 26))) := ⟨(Bk.new w _ _).later (below_b1 _ _), (by have := Bk.new (w.alloc (.cells #[.int .i64 ok, .int .i64 oid, .int .i64 ec, .int .i64 et, .int .i64 ex, .int .i64 em, .int .i64 ek, .int .i64 ee, .int .i64 ot, .int .i64 om, .int .i64 ow, .int .i64 oc, .int .i64 ov, .slice a ds.length cap] 26)) [.int .i64 pk, .int .i64 pid, .int .i64 fc, .int .i64 ft, .int .i64 fx, .int .i64 fm, .int .i64 fk, .int .i64 fe, .int .i64 pt, .int .i64 pm, .int .i64 pw, .int .i64 pc, .int .i64 pv, .slice a' es.length cap'] 26; simp only [World.size_alloc] at this; exact this), below_b2 _ _ _⟩
  clear h h'
  go_enter Try.func6, Try.ntmps6
  go_wp2_with fail
  refine (awake16_any _).mono ?_
  rintro e w1 ⟨rfl, hb1⟩
  have HC : Hid (Bk w1 w.heap.size [.int .i64 ok, .int .i64 oid, .int .i64 ec, .int .i64 et, .int .i64 ex, .int .i64 em, .int .i64 ek, .int .i64 ee, .int .i64 ot, .int .i64 om, .int .i64 ow, .int .i64 oc, .int .i64 ov, .slice a ds.length cap] ∧ Bk w1 (w.heap.size + 1) [.int .i64 pk, .int .i64 pid, .int .i64 fc, .int .i64 ft, .int .i64 fx, .int .i64 fm, .int .i64 fk, .int .i64 fe, .int .i64 pt, .int .i64 pm, .int .i64 pw, .int .i64 pc, .int .i64 pv, .slice a' es.length cap'] ∧ Below w.heap.size w w1) := ⟨HB.out.1.later hb1, HB.out.2.1.later hb1, HB.out.2.2.trans (hb1.mono HB.out.2.2.size)⟩
  clear hb1 HB
  go_wp2_with (refine load_bk rfl 26 _ rfl w.heap.size 0 [.int .i64 ok, .int .i64 oid, .int .i64 ec, .int .i64 et, .int .i64 ex, .int .i64 em, .int .i64 ek, .int .i64 ee, .int .i64 ot, .int .i64 om, .int .i64 ow, .int .i64 oc, .int .i64 ov, .slice a ds.length cap] [.int .i64 ok, .int .i64 oid, .int .i64 ec, .int .i64 et, .int .i64 ex, .int .i64 em, .int .i64 ek, .int .i64 ee, .int .i64 ot, .int .i64 om, .int .i64 ow, .int .i64 oc, .int .i64 ov, .slice a ds.length cap] rfl HC.out.1 rfl _ Try.underlying26 rfl (by kernel_rfl) ?_)
  refine (wput16_any ok oid ec et ex em ek ee ot om ow oc ov (.slice a ds.length cap) ds _ (HN.out _ HC.out.2.2).1).mono ?_
  rintro e w2 ⟨v2, rfl, ho2, hb2⟩
  have HD : Hid (Bk w2 w.heap.size [.int .i64 ok, .int .i64 oid, .int .i64 ec, .int .i64 et, .int .i64 ex, .int .i64 em, .int .i64 ek, .int .i64 ee, .int .i64 ot, .int .i64 om, .int .i64 ow, .int .i64 oc, .int .i64 ov, .slice a ds.length cap] ∧ Bk w2 (w.heap.size + 1) [.int .i64 pk, .int .i64 pid, .int .i64 fc, .int .i64 ft, .int .i64 fx, .int .i64 fm, .int .i64 fk, .int .i64 fe, .int .i64 pt, .int .i64 pm, .int .i64 pw, .int .i64 pc, .int .i64 pv, .slice a' es.length cap'] ∧ Below w.heap.size w w2 ∧ Bys w2 v2 (bif omB ⟨ok, oid, ⟨ec, et, ex, em, ek, ee⟩, ot, om, ow, oc, ov, ds⟩ then obL ⟨ok, oid, ⟨ec, et, ex, em, ek, ee⟩, ot, om, ow, oc, ov, ds⟩ else [])) := ⟨HC.out.1.later hb2, HC.out.2.1.later hb2, HC.out.2.2.trans (hb2.mono HC.out.2.2.size), put_bys ho2⟩
  obtain ⟨a2, c2, rfl⟩ := ho2.sl
  clear ho2 hb2 HC
  go_wp2_with (refine load_bk rfl 26 _ rfl (w.heap.size + 1) 0 [.int .i64 pk, .int .i64 pid, .int .i64 fc, .int .i64 ft, .int .i64 fx, .int .i64 fm, .int .i64 fk, .int .i64 fe, .int .i64 pt, .int .i64 pm, .int .i64 pw, .int .i64 pc, .int .i64 pv, .slice a' es.length cap'] [.int .i64 pk, .int .i64 pid, .int .i64 fc, .int .i64 ft, .int .i64 fx, .int .i64 fm, .int .i64 fk, .int .i64 fe, .int .i64 pt, .int .i64 pm, .int .i64 pw, .int .i64 pc, .int .i64 pv, .slice a' es.length cap'] rfl HD.out.2.1 rfl _ Try.underlying26 rfl (by kernel_rfl) ?_)
  refine (wput16_any pk pid fc ft fx fm fk fe pt pm pw pc pv (.slice a' es.length cap') es _ (HN.out _ HD.out.2.2.1).2).mono ?_
  rintro e w4 ⟨v4, rfl, ho4, hb4⟩
  have HE : Hid (Bk w4 w.heap.size [.int .i64 ok, .int .i64 oid, .int .i64 ec, .int .i64 et, .int .i64 ex, .int .i64 em, .int .i64 ek, .int .i64 ee, .int .i64 ot, .int .i64 om, .int .i64 ow, .int .i64 oc, .int .i64 ov, .slice a ds.length cap] ∧ Bk w4 (w.heap.size + 1) [.int .i64 pk, .int .i64 pid, .int .i64 fc, .int .i64 ft, .int .i64 fx, .int .i64 fm, .int .i64 fk, .int .i64 fe, .int .i64 pt, .int .i64 pm, .int .i64 pw, .int .i64 pc, .int .i64 pv, .slice a' es.length cap'] ∧ Below w.heap.size w w4 ∧ Bys w4 (.slice a2 (bif omB ⟨ok, oid, ⟨ec, et, ex, em, ek, ee⟩, ot, om, ow, oc, ov, ds⟩ then obL ⟨ok, oid, ⟨ec, et, ex, em, ek, ee⟩, ot, om, ow, oc, ov, ds⟩ else []).length c2) (bif omB ⟨ok, oid, ⟨ec, et, ex, em, ek, ee⟩, ot, om, ow, oc, ov, ds⟩ then obL ⟨ok, oid, ⟨ec, et, ex, em, ek, ee⟩, ot, om, ow, oc, ov, ds⟩ else []) ∧ Bys w4 v4 (bif omB ⟨pk, pid, ⟨fc, ft, fx, fm, fk, fe⟩, pt, pm, pw, pc, pv, es⟩ then obL ⟨pk, pid, ⟨fc, ft, fx, fm, fk, fe⟩, pt, pm, pw, pc, pv, es⟩ else [])) := ⟨HD.out.1.later hb4, HD.out.2.1.later hb4, HD.out.2.2.1.trans (hb4.mono HD.out.2.2.1.size), HD.out.2.2.2.later hb4, put_bys ho4⟩
  obtain ⟨a4, c4, rfl⟩ := ho4.sl
  clear ho4 hb4 HD
  cases hm : omB ⟨ok, oid, ⟨ec, et, ex, em, ek, ee⟩, ot, om, ow, oc, ov, ds⟩ with
  | false =>
    rw [hm] at HE
    cases hp : omB ⟨pk, pid, ⟨fc, ft, fx, fm, fk, fe⟩, pt, pm, pw, pc, pv, es⟩ with
    | false =>
      clear hm hp
      show _
      go_wp2_with fail
      go_ret
      exact ⟨rfl, HE.out.2.2.1⟩
    | true =>
      clear hm hp
      show _
      go_wp2_with fail
      go_ret
      exact ⟨rfl, HE.out.2.2.1⟩
  | true =>
    cases hp : omB ⟨pk, pid, ⟨fc, ft, fx, fm, fk, fe⟩, pt, pm, pw, pc, pv, es⟩ with
    | false =>
      clear hm hp
      show _
      go_wp2_with fail
      go_ret
      exact ⟨rfl, HE.out.2.2.1⟩
    | true =>
      rw [hm, hp] at HE
      have hh1 := ob_head hm
      have hh2 := ob_head hp
      have hkk := om_kind hm
      have hsm := ob_sm hm hp
      have hfar := ob_far hm hp
      have hl1 : (obL ⟨ok, oid, ⟨ec, et, ex, em, ek, ee⟩, ot, om, ow, oc, ov, ds⟩).length ≤ 7 := by
        rw [ob_len hm]
        unfold olN
        have := om_cases hm
        rcases this with ⟨s, e, _⟩ | ⟨id, t, m, e, _⟩ | ⟨id, e, _⟩ | ⟨w', c, v, e, _⟩ | ⟨d, e, h1, _⟩ <;> rw [e] <;> simp
        omega
      have HM : Hid (omB ⟨ok, oid, ⟨ec, et, ex, em, ek, ee⟩, ot, om, ow, oc, ov, ds⟩ = true ∧ omB ⟨pk, pid, ⟨fc, ft, fx, fm, fk, fe⟩, pt, pm, pw, pc, pv, es⟩ = true) := ⟨hm, hp⟩
      clear hm hp
      show _
      have HE2 : Hid (Bys w4 (.slice a2 (obL ⟨ok, oid, ⟨ec, et, ex, em, ek, ee⟩, ot, om, ow, oc, ov, ds⟩).length c2) (obL ⟨ok, oid, ⟨ec, et, ex, em, ek, ee⟩, ot, om, ow, oc, ov, ds⟩) ∧ Bys w4 (.slice a4 (obL ⟨pk, pid, ⟨fc, ft, fx, fm, fk, fe⟩, pt, pm, pw, pc, pv, es⟩).length c4) (obL ⟨pk, pid, ⟨fc, ft, fx, fm, fk, fe⟩, pt, pm, pw, pc, pv, es⟩)) := HE.out.2.2.2
      obtain ⟨at2, ct2, e2, g1, g2, g3, g4, g5⟩ := HE2.out.1
      cases e2
      obtain ⟨bb, oo, rfl, g6⟩ := g5 (by intro e; have := hh1.2; rw [e] at this; simp at this)
      have ca := g6 0 hh1.2
      rw [hh1.1, Nat.add_zero] at ca
      clear g1 g2 g3 g4 g5 g6
      have hX : (bif true then obL ⟨ok, oid, ⟨ec, et, ex, em, ek, ee⟩, ot, om, ow, oc, ov, ds⟩ else []) = obL ⟨ok, oid, ⟨ec, et, ex, em, ek, ee⟩, ot, om, ow, oc, ov, ds⟩ := rfl
      have hY : (bif true then obL ⟨pk, pid, ⟨fc, ft, fx, fm, fk, fe⟩, pt, pm, pw, pc, pv, es⟩ else []) = obL ⟨pk, pid, ⟨fc, ft, fx, fm, fk, fe⟩, pt, pm, pw, pc, pv, es⟩ := rfl
      rw [hX, hY]
      have HB4 : Hid (Bk w4 w.heap.size [.int .i64 ok, .int .i64 oid, .int .i64 ec, .int .i64 et, .int .i64 ex, .int .i64 em, .int .i64 ek, .int .i64 ee, .int .i64 ot, .int .i64 om, .int .i64 ow, .int .i64 oc, .int .i64 ov, .slice a ds.length cap] ∧ Bk w4 (w.heap.size + 1) [.int .i64 pk, .int .i64 pid, .int .i64 fc, .int .i64 ft, .int .i64 fx, .int .i64 fm, .int .i64 fk, .int .i64 fe, .int .i64 pt, .int .i64 pm, .int .i64 pw, .int .i64 pc, .int .i64 pv, .slice a' es.length cap'] ∧ Below w.heap.size w w4) := ⟨HE.out.1, HE.out.2.1, HE.out.2.2.1⟩
      have hp1 := hh1.2
      have hp2 := hh2.2
      have hko : 0 ≤ ok ∧ ok ≤ 4 := hkk
      have hf2 : ok = pk → ok ≠ 4 → (obL ⟨ok, oid, ⟨ec, et, ex, em, ek, ee⟩, ot, om, ow, oc, ov, ds⟩).length = (obL ⟨pk, pid, ⟨fc, ft, fx, fm, fk, fe⟩, pt, pm, pw, pc, pv, es⟩).length := hfar
      obtain ⟨z, hz⟩ : ∃ z, smO ⟨ok, oid, ⟨ec, et, ex, em, ek, ee⟩, ot, om, ow, oc, ov, ds⟩ ⟨pk, pid, ⟨fc, ft, fx, fm, fk, fe⟩, pt, pm, pw, pc, pv, es⟩ = z := ⟨_, rfl⟩
      rw [hz] at hsm
      have HZ : Hid (sameB (obL ⟨ok, oid, ⟨ec, et, ex, em, ek, ee⟩, ot, om, ow, oc, ov, ds⟩) (obL ⟨pk, pid, ⟨fc, ft, fx, fm, fk, fe⟩, pt, pm, pw, pc, pv, es⟩) = z ∧ smO ⟨ok, oid, ⟨ec, et, ex, em, ek, ee⟩, ot, om, ow, oc, ov, ds⟩ ⟨pk, pid, ⟨fc, ft, fx, fm, fk, fe⟩, pt, pm, pw, pc, pv, es⟩ = z ∧ (obL ⟨ok, oid, ⟨ec, et, ex, em, ek, ee⟩, ot, om, ow, oc, ov, ds⟩).length ≤ 1000) := ⟨hsm, hz, by omega⟩
      clear hh1 hh2 hkk hsm hfar HE hX hY hz
      generalize obL ⟨ok, oid, ⟨ec, et, ex, em, ek, ee⟩, ot, om, ow, oc, ov, ds⟩ = X at *
      generalize obL ⟨pk, pid, ⟨fc, ft, fx, fm, fk, fe⟩, pt, pm, pw, pc, pv, es⟩ = Y at *
      obtain ⟨m, hm⟩ : ∃ m, X.length = m := ⟨_, rfl⟩
      obtain ⟨l, hl⟩ : ∃ l, Y.length = l := ⟨_, rfl⟩
      rw [hm] at HE2 hp1 hl1 hf2 ⊢
      rw [hl] at HE2 hp2 hf2 ⊢
      clear hm hl
      have wk : IntKind.i64.wrap ok = ok := by rw [IntKind.wrap_i64]; omega
      have q1 : ((m : Int) == 0) = false := beq_eq_false_iff_ne.2 (by omega)
      have q2 : ((l : Int) == 0) = false := beq_eq_false_iff_ne.2 (by omega)
      have q3 : (0 : Int) < (m : Int) := by omega
      have e0 := HB4.out.1.cell (i := 0) rfl
      have f0 := HB4.out.2.1.cell (i := 0) rfl
      have hB : ∀ nq, Below w.heap.size w (w4.drewN nq) := fun nq => ⟨HB4.out.2.2.os, HB4.out.2.2.tape, HB4.out.2.2.output, HB4.out.2.2.size, HB4.out.2.2.block⟩
      have hq : ∀ nq, Below w4.heap.size w4 (w4.drewN nq) := fun nq => ⟨rfl, rfl, rfl, Nat.le_refl _, fun _ _ => rfl⟩
      have HQ : Hid (∀ nq, Below w4.heap.size w4 (w4.drewN nq)) := hq
      clear hB hq
      have main : ∀ W : World, Below w4.heap.size w4 W → Hid (Bk W w.heap.size [.int .i64 ok, .int .i64 oid, .int .i64 ec, .int .i64 et, .int .i64 ex, .int .i64 em, .int .i64 ek, .int .i64 ee, .int .i64 ot, .int .i64 om, .int .i64 ow, .int .i64 oc, .int .i64 ov, .slice a ds.length cap] ∧ Bk W (w.heap.size + 1) [.int .i64 pk, .int .i64 pid, .int .i64 fc, .int .i64 ft, .int .i64 fx, .int .i64 fm, .int .i64 fk, .int .i64 fe, .int .i64 pt, .int .i64 pm, .int .i64 pw, .int .i64 pc, .int .i64 pv, .slice a' es.length cap'] ∧ Below w.heap.size w W ∧ Bys W (.slice (some ⟨bb, oo, none⟩) m c2) X ∧ Bys W (.slice a4 l c4) Y) := fun W hb => ⟨HB4.out.1.later hb, HB4.out.2.1.later hb, HB4.out.2.2.trans (hb.mono HB4.out.2.2.size), HE2.out.1.later hb, HE2.out.2.later hb⟩
      have HMN : Hid (∀ W : World, Below w4.heap.size w4 W → Hid (Bk W w.heap.size [.int .i64 ok, .int .i64 oid, .int .i64 ec, .int .i64 et, .int .i64 ex, .int .i64 em, .int .i64 ek, .int .i64 ee, .int .i64 ot, .int .i64 om, .int .i64 ow, .int .i64 oc, .int .i64 ov, .slice a ds.length cap] ∧ Bk W (w.heap.size + 1) [.int .i64 pk, .int .i64 pid, .int .i64 fc, .int .i64 ft, .int .i64 fx, .int .i64 fm, .int .i64 fk, .int .i64 fe, .int .i64 pt, .int .i64 pm, .int .i64 pw, .int .i64 pc, .int .i64 pv, .slice a' es.length cap'] ∧ Below w.heap.size w W ∧ Bys W (.slice (some ⟨bb, oo, none⟩) m c2) X ∧ Bys W (.slice a4 l c4) Y)) := main
      clear main
      by_cases ck : ok = pk
      · subst ck
        by_cases c4' : ok = 4
        · subst c4'
          clear hf2
          go_wp2_with fail
          go_quiet (fail)
          have HW := HMN.out _ (HQ.out nq)
          generalize w4.drewN nq = W at *
          clear HMN HQ HB4 HE2 e0 f0 ca
          have MK : Hid (∀ y : World, Below W.heap.size W y → ((y.cell? ⟨w.heap.size, 0, none⟩ = some (.int .i64 4) ∧ y.cell? ⟨w.heap.size, 1, none⟩ = some (.int .i64 oid) ∧ y.cell? ⟨w.heap.size, 2, none⟩ = some (.int .i64 ec) ∧ y.cell? ⟨w.heap.size, 3, none⟩ = some (.int .i64 et) ∧ y.cell? ⟨w.heap.size, 4, none⟩ = some (.int .i64 ex) ∧ y.cell? ⟨w.heap.size, 5, none⟩ = some (.int .i64 em) ∧ y.cell? ⟨w.heap.size, 6, none⟩ = some (.int .i64 ek) ∧ y.cell? ⟨w.heap.size, 7, none⟩ = some (.int .i64 ee) ∧ y.cell? ⟨w.heap.size, 8, none⟩ = some (.int .i64 ot) ∧ y.cell? ⟨w.heap.size, 9, none⟩ = some (.int .i64 om) ∧ y.cell? ⟨w.heap.size, 10, none⟩ = some (.int .i64 ow) ∧ y.cell? ⟨w.heap.size, 11, none⟩ = some (.int .i64 oc) ∧ y.cell? ⟨w.heap.size, 12, none⟩ = some (.int .i64 ov) ∧ y.cell? ⟨w.heap.size, 13, none⟩ = some (.slice a ds.length cap)) ∧ (y.cell? ⟨w.heap.size + 1, 0, none⟩ = some (.int .i64 4) ∧ y.cell? ⟨w.heap.size + 1, 1, none⟩ = some (.int .i64 pid) ∧ y.cell? ⟨w.heap.size + 1, 2, none⟩ = some (.int .i64 fc) ∧ y.cell? ⟨w.heap.size + 1, 3, none⟩ = some (.int .i64 ft) ∧ y.cell? ⟨w.heap.size + 1, 4, none⟩ = some (.int .i64 fx) ∧ y.cell? ⟨w.heap.size + 1, 5, none⟩ = some (.int .i64 fm) ∧ y.cell? ⟨w.heap.size + 1, 6, none⟩ = some (.int .i64 fk) ∧ y.cell? ⟨w.heap.size + 1, 7, none⟩ = some (.int .i64 fe) ∧ y.cell? ⟨w.heap.size + 1, 8, none⟩ = some (.int .i64 pt) ∧ y.cell? ⟨w.heap.size + 1, 9, none⟩ = some (.int .i64 pm) ∧ y.cell? ⟨w.heap.size + 1, 10, none⟩ = some (.int .i64 pw) ∧ y.cell? ⟨w.heap.size + 1, 11, none⟩ = some (.int .i64 pc) ∧ y.cell? ⟨w.heap.size + 1, 12, none⟩ = some (.int .i64 pv) ∧ y.cell? ⟨w.heap.size + 1, 13, none⟩ = some (.slice a' es.length cap'))) ∧ Below W.heap.size W y) := fun y hy => ⟨⟨(HW.out.1.later hy).c14, (HW.out.2.1.later hy).c14⟩, hy⟩
          go_wp2_with fail
          go_region_held3 (fun y => ((y.cell? ⟨w.heap.size, 0, none⟩ = some (.int .i64 4) ∧ y.cell? ⟨w.heap.size, 1, none⟩ = some (.int .i64 oid) ∧ y.cell? ⟨w.heap.size, 2, none⟩ = some (.int .i64 ec) ∧ y.cell? ⟨w.heap.size, 3, none⟩ = some (.int .i64 et) ∧ y.cell? ⟨w.heap.size, 4, none⟩ = some (.int .i64 ex) ∧ y.cell? ⟨w.heap.size, 5, none⟩ = some (.int .i64 em) ∧ y.cell? ⟨w.heap.size, 6, none⟩ = some (.int .i64 ek) ∧ y.cell? ⟨w.heap.size, 7, none⟩ = some (.int .i64 ee) ∧ y.cell? ⟨w.heap.size, 8, none⟩ = some (.int .i64 ot) ∧ y.cell? ⟨w.heap.size, 9, none⟩ = some (.int .i64 om) ∧ y.cell? ⟨w.heap.size, 10, none⟩ = some (.int .i64 ow) ∧ y.cell? ⟨w.heap.size, 11, none⟩ = some (.int .i64 oc) ∧ y.cell? ⟨w.heap.size, 12, none⟩ = some (.int .i64 ov) ∧ y.cell? ⟨w.heap.size, 13, none⟩ = some (.slice a ds.length cap)) ∧ (y.cell? ⟨w.heap.size + 1, 0, none⟩ = some (.int .i64 4) ∧ y.cell? ⟨w.heap.size + 1, 1, none⟩ = some (.int .i64 pid) ∧ y.cell? ⟨w.heap.size + 1, 2, none⟩ = some (.int .i64 fc) ∧ y.cell? ⟨w.heap.size + 1, 3, none⟩ = some (.int .i64 ft) ∧ y.cell? ⟨w.heap.size + 1, 4, none⟩ = some (.int .i64 fx) ∧ y.cell? ⟨w.heap.size + 1, 5, none⟩ = some (.int .i64 fm) ∧ y.cell? ⟨w.heap.size + 1, 6, none⟩ = some (.int .i64 fk) ∧ y.cell? ⟨w.heap.size + 1, 7, none⟩ = some (.int .i64 fe) ∧ y.cell? ⟨w.heap.size + 1, 8, none⟩ = some (.int .i64 pt) ∧ y.cell? ⟨w.heap.size + 1, 9, none⟩ = some (.int .i64 pm) ∧ y.cell? ⟨w.heap.size + 1, 10, none⟩ = some (.int .i64 pw) ∧ y.cell? ⟨w.heap.size + 1, 11, none⟩ = some (.int .i64 pc) ∧ y.cell? ⟨w.heap.size + 1, 12, none⟩ = some (.int .i64 pv) ∧ y.cell? ⟨w.heap.size + 1, 13, none⟩ = some (.slice a' es.length cap'))) ∧ Below W.heap.size W y)
            (first | exact MK.out _ (by assumption) | exact MK.out _ (Below.refl _ _).drew)
            (first
              | (go_at_call 17; refine (bytes_any X Y _ _ _ (HW.out.2.2.2.1.later (Below.refl _ _).drew) (HW.out.2.2.2.2.later (Below.refl _ _).drew) HZ.out.2.2).mono ?_; rintro r w6 ⟨rfl, hb6⟩; rw [HZ.out.1]; have hz6 : Below W.heap.size W w6 := (Below.refl _ _).drew.trans hb6)
              | (go_at_call 21; have hz8 := hz6; refine (wsm_any 4 oid ec et ex em ek ee ot om ow oc ov (.slice a ds.length cap) 4 pid fc ft fx fm fk fe pt pm pw pc pv (.slice a' es.length cap') ds es _ (HN.out _ (HW.out.2.2.1.trans (hz8.mono HW.out.2.2.1.size))).1 (HN.out _ (HW.out.2.2.1.trans (hz8.mono HW.out.2.2.1.size))).2).mono ?_; rintro r w7 ⟨rfl, hb7⟩; rw [HZ.out.2.1]; have hz7 : Below W.heap.size W w7 := hz8.trans (hb7.mono hz8.size)))
          all_goals
            have HF := HW.out.2.2.1.trans (hz7.mono HW.out.2.2.1.size)
            go_wp2_with fail
            go_ret
            exact ⟨ret_b (by simp), HF⟩
        · have hml : m = l := hf2 rfl c4'
          subst hml
          have q5 : (ok == 4) = false := beq_eq_false_iff_ne.2 c4'
          have q6 : (ok != 4) = true := bne_iff_ne.2 c4'
          clear hf2
          go_wp2_with fail
          go_quiet (fail)
          have HW := HMN.out _ (HQ.out nq)
          generalize w4.drewN nq = W at *
          clear HMN HQ HB4 HE2 e0 f0 ca
          have MK : Hid (∀ y : World, Below W.heap.size W y → ((y.cell? ⟨w.heap.size, 0, none⟩ = some (.int .i64 ok) ∧ y.cell? ⟨w.heap.size, 1, none⟩ = some (.int .i64 oid) ∧ y.cell? ⟨w.heap.size, 2, none⟩ = some (.int .i64 ec) ∧ y.cell? ⟨w.heap.size, 3, none⟩ = some (.int .i64 et) ∧ y.cell? ⟨w.heap.size, 4, none⟩ = some (.int .i64 ex) ∧ y.cell? ⟨w.heap.size, 5, none⟩ = some (.int .i64 em) ∧ y.cell? ⟨w.heap.size, 6, none⟩ = some (.int .i64 ek) ∧ y.cell? ⟨w.heap.size, 7, none⟩ = some (.int .i64 ee) ∧ y.cell? ⟨w.heap.size, 8, none⟩ = some (.int .i64 ot) ∧ y.cell? ⟨w.heap.size, 9, none⟩ = some (.int .i64 om) ∧ y.cell? ⟨w.heap.size, 10, none⟩ = some (.int .i64 ow) ∧ y.cell? ⟨w.heap.size, 11, none⟩ = some (.int .i64 oc) ∧ y.cell? ⟨w.heap.size, 12, none⟩ = some (.int .i64 ov) ∧ y.cell? ⟨w.heap.size, 13, none⟩ = some (.slice a ds.length cap)) ∧ (y.cell? ⟨w.heap.size + 1, 0, none⟩ = some (.int .i64 ok) ∧ y.cell? ⟨w.heap.size + 1, 1, none⟩ = some (.int .i64 pid) ∧ y.cell? ⟨w.heap.size + 1, 2, none⟩ = some (.int .i64 fc) ∧ y.cell? ⟨w.heap.size + 1, 3, none⟩ = some (.int .i64 ft) ∧ y.cell? ⟨w.heap.size + 1, 4, none⟩ = some (.int .i64 fx) ∧ y.cell? ⟨w.heap.size + 1, 5, none⟩ = some (.int .i64 fm) ∧ y.cell? ⟨w.heap.size + 1, 6, none⟩ = some (.int .i64 fk) ∧ y.cell? ⟨w.heap.size + 1, 7, none⟩ = some (.int .i64 fe) ∧ y.cell? ⟨w.heap.size + 1, 8, none⟩ = some (.int .i64 pt) ∧ y.cell? ⟨w.heap.size + 1, 9, none⟩ = some (.int .i64 pm) ∧ y.cell? ⟨w.heap.size + 1, 10, none⟩ = some (.int .i64 pw) ∧ y.cell? ⟨w.heap.size + 1, 11, none⟩ = some (.int .i64 pc) ∧ y.cell? ⟨w.heap.size + 1, 12, none⟩ = some (.int .i64 pv) ∧ y.cell? ⟨w.heap.size + 1, 13, none⟩ = some (.slice a' es.length cap'))) ∧ Below W.heap.size W y) := fun y hy => ⟨⟨(HW.out.1.later hy).c14, (HW.out.2.1.later hy).c14⟩, hy⟩
          go_wp2_with fail
          go_region_held3 (fun y => ((y.cell? ⟨w.heap.size, 0, none⟩ = some (.int .i64 ok) ∧ y.cell? ⟨w.heap.size, 1, none⟩ = some (.int .i64 oid) ∧ y.cell? ⟨w.heap.size, 2, none⟩ = some (.int .i64 ec) ∧ y.cell? ⟨w.heap.size, 3, none⟩ = some (.int .i64 et) ∧ y.cell? ⟨w.heap.size, 4, none⟩ = some (.int .i64 ex) ∧ y.cell? ⟨w.heap.size, 5, none⟩ = some (.int .i64 em) ∧ y.cell? ⟨w.heap.size, 6, none⟩ = some (.int .i64 ek) ∧ y.cell? ⟨w.heap.size, 7, none⟩ = some (.int .i64 ee) ∧ y.cell? ⟨w.heap.size, 8, none⟩ = some (.int .i64 ot) ∧ y.cell? ⟨w.heap.size, 9, none⟩ = some (.int .i64 om) ∧ y.cell? ⟨w.heap.size, 10, none⟩ = some (.int .i64 ow) ∧ y.cell? ⟨w.heap.size, 11, none⟩ = some (.int .i64 oc) ∧ y.cell? ⟨w.heap.size, 12, none⟩ = some (.int .i64 ov) ∧ y.cell? ⟨w.heap.size, 13, none⟩ = some (.slice a ds.length cap)) ∧ (y.cell? ⟨w.heap.size + 1, 0, none⟩ = some (.int .i64 ok) ∧ y.cell? ⟨w.heap.size + 1, 1, none⟩ = some (.int .i64 pid) ∧ y.cell? ⟨w.heap.size + 1, 2, none⟩ = some (.int .i64 fc) ∧ y.cell? ⟨w.heap.size + 1, 3, none⟩ = some (.int .i64 ft) ∧ y.cell? ⟨w.heap.size + 1, 4, none⟩ = some (.int .i64 fx) ∧ y.cell? ⟨w.heap.size + 1, 5, none⟩ = some (.int .i64 fm) ∧ y.cell? ⟨w.heap.size + 1, 6, none⟩ = some (.int .i64 fk) ∧ y.cell? ⟨w.heap.size + 1, 7, none⟩ = some (.int .i64 fe) ∧ y.cell? ⟨w.heap.size + 1, 8, none⟩ = some (.int .i64 pt) ∧ y.cell? ⟨w.heap.size + 1, 9, none⟩ = some (.int .i64 pm) ∧ y.cell? ⟨w.heap.size + 1, 10, none⟩ = some (.int .i64 pw) ∧ y.cell? ⟨w.heap.size + 1, 11, none⟩ = some (.int .i64 pc) ∧ y.cell? ⟨w.heap.size + 1, 12, none⟩ = some (.int .i64 pv) ∧ y.cell? ⟨w.heap.size + 1, 13, none⟩ = some (.slice a' es.length cap'))) ∧ Below W.heap.size W y)
            (first | exact MK.out _ (by assumption) | exact MK.out _ (Below.refl _ _).drew)
            (first
              | (go_at_call 17; refine (bytes_any X Y _ _ _ (HW.out.2.2.2.1.later (Below.refl _ _).drew) (HW.out.2.2.2.2.later (Below.refl _ _).drew) HZ.out.2.2).mono ?_; rintro r w6 ⟨rfl, hb6⟩; rw [HZ.out.1]; have hz6 : Below W.heap.size W w6 := (Below.refl _ _).drew.trans hb6)
              | (go_at_call 21; have hz8 := hz6; refine (wsm_any ok oid ec et ex em ek ee ot om ow oc ov (.slice a ds.length cap) ok pid fc ft fx fm fk fe pt pm pw pc pv (.slice a' es.length cap') ds es _ (HN.out _ (HW.out.2.2.1.trans (hz8.mono HW.out.2.2.1.size))).1 (HN.out _ (HW.out.2.2.1.trans (hz8.mono HW.out.2.2.1.size))).2).mono ?_; rintro r w7 ⟨rfl, hb7⟩; rw [HZ.out.2.1]; have hz7 : Below W.heap.size W w7 := hz8.trans (hb7.mono hz8.size)))
          all_goals
            have HF := HW.out.2.2.1.trans (hz7.mono HW.out.2.2.1.size)
            go_wp2_with fail
            go_ret
            exact ⟨ret_b (by simp), HF⟩
      · have q5 : (ok == pk) = false := beq_eq_false_iff_ne.2 ck
        clear hf2 ck
        go_wp2_with fail
        go_quiet (fail)
        have HW := HMN.out _ (HQ.out nq)
        generalize w4.drewN nq = W at *
        clear HMN HQ HB4 HE2 e0 f0 ca
        have MK : Hid (∀ y : World, Below W.heap.size W y → ((y.cell? ⟨w.heap.size, 0, none⟩ = some (.int .i64 ok) ∧ y.cell? ⟨w.heap.size, 1, none⟩ = some (.int .i64 oid) ∧ y.cell? ⟨w.heap.size, 2, none⟩ = some (.int .i64 ec) ∧ y.cell? ⟨w.heap.size, 3, none⟩ = some (.int .i64 et) ∧ y.cell? ⟨w.heap.size, 4, none⟩ = some (.int .i64 ex) ∧ y.cell? ⟨w.heap.size, 5, none⟩ = some (.int .i64 em) ∧ y.cell? ⟨w.heap.size, 6, none⟩ = some (.int .i64 ek) ∧ y.cell? ⟨w.heap.size, 7, none⟩ = some (.int .i64 ee) ∧ y.cell? ⟨w.heap.size, 8, none⟩ = some (.int .i64 ot) ∧ y.cell? ⟨w.heap.size, 9, none⟩ = some (.int .i64 om) ∧ y.cell? ⟨w.heap.size, 10, none⟩ = some (.int .i64 ow) ∧ y.cell? ⟨w.heap.size, 11, none⟩ = some (.int .i64 oc) ∧ y.cell? ⟨w.heap.size, 12, none⟩ = some (.int .i64 ov) ∧ y.cell? ⟨w.heap.size, 13, none⟩ = some (.slice a ds.length cap)) ∧ (y.cell? ⟨w.heap.size + 1, 0, none⟩ = some (.int .i64 pk) ∧ y.cell? ⟨w.heap.size + 1, 1, none⟩ = some (.int .i64 pid) ∧ y.cell? ⟨w.heap.size + 1, 2, none⟩ = some (.int .i64 fc) ∧ y.cell? ⟨w.heap.size + 1, 3, none⟩ = some (.int .i64 ft) ∧ y.cell? ⟨w.heap.size + 1, 4, none⟩ = some (.int .i64 fx) ∧ y.cell? ⟨w.heap.size + 1, 5, none⟩ = some (.int .i64 fm) ∧ y.cell? ⟨w.heap.size + 1, 6, none⟩ = some (.int .i64 fk) ∧ y.cell? ⟨w.heap.size + 1, 7, none⟩ = some (.int .i64 fe) ∧ y.cell? ⟨w.heap.size + 1, 8, none⟩ = some (.int .i64 pt) ∧ y.cell? ⟨w.heap.size + 1, 9, none⟩ = some (.int .i64 pm) ∧ y.cell? ⟨w.heap.size + 1, 10, none⟩ = some (.int .i64 pw) ∧ y.cell? ⟨w.heap.size + 1, 11, none⟩ = some (.int .i64 pc) ∧ y.cell? ⟨w.heap.size + 1, 12, none⟩ = some (.int .i64 pv) ∧ y.cell? ⟨w.heap.size + 1, 13, none⟩ = some (.slice a' es.length cap'))) ∧ Below W.heap.size W y) := fun y hy => ⟨⟨(HW.out.1.later hy).c14, (HW.out.2.1.later hy).c14⟩, hy⟩
        go_wp2_with fail
        go_region_held3 (fun y => ((y.cell? ⟨w.heap.size, 0, none⟩ = some (.int .i64 ok) ∧ y.cell? ⟨w.heap.size, 1, none⟩ = some (.int .i64 oid) ∧ y.cell? ⟨w.heap.size, 2, none⟩ = some (.int .i64 ec) ∧ y.cell? ⟨w.heap.size, 3, none⟩ = some (.int .i64 et) ∧ y.cell? ⟨w.heap.size, 4, none⟩ = some (.int .i64 ex) ∧ y.cell? ⟨w.heap.size, 5, none⟩ = some (.int .i64 em) ∧ y.cell? ⟨w.heap.size, 6, none⟩ = some (.int .i64 ek) ∧ y.cell? ⟨w.heap.size, 7, none⟩ = some (.int .i64 ee) ∧ y.cell? ⟨w.heap.size, 8, none⟩ = some (.int .i64 ot) ∧ y.cell? ⟨w.heap.size, 9, none⟩ = some (.int .i64 om) ∧ y.cell? ⟨w.heap.size, 10, none⟩ = some (.int .i64 ow) ∧ y.cell? ⟨w.heap.size, 11, none⟩ = some (.int .i64 oc) ∧ y.cell? ⟨w.heap.size, 12, none⟩ = some (.int .i64 ov) ∧ y.cell? ⟨w.heap.size, 13, none⟩ = some (.slice a ds.length cap)) ∧ (y.cell? ⟨w.heap.size + 1, 0, none⟩ = some (.int .i64 pk) ∧ y.cell? ⟨w.heap.size + 1, 1, none⟩ = some (.int .i64 pid) ∧ y.cell? ⟨w.heap.size + 1, 2, none⟩ = some (.int .i64 fc) ∧ y.cell? ⟨w.heap.size + 1, 3, none⟩ = some (.int .i64 ft) ∧ y.cell? ⟨w.heap.size + 1, 4, none⟩ = some (.int .i64 fx) ∧ y.cell? ⟨w.heap.size + 1, 5, none⟩ = some (.int .i64 fm) ∧ y.cell? ⟨w.heap.size + 1, 6, none⟩ = some (.int .i64 fk) ∧ y.cell? ⟨w.heap.size + 1, 7, none⟩ = some (.int .i64 fe) ∧ y.cell? ⟨w.heap.size + 1, 8, none⟩ = some (.int .i64 pt) ∧ y.cell? ⟨w.heap.size + 1, 9, none⟩ = some (.int .i64 pm) ∧ y.cell? ⟨w.heap.size + 1, 10, none⟩ = some (.int .i64 pw) ∧ y.cell? ⟨w.heap.size + 1, 11, none⟩ = some (.int .i64 pc) ∧ y.cell? ⟨w.heap.size + 1, 12, none⟩ = some (.int .i64 pv) ∧ y.cell? ⟨w.heap.size + 1, 13, none⟩ = some (.slice a' es.length cap'))) ∧ Below W.heap.size W y)
          (first | exact MK.out _ (by assumption) | exact MK.out _ (Below.refl _ _).drew)
          (first
            | (go_at_call 17; refine (bytes_any X Y _ _ _ (HW.out.2.2.2.1.later (Below.refl _ _).drew) (HW.out.2.2.2.2.later (Below.refl _ _).drew) HZ.out.2.2).mono ?_; rintro r w6 ⟨rfl, hb6⟩; rw [HZ.out.1]; have hz6 : Below W.heap.size W w6 := (Below.refl _ _).drew.trans hb6)
            | (go_at_call 21; have hz8 := hz6; refine (wsm_any ok oid ec et ex em ek ee ot om ow oc ov (.slice a ds.length cap) pk pid fc ft fx fm fk fe pt pm pw pc pv (.slice a' es.length cap') ds es _ (HN.out _ (HW.out.2.2.1.trans (hz8.mono HW.out.2.2.1.size))).1 (HN.out _ (HW.out.2.2.1.trans (hz8.mono HW.out.2.2.1.size))).2).mono ?_; rintro r w7 ⟨rfl, hb7⟩; rw [HZ.out.2.1]; have hz7 : Below W.heap.size W w7 := hz8.trans (hb7.mono hz8.size)))
        all_goals
          have HF := HW.out.2.2.1.trans (hz7.mono HW.out.2.2.1.size)
          go_wp2_with fail
          go_ret
          exact ⟨ret_b (by simp), HF⟩
end Go.Proofs.Yteklcolphbcjlaa
