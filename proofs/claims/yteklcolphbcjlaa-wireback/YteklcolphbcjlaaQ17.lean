/- Texts that belong together, one behind the other: BB25, BB26, V1. -/
import Derived.Test.YteklcolphbcjlaaQ16
import Derived.Test.YteklcolphbcjlaaQ1
import Derived.ProofKit
import Derived.OpenShut
import Derived.Carry
import Derived.Lib.SmallJoins
import Derived.Deep.Grids
/- Two things that may be asked have the same bytes only if they are the same. -/
namespace Go.Proofs.Yteklcolphbcjlaa
open Go.RowKit

theorem smO_iff (o p : Ow) : smO o p = true ↔ o = p := by
  obtain ⟨k, id, ⟨c0, t0, x0, m0, k0, e0⟩, t, m, w, c, v, d⟩ := o
  obtain ⟨k', id', ⟨c0', t0', x0', m0', k0', e0'⟩, t', m', w', c', v', d'⟩ := p
  unfold smO spB
  simp only [Bool.and_eq_true, decide_eq_true_eq, Ow.mk.injEq, Sp.mk.injEq]
  constructor
  · rintro ⟨h0, h1, h2, h3, h4, h5, h6, h7, h8⟩
    refine ⟨h1, h2, ?_, h4, h5, h6, h7, h8, h0⟩
    simpa [and_assoc] using h3
  · rintro ⟨h1, h2, h3, h4, h5, h6, h7, h8, h0⟩
    refine ⟨h0, h1, h2, ?_, h4, h5, h6, h7, h8⟩
    simpa [and_assoc] using h3
theorem ob_sm {o p : Ow} (h : omB o = true) (h' : omB p = true) : sameB (obL o) (obL p) = smO o p := by
  unfold sameB
  rw [Bool.eq_iff_iff, decide_eq_true_iff, smO_iff]
  exact ⟨ob_inj h h', fun e => by rw [e]⟩
theorem ob_far {o p : Ow} (h : omB o = true) (h' : omB p = true) (hk : o.k = p.k) (h4 : o.k ≠ 4) : (obL o).length = (obL p).length := by
  rw [ob_len h, ob_len h']
  unfold olN
  rw [← hk]
  by_cases c0 : o.k = 0
  · rw [if_pos c0, if_pos c0]
  rw [if_neg c0, if_neg c0]
  by_cases c2 : o.k = 2
  · rw [if_pos c2, if_pos c2]
  rw [if_neg c2, if_neg c2, if_neg h4, if_neg h4]
set_option maxHeartbeats 4000000 in
set_option maxRecDepth 100000 in
theorem law_wone16 (ok oid ec et ex em ek ee ot om ow oc ov : Int) (dv : Value) (pk pid fc ft fx fm fk fe pt pm pw pc pv : Int) (du : Value) (ds es : List Int) (w : World) (h : Nums w dv ds) (h' : Nums w du es) :
    Calls Try.prog 6 #[.agg #[.int .i64 ok, .int .i64 oid, .int .i64 ec, .int .i64 et, .int .i64 ex, .int .i64 em, .int .i64 ek, .int .i64 ee, .int .i64 ot, .int .i64 om, .int .i64 ow, .int .i64 oc, .int .i64 ov, dv], .agg #[.int .i64 pk, .int .i64 pid, .int .i64 fc, .int .i64 ft, .int .i64 fx, .int .i64 fm, .int .i64 fk, .int .i64 fe, .int .i64 pt, .int .i64 pm, .int .i64 pw, .int .i64 pc, .int .i64 pv, du]] w fun e w' => e = .returned (.bool true) ∧ Below w.heap.size w w' := by
  obtain ⟨a, cap, rfl⟩ : ∃ a c, dv = .slice a ds.length c := by obtain ⟨a, c, e, _⟩ := h; exact ⟨a, c, e⟩
  obtain ⟨a', cap', rfl⟩ : ∃ a c, du = .slice a es.length c := by obtain ⟨a, c, e, _⟩ := h'; exact ⟨a, c, e⟩
  have HN : Hid (∀ y, Below w.heap.size w y → Nums y (.slice a ds.length cap) ds ∧ Nums y (.slice a' es.length cap') es) := fun y hy => ⟨h.later hy, h'.later hy⟩
  have HB : Hid (Bk ((w.alloc (.cells #[.int .i64 ok, .int .i64 oid, .int .i64 ec, .int .i64 et, .int .i64 ex, .int .i64 em, .int .i64 ek, .int .i64 ee, .int .i64 ot, .int .i64 om, .int .i64 ow, .int .i64 oc, .int .i64 ov, .slice a ds.length cap] 26)).alloc (.cells #[.int .i64 pk, .int .i64 pid, .int .i64 fc, .int .i64 ft, .int .i64 fx, .int .i64 fm, .int .i64 fk, .int .i64 fe, .int .i64 pt, .int .i64 pm, .int .i64 pw, .int .i64 pc, .int .i64 pv, .slice a' es.length cap'] 26)) w.heap.size [.int .i64 ok, .int .i64 oid, .int .i64 ec, .int .i64 et, .int .i64 ex, .int .i64 em, .int .i64 ek, .int .i64 ee, .int .i64 ot, .int .i64 om, .int .i64 ow, .int .i64 oc, .int .i64 ov, .slice a ds.length cap] ∧ Bk ((w.alloc (.cells #[.int .i64 ok, .int .i64 oid, .int .i64 ec, .int .i64 et, .int .i64 ex, .int .i64 em, .int .i64 ek, .int .i64 ee, .int .i64 ot, .int .i64 om, .int .i64 ow, .int .i64 oc, .int .i64 ov, .slice a ds.length cap] 26)).alloc (.cells #[.int .i64 pk, .int .i64 pid, .int .i64 fc, .int .i64 ft, .int .i64 fx, .int .i64 fm, .int .i64 fk, .int .i64 fe, .int .i64 pt, .int .i64 pm, .int .i64 pw, .int .i64 pc, .int .i64 pv, .slice a' es.length cap'] 26)) (w.heap.size + 1) [.int .i64 pk, .int .i64 pid, .int .i64 fc, .int .i64 ft, .int .i64 fx, .int .i64 fm, .int .i64 fk, .int .i64 fe, .int .i64 pt, .int .i64 pm, .int .i64 pw, .int .i64 pc, .int .i64 pv, .slice a' es.length cap'] ∧ Below w.heap.size w ((w.alloc (.cells #[.int .i64 ok, .int .i64 oid, .int .i64 ec, .int .i64 et, .int .i64 ex, .int .i64 em, .int .i64 ek, .int .i64 ee, .int .i64 ot, .int .i64 om, .int .i64 ow, .int .i64 oc, .int .i64 ov, .slice a ds.length cap] 26)).alloc (.cells #[.int .i64 pk, .int .i64 pid, .int .i64 fc, .int .i64 ft, .int .i64 fx, .int .i64 fm, .int .i64 fk, .int .i64 fe, .int .i64 pt, .int .i64 pm, .int .i64 pw, .int .i64 pc, .int .i64 pv, .slice a' es.length cap'] 26))) := ⟨(Bk.new w _ _).later (below_b1 _ _), (by have := Bk.new (w.alloc (.cells #[.int .i64 ok, .int .i64 oid, .int .i64 ec, .int .i64 et, .int .i64 ex, .int .i64 em, .int .i64 ek, .int .i64 ee, .int .i64 ot, .int .i64 om, .int .i64 ow, .int .i64 oc, .int .i64 ov, .slice a ds.length cap] 26)) [.int .i64 pk, .int .i64 pid, .int .i64 fc, .int .i64 ft, .int .i64 fx, .int .i64 fm, .int .i64 fk, .int .i64 fe, .int .i64 pt, .int .i64 pm, .int .i64 pw, .int .i64 pc, .int .i64 pv, .slice a' es.length cap'] 26; simp only [World.size_alloc] at this; exact this), below_b2 _ _ _⟩
  clear h h'
  go_enter Try.func6, Try.ntmps6
  go_wp2_with fail
  refine (awake16_any _).mono ?_
  rintro e w1 ⟨rfl, hb1⟩
  have HC : Hid (Bk w1 w.heap.size [.int .i64 ok, .int .i64 oid, .int .i64 ec, .int .i64 et, .int .i64 ex, .int .i64 em, .int .i64 ek, .int .i64 ee, .int .i64 ot, .int .i64 om, .int .i64 ow, .int .i64 oc, .int .i64 ov, .slice a ds.length cap] ∧ Bk w1 (w.heap.size + 1) [.int .i64 pk, .int .i64 pid, .int .i64 fc, .int .i64 ft, .int .i64 fx, .int .i64 fm, .int .i64 fk, .int .i64 fe, .int .i64 pt, .int .i64 pm, .int .i64 pw, .int .i64 pc, .int .i64 pv, .slice a' es.length cap'] ∧ Below w.heap.size w w1) := ⟨HB.out.1.later hb1, HB.out.2.1.later hb1, HB.out.2.2.trans (hb1.mono HB.out.2.2.size)⟩
  clear hb1 HB
  go_wp2_with (refine load_bk rfl 26 _ rfl w.heap.size 0 [.int .i64 ok, .int .i64 oid, .int .i64 ec, .int .i64 et, .int .i64 ex, .int .i64 em, .int .i64 ek, .int .i64 ee, .int .i64 ot, .int .i64 om, .int .i64 ow, .int .i64 oc, .int .i64 ov, .slice a ds.length cap] [.int .i64 ok, .int .i64 oid, .int .i64 ec, .int .i64 et, .int .i64 ex, .int .i64 em, .int .i64 ek, .int .i64 ee, .int .i64 ot, .int .i64 om, .int .i64 ow, .int .i64 oc, .int .i64 ov, .slice a ds.length cap] rfl HC.out.1 rfl _ Try.underlying26 rfl (by kernel_rfl) ?_)
  refine (wput16_any ok oid ec et ex em ek ee ot om ow oc ov (.slice a ds.length cap) ds _ (HN.out _ HC.out.2.2).1).mono ?_
  rintro e w2 ⟨v2, rfl, ho2, hb2⟩
  have HD : Hid (Bk w2 w.heap.size [.int .i64 ok, .int .i64 oid, .int .i64 ec, .int .i64 et, .int .i64 ex, .int .i64 em, .int .i64 ek, .int .i64 ee, .int .i64 ot, .int .i64 om, .int .i64 ow, .int .i64 oc, .int .i64 ov, .slice a ds.length cap] ∧ Bk w2 (w.heap.size + 1) [.int .i64 pk, .int .i64 pid, .int .i64 fc, .int .i64 ft, .int .i64 fx, .int .i64 fm, .int .i64 fk, .int .i64 fe, .int .i64 pt, .int .i64 pm, .int .i64 pw, .int .i64 pc, .int .i64 pv, .slice a' es.length cap'] ∧ Below w.heap.size w w2 ∧ Bys w2 v2 (bif omB ⟨ok, oid, ⟨ec, et, ex, em, ek, ee⟩, ot, om, ow, oc, ov, ds⟩ then obL ⟨ok, oid, ⟨ec, et, ex, em, ek, ee⟩, ot, om, ow, oc, ov, ds⟩ else [])) := ⟨HC.out.1.later hb2, HC.out.2.1.later hb2, HC.out.2.2.trans (hb2.mono HC.out.2.2.size), put_bys ho2⟩
  obtain ⟨a2, c2, rfl⟩ := ho2.sl
  clear ho2 hb2 HC
  go_wp2_with (refine load_bk rfl 26 _ rfl (w.heap.size + 1) 0 [.int .i64 pk, .int .i64 pid, .int .i64 fc, .int .i64 ft, .int .i64 fx, .int .i64 fm, .int .i64 fk, .int .i64 fe, .int .i64 pt, .int .i64 pm, .int .i64 pw, .int .i64 pc, .int .i64 pv, .slice a' es.length cap'] [.int .i64 pk, .int .i64 pid, .int .i64 fc, .int .i64 ft, .int .i64 fx, .int .i64 fm, .int .i64 fk, .int .i64 fe, .int .i64 pt, .int .i64 pm, .int .i64 pw, .int .i64 pc, .int .i64 pv, .slice a' es.length cap'] rfl HD.out.2.1 rfl _ Try.underlying26 rfl (by kernel_rfl) ?_)
  refine (wput16_any pk pid fc ft fx fm fk fe pt pm pw pc pv (.slice a' es.length cap') es _ (HN.out _ HD.out.2.2.1).2).mono ?_
  rintro e w4 ⟨v4, rfl, ho4, hb4⟩
  have HE : Hid (Bk w4 w.heap.size [.int .i64 ok, .int .i64 oid, .int .i64 ec, .int .i64 et, .int .i64 ex, .int .i64 em, .int .i64 ek, .int .i64 ee, .int .i64 ot, .int .i64 om, .int .i64 ow, .int .i64 oc, .int .i64 ov, .slice a ds.length cap] ∧ Bk w4 (w.heap.size + 1) [.int .i64 pk, .int .i64 pid, .int .i64 fc, .int .i64 ft, .int .i64 fx, .int .i64 fm, .int .i64 fk, .int .i64 fe, .int .i64 pt, .int .i64 pm, .int .i64 pw, .int .i64 pc, .int .i64 pv, .slice a' es.length cap'] ∧ Below w.heap.size w w4 ∧ Bys w4 (.slice a2 (bif omB ⟨ok, oid, ⟨ec, et, ex, em, ek, ee⟩, ot, om, ow, oc, ov, ds⟩ then obL ⟨ok, oid, ⟨ec, et, ex, em, ek, ee⟩, ot, om, ow, oc, ov, ds⟩ else []).length c2) (bif omB ⟨ok, oid, ⟨ec, et, ex, em, ek, ee⟩, ot, om, ow, oc, ov, ds⟩ then obL ⟨ok, oid, ⟨ec, et, ex, em, ek, ee⟩, ot, om, ow, oc, ov, ds⟩ else []) ∧ Bys w4 v4 (bif omB ⟨pk, pid, ⟨fc, ft, fx, fm, fk, fe⟩, pt, pm, pw, pc, pv, es⟩ then obL ⟨pk, pid, ⟨fc, ft, fx, fm, fk, fe⟩, pt, pm, pw, pc, pv, es⟩ else [])) := ⟨HD.out.1.later hb4, HD.out.2.1.later hb4, HD.out.2.2.1.trans (hb4.mono HD.out.2.2.1.size), HD.out.2.2.2.later hb4, put_bys ho4⟩
  obtain ⟨a4, c4, rfl⟩ := ho4.sl
  clear ho4 hb4 HD
  cases hm : omB ⟨ok, oid, ⟨ec, et, ex, em, ek, ee⟩, ot, om, ow, oc, ov, ds⟩ with
  | false =>
    rw [hm] at HE
    cases hp : omB ⟨pk, pid, ⟨fc, ft, fx, fm, fk, fe⟩, pt, pm, pw, pc, pv, es⟩ with
    | false =>
      clear hm hp
      show _
      go_wp2_with fail
      go_ret
      exact ⟨rfl, HE.out.2.2.1⟩
    | true =>
      clear hm hp
      show _
      go_wp2_with fail
      go_ret
      exact ⟨rfl, HE.out.2.2.1⟩
  | true =>
    cases hp : omB ⟨pk, pid, ⟨fc, ft, fx, fm, fk, fe⟩, pt, pm, pw, pc, pv, es⟩ with
    | false =>
      clear hm hp
      show _
      go_wp2_with fail
      go_ret
      exact ⟨rfl, HE.out.2.2.1⟩
    | true =>
      rw [hm, hp] at HE
      have hh1 := ob_head hm
      have hh2 := ob_head hp
      have hkk := om_kind hm
      have hsm := ob_sm hm hp
      have hfar := ob_far hm hp
      have hl1 : (obL ⟨ok, oid, ⟨ec, et, ex, em, ek, ee⟩, ot, om, ow, oc, ov, ds⟩).length ≤ 7 := by
        rw [ob_len hm]
        unfold olN
        have := om_cases hm
        rcases this with ⟨s, e, _⟩ | ⟨id, t, m, e, _⟩ | ⟨id, e, _⟩ | ⟨w', c, v, e, _⟩ | ⟨d, e, h1, _⟩ <;> rw [e] <;> simp
        omega
      have HM : Hid (omB ⟨ok, oid, ⟨ec, et, ex, em, ek, ee⟩, ot, om, ow, oc, ov, ds⟩ = true ∧ omB ⟨pk, pid, ⟨fc, ft, fx, fm, fk, fe⟩, pt, pm, pw, pc, pv, es⟩ = true) := ⟨hm, hp⟩
      clear hm hp
      show _
      have HE2 : Hid (Bys w4 (.slice a2 (obL ⟨ok, oid, ⟨ec, et, ex, em, ek, ee⟩, ot, om, ow, oc, ov, ds⟩).length c2) (obL ⟨ok, oid, ⟨ec, et, ex, em, ek, ee⟩, ot, om, ow, oc, ov, ds⟩) ∧ Bys w4 (.slice a4 (obL ⟨pk, pid, ⟨fc, ft, fx, fm, fk, fe⟩, pt, pm, pw, pc, pv, es⟩).length c4) (obL ⟨pk, pid, ⟨fc, ft, fx, fm, fk, fe⟩, pt, pm, pw, pc, pv, es⟩)) := HE.out.2.2.2
      obtain ⟨at2, ct2, e2, g1, g2, g3, g4, g5⟩ := HE2.out.1
      cases e2
      obtain ⟨bb, oo, rfl, g6⟩ := g5 (by intro e; have := hh1.2; rw [e] at this; simp at this)
      have ca := g6 0 hh1.2
      rw [hh1.1, Nat.add_zero] at ca
      clear g1 g2 g3 g4 g5 g6
      have hX : (bif true then obL ⟨ok, oid, ⟨ec, et, ex, em, ek, ee⟩, ot, om, ow, oc, ov, ds⟩ else []) = obL ⟨ok, oid, ⟨ec, et, ex, em, ek, ee⟩, ot, om, ow, oc, ov, ds⟩ := rfl
      have hY : (bif true then obL ⟨pk, pid, ⟨fc, ft, fx, fm, fk, fe⟩, pt, pm, pw, pc, pv, es⟩ else []) = obL ⟨pk, pid, ⟨fc, ft, fx, fm, fk, fe⟩, pt, pm, pw, pc, pv, es⟩ := rfl
      rw [hX, hY]
      have HB4 : Hid (Bk w4 w.heap.size [.int .i64 ok, .int .i64 oid, .int .i64 ec, .int .i64 et, .int .i64 ex, .int .i64 em, .int .i64 ek, .int .i64 ee, .int .i64 ot, .int .i64 om, .int .i64 ow, .int .i64 oc, .int .i64 ov, .slice a ds.length cap] ∧ Bk w4 (w.heap.size + 1) [.int .i64 pk, .int .i64 pid, .int .i64 fc, .int .i64 ft, .int .i64 fx, .int .i64 fm, .int .i64 fk, .int .i64 fe, .int .i64 pt, .int .i64 pm, .int .i64 pw, .int .i64 pc, .int .i64 pv, .slice a' es.length cap'] ∧ Below w.heap.size w w4) := ⟨HE.out.1, HE.out.2.1, HE.out.2.2.1⟩
      have hp1 := hh1.2
      have hp2 := hh2.2
      have hko : 0 ≤ ok ∧ ok ≤ 4 := hkk
      have hf2 : ok = pk → ok ≠ 4 → (obL ⟨ok, oid, ⟨ec, et, ex, em, ek, ee⟩, ot, om, ow, oc, ov, ds⟩).length = (obL ⟨pk, pid, ⟨fc, ft, fx, fm, fk, fe⟩, pt, pm, pw, pc, pv, es⟩).length := hfar
      obtain ⟨z, hz⟩ : ∃ z, smO ⟨ok, oid, ⟨ec, et, ex, em, ek, ee⟩, ot, om, ow, oc, ov, ds⟩ ⟨pk, pid, ⟨fc, ft, fx, fm, fk, fe⟩, pt, pm, pw, pc, pv, es⟩ = z := ⟨_, rfl⟩
      rw [hz] at hsm
      have HZ : Hid (sameB (obL ⟨ok, oid, ⟨ec, et, ex, em, ek, ee⟩, ot, om, ow, oc, ov, ds⟩) (obL ⟨pk, pid, ⟨fc, ft, fx, fm, fk, fe⟩, pt, pm, pw, pc, pv, es⟩) = z ∧ smO ⟨ok, oid, ⟨ec, et, ex, em, ek, ee⟩, ot, om, ow, oc, ov, ds⟩ ⟨pk, pid, ⟨fc, ft, fx, fm, fk, fe⟩, pt, pm, pw, pc, pv, es⟩ = z ∧ (obL ⟨ok, oid, ⟨ec, et, ex, em, ek, ee⟩, ot, om, ow, oc, ov, ds⟩).length ≤ 1000) := ⟨hsm, hz, by omega⟩
      clear hh1 hh2 hkk hsm hfar HE hX hY hz
      generalize obL ⟨ok, oid, ⟨ec, et, ex, em, ek, ee⟩, ot, om, ow, oc, ov, ds⟩ = X at *
      generalize obL ⟨pk, pid, ⟨fc, ft, fx, fm, fk, fe⟩, pt, pm, pw, pc, pv, es⟩ = Y at *
      obtain ⟨m, hm⟩ : ∃ m, X.length = m := ⟨_, rfl⟩
      obtain ⟨l, hl⟩ : ∃ l, Y.length = l := ⟨_, rfl⟩
      rw [hm] at HE2 hp1 hl1 hf2 ⊢
      rw [hl] at HE2 hp2 hf2 ⊢
      clear hm hl
      have wk : IntKind.i64.wrap ok = ok := by rw [IntKind.wrap_i64]; omega
      have q1 : ((m : Int) == 0) = false := beq_eq_false_iff_ne.2 (by omega)
      have q2 : ((l : Int) == 0) = false := beq_eq_false_iff_ne.2 (by omega)
      have q3 : (0 : Int) < (m : Int) := by omega
      have e0 := HB4.out.1.cell (i := 0) rfl
      have f0 := HB4.out.2.1.cell (i := 0) rfl
      have hB : ∀ nq, Below w.heap.size w (w4.drewN nq) := fun nq => ⟨HB4.out.2.2.os, HB4.out.2.2.tape, HB4.out.2.2.output, HB4.out.2.2.size, HB4.out.2.2.block⟩
      have hq : ∀ nq, Below w4.heap.size w4 (w4.drewN nq) := fun nq => ⟨rfl, rfl, rfl, Nat.le_refl _, fun _ _ => rfl⟩
      have HQ : Hid (∀ nq, Below w4.heap.size w4 (w4.drewN nq)) := hq
      clear hB hq
      have main : ∀ W : World, Below w4.heap.size w4 W → Hid (Bk W w.heap.size [.int .i64 ok, .int .i64 oid, .int .i64 ec, .int .i64 et, .int .i64 ex, .int .i64 em, .int .i64 ek, .int .i64 ee, .int .i64 ot, .int .i64 om, .int .i64 ow, .int .i64 oc, .int .i64 ov, .slice a ds.length cap] ∧ Bk W (w.heap.size + 1) [.int .i64 pk, .int .i64 pid, .int .i64 fc, .int .i64 ft, .int .i64 fx, .int .i64 fm, .int .i64 fk, .int .i64 fe, .int .i64 pt, .int .i64 pm, .int .i64 pw, .int .i64 pc, .int .i64 pv, .slice a' es.length cap'] ∧ Below w.heap.size w W ∧ Bys W (.slice (some ⟨bb, oo, none⟩) m c2) X ∧ Bys W (.slice a4 l c4) Y) := fun W hb => ⟨HB4.out.1.later hb, HB4.out.2.1.later hb, HB4.out.2.2.trans (hb.mono HB4.out.2.2.size), HE2.out.1.later hb, HE2.out.2.later hb⟩
      have HMN : Hid (∀ W : World, Below w4.heap.size w4 W → Hid (Bk W w.heap.size [.int .i64 ok, .int .i64 oid, .int .i64 ec, .int .i64 et, .int .i64 ex, .int .i64 em, .int .i64 ek, .int .i64 ee, .int .i64 ot, .int .i64 om, .int .i64 ow, .int .i64 oc, .int .i64 ov, .slice a ds.length cap] ∧ Bk W (w.heap.size + 1) [.int .i64 pk, .int .i64 pid, .int .i64 fc, .int .i64 ft, .int .i64 fx, .int .i64 fm, .int .i64 fk, .int .i64 fe, .int .i64 pt, .int .i64 pm, .int .i64 pw, .int .i64 pc, .int .i64 pv, .slice a' es.length cap'] ∧ Below w.heap.size w W ∧ Bys W (.slice (some ⟨bb, oo, none⟩) m c2) X ∧ Bys W (.slice a4 l c4) Y)) := main
      clear main
      by_cases ck : ok = pk
      · subst ck
        by_cases c4' : ok = 4
        · subst c4'
          clear hf2
          go_wp2_with fail
          go_quiet (fail)
          have HW := HMN.out _ (HQ.out nq)
          generalize w4.drewN nq = W at *
          clear HMN HQ HB4 HE2 e0 f0 ca
          have MK : Hid (∀ y : World, Below W.heap.size W y → ((y.cell? ⟨w.heap.size, 0, none⟩ = some (.int .i64 4) ∧ y.cell? ⟨w.heap.size, 1, none⟩ = some (.int .i64 oid) ∧ y.cell? ⟨w.heap.size, 2, none⟩ = some (.int .i64 ec) ∧ y.cell? ⟨w.heap.size, 3, none⟩ = some (.int .i64 et) ∧ y.cell? ⟨w.heap.size, 4, none⟩ = some (.int .i64 ex) ∧ y.cell? ⟨w.heap.size, 5, none⟩ = some (.int .i64 em) ∧ y.cell? ⟨w.heap.size, 6, none⟩ = some (.int .i64 ek) ∧ y.cell? ⟨w.heap.size, 7, none⟩ = some (.int .i64 ee) ∧ y.cell? ⟨w.heap.size, 8, none⟩ = some (.int .i64 ot) ∧ y.cell? ⟨w.heap.size, 9, none⟩ = some (.int .i64 om) ∧ y.cell? ⟨w.heap.size, 10, none⟩ = some (.int .i64 ow) ∧ y.cell? ⟨w.heap.size, 11, none⟩ = some (.int .i64 oc) ∧ y.cell? ⟨w.heap.size, 12, none⟩ = some (.int .i64 ov) ∧ y.cell? ⟨w.heap.size, 13, none⟩ = some (.slice a ds.length cap)) ∧ (y.cell? ⟨w.heap.size + 1, 0, none⟩ = some (.int .i64 4) ∧ y.cell? ⟨w.heap.size + 1, 1, none⟩ = some (.int .i64 pid) ∧ y.cell? ⟨w.heap.size + 1, 2, none⟩ = some (.int .i64 fc) ∧ y.cell? ⟨w.heap.size + 1, 3, none⟩ = some (.int .i64 ft) ∧ y.cell? ⟨w.heap.size + 1, 4, none⟩ = some (.int .i64 fx) ∧ y.cell? ⟨w.heap.size + 1, 5, none⟩ = some (.int .i64 fm) ∧ y.cell? ⟨w.heap.size + 1, 6, none⟩ = some (.int .i64 fk) ∧ y.cell? ⟨w.heap.size + 1, 7, none⟩ = some (.int .i64 fe) ∧ y.cell? ⟨w.heap.size + 1, 8, none⟩ = some (.int .i64 pt) ∧ y.cell? ⟨w.heap.size + 1, 9, none⟩ = some (.int .i64 pm) ∧ y.cell? ⟨w.heap.size + 1, 10, none⟩ = some (.int .i64 pw) ∧ y.cell? ⟨w.heap.size + 1, 11, none⟩ = some (.int .i64 pc) ∧ y.cell? ⟨w.heap.size + 1, 12, none⟩ = some (.int .i64 pv) ∧ y.cell? ⟨w.heap.size + 1, 13, none⟩ = some (.slice a' es.length cap'))) ∧ Below W.heap.size W y) := fun y hy => ⟨⟨(HW.out.1.later hy).c14, (HW.out.2.1.later hy).c14⟩, hy⟩
          go_wp2_with fail
          go_region_held3 (fun y => ((y.cell? ⟨w.heap.size, 0, none⟩ = some (.int .i64 4) ∧ y.cell? ⟨w.heap.size, 1, none⟩ = some (.int .i64 oid) ∧ y.cell? ⟨w.heap.size, 2, none⟩ = some (.int .i64 ec) ∧ y.cell? ⟨w.heap.size, 3, none⟩ = some (.int .i64 et) ∧ y.cell? ⟨w.heap.size, 4, none⟩ = some (.int .i64 ex) ∧ y.cell? ⟨w.heap.size, 5, none⟩ = some (.int .i64 em) ∧ y.cell? ⟨w.heap.size, 6, none⟩ = some (.int .i64 ek) ∧ y.cell? ⟨w.heap.size, 7, none⟩ = some (.int .i64 ee) ∧ y.cell? ⟨w.heap.size, 8, none⟩ = some (.int .i64 ot) ∧ y.cell? ⟨w.heap.size, 9, none⟩ = some (.int .i64 om) ∧ y.cell? ⟨w.heap.size, 10, none⟩ = some (.int .i64 ow) ∧ y.cell? ⟨w.heap.size, 11, none⟩ = some (.int .i64 oc) ∧ y.cell? ⟨w.heap.size, 12, none⟩ = some (.int .i64 ov) ∧ y.cell? ⟨w.heap.size, 13, none⟩ = some (.slice a ds.length cap)) ∧ (y.cell? ⟨w.heap.size + 1, 0, none⟩ = some (.int .i64 4) ∧ y.cell? ⟨w.heap.size + 1, 1, none⟩ = some (.int .i64 pid) ∧ y.cell? ⟨w.heap.size + 1, 2, none⟩ = some (.int .i64 fc) ∧ y.cell? ⟨w.heap.size + 1, 3, none⟩ = some (.int .i64 ft) ∧ y.cell? ⟨w.heap.size + 1, 4, none⟩ = some (.int .i64 fx) ∧ y.cell? ⟨w.heap.size + 1, 5, none⟩ = some (.int .i64 fm) ∧ y.cell? ⟨w.heap.size + 1, 6, none⟩ = some (.int .i64 fk) ∧ y.cell? ⟨w.heap.size + 1, 7, none⟩ = some (.int .i64 fe) ∧ y.cell? ⟨w.heap.size + 1, 8, none⟩ = some (.int .i64 pt) ∧ y.cell? ⟨w.heap.size + 1, 9, none⟩ = some (.int .i64 pm) ∧ y.cell? ⟨w.heap.size + 1, 10, none⟩ = some (.int .i64 pw) ∧ y.cell? ⟨w.heap.size + 1, 11, none⟩ = some (.int .i64 pc) ∧ y.cell? ⟨w.heap.size + 1, 12, none⟩ = some (.int .i64 pv) ∧ y.cell? ⟨w.heap.size + 1, 13, none⟩ = some (.slice a' es.length cap'))) ∧ Below W.heap.size W y)
            (first | exact MK.out _ (by assumption) | exact MK.out _ (Below.refl _ _).drew)
            (first
              | (go_at_call 17; refine (bytes_any X Y _ _ _ (HW.out.2.2.2.1.later (Below.refl _ _).drew) (HW.out.2.2.2.2.later (Below.refl _ _).drew) HZ.out.2.2).mono ?_; rintro r w6 ⟨rfl, hb6⟩; rw [HZ.out.1]; have hz6 : Below W.heap.size W w6 := (Below.refl _ _).drew.trans hb6)
              | (go_at_call 21; have hz8 := hz6; refine (wsm_any 4 oid ec et ex em ek ee ot om ow oc ov (.slice a ds.length cap) 4 pid fc ft fx fm fk fe pt pm pw pc pv (.slice a' es.length cap') ds es _ (HN.out _ (HW.out.2.2.1.trans (hz8.mono HW.out.2.2.1.size))).1 (HN.out _ (HW.out.2.2.1.trans (hz8.mono HW.out.2.2.1.size))).2).mono ?_; rintro r w7 ⟨rfl, hb7⟩; rw [HZ.out.2.1]; have hz7 : Below W.heap.size W w7 := hz8.trans (hb7.mono hz8.size)))
          all_goals
            have HF := HW.out.2.2.1.trans (hz7.mono HW.out.2.2.1.size)
            go_wp2_with fail
            go_ret
            exact ⟨ret_b (by simp), HF⟩
        · have hml : m = l := hf2 rfl c4'
          subst hml
          have q5 : (ok == 4) = false := beq_eq_false_iff_ne.2 c4'
          have q6 : (ok != 4) = true := bne_iff_ne.2 c4'
          clear hf2
          go_wp2_with fail
          go_quiet (fail)
          have HW := HMN.out _ (HQ.out nq)
          generalize w4.drewN nq = W at *
          clear HMN HQ HB4 HE2 e0 f0 ca
          have MK : Hid (∀ y : World, Below W.heap.size W y → ((y.cell? ⟨w.heap.size, 0, none⟩ = some (.int .i64 ok) ∧ y.cell? ⟨w.heap.size, 1, none⟩ = some (.int .i64 oid) ∧ y.cell? ⟨w.heap.size, 2, none⟩ = some (.int .i64 ec) ∧ y.cell? ⟨w.heap.size, 3, none⟩ = some (.int .i64 et) ∧ y.cell? ⟨w.heap.size, 4, none⟩ = some (.int .i64 ex) ∧ y.cell? ⟨w.heap.size, 5, none⟩ = some (.int .i64 em) ∧ y.cell? ⟨w.heap.size, 6, none⟩ = some (.int .i64 ek) ∧ y.cell? ⟨w.heap.size, 7, none⟩ = some (.int .i64 ee) ∧ y.cell? ⟨w.heap.size, 8, none⟩ = some (.int .i64 ot) ∧ y.cell? ⟨w.heap.size, 9, none⟩ = some (.int .i64 om) ∧ y.cell? ⟨w.heap.size, 10, none⟩ = some (.int .i64 ow) ∧ y.cell? ⟨w.heap.size, 11, none⟩ = some (.int .i64 oc) ∧ y.cell? ⟨w.heap.size, 12, none⟩ = some (.int .i64 ov) ∧ y.cell? ⟨w.heap.size, 13, none⟩ = some (.slice a ds.length cap)) ∧ (y.cell? ⟨w.heap.size + 1, 0, none⟩ = some (.int .i64 ok) ∧ y.cell? ⟨w.heap.size + 1, 1, none⟩ = some (.int .i64 pid) ∧ y.cell? ⟨w.heap.size + 1, 2, none⟩ = some (.int .i64 fc) ∧ y.cell? ⟨w.heap.size + 1, 3, none⟩ = some (.int .i64 ft) ∧ y.cell? ⟨w.heap.size + 1, 4, none⟩ = some (.int .i64 fx) ∧ y.cell? ⟨w.heap.size + 1, 5, none⟩ = some (.int .i64 fm) ∧ y.cell? ⟨w.heap.size + 1, 6, none⟩ = some (.int .i64 fk) ∧ y.cell? ⟨w.heap.size + 1, 7, none⟩ = some (.int .i64 fe) ∧ y.cell? ⟨w.heap.size + 1, 8, none⟩ = some (.int .i64 pt) ∧ y.cell? ⟨w.heap.size + 1, 9, none⟩ = some (.int .i64 pm) ∧ y.cell? ⟨w.heap.size + 1, 10, none⟩ = some (.int .i64 pw) ∧ y.cell? ⟨w.heap.size + 1, 11, none⟩ = some (.int .i64 pc) ∧ y.cell? ⟨w.heap.size + 1, 12, none⟩ = some (.int .i64 pv) ∧ y.cell? ⟨w.heap.size + 1, 13, none⟩ = some (.slice a' es.length cap'))) ∧ Below W.heap.size W y) := fun y hy => ⟨⟨(HW.out.1.later hy).c14, (HW.out.2.1.later hy).c14⟩, hy⟩
          go_wp2_with fail
          go_region_held3 (fun y => ((y.cell? ⟨w.heap.size, 0, none⟩ = some (.int .i64 ok) ∧ y.cell? ⟨w.heap.size, 1, none⟩ = some (.int .i64 oid) ∧ y.cell? ⟨w.heap.size, 2, none⟩ = some (.int .i64 ec) ∧ y.cell? ⟨w.heap.size, 3, none⟩ = some (.int .i64 et) ∧ y.cell? ⟨w.heap.size, 4, none⟩ = some (.int .i64 ex) ∧ y.cell? ⟨w.heap.size, 5, none⟩ = some (.int .i64 em) ∧ y.cell? ⟨w.heap.size, 6, none⟩ = some (.int .i64 ek) ∧ y.cell? ⟨w.heap.size, 7, none⟩ = some (.int .i64 ee) ∧ y.cell? ⟨w.heap.size, 8, none⟩ = some (.int .i64 ot) ∧ y.cell? ⟨w.heap.size, 9, none⟩ = some (.int .i64 om) ∧ y.cell? ⟨w.heap.size, 10, none⟩ = some (.int .i64 ow) ∧ y.cell? ⟨w.heap.size, 11, none⟩ = some (.int .i64 oc) ∧ y.cell? ⟨w.heap.size, 12, none⟩ = some (.int .i64 ov) ∧ y.cell? ⟨w.heap.size, 13, none⟩ = some (.slice a ds.length cap)) ∧ (y.cell? ⟨w.heap.size + 1, 0, none⟩ = some (.int .i64 ok) ∧ y.cell? ⟨w.heap.size + 1, 1, none⟩ = some (.int .i64 pid) ∧ y.cell? ⟨w.heap.size + 1, 2, none⟩ = some (.int .i64 fc) ∧ y.cell? ⟨w.heap.size + 1, 3, none⟩ = some (.int .i64 ft) ∧ y.cell? ⟨w.heap.size + 1, 4, none⟩ = some (.int .i64 fx) ∧ y.cell? ⟨w.heap.size + 1, 5, none⟩ = some (.int .i64 fm) ∧ y.cell? ⟨w.heap.size + 1, 6, none⟩ = some (.int .i64 fk) ∧ y.cell? ⟨w.heap.size + 1, 7, none⟩ = some (.int .i64 fe) ∧ y.cell? ⟨w.heap.size + 1, 8, none⟩ = some (.int .i64 pt) ∧ y.cell? ⟨w.heap.size + 1, 9, none⟩ = some (.int .i64 pm) ∧ y.cell? ⟨w.heap.size + 1, 10, none⟩ = some (.int .i64 pw) ∧ y.cell? ⟨w.heap.size + 1, 11, none⟩ = some (.int .i64 pc) ∧ y.cell? ⟨w.heap.size + 1, 12, none⟩ = some (.int .i64 pv) ∧ y.cell? ⟨w.heap.size + 1, 13, none⟩ = some (.slice a' es.length cap'))) ∧ Below W.heap.size W y)
            (first | exact MK.out _ (by assumption) | exact MK.out _ (Below.refl _ _).drew)
            (first
              | (go_at_call 17; refine (bytes_any X Y _ _ _ (HW.out.2.2.2.1.later (Below.refl _ _).drew) (HW.out.2.2.2.2.later (Below.refl _ _).drew) HZ.out.2.2).mono ?_; rintro r w6 ⟨rfl, hb6⟩; rw [HZ.out.1]; have hz6 : Below W.heap.size W w6 := (Below.refl _ _).drew.trans hb6)
              | (go_at_call 21; have hz8 := hz6; refine (wsm_any ok oid ec et ex em ek ee ot om ow oc ov (.slice a ds.length cap) ok pid fc ft fx fm fk fe pt pm pw pc pv (.slice a' es.length cap') ds es _ (HN.out _ (HW.out.2.2.1.trans (hz8.mono HW.out.2.2.1.size))).1 (HN.out _ (HW.out.2.2.1.trans (hz8.mono HW.out.2.2.1.size))).2).mono ?_; rintro r w7 ⟨rfl, hb7⟩; rw [HZ.out.2.1]; have hz7 : Below W.heap.size W w7 := hz8.trans (hb7.mono hz8.size)))
          all_goals
            have HF := HW.out.2.2.1.trans (hz7.mono HW.out.2.2.1.size)
            go_wp2_with fail
            go_ret
            exact ⟨ret_b (by simp), HF⟩
      · have q5 : (ok == pk) = false := beq_eq_false_iff_ne.2 ck
        clear hf2 ck
        go_wp2_with fail
        go_quiet (fail)
        have HW := HMN.out _ (HQ.out nq)
        generalize w4.drewN nq = W at *
        clear HMN HQ HB4 HE2 e0 f0 ca
        have MK : Hid (∀ y : World, Below W.heap.size W y → ((y.cell? ⟨w.heap.size, 0, none⟩ = some (.int .i64 ok) ∧ y.cell? ⟨w.heap.size, 1, none⟩ = some (.int .i64 oid) ∧ y.cell? ⟨w.heap.size, 2, none⟩ = some (.int .i64 ec) ∧ y.cell? ⟨w.heap.size, 3, none⟩ = some (.int .i64 et) ∧ y.cell? ⟨w.heap.size, 4, none⟩ = some (.int .i64 ex) ∧ y.cell? ⟨w.heap.size, 5, none⟩ = some (.int .i64 em) ∧ y.cell? ⟨w.heap.size, 6, none⟩ = some (.int .i64 ek) ∧ y.cell? ⟨w.heap.size, 7, none⟩ = some (.int .i64 ee) ∧ y.cell? ⟨w.heap.size, 8, none⟩ = some (.int .i64 ot) ∧ y.cell? ⟨w.heap.size, 9, none⟩ = some (.int .i64 om) ∧ y.cell? ⟨w.heap.size, 10, none⟩ = some (.int .i64 ow) ∧ y.cell? ⟨w.heap.size, 11, none⟩ = some (.int .i64 oc) ∧ y.cell? ⟨w.heap.size, 12, none⟩ = some (.int .i64 ov) ∧ y.cell? ⟨w.heap.size, 13, none⟩ = some (.slice a ds.length cap)) ∧ (y.cell? ⟨w.heap.size + 1, 0, none⟩ = some (.int .i64 pk) ∧ y.cell? ⟨w.heap.size + 1, 1, none⟩ = some (.int .i64 pid) ∧ y.cell? ⟨w.heap.size + 1, 2, none⟩ = some (.int .i64 fc) ∧ y.cell? ⟨w.heap.size + 1, 3, none⟩ = some (.int .i64 ft) ∧ y.cell? ⟨w.heap.size + 1, 4, none⟩ = some (.int .i64 fx) ∧ y.cell? ⟨w.heap.size + 1, 5, none⟩ = some (.int .i64 fm) ∧ y.cell? ⟨w.heap.size + 1, 6, none⟩ = some (.int .i64 fk) ∧ y.cell? ⟨w.heap.size + 1, 7, none⟩ = some (.int .i64 fe) ∧ y.cell? ⟨w.heap.size + 1, 8, none⟩ = some (.int .i64 pt) ∧ y.cell? ⟨w.heap.size + 1, 9, none⟩ = some (.int .i64 pm) ∧ y.cell? ⟨w.heap.size + 1, 10, none⟩ = some (.int .i64 pw) ∧ y.cell? ⟨w.heap.size + 1, 11, none⟩ = some (.int .i64 pc) ∧ y.cell? ⟨w.heap.size + 1, 12, none⟩ = some (.int .i64 pv) ∧ y.cell? ⟨w.heap.size + 1, 13, none⟩ = some (.slice a' es.length cap'))) ∧ Below W.heap.size W y) := fun y hy => ⟨⟨(HW.out.1.later hy).c14, (HW.out.2.1.later hy).c14⟩, hy⟩
        go_wp2_with fail
        go_region_held3 (fun y => ((y.cell? ⟨w.heap.size, 0, none⟩ = some (.int .i64 ok) ∧ y.cell? ⟨w.heap.size, 1, none⟩ = some (.int .i64 oid) ∧ y.cell? ⟨w.heap.size, 2, none⟩ = some (.int .i64 ec) ∧ y.cell? ⟨w.heap.size, 3, none⟩ = some (.int .i64 et) ∧ y.cell? ⟨w.heap.size, 4, none⟩ = some (.int .i64 ex) ∧ y.cell? ⟨w.heap.size, 5, none⟩ = some (.int .i64 em) ∧ y.cell? ⟨w.heap.size, 6, none⟩ = some (.int .i64 ek) ∧ y.cell? ⟨w.heap.size, 7, none⟩ = some (.int .i64 ee) ∧ y.cell? ⟨w.heap.size, 8, none⟩ = some (.int .i64 ot) ∧ y.cell? ⟨w.heap.size, 9, none⟩ = some (.int .i64 om) ∧ y.cell? ⟨w.heap.size, 10, none⟩ = some (.int .i64 ow) ∧ y.cell? ⟨w.heap.size, 11, none⟩ = some (.int .i64 oc) ∧ y.cell? ⟨w.heap.size, 12, none⟩ = some (.int .i64 ov) ∧ y.cell? ⟨w.heap.size, 13, none⟩ = some (.slice a ds.length cap)) ∧ (y.cell? ⟨w.heap.size + 1, 0, none⟩ = some (.int .i64 pk) ∧ y.cell? ⟨w.heap.size + 1, 1, none⟩ = some (.int .i64 pid) ∧ y.cell? ⟨w.heap.size + 1, 2, none⟩ = some (.int .i64 fc) ∧ y.cell? ⟨w.heap.size + 1, 3, none⟩ = some (.int .i64 ft) ∧ y.cell? ⟨w.heap.size + 1, 4, none⟩ = some (.int .i64 fx) ∧ y.cell? ⟨w.heap.size + 1, 5, none⟩ = some (.int .i64 fm) ∧ y.cell? ⟨w.heap.size + 1, 6, none⟩ = some (.int .i64 fk) ∧ y.cell? ⟨w.heap.size + 1, 7, none⟩ = some (.int .i64 fe) ∧ y.cell? ⟨w.heap.size + 1, 8, none⟩ = some (.int .i64 pt) ∧ y.cell? ⟨w.heap.size + 1, 9, none⟩ = some (.int .i64 pm) ∧ y.cell? ⟨w.heap.size + 1, 10, none⟩ = some (.int .i64 pw) ∧ y.cell? ⟨w.heap.size + 1, 11, none⟩ = some (.int .i64 pc) ∧ y.cell? ⟨w.heap.size + 1, 12, none⟩ = some (.int .i64 pv) ∧ y.cell? ⟨w.heap.size + 1, 13, none⟩ = some (.slice a' es.length cap'))) ∧ Below W.heap.size W y)
          (first | exact MK.out _ (by assumption) | exact MK.out _ (Below.refl _ _).drew)
          (first
            | (go_at_call 17; refine (bytes_any X Y _ _ _ (HW.out.2.2.2.1.later (Below.refl _ _).drew) (HW.out.2.2.2.2.later (Below.refl _ _).drew) HZ.out.2.2).mono ?_; rintro r w6 ⟨rfl, hb6⟩; rw [HZ.out.1]; have hz6 : Below W.heap.size W w6 := (Below.refl _ _).drew.trans hb6)
            | (go_at_call 21; have hz8 := hz6; refine (wsm_any ok oid ec et ex em ek ee ot om ow oc ov (.slice a ds.length cap) pk pid fc ft fx fm fk fe pt pm pw pc pv (.slice a' es.length cap') ds es _ (HN.out _ (HW.out.2.2.1.trans (hz8.mono HW.out.2.2.1.size))).1 (HN.out _ (HW.out.2.2.1.trans (hz8.mono HW.out.2.2.1.size))).2).mono ?_; rintro r w7 ⟨rfl, hb7⟩; rw [HZ.out.2.1]; have hz7 : Below W.heap.size W w7 := hz8.trans (hb7.mono hz8.size)))
        all_goals
          have HF := HW.out.2.2.1.trans (hz7.mono HW.out.2.2.1.size)
          go_wp2_with fail
          go_ret
          exact ⟨ret_b (by simp), HF⟩
end Go.Proofs.Yteklcolphbcjlaa
/- What may be asked is got from its bytes; bytes that ask are those of what they ask; no beginning of them asks anything. -/
namespace Go.Proofs.Yteklcolphbcjlaa
open Go.RowKit

set_option maxHeartbeats 8000000 in
set_option maxRecDepth 100000 in
theorem law_wback16 (ok oid ec et ex em ek ee ot om ow oc ov : Int) (dv : Value) (lf : Int) (ds xs : List Int) (v : Value) (w : World) (h : Nums w dv ds) (h' : Bys w v xs) :
    Calls Try.prog 4 #[.agg #[.int .i64 ok, .int .i64 oid, .int .i64 ec, .int .i64 et, .int .i64 ex, .int .i64 em, .int .i64 ek, .int .i64 ee, .int .i64 ot, .int .i64 om, .int .i64 ow, .int .i64 oc, .int .i64 ov, dv], v, .int .i64 lf] w fun e w' => e = .returned (.bool true) ∧ Below w.heap.size w w' := by
  obtain ⟨a, cap, rfl⟩ : ∃ a c, dv = .slice a ds.length c := by obtain ⟨a, c, e, _⟩ := h; exact ⟨a, c, e⟩
  have HN : Hid (∀ y, Below w.heap.size w y → Nums y (.slice a ds.length cap) ds) := fun y hy => h.later hy
  have HV : Hid (∀ y, Below w.heap.size w y → Bys y v xs) := fun y hy => h'.later hy
  obtain ⟨av, cv, rfl⟩ : ∃ a c, v = .slice a xs.length c := by obtain ⟨a, c, e, _⟩ := h'; exact ⟨a, c, e⟩
  have HB : Hid (Bk (w.alloc (.cells #[.int .i64 ok, .int .i64 oid, .int .i64 ec, .int .i64 et, .int .i64 ex, .int .i64 em, .int .i64 ek, .int .i64 ee, .int .i64 ot, .int .i64 om, .int .i64 ow, .int .i64 oc, .int .i64 ov, .slice a ds.length cap] 26)) w.heap.size [.int .i64 ok, .int .i64 oid, .int .i64 ec, .int .i64 et, .int .i64 ex, .int .i64 em, .int .i64 ek, .int .i64 ee, .int .i64 ot, .int .i64 om, .int .i64 ow, .int .i64 oc, .int .i64 ov, .slice a ds.length cap] ∧ Below w.heap.size w (w.alloc (.cells #[.int .i64 ok, .int .i64 oid, .int .i64 ec, .int .i64 et, .int .i64 ex, .int .i64 em, .int .i64 ek, .int .i64 ee, .int .i64 ot, .int .i64 om, .int .i64 ow, .int .i64 oc, .int .i64 ov, .slice a ds.length cap] 26))) := ⟨Bk.new w _ _, below_b1 _ _⟩
  clear h h'
  go_enter Try.func4, Try.ntmps4
  go_wp2_with fail
  refine (awake16_any _).mono ?_
  rintro e w1 ⟨rfl, hb1⟩
  have HC : Hid (Bk w1 w.heap.size [.int .i64 ok, .int .i64 oid, .int .i64 ec, .int .i64 et, .int .i64 ex, .int .i64 em, .int .i64 ek, .int .i64 ee, .int .i64 ot, .int .i64 om, .int .i64 ow, .int .i64 oc, .int .i64 ov, .slice a ds.length cap] ∧ Below w.heap.size w w1) := ⟨HB.out.1.later hb1, HB.out.2.trans (hb1.mono HB.out.2.size)⟩
  have e13 := HC.out.1.cell (i := 13) rfl
  clear hb1 HB
  by_cases cx : xs.length ≤ 100
  rotate_left
  · have cl' : (100 : Int) < xs.length := by omega
    go_wp2_with fail
    go_ret
    exact ⟨rfl, HC.out.2⟩
  have cx' : ¬ (100 : Int) < xs.length := by omega
  by_cases cd : ds.length ≤ 100
  rotate_left
  · have cl' : (100 : Int) < ds.length := by omega
    go_wp2_with fail
    go_ret
    exact ⟨rfl, HC.out.2⟩
  have cd' : ¬ (100 : Int) < ds.length := by omega
  have HL : Hid (xs.length ≤ 100 ∧ ds.length ≤ 100) := ⟨cx, cd⟩
  clear cx cd
  go_wp2_with (refine load_bk rfl 26 _ rfl w.heap.size 0 [.int .i64 ok, .int .i64 oid, .int .i64 ec, .int .i64 et, .int .i64 ex, .int .i64 em, .int .i64 ek, .int .i64 ee, .int .i64 ot, .int .i64 om, .int .i64 ow, .int .i64 oc, .int .i64 ov, .slice a ds.length cap] [.int .i64 ok, .int .i64 oid, .int .i64 ec, .int .i64 et, .int .i64 ex, .int .i64 em, .int .i64 ek, .int .i64 ee, .int .i64 ot, .int .i64 om, .int .i64 ow, .int .i64 oc, .int .i64 ov, .slice a ds.length cap] rfl HC.out.1 rfl _ Try.underlying26 rfl (by kernel_rfl) ?_)
  refine (wput16_any ok oid ec et ex em ek ee ot om ow oc ov (.slice a ds.length cap) ds _ (HN.out _ HC.out.2)).mono ?_
  rintro e w2 ⟨v2, rfl, ho2, hb2⟩
  have HD : Hid (Bk w2 w.heap.size [.int .i64 ok, .int .i64 oid, .int .i64 ec, .int .i64 et, .int .i64 ex, .int .i64 em, .int .i64 ek, .int .i64 ee, .int .i64 ot, .int .i64 om, .int .i64 ow, .int .i64 oc, .int .i64 ov, .slice a ds.length cap] ∧ Below w.heap.size w w2 ∧ Bys w2 v2 (bif omB ⟨ok, oid, ⟨ec, et, ex, em, ek, ee⟩, ot, om, ow, oc, ov, ds⟩ then obL ⟨ok, oid, ⟨ec, et, ex, em, ek, ee⟩, ot, om, ow, oc, ov, ds⟩ else [])) := ⟨HC.out.1.later hb2, HC.out.2.trans (hb2.mono HC.out.2.size), put_bys ho2⟩
  obtain ⟨a2, c2, rfl⟩ := ho2.sl
  clear ho2 hb2 HC e13
  go_wp2_with (refine load_bk rfl 26 _ rfl w.heap.size 0 [.int .i64 ok, .int .i64 oid, .int .i64 ec, .int .i64 et, .int .i64 ex, .int .i64 em, .int .i64 ek, .int .i64 ee, .int .i64 ot, .int .i64 om, .int .i64 ow, .int .i64 oc, .int .i64 ov, .slice a ds.length cap] [.int .i64 ok, .int .i64 oid, .int .i64 ec, .int .i64 et, .int .i64 ex, .int .i64 em, .int .i64 ek, .int .i64 ee, .int .i64 ot, .int .i64 om, .int .i64 ow, .int .i64 oc, .int .i64 ov, .slice a ds.length cap] rfl HD.out.1 rfl _ Try.underlying26 rfl (by kernel_rfl) ?_)
  refine (wmay16_any ok oid ec et ex em ek ee ot om ow oc ov (.slice a ds.length cap) ds _ (HN.out _ HD.out.2.1)).mono ?_
  rintro e w3 ⟨rfl, hb3⟩
  have HE : Hid (Bk w3 w.heap.size [.int .i64 ok, .int .i64 oid, .int .i64 ec, .int .i64 et, .int .i64 ex, .int .i64 em, .int .i64 ek, .int .i64 ee, .int .i64 ot, .int .i64 om, .int .i64 ow, .int .i64 oc, .int .i64 ov, .slice a ds.length cap] ∧ Below w.heap.size w w3 ∧ Bys w3 (.slice a2 (bif omB ⟨ok, oid, ⟨ec, et, ex, em, ek, ee⟩, ot, om, ow, oc, ov, ds⟩ then obL ⟨ok, oid, ⟨ec, et, ex, em, ek, ee⟩, ot, om, ow, oc, ov, ds⟩ else []).length c2) (bif omB ⟨ok, oid, ⟨ec, et, ex, em, ek, ee⟩, ot, om, ow, oc, ov, ds⟩ then obL ⟨ok, oid, ⟨ec, et, ex, em, ek, ee⟩, ot, om, ow, oc, ov, ds⟩ else [])) := ⟨HD.out.1.later hb3, HD.out.2.1.trans (hb3.mono HD.out.2.1.size), HD.out.2.2.later hb3⟩
  clear hb3 HD
  cases hm : omB ⟨ok, oid, ⟨ec, et, ex, em, ek, ee⟩, ot, om, ow, oc, ov, ds⟩ with
  | false =>
    have HB : Hid (Below w.heap.size w w3) := HE.out.2.1
    clear hm HE
    show _
    go_wp2_with fail
    refine (wget16_any xs _ _ (HV.out _ HB.out)).mono ?_
    rintro e w7 ⟨gk, gid, ga, gb, gx, gm, gc, ge, gt, gn, gw, gq, gv, gdv, gds, gy, rfl, hd7, hg7, hb7⟩
    obtain ⟨azg, zzg, czg, rfl⟩ : ∃ a z c, gdv = .slice a z c := by obtain ⟨a, c, e, _⟩ := hd7; exact ⟨a, _, c, e⟩
    have hb7' := (HB.out).trans (hb7.mono (HB.out).size)
    have H7 : Hid (Below w.heap.size w (w7.alloc (.cells #[.int .i64 gk, .int .i64 gid, .int .i64 ga, .int .i64 gb, .int .i64 gx, .int .i64 gm, .int .i64 gc, .int .i64 ge, .int .i64 gt, .int .i64 gn, .int .i64 gw, .int .i64 gq, .int .i64 gv, .slice azg zzg czg] 26)) ∧ Nums (w7.alloc (.cells #[.int .i64 gk, .int .i64 gid, .int .i64 ga, .int .i64 gb, .int .i64 gx, .int .i64 gm, .int .i64 gc, .int .i64 ge, .int .i64 gt, .int .i64 gn, .int .i64 gw, .int .i64 gq, .int .i64 gv, .slice azg zzg czg] 26)) (.slice azg zzg czg) gds ∧ IsGet xs ⟨gk, gid, ⟨ga, gb, gx, gm, gc, ge⟩, gt, gn, gw, gq, gv, gds⟩ gy ∧ Bk (w7.alloc (.cells #[.int .i64 gk, .int .i64 gid, .int .i64 ga, .int .i64 gb, .int .i64 gx, .int .i64 gm, .int .i64 gc, .int .i64 ge, .int .i64 gt, .int .i64 gn, .int .i64 gw, .int .i64 gq, .int .i64 gv, .slice azg zzg czg] 26)) w7.heap.size [.int .i64 gk, .int .i64 gid, .int .i64 ga, .int .i64 gb, .int .i64 gx, .int .i64 gm, .int .i64 gc, .int .i64 ge, .int .i64 gt, .int .i64 gn, .int .i64 gw, .int .i64 gq, .int .i64 gv, .slice azg zzg czg]) := ⟨hb7'.alloc hb7'.size _, hd7.later (below_b1 _ _), hg7, Bk.new _ _ _⟩
    clear hd7 hg7 hb7 hb7'
    go_wp2_with (refine load_bk rfl 26 _ rfl w7.heap.size 0 [.int .i64 gk, .int .i64 gid, .int .i64 ga, .int .i64 gb, .int .i64 gx, .int .i64 gm, .int .i64 gc, .int .i64 ge, .int .i64 gt, .int .i64 gn, .int .i64 gw, .int .i64 gq, .int .i64 gv, .slice azg zzg czg] [.int .i64 gk, .int .i64 gid, .int .i64 ga, .int .i64 gb, .int .i64 gx, .int .i64 gm, .int .i64 gc, .int .i64 ge, .int .i64 gt, .int .i64 gn, .int .i64 gw, .int .i64 gq, .int .i64 gv, .slice azg zzg czg] rfl H7.out.2.2.2 rfl _ Try.underlying26 rfl (by kernel_rfl) ?_)
    refine (wput16_any gk gid ga gb gx gm gc ge gt gn gw gq gv (.slice azg zzg czg) gds _ H7.out.2.1).mono ?_
    rintro e w8 ⟨v8, rfl, ho8, hb8⟩
    have H8 : Hid (Below w.heap.size w w8 ∧ Bys w8 v8 (bif omB ⟨gk, gid, ⟨ga, gb, gx, gm, gc, ge⟩, gt, gn, gw, gq, gv, gds⟩ then obL ⟨gk, gid, ⟨ga, gb, gx, gm, gc, ge⟩, gt, gn, gw, gq, gv, gds⟩ else [])) := ⟨H7.out.1.trans (hb8.mono H7.out.1.size), put_bys ho8⟩
    clear ho8 hb8
    rcases H7.out.2.2.1 with ⟨rfl, hm8, hx8⟩ | ⟨rfl, _, _⟩
    · have hao : (bif omB ⟨gk, gid, ⟨ga, gb, gx, gm, gc, ge⟩, gt, gn, gw, gq, gv, gds⟩ then obL ⟨gk, gid, ⟨ga, gb, gx, gm, gc, ge⟩, gt, gn, gw, gq, gv, gds⟩ else []) = xs := by rw [hm8]; exact hx8
      rw [hao] at H8
      rw [hm8]
      clear hao hm8 hx8 H7
      go_wp2_with fail
      refine (bytes_any xs xs _ _ _ H8.out.2 (HV.out _ H8.out.1) (by have := HL.out.1; omega)).mono ?_
      rintro r w9 ⟨rfl, hb9⟩
      have hs : sameB xs xs = true := by simp [sameB]
      rw [hs]
      have HZ := H8.out.1.trans (hb9.mono H8.out.1.size)
      clear hb9 H8 hs
      go_wp2_with fail
      go_ret
      exact ⟨rfl, HZ⟩
    · clear H7
      go_wp2_with fail
      go_ret
      exact ⟨rfl, H8.out.1⟩
  | true =>
    rw [hm] at HE
    have hX : (bif true then obL ⟨ok, oid, ⟨ec, et, ex, em, ek, ee⟩, ot, om, ow, oc, ov, ds⟩ else []) = obL ⟨ok, oid, ⟨ec, et, ex, em, ek, ee⟩, ot, om, ow, oc, ov, ds⟩ := rfl
    rw [hX] at HE ⊢
    have HM : Hid (omB ⟨ok, oid, ⟨ec, et, ex, em, ek, ee⟩, ot, om, ow, oc, ov, ds⟩ = true ∧ IsGet (obL ⟨ok, oid, ⟨ec, et, ex, em, ek, ee⟩, ot, om, ow, oc, ov, ds⟩) ⟨ok, oid, ⟨ec, et, ex, em, ek, ee⟩, ot, om, ow, oc, ov, ds⟩ true ∧ ds.length ≤ 1000) := ⟨hm, isGet_put hm, by have := HL.out.2; omega⟩
    have hh := ob_head hm
    clear hm hX
    have HX : Hid (0 < (obL ⟨ok, oid, ⟨ec, et, ex, em, ek, ee⟩, ot, om, ow, oc, ov, ds⟩).length ∧ ∀ n, n < (obL ⟨ok, oid, ⟨ec, et, ex, em, ek, ee⟩, ot, om, ow, oc, ov, ds⟩).length → ∀ p, omB p = true → obL p ≠ (obL ⟨ok, oid, ⟨ec, et, ex, em, ek, ee⟩, ot, om, ow, oc, ov, ds⟩).take n) := ⟨hh.2, fun n hn p hp => ob_short HM.out.1 hp hn⟩
    clear hh
    generalize obL ⟨ok, oid, ⟨ec, et, ex, em, ek, ee⟩, ot, om, ow, oc, ov, ds⟩ = X at *
    obtain ⟨m, hmm⟩ : ∃ m, X.length = m := ⟨_, rfl⟩
    rw [hmm] at HE HX ⊢
    have HXM : Hid (X.length = m) := hmm
    clear hmm
    go_wp2_with fail
    refine (wget16_any X _ _ HE.out.2.2).mono ?_
    rintro e w4 ⟨fk, fid, fa, fb, fx, fm, fc, fe, ft, fn, fw, fq, fv, fdv, fds, fy, rfl, hd4, hg4, hb4⟩
    obtain ⟨azf, zzf, czf, rfl⟩ : ∃ a z c, fdv = .slice a z c := by obtain ⟨a, c, e, _⟩ := hd4; exact ⟨a, _, c, e⟩
    obtain ⟨he, rfl⟩ := hg4.unique HM.out.2.1
    simp only [Ow.mk.injEq, Sp.mk.injEq] at he
    obtain ⟨rfl, rfl, ⟨rfl, rfl, rfl, rfl, rfl, rfl⟩, rfl, rfl, rfl, rfl, rfl, rfl⟩ := he
    have hb4' := HE.out.2.1.trans (hb4.mono HE.out.2.1.size)
    have HF : Hid (Below w.heap.size w (w4.alloc (.cells #[.int .i64 fk, .int .i64 fid, .int .i64 fa, .int .i64 fb, .int .i64 fx, .int .i64 fm, .int .i64 fc, .int .i64 fe, .int .i64 ft, .int .i64 fn, .int .i64 fw, .int .i64 fq, .int .i64 fv, .slice azf zzf czf] 26)) ∧ Nums (w4.alloc (.cells #[.int .i64 fk, .int .i64 fid, .int .i64 fa, .int .i64 fb, .int .i64 fx, .int .i64 fm, .int .i64 fc, .int .i64 fe, .int .i64 ft, .int .i64 fn, .int .i64 fw, .int .i64 fq, .int .i64 fv, .slice azf zzf czf] 26)) (.slice azf zzf czf) fds ∧ Bk (w4.alloc (.cells #[.int .i64 fk, .int .i64 fid, .int .i64 fa, .int .i64 fb, .int .i64 fx, .int .i64 fm, .int .i64 fc, .int .i64 fe, .int .i64 ft, .int .i64 fn, .int .i64 fw, .int .i64 fq, .int .i64 fv, .slice azf zzf czf] 26)) w4.heap.size [.int .i64 fk, .int .i64 fid, .int .i64 fa, .int .i64 fb, .int .i64 fx, .int .i64 fm, .int .i64 fc, .int .i64 fe, .int .i64 ft, .int .i64 fn, .int .i64 fw, .int .i64 fq, .int .i64 fv, .slice azf zzf czf] ∧ Bk (w4.alloc (.cells #[.int .i64 fk, .int .i64 fid, .int .i64 fa, .int .i64 fb, .int .i64 fx, .int .i64 fm, .int .i64 fc, .int .i64 fe, .int .i64 ft, .int .i64 fn, .int .i64 fw, .int .i64 fq, .int .i64 fv, .slice azf zzf czf] 26)) w.heap.size [.int .i64 fk, .int .i64 fid, .int .i64 fa, .int .i64 fb, .int .i64 fx, .int .i64 fm, .int .i64 fc, .int .i64 fe, .int .i64 ft, .int .i64 fn, .int .i64 fw, .int .i64 fq, .int .i64 fv, .slice a fds.length cap] ∧ Bys (w4.alloc (.cells #[.int .i64 fk, .int .i64 fid, .int .i64 fa, .int .i64 fb, .int .i64 fx, .int .i64 fm, .int .i64 fc, .int .i64 fe, .int .i64 ft, .int .i64 fn, .int .i64 fw, .int .i64 fq, .int .i64 fv, .slice azf zzf czf] 26)) (.slice a2 m c2) X) := ⟨hb4'.alloc hb4'.size _, hd4.later (below_b1 _ _), Bk.new _ _ _, (HE.out.1.later hb4).later (below_b1 _ _), (HE.out.2.2.later hb4).later (below_b1 _ _)⟩
    clear hd4 hg4 hb4 hb4' HE
    go_wp2_with (first
      | (refine load_bkG rfl 26 _ rfl w4.heap.size 0 [.int .i64 fk, .int .i64 fid, .int .i64 fa, .int .i64 fb, .int .i64 fx, .int .i64 fm, .int .i64 fc, .int .i64 fe, .int .i64 ft, .int .i64 fn, .int .i64 fw, .int .i64 fq, .int .i64 fv, .slice azf zzf czf] [.int .i64 fk, .int .i64 fid, .int .i64 fa, .int .i64 fb, .int .i64 fx, .int .i64 fm, .int .i64 fc, .int .i64 fe, .int .i64 ft, .int .i64 fn, .int .i64 fw, .int .i64 fq, .int .i64 fv, .slice azf zzf czf] rfl HF.out.2.2.1 rfl _ Try.underlying26 rfl (by kernel_rfl) ?_)
      | (refine load_bkG rfl 26 _ rfl w.heap.size 0 [.int .i64 fk, .int .i64 fid, .int .i64 fa, .int .i64 fb, .int .i64 fx, .int .i64 fm, .int .i64 fc, .int .i64 fe, .int .i64 ft, .int .i64 fn, .int .i64 fw, .int .i64 fq, .int .i64 fv, .slice a fds.length cap] [.int .i64 fk, .int .i64 fid, .int .i64 fa, .int .i64 fb, .int .i64 fx, .int .i64 fm, .int .i64 fc, .int .i64 fe, .int .i64 ft, .int .i64 fn, .int .i64 fw, .int .i64 fq, .int .i64 fv, .slice a fds.length cap] rfl HF.out.2.2.2.1 rfl _ Try.underlying26 rfl (by kernel_rfl) ?_))
    refine (osame_any fk fid fa fb fx fm fc fe ft fn fw fq fv (.slice azf zzf czf) fk fid fa fb fx fm fc fe ft fn fw fq fv (.slice a fds.length cap) fds fds _ HF.out.2.1 (HN.out _ HF.out.1) HM.out.2.2 HM.out.2.2).mono ?_
    rintro e w5 ⟨rfl, hb5⟩
    have hsm : smO ⟨fk, fid, ⟨fa, fb, fx, fm, fc, fe⟩, ft, fn, fw, fq, fv, fds⟩ ⟨fk, fid, ⟨fa, fb, fx, fm, fc, fe⟩, ft, fn, fw, fq, fv, fds⟩ = true := (smO_iff _ _).2 rfl
    rw [hsm]
    have HG : Hid (Below w.heap.size w w5 ∧ Bys w5 (.slice a2 m c2) X) := ⟨HF.out.1.trans (hb5.mono HF.out.1.size), HF.out.2.2.2.2.later hb5⟩
    clear hsm hb5 HF
    by_cases c0 : 0 ≤ lf
    rotate_left
    · have HB : Hid (Below w.heap.size w w5) := HG.out.1
      clear HG
      go_wp2_with fail
      refine (wget16_any xs _ _ (HV.out _ HB.out)).mono ?_
      rintro e w7 ⟨gk, gid, ga, gb, gx, gm, gc, ge, gt, gn, gw, gq, gv, gdv, gds, gy, rfl, hd7, hg7, hb7⟩
      obtain ⟨azg, zzg, czg, rfl⟩ : ∃ a z c, gdv = .slice a z c := by obtain ⟨a, c, e, _⟩ := hd7; exact ⟨a, _, c, e⟩
      have hb7' := (HB.out).trans (hb7.mono (HB.out).size)
      have H7 : Hid (Below w.heap.size w (w7.alloc (.cells #[.int .i64 gk, .int .i64 gid, .int .i64 ga, .int .i64 gb, .int .i64 gx, .int .i64 gm, .int .i64 gc, .int .i64 ge, .int .i64 gt, .int .i64 gn, .int .i64 gw, .int .i64 gq, .int .i64 gv, .slice azg zzg czg] 26)) ∧ Nums (w7.alloc (.cells #[.int .i64 gk, .int .i64 gid, .int .i64 ga, .int .i64 gb, .int .i64 gx, .int .i64 gm, .int .i64 gc, .int .i64 ge, .int .i64 gt, .int .i64 gn, .int .i64 gw, .int .i64 gq, .int .i64 gv, .slice azg zzg czg] 26)) (.slice azg zzg czg) gds ∧ IsGet xs ⟨gk, gid, ⟨ga, gb, gx, gm, gc, ge⟩, gt, gn, gw, gq, gv, gds⟩ gy ∧ Bk (w7.alloc (.cells #[.int .i64 gk, .int .i64 gid, .int .i64 ga, .int .i64 gb, .int .i64 gx, .int .i64 gm, .int .i64 gc, .int .i64 ge, .int .i64 gt, .int .i64 gn, .int .i64 gw, .int .i64 gq, .int .i64 gv, .slice azg zzg czg] 26)) w7.heap.size [.int .i64 gk, .int .i64 gid, .int .i64 ga, .int .i64 gb, .int .i64 gx, .int .i64 gm, .int .i64 gc, .int .i64 ge, .int .i64 gt, .int .i64 gn, .int .i64 gw, .int .i64 gq, .int .i64 gv, .slice azg zzg czg]) := ⟨hb7'.alloc hb7'.size _, hd7.later (below_b1 _ _), hg7, Bk.new _ _ _⟩
      clear hd7 hg7 hb7 hb7'
      go_wp2_with (refine load_bk rfl 26 _ rfl w7.heap.size 0 [.int .i64 gk, .int .i64 gid, .int .i64 ga, .int .i64 gb, .int .i64 gx, .int .i64 gm, .int .i64 gc, .int .i64 ge, .int .i64 gt, .int .i64 gn, .int .i64 gw, .int .i64 gq, .int .i64 gv, .slice azg zzg czg] [.int .i64 gk, .int .i64 gid, .int .i64 ga, .int .i64 gb, .int .i64 gx, .int .i64 gm, .int .i64 gc, .int .i64 ge, .int .i64 gt, .int .i64 gn, .int .i64 gw, .int .i64 gq, .int .i64 gv, .slice azg zzg czg] rfl H7.out.2.2.2 rfl _ Try.underlying26 rfl (by kernel_rfl) ?_)
      refine (wput16_any gk gid ga gb gx gm gc ge gt gn gw gq gv (.slice azg zzg czg) gds _ H7.out.2.1).mono ?_
      rintro e w8 ⟨v8, rfl, ho8, hb8⟩
      have H8 : Hid (Below w.heap.size w w8 ∧ Bys w8 v8 (bif omB ⟨gk, gid, ⟨ga, gb, gx, gm, gc, ge⟩, gt, gn, gw, gq, gv, gds⟩ then obL ⟨gk, gid, ⟨ga, gb, gx, gm, gc, ge⟩, gt, gn, gw, gq, gv, gds⟩ else [])) := ⟨H7.out.1.trans (hb8.mono H7.out.1.size), put_bys ho8⟩
      clear ho8 hb8
      rcases H7.out.2.2.1 with ⟨rfl, hm8, hx8⟩ | ⟨rfl, _, _⟩
      · have hao : (bif omB ⟨gk, gid, ⟨ga, gb, gx, gm, gc, ge⟩, gt, gn, gw, gq, gv, gds⟩ then obL ⟨gk, gid, ⟨ga, gb, gx, gm, gc, ge⟩, gt, gn, gw, gq, gv, gds⟩ else []) = xs := by rw [hm8]; exact hx8
        rw [hao] at H8
        rw [hm8]
        clear hao hm8 hx8 H7
        go_wp2_with fail
        refine (bytes_any xs xs _ _ _ H8.out.2 (HV.out _ H8.out.1) (by have := HL.out.1; omega)).mono ?_
        rintro r w9 ⟨rfl, hb9⟩
        have hs : sameB xs xs = true := by simp [sameB]
        rw [hs]
        have HZ := H8.out.1.trans (hb9.mono H8.out.1.size)
        clear hb9 H8 hs
        go_wp2_with fail
        go_ret
        exact ⟨rfl, HZ⟩
      · clear H7
        go_wp2_with fail
        go_ret
        exact ⟨rfl, H8.out.1⟩
    obtain ⟨n, rfl⟩ : ∃ n : Nat, lf = n := ⟨lf.toNat, by omega⟩
    by_cases c1 : (n : Int) < m
    rotate_left
    · have HB : Hid (Below w.heap.size w w5) := HG.out.1
      clear HG
      go_wp2_with fail
      refine (wget16_any xs _ _ (HV.out _ HB.out)).mono ?_
      rintro e w7 ⟨gk, gid, ga, gb, gx, gm, gc, ge, gt, gn, gw, gq, gv, gdv, gds, gy, rfl, hd7, hg7, hb7⟩
      obtain ⟨azg, zzg, czg, rfl⟩ : ∃ a z c, gdv = .slice a z c := by obtain ⟨a, c, e, _⟩ := hd7; exact ⟨a, _, c, e⟩
      have hb7' := (HB.out).trans (hb7.mono (HB.out).size)
      have H7 : Hid (Below w.heap.size w (w7.alloc (.cells #[.int .i64 gk, .int .i64 gid, .int .i64 ga, .int .i64 gb, .int .i64 gx, .int .i64 gm, .int .i64 gc, .int .i64 ge, .int .i64 gt, .int .i64 gn, .int .i64 gw, .int .i64 gq, .int .i64 gv, .slice azg zzg czg] 26)) ∧ Nums (w7.alloc (.cells #[.int .i64 gk, .int .i64 gid, .int .i64 ga, .int .i64 gb, .int .i64 gx, .int .i64 gm, .int .i64 gc, .int .i64 ge, .int .i64 gt, .int .i64 gn, .int .i64 gw, .int .i64 gq, .int .i64 gv, .slice azg zzg czg] 26)) (.slice azg zzg czg) gds ∧ IsGet xs ⟨gk, gid, ⟨ga, gb, gx, gm, gc, ge⟩, gt, gn, gw, gq, gv, gds⟩ gy ∧ Bk (w7.alloc (.cells #[.int .i64 gk, .int .i64 gid, .int .i64 ga, .int .i64 gb, .int .i64 gx, .int .i64 gm, .int .i64 gc, .int .i64 ge, .int .i64 gt, .int .i64 gn, .int .i64 gw, .int .i64 gq, .int .i64 gv, .slice azg zzg czg] 26)) w7.heap.size [.int .i64 gk, .int .i64 gid, .int .i64 ga, .int .i64 gb, .int .i64 gx, .int .i64 gm, .int .i64 gc, .int .i64 ge, .int .i64 gt, .int .i64 gn, .int .i64 gw, .int .i64 gq, .int .i64 gv, .slice azg zzg czg]) := ⟨hb7'.alloc hb7'.size _, hd7.later (below_b1 _ _), hg7, Bk.new _ _ _⟩
      clear hd7 hg7 hb7 hb7'
      go_wp2_with (refine load_bk rfl 26 _ rfl w7.heap.size 0 [.int .i64 gk, .int .i64 gid, .int .i64 ga, .int .i64 gb, .int .i64 gx, .int .i64 gm, .int .i64 gc, .int .i64 ge, .int .i64 gt, .int .i64 gn, .int .i64 gw, .int .i64 gq, .int .i64 gv, .slice azg zzg czg] [.int .i64 gk, .int .i64 gid, .int .i64 ga, .int .i64 gb, .int .i64 gx, .int .i64 gm, .int .i64 gc, .int .i64 ge, .int .i64 gt, .int .i64 gn, .int .i64 gw, .int .i64 gq, .int .i64 gv, .slice azg zzg czg] rfl H7.out.2.2.2 rfl _ Try.underlying26 rfl (by kernel_rfl) ?_)
      refine (wput16_any gk gid ga gb gx gm gc ge gt gn gw gq gv (.slice azg zzg czg) gds _ H7.out.2.1).mono ?_
      rintro e w8 ⟨v8, rfl, ho8, hb8⟩
      have H8 : Hid (Below w.heap.size w w8 ∧ Bys w8 v8 (bif omB ⟨gk, gid, ⟨ga, gb, gx, gm, gc, ge⟩, gt, gn, gw, gq, gv, gds⟩ then obL ⟨gk, gid, ⟨ga, gb, gx, gm, gc, ge⟩, gt, gn, gw, gq, gv, gds⟩ else [])) := ⟨H7.out.1.trans (hb8.mono H7.out.1.size), put_bys ho8⟩
      clear ho8 hb8
      rcases H7.out.2.2.1 with ⟨rfl, hm8, hx8⟩ | ⟨rfl, _, _⟩
      · have hao : (bif omB ⟨gk, gid, ⟨ga, gb, gx, gm, gc, ge⟩, gt, gn, gw, gq, gv, gds⟩ then obL ⟨gk, gid, ⟨ga, gb, gx, gm, gc, ge⟩, gt, gn, gw, gq, gv, gds⟩ else []) = xs := by rw [hm8]; exact hx8
        rw [hao] at H8
        rw [hm8]
        clear hao hm8 hx8 H7
        go_wp2_with fail
        refine (bytes_any xs xs _ _ _ H8.out.2 (HV.out _ H8.out.1) (by have := HL.out.1; omega)).mono ?_
        rintro r w9 ⟨rfl, hb9⟩
        have hs : sameB xs xs = true := by simp [sameB]
        rw [hs]
        have HZ := H8.out.1.trans (hb9.mono H8.out.1.size)
        clear hb9 H8 hs
        go_wp2_with fail
        go_ret
        exact ⟨rfl, HZ⟩
      · clear H7
        go_wp2_with fail
        go_ret
        exact ⟨rfl, H8.out.1⟩
    have HG2 := HG.out.2
    obtain ⟨at2, ct2, e2, g1, g2, g3, g4, g5⟩ := HG2
    have HXL := HXM.out
    cases e2
    obtain ⟨bb, oo, rfl, _⟩ := g5 (by intro e; have h0 := HX.out.1; rw [e] at h0; simp at h0)
    have n1 : (n : Int) ≤ c2 := by omega
    have n2 : n ≤ c2 := by omega
    have n3 : n < X.length := by omega
    have HS : Hid (Bys w5 (.slice (some ⟨bb, oo, none⟩) n c2) (X.take n) ∧ ∀ p, omB p = true → obL p ≠ X.take n) := by
      have hf := HG.out.2.fore (S := n) (Nat.le_of_lt n3)
      rw [List.length_take, Nat.min_eq_left (Nat.le_of_lt n3)] at hf
      exact ⟨hf, HX.out.2 n (by omega)⟩
    clear g1 g2 g3 g4 g5 HXL
    go_wp2_with fail
    refine (wget16_any (X.take n) _ _ HS.out.1).mono ?_
    rintro e w6 ⟨hk, hid, ha, hb, hx, hm, hc, he, ht, hn, hw, hq, hv, hdv, hds, hy, rfl, hd6, hg6, hb6⟩
    obtain ⟨azh, zzh, czh, rfl⟩ : ∃ a z c, hdv = .slice a z c := by obtain ⟨a, c, e, _⟩ := hd6; exact ⟨a, _, c, e⟩
    obtain rfl : hy = false := by
      rcases hg6 with ⟨_, h1, h2⟩ | ⟨h1, _⟩
      · exact absurd h2 (HS.out.2 _ h1)
      · exact h1
    have hb6' := HG.out.1.trans (hb6.mono HG.out.1.size)
    have HB : Hid (Below w.heap.size w (w6.alloc (.cells #[.int .i64 hk, .int .i64 hid, .int .i64 ha, .int .i64 hb, .int .i64 hx, .int .i64 hm, .int .i64 hc, .int .i64 he, .int .i64 ht, .int .i64 hn, .int .i64 hw, .int .i64 hq, .int .i64 hv, .slice azh zzh czh] 26))) := hb6'.alloc hb6'.size _
    clear hd6 hg6 hb6 hb6' HS HG
    go_wp2_with fail
    refine (wget16_any xs _ _ (HV.out _ HB.out)).mono ?_
    rintro e w7 ⟨gk, gid, ga, gb, gx, gm, gc, ge, gt, gn, gw, gq, gv, gdv, gds, gy, rfl, hd7, hg7, hb7⟩
    obtain ⟨azg, zzg, czg, rfl⟩ : ∃ a z c, gdv = .slice a z c := by obtain ⟨a, c, e, _⟩ := hd7; exact ⟨a, _, c, e⟩
    have hb7' := (HB.out).trans (hb7.mono (HB.out).size)
    have H7 : Hid (Below w.heap.size w (w7.alloc (.cells #[.int .i64 gk, .int .i64 gid, .int .i64 ga, .int .i64 gb, .int .i64 gx, .int .i64 gm, .int .i64 gc, .int .i64 ge, .int .i64 gt, .int .i64 gn, .int .i64 gw, .int .i64 gq, .int .i64 gv, .slice azg zzg czg] 26)) ∧ Nums (w7.alloc (.cells #[.int .i64 gk, .int .i64 gid, .int .i64 ga, .int .i64 gb, .int .i64 gx, .int .i64 gm, .int .i64 gc, .int .i64 ge, .int .i64 gt, .int .i64 gn, .int .i64 gw, .int .i64 gq, .int .i64 gv, .slice azg zzg czg] 26)) (.slice azg zzg czg) gds ∧ IsGet xs ⟨gk, gid, ⟨ga, gb, gx, gm, gc, ge⟩, gt, gn, gw, gq, gv, gds⟩ gy ∧ Bk (w7.alloc (.cells #[.int .i64 gk, .int .i64 gid, .int .i64 ga, .int .i64 gb, .int .i64 gx, .int .i64 gm, .int .i64 gc, .int .i64 ge, .int .i64 gt, .int .i64 gn, .int .i64 gw, .int .i64 gq, .int .i64 gv, .slice azg zzg czg] 26)) w7.heap.size [.int .i64 gk, .int .i64 gid, .int .i64 ga, .int .i64 gb, .int .i64 gx, .int .i64 gm, .int .i64 gc, .int .i64 ge, .int .i64 gt, .int .i64 gn, .int .i64 gw, .int .i64 gq, .int .i64 gv, .slice azg zzg czg]) := ⟨hb7'.alloc hb7'.size _, hd7.later (below_b1 _ _), hg7, Bk.new _ _ _⟩
    clear hd7 hg7 hb7 hb7'
    go_wp2_with (refine load_bk rfl 26 _ rfl w7.heap.size 0 [.int .i64 gk, .int .i64 gid, .int .i64 ga, .int .i64 gb, .int .i64 gx, .int .i64 gm, .int .i64 gc, .int .i64 ge, .int .i64 gt, .int .i64 gn, .int .i64 gw, .int .i64 gq, .int .i64 gv, .slice azg zzg czg] [.int .i64 gk, .int .i64 gid, .int .i64 ga, .int .i64 gb, .int .i64 gx, .int .i64 gm, .int .i64 gc, .int .i64 ge, .int .i64 gt, .int .i64 gn, .int .i64 gw, .int .i64 gq, .int .i64 gv, .slice azg zzg czg] rfl H7.out.2.2.2 rfl _ Try.underlying26 rfl (by kernel_rfl) ?_)
    refine (wput16_any gk gid ga gb gx gm gc ge gt gn gw gq gv (.slice azg zzg czg) gds _ H7.out.2.1).mono ?_
    rintro e w8 ⟨v8, rfl, ho8, hb8⟩
    have H8 : Hid (Below w.heap.size w w8 ∧ Bys w8 v8 (bif omB ⟨gk, gid, ⟨ga, gb, gx, gm, gc, ge⟩, gt, gn, gw, gq, gv, gds⟩ then obL ⟨gk, gid, ⟨ga, gb, gx, gm, gc, ge⟩, gt, gn, gw, gq, gv, gds⟩ else [])) := ⟨H7.out.1.trans (hb8.mono H7.out.1.size), put_bys ho8⟩
    clear ho8 hb8
    rcases H7.out.2.2.1 with ⟨rfl, hm8, hx8⟩ | ⟨rfl, _, _⟩
    · have hao : (bif omB ⟨gk, gid, ⟨ga, gb, gx, gm, gc, ge⟩, gt, gn, gw, gq, gv, gds⟩ then obL ⟨gk, gid, ⟨ga, gb, gx, gm, gc, ge⟩, gt, gn, gw, gq, gv, gds⟩ else []) = xs := by rw [hm8]; exact hx8
      rw [hao] at H8
      rw [hm8]
      clear hao hm8 hx8 H7
      go_wp2_with fail
      refine (bytes_any xs xs _ _ _ H8.out.2 (HV.out _ H8.out.1) (by have := HL.out.1; omega)).mono ?_
      rintro r w9 ⟨rfl, hb9⟩
      have hs : sameB xs xs = true := by simp [sameB]
      rw [hs]
      have HZ := H8.out.1.trans (hb9.mono H8.out.1.size)
      clear hb9 H8 hs
      go_wp2_with fail
      go_ret
      exact ⟨rfl, HZ⟩
    · clear H7
      go_wp2_with fail
      go_ret
      exact ⟨rfl, H8.out.1⟩
end Go.Proofs.Yteklcolphbcjlaa
/- What the arguments of a statement are, as the walks are told of them. -/
namespace Go.Proofs.Yteklcolphbcjlaa
open Go.ChangeShapes Go.WideShapes Go.RowKit Go.Deep Go.Joins

theorem see_int {H : Type} {enc : TypeId × Value → H} {P : Program} {w : World} {base b0 : Nat} {spare : Nat → Bool} {held : Bool} {r : Reach} {t : TypeId} {k : IntKind} {v : Value} {d : DataW H} {p : List MemPlace}
    (ht : P.underlying t = some (.int k)) (hv : Value.okWide P w r b0 t v) (h : DataW.Trod enc P w base spare held t v d p) : ∃ a, v = .int k a ∧ (Lit.int k a).wf = true := by
  obtain ⟨a, h1, _, _, h2⟩ := open_int ht hv h
  exact ⟨a, h1, h2⟩
/-- A struct of two integers. -/
theorem see_ints2 {H : Type} {enc : TypeId × Value → H} {P : Program} {w : World} {base b0 : Nat} {spare : Nat → Bool} {held : Bool} {r : Reach} {t : TypeId} {f0 f1 : Field} {k0 k1 : IntKind} {v : Value} {d : DataW H} {p : List MemPlace}
    (hs : P.underlying t = some (.struct #[f0, f1])) (hone : oneCellFields P #[f0, f1] = true) (hC : P.cellsOf t = 2) (h0 : P.underlying f0.type = some (.int k0)) (h1 : P.underlying f1.type = some (.int k1))
    (hv : Value.okWide P w r b0 t v) (h : DataW.Trod enc P w base spare held t v d p) :
    ∃ a b, v = .agg #[.int k0 a, .int k1 b] ∧ (Lit.int k0 a).wf = true ∧ (Lit.int k1 b).wf = true := by
  obtain ⟨c0, c1, y0, y1, m, rfl, _, _, hy0, hy1⟩ := open_agg2 hs hone hC hv h
  obtain ⟨a, e0, _, wa⟩ := DataW.trod_int h0 hy0
  obtain ⟨b, e1, _, wb⟩ := DataW.trod_int h1 hy1
  simp at e0 e1
  subst e0 e1
  exact ⟨a, b, rfl, wa, wb⟩
end Go.Proofs.Yteklcolphbcjlaa
