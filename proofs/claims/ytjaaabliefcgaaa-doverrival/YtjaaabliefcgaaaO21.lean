/- What the statement DoverRival comes to. -/
import Derived.Test.YtjaaabliefcgaaaO20
namespace Go.Proofs.Ytjaaabliefcgaaa
open Go.RowKit Go.Maps Go.Shelf

theorem OwnR.at5 {w : World} {base b n cap : Nat} {f : Nat → Ap} (h : OwnR recA w base 30 (.slice (some ⟨b, 0, none⟩) n cap) n f) {i : Nat} (hi : i < n) : w.cell? ⟨b, i * 5, none⟩ = some (.int .i64 (f i).id) ∧ w.cell? ⟨b, i * 5 + 1, none⟩ = some (.int .i64 (f i).due) ∧ w.cell? ⟨b, i * 5 + 2, none⟩ = some (.int .i64 (f i).c) ∧ w.cell? ⟨b, i * 5 + 3, none⟩ = some (.int .i64 (f i).v) ∧ w.cell? ⟨b, i * 5 + 4, none⟩ = some (.int .i64 (f i).r) ∧ w.frozen? ⟨b, i * 5 + 4, none⟩ = false :=
  ⟨(h.cell hi (j := 0) (by decide)).1, (h.cell hi (j := 1) (by decide)).1, (h.cell hi (j := 2) (by decide)).1, (h.cell hi (j := 3) (by decide)).1, (h.cell hi (j := 4) (by decide)).1, (h.cell hi (j := 4) (by decide)).2⟩
theorem OwnR.set4 {w : World} {base b n cap : Nat} {f : Nat → Ap} (h : OwnR recA w base 30 (.slice (some ⟨b, 0, none⟩) n cap) n f) {i : Nat} (hi : i < n) {a : Ap} (ha : f i = a) (r : Int) : OwnR recA (w.setCell ⟨b, i * 5 + 4, none⟩ (.int .i64 r)) base 30 (.slice (some ⟨b, 0, none⟩) n cap) n (upR f i ⟨a.id, a.due, a.c, a.v, r⟩) :=
  OwnR.set (R := recA) h hi (j := 4) (by decide) (by rw [ha]; rfl)
theorem OwnR.keptB {w w' : World} {base n : Nat} {v : Value} {f : Nat → Ap} (h : OwnR recA w base 30 v n f) (hb : Below w.heap.size w w') : OwnR recA w' base 30 v n f := OwnR.later h hb

set_option maxHeartbeats 2000000 in
set_option maxRecDepth 100000 in
theorem law_drival (xs : List Ap) (v : Value) (now : Int) (who : List Int) (u : Value) (w : World) (h : Aps w v xs) (hw : ∀ a ∈ xs, wfK a.key) (hu : Nums w u who) :
    Calls Try.prog 6 #[v, .int .i64 now, u] w fun e w' => e = .returned (.bool true) ∧ Below w.heap.size w w' := by
  have HA : Hid (Aps w v xs) := h
  have HW : Hid (∀ a ∈ xs, wfK a.key) := hw
  have HU : Hid (Nums w u who) := hu
  obtain ⟨ua, uc, rfl, q1, q2, _⟩ := hu
  clear h hw
  go_enter Try.func6, Try.ntmps6
  go_wp2_with fail
  refine (awake13_any _).mono ?_
  rintro e w1 ⟨rfl, hb1⟩
  have HA1 : Hid (Aps w1 v xs) := HA.out.later hb1
  go_wp2_with fail
  refine (may13_any xs v now w1 HA1.out HW.out).mono ?_
  rintro e w2 ⟨rfl, hb2⟩
  have hB2 := hb1.trans (hb2.mono hb1.size)
  have HA2 : Hid (Aps w2 v xs) := HA1.out.later hb2
  obtain ⟨p, hp⟩ : ∃ p, mayL xs now = p := ⟨_, rfl⟩
  have HM : Hid (mayL xs now = p) := hp
  rw [hp]
  clear hp hb1 hb2 HA1
  cases p
  · go_wp2_with fail
    go_ret
    exact ⟨rfl, hB2⟩
  obtain ⟨n4, ⟨n0, n1⟩, nd, hall⟩ := mayL_iff.1 HM.out
  have HMX : Hid ((∀ a ∈ xs, mayA a = true) ∧ (idsA xs).Nodup ∧ nearL xs) := ⟨hall, nd, fun a ha => mayA_near (hall a ha)⟩
  clear nd hall
  by_cases hwl : (400 : Int) < who.length
  · go_wp2_with fail
    go_ret
    exact ⟨rfl, hB2⟩
  by_cases hn38 : 274877906944 < now
  · go_wp2_with fail
    go_ret
    exact ⟨rfl, hB2⟩
  have HU2 : Hid (Nums w2 (.slice ua who.length uc) who) := HU.out.later hB2
  go_wp2_with (first
    | (at_builtin; refine append_rws (R := recA) Try.underlying22 Try.infoApe rfl (by omega) rfl _ _ rfl w2.heap.size (.slice none 0 0) v 0 xs.length (fun _ => apZ) (atA xs) rfl (OwnR.nil _ _ _ _ _) rfl HA2.out (by omega) (Nat.le_refl _) ?_; intro lv w3 ho3 hb3))
  have hO3 := OwnR.same (f := fun _ => apZ) (by exact ho3)
  have hl3 := OwnR.open hO3
  obtain ⟨la, lcap, rfl, ll⟩ : ∃ la lcap, lv = .slice la xs.length lcap ∧ (0 < xs.length → ∃ g, la = some ⟨g, 0, none⟩) := by
    rcases hl3 with ⟨rfl, e⟩ | ⟨g, cap, rfl, _⟩
    · rw [e]; exact ⟨none, 0, rfl, fun h => by omega⟩
    · exact ⟨_, _, rfl, fun _ => ⟨g, rfl⟩⟩
  have H3 : Hid (OwnR recA w3 w2.heap.size 30 (.slice la xs.length lcap) xs.length (atA xs) ∧ xs.length = xs.length ∧ RvI xs xs now 0 ∧ Below w2.heap.size w2 w3) := ⟨hO3, rfl, RvI.start HMX.out.1, hb3⟩
  clear hO3 hl3 ho3 hb3
  go_wp2_with fail
  go_loopw [9] (fun i wr => ∃ (t : Nat) (ys : List Ap), t ≤ who.length ∧ i = .int .i64 t ∧ Hid (OwnR recA wr w2.heap.size 30 (.slice la xs.length lcap) xs.length (atA ys) ∧ ys.length = xs.length ∧ RvI xs ys now t ∧ Below w2.heap.size w2 wr)) (fun i _ => ((who.length : Int) - intOf i).toNat)
  case atStart => exact ⟨0, xs, by omega, rfl, ⟨H3.out.1, rfl, H3.out.2.2.1, H3.out.2.2.2⟩⟩
  case round =>
    clear H3
    obtain ⟨t, ys, ht, rfl, HH⟩ := hrel
    by_cases htl : (t : Int) < who.length
    · obtain ⟨id, hid⟩ : ∃ id, who.getD t 0 = id := ⟨_, rfl⟩
      obtain ⟨ub, uo, hub, _⟩ : ∃ b o, ua = some ⟨b, o, none⟩ ∧ True := by
        obtain ⟨_, _, e', _, _, h4⟩ := HU2.out
        obtain ⟨b, o, e2, _⟩ := h4 (by intro e; rw [e] at htl; simp at htl; omega)
        simp only [Value.slice.injEq] at e'
        exact ⟨b, o, by rw [e'.1, e2], trivial⟩
      subst hub
      have HUC : Hid (w2.cell? ⟨ub, uo + t, none⟩ = some (.int .i64 id)) := by
        obtain ⟨_, _, e', _, _, h4⟩ := HU2.out
        obtain ⟨b, o, e2, h5⟩ := h4 (by intro e; rw [e] at htl; simp at htl; omega)
        simp only [Value.slice.injEq] at e'
        rw [e2] at e'
        simp only [Option.some.injEq, Addr.mk.injEq, and_true] at e'
        obtain ⟨⟨rfl, rfl⟩, _⟩ := e'
        show w2.cell? _ = _
        rw [← hid]
        exact h5 t (by omega)
      clear hid
      have HRI : Hid (RvI xs ys now t ∧ ys.length = xs.length) := ⟨HH.out.2.2.1, HH.out.2.1⟩
      have H4 : Hid (OwnR recA wr w2.heap.size 30 (.slice la xs.length lcap) xs.length (mixF (rvF now t id) ys 0) ∧ Below w2.heap.size w2 wr) := ⟨OwnR.congr HH.out.1 (fun k _ => by unfold mixF; rw [if_neg (Nat.not_lt_zero k)]), HH.out.2.2.2⟩
      have hnt : IntKind.i64.wrap (now + (t : Int)) = now + t := wrap_near (by omega) (by omega)
      clear HH
      go_wp2_with fail
      go_loopw [10] (fun i wr => ∃ (k : Nat), k ≤ xs.length ∧ i = .int .i64 k ∧ Hid (OwnR recA wr w2.heap.size 30 (.slice la xs.length lcap) xs.length (mixF (rvF now t id) ys k) ∧ Below w2.heap.size w2 wr)) (fun i _ => ((xs.length : Int) - intOf i).toNat)
      case atStart => exact ⟨0, by omega, rfl, H4.out⟩
      case round =>
        clear H4
        obtain ⟨k, hk, rfl, HK⟩ := hrel
        by_cases hkl : (k : Int) < xs.length
        rotate_left
        · obtain rfl : k = xs.length := by omega
          have H5 : Hid (OwnR recA wr w2.heap.size 30 (.slice la xs.length lcap) xs.length (atA (ys.map (rvF now t id))) ∧ (ys.map (rvF now t id)).length = xs.length ∧ RvI xs (ys.map (rvF now t id)) now (t + 1) ∧ Below w2.heap.size w2 wr) := by
            have e1 := HRI.out.2
            refine ⟨OwnR.congr HK.out.1 (fun i hi => ?_), by rw [List.length_map]; exact e1, HRI.out.1.step HMX.out.2.1 id, HK.out.2⟩
            rw [← e1] at hi ⊢
            exact mix_end _ _ hi
          clear HK
          go_wp2_with fail
          go_roundw
          case rel => exact ⟨t + 1, _, by omega, by go_num, H5.out⟩
          case measure => simp [intOf]; omega
        obtain ⟨g, hg⟩ := ll (by omega)
        subst hg
        obtain ⟨c0, c1, c2, _, c4, f4⟩ := OwnR.at5 HK.out.1 (i := k) (by omega)
        have emx : mixF (rvF now t id) ys k k = atA ys k := by unfold mixF; rw [if_neg (Nat.lt_irrefl k)]
        rw [emx] at c0 c1 c2 c4
        have cw := cell_later HK.out.2 HUC.out
        have hok := HRI.out.1.ok _ (atA_mem (show k < ys.length by have := HRI.out.2; omega))
        have HUP : Hid (∀ i, upR (mixF (rvF now t id) ys k) k (rvF now t id (atA ys k)) i = mixF (rvF now t id) ys (k + 1) i) := mix_up _ _ _
        have HSM : Hid (rvF now t id (atA ys k) = atA ys k → ∀ i, mixF (rvF now t id) ys k i = mixF (rvF now t id) ys (k + 1) i) := fun e => mix_same e
        have HEM : Hid (mixF (rvF now t id) ys k k = atA ys k) := emx
        clear emx ll
        generalize atA ys k = a at *
        obtain ⟨ii, dd, cc, vv, rr⟩ := a
        simp only at c0 c1 c2 c4 hok
        by_cases e1 : ii = id
        rotate_left
        · have e1' : (ii == id) = false := by simpa using e1
          have H6 : Hid (OwnR recA wr w2.heap.size 30 (.slice (some ⟨g, 0, none⟩) xs.length lcap) xs.length (mixF (rvF now t id) ys (k + 1)) ∧ Below w2.heap.size w2 wr) := ⟨OwnR.congr HK.out.1 (fun i _ => HSM.out (rvF_other e1) i), HK.out.2⟩
          clear e1 HK HUP HSM HEM
          go_wp2_with fail
          go_quiet (fail)
          go_wp2_with fail
          go_roundw
          case rel => exact ⟨k + 1, by omega, by go_num, H6.out.1, ⟨H6.out.2.os, H6.out.2.tape, H6.out.2.output, H6.out.2.size, H6.out.2.block⟩⟩
          case measure => simp [intOf]; omega
        have e1' : (ii == id) = true := by simpa using e1
        by_cases e2 : rr < cc
        rotate_left
        · have e2' : decide (rr < cc) = false := decide_eq_false e2
          have H6 : Hid (OwnR recA wr w2.heap.size 30 (.slice (some ⟨g, 0, none⟩) xs.length lcap) xs.length (mixF (rvF now t id) ys (k + 1)) ∧ Below w2.heap.size w2 wr) := ⟨OwnR.congr HK.out.1 (fun i _ => HSM.out (by unfold rvF; rw [if_neg (fun q => e2 q.2.1)]) i), HK.out.2⟩
          clear e1 HK HUP HSM HEM
          go_wp2_with fail
          go_quiet (fail)
          go_wp2_with fail
          go_roundw
          case rel => exact ⟨k + 1, by omega, by go_num, H6.out.1, ⟨H6.out.2.os, H6.out.2.tape, H6.out.2.output, H6.out.2.size, H6.out.2.block⟩⟩
          case measure => simp [intOf]; omega
        have e2' : decide (rr < cc) = true := decide_eq_true e2
        by_cases e3 : now + (t : Int) < dd
        rotate_left
        · have e3' : decide (now + (t : Int) < dd) = false := decide_eq_false e3
          have H6 : Hid (OwnR recA wr w2.heap.size 30 (.slice (some ⟨g, 0, none⟩) xs.length lcap) xs.length (mixF (rvF now t id) ys (k + 1)) ∧ Below w2.heap.size w2 wr) := ⟨OwnR.congr HK.out.1 (fun i _ => HSM.out (by unfold rvF; rw [if_neg (fun q => e3 q.2.2)]) i), HK.out.2⟩
          clear e1 HK HUP HSM HEM
          go_wp2_with fail
          go_quiet (fail)
          go_wp2_with fail
          go_roundw
          case rel => exact ⟨k + 1, by omega, by go_num, H6.out.1, ⟨H6.out.2.os, H6.out.2.tape, H6.out.2.output, H6.out.2.size, H6.out.2.block⟩⟩
          case measure => simp [intOf]; omega
        have e3' : decide (now + (t : Int) < dd) = true := decide_eq_true e3
        have hwr : IntKind.i64.wrap (rr + 1) = rr + 1 := wrap_near (by omega) (by omega)
        have H6 : Hid (OwnR recA (wr.setCell ⟨g, k * 5 + 4, none⟩ (.int .i64 (rr + 1))) w2.heap.size 30 (.slice (some ⟨g, 0, none⟩) xs.length lcap) xs.length (mixF (rvF now t id) ys (k + 1)) ∧ Below w2.heap.size w2 (wr.setCell ⟨g, k * 5 + 4, none⟩ (.int .i64 (rr + 1)))) := by
          refine ⟨OwnR.congr (OwnR.set4 HK.out.1 (i := k) (by omega) HEM.out (rr + 1)) (fun i _ => ?_), HK.out.2.setCell (p := ⟨g, k * 5 + 4, none⟩) (by have := HK.out.1; unfold OwnR at this; exact (this.lt g rfl).1) _⟩
          have e : rvF now t id ⟨ii, dd, cc, vv, rr⟩ = ⟨ii, dd, cc, vv, rr + 1⟩ := by unfold rvF; rw [if_pos ⟨e1, e2, e3⟩]
          rw [← HUP.out i, e]
        clear e1 HK HUP HSM HEM
        go_wp2_with fail
        go_quiet (fail)
        go_wp2_with fail
        go_roundw
        case rel => exact ⟨k + 1, by omega, by go_num, H6.out.1, ⟨H6.out.2.os, H6.out.2.tape, H6.out.2.output, H6.out.2.size, H6.out.2.block⟩⟩
        case measure => simp [intOf]; omega
    · obtain rfl : t = who.length := by omega
      have HB3 : Hid (Below w.heap.size w wr) := hB2.trans (HH.out.2.2.2.mono hB2.size)
      have HA3 : Hid (Aps wr v xs) := HA2.out.later HH.out.2.2.2
      clear htl
      generalize hwo : wr = wo at *
      clear hwo
      go_wp2_with fail
      go_loopw [11] (fun i wz => ∃ (k : Nat), k ≤ xs.length ∧ i = .int .i64 k ∧ Hid (∀ j, j < k → (atA ys j).c ≤ (atA ys j).r) ∧ Below wo.heap.size wo wz) (fun i _ => ((xs.length : Int) - intOf i).toNat)
      case atStart => exact ⟨0, by omega, rfl, fun j hj => by omega, Below.refl _ _⟩
      case round =>
        obtain ⟨k, hk, rfl, HJ, hbw⟩ := hrel
        by_cases hkl : (k : Int) < xs.length
        · obtain ⟨g, hg⟩ := ll (by omega)
          subst hg
          obtain ⟨_, _, c2, _, c4, _⟩ := OwnR.at5 HH.out.1 (i := k) (by omega)
          have d2 := cell_later hbw c2
          have d4 := cell_later hbw c4
          have HN : Hid ((atA ys k).c ≤ (atA ys k).r → ∀ j, j < k + 1 → (atA ys j).c ≤ (atA ys j).r) := fun e j hj => by
            rcases (show j = k ∨ j < k by omega) with rfl | h
            · exact e
            · exact HJ.out j h
          clear c2 c4 ll HJ
          generalize atA ys k = a at *
          obtain ⟨ii, dd, cc, vv, rr⟩ := a
          simp only at d2 d4 HN
          by_cases e2 : rr < cc
          · have e2' : decide (rr < cc) = true := decide_eq_true e2
            clear HN
            go_wp2_with fail
            go_quiet (fail)
            go_wp2_with fail
            go_ret
            exact ⟨rfl, HB3.out.trans (Below.mono ⟨hbw.os, hbw.tape, hbw.output, hbw.size, hbw.block⟩ HB3.out.size)⟩
          · have e2' : decide (rr < cc) = false := decide_eq_false e2
            have HN2 : Hid (∀ j, j < k + 1 → (atA ys j).c ≤ (atA ys j).r) := HN.out (by omega)
            clear HN
            go_wp2_with fail
            go_quiet (fail)
            go_wp2_with fail
            go_roundw
            case rel => exact ⟨k + 1, by omega, by go_num, HN2.out, ⟨hbw.os, hbw.tape, hbw.output, hbw.size, hbw.block⟩⟩
            case measure => simp [intOf]; omega
        · obtain rfl : k = xs.length := by omega
          have HF : Hid (fitsA xs now = true) := HH.out.2.2.1.done HMX.out.1 (fun a ha => by
            obtain ⟨j, hj, e⟩ := List.getElem_of_mem ha
            have := HJ.out j (by have := HH.out.2.1; omega)
            rw [atA_of (List.getElem?_eq_getElem hj), e] at this
            omega)
          have HA4 : Hid (Aps wr v xs) := HA3.out.later hbw
          have HB4 : Hid (Below w.heap.size w wr) := HB3.out.trans (hbw.mono HB3.out.size)
          clear hbw HJ HH HA3 HB3
          go_wp2_with fail
          refine (fits13_any xs v now _ HA4.out (by omega) HW.out HMX.out.2.2 (by omega) (by omega)).mono ?_
          rintro e w9 ⟨rfl, hb9⟩
          rw [HF.out]
          go_wp2_with fail
          go_ret
          exact ⟨rfl, HB4.out.trans (hb9.mono HB4.out.size)⟩
end Go.Proofs.Ytjaaabliefcgaaa
