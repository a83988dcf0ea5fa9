/- Texts that belong together, one behind the other: BB18, BB19. -/
import Derived.Test.YteklcolphbcjlaaQ14
/- Walks of package wire: Get. -/
namespace Go.Proofs.Yteklcolphbcjlaa
open Go.RowKit

def GetE (xs : List Int) (w : World) (e : Ending) (w' : World) : Prop :=
  ∃ (pk pid fc ft fx fm fk fe pt pm pw pc pv : Int) (dv : Value) (ds : List Int) (y : Bool), e = .returned (.tuple #[.agg #[.int .i64 pk, .int .i64 pid, .int .i64 fc, .int .i64 ft, .int .i64 fx, .int .i64 fm, .int .i64 fk, .int .i64 fe, .int .i64 pt, .int .i64 pm, .int .i64 pw, .int .i64 pc, .int .i64 pv, dv], .bool y]) ∧ Nums w' dv ds ∧ IsGet xs ⟨pk, pid, ⟨fc, ft, fx, fm, fk, fe⟩, pt, pm, pw, pc, pv, ds⟩ y ∧ Below w.heap.size w w'
theorem GetE.none {xs : List Int} {w w' : World} (h : IsGet xs owZ false) (hb : Below w.heap.size w w') : GetE xs w (.returned (.tuple #[.agg #[.int .i64 0, .int .i64 0, .int .i64 0, .int .i64 0, .int .i64 0, .int .i64 0, .int .i64 0, .int .i64 0, .int .i64 0, .int .i64 0, .int .i64 0, .int .i64 0, .int .i64 0, .slice none 0 0], .bool false])) w' :=
  ⟨0, 0, 0, 0, 0, 0, 0, 0, 0, 0, 0, 0, 0, _, [], false, rfl, Nums_nil _, h, hb⟩
/-- What holds when the first parts are got. -/
def GtR (st : Ow × List Int) (dv rv : Value) (ps : List (Option Nat)) (q : Nat → Nat) (b g : Nat) (w wr : World) : Prop := (∀ y, Below b w y → Bys y rv st.2) ∧ Bk wr (b + 1) (oL st.1 dv) ∧ Bk wr b [.int .i64 0, .int .i64 0, .int .i64 0, .int .i64 0, .int .i64 0, .int .i64 0, .int .i64 0, .int .i64 0, .int .i64 0, .int .i64 0, .int .i64 0, .int .i64 0, .int .i64 0, .slice none 0 0] ∧ Bk wr g (fl ps) ∧ (∀ i, i < 12 → Wh wr (q i) i) ∧ Below b w wr
theorem GtR.later {st : Ow × List Int} {dv rv : Value} {ps : List (Option Nat)} {q : Nat → Nat} {b g : Nat} {w wr y : World} (h : GtR st dv rv ps q b g w wr) (hb : Below wr.heap.size wr y) : GtR st dv rv ps q b g w y :=
  ⟨h.1, h.2.1.later hb, h.2.2.1.later hb, h.2.2.2.1.later hb, fun i hi => (h.2.2.2.2.1 i hi).later hb, h.2.2.2.2.2.trans (hb.mono (Nat.le_of_lt h.2.2.1.lt))⟩
/-- The part's own block is turned alone. -/
theorem GtR.turn {st st' : Ow × List Int} {dv dv' rv rv' : Value} {ps : List (Option Nat)} {q : Nat → Nat} {b g : Nat} {w wr y : World} (h : GtR st dv rv ps q b g w wr) (hg : wr.grownBy y (some (b + 1))) (hv : ∀ z, Below b w z → Bys z rv' st'.2) (hk : Bk y (b + 1) (oL st'.1 dv')) (hg1 : b + 1 < g) (hq : ∀ i, i < 12 → b + 1 < q i) : GtR st' dv' rv' ps q b g w y := by
  refine ⟨hv, hk, h.2.2.1.far hg (by omega), h.2.2.2.1.far hg (by omega), fun i hi => ?_, h.2.2.2.2.2.grown hg (Nat.le_of_lt h.2.2.1.lt) (fun k hk => by cases hk; omega)⟩
  have := hq i hi
  exact (h.2.2.2.2.1 i hi).far hg (by omega) (by omega)
theorem GtR.bys {st : Ow × List Int} {dv rv : Value} {ps : List (Option Nat)} {q : Nat → Nat} {b g : Nat} {w wr y : World} (h : GtR st dv rv ps q b g w wr) (hg : wr.grownBy y (some (b + 1))) : Bys y rv st.2 :=
  h.1 _ (h.2.2.2.2.2.grown hg (Nat.le_of_lt h.2.2.1.lt) (fun k hk => by cases hk; omega))
theorem one14L (pk pid fc ft fx fm fk fe pt pm pw pc pv : Int) : ∀ v ∈ ([.int .i64 pk, .int .i64 pid, .int .i64 fc, .int .i64 ft, .int .i64 fx, .int .i64 fm, .int .i64 fk, .int .i64 fe, .int .i64 pt, .int .i64 pm, .int .i64 pw, .int .i64 pc, .int .i64 pv, .slice none 0 0] : List Value), v.oneCell' = true := by
  intro v hv
  simp at hv
  rcases hv with rfl | rfl | rfl | rfl | rfl | rfl | rfl | rfl | rfl | rfl | rfl | rfl | rfl | rfl <;> rfl
theorem one14z : ∀ v ∈ ([.int .i64 0, .int .i64 0, .int .i64 0, .int .i64 0, .int .i64 0, .int .i64 0, .int .i64 0, .int .i64 0, .int .i64 0, .int .i64 0, .int .i64 0, .int .i64 0, .int .i64 0, .slice none 0 0] : List Value), v.oneCell' = true := by
  intro v hv
  simp at hv
  rcases hv with rfl | rfl <;> rfl
theorem gP_d (L : List Nat) : ∀ (a : Ow × List Int), (L.foldl gst a).1.d = a.1.d := by
  induction L with
  | nil => intro a; rfl
  | cons i L ih => intro a; show (L.foldl gst (gst a i)).1.d = a.1.d; rw [ih]; exact puN_d _ _ _
set_option maxHeartbeats 8000000 in
set_option maxRecDepth 100000 in
theorem wget16_0 (k : Int) (xs : List Int) (v : Value) (w : World) (h : Bys w v xs) (hl : 0 < xs.length) (h0 : xs.getD 0 0 = k) (hk : 0 ≤ k ∧ k ≤ 3) :
    Calls Try.prog 11 #[v] w (GetE xs w) := by
  have HV : Hid ((∀ y, Below w.heap.size w y → Bys y v xs) ∧ 0 < xs.length ∧ xs.getD 0 0 = k) := ⟨fun y hy => h.later hy, hl, h0⟩
  obtain ⟨a, cap, rfl, h1, h2, h3, h4, h5⟩ := h
  obtain ⟨bb, oo, rfl, h6⟩ := h5 (by intro e; rw [e] at hl; simp at hl)
  have HD : Hid (∀ i, i < xs.length → 0 ≤ xs.getD i 0 ∧ xs.getD i 0 ≤ 255) := h4
  have HB : Hid (Bk ((w.alloc (.cells #[.int .i64 0, .int .i64 0, .int .i64 0, .int .i64 0, .int .i64 0, .int .i64 0, .int .i64 0, .int .i64 0, .int .i64 0, .int .i64 0, .int .i64 0, .int .i64 0, .int .i64 0, .slice none 0 0] 26)).alloc (.cells #[.int .i64 k, .int .i64 0, .int .i64 0, .int .i64 0, .int .i64 0, .int .i64 0, .int .i64 0, .int .i64 0, .int .i64 0, .int .i64 0, .int .i64 0, .int .i64 0, .int .i64 0, .slice none 0 0] 26)) w.heap.size [.int .i64 0, .int .i64 0, .int .i64 0, .int .i64 0, .int .i64 0, .int .i64 0, .int .i64 0, .int .i64 0, .int .i64 0, .int .i64 0, .int .i64 0, .int .i64 0, .int .i64 0, .slice none 0 0] ∧ Bk ((w.alloc (.cells #[.int .i64 0, .int .i64 0, .int .i64 0, .int .i64 0, .int .i64 0, .int .i64 0, .int .i64 0, .int .i64 0, .int .i64 0, .int .i64 0, .int .i64 0, .int .i64 0, .int .i64 0, .slice none 0 0] 26)).alloc (.cells #[.int .i64 k, .int .i64 0, .int .i64 0, .int .i64 0, .int .i64 0, .int .i64 0, .int .i64 0, .int .i64 0, .int .i64 0, .int .i64 0, .int .i64 0, .int .i64 0, .int .i64 0, .slice none 0 0] 26)) (w.heap.size + 1) [.int .i64 k, .int .i64 0, .int .i64 0, .int .i64 0, .int .i64 0, .int .i64 0, .int .i64 0, .int .i64 0, .int .i64 0, .int .i64 0, .int .i64 0, .int .i64 0, .int .i64 0, .slice none 0 0] ∧ Below w.heap.size w ((w.alloc (.cells #[.int .i64 0, .int .i64 0, .int .i64 0, .int .i64 0, .int .i64 0, .int .i64 0, .int .i64 0, .int .i64 0, .int .i64 0, .int .i64 0, .int .i64 0, .int .i64 0, .int .i64 0, .slice none 0 0] 26)).alloc (.cells #[.int .i64 k, .int .i64 0, .int .i64 0, .int .i64 0, .int .i64 0, .int .i64 0, .int .i64 0, .int .i64 0, .int .i64 0, .int .i64 0, .int .i64 0, .int .i64 0, .int .i64 0, .slice none 0 0] 26)) ∧ Below w.heap.size w (w.alloc (.cells #[.int .i64 0, .int .i64 0, .int .i64 0, .int .i64 0, .int .i64 0, .int .i64 0, .int .i64 0, .int .i64 0, .int .i64 0, .int .i64 0, .int .i64 0, .int .i64 0, .int .i64 0, .slice none 0 0] 26))) := ⟨(Bk.new w _ _).later (below_b1 _ _), (by have := Bk.new (w.alloc (.cells #[.int .i64 0, .int .i64 0, .int .i64 0, .int .i64 0, .int .i64 0, .int .i64 0, .int .i64 0, .int .i64 0, .int .i64 0, .int .i64 0, .int .i64 0, .int .i64 0, .int .i64 0, .slice none 0 0] 26)) [.int .i64 k, .int .i64 0, .int .i64 0, .int .i64 0, .int .i64 0, .int .i64 0, .int .i64 0, .int .i64 0, .int .i64 0, .int .i64 0, .int .i64 0, .int .i64 0, .int .i64 0, .slice none 0 0] 26; simp only [World.size_alloc] at this; exact this), below_b2 _ _ _, below_b1 _ _⟩
  have e0 := cell_later HB.out.2.2.2 (h6 0 hl)
  rw [Nat.add_zero, h0] at e0
  have bk := h4 0 hl
  rw [h0] at bk
  have wk : IntKind.i64.wrap k = k := by rw [IntKind.wrap_i64]; omega
  have c0' : ((xs.length : Int) == 0) = false := beq_eq_false_iff_ne.2 (by omega)
  have hln : (0 : Int) < xs.length := by omega
  have h1c : (1 : Int) ≤ cap := by omega
  have h1d : (1 : Int) ≤ xs.length := by omega
  have hs : ((w.alloc (.cells #[.int .i64 0, .int .i64 0, .int .i64 0, .int .i64 0, .int .i64 0, .int .i64 0, .int .i64 0, .int .i64 0, .int .i64 0, .int .i64 0, .int .i64 0, .int .i64 0, .int .i64 0, .slice none 0 0] 26)).alloc (.cells #[.int .i64 k, .int .i64 0, .int .i64 0, .int .i64 0, .int .i64 0, .int .i64 0, .int .i64 0, .int .i64 0, .int .i64 0, .int .i64 0, .int .i64 0, .int .i64 0, .int .i64 0, .slice none 0 0] 26)).heap.size = w.heap.size + 2 := by simp
  have HS : Hid (((w.alloc (.cells #[.int .i64 0, .int .i64 0, .int .i64 0, .int .i64 0, .int .i64 0, .int .i64 0, .int .i64 0, .int .i64 0, .int .i64 0, .int .i64 0, .int .i64 0, .int .i64 0, .int .i64 0, .slice none 0 0] 26)).alloc (.cells #[.int .i64 k, .int .i64 0, .int .i64 0, .int .i64 0, .int .i64 0, .int .i64 0, .int .i64 0, .int .i64 0, .int .i64 0, .int .i64 0, .int .i64 0, .int .i64 0, .int .i64 0, .slice none 0 0] 26)).heap.size = w.heap.size + 2) := hs
  have HK : Hid (0 ≤ k ∧ k ≤ 3) := hk
  clear h3 h4 h5 h6 h0 hs
  rcases Nat.lt_or_ge 1 cap with hc | hc
  case' inl =>
    have hc' : (1 : Int) < cap := by omega
    have HRV : Hid (∀ y, Below w.heap.size w y → Bys y (.slice (some ⟨bb, oo + 1, none⟩) (xs.length - 1) (cap - 1)) (xs.drop 1)) := fun y hy => (HV.out.1 y hy).rest1 (S := 1) HV.out.2.1 (oo + 1) (fun _ => rfl)
    go_enter Try.func11, Try.ntmps11
    go_wp2_with fail
    generalize hrv : Value.slice (some ⟨bb, oo + 1, none⟩) (xs.length - 1) (cap - 1) = rv at *
  case' inr =>
    obtain rfl : cap = 1 := by omega
    have hl1 : xs.length - 1 = 0 := by omega
    have HRV : Hid (∀ y, Below w.heap.size w y → Bys y (.slice (some ⟨bb, oo, none⟩) 0 0) (xs.drop 1)) := fun y hy => by
      have := (HV.out.1 y hy).rest1 (S := 1) HV.out.2.1 oo (fun h => absurd h (by omega))
      rw [hl1] at this
      exact this
    go_enter Try.func11, Try.ntmps11
    go_wp2_with fail
    generalize hrv : Value.slice (some ⟨bb, oo, none⟩) 0 0 = rv at *
  all_goals
    clear hrv
    generalize ((w.alloc (.cells #[.int .i64 0, .int .i64 0, .int .i64 0, .int .i64 0, .int .i64 0, .int .i64 0, .int .i64 0, .int .i64 0, .int .i64 0, .int .i64 0, .int .i64 0, .int .i64 0, .int .i64 0, .slice none 0 0] 26)).alloc (.cells #[.int .i64 k, .int .i64 0, .int .i64 0, .int .i64 0, .int .i64 0, .int .i64 0, .int .i64 0, .int .i64 0, .int .i64 0, .int .i64 0, .int .i64 0, .int .i64 0, .int .i64 0, .slice none 0 0] 26)) = W at *
    refine (had_any k _).mono ?_
    rintro e w4 ⟨v4, q, rfl, ho4, hw4, hb4⟩
    have HQ : Hid (∀ i, i < 12 → w.heap.size + 1 < q i) := fun i hi => by have := (hw4 i hi).2; have := HS.out; omega
    obtain ⟨Lx, hL⟩ : ∃ Lx, ixs k = Lx := ⟨_, rfl⟩
    have HL : Hid ((∀ i ∈ Lx, i < 12) ∧ Lx.length ≤ 6 ∧ ixs k = Lx) := ⟨by rw [← hL]; exact ixs_3 HK.out, by rw [← hL]; exact ixs_len k, hL⟩
    rw [hL] at ho4
    have hne : Lx ≠ [] := by
      rw [← hL]
      rcases (show k = 0 ∨ k = 1 ∨ k = 2 ∨ k = 3 by have := HK.out; omega) with rfl | rfl | rfl | rfl <;> exact List.cons_ne_nil _ _
    clear hL
    rcases ho4.rd with ⟨hz, _⟩ | ⟨g, cap4, rfl, hg, hc4, hbk⟩
    · exact absurd (List.map_eq_nil_iff.1 hz) hne
    rw [List.length_map] at hc4 ⊢
    have HG : Hid (w.heap.size + 1 < g) := by have := HS.out; show _ < _; omega
    have HX : Hid (GtR (gP (zK k) (xs.drop 1) (Lx.take 0)) (.slice none 0 0) rv (Lx.map (po q)) q w.heap.size g w w4 ∧ sS (Lx.take 0) ≤ xs.length - 1) := ⟨⟨HRV.out, HB.out.2.1.later hb4, HB.out.1.later hb4, hbk, fun i hi => (hw4 i hi).1, HB.out.2.2.1.trans (hb4.mono HB.out.2.2.1.size)⟩, Nat.zero_le _⟩
    clear ho4 hw4 hb4 hbk hg hne hc4 e0
    go_wp2_with fail
    go_loopw [5, 24] (fun r iv wr => ∃ t : Nat, t ≤ Lx.length ∧ iv = .int .i64 t ∧ Hid (GtR (gP (zK k) (xs.drop 1) (Lx.take t)) (.slice none 0 0) r (Lx.map (po q)) q w.heap.size g w wr ∧ sS (Lx.take t) ≤ xs.length - 1)) (fun _ iv _ => (Lx.length - intOf iv).toNat)
    case atStart => exact ⟨0, by omega, by go_num, HX⟩
    case round =>
      obtain ⟨t, ht, rfl, HR⟩ := hrel
      clear HX HB HRV
      by_cases hlt : t < Lx.length
      · have hlt' : (t : Int) < Lx.length := by omega
        have ht6 : (t : Int) < 6 := by have := HL.out.2.1; omega
        obtain ⟨i, hi⟩ : ∃ i, Lx[t]? = some i := ⟨_, List.getElem?_eq_getElem hlt⟩
        have hi12 : i < 12 := HL.out.1 i (List.mem_of_getElem? hi)
        have hst1 := gP_next (zK k) (xs.drop 1) hi
        have hst2 := gP_len (Lx.take t) (zK k, xs.drop 1)
        have hst3 := sS_take hi
        obtain ⟨st, hst⟩ : ∃ st, gP (zK k) (xs.drop 1) (Lx.take t) = st := ⟨_, rfl⟩
        have hst4 : sS (Lx.take (t + 1)) = sS (Lx.take t) + siN i := by unfold sS; rw [List.take_add_one, hi]; simp
        rw [hst] at hst1 HR
        have hst2' : st.2.length = xs.length - 1 - sS (Lx.take t) := by rw [← hst]; rw [List.length_drop] at hst2; exact hst2
        have HI : Hid (i < 12 ∧ gP (zK k) (xs.drop 1) (Lx.take (t + 1)) = gst st i ∧ st.2.length = xs.length - 1 - sS (Lx.take t) ∧ sS (Lx.take t) + siN i ≤ sS Lx ∧ sS (Lx.take (t + 1)) = sS (Lx.take t) + siN i) := ⟨hi12, hst1, hst2', hst3, hst4⟩
        have HD2 : Hid (((fl (Lx.map (po q))).drop (t * 4)).take ([.func (.func 47) #[] #[.pointer (some ⟨(q i) + 1, 0, none⟩), .pointer (some ⟨(q i), 0, none⟩)], .func (.func 48) #[] #[.pointer (some ⟨(q i) + 1, 0, none⟩)], .func (.func 49) #[] #[.pointer (some ⟨(q i) + 1, 0, none⟩), .pointer (some ⟨(q i), 0, none⟩)], .func (.func 50) #[] #[.pointer (some ⟨(q i), 0, none⟩), .pointer (some ⟨(q i) + 1, 0, none⟩)]] : List Value).length = [.func (.func 47) #[] #[.pointer (some ⟨(q i) + 1, 0, none⟩), .pointer (some ⟨(q i), 0, none⟩)], .func (.func 48) #[] #[.pointer (some ⟨(q i) + 1, 0, none⟩)], .func (.func 49) #[] #[.pointer (some ⟨(q i) + 1, 0, none⟩), .pointer (some ⟨(q i), 0, none⟩)], .func (.func 50) #[] #[.pointer (some ⟨(q i), 0, none⟩), .pointer (some ⟨(q i) + 1, 0, none⟩)]]) := by
          have := fl_at (Lx.map (po q)) t (some (q i)) (by rw [List.getElem?_map, hi]; show some (po q i) = _; rw [po_some q hi12])
          exact this
        have HA : Hid (GtR st (.slice none 0 0) _ (Lx.map (po q)) q w.heap.size g w (wr.alloc (.cells #[.func (.func 47) #[] #[.pointer (some ⟨(q i) + 1, 0, none⟩), .pointer (some ⟨(q i), 0, none⟩)], .func (.func 48) #[] #[.pointer (some ⟨(q i) + 1, 0, none⟩)], .func (.func 49) #[] #[.pointer (some ⟨(q i) + 1, 0, none⟩), .pointer (some ⟨(q i), 0, none⟩)], .func (.func 50) #[] #[.pointer (some ⟨(q i), 0, none⟩), .pointer (some ⟨(q i) + 1, 0, none⟩)]] 52)) ∧ Bk (wr.alloc (.cells #[.func (.func 47) #[] #[.pointer (some ⟨(q i) + 1, 0, none⟩), .pointer (some ⟨(q i), 0, none⟩)], .func (.func 48) #[] #[.pointer (some ⟨(q i) + 1, 0, none⟩)], .func (.func 49) #[] #[.pointer (some ⟨(q i) + 1, 0, none⟩), .pointer (some ⟨(q i), 0, none⟩)], .func (.func 50) #[] #[.pointer (some ⟨(q i), 0, none⟩), .pointer (some ⟨(q i) + 1, 0, none⟩)]] 52)) wr.heap.size [.func (.func 47) #[] #[.pointer (some ⟨(q i) + 1, 0, none⟩), .pointer (some ⟨(q i), 0, none⟩)], .func (.func 48) #[] #[.pointer (some ⟨(q i) + 1, 0, none⟩)], .func (.func 49) #[] #[.pointer (some ⟨(q i) + 1, 0, none⟩), .pointer (some ⟨(q i), 0, none⟩)], .func (.func 50) #[] #[.pointer (some ⟨(q i), 0, none⟩), .pointer (some ⟨(q i) + 1, 0, none⟩)]]) := ⟨HR.out.1.later (below_b1 _ _), Bk.new _ _ _⟩
        obtain ⟨hq0, K, hK, hf0⟩ := HA.out.1.2.2.2.2.1 i hi12
        have HK2 : Hid (AtK K (ciN i) ∧ (wr.alloc (.cells #[.func (.func 47) #[] #[.pointer (some ⟨(q i) + 1, 0, none⟩), .pointer (some ⟨(q i), 0, none⟩)], .func (.func 48) #[] #[.pointer (some ⟨(q i) + 1, 0, none⟩)], .func (.func 49) #[] #[.pointer (some ⟨(q i) + 1, 0, none⟩), .pointer (some ⟨(q i), 0, none⟩)], .func (.func 50) #[] #[.pointer (some ⟨(q i), 0, none⟩), .pointer (some ⟨(q i) + 1, 0, none⟩)]] 52)).cell? ⟨q i, 0, none⟩ = some (.int .i64 (siN i)) ∧ (wr.alloc (.cells #[.func (.func 47) #[] #[.pointer (some ⟨(q i) + 1, 0, none⟩), .pointer (some ⟨(q i), 0, none⟩)], .func (.func 48) #[] #[.pointer (some ⟨(q i) + 1, 0, none⟩)], .func (.func 49) #[] #[.pointer (some ⟨(q i) + 1, 0, none⟩), .pointer (some ⟨(q i), 0, none⟩)], .func (.func 50) #[] #[.pointer (some ⟨(q i), 0, none⟩), .pointer (some ⟨(q i) + 1, 0, none⟩)]] 52)).cell? ⟨q i + 1, 0, none⟩ = some (.func (.func K) #[] #[])) := ⟨hK, hq0.cell rfl, hf0.cell rfl⟩
        clear hq0 hf0 hK hi hi12 hst hst1 hst2 hst2' hst3 hst4
        go_wp2_with (refine load_bk rfl 52 _ rfl g (t * 4) _ [.func (.func 47) #[] #[.pointer (some ⟨(q i) + 1, 0, none⟩), .pointer (some ⟨(q i), 0, none⟩)], .func (.func 48) #[] #[.pointer (some ⟨(q i) + 1, 0, none⟩)], .func (.func 49) #[] #[.pointer (some ⟨(q i) + 1, 0, none⟩), .pointer (some ⟨(q i), 0, none⟩)], .func (.func 50) #[] #[.pointer (some ⟨(q i), 0, none⟩), .pointer (some ⟨(q i) + 1, 0, none⟩)]] ?_ HR.out.1.2.2.2.1 HD2.out _ Try.underlying52 rfl (by kernel_rfl) ?_; · rfl)
        refine (wget_any K (ciN i) HK2.out.1 (siN i) (si_12 HI.out.1) (w.heap.size + 1) (q i) (pvN st.1 i) _ st.2 _ (HA.out.1.1 _ HA.out.1.2.2.2.2.2) (fun w' hg => HA.out.1.bys hg) (HA.out.1.2.1.cell (oL_at _ _ HI.out.1)) (HA.out.1.2.1.frz (by show ciN i < 14; exact ci_lt HI.out.1)) (Nat.ne_of_gt (HQ.out i HI.out.1)) HK2.out.2.1 HK2.out.2.2).mono ?_
        rintro e w5 h5
        rcases h5 with ⟨hlen, rfl, rfl⟩ | ⟨hlen, v5, rfl, hv5, hp5⟩
        · have HF : Hid (IsGet xs owZ false) := isGet_short HK.out HV.out.2.2 (by rw [HL.out.2.2]; have := HI.out.2.2.1; have := HI.out.2.2.2.1; have := HV.out.2.1; omega)
          clear hlen
          generalize hW5 : (wr.alloc (.cells #[.func (.func 47) #[] #[.pointer (some ⟨(q i) + 1, 0, none⟩), .pointer (some ⟨(q i), 0, none⟩)], .func (.func 48) #[] #[.pointer (some ⟨(q i) + 1, 0, none⟩)], .func (.func 49) #[] #[.pointer (some ⟨(q i) + 1, 0, none⟩), .pointer (some ⟨(q i), 0, none⟩)], .func (.func 50) #[] #[.pointer (some ⟨(q i), 0, none⟩), .pointer (some ⟨(q i) + 1, 0, none⟩)]] 52)) = W5 at *
          clear hW5
          go_wp2_with (refine store_bk rfl 26 _ _ rfl w.heap.size 0 [.int .i64 0, .int .i64 0, .int .i64 0, .int .i64 0, .int .i64 0, .int .i64 0, .int .i64 0, .int .i64 0, .int .i64 0, .int .i64 0, .int .i64 0, .int .i64 0, .int .i64 0, .slice none 0 0] [.int .i64 0, .int .i64 0, .int .i64 0, .int .i64 0, .int .i64 0, .int .i64 0, .int .i64 0, .int .i64 0, .int .i64 0, .int .i64 0, .int .i64 0, .int .i64 0, .int .i64 0, .slice none 0 0] [.int .i64 0, .int .i64 0, .int .i64 0, .int .i64 0, .int .i64 0, .int .i64 0, .int .i64 0, .int .i64 0, .int .i64 0, .int .i64 0, .int .i64 0, .int .i64 0, .int .i64 0, .slice none 0 0] rfl rfl 14 rfl HA.out.1.2.2.1 (Nat.le_refl _) rfl (by kernel_rfl) one14z ?_; intro w7 h1 h2 h3 h4)
          exact ret_ct (ty := 26) rfl w.heap.size [.int .i64 0, .int .i64 0, .int .i64 0, .int .i64 0, .int .i64 0, .int .i64 0, .int .i64 0, .int .i64 0, .int .i64 0, .int .i64 0, .int .i64 0, .int .i64 0, .int .i64 0, .slice none 0 0] (.bool false) rfl h1 _ Try.underlying26 rfl (by kernel_rfl) rfl rfl (GetE.none HF.out (h3 _ _ (Nat.le_refl _) HA.out.1.2.2.2.2.2))
        · have HF : Hid (GtR (gst st i) (.slice none 0 0) v5 (Lx.map (po q)) q w.heap.size g w w5 ∧ siN i ≤ st.2.length) := ⟨HA.out.1.turn hp5.2 (fun z hz => hv5 z (HA.out.1.1 z hz)) (by have := hp5.1 _ HA.out.1.2.1; rw [oL_put _ _ HI.out.1] at this; exact this) HG.out HQ.out, hlen⟩
          clear hlen hv5 hp5 HA
          go_wp2_with fail
          go_roundw
          case rel => exact ⟨t + 1, by omega, by go_num, by rw [HI.out.2.1]; exact HF.out.1, by rw [HI.out.2.2.2.2]; have := HI.out.2.2.1; have := HF.out.2; have := HR.out.2; omega⟩
          case measure => simp [intOf]; omega
      · obtain rfl : t = Lx.length := by omega
        have hlt' : ¬ (Lx.length : Int) < Lx.length := by omega
        have hst2 := gP_len Lx (zK k, xs.drop 1)
        have hR := HR.out
        rw [List.take_length] at hR
        obtain ⟨st, hst⟩ : ∃ st, gP (zK k) (xs.drop 1) Lx = st := ⟨_, rfl⟩
        have hst3 : st.2.length = xs.length - 1 - sS Lx := by rw [← hst]; rw [List.length_drop] at hst2; exact hst2
        have hd : st.1.d = [] := by rw [← hst]; exact gP_d Lx _
        rw [hst] at hR
        obtain ⟨ar, capr, er, _⟩ := hR.1.1 _ hR.1.2.2.2.2.2
        subst er
        have HR2 : Hid (Bk wr (w.heap.size + 1) (oL st.1 (.slice none 0 0)) ∧ Bk wr w.heap.size [.int .i64 0, .int .i64 0, .int .i64 0, .int .i64 0, .int .i64 0, .int .i64 0, .int .i64 0, .int .i64 0, .int .i64 0, .int .i64 0, .int .i64 0, .int .i64 0, .int .i64 0, .slice none 0 0] ∧ Below w.heap.size w wr) := ⟨hR.1.2.1, hR.1.2.2.1, hR.1.2.2.2.2.2⟩
        by_cases hz : st.2.length = 0
        · have HE : Hid (xs.length = 1 + sS (ixs k)) := by show _ = _; rw [HL.out.2.2]; have := HV.out.2.1; have := hR.2; omega
          have hat := get_at HK.out HE.out HV.out.2.2
          rw [HL.out.2.2, hst] at hat
          have HO : Hid ((omB st.1 = true → IsGet xs st.1 true) ∧ (omB st.1 = false → IsGet xs owZ false)) := by
            rw [hat]
            exact ⟨fun h => isGet_good HK.out HE.out HV.out.2.2 HD.out h, isGet_bad⟩
          have hz' : ((st.2.length : Nat) : Int) = 0 := by omega
          rw [hz]
          clear hst hst2 hst3 hR hat hz' HR
          obtain ⟨st1, st2⟩ := st
          obtain ⟨pk, pid, ⟨fc, ft, fx, fm, fk, fe⟩, pt, pm, pw, pc, pv, es⟩ := st1
          obtain rfl : es = [] := hd
          have HB2 : Hid (Bk wr (w.heap.size + 1) [.int .i64 pk, .int .i64 pid, .int .i64 fc, .int .i64 ft, .int .i64 fx, .int .i64 fm, .int .i64 fk, .int .i64 fe, .int .i64 pt, .int .i64 pm, .int .i64 pw, .int .i64 pc, .int .i64 pv, .slice none 0 0]) := HR2.out.1
          obtain ⟨y, hy⟩ : ∃ y, omB ⟨pk, pid, ⟨fc, ft, fx, fm, fk, fe⟩, pt, pm, pw, pc, pv, []⟩ = y := ⟨_, rfl⟩
          have HY : Hid (omB ⟨pk, pid, ⟨fc, ft, fx, fm, fk, fe⟩, pt, pm, pw, pc, pv, []⟩ = y) := hy
          clear hy hz
          go_wp2_with (refine load_bkG rfl 26 _ rfl (w.heap.size + 1) 0 [.int .i64 pk, .int .i64 pid, .int .i64 fc, .int .i64 ft, .int .i64 fx, .int .i64 fm, .int .i64 fk, .int .i64 fe, .int .i64 pt, .int .i64 pm, .int .i64 pw, .int .i64 pc, .int .i64 pv, .slice none 0 0] [.int .i64 pk, .int .i64 pid, .int .i64 fc, .int .i64 ft, .int .i64 fx, .int .i64 fm, .int .i64 fk, .int .i64 fe, .int .i64 pt, .int .i64 pm, .int .i64 pw, .int .i64 pc, .int .i64 pv, .slice none 0 0] rfl HB2.out rfl _ Try.underlying26 rfl (by kernel_rfl) ?_)
          refine (wmay16_any pk pid fc ft fx fm fk fe pt pm pw pc pv (.slice none 0 0) [] _ (Nums_nil _)).mono ?_
          rintro e w6 ⟨rfl, hb6⟩
          rw [HY.out]
          have HR3 : Hid (Bk w6 (w.heap.size + 1) [.int .i64 pk, .int .i64 pid, .int .i64 fc, .int .i64 ft, .int .i64 fx, .int .i64 fm, .int .i64 fk, .int .i64 fe, .int .i64 pt, .int .i64 pm, .int .i64 pw, .int .i64 pc, .int .i64 pv, .slice none 0 0] ∧ Bk w6 w.heap.size [.int .i64 0, .int .i64 0, .int .i64 0, .int .i64 0, .int .i64 0, .int .i64 0, .int .i64 0, .int .i64 0, .int .i64 0, .int .i64 0, .int .i64 0, .int .i64 0, .int .i64 0, .slice none 0 0] ∧ Below w.heap.size w w6) := ⟨HB2.out.later hb6, HR2.out.2.1.later hb6, HR2.out.2.2.trans (hb6.mono HR2.out.2.2.size)⟩
          clear hb6 HR2 HB2
          cases y with
          | false =>
            go_wp2_with (refine store_bk rfl 26 _ _ rfl w.heap.size 0 [.int .i64 0, .int .i64 0, .int .i64 0, .int .i64 0, .int .i64 0, .int .i64 0, .int .i64 0, .int .i64 0, .int .i64 0, .int .i64 0, .int .i64 0, .int .i64 0, .int .i64 0, .slice none 0 0] [.int .i64 0, .int .i64 0, .int .i64 0, .int .i64 0, .int .i64 0, .int .i64 0, .int .i64 0, .int .i64 0, .int .i64 0, .int .i64 0, .int .i64 0, .int .i64 0, .int .i64 0, .slice none 0 0] [.int .i64 0, .int .i64 0, .int .i64 0, .int .i64 0, .int .i64 0, .int .i64 0, .int .i64 0, .int .i64 0, .int .i64 0, .int .i64 0, .int .i64 0, .int .i64 0, .int .i64 0, .slice none 0 0] rfl rfl 14 rfl HR3.out.2.1 (Nat.le_refl _) rfl (by kernel_rfl) one14z ?_; intro w7 h1 h2 h3 h4)
            exact ret_ct (ty := 26) rfl w.heap.size [.int .i64 0, .int .i64 0, .int .i64 0, .int .i64 0, .int .i64 0, .int .i64 0, .int .i64 0, .int .i64 0, .int .i64 0, .int .i64 0, .int .i64 0, .int .i64 0, .int .i64 0, .slice none 0 0] (.bool false) rfl h1 _ Try.underlying26 rfl (by kernel_rfl) rfl rfl (GetE.none (HO.out.2 HY.out) (h3 _ _ (Nat.le_refl _) HR3.out.2.2))
          | true =>
            go_wp2_with (first
              | (refine store_bk rfl 26 _ _ rfl w.heap.size 0 [.int .i64 0, .int .i64 0, .int .i64 0, .int .i64 0, .int .i64 0, .int .i64 0, .int .i64 0, .int .i64 0, .int .i64 0, .int .i64 0, .int .i64 0, .int .i64 0, .int .i64 0, .slice none 0 0] [.int .i64 pk, .int .i64 pid, .int .i64 fc, .int .i64 ft, .int .i64 fx, .int .i64 fm, .int .i64 fk, .int .i64 fe, .int .i64 pt, .int .i64 pm, .int .i64 pw, .int .i64 pc, .int .i64 pv, .slice none 0 0] [.int .i64 pk, .int .i64 pid, .int .i64 fc, .int .i64 ft, .int .i64 fx, .int .i64 fm, .int .i64 fk, .int .i64 fe, .int .i64 pt, .int .i64 pm, .int .i64 pw, .int .i64 pc, .int .i64 pv, .slice none 0 0] rfl rfl 14 rfl HR3.out.2.1 (Nat.le_refl _) rfl (by kernel_rfl) (one14L _ _ _ _ _ _ _ _ _ _ _ _ _) ?_; intro w7 h1 h2 h3 h4)
              | (refine load_bk rfl 26 _ rfl (w.heap.size + 1) 0 [.int .i64 pk, .int .i64 pid, .int .i64 fc, .int .i64 ft, .int .i64 fx, .int .i64 fm, .int .i64 fk, .int .i64 fe, .int .i64 pt, .int .i64 pm, .int .i64 pw, .int .i64 pc, .int .i64 pv, .slice none 0 0] [.int .i64 pk, .int .i64 pid, .int .i64 fc, .int .i64 ft, .int .i64 fx, .int .i64 fm, .int .i64 fk, .int .i64 fe, .int .i64 pt, .int .i64 pm, .int .i64 pw, .int .i64 pc, .int .i64 pv, .slice none 0 0] rfl HR3.out.1 rfl _ Try.underlying26 rfl (by kernel_rfl) ?_))
            exact ret_ct (ty := 26) rfl w.heap.size [.int .i64 pk, .int .i64 pid, .int .i64 fc, .int .i64 ft, .int .i64 fx, .int .i64 fm, .int .i64 fk, .int .i64 fe, .int .i64 pt, .int .i64 pm, .int .i64 pw, .int .i64 pc, .int .i64 pv, .slice none 0 0] (.bool true) rfl h1 _ Try.underlying26 rfl (by kernel_rfl) rfl rfl ⟨_, _, _, _, _, _, _, _, _, _, _, _, _, _, [], true, rfl, Nums_nil _, HO.out.1 HY.out, h3 _ _ (Nat.le_refl _) HR3.out.2.2⟩
        · have HF : Hid (IsGet xs owZ false) := isGet_short HK.out HV.out.2.2 (by rw [HL.out.2.2]; omega)
          obtain ⟨n, hn⟩ : ∃ n, st.2.length = n := ⟨_, rfl⟩
          have hz' : (0 : Int) < (n : Int) := by omega
          have hz2 : 0 < n := by omega
          rw [hn]
          clear hst hst2 hst3 hR hd hz HR hn
          go_wp2_with (refine store_bk rfl 26 _ _ rfl w.heap.size 0 [.int .i64 0, .int .i64 0, .int .i64 0, .int .i64 0, .int .i64 0, .int .i64 0, .int .i64 0, .int .i64 0, .int .i64 0, .int .i64 0, .int .i64 0, .int .i64 0, .int .i64 0, .slice none 0 0] [.int .i64 0, .int .i64 0, .int .i64 0, .int .i64 0, .int .i64 0, .int .i64 0, .int .i64 0, .int .i64 0, .int .i64 0, .int .i64 0, .int .i64 0, .int .i64 0, .int .i64 0, .slice none 0 0] [.int .i64 0, .int .i64 0, .int .i64 0, .int .i64 0, .int .i64 0, .int .i64 0, .int .i64 0, .int .i64 0, .int .i64 0, .int .i64 0, .int .i64 0, .int .i64 0, .int .i64 0, .slice none 0 0] rfl rfl 14 rfl HR2.out.2.1 (Nat.le_refl _) rfl (by kernel_rfl) one14z ?_; intro w7 h1 h2 h3 h4)
          exact ret_ct (ty := 26) rfl w.heap.size [.int .i64 0, .int .i64 0, .int .i64 0, .int .i64 0, .int .i64 0, .int .i64 0, .int .i64 0, .int .i64 0, .int .i64 0, .int .i64 0, .int .i64 0, .int .i64 0, .int .i64 0, .slice none 0 0] (.bool false) rfl h1 _ Try.underlying26 rfl (by kernel_rfl) rfl rfl (GetE.none HF.out (h3 _ _ (Nat.le_refl _) HR2.out.2.2))
end Go.Proofs.Yteklcolphbcjlaa
/- Walks of package wire: Get of a tick. -/
namespace Go.Proofs.Yteklcolphbcjlaa
open Go.RowKit

/-- Integers of the call's own, by the block that they lie in. -/
def NuB (w : World) (B : Nat) (v : Value) (D : List Int) : Prop := (D = [] ∧ v = .slice none 0 0) ∨ ∃ g cap, v = .slice (some ⟨g, 0, none⟩) D.length cap ∧ B ≤ g ∧ D.length ≤ cap ∧ cap ≤ maxLen ∧ Bk w g (ivs D)
theorem NuB.own {w : World} {B B' : Nat} {v : Value} {D : List Int} (h : OwN w B v D) (hb : B' ≤ B) : NuB w B' v D := by
  have hcopy := h
  obtain ⟨_, ⟨rfl, hz⟩ | ⟨g, cap, cur, rfl, hg, hh, h1, h2, _⟩⟩ := h
  · exact .inl ⟨List.eq_nil_of_length_eq_zero hz, rfl⟩
  · exact .inr ⟨g, cap, rfl, Nat.le_trans hb hg, h1, h2, fun i hi => ⟨World.ownsRow.cellAt hcopy i (by rw [ivs_len] at hi; omega), World.ownsRow.frozenAt hcopy i⟩⟩
theorem NuB.nums {w : World} {B : Nat} {v : Value} {D : List Int} (h : NuB w B v D) : Nums w v D := by
  rcases h with ⟨rfl, rfl⟩ | ⟨g, cap, rfl, _, h1, h2, h3⟩
  · exact Nums_nil w
  · exact ⟨_, cap, rfl, h1, h2, fun _ => ⟨g, 0, rfl, fun i hi => by rw [Nat.zero_add]; exact h3.cell (ivs_at hi)⟩⟩
theorem NuB.later {w w' : World} {B : Nat} {v : Value} {D : List Int} (h : NuB w B v D) (hb : Below w.heap.size w w') : NuB w' B v D := by
  rcases h with h | ⟨g, cap, e, h0, h1, h2, h3⟩
  · exact .inl h
  · exact .inr ⟨g, cap, e, h0, h1, h2, h3.later hb⟩
theorem NuB.put {w w' : World} {b : Nat} {v : Value} {D : List Int} (h : NuB w (b + 1) v D) (h2 : ∀ (p : Nat) (m : List Value), p ≠ b → Bk w p m → Bk w' p m) : NuB w' (b + 1) v D := by
  rcases h with h | ⟨g, cap, e, h0, h1, h3, h4⟩
  · exact .inl h
  · exact .inr ⟨g, cap, e, h0, h1, h3, h2 _ _ (by omega) h4⟩
theorem one14v (a : Option Addr) (z c : Nat) : ∀ v ∈ ([.int .i64 4, .int .i64 0, .int .i64 0, .int .i64 0, .int .i64 0, .int .i64 0, .int .i64 0, .int .i64 0, .int .i64 0, .int .i64 0, .int .i64 0, .int .i64 0, .int .i64 0, .slice a z c] : List Value), v.oneCell' = true := by
  intro v hv
  simp at hv
  rcases hv with rfl | rfl | rfl <;> rfl
set_option maxHeartbeats 8000000 in
set_option maxRecDepth 100000 in
theorem wget16_4 (xs : List Int) (v : Value) (w : World) (h : Bys w v xs) (hl : 0 < xs.length) (h0 : xs.getD 0 0 = 4)  :
    Calls Try.prog 11 #[v] w (GetE xs w) := by
  have HV : Hid ((∀ y, Below w.heap.size w y → Bys y v xs) ∧ 0 < xs.length ∧ xs.getD 0 0 = 4) := ⟨fun y hy => h.later hy, hl, h0⟩
  obtain ⟨a, cap, rfl, h1, h2, h3, h4, h5⟩ := h
  obtain ⟨bb, oo, rfl, h6⟩ := h5 (by intro e; rw [e] at hl; simp at hl)
  have HD : Hid (∀ i, i < xs.length → 0 ≤ xs.getD i 0 ∧ xs.getD i 0 ≤ 255) := h4
  have HB : Hid (Bk ((w.alloc (.cells #[.int .i64 0, .int .i64 0, .int .i64 0, .int .i64 0, .int .i64 0, .int .i64 0, .int .i64 0, .int .i64 0, .int .i64 0, .int .i64 0, .int .i64 0, .int .i64 0, .int .i64 0, .slice none 0 0] 26)).alloc (.cells #[.int .i64 4, .int .i64 0, .int .i64 0, .int .i64 0, .int .i64 0, .int .i64 0, .int .i64 0, .int .i64 0, .int .i64 0, .int .i64 0, .int .i64 0, .int .i64 0, .int .i64 0, .slice none 0 0] 26)) w.heap.size [.int .i64 0, .int .i64 0, .int .i64 0, .int .i64 0, .int .i64 0, .int .i64 0, .int .i64 0, .int .i64 0, .int .i64 0, .int .i64 0, .int .i64 0, .int .i64 0, .int .i64 0, .slice none 0 0] ∧ Bk ((w.alloc (.cells #[.int .i64 0, .int .i64 0, .int .i64 0, .int .i64 0, .int .i64 0, .int .i64 0, .int .i64 0, .int .i64 0, .int .i64 0, .int .i64 0, .int .i64 0, .int .i64 0, .int .i64 0, .slice none 0 0] 26)).alloc (.cells #[.int .i64 4, .int .i64 0, .int .i64 0, .int .i64 0, .int .i64 0, .int .i64 0, .int .i64 0, .int .i64 0, .int .i64 0, .int .i64 0, .int .i64 0, .int .i64 0, .int .i64 0, .slice none 0 0] 26)) (w.heap.size + 1) [.int .i64 4, .int .i64 0, .int .i64 0, .int .i64 0, .int .i64 0, .int .i64 0, .int .i64 0, .int .i64 0, .int .i64 0, .int .i64 0, .int .i64 0, .int .i64 0, .int .i64 0, .slice none 0 0] ∧ Below w.heap.size w ((w.alloc (.cells #[.int .i64 0, .int .i64 0, .int .i64 0, .int .i64 0, .int .i64 0, .int .i64 0, .int .i64 0, .int .i64 0, .int .i64 0, .int .i64 0, .int .i64 0, .int .i64 0, .int .i64 0, .slice none 0 0] 26)).alloc (.cells #[.int .i64 4, .int .i64 0, .int .i64 0, .int .i64 0, .int .i64 0, .int .i64 0, .int .i64 0, .int .i64 0, .int .i64 0, .int .i64 0, .int .i64 0, .int .i64 0, .int .i64 0, .slice none 0 0] 26)) ∧ Below w.heap.size w (w.alloc (.cells #[.int .i64 0, .int .i64 0, .int .i64 0, .int .i64 0, .int .i64 0, .int .i64 0, .int .i64 0, .int .i64 0, .int .i64 0, .int .i64 0, .int .i64 0, .int .i64 0, .int .i64 0, .slice none 0 0] 26))) := ⟨(Bk.new w _ _).later (below_b1 _ _), (by have := Bk.new (w.alloc (.cells #[.int .i64 0, .int .i64 0, .int .i64 0, .int .i64 0, .int .i64 0, .int .i64 0, .int .i64 0, .int .i64 0, .int .i64 0, .int .i64 0, .int .i64 0, .int .i64 0, .int .i64 0, .slice none 0 0] 26)) [.int .i64 4, .int .i64 0, .int .i64 0, .int .i64 0, .int .i64 0, .int .i64 0, .int .i64 0, .int .i64 0, .int .i64 0, .int .i64 0, .int .i64 0, .int .i64 0, .int .i64 0, .slice none 0 0] 26; simp only [World.size_alloc] at this; exact this), below_b2 _ _ _, below_b1 _ _⟩
  have e0 := cell_later HB.out.2.2.2 (h6 0 hl)
  rw [Nat.add_zero, h0] at e0
  have bk := h4 0 hl
  rw [h0] at bk
  have wk : IntKind.i64.wrap 4 = 4 := by rw [IntKind.wrap_i64]; omega
  have c0' : ((xs.length : Int) == 0) = false := beq_eq_false_iff_ne.2 (by omega)
  have hln : (0 : Int) < xs.length := by omega
  have h1c : (1 : Int) ≤ cap := by omega
  have h1d : (1 : Int) ≤ xs.length := by omega
  have hs : ((w.alloc (.cells #[.int .i64 0, .int .i64 0, .int .i64 0, .int .i64 0, .int .i64 0, .int .i64 0, .int .i64 0, .int .i64 0, .int .i64 0, .int .i64 0, .int .i64 0, .int .i64 0, .int .i64 0, .slice none 0 0] 26)).alloc (.cells #[.int .i64 4, .int .i64 0, .int .i64 0, .int .i64 0, .int .i64 0, .int .i64 0, .int .i64 0, .int .i64 0, .int .i64 0, .int .i64 0, .int .i64 0, .int .i64 0, .int .i64 0, .slice none 0 0] 26)).heap.size = w.heap.size + 2 := by simp
  have HS : Hid (((w.alloc (.cells #[.int .i64 0, .int .i64 0, .int .i64 0, .int .i64 0, .int .i64 0, .int .i64 0, .int .i64 0, .int .i64 0, .int .i64 0, .int .i64 0, .int .i64 0, .int .i64 0, .int .i64 0, .slice none 0 0] 26)).alloc (.cells #[.int .i64 4, .int .i64 0, .int .i64 0, .int .i64 0, .int .i64 0, .int .i64 0, .int .i64 0, .int .i64 0, .int .i64 0, .int .i64 0, .int .i64 0, .int .i64 0, .int .i64 0, .slice none 0 0] 26)).heap.size = w.heap.size + 2) := hs
  clear h3 h4 h5 h6 h0 hs
  rcases Nat.lt_or_ge 1 cap with hc | hc
  case' inl =>
    have hc' : (1 : Int) < cap := by omega
    have HRV : Hid (∀ y, Below w.heap.size w y → Bys y (.slice (some ⟨bb, oo + 1, none⟩) (xs.length - 1) (cap - 1)) (xs.drop 1)) := fun y hy => (HV.out.1 y hy).rest1 (S := 1) HV.out.2.1 (oo + 1) (fun _ => rfl)
    go_enter Try.func11, Try.ntmps11
    go_wp2_with fail
    generalize hrv : Value.slice (some ⟨bb, oo + 1, none⟩) (xs.length - 1) (cap - 1) = rv at *
  case' inr =>
    obtain rfl : cap = 1 := by omega
    have hl1 : xs.length - 1 = 0 := by omega
    have HRV : Hid (∀ y, Below w.heap.size w y → Bys y (.slice (some ⟨bb, oo, none⟩) 0 0) (xs.drop 1)) := fun y hy => by
      have := (HV.out.1 y hy).rest1 (S := 1) HV.out.2.1 oo (fun h => absurd h (by omega))
      rw [hl1] at this
      exact this
    go_enter Try.func11, Try.ntmps11
    go_wp2_with fail
    generalize hrv : Value.slice (some ⟨bb, oo, none⟩) 0 0 = rv at *
  all_goals
    clear hrv
    generalize ((w.alloc (.cells #[.int .i64 0, .int .i64 0, .int .i64 0, .int .i64 0, .int .i64 0, .int .i64 0, .int .i64 0, .int .i64 0, .int .i64 0, .int .i64 0, .int .i64 0, .int .i64 0, .int .i64 0, .slice none 0 0] 26)).alloc (.cells #[.int .i64 4, .int .i64 0, .int .i64 0, .int .i64 0, .int .i64 0, .int .i64 0, .int .i64 0, .int .i64 0, .int .i64 0, .int .i64 0, .int .i64 0, .int .i64 0, .int .i64 0, .slice none 0 0] 26)) = W at *
    refine (had_any 4 _).mono ?_
    rintro e w4 ⟨v4, q, rfl, ho4, hw4, hb4⟩
    have HQ : Hid (∀ i, i < 12 → w.heap.size + 1 < q i) := fun i hi => by have := (hw4 i hi).2; have := HS.out; omega
    have ho5 : OwP w4 (w4.heap.size - w4.heap.size) v4 [none] := ho4.lower (by omega)
    rcases ho4.rd with ⟨hz, _⟩ | ⟨g, cap4, rfl, hg, hc4, hbk⟩
    · cases hz
    have HG : Hid (w.heap.size + 1 < g) := by have := HS.out; show _ < _; omega
    obtain ⟨ys, hys⟩ : ∃ ys, xs.drop 1 = ys := ⟨_, rfl⟩
    have HYS : Hid (xs.drop 1 = ys) := hys
    rw [hys] at HRV
    have HX : Hid (GtR (tkO [], ys) (.slice none 0 0) rv [none] q w.heap.size g w w4) := ⟨HRV.out, HB.out.2.1.later hb4, HB.out.1.later hb4, hbk, fun i hi => (hw4 i hi).1, HB.out.2.2.1.trans (hb4.mono HB.out.2.2.1.size)⟩
    clear ho4 ho5 hw4 hb4 hbk hg hc4 e0 hys
    go_wp2_with fail
    go_loopw [5, 24] (fun r iv wr => (iv = .int .i64 0 ∧ Hid (GtR (tkO [], ys) (.slice none 0 0) r [none] q w.heap.size g w wr)) ∨ (iv = .int .i64 1 ∧ Hid (∃ (n : Nat) (vd : Value), (ys.getD 0 0 = n ∧ 0 < ys.length ∧ n ≤ ys.length - 1) ∧ GtR (tkO ((ys.drop 1).take n), (ys.drop 1).drop n) vd r [none] q w.heap.size g w wr ∧ NuB wr (w.heap.size + 1) vd ((ys.drop 1).take n)))) (fun _ iv _ => (1 - intOf iv).toNat)
    case atStart => exact .inl ⟨by go_num, HX⟩
    case round =>
      clear HX HB HRV
      rcases hrel with ⟨rfl, HR⟩ | ⟨rfl, HR⟩
      · have HA : Hid (GtR (tkO [], ys) (.slice none 0 0) _ [none] q w.heap.size g w (wr.alloc (.cells #[.func (.func 51) #[] #[], .func (.func 54) #[] #[], .func (.func 55) #[] #[], .func (.func 56) #[] #[]] 52)) ∧ Bk (wr.alloc (.cells #[.func (.func 51) #[] #[], .func (.func 54) #[] #[], .func (.func 55) #[] #[], .func (.func 56) #[] #[]] 52)) wr.heap.size [.func (.func 51) #[] #[], .func (.func 54) #[] #[], .func (.func 55) #[] #[], .func (.func 56) #[] #[]]) := ⟨HR.out.later (below_b1 _ _), Bk.new _ _ _⟩
        go_wp2_with (refine load_bk rfl 52 _ rfl g 0 [.func (.func 51) #[] #[], .func (.func 54) #[] #[], .func (.func 55) #[] #[], .func (.func 56) #[] #[]] [.func (.func 51) #[] #[], .func (.func 54) #[] #[], .func (.func 55) #[] #[], .func (.func 56) #[] #[]] rfl HR.out.2.2.2.1 rfl _ Try.underlying52 rfl (by kernel_rfl) ?_)
        refine (lget_any (w.heap.size + 1) [.int .i64 4, .int .i64 0, .int .i64 0, .int .i64 0, .int .i64 0, .int .i64 0, .int .i64 0, .int .i64 0, .int .i64 0, .int .i64 0, .int .i64 0, .int .i64 0, .int .i64 0, .slice none 0 0] _ ys _ (HA.out.1.1 _ HA.out.1.2.2.2.2.2) (fun w' hg => GtR.bys HA.out.1 hg) HA.out.1.2.1 rfl rfl).mono ?_
        rintro e w5 h5
        rcases h5 with ⟨hlen, rfl, rfl⟩ | ⟨n, hn0, hn1, hn2, v5, vd, rfl, hv5, hnd, hkb, hgb⟩
        · have HF : Hid (IsGet xs owZ false) := isGet_t1 HV.out.2.2 (by rw [HYS.out]; exact hlen)
          clear hlen
          generalize hW5 : (wr.alloc (.cells #[.func (.func 51) #[] #[], .func (.func 54) #[] #[], .func (.func 55) #[] #[], .func (.func 56) #[] #[]] 52)) = W5 at *
          clear hW5
          go_wp2_with (refine store_bk rfl 26 _ _ rfl w.heap.size 0 [.int .i64 0, .int .i64 0, .int .i64 0, .int .i64 0, .int .i64 0, .int .i64 0, .int .i64 0, .int .i64 0, .int .i64 0, .int .i64 0, .int .i64 0, .int .i64 0, .int .i64 0, .slice none 0 0] [.int .i64 0, .int .i64 0, .int .i64 0, .int .i64 0, .int .i64 0, .int .i64 0, .int .i64 0, .int .i64 0, .int .i64 0, .int .i64 0, .int .i64 0, .int .i64 0, .int .i64 0, .slice none 0 0] [.int .i64 0, .int .i64 0, .int .i64 0, .int .i64 0, .int .i64 0, .int .i64 0, .int .i64 0, .int .i64 0, .int .i64 0, .int .i64 0, .int .i64 0, .int .i64 0, .int .i64 0, .slice none 0 0] rfl rfl 14 rfl HA.out.1.2.2.1 (Nat.le_refl _) rfl (by kernel_rfl) one14z ?_; intro w7 h1 h2 h3 h4)
          exact ret_ct (ty := 26) rfl w.heap.size [.int .i64 0, .int .i64 0, .int .i64 0, .int .i64 0, .int .i64 0, .int .i64 0, .int .i64 0, .int .i64 0, .int .i64 0, .int .i64 0, .int .i64 0, .int .i64 0, .int .i64 0, .slice none 0 0] (.bool false) rfl h1 _ Try.underlying26 rfl (by kernel_rfl) rfl rfl (GetE.none (HF.out) (h3 _ _ (Nat.le_refl _) HA.out.1.2.2.2.2.2))
        · have HF : Hid (∃ (n : Nat) (vd : Value), (ys.getD 0 0 = n ∧ 0 < ys.length ∧ n ≤ ys.length - 1) ∧ GtR (tkO ((ys.drop 1).take n), (ys.drop 1).drop n) vd v5 [none] q w.heap.size g w w5 ∧ NuB w5 (w.heap.size + 1) vd ((ys.drop 1).take n)) := ⟨n, vd, ⟨hn0, hn1, hn2⟩, HA.out.1.turn hgb (fun z hz => hv5 z (HA.out.1.1 z hz)) hkb HG.out HQ.out, NuB.own hnd (Nat.le_of_lt HA.out.1.2.1.lt)⟩
          clear hn0 hn1 hn2 hv5 hnd hkb hgb HA
          go_wp2_with fail
          go_roundw
          case rel => exact .inr ⟨by go_num, HF⟩
          case measure => simp [intOf]
      · obtain ⟨n, vd, ⟨hn0, hn1, hn2⟩, hR, hnd⟩ := HR.out
        obtain ⟨ar, capr, er, _⟩ := hR.1 _ hR.2.2.2.2.2
        subst er
        obtain ⟨az, zz, cz, rfl⟩ : ∃ a z c, vd = .slice a z c := by obtain ⟨a, c, e, _⟩ := hnd.nums; exact ⟨a, _, c, e⟩
        have HR2 : Hid (Bk wr (w.heap.size + 1) (oL (tkO ((ys.drop 1).take n)) (.slice az zz cz)) ∧ Bk wr w.heap.size [.int .i64 0, .int .i64 0, .int .i64 0, .int .i64 0, .int .i64 0, .int .i64 0, .int .i64 0, .int .i64 0, .int .i64 0, .int .i64 0, .int .i64 0, .int .i64 0, .int .i64 0, .slice none 0 0] ∧ Below w.heap.size w wr ∧ NuB wr (w.heap.size + 1) (.slice az zz cz) ((ys.drop 1).take n)) := ⟨hR.2.1, hR.2.2.1, hR.2.2.2.2.2, hnd⟩
        have HN0 : Hid (ys.getD 0 0 = n ∧ 0 < ys.length ∧ n ≤ ys.length - 1) := ⟨hn0, hn1, hn2⟩
        have HT2 : Hid (((ys.drop 1).drop n).length ≠ 0 → IsGet xs owZ false) := fun h => isGet_t2 HV.out.2.2 (by rw [HYS.out]; exact HN0.out.1) (by rw [HYS.out]; exact h)
        have HT3 : Hid (((ys.drop 1).drop n).length = 0 → IsGet xs (bif omB (tkO ((ys.drop 1).take n)) then tkO ((ys.drop 1).take n) else owZ) (omB (tkO ((ys.drop 1).take n)))) := fun h => by
          have := isGet_t3 (n := n) HV.out.2.2 (by rw [HYS.out]; exact HN0.out.2.1) (by rw [HYS.out]; exact HN0.out.1) (by rw [HYS.out]; exact HN0.out.2.2) (by rw [HYS.out]; exact h)
          rw [HYS.out] at this
          exact this
        clear hn0 hn1 hn2 hR hnd HR
        have hrl : ((tkO ((ys.drop 1).take n), (ys.drop 1).drop n).2).length = ((ys.drop 1).drop n).length := rfl
        rw [hrl]
        clear hrl
        generalize (ys.drop 1).take n = D at *
        generalize ((ys.drop 1).drop n).length = m at *
        by_cases hz : m = 0
        · have HO := HT3.out hz
          subst hz
          have HB2 : Hid (Bk wr (w.heap.size + 1) ([.int .i64 4, .int .i64 0, .int .i64 0, .int .i64 0, .int .i64 0, .int .i64 0, .int .i64 0, .int .i64 0, .int .i64 0, .int .i64 0, .int .i64 0, .int .i64 0, .int .i64 0, .slice az zz cz] : List Value)) := HR2.out.1
          obtain ⟨y, hy⟩ : ∃ y, omB (tkO D) = y := ⟨_, rfl⟩
          have HY : Hid (omB ⟨4, 0, ⟨0, 0, 0, 0, 0, 0⟩, 0, 0, 0, 0, 0, D⟩ = y) := hy
          rw [hy] at HO
          have HO2 : Hid (IsGet xs (bif y then tkO D else owZ) y) := HO
          clear hy HO
          go_wp2_with (refine load_bkG rfl 26 _ rfl (w.heap.size + 1) 0 [.int .i64 4, .int .i64 0, .int .i64 0, .int .i64 0, .int .i64 0, .int .i64 0, .int .i64 0, .int .i64 0, .int .i64 0, .int .i64 0, .int .i64 0, .int .i64 0, .int .i64 0, .slice az zz cz] [.int .i64 4, .int .i64 0, .int .i64 0, .int .i64 0, .int .i64 0, .int .i64 0, .int .i64 0, .int .i64 0, .int .i64 0, .int .i64 0, .int .i64 0, .int .i64 0, .int .i64 0, .slice az zz cz] rfl HB2.out rfl _ Try.underlying26 rfl (by kernel_rfl) ?_)
          refine (wmay16_any 4 0 0 0 0 0 0 0 0 0 0 0 0 (.slice az zz cz) D _ HR2.out.2.2.2.nums).mono ?_
          rintro e w6 ⟨rfl, hb6⟩
          rw [HY.out]
          have HR3 : Hid (Bk w6 (w.heap.size + 1) ([.int .i64 4, .int .i64 0, .int .i64 0, .int .i64 0, .int .i64 0, .int .i64 0, .int .i64 0, .int .i64 0, .int .i64 0, .int .i64 0, .int .i64 0, .int .i64 0, .int .i64 0, .slice az zz cz] : List Value) ∧ Bk w6 w.heap.size [.int .i64 0, .int .i64 0, .int .i64 0, .int .i64 0, .int .i64 0, .int .i64 0, .int .i64 0, .int .i64 0, .int .i64 0, .int .i64 0, .int .i64 0, .int .i64 0, .int .i64 0, .slice none 0 0] ∧ Below w.heap.size w w6 ∧ NuB w6 (w.heap.size + 1) (.slice az zz cz) D) := ⟨HB2.out.later hb6, HR2.out.2.1.later hb6, HR2.out.2.2.1.trans (hb6.mono HR2.out.2.2.1.size), HR2.out.2.2.2.later hb6⟩
          clear hb6 HR2 HB2
          cases y with
          | false =>
            go_wp2_with (refine store_bk rfl 26 _ _ rfl w.heap.size 0 [.int .i64 0, .int .i64 0, .int .i64 0, .int .i64 0, .int .i64 0, .int .i64 0, .int .i64 0, .int .i64 0, .int .i64 0, .int .i64 0, .int .i64 0, .int .i64 0, .int .i64 0, .slice none 0 0] [.int .i64 0, .int .i64 0, .int .i64 0, .int .i64 0, .int .i64 0, .int .i64 0, .int .i64 0, .int .i64 0, .int .i64 0, .int .i64 0, .int .i64 0, .int .i64 0, .int .i64 0, .slice none 0 0] [.int .i64 0, .int .i64 0, .int .i64 0, .int .i64 0, .int .i64 0, .int .i64 0, .int .i64 0, .int .i64 0, .int .i64 0, .int .i64 0, .int .i64 0, .int .i64 0, .int .i64 0, .slice none 0 0] rfl rfl 14 rfl HR3.out.2.1 (Nat.le_refl _) rfl (by kernel_rfl) one14z ?_; intro w7 h1 h2 h3 h4)
            exact ret_ct (ty := 26) rfl w.heap.size [.int .i64 0, .int .i64 0, .int .i64 0, .int .i64 0, .int .i64 0, .int .i64 0, .int .i64 0, .int .i64 0, .int .i64 0, .int .i64 0, .int .i64 0, .int .i64 0, .int .i64 0, .slice none 0 0] (.bool false) rfl h1 _ Try.underlying26 rfl (by kernel_rfl) rfl rfl (GetE.none (HO2.out) (h3 _ _ (Nat.le_refl _) HR3.out.2.2.1))
          | true =>
            go_wp2_with (first
              | (refine store_bk rfl 26 _ _ rfl w.heap.size 0 [.int .i64 0, .int .i64 0, .int .i64 0, .int .i64 0, .int .i64 0, .int .i64 0, .int .i64 0, .int .i64 0, .int .i64 0, .int .i64 0, .int .i64 0, .int .i64 0, .int .i64 0, .slice none 0 0] [.int .i64 4, .int .i64 0, .int .i64 0, .int .i64 0, .int .i64 0, .int .i64 0, .int .i64 0, .int .i64 0, .int .i64 0, .int .i64 0, .int .i64 0, .int .i64 0, .int .i64 0, .slice az zz cz] [.int .i64 4, .int .i64 0, .int .i64 0, .int .i64 0, .int .i64 0, .int .i64 0, .int .i64 0, .int .i64 0, .int .i64 0, .int .i64 0, .int .i64 0, .int .i64 0, .int .i64 0, .slice az zz cz] rfl rfl 14 rfl HR3.out.2.1 (Nat.le_refl _) rfl (by kernel_rfl) (one14v _ _ _) ?_; intro w7 h1 h2 h3 h4)
              | (refine load_bk rfl 26 _ rfl (w.heap.size + 1) 0 [.int .i64 4, .int .i64 0, .int .i64 0, .int .i64 0, .int .i64 0, .int .i64 0, .int .i64 0, .int .i64 0, .int .i64 0, .int .i64 0, .int .i64 0, .int .i64 0, .int .i64 0, .slice az zz cz] [.int .i64 4, .int .i64 0, .int .i64 0, .int .i64 0, .int .i64 0, .int .i64 0, .int .i64 0, .int .i64 0, .int .i64 0, .int .i64 0, .int .i64 0, .int .i64 0, .int .i64 0, .slice az zz cz] rfl HR3.out.1 rfl _ Try.underlying26 rfl (by kernel_rfl) ?_))
            have HNB : NuB w7 (w.heap.size + 1) (.slice az zz cz) D := HR3.out.2.2.2.put h2
            exact ret_ct (ty := 26) rfl w.heap.size [.int .i64 4, .int .i64 0, .int .i64 0, .int .i64 0, .int .i64 0, .int .i64 0, .int .i64 0, .int .i64 0, .int .i64 0, .int .i64 0, .int .i64 0, .int .i64 0, .int .i64 0, .slice az zz cz] (.bool true) rfl h1 _ Try.underlying26 rfl (by kernel_rfl) rfl rfl ⟨_, _, _, _, _, _, _, _, _, _, _, _, _, _, D, true, rfl, HNB.nums, HO2.out, h3 _ _ (Nat.le_refl _) HR3.out.2.2.1⟩
        · have HF : Hid (IsGet xs owZ false) := HT2.out hz
          have hz' : (0 : Int) < (m : Int) := by omega
          have hz2 : 0 < m := by omega
          clear hz
          go_wp2_with (refine store_bk rfl 26 _ _ rfl w.heap.size 0 [.int .i64 0, .int .i64 0, .int .i64 0, .int .i64 0, .int .i64 0, .int .i64 0, .int .i64 0, .int .i64 0, .int .i64 0, .int .i64 0, .int .i64 0, .int .i64 0, .int .i64 0, .slice none 0 0] [.int .i64 0, .int .i64 0, .int .i64 0, .int .i64 0, .int .i64 0, .int .i64 0, .int .i64 0, .int .i64 0, .int .i64 0, .int .i64 0, .int .i64 0, .int .i64 0, .int .i64 0, .slice none 0 0] [.int .i64 0, .int .i64 0, .int .i64 0, .int .i64 0, .int .i64 0, .int .i64 0, .int .i64 0, .int .i64 0, .int .i64 0, .int .i64 0, .int .i64 0, .int .i64 0, .int .i64 0, .slice none 0 0] rfl rfl 14 rfl HR2.out.2.1 (Nat.le_refl _) rfl (by kernel_rfl) one14z ?_; intro w7 h1 h2 h3 h4)
          exact ret_ct (ty := 26) rfl w.heap.size [.int .i64 0, .int .i64 0, .int .i64 0, .int .i64 0, .int .i64 0, .int .i64 0, .int .i64 0, .int .i64 0, .int .i64 0, .int .i64 0, .int .i64 0, .int .i64 0, .int .i64 0, .slice none 0 0] (.bool false) rfl h1 _ Try.underlying26 rfl (by kernel_rfl) rfl rfl (GetE.none (HF.out) (h3 _ _ (Nat.le_refl _) HR2.out.2.2.1))
end Go.Proofs.Yteklcolphbcjlaa
