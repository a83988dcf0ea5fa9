/- Walks of package plan: all tasks at the periods of their units. -/
import Derived.Test.YtmiakknagjncpaaGreatDoorC7
namespace Go.Proofs.YtmiakknagjncpaaGreatDoor
open Go.RowKit Go.Shelf

def zF : Fx := ⟨0, 0, 0, 0, 0, 0, 0⟩
def upF (f : Nat → Fx) (i : Nat) (x : Fx) (a : Nat) : Fx := if a = i then x else f a
def toF (j : Nat) (f : Nat → Fx) (i : Nat) : Fx := if i < j then f i else zF
theorem toF_step (j : Nat) (f : Nat → Fx) (i : Nat) : upF (toF j f) j (f j) i = toF (j + 1) f i := by
  unfold upF toF
  by_cases c : i = j
  · subst c; rw [if_pos rfl, if_pos (by omega)]
  · rw [if_neg c]
    by_cases d : i < j
    · rw [if_pos d, if_pos (by omega)]
    · rw [if_neg d, if_neg (by omega)]
theorem flatF_get (n : Nat) (f : Nat → Fx) (t : Nat) (ht : t < n * 7) : (flatF n f)[t]? = some (.int .i64 ((f (t / 7)).at (t % 7))) := by
  have := flatF_at n f (t / 7) (t % 7) (by omega) (by omega)
  rwa [show t / 7 * 7 + t % 7 = t by omega] at this
theorem flatF_to0 (n : Nat) (f : Nat → Fx) : flatF n (toF 0 f) = flatF n (fun _ => zF) := flatF_congr fun _ _ => if_neg (Nat.not_lt_zero _)
theorem flatF_ton (n : Nat) (f : Nat → Fx) : flatF n (toF n f) = flatF n f := flatF_congr fun _ hi => if_pos hi
theorem made_flatF (n : Nat) : (madeCells #[.int .i64 0, .int .i64 0, .int .i64 0, .int .i64 0, .int .i64 0, .int .i64 0, .int .i64 0] (n * 7)).toList = flatF n (fun _ => zF) := by
  apply List.ext_getElem?
  intro t
  by_cases ht : t < n * 7
  · rw [flatF_get _ _ _ ht]
    rcases (show t % 7 = 0 ∨ t % 7 = 1 ∨ t % 7 = 2 ∨ t % 7 = 3 ∨ t % 7 = 4 ∨ t % 7 = 5 ∨ t % 7 = 6 by omega) with d | d | d | d | d | d | d <;> simp [madeCells, ht, d, zF, Fx.at]
  · rw [List.getElem?_eq_none (by simp [madeCells]; omega), List.getElem?_eq_none (by rw [flatF_len]; omega)]
theorem flatF_put {n : Nat} {f : Nat → Fx} {i : Nat} {c t x m k e p : Int} : (((((((flatF n f).set (i * 7) (.int .i64 c)).set (i * 7 + 1) (.int .i64 t)).set (i * 7 + 2) (.int .i64 x)).set (i * 7 + 3) (.int .i64 m)).set (i * 7 + 4) (.int .i64 k)).set (i * 7 + 5) (.int .i64 e)).set (i * 7 + 6) (.int .i64 p) = flatF n (upF f i ⟨c, t, x, m, k, e, p⟩) := by
  apply List.ext_getElem?
  intro q
  by_cases hq : q < n * 7
  · rw [flatF_get n (upF f i ⟨c, t, x, m, k, e, p⟩) q hq, List.getElem?_set, List.getElem?_set, List.getElem?_set, List.getElem?_set, List.getElem?_set, List.getElem?_set, List.getElem?_set]
    simp only [List.length_set, flatF_len]
    rw [flatF_get n f q hq]
    unfold upF
    by_cases d : q / 7 = i
    · rw [if_pos d]
      rcases (show q % 7 = 0 ∨ q % 7 = 1 ∨ q % 7 = 2 ∨ q % 7 = 3 ∨ q % 7 = 4 ∨ q % 7 = 5 ∨ q % 7 = 6 by omega) with r | r | r | r | r | r | r
      · rw [if_neg (by omega), if_neg (by omega), if_neg (by omega), if_neg (by omega), if_neg (by omega), if_neg (by omega), if_pos (by omega), if_pos (by omega), r]; rfl
      · rw [if_neg (by omega), if_neg (by omega), if_neg (by omega), if_neg (by omega), if_neg (by omega), if_pos (by omega), if_pos (by omega), r]; rfl
      · rw [if_neg (by omega), if_neg (by omega), if_neg (by omega), if_neg (by omega), if_pos (by omega), if_pos (by omega), r]; rfl
      · rw [if_neg (by omega), if_neg (by omega), if_neg (by omega), if_pos (by omega), if_pos (by omega), r]; rfl
      · rw [if_neg (by omega), if_neg (by omega), if_pos (by omega), if_pos (by omega), r]; rfl
      · rw [if_neg (by omega), if_pos (by omega), if_pos (by omega), r]; rfl
      · rw [if_pos (by omega), if_pos (by omega), r]; rfl
    · rw [if_neg d, if_neg (by omega), if_neg (by omega), if_neg (by omega), if_neg (by omega), if_neg (by omega), if_neg (by omega), if_neg (by omega)]
  · rw [List.getElem?_eq_none (by simp [flatF_len]; omega), List.getElem?_eq_none (by rw [flatF_len]; omega)]
theorem OwnF.put {w : World} {base g n cap : Nat} {f : Nat → Fx} {i : Nat} (h : OwnF w base (.slice (some ⟨g, 0, none⟩) n cap) n f) (c t x m k e p : Int) :
    OwnF (((((((w.setCell ⟨g, i * 7, none⟩ (.int .i64 c)).setCell ⟨g, i * 7 + 1, none⟩ (.int .i64 t)).setCell ⟨g, i * 7 + 2, none⟩ (.int .i64 x)).setCell ⟨g, i * 7 + 3, none⟩ (.int .i64 m)).setCell ⟨g, i * 7 + 4, none⟩ (.int .i64 k)).setCell ⟨g, i * 7 + 5, none⟩ (.int .i64 e)).setCell ⟨g, i * 7 + 6, none⟩ (.int .i64 p)) base (.slice (some ⟨g, 0, none⟩) n cap) n (upF f i ⟨c, t, x, m, k, e, p⟩) := by
  unfold OwnF at h ⊢
  have := (((((((h.stored (i * 7) (.int .i64 c)).1.stored (i * 7 + 1) (.int .i64 t)).1.stored (i * 7 + 2) (.int .i64 x)).1.stored (i * 7 + 3) (.int .i64 m)).1.stored (i * 7 + 4) (.int .i64 k)).1.stored (i * 7 + 5) (.int .i64 e)).1.stored (i * 7 + 6) (.int .i64 p)).1
  rwa [flatF_put] at this
theorem OwnF.later {w w' : World} {base : Nat} {v : Value} {n : Nat} {f : Nat → Fx} (h : OwnF w base v n f) (hb : Below w.heap.size w w') : OwnF w' base v n f := own_laterF h hb
theorem OwnF.congr {w : World} {base : Nat} {v : Value} {n : Nat} {f g : Nat → Fx} (h : OwnF w base v n f) (hg : ∀ i, i < n → f i = g i) : OwnF w base v n g := by
  unfold OwnF at h ⊢
  rwa [flatF_congr hg] at h

set_option maxHeartbeats 2000000 in
set_option maxRecDepth 100000 in
theorem eachF_any (n : Nat) (s : Nat → Sp) (ya : Nat → Int) (p : Nat) (v : Value) (w : World) (h : Sps w v n s) (hn : n ≤ 4) (hp : 0 < n → ∃ bx ox l cap', n ≤ l ∧ w.cell? ⟨p, 0, none⟩ = some (.slice (some ⟨bx, ox, none⟩) l cap') ∧ ∀ i, i < n → w.cell? ⟨bx, ox + i, none⟩ = some (.int .i64 (ya i))) :
    Calls Tryz.prog 25 #[v, .func (.func 26) #[] #[.pointer (some ⟨p, 0, none⟩)]] w fun r w' => ∃ x, r = .returned x ∧ OwnF w' w.heap.size x n (fun i => ⟨(s i).c, (s i).t, (s i).x, (s i).m, (s i).k, (s i).e, ofP (s i) (ya i)⟩) ∧ Below w.heap.size w w' := by
  obtain ⟨i0, hi, hz0, hz1, hz2⟩ := info_parts Tryz.infoFix
  obtain ⟨a, cap, rfl, h1, h2, h0, h3⟩ := h
  have HP : Hid (0 < n → ∃ bx ox l cap', n ≤ l ∧ w.cell? ⟨p, 0, none⟩ = some (.slice (some ⟨bx, ox, none⟩) l cap') ∧ ∀ i, i < n → w.cell? ⟨bx, ox + i, none⟩ = some (.int .i64 (ya i))) := hp
  clear hp
  obtain ⟨F, hF⟩ : ∃ F : Nat → Fx, (fun i => (⟨(s i).c, (s i).t, (s i).x, (s i).m, (s i).k, (s i).e, ofP (s i) (ya i)⟩ : Fx)) = F := ⟨_, rfl⟩
  have HFF : Hid (∀ i, F i = ⟨(s i).c, (s i).t, (s i).x, (s i).m, (s i).k, (s i).e, ofP (s i) (ya i)⟩) := fun i => by rw [← hF]
  rw [hF]
  clear hF
  go_enter Tryz.func25, Tryz.ntmps25
  go_wp2_with (first
    | (at_make; refine wpList_make_full _ rfl _ _ 23 rfl w.heap.size 42 i0 (.agg #[.int .i64 0, .int .i64 0, .int .i64 0, .int .i64 0, .int .i64 0, .int .i64 0, .int .i64 0]) 7 Tryz.underlying23 hi hz0 hz1 .i64 .i64 n n n rfl rfl rfl rfl (by rw [hz2]; omega) (by unfold maxLen; omega) (Nat.le_refl _) ?_; intro w3 hown hgrow))
  rw [show Value.cells (.agg #[.int .i64 0, .int .i64 0, .int .i64 0, .int .i64 0, .int .i64 0, .int .i64 0, .int .i64 0]) = #[.int .i64 0, .int .i64 0, .int .i64 0, .int .i64 0, .int .i64 0, .int .i64 0, .int .i64 0] from rfl, made_flatF] at hown
  have hb3 : Below w.heap.size w w3 := (Below.refl _ _).grown hgrow (Nat.le_refl _) (by intro k hk; cases hk)
  clear hgrow hi hz0 hz1 hz2
  go_wp2_with fail
  go_loopw [13] (fun i wr => ∃ (j : Nat), j ≤ n ∧ i = .int .i64 j ∧ Hid (OwnF wr w.heap.size (.slice (some ⟨w.heap.size, 0, none⟩) n n) n (toF j F)) ∧ Below w.heap.size w wr) (fun i _ => ((n : Int) - intOf i).toNat)
  case atStart => exact ⟨0, by omega, rfl, by show OwnF _ _ _ _ _; unfold OwnF; rw [flatF_to0]; exact hown, hb3⟩
  case round =>
    obtain ⟨j, hj, rfl, HO, hbw⟩ := hrel
    by_cases hlt : (j : Int) < n
    · obtain ⟨bk, o, rfl, h4⟩ := h3 (by omega)
      have hrow := rowS_open (f := s j) (h4 j (by omega))
      clear h4 h3
      obtain ⟨⟨cj, tj, xj, mj, kj, ej⟩, hf⟩ : ∃ y, s j = y := ⟨_, rfl⟩
      have HF : Hid (s j = ⟨cj, tj, xj, mj, kj, ej⟩) := hf
      rw [hf] at hrow
      clear hf
      obtain ⟨k0, k1, k2, k3, k4, k5⟩ := hrow
      simp only at k0 k1 k2 k3 k4 k5
      have e0 := cell_later hbw k0
      have e1 := cell_later hbw k1
      have e2 := cell_later hbw k2
      have e3 := cell_later hbw k3
      have e4 := cell_later hbw k4
      have e5 := cell_later hbw k5
      have sb := World.block_lt_of_cell? _ _ k0
      clear k0 k1 k2 k3 k4 k5
      have sw := hbw.size
      have hbox : Below w.heap.size w (wr.alloc (.cells #[.int .i64 cj, .int .i64 tj, .int .i64 xj, .int .i64 mj, .int .i64 kj, .int .i64 ej] 38)) := hbw.alloc sw _
      have HO1 : Hid (OwnF (wr.alloc (.cells #[.int .i64 cj, .int .i64 tj, .int .i64 xj, .int .i64 mj, .int .i64 kj, .int .i64 ej] 38)) w.heap.size (.slice (some ⟨w.heap.size, 0, none⟩) n n) n (toF j F)) := HO.out.later ((Below.refl _ _).alloc (Nat.le_refl _) _)
      obtain ⟨bx, ox, l, cap', hl, hp, hy⟩ := HP.out (by omega)
      have HP1 : Hid ((wr.alloc (.cells #[.int .i64 cj, .int .i64 tj, .int .i64 xj, .int .i64 mj, .int .i64 kj, .int .i64 ej] 38)).cell? ⟨p, 0, none⟩ = some (.slice (some ⟨bx, ox, none⟩) l cap')) := cell_later hbox hp
      have HY1 : Hid ((wr.alloc (.cells #[.int .i64 cj, .int .i64 tj, .int .i64 xj, .int .i64 mj, .int .i64 kj, .int .i64 ej] 38)).cell? ⟨bx, ox + j, none⟩ = some (.int .i64 (ya j))) := cell_later hbox (hy j (by omega))
      clear hp hy
      go_wp2_with fail
      refine (tgt1_any j l cap' bx ox p (ya j) cj tj xj mj kj ej _ HP1.out HY1.out (by omega)).mono ?_
      rintro r w4 ⟨rfl, hb4⟩
      have hown4 := HO1.out.later hb4
      have HB4 : Hid (Below w.heap.size w w4) := hbox.trans (hb4.mono hbox.size)
      have HV : Hid (F j = ⟨cj, tj, xj, mj, kj, ej, ofP ⟨cj, tj, xj, mj, kj, ej⟩ (ya j)⟩) := by show _ = _; rw [HFF.out, HF.out]
      obtain ⟨yj, hyj⟩ : ∃ y, ofP ⟨cj, tj, xj, mj, kj, ej⟩ (ya j) = y := ⟨_, rfl⟩
      have HST : Hid (OwnF (((((((w4.setCell ⟨w.heap.size, j * 7, none⟩ (.int .i64 cj)).setCell ⟨w.heap.size, j * 7 + 1, none⟩ (.int .i64 tj)).setCell ⟨w.heap.size, j * 7 + 2, none⟩ (.int .i64 xj)).setCell ⟨w.heap.size, j * 7 + 3, none⟩ (.int .i64 mj)).setCell ⟨w.heap.size, j * 7 + 4, none⟩ (.int .i64 kj)).setCell ⟨w.heap.size, j * 7 + 5, none⟩ (.int .i64 ej)).setCell ⟨w.heap.size, j * 7 + 6, none⟩ (.int .i64 yj)) w.heap.size (.slice (some ⟨w.heap.size, 0, none⟩) n n) n (toF (j + 1) F)) := by
        refine (hown4.put (i := j) cj tj xj mj kj ej yj).congr fun i _ => ?_
        rw [← toF_step, HV.out, hyj]
      rw [hyj]
      clear hyj
      obtain ⟨q0, p0⟩ := hown4.cell (i := j) (j := 0) (by omega) (by omega)
      obtain ⟨q1, p1⟩ := hown4.cell (i := j) (j := 1) (by omega) (by omega)
      obtain ⟨q2, p2⟩ := hown4.cell (i := j) (j := 2) (by omega) (by omega)
      obtain ⟨q3, p3⟩ := hown4.cell (i := j) (j := 3) (by omega) (by omega)
      obtain ⟨q4, p4⟩ := hown4.cell (i := j) (j := 4) (by omega) (by omega)
      obtain ⟨q5, p5⟩ := hown4.cell (i := j) (j := 5) (by omega) (by omega)
      obtain ⟨q6, p6⟩ := hown4.cell (i := j) (j := 6) (by omega) (by omega)
      simp only [Nat.add_zero] at q0 p0
      clear hown4 HO1 HO hb4 hbox HV
      go_wp2_with fail
      go_roundw
      case rel => exact ⟨j + 1, by omega, by go_num, HST.out, below7 HB4.out (Nat.le_refl _) _ _ _ _ _ _ _⟩
      case measure => simp [intOf]; omega
    · obtain rfl : j = n := by omega
      have HO2 : Hid (OwnF wr w.heap.size (.slice (some ⟨w.heap.size, 0, none⟩) j j) j F) := HO.out.congr fun i hi => if_pos hi
      go_wp2
      go_ret
      exact ⟨_, rfl, HO2.out, hbw⟩
end Go.Proofs.YtmiakknagjncpaaGreatDoor
