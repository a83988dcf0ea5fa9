/- Walks: drain, heapOf, Sort. -/
import Derived.Test.YtjaaabliefcgaaaH10
namespace Go.Proofs.Ytjaaabliefcgaaa
open Go.RowKit
set_option linter.unusedVariables false

theorem made_flat (n : Nat) : (madeCells #[.int .i64 0, .int .i64 0] (n * 2)).toList = flat (List.replicate n (0, 0)) := by
  apply List.ext_getElem?
  intro j
  by_cases hj : j < n * 2
  · have h2 : j / 2 < (List.replicate n ((0 : Int), (0 : Int))).length := by simp; omega
    obtain ⟨k0, k1⟩ := flat_at _ (j / 2) h2
    have e : atI (List.replicate n ((0 : Int), (0 : Int))) (j / 2) = (0, 0) := by unfold atI List.getD; rw [List.getElem?_replicate]; split <;> rfl
    rw [e] at k0 k1
    rcases Nat.mod_two_eq_zero_or_one j with m | m
    · rw [show j / 2 * 2 = j by omega] at k0; rw [k0]; simp [madeCells, hj, m]
    · rw [show j / 2 * 2 + 1 = j by omega] at k1; rw [k1]; simp [madeCells, hj, m]
  · rw [List.getElem?_eq_none (by simp [size_madeCells]; omega), List.getElem?_eq_none (by rw [flat_len]; simp; omega)]

/-- What holds while items are taken. -/
structure DrR (B p cap n L : Nat) (a : Option Addr) (xs : List (Int × Int)) (w wr : World) (j : Nat) (ts hs : List (Int × Int)) : Prop where
  lj : ts.length = j
  lh : hs.length + j = n
  own : wr.ownsRow L 50 2 (.slice (some ⟨L, 0, none⟩) n n) n (flat (ts ++ List.replicate (n - j) (0, 0)))
  hp : Hp B wr p a cap hs
  hh : heapN hs hs.length
  per : (ts ++ hs).Perm xs
  st : srtd ts
  lo : ∀ t ∈ ts, ∀ h ∈ hs, ile t h
  kp : Kept p a w wr
theorem set_front {ts : List (Int × Int)} {m : Nat} (x y : Int × Int) : (ts ++ List.replicate (m + 1) y).set ts.length x = (ts ++ [x]) ++ List.replicate m y := by
  rw [List.set_append_right _ _ (Nat.le_refl _)]; simp [List.replicate_succ]
theorem head_least {xs : List (Int × Int)} (h : heapN xs xs.length) : ∀ y ∈ xs, ile (atI xs 0) y := by
  intro y hy
  obtain ⟨k, hk⟩ := List.getElem?_of_mem hy
  have hl := (List.getElem?_eq_some_iff.1 hk).1
  have := heap_min h k hl
  rwa [atI_of hk] at this
theorem DrR.step {B p cap n L j m : Nat} {a : Option Addr} {xs : List (Int × Int)} {w wr w2 : World} {ts hs ys : List (Int × Int)} (h : DrR B p cap n L a xs w wr j ts hs) (hm : hs.length = m + 1)
    (hp : Hp B w2 p a cap ys) (hl : ys.length = m) (hh : heapN ys m) (per : (atI hs 0 :: ys).Perm hs) (kp : Kept p a wr w2) (hL : L ≠ p) (hL2 : some L ≠ a.map (·.block)) (hLw : w.heap.size ≤ L) :
    DrR B p cap n L a xs w ((w2.setCell ⟨L, j * 2, none⟩ (.int .i64 (atI hs 0).1)).setCell ⟨L, j * 2 + 1, none⟩ (.int .i64 (atI hs 0).2)) (j + 1) (ts ++ [atI hs 0]) ys := by
  obtain ⟨h1, h2, h3, h4, h5, h6, h7, h8, h9⟩ := h
  have hLr := (h3.lt L rfl).2
  have o2 : w2.ownsRow L 50 2 (.slice (some ⟨L, 0, none⟩) n n) n (flat (ts ++ List.replicate (n - j) (0, 0))) := by
    refine ⟨h3.1, ?_⟩
    obtain ⟨_, ⟨e, _⟩ | ⟨g, c, cur, e, r1, r2, r3⟩⟩ := h3
    · simp at e
    · simp only [Value.slice.injEq, Option.some.injEq, Addr.mk.injEq, and_true, true_and] at e
      obtain ⟨rfl, rfl⟩ := e
      exact Or.inr ⟨L, n, cur, rfl, r1, (kp.block L hLr hL hL2).trans r2, r3⟩
  refine ⟨by simp [h1], by omega, ?_, (hp.mine (w0 := w) hL hL2 _).mine (w0 := w) hL hL2 _, by rw [hl]; exact hh, ?_, ?_, ?_, ((h9.trans kp).mine hLw _).mine hLw _⟩
  · have o3 := ((o2.stored (j * 2) (.int .i64 (atI hs 0).1)).1.stored (j * 2 + 1) (.int .i64 (atI hs 0).2)).1
    rw [← flat_set] at o3
    rw [show n - j = (n - (j + 1)) + 1 by omega, ← h1, set_front] at o3
    rw [← h1]; exact o3
  · refine List.Perm.trans ?_ h6
    rw [List.append_assoc]
    exact List.Perm.append_left ts per
  · unfold srtd at *
    rw [List.pairwise_append]
    refine ⟨h7, List.pairwise_singleton _ _, fun t ht y hy => ?_⟩
    rw [List.mem_singleton] at hy; subst hy
    exact h8 t ht _ (atI_mem (by omega))
  · intro t ht y hy
    rcases List.mem_append.1 ht with ht | ht
    · exact h8 t ht y (per.mem_iff.1 (List.mem_cons_of_mem _ hy))
    · rw [List.mem_singleton] at ht; subst ht
      exact head_least h5 y (per.mem_iff.1 (List.mem_cons_of_mem _ hy))
theorem DrR.start {B p cap L : Nat} {a : Option Addr} {xs : List (Int × Int)} {w w1 : World} (h : Hp B w p a cap xs) (hh : heapN xs xs.length) (hg : w.grownBy w1 none)
    (ho : w1.ownsRow L 50 2 (.slice (some ⟨L, 0, none⟩) xs.length xs.length) xs.length (flat (List.replicate xs.length (0, 0)))) : DrR B p cap xs.length L a xs w w1 0 [] xs := by
  have hb : Below w.heap.size w w1 := (Below.refl _ _).grown hg (Nat.le_refl _) (by intro k hk; cases hk)
  exact ⟨rfl, rfl, by simpa using ho, h.later hb, hh, by simp, List.Pairwise.nil, fun t ht => by simp at ht, Kept.of hb⟩
theorem DrR.stop {B p cap n L : Nat} {a : Option Addr} {xs : List (Int × Int)} {w wr : World} {ts hs : List (Int × Int)} (h : DrR B p cap n L a xs w wr n ts hs) : ts = srt xs ∧ wr.ownsRow L 50 2 (.slice (some ⟨L, 0, none⟩) n n) n (flat (srt xs)) := by
  obtain ⟨h1, h2, h3, h4, h5, h6, h7, h8, h9⟩ := h
  have e : hs = [] := List.eq_nil_of_length_eq_zero (by omega)
  subst e
  rw [List.append_nil] at h6
  have e2 := srt_of h7 h6
  refine ⟨e2, ?_⟩
  rw [Nat.sub_self] at h3
  rw [← e2]; simpa using h3

/-- What drain comes to: all items, in their order. -/
def DrainE (B p : Nat) (a : Option Addr) (xs : List (Int × Int)) (w : World) (e : Ending) (w' : World) : Prop :=
  ∃ v, e = .returned v ∧ w'.ownsRow w.heap.size 50 2 v xs.length (flat (srt xs)) ∧ Kept p a w w'

set_option maxHeartbeats 1000000 in
set_option maxRecDepth 100000 in
theorem drain_any (B p cap : Nat) (a : Option Addr) (xs : List (Int × Int)) (w : World) (h : Hp B w p a cap xs) (hx : xs.length ≤ 1000) (hh : heapN xs xs.length) :
    Calls Try.prog 46 #[.int .i64 xs.length, .func (.func 48) #[.pointer (some ⟨p, 0, none⟩)] #[]] w (DrainE B p a xs w) := by
  obtain ⟨i0, hi, hz0, hz1, hz2⟩ := info_parts Try.infoItem
  have hnew := h.new (Nat.le_refl _)
  have HH : Hid (Hp B w p a cap xs ∧ heapN xs xs.length) := ⟨h, hh⟩
  clear h hh
  go_enter Try.func46, Try.ntmps46
  go_wp2_with (first
    | (at_make; refine wpList_make_full _ rfl _ _ 48 rfl w.heap.size 50 i0 _ 2 Try.underlying48 hi hz0 hz1 .i64 .i64 xs.length xs.length xs.length rfl rfl rfl rfl (by rw [hz2]; omega) (by unfold maxLen; omega) (Nat.le_refl _) ?_; intro w1 hown hgrow))
  rw [show Value.cells (.agg #[.int .i64 0, .int .i64 0]) = #[.int .i64 0, .int .i64 0] from rfl, made_flat] at hown
  have H1 : Hid (DrR B p cap xs.length w.heap.size a xs w w1 0 [] xs) := DrR.start HH.out.1 HH.out.2 hgrow hown
  clear hown hgrow
  go_wp2_with fail
  go_loopw [11] (fun i wr => ∃ (j : Nat) (ts hs : List (Int × Int)), i = .int .i64 j ∧ DrR B p cap xs.length w.heap.size a xs w wr j ts hs) (fun i _ => ((xs.length : Int) - intOf i).toNat)
  case atStart => exact ⟨0, [], xs, rfl, H1.out⟩
  case round =>
    clear H1 HH
    obtain ⟨j, ts, hs, rfl, hR⟩ := hrel
    have hlh := hR.lh
    by_cases hlt : (j : Int) < xs.length
    · obtain ⟨m, hm⟩ : ∃ m, hs.length = m + 1 := ⟨hs.length - 1, by omega⟩
      have htk := take_any B p cap m a hs wr hR.hp hm (by omega) (by have := hR.hh; rwa [hm] at this)
      have hLr := (hR.own.lt w.heap.size rfl).2
      have hfl := flat_at (ts ++ List.replicate (xs.length - j) (0, 0)) j (by simp [hR.lj]; omega)
      have hcj := (hR.own.cellAt (j * 2) (by omega)).trans hfl.1
      have hcj1 := (hR.own.cellAt (j * 2 + 1) (by omega)).trans hfl.2
      have hfj := hR.own.frozenAt (j * 2)
      have hfj1 := hR.own.frozenAt (j * 2 + 1)
      have HR : Hid (DrR B p cap xs.length w.heap.size a xs w wr j ts hs ∧ hs.length = m + 1) := ⟨hR, hm⟩
      clear hR hm hlh hfl
      go_wp2_with fail
      refine htk.mono ?_
      rintro e w2 ⟨ys, rfl, hp2, hly, hh2, hper, hk2⟩
      have c0 := (hk2.cell (q := ⟨w.heap.size, j * 2, none⟩) hLr hnew.1 hnew.2).trans hcj
      have c1 := (hk2.cell (q := ⟨w.heap.size, j * 2 + 1, none⟩) hLr hnew.1 hnew.2).trans hcj1
      have f0 := (hk2.frozen (q := ⟨w.heap.size, j * 2, none⟩) hLr hnew.1 hnew.2).trans hfj
      have f1 := (hk2.frozen (q := ⟨w.heap.size, j * 2 + 1, none⟩) hLr hnew.1 hnew.2).trans hfj1
      have HN := HR.out.1.step HR.out.2 hp2 hly hh2 hper hk2 hnew.1 hnew.2 (Nat.le_refl _)
      have HM : Hid (DrR B p cap xs.length w.heap.size a xs w ((w2.setCell ⟨w.heap.size, j * 2, none⟩ (.int .i64 (atI hs 0).1)).setCell ⟨w.heap.size, j * 2 + 1, none⟩ (.int .i64 (atI hs 0).2)) (j + 1) (ts ++ [atI hs 0]) ys) := HN
      clear HN hp2 hly hh2 hper hk2 hcj hcj1 hfj hfj1 htk HR
      unfold itV
      go_wp2_with fail
      go_roundw
      case rel => exact ⟨j + 1, _, ys, by go_num, HM.out⟩
      case measure => simp [intOf]; omega
    · obtain rfl : j = xs.length := by omega
      have HE : Hid (DrainE B p a xs w (.returned (.slice (some ⟨w.heap.size, 0, none⟩) xs.length xs.length)) wr) := ⟨_, rfl, hR.stop.2, hR.kp⟩
      clear hR hlh
      go_wp2_with fail
      go_ret
      exact HE.out

/-- What heapOf comes to. -/
def HeapE (xs : List (Int × Int)) (w : World) (e : Ending) (w' : World) : Prop :=
  ∃ p a cap ys, e = .returned (.pointer (some ⟨p, 0, none⟩)) ∧ Hp w.heap.size w' p a cap ys ∧ ys.Perm xs ∧ heapN ys ys.length ∧ Below w.heap.size w w'

theorem Hp.start {B n : Nat} {v : Value} {w : World} {xs : List (Int × Int)} (h : w.ownsRow B 50 2 v xs.length (flat xs)) (hB : B ≤ w.heap.size) :
    ∃ a cap, v = .slice a xs.length cap ∧ Hp B (w.alloc (.cells #[.slice a xs.length cap] 69)) w.heap.size a cap xs := by
  obtain ⟨a, cap, rfl, _⟩ := (Its.own h).1
  exact ⟨a, cap, rfl, hB, heap_alloc_new w _, h.alloc _⟩

set_option maxHeartbeats 1000000 in
set_option maxRecDepth 100000 in
theorem heapOf_any (xs : List (Int × Int)) (v : Value) (w : World) (h : Its w v xs) (hx : xs.length ≤ 900) :
    Calls Try.prog 45 #[v] w (HeapE xs w) := by
  go_enter Try.func45, Try.ntmps45
  go_wp2_with fail
  refine (clone_any xs v w h (by omega)).mono ?_
  rintro e w1 ⟨u, rfl, hown, hb1⟩
  obtain ⟨a, cap, rfl, hp⟩ := Hp.start (n := 0) hown hb1.size
  have HP : Hid (Hp w.heap.size (w1.alloc (.cells #[.slice a xs.length cap] 69)) w1.heap.size a cap xs ∧ Below w.heap.size w w1) := ⟨hp, hb1⟩
  clear hp hown hb1 h
  go_wp2_with fail
  refine (init_any w.heap.size w1.heap.size cap a xs _ HP.out.1 (by omega)).mono ?_
  rintro e w2 ⟨ys, rfl, hp2, hper, hh, hk⟩
  have HE : Hid (HeapE xs w (.returned (.pointer (some ⟨w1.heap.size, 0, none⟩))) w2) := by
    have b1 := HP.out.2.alloc HP.out.2.size (.cells #[.slice a xs.length cap] 69)
    exact ⟨_, a, cap, ys, rfl, hp2, hper, hh, b1.trans (hk.below HP.out.1 b1.size)⟩
  clear hp2 hper hh hk HP
  go_wp2_with fail
  go_ret
  exact HE.out

set_option maxHeartbeats 1000000 in
set_option maxRecDepth 100000 in
theorem sort_any (xs : List (Int × Int)) (v : Value) (w : World) (h : Its w v xs) (hx : xs.length ≤ 900) :
    Calls Try.prog 42 #[v] w (OwnE w.heap.size (srt xs) w) := by
  go_enter Try.func42, Try.ntmps42
  go_wp2_with fail
  refine (heapOf_any xs v w h hx).mono ?_
  rintro e w1 ⟨p, a, cap, ys, rfl, hp, hper, hh, hb⟩
  have hc := hp.cell
  have hl : ys.length ≤ 900 := by rw [hper.length_eq]; exact hx
  have HP : Hid (Hp w.heap.size w1 p a cap ys ∧ ys.Perm xs ∧ heapN ys ys.length ∧ Below w.heap.size w w1) := ⟨hp, hper, hh, hb⟩
  clear hp hper hh hb h
  go_wp2_with fail
  refine (len_any _ _ _ _).mono ?_
  rintro e w2 ⟨rfl, hw⟩
  obtain rfl := hw.symm
  go_wp2_with fail
  refine (drain_any w.heap.size p cap a ys _ HP.out.1 (by omega) HP.out.2.2.1).mono ?_
  rintro e w3 ⟨u, rfl, hown, hk⟩
  have HE : Hid (OwnE w.heap.size (srt xs) w (.returned u) w3) := by
    obtain ⟨h1, h2, h3, h4⟩ := HP.out
    refine ⟨u, rfl, ?_, h4.trans (hk.below h1 h4.size)⟩
    rw [srt_len, ← h2.length_eq, ← srt_congr h2]
    obtain ⟨o1, o2⟩ := hown
    refine ⟨o1, o2.imp id ?_⟩
    rintro ⟨g, c, cur, e, r1, r2⟩
    exact ⟨g, c, cur, e, Nat.le_trans h4.size r1, r2⟩
  clear hown hk HP
  go_wp2_with fail
  go_ret
  exact HE.out
end Go.Proofs.Ytjaaabliefcgaaa
