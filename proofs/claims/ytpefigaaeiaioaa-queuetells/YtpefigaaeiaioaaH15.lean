/- Walks: Drop, Push. -/
import Derived.Test.YtpefigaaeiaioaaH14
namespace Go.Proofs.Ytpefigaaeiaioaa
open Go.RowKit
set_option linter.unusedVariables false

/-- What is left of a list, the item of an ID dropped. -/
def dropL (xs : List (Int × Int)) (id : Int) : List (Int × Int) := if 0 ≤ fnd (qOf xs) id then xs.eraseIdx (fnd (qOf xs) id).toNat else xs
theorem erase_perm {xs : List (Int × Int)} {i : Nat} (h : i < xs.length) : (atI xs i :: xs.eraseIdx i).Perm xs := by
  have e : xs[i] = atI xs i := by simp [atI, List.getD, h]
  have h1 : xs.eraseIdx i = xs.take i ++ xs.drop (i + 1) := List.eraseIdx_eq_take_drop_succ xs i
  have h2 : xs = xs.take i ++ atI xs i :: xs.drop (i + 1) := by
    conv => lhs; rw [← List.take_append_drop i xs, List.drop_eq_getElem_cons h, e]
  rw [h1]
  conv => rhs; rw [h2]
  exact List.perm_middle.symm
theorem fnd_perm {xs ys : List (Int × Int)} {id : Int} (p : ys.Perm xs) : 0 ≤ fnd ys id ↔ 0 ≤ fnd xs id := by
  have key : ∀ zs : List (Int × Int), 0 ≤ fnd zs id ↔ ∃ x ∈ zs, x.2 = id := by
    intro zs
    rcases fnd_cases zs id with ⟨j, hj, hl, he, _⟩ | ⟨hn, hk⟩
    · exact ⟨fun _ => ⟨_, atI_mem hl, he⟩, fun _ => by omega⟩
    · refine ⟨fun h => by omega, fun ⟨x, hx, he⟩ => ?_⟩
      obtain ⟨k, hk'⟩ := List.getElem?_of_mem hx
      exact absurd (by rw [atI_of hk']; exact he) (hk k (List.getElem?_eq_some_iff.1 hk').1)
  rw [key, key]
  exact ⟨fun ⟨x, hx, he⟩ => ⟨x, p.mem_iff.1 hx, he⟩, fun ⟨x, hx, he⟩ => ⟨x, p.mem_iff.2 hx, he⟩⟩
theorem fnd_at {xs : List (Int × Int)} {id : Int} (h : 0 ≤ fnd xs id) : ∃ k : Nat, fnd xs id = k ∧ k < xs.length ∧ (atI xs k).2 = id := by
  rcases fnd_cases xs id with ⟨j, hj, hl, he, _⟩ | ⟨hn, hk⟩
  · exact ⟨j, hj, hl, he⟩
  · omega
theorem id_one {xs : List (Int × Int)} (h : mayB xs = true) {x y : Int × Int} (hx : x ∈ xs) (hy : y ∈ xs) (e : x.2 = y.2) : x = y := by
  obtain ⟨i, hi⟩ := List.getElem?_of_mem hx
  obtain ⟨j, hj⟩ := List.getElem?_of_mem hy
  have li := (List.getElem?_eq_some_iff.1 hi).1
  have lj := (List.getElem?_eq_some_iff.1 hj).1
  have ei := atI_of hi
  have ej := atI_of hj
  subst ei ej
  rcases (show i < j ∨ i = j ∨ j < i by omega) with h1 | h1 | h1
  · exact absurd e (may_ids h lj h1)
  · rw [h1]
  · exact absurd e.symm (may_ids h li h1)
theorem drop_rest {xs ys zs : List (Int × Int)} {id : Int} {k i : Nat} (hm : mayB xs = true) (hy : ys.Perm xs) (hk : k < ys.length) (ek : (atI ys k).2 = id) (hz : (atI ys k :: zs).Perm ys) (hi : i < xs.length) (ei : (atI xs i).2 = id) : srt zs = xs.eraseIdx i := by
  have e : atI ys k = atI xs i := id_one hm (hy.mem_iff.1 (atI_mem hk)) (atI_mem hi) (by rw [ek, ei])
  have p : zs.Perm (xs.eraseIdx i) := by
    have := (hz.trans hy).trans (erase_perm hi).symm
    rw [e] at this; exact List.perm_cons (atI xs i) |>.1 this
  rw [srt_congr p]
  exact srt_self (List.Pairwise.sublist (List.eraseIdx_sublist xs i) (may_srtd hm))
/-- A list of the call's own, and whether it is another one. -/
def OwnB (xs : List (Int × Int)) (b : Bool) (w : World) (e : Ending) (w' : World) : Prop :=
  ∃ v, e = .returned (.tuple #[v, .bool b]) ∧ w'.ownsRow w.heap.size 24 2 v xs.length (flat xs) ∧ Below w.heap.size w w'

set_option maxHeartbeats 2000000 in
set_option maxRecDepth 100000 in
theorem drop_any (xs : List (Int × Int)) (v : Value) (id : Int) (w : World) (h : Its w v xs) (hx : xs.length ≤ 900) :
    Calls Try.prog 15 #[v, .int .i64 id] w (OwnB (dropL xs id) (decide (0 ≤ fnd (qOf xs) id)) w) := by
  have HI : Hid (Its w v xs) := h
  clear h
  go_enter Try.func15, Try.ntmps15
  go_wp2_with fail
  refine (queueOf_any xs v _ HI.out).mono ?_
  rintro e w1 ⟨p, a, cap, ys, rfl, hp, hper, hh, hb1⟩
  have hc1 := hp.cell
  have hs1 := hb1.size
  have hyl : ys.length ≤ 40 := by rw [hper.length_eq]; exact qOf_len xs
  have HP : Hid (Hp w.heap.size w1 p a cap ys ∧ ys.Perm (qOf xs) ∧ heapN ys ys.length ∧ Below w.heap.size w w1) := ⟨hp, hper, hh, hb1⟩
  clear hp hper hh hb1
  go_wp2_with fail
  refine (find_any ys _ id w1 HP.out.1.its (by omega)).mono ?_
  rintro e w2 ⟨rfl, hb2⟩
  have hB2 : Below w.heap.size w w2 := below_next HP.out.2.2.2 hb2 hs1
  have hp2 := HP.out.1.later hb2
  have hs2 := hb2.size
  generalize hf : fnd ys id = f
  have HF : Hid (fnd ys id = f) := hf
  clear hf
  by_cases c : f < 0
  · have hn : ¬ (0 ≤ fnd (qOf xs) id) := fun h => by have := (fnd_perm HP.out.2.1).2 h; rw [HF.out] at this; omega
    have HE : Hid (dropL xs id = xs ∧ decide (0 ≤ fnd (qOf xs) id) = false) := ⟨if_neg hn, decide_eq_false hn⟩
    have HB : Hid (Below w.heap.size w w2) := hB2
    clear hp2 hB2 hb2 hn
    go_wp2_with fail
    refine (clone_any xs v _ (HI.out.later HB.out) (by omega)).mono ?_
    rintro e w4 ⟨u, rfl, hown, hb4⟩
    have HO : Hid (w4.ownsRow w.heap.size 24 2 u xs.length (flat xs) ∧ Below w.heap.size w w4) := ⟨World.ownsRow.lower hown (by omega), below_next HB.out hb4 (by omega)⟩
    clear hown hb4
    go_wp2_with fail
    go_ret2
    exact ⟨u, by rw [HE.out.2]; rfl, by rw [HE.out.1]; exact HO.out.1, HO.out.2⟩
  · have hpos : 0 ≤ fnd (qOf xs) id := (fnd_perm HP.out.2.1).1 (by rw [HF.out]; omega)
    obtain ⟨k, hk, hkl, hke⟩ := fnd_at (xs := ys) (id := id) (by rw [HF.out]; omega)
    obtain ⟨i, hi, hil, hie⟩ := fnd_at hpos
    have hq := qOf_pos (xs := xs) (by omega)
    rw [hq.2] at hil hie
    have HD : Hid (dropL xs id = xs.eraseIdx i ∧ decide (0 ≤ fnd (qOf xs) id) = true) := by
      refine ⟨?_, decide_eq_true hpos⟩
      unfold dropL; rw [if_pos hpos, hi]; simp
    obtain rfl : f = (k : Int) := by rw [← HF.out, hk]
    obtain ⟨n, hn⟩ : ∃ n, ys.length = n + 1 := ⟨ys.length - 1, by omega⟩
    have hrem := hrem_any w.heap.size p cap n k a ys w2 hp2 hn (by omega) (by have := HP.out.2.2.1; rwa [hn] at this) (by omega)
    unfold hpV at hrem
    have HR : Hid (∀ zs : List (Int × Int), (atI ys k :: zs).Perm ys → srt zs = xs.eraseIdx i) := fun zs hz => drop_rest hq.1 (by have := HP.out.2.1; rwa [hq.2] at this) hkl hke hz hil hie
    have HB : Hid (Below w.heap.size w w2 ∧ Hp w.heap.size w2 p a cap ys) := ⟨hB2, hp2⟩
    clear hp2 hB2 hb2 hpos hk hke hi hil hie hq hn hkl HP
    go_wp2_with fail
    refine hrem.mono ?_
    rintro e w3 ⟨zs, rfl, hp3, hlz, hhz, hpz, hk3⟩
    have hc3 := hp3.cell
    have hzl : zs.length ≤ 40 := by have := hpz.length_eq; simp at this; omega
    have hs3 := hk3.size
    have H3 : Hid (Hp w.heap.size w3 p a cap zs ∧ heapN zs zs.length ∧ srt zs = xs.eraseIdx i ∧ Below w.heap.size w w3) := ⟨hp3, by rw [hlz]; exact hhz, HR.out zs hpz, HB.out.1.trans (hk3.below HB.out.2 (by omega))⟩
    clear hp3 hhz hpz hk3 hlz hrem HR
    generalize itV (atI ys k) = tv
    go_wp2_with fail
    refine (len_any _ _ _ _).mono ?_
    rintro e w4 ⟨rfl, hw⟩
    obtain rfl := hw.symm
    go_wp2_with fail
    refine (drain_any _ p cap a zs _ H3.out.1 (by omega) H3.out.2.1).mono ?_
    rintro e w5 ⟨u, rfl, hown, hk5⟩
    have HO : Hid (w5.ownsRow w.heap.size 24 2 u (dropL xs id).length (flat (dropL xs id)) ∧ Below w.heap.size w w5) := by
      obtain ⟨z1, z2, z3, z4⟩ := H3.out
      refine ⟨?_, z4.trans (hk5.below z1 (by omega))⟩
      rw [HD.out.1, ← z3, srt_len]; exact World.ownsRow.lower hown (by omega)
    clear hown hk5 H3
    go_wp2_with fail
    go_ret2
    exact ⟨u, by rw [HD.out.2]; rfl, HO.out.1, HO.out.2⟩
end Go.Proofs.Ytpefigaaeiaioaa
