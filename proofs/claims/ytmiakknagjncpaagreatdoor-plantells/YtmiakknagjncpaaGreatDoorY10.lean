/- Texts that belong together, one behind the other: D16, D17, C1, C2. -/
import Derived.Test.YtmiakknagjncpaaGreatDoorY9
import Derived.Deep.RegionWith
import Derived.Test.YtmiakknagjncpaaGreatDoorY5
import Derived.Test.YtmiakknagjncpaaGreatDoorY7
import Derived.Laws.AppendOwnNone
/- What the statement DemandBoth comes to. -/
namespace Go.Proofs.YtmiakknagjncpaaGreatDoor
open Go.RowKit Go.Shelf

theorem cat_zero (f g : Nat → Fx) (i : Nat) : cat9 0 f g i = g i := by rw [cat9_right (Nat.zero_le _)]; rfl
theorem OwnF.open {w : World} {base : Nat} {v : Value} {n : Nat} {f : Nat → Fx} (h : OwnF w base v n f) : (v = .slice none 0 0 ∧ n = 0) ∨ ∃ g cap, v = .slice (some ⟨g, 0, none⟩) n cap ∧ base ≤ g ∧ n ≤ cap ∧ cap ≤ maxLen := by
  obtain ⟨_, h1 | ⟨g, cap, cur, h2, h3, _, h4, h5, _⟩⟩ := h
  · exact .inl h1
  · exact .inr ⟨g, cap, h2, h3, h4, h5⟩
/-- Two, one behind the other, in a list of the call's own. -/
theorem OwnF.two {w : World} {B l m : Nat} {v : Value} {f g : Nat → Fx} (h : OwnF w B v (0 + l + m) (cat9 (0 + l) (cat9 0 f f) g)) : Fxs w v (l + m) (cat9 l f g) := by
  have hg := h.fxs
  rw [show 0 + l + m = l + m by omega] at hg
  refine hg.congr fun i _ => ?_
  rw [Nat.zero_add]
  by_cases c : i < l
  · rw [cat9_left c, cat9_left c, cat_zero]
  · rw [cat9_right (by omega), cat9_right (by omega)]
theorem OwnF.same {w : World} {B l : Nat} {v : Value} {f g : Nat → Fx} (h : OwnF w B v (0 + l) (cat9 0 f g)) : OwnF w B v l g := by
  unfold OwnF at h ⊢
  rw [Nat.zero_add] at h
  rwa [flatF_congr (g := g) fun i _ => cat_zero f g i] at h
/-- One number of one of them is written. -/
theorem flatF_set {n : Nat} {f g : Nat → Fx} {i j : Nat} {x : Int} (hj : j < 7) (hg : ∀ a, a < n → a ≠ i → g a = f a) (hgi : ∀ b, b < 7 → b ≠ j → (g i).at b = (f i).at b) (hx : (g i).at j = x) :
    (flatF n f).set (i * 7 + j) (.int .i64 x) = flatF n g := by
  apply List.ext_getElem?
  intro t
  have hl := flatF_len n f
  have hl' := flatF_len n g
  by_cases ht : t < n * 7
  · have e : t = t / 7 * 7 + t % 7 := by omega
    have k1 := flatF_at n f (t / 7) (t % 7) (by omega) (by omega)
    have k2 := flatF_at n g (t / 7) (t % 7) (by omega) (by omega)
    rw [← e] at k1 k2
    rw [k2, List.getElem?_set]
    by_cases c : i * 7 + j = t
    · have c1 : t / 7 = i := by omega
      have c2 : t % 7 = j := by omega
      rw [if_pos c, if_pos (by omega), c1, c2, hx]
    · rw [if_neg c, k1]
      by_cases c1 : t / 7 = i
      · rw [c1, hgi (t % 7) (by omega) (by omega)]
      · rw [hg (t / 7) (by omega) c1]
  · rw [List.getElem?_eq_none (by simp; omega), List.getElem?_eq_none (by omega)]
theorem OwnF.cell {w : World} {base g n cap : Nat} {f : Nat → Fx} (h : OwnF w base (.slice (some ⟨g, 0, none⟩) n cap) n f) {i j : Nat} (hi : i < n) (hj : j < 7) : w.cell? ⟨g, i * 7 + j, none⟩ = some (.int .i64 ((f i).at j)) ∧ w.frozen? ⟨g, i * 7 + j, none⟩ = false := by
  unfold OwnF at h
  exact ⟨(h.cellAt (i * 7 + j) (by omega)).trans (flatF_at n f i j hi hj), h.frozenAt _⟩
theorem OwnF.set {w : World} {base g n cap : Nat} {f f' : Nat → Fx} (h : OwnF w base (.slice (some ⟨g, 0, none⟩) n cap) n f) {i j : Nat} {x : Int} (hj : j < 7) (hg : ∀ a, a < n → a ≠ i → f' a = f a) (hgi : ∀ b, b < 7 → b ≠ j → (f' i).at b = (f i).at b) (hx : (f' i).at j = x) :
    OwnF (w.setCell ⟨g, i * 7 + j, none⟩ (.int .i64 x)) base (.slice (some ⟨g, 0, none⟩) n cap) n f' := by
  unfold OwnF at h ⊢
  have := (h.stored (i * 7 + j) (.int .i64 x)).1
  rwa [flatF_set hj hg hgi hx] at this
end Go.Proofs.YtmiakknagjncpaaGreatDoor
/- What the statement DemandLess comes to. -/
namespace Go.Proofs.YtmiakknagjncpaaGreatDoor
open Go.RowKit Go.Shelf

theorem Fxs.front {w : World} {b o n cap t : Nat} {f : Nat → Fx} (h : Fxs w (.slice (some ⟨b, o, none⟩) n cap) n f) (ht : t ≤ n) : Fxs w (.slice (some ⟨b, o, none⟩) t cap) t f := by
  obtain ⟨a, cap', e, h1, h2, h0, h3⟩ := h
  simp only [Value.slice.injEq, true_and] at e
  obtain ⟨rfl, rfl⟩ := e
  refine ⟨_, _, rfl, by omega, h2, h0, fun hx => ?_⟩
  obtain ⟨b', o', e', h4⟩ := h3 (by omega)
  exact ⟨b', o', e', fun i hi j hj => h4 i (by omega) j hj⟩
theorem Fxs.tail {w : World} {b o n cap t : Nat} {f : Nat → Fx} (h : Fxs w (.slice (some ⟨b, o, none⟩) n cap) n f) (ht : t ≤ n) : Fxs w (.slice (some ⟨b, o + t * 7, none⟩) (n - t) (cap - t)) (n - t) (fun i => f (t + i)) := by
  obtain ⟨a, cap', e, h1, h2, h0, h3⟩ := h
  simp only [Value.slice.injEq, true_and] at e
  obtain ⟨rfl, rfl⟩ := e
  refine ⟨_, _, rfl, by omega, by omega, fun h => by simp at h, fun hx => ?_⟩
  obtain ⟨b', o', e', h4⟩ := h3 (by omega)
  simp only [Option.some.injEq, Addr.mk.injEq, and_true] at e'
  obtain ⟨rfl, rfl⟩ := e'
  refine ⟨b, o + t * 7, rfl, fun i hi j hj => ?_⟩
  have := h4 (t + i) (by omega) j hj
  rwa [show o + (t + i) * 7 + j = o + t * 7 + i * 7 + j by omega] at this
theorem Fxs.zero {w : World} {ad : Addr} {m n cap : Nat} {f : Nat → Fx} (hm : m = 0) (hn : n = 0) (hc : cap ≤ maxLen) : Fxs w (.slice (some ad) m cap) n f := by
  subst hm hn
  exact ⟨_, _, rfl, Nat.zero_le _, hc, fun h => by simp at h, fun h => by omega⟩
/-- All but one. -/
def lessF {α : Type} (f : Nat → α) (t i : Nat) : α := if i < t then f i else f (i + 1)
theorem sm_less {l : Nat} (g : Nat → Int) {t : Nat} (ht : t < l + 1) : sm (l + 1) g = sm l (lessF g t) + g t := by
  induction l with
  | zero =>
    obtain rfl : t = 0 := by omega
    rfl
  | succ l ih =>
    by_cases c : t = l + 1
    · subst c
      show sm (l + 1) g + g (l + 1) = _
      rw [sm_congr (f := g) (g := lessF g (l + 1)) fun i hi => (if_pos hi).symm]
    · show sm (l + 1) g + g (l + 1) = sm l (lessF g t) + lessF g t l + g t
      rw [ih (by omega), show lessF g t l = g (l + 1) from if_neg (by omega)]
      omega
theorem sm_lessf {α : Type} {l : Nat} (f : Nat → α) (g : α → Int) {t : Nat} (ht : t < l + 1) : sm (l + 1) (fun i => g (f i)) = sm l (fun i => g (lessF f t i)) + g (f t) := by
  rw [sm_less (fun i => g (f i)) ht]
  congr 1
  refine sm_congr fun i _ => ?_
  unfold lessF
  by_cases c : i < t
  · rw [if_pos c, if_pos c]
  · rw [if_neg c, if_neg c]
theorem less_kn {l : Nat} {f : Nat → Fx} {t : Nat} (h : knAll (l + 1) f = true) (i : Nat) (hi : i < l) : knB (lessF f t i) = true := by
  unfold lessF
  by_cases c : i < t
  · rw [if_pos c]; exact knAll_of h (by omega)
  · rw [if_neg c]; exact knAll_of h (by omega)
/-- What passes passes with one task less. -/
theorem tst_less {l : Nat} {f : Nat → Fx} {t : Nat} (h : tst9 (l + 1) f = true) (ht : t < l + 1) : tst9 l (lessF f t) = true := by
  obtain ⟨hm, ha⟩ := tst_iff.1 h
  obtain ⟨l4, hk, hu⟩ := may9_facts hm
  refine tst_iff.2 ⟨may9_yes (by omega) (knAll_yes fun i hi => less_kn hk i hi) ?_, fun n n0 n1 => ?_⟩
  · have e : sm (l + 1) (uns f) = sm l (uns (lessF f t)) + uns f t := sm_lessf f (fun x => atV x.sp x.p) ht
    have := (un_bd (knAll_of hk ht)).1
    unfold uns at e hu ⊢
    omega
  · have e : allS (l + 1) f n = allS l (lessF f t) n + ofV9 (f t) n := sm_lessf f (fun x => ofV9 x n) ht
    have := ha n n0 n1
    have := (of_bd (f t) n).1
    omega
/-- One at another period. -/
def longF (f : Nat → Fx) (t : Nat) (p : Int) (i : Nat) : Fx := if i = t then (f t).per p else f i
/-- What passes passes with a longer period of one. -/
theorem tst_long {l : Nat} {f : Nat → Fx} {t : Nat} {p : Int} (h : tst9 l f = true) (ht : t < l) (h0 : (f t).p ≤ p) (h1 : p ≤ (f t).x) : tst9 l (longF f t p) = true := by
  obtain ⟨hm, ha⟩ := tst_iff.1 h
  obtain ⟨l4, hk, hu⟩ := may9_facts hm
  refine tst_iff.2 ⟨may9_yes l4 (knAll_yes fun i hi => ?_) (Int.le_trans (sm_le fun i hi => ?_) hu), fun n n0 n1 => Int.le_trans (sm_le fun i hi => ?_) (ha n n0 n1)⟩
  · unfold longF
    by_cases c : i = t
    · rw [if_pos c]; exact kn_per (knAll_of hk ht) h0 h1
    · rw [if_neg c]; exact knAll_of hk hi
  · unfold uns longF
    by_cases c : i = t
    · rw [if_pos c]; subst c; exact un_per (knAll_of hk ht) h0 h1
    · rw [if_neg c]; exact Int.le_refl _
  · unfold longF
    by_cases c : i = t
    · rw [if_pos c]; subst c; exact of_per (knAll_of hk ht) h0 h1 n0 n1
    · rw [if_neg c]; exact Int.le_refl _
/-- An operation that its guard passes over: taken first, it leaves all as it is. -/
theorem held_skip {P : Program} {md : Region.Mode} {ops : Array Oper} {Q : Exit → Act → World → Prop} {S : World → Prop} {i : Nat} {oi : Oper} {fuel : Nat} {listed : Array Bool} {a : Act} {w : World} (hi : ops[i]? = some oi)
    (hs : Region.noSelect ops = true) (hf : Region.free md ops listed i = true) (hr : (Region.ready md ops listed).contains i = true)
    (hQ : ∀ c a w, Q (.panic c) (a.put oi.dst undef) w → Q (.panic c) a w) (hw : Region.wanted oi (yielded ops a.tmps) = false) (hp : a.put oi.dst undef = a) (hS : S w)
    (h : wpAnyH P md ops Q S fuel (listed.setIfInBounds i true) a w) : wpAnyH P md ops Q S (fuel + 1) listed a w :=
  wpAnyH_take hi hs hf hr hQ (Or.inr ⟨hw, rfl⟩) hS (by rw [hp]; exact h)
end Go.Proofs.YtmiakknagjncpaaGreatDoor
/- Tasks as springs, their periods by the units that they are pressed to, and what follows: plain. -/
namespace Go.Proofs.YtmiakknagjncpaaGreatDoor
open Go.RowKit

/-- A task's springs: its units at its least period, the least that it may have, and its E. -/
def topF (s : Nat → Sp) (i : Nat) : Int := atV (s i) (s i).t
def leaF (s : Nat → Sp) (i : Nat) : Int := leastV (s i)
def elF (s : Nat → Sp) (i : Nat) : Int := (s i).e
/-- May each be? -/
def spsB (n : Nat) (s : Nat → Sp) : Bool := (List.range n).all fun i => maySp (s i)
theorem sps_of {n : Nat} {s : Nat → Sp} (h : spsB n s = true) {i : Nat} (hi : i < n) : maySp (s i) = true := by
  unfold spsB at h; rw [List.all_eq_true] at h; exact h i (List.mem_range.2 hi)
theorem sps_yes {n : Nat} {s : Nat → Sp} (h : ∀ i, i < n → maySp (s i) = true) : spsB n s = true := by
  unfold spsB; rw [List.all_eq_true]; exact fun i hi => h i (List.mem_range.1 hi)
theorem sps_no {n : Nat} {s : Nat → Sp} {i : Nat} (hi : i < n) (h : maySp (s i) = false) : spsB n s = false := by
  cases hk : spsB n s with
  | false => rfl
  | true => rw [sps_of hk hi] at h; cases h
theorem sp_spr {s : Sp} (h : maySp s = true) : 1 ≤ leastV s ∧ leastV s ≤ atV s s.t ∧ atV s s.t ≤ 1048576 ∧ 0 ≤ s.e ∧ s.e ≤ 8 ∧ (s.e = 0 → leastV s = atV s s.t) := by
  obtain ⟨c0, c1, f2, f3, f4, _, e0, e1, _⟩ := may_facts h
  have h1 := at_pos h f3 (Int.le_refl _)
  have h2 := at_pos h (Int.le_refl _) f3
  have h3 := per_fall h (Int.le_refl _) f3 (Int.le_refl _)
  refine ⟨by rw [least_at h]; exact h1.1, by rw [least_at h]; exact h3, h2.2, e0, e1, fun he => ?_⟩
  unfold leastV; rw [if_pos he]
theorem sps_fit {n : Nat} {s : Nat → Sp} (hn : n ≤ 4) (h : spsB n s = true) : fitS n (topF s) (leaF s) (elF s) := by
  refine ⟨hn, fun i hi => ?_⟩
  obtain ⟨h1, h2, h3, h4, h5, _⟩ := sp_spr (sps_of h hi)
  exact ⟨h1, h2, h3, h4, h5⟩
theorem sps_lo {n : Nat} {s : Nat → Sp} (h : spsB n s = true) {i : Nat} (hi : i < n) : lo7 (topF s) (leaF s) (elF s) i = leaF s i := by
  obtain ⟨_, _, _, _, _, h6⟩ := sp_spr (sps_of h hi)
  unfold lo7 lea
  by_cases c : elF s i = 0
  · rw [if_pos c]; exact (h6 c).symm
  · rw [if_neg c]
/-- The units that each is pressed to, by a through b; the period by these; the task at it. -/
def unF (s : Nat → Sp) (a b : Int) (i : Nat) : Int := hv (topF s) (leaF s) (elF s) a b i
def prF (s : Nat → Sp) (a b : Int) (i : Nat) : Int := ofP (s i) (unF s a b i)
def tgF (s : Nat → Sp) (a b : Int) (i : Nat) : Fx := ⟨(s i).c, (s i).t, (s i).x, (s i).m, (s i).k, (s i).e, prF s a b i⟩
/-- The least force for tasks in a load. -/
def IsT (n : Nat) (s : Nat → Sp) (load a b : Int) : Prop := IsF n (topF s) (lo7 (topF s) (leaF s) (elF s)) (elF s) load a b

section
variable {n : Nat} {s : Nat → Sp} {load a b : Int}
theorem un_in (hn : n ≤ 4) (h : spsB n s = true) (hF : IsT n s load a b) {i : Nat} (hi : i < n) : leaF s i ≤ unF s a b i ∧ unF s a b i ≤ topF s i ∧ 1 ≤ unF s a b i ∧ unF s a b i ≤ 1048576 := by
  obtain ⟨h1, h2, h3, _⟩ := sp_spr (sps_of h hi)
  have k1 : lo7 (topF s) (leaF s) (elF s) i ≤ unF s a b i := hv_lo
  have k2 : unF s a b i ≤ topF s i := hv_up (sps_fit hn h) hF.a0 hF.b1 hi
  rw [sps_lo h hi] at k1
  have k3 : topF s i ≤ 1048576 := h3
  have k4 : 1 ≤ leaF s i := h1
  omega
theorem tg_facts (hn : n ≤ 4) (h : spsB n s = true) (hF : IsT n s load a b) {i : Nat} (hi : i < n) :
    ofB (s i) (unF s a b i) = true ∧ (s i).t ≤ prF s a b i ∧ prF s a b i ≤ (s i).x ∧ atV (s i) (prF s a b i) ≤ unF s a b i ∧ (prF s a b i = (s i).t ∨ unF s a b i < atV (s i) (prF s a b i - 1)) := by
  obtain ⟨k1, k2, k3, k4⟩ := un_in hn h hF hi
  rcases units_facts (sps_of h hi) k3 k4 with ⟨_, _, h3⟩ | ⟨g1, _, g3, g4, g5, g6⟩
  · exact absurd k1 h3
  · exact ⟨g1, g3, g4, g5, g6⟩
theorem tg_kn (hn : n ≤ 4) (h : spsB n s = true) (hF : IsT n s load a b) {i : Nat} (hi : i < n) : knB (tgF s a b i) = true := by
  obtain ⟨_, g1, g2, _⟩ := tg_facts hn h hF hi
  unfold knB
  rw [Bool.and_eq_true]
  exact ⟨sps_of h hi, decide_eq_true ⟨g1, g2⟩⟩
/-- What is told may be. -/
theorem tg_may (hn : n ≤ 4) (h : spsB n s = true) (hF : IsT n s 983040 a b) : may9 n (tgF s a b) = true := by
  refine may9_yes hn (knAll_yes fun i hi => tg_kn hn h hF hi) (Int.le_trans (sm_le fun i hi => ?_) (fits_sum hF))
  exact (tg_facts hn h hF hi).2.2.2.1
/-- Where all have room each has its least period. -/
theorem tg_least (hn : n ≤ 4) (h : spsB n s = true) (hF : IsT n s load a b) (hl : sm n (topF s) ≤ load) {i : Nat} (hi : i < n) : unF s a b i = topF s i ∧ prF s a b i = (s i).t := by
  have hf := sps_fit hn h
  have e := fits_full hf hF hl
  have hu : unF s a b i = topF s i := sm_eq_each (n := n) (f := hv (topF s) (leaF s) (elF s) a b) (g := topF s) (fun j hj => hv_up hf hF.a0 hF.b1 hj) (Int.le_of_eq e.symm) i hi
  refine ⟨hu, ?_⟩
  obtain ⟨_, g1, g2, _, g4⟩ := tg_facts hn h hF hi
  rcases g4 with g4 | g4
  · exact g4
  · by_cases c : prF s a b i = (s i).t
    · exact c
    · have := per_fall (sps_of h hi) (Int.le_refl _) (show (s i).t ≤ prF s a b i - 1 by omega) (by omega)
      rw [hu] at g4
      unfold topF at g4
      omega
/-- One alone has the least period at which its units are no more than the load. -/
theorem tg_alone {s : Nat → Sp} {a b : Int} (h : spsB 1 s = true) (l0 : 0 ≤ load) (hF : IsT 1 s load a b) : atV (s 0) (prF s a b 0) ≤ load ∧ (prF s a b 0 = (s 0).t ∨ load < atV (s 0) (prF s a b 0 - 1)) := by
  obtain ⟨_, g1, g2, g3, g4⟩ := tg_facts (by omega) h hF (i := 0) (by omega)
  have h1 : 0 + unF s a b 0 ≤ load := fits_sum hF
  refine ⟨by omega, ?_⟩
  by_cases hl : sm 1 (topF s) ≤ load
  · exact .inl (tg_least (by omega) h hF hl (i := 0) (by omega)).2
  · have h2 : load < 0 + unF s a b 0 + ((1 : Nat) : Int) := fits_rest (sps_fit (by omega) h) l0 hF (by omega)
    rcases g4 with g4 | g4
    · exact .inl g4
    · exact .inr (by omega)

/-- By less force none has fewer units. -/
theorem hv_force {u m e : Nat → Int} {a b c d : Int} {i : Nat} (hb : 1 ≤ b) (hd : 1 ≤ d) (he : 0 ≤ e i) (h1 : c * b ≤ a * d) : hv u m e a b i ≤ hv u m e c d i := by
  have h2 := cl_ge (a := a * e i) hb
  have h3 : cl (c * e i) d ≤ cl (a * e i) b := by
    refine cl_le_of hd ?_
    generalize cl (a * e i) b = q at *
    have k1 : c * b * e i ≤ a * d * e i := Int.mul_le_mul_of_nonneg_right h1 he
    have k2 : a * e i * d ≤ q * b * d := Int.mul_le_mul_of_nonneg_right h2 (by omega)
    have e1 : c * b * e i = b * (c * e i) := by rw [Int.mul_comm c b, Int.mul_assoc]
    have e2 : a * d * e i = a * e i * d := by rw [Int.mul_assoc, Int.mul_comm d, Int.mul_assoc]
    have e3 : q * b * d = b * (q * d) := by rw [Int.mul_comm q b, Int.mul_assoc]
    rw [e1, e2] at k1
    rw [e3] at k2
    exact Int.le_of_mul_le_mul_left (Int.le_trans k1 k2) (by omega)
  unfold hv hasV
  omega
/-- Which one of all that is, of those without t. -/
def skI (t i : Nat) : Nat := if i < t then i else i + 1
theorem less_up {α : Type} (f : Nat → α) (t i : Nat) : lessF f t i = f (skI t i) := by
  unfold lessF skI
  by_cases c : i < t
  · rw [if_pos c, if_pos c]
  · rw [if_neg c, if_neg c]
theorem up_lt {t i l : Nat} (hi : i < l) : skI t i < l + 1 := by unfold skI; split <;> omega
theorem less_sps {l : Nat} {t : Nat} (h : spsB (l + 1) s = true) : spsB l (lessF s t) = true := sps_yes fun i hi => by rw [less_up]; exact sps_of h (up_lt hi)
/-- With one task less no other one is pressed more. -/
theorem less_force {l t : Nat} {c d : Int} (hn : l + 1 ≤ 4) (h : spsB (l + 1) s = true) (ht : t < l + 1) (hF : IsT (l + 1) s load a b) (hG : IsT l (lessF s t) load c d) : c * b ≤ a * d := by
  refine hG.least a b hF.a0 hF.b1 ?_
  have e : sm (l + 1) (hav (topF s) (lo7 (topF s) (leaF s) (elF s)) (elF s) a b) = _ := sm_less _ ht
  have e2 : tot l (topF (lessF s t)) (lo7 (topF (lessF s t)) (leaF (lessF s t)) (elF (lessF s t))) (elF (lessF s t)) a b = sm l (lessF (hav (topF s) (lo7 (topF s) (leaF s) (elF s)) (elF s) a b) t) := by
    refine sm_congr fun i _ => ?_
    simp only [hav, topF, lo7, leaF, elF, less_up]
  have e3 : tot (l + 1) (topF s) (lo7 (topF s) (leaF s) (elF s)) (elF s) a b ≤ b * load := hF.enough
  unfold tot at e3
  rw [e2]
  have hp : 0 ≤ hav (topF s) (lo7 (topF s) (leaF s) (elF s)) (elF s) a b t := by
    have k1 : b * lo7 (topF s) (leaF s) (elF s) t ≤ hav (topF s) (lo7 (topF s) (leaF s) (elF s)) (elF s) a b t := by unfold hav; omega
    have k2 : 0 ≤ b * lo7 (topF s) (leaF s) (elF s) t := Int.mul_nonneg (by have := hF.b1; omega) (by have := (sps_fit hn h).sp.low t ht; omega)
    omega
  rw [e] at e3
  omega
theorem less_pr {l t : Nat} {c d : Int} (hn : l + 1 ≤ 4) (h : spsB (l + 1) s = true) (ht : t < l + 1) (hF : IsT (l + 1) s load a b) (hG : IsT l (lessF s t) load c d) {i : Nat} (hi : i < l) : prF (lessF s t) c d i ≤ prF s a b (skI t i) := by
  have hm := less_force hn h ht hF hG
  have hk := up_lt (t := t) hi
  obtain ⟨_, _, _, e0, _⟩ := sp_spr (sps_of h hk)
  have e1 : unF (lessF s t) c d i = unF s c d (skI t i) := by
    unfold unF hv topF leaF elF
    rw [less_up]
  have h1 : unF s a b (skI t i) ≤ unF s c d (skI t i) := hv_force hF.b1 hG.b1 e0 hm
  have h2 := un_in (n := l) (by omega) (less_sps h) hG hi
  have h3 := un_in hn h hF hk
  obtain ⟨g0, _⟩ := tg_facts hn h hF hk
  unfold prF
  rw [e1] at h2 ⊢
  rw [less_up]
  exact (more_facts (sps_of h hk) h3.2.2.1 h1 h2.2.2.2 g0).2
/-- With one task less there is room where there was. -/
theorem less_room {l t : Nat} (h : spsB (l + 1) s = true) (ht : t < l + 1) (hr : sm (l + 1) (leaF s) ≤ load) : sm l (leaF (lessF s t)) ≤ load := by
  have e : sm (l + 1) (leaF s) = sm l (leaF (lessF s t)) + leaF s t := sm_lessf s leastV ht
  have := (sp_spr (sps_of h ht)).1
  have k : leaF s t = leastV (s t) := rfl
  omega
end

/-- In another order. -/
theorem kn_rev {n : Nat} {f : Nat → Fx} (h : knAll n f = true) : knAll n (fun i => f (n - 1 - i)) = true := knAll_yes fun i hi => knAll_of h (by omega)
theorem may_rev {n : Nat} {f : Nat → Fx} (h : may9 n f = true) : may9 n (fun i => f (n - 1 - i)) = true := by
  obtain ⟨l4, hk, hu⟩ := may9_facts h
  refine may9_yes l4 (kn_rev hk) ?_
  have : sm n (uns fun i => f (n - 1 - i)) = sm n (uns f) := sm_back n (uns f)
  omega
theorem tst_rev {n : Nat} {f : Nat → Fx} (h : tst9 n f = true) : tst9 n (fun i => f (n - 1 - i)) = true := by
  obtain ⟨hm, ha⟩ := tst_iff.1 h
  refine tst_iff.2 ⟨may_rev hm, fun x x0 x1 => ?_⟩
  have : allS n (fun i => f (n - 1 - i)) x = allS n f x := sm_back n (fun i => ofV9 (f i) x)
  have := ha x x0 x1
  omega
theorem rev_rev {α : Type} {n : Nat} (f : Nat → α) {i : Nat} (h : i < n) : f (n - 1 - (n - 1 - i)) = f i := by rw [show n - 1 - (n - 1 - i) = i by omega]
theorem tst_congr {n : Nat} {f g : Nat → Fx} (h : ∀ i, i < n → f i = g i) (ht : tst9 n f = true) : tst9 n g = true := by
  obtain ⟨hm, ha⟩ := tst_iff.1 ht
  obtain ⟨l4, hk, hu⟩ := may9_facts hm
  refine tst_iff.2 ⟨may9_yes l4 (knAll_yes fun i hi => by rw [← h i hi]; exact knAll_of hk hi) ?_, fun x x0 x1 => ?_⟩
  · rw [← sm_congr (f := uns f) (g := uns g) fun i hi => by unfold uns; rw [h i hi]]; exact hu
  · have e : allS n g x = allS n f x := sm_congr fun i hi => by rw [h i hi]
    rw [e]; exact ha x x0 x1
theorem tst_rev_iff {n : Nat} {f : Nat → Fx} : tst9 n (fun i => f (n - 1 - i)) = tst9 n f := by
  cases h : tst9 n f with
  | true => exact tst_rev h
  | false =>
    cases h' : tst9 n (fun i => f (n - 1 - i)) with
    | false => rfl
    | true =>
      have h2 : tst9 n (fun i => f (n - 1 - (n - 1 - i))) = true := tst_rev (f := fun i => f (n - 1 - i)) h'
      have h3 : tst9 n f = true := tst_congr (f := fun i => f (n - 1 - (n - 1 - i))) (fun i hi => rev_rev f hi) h2
      rw [h3] at h; cases h
end Go.Proofs.YtmiakknagjncpaaGreatDoor
/- Lists of descriptions: six numbers each; that are read, and that are appended to. (As D1, which has tasks at their periods.) -/
namespace Go.Proofs.YtmiakknagjncpaaGreatDoor
open Go.RowKit Go.Shelf

def rowS (s : Sp) : List Value := [.int .i64 s.c, .int .i64 s.t, .int .i64 s.x, .int .i64 s.m, .int .i64 s.k, .int .i64 s.e]
/-- A list of descriptions that is read. -/
def Sps (w : World) (v : Value) (n : Nat) (f : Nat → Sp) : Prop :=
  ∃ a cap, v = .slice a n cap ∧ n ≤ cap ∧ cap ≤ maxLen ∧ (a = none → cap = 0) ∧ (0 < n → ∃ b o, a = some ⟨b, o, none⟩ ∧ ∀ i, i < n → ∀ j, j < 6 → w.cell? ⟨b, o + i * 6 + j, none⟩ = some (.int .i64 ((f i).at j)))
theorem Sps.later {w w' : World} {v : Value} {n : Nat} {f : Nat → Sp} (h : Sps w v n f) (hb : Below w.heap.size w w') : Sps w' v n f := by
  obtain ⟨a, cap, rfl, h1, h2, h0, h3⟩ := h
  refine ⟨a, cap, rfl, h1, h2, h0, fun hx => ?_⟩
  obtain ⟨b, o, rfl, h4⟩ := h3 hx
  exact ⟨b, o, rfl, fun i hi j hj => cell_later hb (h4 i hi j hj)⟩
theorem Sps.congr {w : World} {v : Value} {n : Nat} {f g : Nat → Sp} (h : Sps w v n f) (hg : ∀ i, i < n → f i = g i) : Sps w v n g := by
  obtain ⟨a, cap, rfl, h1, h2, h0, h3⟩ := h
  refine ⟨a, cap, rfl, h1, h2, h0, fun hx => ?_⟩
  obtain ⟨b, o, rfl, h4⟩ := h3 hx
  exact ⟨b, o, rfl, fun i hi j hj => by rw [← hg i hi]; exact h4 i hi j hj⟩
/-- One alone. -/
theorem Sps.one {w : World} {b : Nat} {s : Sp} (h : Six w b s.at) : Sps w (.slice (some ⟨b, 0, none⟩) 1 1) 1 (fun _ => s) :=
  ⟨_, 1, rfl, Nat.le_refl _, by unfold maxLen; omega, fun h => by simp at h, fun _ => ⟨b, 0, rfl, fun i hi j hj => by
    obtain rfl : i = 0 := by omega
    have := (h j hj).1
    rw [show 0 + 0 * 6 + j = j by omega]; exact this⟩⟩
/-- The six numbers of one of them. -/
theorem rowS_open {w : World} {b o : Nat} {f : Sp} (h : ∀ j, j < 6 → w.cell? ⟨b, o + j, none⟩ = some (.int .i64 (f.at j))) :
    w.cell? ⟨b, o, none⟩ = some (.int .i64 f.c) ∧ w.cell? ⟨b, o + 1, none⟩ = some (.int .i64 f.t) ∧ w.cell? ⟨b, o + 2, none⟩ = some (.int .i64 f.x) ∧ w.cell? ⟨b, o + 3, none⟩ = some (.int .i64 f.m) ∧ w.cell? ⟨b, o + 4, none⟩ = some (.int .i64 f.k) ∧ w.cell? ⟨b, o + 5, none⟩ = some (.int .i64 f.e) :=
  ⟨h 0 (by omega), h 1 (by omega), h 2 (by omega), h 3 (by omega), h 4 (by omega), h 5 (by omega)⟩

/-- Descriptions, as cells. -/
def flatS (n : Nat) (f : Nat → Sp) : List Value := (List.range n).flatMap fun i => rowS (f i)
theorem flatS_succ (n : Nat) (f : Nat → Sp) : flatS (n + 1) f = flatS n f ++ rowS (f n) := by
  unfold flatS; rw [List.range_succ, List.flatMap_append]; simp
theorem flatS_len (n : Nat) (f : Nat → Sp) : (flatS n f).length = n * 6 := by
  induction n with
  | zero => rfl
  | succ n ih => rw [flatS_succ, List.length_append, ih]; simp [rowS]; omega
theorem rowS_at (f : Sp) (j : Nat) (h : j < 6) : (rowS f)[j]? = some (.int .i64 (f.at j)) := by
  rcases (show j = 0 ∨ j = 1 ∨ j = 2 ∨ j = 3 ∨ j = 4 ∨ j = 5 by omega) with rfl | rfl | rfl | rfl | rfl | rfl <;> rfl
theorem flatS_at (n : Nat) (f : Nat → Sp) (i j : Nat) (h : i < n) (hj : j < 6) : (flatS n f)[i * 6 + j]? = some (.int .i64 ((f i).at j)) := by
  induction n with
  | zero => omega
  | succ n ih =>
    rw [flatS_succ]
    have hl := flatS_len n f
    rcases Nat.lt_succ_iff_lt_or_eq.1 h with h1 | rfl
    · rw [List.getElem?_append_left (by omega)]
      exact ih h1
    · rw [List.getElem?_append_right (by omega), hl, show i * 6 + j - i * 6 = j by omega]
      exact rowS_at _ _ hj
theorem flatS_one (n : Nat) (f : Nat → Sp) : ∀ u ∈ flatS n f, u.oneCell' = true := by
  intro u hu
  obtain ⟨i, _, hx⟩ := List.mem_flatMap.1 hu
  simp [rowS] at hx
  rcases hx with rfl | rfl | rfl | rfl | rfl | rfl <;> rfl
theorem flatS_congr {n : Nat} {f g : Nat → Sp} (h : ∀ i, i < n → f i = g i) : flatS n f = flatS n g := by
  induction n with
  | zero => rfl
  | succ n ih => rw [flatS_succ, flatS_succ, ih (fun i hi => h i (by omega)), h n (by omega)]
/-- Some, and others behind them. -/
def catS {α : Type} (n : Nat) (f g : Nat → α) (i : Nat) : α := if i < n then f i else g (i - n)
theorem catS_left {α : Type} {n : Nat} {f g : Nat → α} {i : Nat} (h : i < n) : catS n f g i = f i := if_pos h
theorem catS_right {α : Type} {n : Nat} {f g : Nat → α} {i : Nat} (h : n ≤ i) : catS n f g i = g (i - n) := if_neg (by omega)
theorem catS_zero {α : Type} (f g : Nat → α) (i : Nat) : catS 0 f g i = g i := by rw [catS_right (Nat.zero_le _)]; rfl
theorem flatS_app (n m : Nat) (f g : Nat → Sp) : flatS n f ++ flatS m g = flatS (n + m) (catS n f g) := by
  induction m with
  | zero =>
    rw [show flatS 0 g = [] from rfl, List.append_nil]
    exact flatS_congr fun i hi => (catS_left hi).symm
  | succ m ih =>
    rw [flatS_succ, ← List.append_assoc, ih, show n + (m + 1) = n + m + 1 by omega, flatS_succ, catS_right (by omega), show n + m - n = m by omega]

/-- Descriptions of the call's own. -/
def OwnS (w : World) (base : Nat) (v : Value) (n : Nat) (f : Nat → Sp) : Prop := w.ownsRow base 38 6 v n (flatS n f)
theorem OwnS.nil (w : World) (base : Nat) (f : Nat → Sp) : OwnS w base (.slice none 0 0) 0 f := World.ownsRow_nil _ _ _ _
theorem OwnS.sps {w : World} {base : Nat} {v : Value} {n : Nat} {f : Nat → Sp} (h : OwnS w base v n f) : Sps w v n f := by
  unfold OwnS at h
  have hcs := fun g hg => h.cells (g := g) hg
  obtain ⟨_, ⟨rfl, hz⟩ | ⟨g, cap, cur, rfl, hb, hh, h1, h2, _⟩⟩ := h
  · subst hz
    exact ⟨none, 0, rfl, by simp, by simp, fun _ => rfl, fun h => by omega⟩
  · refine ⟨_, cap, rfl, h1, h2, fun h => by simp at h, fun _ => ⟨g, 0, rfl, fun i hi j hj => ?_⟩⟩
    have k0 := hcs g rfl _ _ (flatS_at n f i j hi hj)
    rw [Go.WideShapes.add_plain] at k0
    rw [Nat.add_assoc]; exact k0
theorem OwnS.two {w : World} {B l m : Nat} {v : Value} {f g : Nat → Sp} (h : OwnS w B v (0 + l + m) (catS (0 + l) (catS 0 f f) g)) : Sps w v (l + m) (catS l f g) := by
  have hg := h.sps
  rw [show 0 + l + m = l + m by omega] at hg
  refine hg.congr fun i _ => ?_
  rw [Nat.zero_add]
  by_cases c : i < l
  · rw [catS_left c, catS_left c, catS_zero]
  · rw [catS_right (by omega), catS_right (by omega)]
theorem OwnS.same {w : World} {B l : Nat} {v : Value} {f g : Nat → Sp} (h : OwnS w B v (0 + l) (catS 0 f g)) : OwnS w B v l g := by
  unfold OwnS at h ⊢
  rw [Nat.zero_add] at h
  rwa [flatS_congr (g := g) fun i _ => catS_zero f g i] at h
theorem Sps.front {w : World} {b o n cap t : Nat} {f : Nat → Sp} (h : Sps w (.slice (some ⟨b, o, none⟩) n cap) n f) (ht : t ≤ n) : Sps w (.slice (some ⟨b, o, none⟩) t cap) t f := by
  obtain ⟨a, cap', e, h1, h2, h0, h3⟩ := h
  simp only [Value.slice.injEq, true_and] at e
  obtain ⟨rfl, rfl⟩ := e
  refine ⟨_, _, rfl, by omega, h2, h0, fun hx => ?_⟩
  obtain ⟨b', o', e', h4⟩ := h3 (by omega)
  exact ⟨b', o', e', fun i hi j hj => h4 i (by omega) j hj⟩
theorem Sps.tail {w : World} {b o n cap t : Nat} {f : Nat → Sp} (h : Sps w (.slice (some ⟨b, o, none⟩) n cap) n f) (ht : t ≤ n) : Sps w (.slice (some ⟨b, o + t * 6, none⟩) (n - t) (cap - t)) (n - t) (fun i => f (t + i)) := by
  obtain ⟨a, cap', e, h1, h2, h0, h3⟩ := h
  simp only [Value.slice.injEq, true_and] at e
  obtain ⟨rfl, rfl⟩ := e
  refine ⟨_, _, rfl, by omega, by omega, fun h => by simp at h, fun hx => ?_⟩
  obtain ⟨b', o', e', h4⟩ := h3 (by omega)
  simp only [Option.some.injEq, Addr.mk.injEq, and_true] at e'
  obtain ⟨rfl, rfl⟩ := e'
  refine ⟨b, o + t * 6, rfl, fun i hi j hj => ?_⟩
  have := h4 (t + i) (by omega) j hj
  rwa [show o + (t + i) * 6 + j = o + t * 6 + i * 6 + j by omega] at this
theorem Sps.zero {w : World} {ad : Addr} {m n cap : Nat} {f : Nat → Sp} (hm : m = 0) (hn : n = 0) (hc : cap ≤ maxLen) : Sps w (.slice (some ad) m cap) n f := by
  subst hm hn
  exact ⟨_, _, rfl, Nat.zero_le _, hc, fun h => by simp at h, fun h => by omega⟩

theorem Tryz.infoSpec : (Tryz.prog.info? 38).map (fun i => (i.zero, i.size, i.bytes)) = some (some (.agg #[.int .i64 0, .int .i64 0, .int .i64 0, .int .i64 0, .int .i64 0, .int .i64 0]), 6, 48) := by kernel_rfl

/-- What an append of descriptions comes to. -/
theorem wp_append_sps {w : World} {o : Oper} {act : Act} {K : Act → World → Prop} {Q : Exit → Act → World → Prop} (s x : Operand)
    (ho : o.op = .call { callee := .builtin .append, args := #[s, x], argTypes := #[22, 22] }) (base : Nat) (v u : Value) (n m : Nat) (f g : Nat → Sp)
    (hs : act.eval s = v) (hown : OwnS w base v n f) (hx : act.eval x = u) (hr : Sps w u m g) (hn : n + m ≤ 100000) (hbase : base ≤ w.heap.size)
    (h : ∀ v' w', OwnS w' base v' (n + m) (catS n f g) → Below base w w' → K (act.put o.dst v') w') : Oper.wp Tryz.prog o act w K Q := by
  obtain ⟨i0, hi, hz0, hz1, hz2⟩ := info_parts Tryz.infoSpec
  unfold OwnS at hown
  have hlow := hown.lt
  obtain ⟨a, cap, rfl, h1, h2, h0, h3⟩ := hr
  have m1 : n + m ≤ maxLen := by unfold maxLen; omega
  have main : ∀ (ad : Addr), a = some ad → (∀ j q, (flatS m g)[j]? = some q → w.cell? (ad.add j) = some q) → Oper.wp Tryz.prog o act w K Q := by
    intro ad ha hcells
    subst ha
    refine wp_append_own w s x 22 ho base 38 i0 _ 6 48 Tryz.underlying22 hi hz0 hz1 hz2 rfl (by decide) v n (flatS n f) hs hown ad m cap (flatS m g) hx (by rw [flatS_len]) hcells (flatS_one _ _) m1 (by omega) hbase ?_
    intro v' w' g1 g2 _
    rw [flatS_app] at g1
    exact h v' w' g1 ((Below.refl _ _).grown g2 hbase fun k hk => (hlow k hk).1)
  cases a with
  | none =>
    obtain rfl := h0 rfl
    obtain rfl : m = 0 := by omega
    have hr := run_append_owned_none (P := Tryz.prog) (w := w) base 22 o.type 38 i0 6 Tryz.underlying22 hi v n (flatS n f) hown
    unfold Oper.wp execOp
    have hx' : act.eval x = .slice none 0 0 := hx
    simp only [ho, resolve, invoke, builtin, Sem.run_bind, Sem.run_pure, Result.andThen_ok, List.map_toArray, List.map_cons, List.map_nil, hs, hx', hr]
    refine h v w ?_ (Below.refl _ _)
    unfold OwnS
    rw [← flatS_app, show flatS 0 g = [] from rfl, List.append_nil]
    exact hown
  | some ad =>
    refine main ad rfl (fun j q hq => ?_)
    have hj : j < (flatS m g).length := (List.getElem?_eq_some_iff.1 hq).1
    rw [flatS_len] at hj
    obtain ⟨b, oo, he, h4⟩ := h3 (by omega)
    obtain rfl : ad = ⟨b, oo, none⟩ := by simpa using he
    have k0 := flatS_at m g (j / 6) (j % 6) (by omega) (by omega)
    rw [show j / 6 * 6 + j % 6 = j by omega] at k0
    rw [k0] at hq
    rw [← hq, Go.WideShapes.add_plain]
    have := h4 (j / 6) (by omega) (j % 6) (by omega)
    rwa [show oo + j / 6 * 6 + j % 6 = oo + j by omega] at this
theorem append_sps {w : World} {ops : Array Oper} {rest : List Oper} {o : Oper} {act : Act} {Q : Exit → Act → World → Prop} (hgd : o.guard = Option.none) (s x : Operand)
    (ho : o.op = .call { callee := .builtin .append, args := #[s, x], argTypes := #[22, 22] }) (base : Nat) (v u : Value) (n m : Nat) (f g : Nat → Sp)
    (hs : act.eval s = v) (hown : OwnS w base v n f) (hx : act.eval x = u) (hr : Sps w u m g) (hn : n + m ≤ 100000) (hbase : base ≤ w.heap.size)
    (h : ∀ v' w', OwnS w' base v' (n + m) (catS n f g) → Below base w w' → wpList Tryz.prog ops Q rest (act.put o.dst v') w') : wpList Tryz.prog ops Q (o :: rest) act w := by
  refine wpList_plain hgd fun K hK => ?_
  exact wp_append_sps s x ho base v u n m f g hs hown hx hr hn hbase fun v' w' h1 h2 => hK _ _ (h v' w' h1 h2)
theorem step_append_sps {w : World} {ops : Array Oper} {o : Oper} {act : Act} {K : Act → World → Prop} {Q : Exit → Act → World → Prop} {E : Prop} (hgd : o.guard = Option.none) (s x : Operand)
    (ho : o.op = .call { callee := .builtin .append, args := #[s, x], argTypes := #[22, 22] }) (base : Nat) (v u : Value) (n m : Nat) (f g : Nat → Sp)
    (hs : act.eval s = v) (hown : OwnS w base v n f) (hx : act.eval x = u) (hr : Sps w u m g) (hn : n + m ≤ 100000) (hbase : base ≤ w.heap.size)
    (h : ∀ v' w', OwnS w' base v' (n + m) (catS n f g) → Below base w w' → K (act.put o.dst v') w') :
    if Region.wanted o (yielded ops act.tmps) = true then Oper.wp Tryz.prog o act w K Q else E := by
  have hw : Region.wanted o (yielded ops act.tmps) = true := by simp [Region.wanted, hgd]
  rw [if_pos hw]
  exact wp_append_sps s x ho base v u n m f g hs hown hx hr hn hbase h
end Go.Proofs.YtmiakknagjncpaaGreatDoor
