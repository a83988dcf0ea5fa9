/- Lists of structs of any kind, as they lie: that are read, that are the call's own, appended to, written. -/
import Derived.Test.YtjaaabliefcgaaaP0
import Derived.WalkMore
import Derived.Shelf.Abstract
import Derived.Laws.OwnMore
import Derived.Laws.AppendOwnNone
import Derived.OwnWalk
namespace Go.Proofs.Ytjaaabliefcgaaa
open Go.RowKit Go.Shelf

/-- A kind of struct: so many cells, of one value each. -/
structure Rec (α : Type) where
  K : Nat
  row : α → List Value
  len : ∀ x, (row x).length = K
  one : ∀ x, ∀ u ∈ row x, u.oneCell' = true
  pos : 0 < K
section
variable {α : Type} {R : Rec α}
theorem Rec.cell (R : Rec α) (x : α) {j : Nat} (h : j < R.K) : ∃ u, (R.row x)[j]? = some u := ⟨_, List.getElem?_eq_getElem (by rw [R.len]; exact h)⟩
theorem cell_laterR {w w' : World} {p : Addr} {x : α} {j : Nat} (hb : Below w.heap.size w w') (hj : j < R.K) (h : w.cell? p = (R.row x)[j]?) : w'.cell? p = (R.row x)[j]? := by
  obtain ⟨u, hu⟩ := R.cell x hj
  rw [hu] at h ⊢
  exact cell_later hb h
/-- One that lies in a block of its own, and may be written. -/
def Bx (R : Rec α) (w : World) (b : Nat) (x : α) : Prop := ∀ j, j < R.K → w.cell? ⟨b, j, none⟩ = (R.row x)[j]? ∧ w.frozen? ⟨b, j, none⟩ = false
theorem Bx.new (R : Rec α) (w : World) (x : α) (t : TypeId) : Bx R (w.alloc (.cells (R.row x).toArray t)) w.heap.size x := by
  intro j _
  have hg := heap_alloc_new w (.cells (R.row x).toArray t)
  exact ⟨by rw [cell_of_row _ _ j _ t (0, 0) hg]; simp, frozen_of_row _ _ j _ t hg⟩
theorem Bx.later {w w' : World} {b : Nat} {x : α} (h : Bx R w b x) (hb : Below w.heap.size w w') : Bx R w' b x := by
  intro j hj
  obtain ⟨h1, h2⟩ := h j hj
  obtain ⟨u, hu⟩ := R.cell x hj
  exact ⟨cell_laterR hb hj h1, (hb.frozen (p := ⟨b, j, none⟩) (World.block_lt_of_cell? _ _ (h1.trans hu))).trans h2⟩
theorem Bx.lt {w : World} {b : Nat} {x : α} (h : Bx R w b x) : b < w.heap.size := by
  obtain ⟨u, hu⟩ := R.cell x R.pos
  exact World.block_lt_of_cell? _ _ ((h 0 R.pos).1.trans hu)
/-- A list that is read. -/
def Rws (R : Rec α) (w : World) (v : Value) (n : Nat) (f : Nat → α) : Prop :=
  ∃ a cap, v = .slice a n cap ∧ n ≤ cap ∧ cap ≤ maxLen ∧ (a = none → cap = 0) ∧ (0 < n → ∃ b o, a = some ⟨b, o, none⟩ ∧ ∀ i, i < n → ∀ j, j < R.K → w.cell? ⟨b, o + i * R.K + j, none⟩ = (R.row (f i))[j]?)
theorem Rws.later {w w' : World} {v : Value} {n : Nat} {f : Nat → α} (h : Rws R w v n f) (hb : Below w.heap.size w w') : Rws R w' v n f := by
  obtain ⟨a, cap, rfl, h1, h2, h0, h3⟩ := h
  refine ⟨a, cap, rfl, h1, h2, h0, fun hx => ?_⟩
  obtain ⟨b, o, rfl, h4⟩ := h3 hx
  exact ⟨b, o, rfl, fun i hi j hj => cell_laterR hb hj (h4 i hi j hj)⟩
theorem Rws.congr {w : World} {v : Value} {n : Nat} {f g : Nat → α} (h : Rws R w v n f) (hg : ∀ i, i < n → f i = g i) : Rws R w v n g := by
  obtain ⟨a, cap, rfl, h1, h2, h0, h3⟩ := h
  refine ⟨a, cap, rfl, h1, h2, h0, fun hx => ?_⟩
  obtain ⟨b, o, rfl, h4⟩ := h3 hx
  exact ⟨b, o, rfl, fun i hi j hj => by rw [← hg i hi]; exact h4 i hi j hj⟩
theorem Rws.nil (R : Rec α) (w : World) (f : Nat → α) : Rws R w (.slice none 0 0) 0 f := ⟨none, 0, rfl, Nat.le_refl _, Nat.zero_le _, fun _ => rfl, fun h => by omega⟩
theorem Rws.one {w : World} {b : Nat} {x : α} (h : Bx R w b x) : Rws R w (.slice (some ⟨b, 0, none⟩) 1 1) 1 (fun _ => x) :=
  ⟨_, 1, rfl, Nat.le_refl _, by unfold maxLen; omega, fun h => by simp at h, fun _ => ⟨b, 0, rfl, fun i hi j hj => by
    obtain rfl : i = 0 := by omega
    have := (h j hj).1
    rw [show 0 + 0 * R.K + j = j by omega]; exact this⟩⟩
theorem Rws.front {w : World} {b o n cap t : Nat} {f : Nat → α} (h : Rws R w (.slice (some ⟨b, o, none⟩) n cap) n f) (ht : t ≤ n) : Rws R w (.slice (some ⟨b, o, none⟩) t cap) t f := by
  obtain ⟨a, cap', e, h1, h2, h0, h3⟩ := h
  simp only [Value.slice.injEq, true_and] at e
  obtain ⟨rfl, rfl⟩ := e
  refine ⟨_, _, rfl, by omega, h2, h0, fun hx => ?_⟩
  obtain ⟨b', o', e', h4⟩ := h3 (by omega)
  exact ⟨b', o', e', fun i hi j hj => h4 i (by omega) j hj⟩
theorem Rws.tail {w : World} {b o n cap t : Nat} {f : Nat → α} (h : Rws R w (.slice (some ⟨b, o, none⟩) n cap) n f) (ht : t ≤ n) : Rws R w (.slice (some ⟨b, o + t * R.K, none⟩) (n - t) (cap - t)) (n - t) (fun i => f (t + i)) := by
  obtain ⟨a, cap', e, h1, h2, h0, h3⟩ := h
  simp only [Value.slice.injEq, true_and] at e
  obtain ⟨rfl, rfl⟩ := e
  refine ⟨_, _, rfl, by omega, by omega, fun h => by simp at h, fun hx => ?_⟩
  obtain ⟨b', o', e', h4⟩ := h3 (by omega)
  simp only [Option.some.injEq, Addr.mk.injEq, and_true] at e'
  obtain ⟨rfl, rfl⟩ := e'
  refine ⟨b, o + t * R.K, rfl, fun i hi j hj => ?_⟩
  have := h4 (t + i) (by omega) j hj
  rwa [show o + (t + i) * R.K + j = o + t * R.K + i * R.K + j by rw [Nat.add_mul]; omega] at this
theorem Rws.zero {w : World} {ad : Addr} {m n cap : Nat} {f : Nat → α} (hm : m = 0) (hn : n = 0) (hc : cap ≤ maxLen) : Rws R w (.slice (some ad) m cap) n f := by
  subst hm hn
  exact ⟨_, _, rfl, Nat.zero_le _, hc, fun h => by simp at h, fun h => by omega⟩

/-- All their cells. -/
def flatR (R : Rec α) (n : Nat) (f : Nat → α) : List Value := (List.range n).flatMap fun i => R.row (f i)
theorem flatR_succ (n : Nat) (f : Nat → α) : flatR R (n + 1) f = flatR R n f ++ R.row (f n) := by
  unfold flatR; rw [List.range_succ, List.flatMap_append]; simp
theorem flatR_len (n : Nat) (f : Nat → α) : (flatR R n f).length = n * R.K := by
  induction n with
  | zero => rw [Nat.zero_mul]; rfl
  | succ n ih => rw [flatR_succ, List.length_append, ih, R.len, Nat.succ_mul]
theorem flatR_at (n : Nat) (f : Nat → α) (i j : Nat) (h : i < n) (hj : j < R.K) : (flatR R n f)[i * R.K + j]? = (R.row (f i))[j]? := by
  induction n with
  | zero => omega
  | succ n ih =>
    rw [flatR_succ]
    have hl := flatR_len (R := R) n f
    rcases Nat.lt_succ_iff_lt_or_eq.1 h with h1 | rfl
    · have hlt : i * R.K + j < n * R.K := by
        have : (i + 1) * R.K ≤ n * R.K := Nat.mul_le_mul_right _ (by omega)
        rw [Nat.succ_mul] at this
        omega
      rw [List.getElem?_append_left (by omega)]
      exact ih h1
    · rw [List.getElem?_append_right (by omega), hl, show i * R.K + j - i * R.K = j by omega]
theorem flatR_get (n : Nat) (f : Nat → α) (t : Nat) (ht : t < n * R.K) : (flatR R n f)[t]? = (R.row (f (t / R.K)))[t % R.K]? := by
  have hp := R.pos
  have h1 : t / R.K < n := (Nat.div_lt_iff_lt_mul hp).2 ht
  have := flatR_at n f (t / R.K) (t % R.K) h1 (Nat.mod_lt _ hp)
  rwa [Nat.mul_comm, Nat.div_add_mod] at this
theorem flatR_one (n : Nat) (f : Nat → α) : ∀ u ∈ flatR R n f, u.oneCell' = true := by
  intro u hu
  obtain ⟨i, _, hx⟩ := List.mem_flatMap.1 hu
  exact R.one _ u hx
theorem flatR_congr {n : Nat} {f g : Nat → α} (h : ∀ i, i < n → f i = g i) : flatR R n f = flatR R n g := by
  induction n with
  | zero => rfl
  | succ n ih => rw [flatR_succ, flatR_succ, ih (fun i hi => h i (by omega)), h n (by omega)]
/-- Some, and others behind them. -/
def catR (n : Nat) (f g : Nat → α) (i : Nat) : α := if i < n then f i else g (i - n)
theorem catR_left {n : Nat} {f g : Nat → α} {i : Nat} (h : i < n) : catR n f g i = f i := if_pos h
theorem catR_right {n : Nat} {f g : Nat → α} {i : Nat} (h : n ≤ i) : catR n f g i = g (i - n) := if_neg (by omega)
theorem catR_zero (f g : Nat → α) (i : Nat) : catR 0 f g i = g i := by rw [catR_right (Nat.zero_le _)]; rfl
theorem flatR_app (n m : Nat) (f g : Nat → α) : flatR R n f ++ flatR R m g = flatR R (n + m) (catR n f g) := by
  induction m with
  | zero =>
    rw [show flatR R 0 g = [] from rfl, List.append_nil]
    exact flatR_congr fun i hi => (catR_left hi).symm
  | succ m ih =>
    rw [flatR_succ, ← List.append_assoc, ih, show n + (m + 1) = n + m + 1 by omega, flatR_succ, catR_right (by omega), show n + m - n = m by omega]

/-- A list of the call's own. -/
def OwnR (R : Rec α) (w : World) (base : Nat) (e : TypeId) (v : Value) (n : Nat) (f : Nat → α) : Prop := w.ownsRow base e R.K v n (flatR R n f)
theorem OwnR.nil (R : Rec α) (w : World) (base : Nat) (e : TypeId) (f : Nat → α) : OwnR R w base e (.slice none 0 0) 0 f := World.ownsRow_nil _ _ _ _
theorem OwnR.later {w w' : World} {base : Nat} {e : TypeId} {v : Value} {n : Nat} {f : Nat → α} (h : OwnR R w base e v n f) (hb : Below w.heap.size w w') : OwnR R w' base e v n f := own_laterF h hb
theorem OwnR.congr {w : World} {base : Nat} {e : TypeId} {v : Value} {n : Nat} {f g : Nat → α} (h : OwnR R w base e v n f) (hg : ∀ i, i < n → f i = g i) : OwnR R w base e v n g := by
  unfold OwnR at h ⊢
  rwa [flatR_congr hg] at h
theorem OwnR.rws {w : World} {base : Nat} {e : TypeId} {v : Value} {n : Nat} {f : Nat → α} (h : OwnR R w base e v n f) : Rws R w v n f := by
  unfold OwnR at h
  have hcs := fun g hg => h.cells (g := g) hg
  obtain ⟨_, ⟨rfl, hz⟩ | ⟨g, cap, cur, rfl, hb, hh, h1, h2, _⟩⟩ := h
  · subst hz
    exact Rws.nil R w f
  · refine ⟨_, cap, rfl, h1, h2, fun h => by simp at h, fun _ => ⟨g, 0, rfl, fun i hi j hj => ?_⟩⟩
    obtain ⟨u, hu⟩ := R.cell (f i) hj
    have k0 := hcs g rfl _ _ ((flatR_at n f i j hi hj).trans hu)
    rw [Go.WideShapes.add_plain] at k0
    rw [hu, Nat.add_assoc]
    exact k0
theorem OwnR.open {w : World} {base : Nat} {e : TypeId} {v : Value} {n : Nat} {f : Nat → α} (h : OwnR R w base e v n f) : (v = .slice none 0 0 ∧ n = 0) ∨ ∃ g cap, v = .slice (some ⟨g, 0, none⟩) n cap ∧ base ≤ g ∧ g < w.heap.size ∧ n ≤ cap ∧ cap ≤ maxLen := by
  have hl := World.ownsRow.lt h
  obtain ⟨_, h1 | ⟨g, cap, cur, h2, h3, _, h4, h5, _⟩⟩ := h
  · exact .inl h1
  · subst h2
    exact .inr ⟨g, cap, rfl, h3, (hl g rfl).2, h4, h5⟩
theorem OwnR.cell {w : World} {base g n cap : Nat} {e : TypeId} {f : Nat → α} (h : OwnR R w base e (.slice (some ⟨g, 0, none⟩) n cap) n f) {i j : Nat} (hi : i < n) (hj : j < R.K) : w.cell? ⟨g, i * R.K + j, none⟩ = (R.row (f i))[j]? ∧ w.frozen? ⟨g, i * R.K + j, none⟩ = false := by
  unfold OwnR at h
  refine ⟨(h.cellAt (i * R.K + j) ?_).trans (flatR_at n f i j hi hj), h.frozenAt _⟩
  have : (i + 1) * R.K ≤ n * R.K := Nat.mul_le_mul_right _ (by omega)
  rw [Nat.succ_mul] at this
  omega
theorem OwnR.two {w : World} {B l m : Nat} {e : TypeId} {v : Value} {f g : Nat → α} (h : OwnR R w B e v (0 + l + m) (catR (0 + l) (catR 0 f f) g)) : OwnR R w B e v (l + m) (catR l f g) := by
  rw [Nat.zero_add] at h
  refine h.congr fun i _ => ?_
  by_cases c : i < l
  · rw [catR_left c, catR_left c, catR_zero]
  · rw [catR_right (by omega), catR_right (by omega)]
theorem OwnR.same {w : World} {B l : Nat} {e : TypeId} {v : Value} {f g : Nat → α} (h : OwnR R w B e v (0 + l) (catR 0 f g)) : OwnR R w B e v l g := by
  rw [Nat.zero_add] at h
  exact h.congr fun i _ => catR_zero f g i

/-- Cells that are written, one behind the other. -/
def putW (w : World) (g o : Nat) : List Value → World
  | [] => w
  | u :: us => putW (w.setCell ⟨g, o, none⟩ u) g (o + 1) us
def setL (xs : List Value) (o : Nat) : List Value → List Value
  | [] => xs
  | u :: us => setL (xs.set o u) (o + 1) us
theorem setL_len (us : List Value) : ∀ (xs : List Value) (o : Nat), (setL xs o us).length = xs.length := by
  induction us with
  | nil => intro xs o; rfl
  | cons u us ih => intro xs o; show (setL (xs.set o u) (o + 1) us).length = _; rw [ih, List.length_set]
theorem setL_get (us : List Value) : ∀ (xs : List Value) (o t : Nat), o + us.length ≤ xs.length → (setL xs o us)[t]? = if o ≤ t ∧ t < o + us.length then us[t - o]? else xs[t]? := by
  induction us with
  | nil => intro xs o t _; rw [if_neg (by simp)]; rfl
  | cons u us ih =>
    intro xs o t h
    simp only [List.length_cons] at h ⊢
    show (setL (xs.set o u) (o + 1) us)[t]? = _
    rw [ih _ _ _ (by rw [List.length_set]; omega)]
    by_cases c : t = o
    · subst c
      rw [if_neg (by omega), if_pos (by omega), Nat.sub_self, List.getElem?_set, if_pos rfl, if_pos (by omega)]
      rfl
    · by_cases d : o + 1 ≤ t ∧ t < o + 1 + us.length
      · rw [if_pos d, if_pos (by omega), show t - o = t - (o + 1) + 1 by omega]
        rfl
      · rw [if_neg d, if_neg (by omega), List.getElem?_set, if_neg (fun e => c e.symm)]
theorem own_putW {base e size g n cap : Nat} (us : List Value) : ∀ {w : World} {xs : List Value} (o : Nat), w.ownsRow base e size (.slice (some ⟨g, 0, none⟩) n cap) n xs → (putW w g o us).ownsRow base e size (.slice (some ⟨g, 0, none⟩) n cap) n (setL xs o us) := by
  induction us with
  | nil => intro w xs o h; exact h
  | cons u us ih => intro w xs o h; exact ih (o + 1) (h.stored o u).1
theorem below_putW {B g : Nat} {a : World} (hB : B ≤ g) (us : List Value) : ∀ {w : World} (o : Nat), Below B a w → Below B a (putW w g o us) := by
  induction us with
  | nil => intro w o h; exact h
  | cons u us ih => intro w o h; exact ih (o + 1) (h.setCell (p := ⟨g, o, none⟩) hB _)
def upR (f : Nat → α) (i : Nat) (x : α) (a : Nat) : α := if a = i then x else f a
theorem flatR_put {n : Nat} {f : Nat → α} {i : Nat} {x : α} (hi : i < n) : setL (flatR R n f) (i * R.K) (R.row x) = flatR R n (upR f i x) := by
  have hp := R.pos
  have hb : (i + 1) * R.K ≤ n * R.K := Nat.mul_le_mul_right _ (by omega)
  rw [Nat.succ_mul] at hb
  apply List.ext_getElem?
  intro t
  rw [setL_get _ _ _ _ (by rw [R.len, flatR_len]; omega), R.len]
  by_cases ht : t < n * R.K
  · rw [flatR_get n (upR f i x) t ht]
    by_cases c : t / R.K = i
    · have e := Nat.div_add_mod t R.K
      rw [c, Nat.mul_comm] at e
      have hm := Nat.mod_lt t hp
      unfold upR
      rw [if_pos (by omega), if_pos c, show t - i * R.K = t % R.K by omega]
    · have hne : ¬ (i * R.K ≤ t ∧ t < i * R.K + R.K) := by
        rintro ⟨h1, h2⟩
        apply c
        have h3 : i ≤ t / R.K := (Nat.le_div_iff_mul_le hp).2 h1
        have h4 : t / R.K < i + 1 := (Nat.div_lt_iff_lt_mul hp).2 (by rw [Nat.succ_mul]; omega)
        omega
      unfold upR
      rw [if_neg hne, if_neg c, flatR_get n f t ht]
  · rw [if_neg (by omega), List.getElem?_eq_none (by rw [flatR_len]; omega), List.getElem?_eq_none (by rw [flatR_len]; omega)]
/-- One of them is written, whole. -/
theorem OwnR.put {w : World} {base g n cap : Nat} {e : TypeId} {f : Nat → α} (h : OwnR R w base e (.slice (some ⟨g, 0, none⟩) n cap) n f) {i : Nat} (hi : i < n) (x : α) : OwnR R (putW w g (i * R.K) (R.row x)) base e (.slice (some ⟨g, 0, none⟩) n cap) n (upR f i x) := by
  unfold OwnR at h ⊢
  have := own_putW (R.row x) (i * R.K) h
  rwa [flatR_put hi] at this
/-- One cell of one of them is written. -/
theorem OwnR.set {w : World} {base g n cap : Nat} {e : TypeId} {f : Nat → α} (h : OwnR R w base e (.slice (some ⟨g, 0, none⟩) n cap) n f) {i j : Nat} (hi : i < n) {x : α} {u : Value} (hj : j < R.K) (hx : R.row x = (R.row (f i)).set j u) :
    OwnR R (w.setCell ⟨g, i * R.K + j, none⟩ u) base e (.slice (some ⟨g, 0, none⟩) n cap) n (upR f i x) := by
  unfold OwnR at h ⊢
  have h1 := (h.stored (i * R.K + j) u).1
  have e1 : (flatR R n f).set (i * R.K + j) u = flatR R n (upR f i x) := by
    rw [← flatR_put hi]
    apply List.ext_getElem?
    intro t
    have hb : (i + 1) * R.K ≤ n * R.K := Nat.mul_le_mul_right _ (by omega)
    rw [Nat.succ_mul] at hb
    rw [setL_get _ _ _ _ (by rw [R.len, flatR_len]; omega), R.len, List.getElem?_set, flatR_len]
    by_cases c : i * R.K + j = t
    · subst c
      rw [if_pos rfl, if_pos (by omega), if_pos (by omega), hx, show i * R.K + j - i * R.K = j by omega, List.getElem?_set, if_pos rfl, if_pos (by rw [R.len]; exact hj)]
    · rw [if_neg c]
      by_cases d : i * R.K ≤ t ∧ t < i * R.K + R.K
      · have k0 := flatR_at (R := R) n f i (t - i * R.K) hi (by omega)
        rw [show i * R.K + (t - i * R.K) = t by omega] at k0
        rw [if_pos d, hx, List.getElem?_set, if_neg (by omega), k0]
      · rw [if_neg d]
  rwa [e1] at h1
/-- Made anew: so many zero ones. -/
theorem made_flatR {x : α} {z : Array Value} (hz : z.toList = R.row x) (n : Nat) : (madeCells z (n * R.K)).toList = flatR R n (fun _ => x) := by
  have hp := R.pos
  have hs : z.size = R.K := by rw [← Array.length_toList, hz, R.len]
  apply List.ext_getElem?
  intro t
  by_cases ht : t < n * R.K
  · rw [flatR_get n _ t ht, ← hz]
    have hm := Nat.mod_lt t hp
    have hm' : t % R.K < z.size := by omega
    simp [madeCells, ht, hs]
    rw [Array.getElem?_eq_getElem hm', getElem!_pos z _ hm']
  · rw [List.getElem?_eq_none (by simp [madeCells]; omega), List.getElem?_eq_none (by rw [flatR_len]; omega)]
/-- The first j are told, the others are zero ones. -/
def toR (z : α) (j : Nat) (f : Nat → α) (i : Nat) : α := if i < j then f i else z
theorem toR_step (z : α) (j : Nat) (f : Nat → α) (i : Nat) : upR (toR z j f) j (f j) i = toR z (j + 1) f i := by
  unfold upR toR
  by_cases c : i = j
  · subst c; rw [if_pos rfl, if_pos (by omega)]
  · rw [if_neg c]
    by_cases d : i < j
    · rw [if_pos d, if_pos (by omega)]
    · rw [if_neg d, if_neg (by omega)]

/-- What an append comes to. -/
theorem wp_append_rws {P : Program} {w : World} {o : Oper} {act : Act} {K : Act → World → Prop} {Q : Exit → Act → World → Prop} {T E : TypeId} {z : Value} {by' : Nat} (hT : P.underlying T = some (.slice E)) (hI : (P.info? E).map (fun i => (i.zero, i.size, i.bytes)) = some (some z, R.K, by')) (hz : z.cells.size = R.K) (hby : by' ≤ 1000000000) (s x : Operand)
    (ho : o.op = .call { callee := .builtin .append, args := #[s, x], argTypes := #[T, T] }) (base : Nat) (v u : Value) (n m : Nat) (f g : Nat → α)
    (hs : act.eval s = v) (hown : OwnR R w base E v n f) (hx : act.eval x = u) (hr : Rws R w u m g) (hn : n + m ≤ 100000) (hbase : base ≤ w.heap.size)
    (h : ∀ v' w', OwnR R w' base E v' (n + m) (catR n f g) → Below base w w' → K (act.put o.dst v') w') : Oper.wp P o act w K Q := by
  obtain ⟨i0, hi, hz0, hz1, hz2⟩ := info_parts hI
  unfold OwnR at hown
  have hlow := hown.lt
  obtain ⟨a, cap, rfl, h1, h2, h0, h3⟩ := hr
  have m1 : n + m ≤ maxLen := by unfold maxLen; omega
  have hbt : (n + m) * by' ≤ 140737488355328 := by
    have : (n + m) * by' ≤ 100000 * 1000000000 := Nat.mul_le_mul hn hby
    omega
  cases a with
  | none =>
    obtain rfl := h0 rfl
    obtain rfl : m = 0 := by omega
    have hr := run_append_owned_none (P := P) (w := w) base T o.type E i0 R.K hT hi v n (flatR R n f) hown
    unfold Oper.wp execOp
    have hx' : act.eval x = .slice none 0 0 := hx
    simp only [ho, resolve, invoke, builtin, Sem.run_bind, Sem.run_pure, Result.andThen_ok, List.map_toArray, List.map_cons, List.map_nil, hs, hx', hr]
    refine h v w ?_ (Below.refl _ _)
    unfold OwnR
    rw [← flatR_app, show flatR R 0 g = [] from rfl, List.append_nil]
    exact hown
  | some ad =>
    refine wp_append_own w s x T ho base E i0 z R.K by' hT hi hz0 hz1 hz2 hz R.pos v n (flatR R n f) hs hown ad m cap (flatR R m g) hx (by rw [flatR_len]) (fun j q hq => ?_) (flatR_one _ _) m1 hbt hbase ?_
    · have hj : j < (flatR R m g).length := (List.getElem?_eq_some_iff.1 hq).1
      rw [flatR_len] at hj
      have hp := R.pos
      have hm0 : 0 < m := by
        rcases Nat.eq_zero_or_pos m with rfl | h
        · rw [Nat.zero_mul] at hj; omega
        · exact h
      obtain ⟨b, oo, he, h4⟩ := h3 hm0
      obtain rfl : ad = ⟨b, oo, none⟩ := by simpa using he
      rw [flatR_get m g j hj] at hq
      rw [← hq, Go.WideShapes.add_plain]
      have := h4 (j / R.K) ((Nat.div_lt_iff_lt_mul hp).2 hj) (j % R.K) (Nat.mod_lt _ hp)
      rwa [Nat.add_assoc, show j / R.K * R.K + j % R.K = j by rw [Nat.mul_comm, Nat.div_add_mod]] at this
    · intro v' w' g1 g2 _
      rw [flatR_app] at g1
      exact h v' w' g1 ((Below.refl _ _).grown g2 hbase fun k hk => (hlow k hk).1)
theorem append_rws {P : Program} {w : World} {ops : Array Oper} {rest : List Oper} {o : Oper} {act : Act} {Q : Exit → Act → World → Prop} {T E : TypeId} {z : Value} {by' : Nat} (hT : P.underlying T = some (.slice E)) (hI : (P.info? E).map (fun i => (i.zero, i.size, i.bytes)) = some (some z, R.K, by')) (hz : z.cells.size = R.K) (hby : by' ≤ 1000000000) (hgd : o.guard = Option.none) (s x : Operand)
    (ho : o.op = .call { callee := .builtin .append, args := #[s, x], argTypes := #[T, T] }) (base : Nat) (v u : Value) (n m : Nat) (f g : Nat → α)
    (hs : act.eval s = v) (hown : OwnR R w base E v n f) (hx : act.eval x = u) (hr : Rws R w u m g) (hn : n + m ≤ 100000) (hbase : base ≤ w.heap.size)
    (h : ∀ v' w', OwnR R w' base E v' (n + m) (catR n f g) → Below base w w' → wpList P ops Q rest (act.put o.dst v') w') : wpList P ops Q (o :: rest) act w := by
  refine wpList_plain hgd fun K hK => ?_
  exact wp_append_rws hT hI hz hby s x ho base v u n m f g hs hown hx hr hn hbase fun v' w' h1 h2 => hK _ _ (h v' w' h1 h2)
theorem step_append_rws {P : Program} {w : World} {ops : Array Oper} {o : Oper} {act : Act} {K : Act → World → Prop} {Q : Exit → Act → World → Prop} {X : Prop} {T E : TypeId} {z : Value} {by' : Nat} (hT : P.underlying T = some (.slice E)) (hI : (P.info? E).map (fun i => (i.zero, i.size, i.bytes)) = some (some z, R.K, by')) (hz : z.cells.size = R.K) (hby : by' ≤ 1000000000) (hgd : o.guard = Option.none) (s x : Operand)
    (ho : o.op = .call { callee := .builtin .append, args := #[s, x], argTypes := #[T, T] }) (base : Nat) (v u : Value) (n m : Nat) (f g : Nat → α)
    (hs : act.eval s = v) (hown : OwnR R w base E v n f) (hx : act.eval x = u) (hr : Rws R w u m g) (hn : n + m ≤ 100000) (hbase : base ≤ w.heap.size)
    (h : ∀ v' w', OwnR R w' base E v' (n + m) (catR n f g) → Below base w w' → K (act.put o.dst v') w') :
    if Region.wanted o (yielded ops act.tmps) = true then Oper.wp P o act w K Q else X := by
  have hw : Region.wanted o (yielded ops act.tmps) = true := by simp [Region.wanted, hgd]
  rw [if_pos hw]
  exact wp_append_rws hT hI hz hby s x ho base v u n m f g hs hown hx hr hn hbase h
end
end Go.Proofs.Ytjaaabliefcgaaa
