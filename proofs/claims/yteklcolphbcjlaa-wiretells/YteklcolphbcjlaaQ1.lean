/- Texts that belong together, one behind the other: W1, A1, M1, E1, AA1, H1, H2, R1, R8, V3, U1, E3, E4, E5, E6, E12, E13, U4. -/
import Derived.Test.YteklcolphbcjlaaRows
import Derived.WalkKit
import Derived.WalkSpells
import Derived.Below
import Derived.ChangeKeysEq
import Derived.Lib.Mul64
import Derived.Deep.RegionWith
import Derived.Laws.EntriesVeiled
import Derived.Deep.RegionHeld3
import Derived.BigRegion
import Derived.ProofKit
import Derived.OpenShut
import Derived.Carry
import Derived.Lib.SmallJoins
import Derived.Deep.Grids
import Derived.Deep.SlicePairs
import Derived.Deep.WholeRow
import Derived.Laws.StructEq
/- Walks of frac's quotients: Floor and Ceil answer as chapter 1 says, for all arguments; so do the document's own. -/
namespace Go.Proofs.Yteklcolphbcjlaa
open Go.RowKit

/-- What is rounded up. -/
def cl (a b : Int) : Int := if a % b = 0 then a / b else a / b + 1

theorem ret_b {a b : Bool} (h : a = b) : Ending.returned (.bool a) = .returned (.bool b) := by rw [h]
end Go.Proofs.Yteklcolphbcjlaa
/- Walks of package pat, for all arguments: May, On, Count and Most. -/
namespace Go.Proofs.Yteklcolphbcjlaa
open Go.RowKit

def mayB (m k : Int) : Bool := decide (1 ≤ m ∧ m ≤ k ∧ k ≤ 6)
def jobB (j : Int) : Bool := decide (0 ≤ j ∧ j ≤ 1099511627776)
/-- How many of the first n jobs are mandatory. -/
def du (m k n : Int) : Int := cl (n * m) k
def adB (m k j : Int) : Bool := decide (du m k j < du m k (j + 1))
def onB (m k j : Int) : Bool := mayB m k && jobB j && adB m k j
end Go.Proofs.Yteklcolphbcjlaa
/- What pat's numbers are to one another: plain arithmetic. -/
namespace Go.Proofs.Yteklcolphbcjlaa
open Go.RowKit

theorem six {k : Int} (h : 1 ≤ k) (h' : k ≤ 6) : k = 1 ∨ k = 2 ∨ k = 3 ∨ k = 4 ∨ k = 5 ∨ k = 6 := by omega
end Go.Proofs.Yteklcolphbcjlaa
/- Walks of package spec: the numbers of a description, and what each must be. -/
namespace Go.Proofs.Yteklcolphbcjlaa
open Go.RowKit

/-- A description. -/
structure Sp where
  c : Int
  t : Int
  x : Int
  m : Int
  k : Int
  e : Int
def wiB (n a b : Int) : Bool := decide (a ≤ n ∧ n ≤ b)
def leT (s : Sp) : Int := if s.e = 0 then s.x else s.c
def fitC (s : Sp) : Bool := wiB s.c 1 6
def fitT (s : Sp) : Bool := wiB s.t (leT s) s.x
def fitX (s : Sp) : Bool := wiB s.x s.c 48
def fitW (s : Sp) : Bool := mayB s.m s.k
def fitE (s : Sp) : Bool := wiB s.e 0 8
end Go.Proofs.Yteklcolphbcjlaa
/- What is asked, and answered, as bytes: plain. -/
namespace Go.Proofs.Yteklcolphbcjlaa

/-- What is asked: its kind, an ID, a description, periods, how long it waits, how long it would run, its worth, and numbers. -/
structure Ow where
  k : Int
  id : Int
  s : Sp
  t : Int
  m : Int
  w : Int
  c : Int
  v : Int
  d : List Int
def owZ : Ow := ⟨0, 0, ⟨0, 0, 0, 0, 0, 0⟩, 0, 0, 0, 0, 0, []⟩
def sz16 (s : Sp) : Bool := decide (s.c = 0 ∧ s.t = 0 ∧ s.x = 0 ∧ s.m = 0 ∧ s.k = 0 ∧ s.e = 0)
def sy16 (s : Sp) : Bool := decide ((0 ≤ s.c ∧ s.c ≤ 255) ∧ (0 ≤ s.t ∧ s.t ≤ 255) ∧ (0 ≤ s.x ∧ s.x ≤ 255) ∧ (0 ≤ s.m ∧ s.m ≤ 255) ∧ (0 ≤ s.k ∧ s.k ≤ 255) ∧ (0 ≤ s.e ∧ s.e ≤ 255))
def inD : List Int → Bool
  | [] => true
  | x :: l => decide (1 ≤ x ∧ x ≤ 20) && inD l
/-- May it be? -/
def omB (o : Ow) : Bool :=
  if o.k = 0 then sy16 o.s && (decide (o.id = 0 ∧ o.t = 0 ∧ o.m = 0 ∧ o.w = 0 ∧ o.c = 0 ∧ o.v = 0) && o.d.isEmpty)
  else if o.k = 1 then decide ((0 ≤ o.id ∧ o.id ≤ 65535) ∧ (0 ≤ o.t ∧ o.t ≤ 255) ∧ (0 ≤ o.m ∧ o.m ≤ 255)) && (sz16 o.s && (decide (o.w = 0 ∧ o.c = 0 ∧ o.v = 0) && o.d.isEmpty))
  else if o.k = 2 then decide (0 ≤ o.id ∧ o.id ≤ 65535) && (sz16 o.s && (decide (o.t = 0 ∧ o.m = 0 ∧ o.w = 0 ∧ o.c = 0 ∧ o.v = 0) && o.d.isEmpty))
  else if o.k = 3 then decide ((0 ≤ o.w ∧ o.w ≤ 255) ∧ (0 ≤ o.c ∧ o.c ≤ 255) ∧ (0 ≤ o.v ∧ o.v ≤ 65535)) && (sz16 o.s && (decide (o.id = 0 ∧ o.t = 0 ∧ o.m = 0) && o.d.isEmpty))
  else if o.k = 4 then decide (o.d.length ≤ 4) && (inD o.d && (sz16 o.s && decide (o.id = 0 ∧ o.t = 0 ∧ o.m = 0 ∧ o.w = 0 ∧ o.c = 0 ∧ o.v = 0)))
  else false
/-- Its bytes. -/
def obL (o : Ow) : List Int :=
  if o.k = 0 then [0, o.s.c, o.s.t, o.s.x, o.s.m, o.s.k, o.s.e]
  else if o.k = 1 then [1, o.id / 256, o.id % 256, o.t, o.m]
  else if o.k = 2 then [2, o.id / 256, o.id % 256]
  else if o.k = 3 then [3, o.w, o.c, o.v / 256, o.v % 256]
  else 4 :: (o.d.length : Int) :: o.d
/-- What bytes would ask, if any. -/
def odR (b : List Int) : Ow :=
  let g := fun i => b.getD i 0
  if g 0 = 0 then ⟨0, 0, ⟨g 1, g 2, g 3, g 4, g 5, g 6⟩, 0, 0, 0, 0, 0, []⟩
  else if g 0 = 1 then ⟨1, g 1 * 256 + g 2, ⟨0, 0, 0, 0, 0, 0⟩, g 3, g 4, 0, 0, 0, []⟩
  else if g 0 = 2 then ⟨2, g 1 * 256 + g 2, ⟨0, 0, 0, 0, 0, 0⟩, 0, 0, 0, 0, 0, []⟩
  else if g 0 = 3 then ⟨3, 0, ⟨0, 0, 0, 0, 0, 0⟩, 0, 0, g 1, g 2, g 3 * 256 + g 4, []⟩
  else ⟨4, 0, ⟨0, 0, 0, 0, 0, 0⟩, 0, 0, 0, 0, 0, b.drop 2⟩

theorem sz16_iff {s : Sp} (h : sz16 s = true) : s = ⟨0, 0, 0, 0, 0, 0⟩ := by
  obtain ⟨c, t, x, m, k, e⟩ := s
  have := of_decide_eq_true h
  simp only at this
  obtain ⟨rfl, rfl, rfl, rfl, rfl, rfl⟩ := this
  rfl
theorem isEmpty_nil {d : List Int} (h : d.isEmpty = true) : d = [] := List.isEmpty_iff.1 h
theorem inD_iff {l : List Int} : inD l = true ↔ ∀ x ∈ l, 1 ≤ x ∧ x ≤ 20 := by
  induction l with
  | nil => simp [inD]
  | cons a l ih => simp [inD, ih]
/-- The five ways of what may be. -/
theorem om_cases {o : Ow} (h : omB o = true) :
    (∃ s, o = ⟨0, 0, s, 0, 0, 0, 0, 0, []⟩ ∧ sy16 s = true) ∨
    (∃ id t m, o = ⟨1, id, ⟨0, 0, 0, 0, 0, 0⟩, t, m, 0, 0, 0, []⟩ ∧ (0 ≤ id ∧ id ≤ 65535) ∧ (0 ≤ t ∧ t ≤ 255) ∧ (0 ≤ m ∧ m ≤ 255)) ∨
    (∃ id, o = ⟨2, id, ⟨0, 0, 0, 0, 0, 0⟩, 0, 0, 0, 0, 0, []⟩ ∧ (0 ≤ id ∧ id ≤ 65535)) ∨
    (∃ w c v, o = ⟨3, 0, ⟨0, 0, 0, 0, 0, 0⟩, 0, 0, w, c, v, []⟩ ∧ (0 ≤ w ∧ w ≤ 255) ∧ (0 ≤ c ∧ c ≤ 255) ∧ (0 ≤ v ∧ v ≤ 65535)) ∨
    (∃ d, o = ⟨4, 0, ⟨0, 0, 0, 0, 0, 0⟩, 0, 0, 0, 0, 0, d⟩ ∧ d.length ≤ 4 ∧ ∀ x ∈ d, 1 ≤ x ∧ x ≤ 20) := by
  obtain ⟨k, id, s, t, m, w, c, v, d⟩ := o
  unfold omB at h
  simp only at h
  by_cases k0 : k = 0
  · rw [if_pos k0] at h
    simp only [Bool.and_eq_true, decide_eq_true_eq] at h
    obtain ⟨h1, ⟨rfl, rfl, rfl, rfl, rfl, rfl⟩, h3⟩ := h
    obtain rfl := isEmpty_nil h3
    subst k0
    exact .inl ⟨s, rfl, h1⟩
  rw [if_neg k0] at h
  by_cases k1 : k = 1
  · rw [if_pos k1] at h
    simp only [Bool.and_eq_true, decide_eq_true_eq] at h
    obtain ⟨h1, h2, ⟨rfl, rfl, rfl⟩, h3⟩ := h
    obtain rfl := isEmpty_nil h3
    obtain rfl := sz16_iff h2
    subst k1
    exact .inr (.inl ⟨id, t, m, rfl, h1⟩)
  rw [if_neg k1] at h
  by_cases k2 : k = 2
  · rw [if_pos k2] at h
    simp only [Bool.and_eq_true, decide_eq_true_eq] at h
    obtain ⟨h1, h2, ⟨rfl, rfl, rfl, rfl, rfl⟩, h3⟩ := h
    obtain rfl := isEmpty_nil h3
    obtain rfl := sz16_iff h2
    subst k2
    exact .inr (.inr (.inl ⟨id, rfl, h1⟩))
  rw [if_neg k2] at h
  by_cases k3 : k = 3
  · rw [if_pos k3] at h
    simp only [Bool.and_eq_true, decide_eq_true_eq] at h
    obtain ⟨h1, h2, ⟨rfl, rfl, rfl⟩, h3⟩ := h
    obtain rfl := isEmpty_nil h3
    obtain rfl := sz16_iff h2
    subst k3
    exact .inr (.inr (.inr (.inl ⟨w, c, v, rfl, h1⟩)))
  rw [if_neg k3] at h
  by_cases k4 : k = 4
  · rw [if_pos k4] at h
    simp only [Bool.and_eq_true, decide_eq_true_eq] at h
    obtain ⟨h1, h2, h3, rfl, rfl, rfl, rfl, rfl, rfl⟩ := h
    obtain rfl := sz16_iff h3
    subst k4
    exact .inr (.inr (.inr (.inr ⟨d, rfl, h1, inD_iff.1 h2⟩)))
  · rw [if_neg k4] at h; cases h
/-- What is put is got. -/
theorem od_ob {o : Ow} (h : omB o = true) : odR (obL o) = o := by
  rcases om_cases h with ⟨s, rfl, _⟩ | ⟨id, t, m, rfl, h1, _⟩ | ⟨id, rfl, h1⟩ | ⟨w, c, v, rfl, _, _, h1⟩ | ⟨d, rfl, _⟩
  · rfl
  · simp only [obL, odR]
    have e : id / 256 * 256 + id % 256 = id := by omega
    simp [e]
  · simp only [obL, odR]
    have e : id / 256 * 256 + id % 256 = id := by omega
    simp [e]
  · simp only [obL, odR]
    have e : v / 256 * 256 + v % 256 = v := by omega
    simp [e]
  · simp only [obL, odR]
    simp
/-- Other bytes are none's. -/
theorem ob_inj {o p : Ow} (h : omB o = true) (h' : omB p = true) (e : obL o = obL p) : o = p := by
  rw [← od_ob h, ← od_ob h', e]
/-- Its first byte is its kind. -/
theorem ob_head {o : Ow} (h : omB o = true) : (obL o).getD 0 0 = o.k ∧ 0 < (obL o).length := by
  rcases om_cases h with ⟨s, rfl, _⟩ | ⟨id, t, m, rfl, h1, _⟩ | ⟨id, rfl, h1⟩ | ⟨w, c, v, rfl, _, _, h1⟩ | ⟨d, rfl, _⟩ <;> simp [obL]
/-- How many bytes it needs. -/
def olN (o : Ow) : Nat := if o.k = 0 then 7 else if o.k = 2 then 3 else if o.k = 4 then 2 + o.d.length else 5
theorem ob_len {o : Ow} (h : omB o = true) : (obL o).length = olN o := by
  rcases om_cases h with ⟨s, rfl, _⟩ | ⟨id, t, m, rfl, h1, _⟩ | ⟨id, rfl, h1⟩ | ⟨w, c, v, rfl, _, _, h1⟩ | ⟨d, rfl, _⟩ <;> simp [obL, olN]
  omega
theorem ob_bytes {o : Ow} (h : omB o = true) : ∀ x ∈ obL o, 0 ≤ x ∧ x ≤ 255 := by
  rcases om_cases h with ⟨s, rfl, h1⟩ | ⟨id, t, m, rfl, h1, h2, h3⟩ | ⟨id, rfl, h1⟩ | ⟨w, c, v, rfl, h1, h2, h3⟩ | ⟨d, rfl, h1, h2⟩
  · have := of_decide_eq_true h1
    intro x hx
    simp [obL] at hx
    rcases hx with rfl | rfl | rfl | rfl | rfl | rfl | rfl <;> omega
  · intro x hx
    simp [obL] at hx
    rcases hx with rfl | rfl | rfl | rfl | rfl <;> omega
  · intro x hx
    simp [obL] at hx
    rcases hx with rfl | rfl | rfl <;> omega
  · intro x hx
    simp [obL] at hx
    rcases hx with rfl | rfl | rfl | rfl | rfl <;> omega
  · intro x hx
    simp [obL] at hx
    rcases hx with rfl | rfl | hx
    · omega
    · omega
    · have := h2 x hx; omega
/-- No beginning of them asks anything. -/
theorem ob_short {o p : Ow} (h : omB o = true) (h' : omB p = true) {n : Nat} (hn : n < (obL o).length) : obL p ≠ (obL o).take n := by
  intro e
  have hk := ob_head h
  have hk' := ob_head h'
  have hl : (obL p).length = n := by rw [e, List.length_take]; omega
  have hn0 : 0 < n := by omega
  have ek : p.k = o.k := by
    rw [← hk.1, ← hk'.1, e, List.getD_eq_getElem?_getD, List.getD_eq_getElem?_getD, List.getElem?_take, if_pos hn0]
  rw [ob_len h'] at hl
  rw [ob_len h] at hn
  rcases om_cases h' with ⟨s, rfl, _⟩ | ⟨id, t, m, rfl, _⟩ | ⟨id, rfl, _⟩ | ⟨w, c, v, rfl, _⟩ | ⟨d, rfl, h1, _⟩
  · simp only at ek; unfold olN at hl hn; rw [← ek] at hn; simp at hl hn; omega
  · simp only at ek; unfold olN at hl hn; rw [← ek] at hn; simp at hl hn; omega
  · simp only at ek; unfold olN at hl hn; rw [← ek] at hn; simp at hl hn; omega
  · simp only at ek; unfold olN at hl hn; rw [← ek] at hn; simp at hl hn; omega
  · simp only at ek
    rcases om_cases h with ⟨s, rfl, _⟩ | ⟨id, t, m, rfl, _⟩ | ⟨id, rfl, _⟩ | ⟨w, c, v, rfl, _⟩ | ⟨d', rfl, h1', _⟩
    · simp at ek
    · simp at ek
    · simp at ek
    · simp at ek
    · have e1 : (obL ⟨4, 0, ⟨0, 0, 0, 0, 0, 0⟩, 0, 0, 0, 0, 0, d⟩).getD 1 0 = (d.length : Int) := by simp [obL]
      have e2 : (obL ⟨4, 0, ⟨0, 0, 0, 0, 0, 0⟩, 0, 0, 0, 0, 0, d'⟩).getD 1 0 = (d'.length : Int) := by simp [obL]
      simp [olN] at hl hn
      rw [e, List.getD_eq_getElem?_getD, List.getElem?_take, if_pos (by omega), ← List.getD_eq_getElem?_getD, e2] at e1
      omega
/-- What is got, and whether anything is. -/
def IsGet (b : List Int) (o : Ow) (y : Bool) : Prop := (y = true ∧ omB o = true ∧ obL o = b) ∨ (y = false ∧ o = owZ ∧ ∀ p, omB p = true → obL p ≠ b)
theorem IsGet.unique {b : List Int} {o p : Ow} {y z : Bool} (h : IsGet b o y) (h' : IsGet b p z) : o = p ∧ y = z := by
  rcases h with ⟨rfl, h1, h2⟩ | ⟨rfl, h1, h2⟩ <;> rcases h' with ⟨rfl, h3, h4⟩ | ⟨rfl, h3, h4⟩
  · exact ⟨ob_inj h1 h3 (h2.trans h4.symm), rfl⟩
  · exact absurd h2 (h4 o h1)
  · exact absurd h4 (h2 p h3)
  · exact ⟨h1.trans h3.symm, rfl⟩
theorem isGet_put {o : Ow} (h : omB o = true) : IsGet (obL o) o true := .inl ⟨rfl, h, rfl⟩
/-- Got by putting what is read again. -/
theorem isGet_read (b : List Int) : IsGet b (if omB (odR b) = true ∧ obL (odR b) = b then odR b else owZ) (decide (omB (odR b) = true ∧ obL (odR b) = b)) := by
  by_cases h : omB (odR b) = true ∧ obL (odR b) = b
  · rw [if_pos h]; exact .inl ⟨decide_eq_true h, h.1, h.2⟩
  · rw [if_neg h]
    refine .inr ⟨decide_eq_false h, rfl, fun p hp e => h ?_⟩
    have : odR b = p := by rw [← e, od_ob hp]
    rw [this]
    exact ⟨hp, e⟩

/-- What is answered: may it be, its bytes, and back. -/
def anB (e n : Int) : Bool := decide ((0 ≤ e ∧ e ≤ 8) ∧ 0 ≤ n ∧ n ≤ 1099511627776)
def anL (e n : Int) : List Int := [e, n / 1099511627776 % 256, n / 4294967296 % 256, n / 16777216 % 256, n / 65536 % 256, n / 256 % 256, n % 256]
def adN (b : List Int) : Int := ((((b.getD 1 0 * 256 + b.getD 2 0) * 256 + b.getD 3 0) * 256 + b.getD 4 0) * 256 + b.getD 5 0) * 256 + b.getD 6 0
theorem ad_an {e n : Int} (h : anB e n = true) : adN (anL e n) = n ∧ (anL e n).getD 0 0 = e := by
  have := of_decide_eq_true h
  refine ⟨?_, rfl⟩
  show ((((n / 1099511627776 % 256 * 256 + n / 4294967296 % 256) * 256 + n / 16777216 % 256) * 256 + n / 65536 % 256) * 256 + n / 256 % 256) * 256 + n % 256 = n
  omega
theorem an_inj {e n e' n' : Int} (h : anB e n = true) (h' : anB e' n' = true) (q : anL e n = anL e' n') : e = e' ∧ n = n' := by
  have h1 := ad_an h
  have h2 := ad_an h'
  exact ⟨by rw [← h1.2, ← h2.2, q], by rw [← h1.1, ← h2.1, q]⟩
theorem an_bytes {e n : Int} (h : anB e n = true) : ∀ x ∈ anL e n, 0 ≤ x ∧ x ≤ 255 := by
  have := of_decide_eq_true h
  intro x hx
  simp [anL] at hx
  rcases hx with rfl | rfl | rfl | rfl | rfl | rfl | rfl <;> omega
/-- Seven bytes are those of what they answer, if it may be. -/
theorem an_read {b : List Int} (hl : b.length = 7) (hb : ∀ x ∈ b, 0 ≤ x ∧ x ≤ 255) : anL (b.getD 0 0) (adN b) = b := by
  match b, hl with
  | [x0, x1, x2, x3, x4, x5, x6], _ =>
    have g0 := hb x0 (by simp)
    have g1 := hb x1 (by simp)
    have g2 := hb x2 (by simp)
    have g3 := hb x3 (by simp)
    have g4 := hb x4 (by simp)
    have g5 := hb x5 (by simp)
    have g6 := hb x6 (by simp)
    have e : adN [x0, x1, x2, x3, x4, x5, x6] = ((((x1 * 256 + x2) * 256 + x3) * 256 + x4) * 256 + x5) * 256 + x6 := rfl
    rw [e]
    show [x0, _, _, _, _, _, _] = _
    congr 1
    have e1 : (((((x1 * 256 + x2) * 256 + x3) * 256 + x4) * 256 + x5) * 256 + x6) / 1099511627776 % 256 = x1 := by omega
    have e2 : (((((x1 * 256 + x2) * 256 + x3) * 256 + x4) * 256 + x5) * 256 + x6) / 4294967296 % 256 = x2 := by omega
    have e3 : (((((x1 * 256 + x2) * 256 + x3) * 256 + x4) * 256 + x5) * 256 + x6) / 16777216 % 256 = x3 := by omega
    have e4 : (((((x1 * 256 + x2) * 256 + x3) * 256 + x4) * 256 + x5) * 256 + x6) / 65536 % 256 = x4 := by omega
    have e5 : (((((x1 * 256 + x2) * 256 + x3) * 256 + x4) * 256 + x5) * 256 + x6) / 256 % 256 = x5 := by omega
    have e6 : (((((x1 * 256 + x2) * 256 + x3) * 256 + x4) * 256 + x5) * 256 + x6) % 256 = x6 := by omega
    rw [e1, e2, e3, e4, e5, e6]
def IsAns (b : List Int) (e n : Int) (y : Bool) : Prop := (y = true ∧ anB e n = true ∧ anL e n = b) ∨ (y = false ∧ (e = 0 ∧ n = 0) ∧ ∀ e' n', anB e' n' = true → anL e' n' ≠ b)
theorem IsAns.unique {b : List Int} {e n e' n' : Int} {y z : Bool} (h : IsAns b e n y) (h' : IsAns b e' n' z) : (e = e' ∧ n = n') ∧ y = z := by
  rcases h with ⟨rfl, h1, h2⟩ | ⟨rfl, h1, h2⟩ <;> rcases h' with ⟨rfl, h3, h4⟩ | ⟨rfl, h3, h4⟩
  · exact ⟨an_inj h1 h3 (h2.trans h4.symm), rfl⟩
  · exact absurd h2 (h4 e n h1)
  · exact absurd h4 (h2 e' n' h3)
  · exact ⟨⟨h1.1.trans h3.1.symm, h1.2.trans h3.2.symm⟩, rfl⟩
theorem isAns_read {b : List Int} (hl : b.length = 7) (hb : ∀ x ∈ b, 0 ≤ x ∧ x ≤ 255) : IsAns b (if anB (b.getD 0 0) (adN b) = true then b.getD 0 0 else 0) (if anB (b.getD 0 0) (adN b) = true then adN b else 0) (anB (b.getD 0 0) (adN b)) := by
  by_cases h : anB (b.getD 0 0) (adN b) = true
  · rw [if_pos h, if_pos h]; exact .inl ⟨h, h, an_read hl hb⟩
  · rw [if_neg h, if_neg h]
    refine .inr ⟨by simpa using h, ⟨rfl, rfl⟩, fun e' n' hp q => h ?_⟩
    obtain ⟨h1, h2⟩ := ad_an hp
    rw [← q, h1, h2]
    exact hp
theorem isAns_long {b : List Int} (hl : b.length ≠ 7) : IsAns b 0 0 false := .inr ⟨rfl, ⟨rfl, rfl⟩, fun _ _ _ q => hl (by rw [← q]; rfl)⟩
end Go.Proofs.Yteklcolphbcjlaa
/- Lists of items: who is ahead, what is ordered, and what a heap is. -/
namespace Go.Proofs.Yteklcolphbcjlaa
open Go.RowKit
/-- The k-th item. -/
def atI (xs : List (Int × Int)) (k : Nat) : Int × Int := xs.getD k (0, 0)
end Go.Proofs.Yteklcolphbcjlaa
/- Items as they lie; walks of the methods that a heap has. -/
namespace Go.Proofs.Yteklcolphbcjlaa
open Go.RowKit

theorem cell_later {w w' : World} {p : Addr} {v : Value} (hb : Below w.heap.size w w') (hc : w.cell? p = some v) : w'.cell? p = some v :=
  (hb.cell (World.block_lt_of_cell? _ _ hc)).trans hc

/-- A list of items that is read. -/
def Its (w : World) (v : Value) (xs : List (Int × Int)) : Prop :=
  ∃ a cap, v = .slice a xs.length cap ∧ xs.length ≤ cap ∧ cap ≤ maxLen ∧ (a = none → cap = 0) ∧ (xs ≠ [] → ∃ b o, a = some ⟨b, o, none⟩ ∧ ∀ i, i < xs.length → w.cell? ⟨b, o + i * 2, none⟩ = some (.int .i64 (atI xs i).1) ∧ w.cell? ⟨b, o + i * 2 + 1, none⟩ = some (.int .i64 (atI xs i).2))
theorem Its.later {w w' : World} {v : Value} {xs : List (Int × Int)} (h : Its w v xs) (hb : Below w.heap.size w w') : Its w' v xs := by
  obtain ⟨a, cap, rfl, h1, h2, h0, h3⟩ := h
  refine ⟨a, cap, rfl, h1, h2, h0, fun hx => ?_⟩
  obtain ⟨b, o, rfl, h4⟩ := h3 hx
  exact ⟨b, o, rfl, fun i hi => ⟨cell_later hb (h4 i hi).1, cell_later hb (h4 i hi).2⟩⟩

/-- Items, as cells. -/
def flat (xs : List (Int × Int)) : List Value := xs.flatMap fun x => [.int .i64 x.1, .int .i64 x.2]
theorem flat_len (xs : List (Int × Int)) : (flat xs).length = xs.length * 2 := by
  induction xs with
  | nil => rfl
  | cons x xs ih => simp [flat] at ih ⊢; omega
theorem flat_cons (x : Int × Int) (xs : List (Int × Int)) : flat (x :: xs) = .int .i64 x.1 :: .int .i64 x.2 :: flat xs := by simp [flat]
theorem flat_at (xs : List (Int × Int)) : ∀ i, i < xs.length → (flat xs)[i * 2]? = some (.int .i64 (atI xs i).1) ∧ (flat xs)[i * 2 + 1]? = some (.int .i64 (atI xs i).2) := by
  induction xs with
  | nil => intro i h; simp at h
  | cons x xs ih =>
    intro i h
    rw [flat_cons]
    cases i with
    | zero => simp [atI]
    | succ i =>
      have := ih i (by simpa using h)
      rw [show (i + 1) * 2 = i * 2 + 1 + 1 by omega]
      simpa [atI, List.getD] using this
theorem flat_of {xs : List (Int × Int)} {j : Nat} {u : Value} (h : (flat xs)[j]? = some u) : j / 2 < xs.length ∧ u = .int .i64 (if j % 2 = 0 then (atI xs (j / 2)).1 else (atI xs (j / 2)).2) := by
  have hl : j < (flat xs).length := (List.getElem?_eq_some_iff.1 h).1
  rw [flat_len] at hl
  have hj : j / 2 < xs.length := by omega
  refine ⟨hj, ?_⟩
  obtain ⟨h0, h1⟩ := flat_at xs (j / 2) hj
  split
  · next e => rw [show j / 2 * 2 = j by omega, h] at h0; exact Option.some.inj h0
  · next e => rw [show j / 2 * 2 + 1 = j by omega, h] at h1; exact Option.some.inj h1
end Go.Proofs.Yteklcolphbcjlaa
/- What a ring is: a list of outcomes, the last one first; and what is counted of it. Plain arithmetic. -/
namespace Go.Proofs.Yteklcolphbcjlaa
open Go.RowKit
/-- May a ring be? -/
def mayR (N B : Int) : Bool := decide (0 ≤ N ∧ N ≤ 60 ∧ B / 2 ^ N.toNat = 0)
end Go.Proofs.Yteklcolphbcjlaa
/- Lists of outcomes as they are read; walks of Of and of Bools. -/
namespace Go.Proofs.Yteklcolphbcjlaa
open Go.RowKit
/-- Two cells that may be written. -/
def Two (w : World) (b : Nat) (u v : Value) : Prop := w.cell? ⟨b, 0, none⟩ = some u ∧ w.cell? ⟨b, 1, none⟩ = some v ∧ w.frozen? ⟨b, 0, none⟩ = false ∧ w.frozen? ⟨b, 1, none⟩ = false
theorem Two.later {w w' : World} {b : Nat} {u v : Value} (h : Two w b u v) (hb : Below w.heap.size w w') : Two w' b u v := by
  obtain ⟨h0, h1, h2, h3⟩ := h
  have hl := World.block_lt_of_cell? _ _ h0
  exact ⟨cell_later hb h0, cell_later hb h1, (hb.frozen (p := ⟨b, 0, none⟩) hl).trans h2, (hb.frozen (p := ⟨b, 1, none⟩) hl).trans h3⟩
theorem Two.put {w : World} {b : Nat} {u v : Value} (h : Two w b u v) (u' v' : Value) : Two ((w.setCell ⟨b, 0, none⟩ u').setCell ⟨b, 1, none⟩ v') b u' v' := by
  obtain ⟨h0, h1, h2, h3⟩ := h
  refine ⟨?_, ?_, by simpa using h2, by simpa using h3⟩
  · rw [World.cell?_setCell_other _ _ _ _ (by simp)]; exact World.cell?_setCell_same _ _ _ h0
  · exact World.cell?_setCell_same (u := v) _ _ _ (by rw [World.cell?_setCell_other _ _ _ _ (by simp)]; exact h1)
theorem Two.other {w : World} {b c i : Nat} {u v : Value} (h : Two w b u v) (hc : c ≠ b) (x : Value) : Two (w.setCell ⟨c, i, none⟩ x) b u v := by
  obtain ⟨h0, h1, h2, h3⟩ := h
  exact ⟨by rw [World.cell?_setCell_other _ _ _ _ (fun h => hc (congrArg Addr.block h))]; exact h0, by rw [World.cell?_setCell_other _ _ _ _ (fun h => hc (congrArg Addr.block h))]; exact h1, by simpa using h2, by simpa using h3⟩
end Go.Proofs.Yteklcolphbcjlaa
/- What the arguments of a statement are, as the walks are told of them: items. -/
namespace Go.Proofs.Yteklcolphbcjlaa
open Go.ChangeShapes Go.WideShapes Go.RowKit Go.Deep Go.Joins
/-- A list of integers that is read. -/
def Nums (w : World) (v : Value) (ks : List Int) : Prop :=
  ∃ a cap, v = .slice a ks.length cap ∧ ks.length ≤ cap ∧ cap ≤ maxLen ∧ (ks ≠ [] → ∃ b o, a = some ⟨b, o, none⟩ ∧ ∀ i, i < ks.length → w.cell? ⟨b, o + i, none⟩ = some (.int .i64 (ks.getD i 0)))
end Go.Proofs.Yteklcolphbcjlaa
/- Lists of integers that are read, the table of limits, and walks of Sum and Fits of package units, and of the document's own. -/
namespace Go.Proofs.Yteklcolphbcjlaa
open Go.RowKit

theorem Nums.later {w w' : World} {v : Value} {xs : List Int} (h : Nums w v xs) (hb : Below w.heap.size w w') : Nums w' v xs := by
  obtain ⟨a, cap, rfl, h1, h2, h3⟩ := h
  refine ⟨a, cap, rfl, h1, h2, fun hx => ?_⟩
  obtain ⟨b, o, rfl, h4⟩ := h3 hx
  exact ⟨b, o, rfl, fun i hi => cell_later hb (h4 i hi)⟩
end Go.Proofs.Yteklcolphbcjlaa
/- Walks of package spec: May. -/
namespace Go.Proofs.Yteklcolphbcjlaa
open Go.RowKit

/-- Does the number at a place fit? -/
def fitB (s : Sp) (j : Nat) : Bool := match j with
  | 0 => fitC s
  | 1 => fitT s
  | 2 => fitX s
  | 3 => fitW s
  | 4 => fitW s
  | _ => fitE s
/-- Do the first ones fit? -/
def fitN (s : Sp) : Nat → Bool
  | 0 => true
  | j + 1 => fitN s j && fitB s j
def maySp (s : Sp) : Bool := fitN s 6
end Go.Proofs.Yteklcolphbcjlaa
/- A description's cells; walks of package spec: known, Stretch. -/
namespace Go.Proofs.Yteklcolphbcjlaa
open Go.RowKit
def spZ : Sp := ⟨0, 0, 0, 0, 0, 0⟩
theorem maySp_eq (s : Sp) : maySp s = decide (1 ≤ s.c ∧ s.c ≤ 6 ∧ s.c ≤ s.t ∧ s.t ≤ s.x ∧ s.x ≤ 48 ∧ (1 ≤ s.m ∧ s.m ≤ s.k ∧ s.k ≤ 6) ∧ 0 ≤ s.e ∧ s.e ≤ 8 ∧ (s.e ≠ 0 ∨ s.t = s.x)) := by
  have e : maySp s = (((((fitC s && fitT s) && fitX s) && fitW s) && fitW s) && fitE s) := by
    show ((((((true && fitC s) && fitT s) && fitX s) && fitW s) && fitW s) && fitE s) = _
    rw [Bool.true_and]
  rw [e]
  unfold fitC fitT fitX fitW fitE wiB leT mayB
  rw [Bool.eq_iff_iff]
  simp only [Bool.and_eq_true, decide_eq_true_eq]
  by_cases h : s.e = 0
  · simp only [h, if_true]; omega
  · simp only [h, if_false]; omega
end Go.Proofs.Yteklcolphbcjlaa
/- Bytes; walks of package spec: what reads a description's numbers. -/
namespace Go.Proofs.Yteklcolphbcjlaa
open Go.RowKit

/-- Bytes that are read. -/
def Bys (w : World) (v : Value) (ks : List Int) : Prop :=
  ∃ a cap, v = .slice a ks.length cap ∧ ks.length ≤ cap ∧ cap ≤ maxLen ∧ (a = none → cap = 0) ∧ (∀ i, i < ks.length → 0 ≤ ks.getD i 0 ∧ ks.getD i 0 ≤ 255) ∧ (ks ≠ [] → ∃ b o, a = some ⟨b, o, none⟩ ∧ ∀ i, i < ks.length → w.cell? ⟨b, o + i, none⟩ = some (.int .u8 (ks.getD i 0)))
theorem Bys.later {w w' : World} {v : Value} {ks : List Int} (h : Bys w v ks) (hb : Below w.heap.size w w') : Bys w' v ks := by
  obtain ⟨a, cap, rfl, h1, h2, h3, h4, h5⟩ := h
  refine ⟨a, cap, rfl, h1, h2, h3, h4, fun hx => ?_⟩
  obtain ⟨b, o, rfl, h6⟩ := h5 hx
  exact ⟨b, o, rfl, fun i hi => cell_later hb (h6 i hi)⟩
theorem Bys.none (w : World) : Bys w (.slice none 0 0) [] := ⟨Option.none, 0, rfl, by simp, by simp, fun _ => rfl, fun i hi => by simp at hi, fun h => absurd rfl h⟩
def lst (s : Sp) : List Int := [s.c, s.t, s.x, s.m, s.k, s.e]
end Go.Proofs.Yteklcolphbcjlaa
/- Walks of package spec: Put. -/
namespace Go.Proofs.Yteklcolphbcjlaa
open Go.RowKit
theorem Try.infoU8 : (Try.prog.info? 5).map (fun i => (i.zero, i.size, i.bytes)) = some (some (.int .u8 0), 1, 1) := by kernel_rfl
end Go.Proofs.Yteklcolphbcjlaa
/- Walks of the document's own answers of chapter 5: are two lists of bytes the same? -/
namespace Go.Proofs.Yteklcolphbcjlaa
open Go.RowKit

/-- Bytes are the same. -/
def sameB (xs ys : List Int) : Bool := decide (xs = ys)
theorem same_take {xs ys : List Int} {j : Nat} (hj : j < xs.length) (hj' : j < ys.length) (h : xs.take j = ys.take j) (e : xs.getD j 0 = ys.getD j 0) : xs.take (j + 1) = ys.take (j + 1) := by
  rw [List.take_add_one, List.take_add_one, h]
  simp only [List.getD, List.getElem?_eq_getElem hj, List.getElem?_eq_getElem hj', Option.getD_some] at e
  rw [List.getElem?_eq_getElem hj, List.getElem?_eq_getElem hj', e]
theorem getD_eq {xs ys : List Int} (h : xs = ys) (j : Nat) : xs.getD j 0 = ys.getD j 0 := by rw [h]

set_option maxHeartbeats 1000000 in
set_option maxRecDepth 100000 in
theorem bytes_any (xs ys : List Int) (u v : Value) (w : World) (h : Bys w u xs) (h' : Bys w v ys) (hx : xs.length ≤ 1000) :
    Calls Try.prog 17 #[u, v] w fun r w' => r = .returned (.bool (sameB xs ys)) ∧ Below w.heap.size w w' := by
  obtain ⟨a, cap, rfl, h1, h2, h3, h4, h5⟩ := id h
  obtain ⟨a', cap', rfl, h1', h2', h3', h4', h5'⟩ := id h'
  have HB : Hid (Bys w (.slice a xs.length cap) xs ∧ Bys w (.slice a' ys.length cap') ys) := ⟨h, h'⟩
  clear h h' h3 h3' h4 h4'
  by_cases hl : xs.length = ys.length
  · have HL : Hid (xs.length = ys.length) := hl
    have hl1 : ((xs.length : Int) == ys.length) = true := beq_iff_eq.2 (by omega)
    have hl2 : xs.length ≤ ys.length := by omega
    have hl3 : ys.length ≤ xs.length := by omega
    clear hl
    go_enter Try.func17, Try.ntmps17
    go_wp2_with fail
    go_loopw [5] (fun i wr => ∃ (j : Nat), j ≤ xs.length ∧ i = .int .i64 j ∧ Below w.heap.size w wr ∧ Hid (xs.take j = ys.take j)) (fun i _ => ((xs.length : Int) - intOf i).toNat)
    case atStart => exact ⟨0, by omega, rfl, Below.refl _ _, rfl⟩
    case round =>
      obtain ⟨j, hj, rfl, hbw, HT⟩ := hrel
      by_cases hlt : (j : Int) < xs.length
      · obtain ⟨b, o, rfl, h6⟩ := h5 (by intro e; rw [e, List.length_nil] at hlt; omega)
        obtain ⟨b', o', rfl, h6'⟩ := h5' (by intro e; rw [e, List.length_nil] at hl2; omega)
        have hc1 := cell_later hbw (h6 j (by omega))
        have hc2 := cell_later hbw (h6' j (by omega))
        clear h5 h5' h6 h6'
        by_cases he : xs.getD j 0 = ys.getD j 0
        · have HS : Hid (xs.take (j + 1) = ys.take (j + 1)) := same_take (by omega) (by omega) HT.out he
          rw [← he] at hc2
          clear he
          generalize xs.getD j 0 = q at *
          go_wp2_with fail
          go_region
          all_goals
            go_wp2_with fail
            go_roundw
            case rel => exact ⟨j + 1, by omega, by go_num, hbw.drew, HS⟩
            case measure => simp [intOf]; omega
        · have HS : Hid (sameB xs ys = false) := decide_eq_false fun e => he (getD_eq e j)
          have he' : (xs.getD j 0 == ys.getD j 0) = false := by simpa using he
          clear he
          generalize xs.getD j 0 = q at *
          generalize ys.getD j 0 = q' at *
          go_wp2_with fail
          go_region
          all_goals
            go_wp2_with fail
            go_ret
            exact ⟨ret_b HS.out.symm, hbw.drew⟩
      · have hjk : j = xs.length := by omega
        subst hjk
        have HS : Hid (sameB xs ys = true) := decide_eq_true (by
          have := HT.out
          rw [List.take_of_length_le (Nat.le_refl _), List.take_of_length_le (by omega)] at this; exact this)
        go_wp2_with fail
        go_ret
        exact ⟨ret_b HS.out.symm, hbw⟩
  · have HS : Hid (sameB xs ys = false) := decide_eq_false fun e => hl (by rw [e])
    have hl1 : ((xs.length : Int) == ys.length) = false := beq_eq_false_iff_ne.2 (by omega)
    have hl2 : (xs.length == ys.length) = false := by simpa using hl
    go_enter Try.func17, Try.ntmps17
    go_wp2_with fail
    go_ret
    exact ⟨ret_b HS.out.symm, Below.refl _ _⟩
end Go.Proofs.Yteklcolphbcjlaa
/- Walks of chapter 5: what is the same; the document's example. -/
namespace Go.Proofs.Yteklcolphbcjlaa
open Go.RowKit

/-- Are two descriptions the same? -/
def spB (c t x m k e c' t' x' m' k' e' : Int) : Bool := decide (c = c') && (decide (t = t') && (decide (x = x') && (decide (m = m') && (decide (k = k') && decide (e = e')))))
theorem spB_self (c t x m k e : Int) : spB c t x m k e c t x m k e = true := by simp [spB]
set_option maxHeartbeats 1000000 in
theorem sp_eql (c t x m k e c' t' x' m' k' e' : Int) (w : World) : (binOp .eql 23 (.agg #[.int .i64 c, .int .i64 t, .int .i64 x, .int .i64 m, .int .i64 k, .int .i64 e]) (.agg #[.int .i64 c', .int .i64 t', .int .i64 x', .int .i64 m', .int .i64 k', .int .i64 e'])).run Try.prog w = .ok (.bool (spB c t x m k e c' t' x' m' k' e')) w := by
  unfold spB
  by_cases h0 : c = c'
  rotate_left
  · simp [go_sem, h0]
  by_cases h1 : t = t'
  rotate_left
  · simp [go_sem, h0, h1]
  by_cases h2 : x = x'
  rotate_left
  · simp [go_sem, h0, h1, h2]
  by_cases h3 : m = m'
  rotate_left
  · simp [go_sem, h0, h1, h2, h3]
  by_cases h4 : k = k'
  rotate_left
  · simp [go_sem, h0, h1, h2, h3, h4]
  by_cases h5 : e = e'
  rotate_left
  · simp [go_sem, h0, h1, h2, h3, h4, h5]
  simp [go_sem, h0, h1, h2, h3, h4, h5]
end Go.Proofs.Yteklcolphbcjlaa
/- Walks of At, Top and Least of package units. -/
namespace Go.Proofs.Yteklcolphbcjlaa
open Go.RowKit
theorem may_facts {s : Sp} (h : maySp s = true) : 1 ≤ s.c ∧ s.c ≤ 6 ∧ s.c ≤ s.t ∧ s.t ≤ s.x ∧ s.x ≤ 48 ∧ (1 ≤ s.m ∧ s.m ≤ s.k ∧ s.k ≤ 6) ∧ 0 ≤ s.e ∧ s.e ≤ 8 ∧ (s.e ≠ 0 ∨ s.t = s.x) := by
  rw [maySp_eq] at h; exact of_decide_eq_true h
end Go.Proofs.Yteklcolphbcjlaa
