/- Texts that belong together, one behind the other: X1, U9, X3, X4, X7, X8. -/
import Derived.Test.YteklcolphbcjlaaQ1
import Derived.Laws.AppendOwnNone
import Derived.ChangeKeysEq
import Derived.Lib.Mul64
import Derived.Deep.RegionWith
import Derived.Deep.RegionHeld3
import Derived.BigQuiet
import Derived.Maps.RangeWalk
import Derived.Maps.Views
/- Sums over the first numbers, and the least force by which springs have no more than a load: plain arithmetic. -/
namespace Go.Proofs.Yteklcolphbcjlaa

/-- g of the first n numbers, together. -/
def sm : Nat → (Nat → Int) → Int
  | 0, _ => 0
  | n + 1, g => sm n g + g n
theorem sm_congr {n : Nat} {f g : Nat → Int} (h : ∀ i, i < n → f i = g i) : sm n f = sm n g := by
  induction n with
  | zero => rfl
  | succ n ih => show sm n f + f n = sm n g + g n; rw [ih (fun i hi => h i (by omega)), h n (by omega)]
theorem sm_le {n : Nat} {f g : Nat → Int} (h : ∀ i, i < n → f i ≤ g i) : sm n f ≤ sm n g := by
  induction n with
  | zero => exact Int.le_refl _
  | succ n ih => have := ih (fun i hi => h i (by omega)); have := h n (by omega); show sm n f + f n ≤ sm n g + g n; omega
theorem sm_sub (n : Nat) (f g : Nat → Int) : sm n (fun i => f i - g i) = sm n f - sm n g := by
  induction n with
  | zero => rfl
  | succ n ih => show sm n (fun i => f i - g i) + (f n - g n) = (sm n f + f n) - (sm n g + g n); rw [ih]; omega
theorem sm_mul (n : Nat) (k : Int) (f : Nat → Int) : sm n (fun i => k * f i) = k * sm n f := by
  induction n with
  | zero => show (0 : Int) = k * 0; omega
  | succ n ih => show sm n (fun i => k * f i) + k * f n = k * (sm n f + f n); rw [ih, Int.mul_add]
section
variable (n : Nat) (U L E : Nat → Int)

/-- Springs that may be: U, the least, and E of each. -/
structure Sp7 : Prop where
  len : n ≤ 4
  low : ∀ i, i < n → 1 ≤ L i
  top : ∀ i, i < n → L i ≤ U i
  unit : ∀ i, i < n → U i ≤ 1048576
  e0 : ∀ i, i < n → 0 ≤ E i
  e8 : ∀ i, i < n → E i ≤ 8
  stiff : ∀ i, i < n → E i = 0 → L i = U i

/-- What one has by a through b, times b. -/
def hav (a b : Int) (i : Nat) : Int := max (b * U i - a * E i) (b * L i)
def tot (a b : Int) : Int := sm n (hav U L E a b)

/-- The least force by which they have no more than load: a through b. -/
structure IsF (load a b : Int) : Prop where
  a0 : 0 ≤ a
  b1 : 1 ≤ b
  b32 : b ≤ 32
  abig : a ≤ 4194304
  cop : ∀ k : Int, 2 ≤ k → k ∣ a → k ∣ b → False
  enough : tot n U L E a b ≤ b * load
  just : load < sm n U → tot n U L E a b = b * load
  least : ∀ c d : Int, 0 ≤ c → 1 ≤ d → tot n U L E c d ≤ d * load → a * d ≤ c * b

variable {n U L E}

theorem hav_mul {k a b : Int} (hk : 0 ≤ k) (i : Nat) : hav U L E (k * a) (k * b) i = k * hav U L E a b i := by
  unfold hav
  have e1 : k * b * U i - k * a * E i = k * (b * U i - a * E i) := by rw [Int.mul_sub, Int.mul_assoc, Int.mul_assoc]
  have e2 : k * b * L i = k * (b * L i) := Int.mul_assoc _ _ _
  rw [e1, e2]
  generalize b * U i - a * E i = x
  generalize b * L i = y
  by_cases h : x ≤ y
  · rw [Int.max_eq_right h, Int.max_eq_right (Int.mul_le_mul_of_nonneg_left h hk)]
  · rw [Int.max_eq_left (show y ≤ x by omega), Int.max_eq_left (Int.mul_le_mul_of_nonneg_left (show y ≤ x by omega) hk)]
theorem tot_mul {k a b : Int} (hk : 0 ≤ k) : tot n U L E (k * a) (k * b) = k * tot n U L E a b := by
  unfold tot
  rw [← sm_mul]
  exact sm_congr (fun i _ => hav_mul hk i)

/-- What a set of springs asks for, that has what the others leave. -/
structure Fin7 (n : Nat) (U L E : Nat → Int) (load : Int) (S : Nat → Bool) (A B : Int) : Prop where
  A0 : 0 < A
  A22 : A ≤ 4194304
  B1 : 1 ≤ B
  B32 : B ≤ 32
  isA : A = sm n (fun i => if S i then U i else L i) - load
  isB : B = sm n (fun i => if S i then E i else 0)
  all : tot n U L E A B = B * load
  least : ∀ c d : Int, 1 ≤ d → tot n U L E c d ≤ d * load → A * d ≤ c * B

theorem fin_least {load A B : Int} {S : Nat → Bool} (hA : A = sm n (fun i => if S i then U i else L i) - load) (hB : B = sm n (fun i => if S i then E i else 0)) (c d : Int) (h : tot n U L E c d ≤ d * load) : A * d ≤ c * B := by
  have h1 : sm n (fun i => d * (if S i then U i else L i) - c * (if S i then E i else 0)) ≤ tot n U L E c d := by
    refine sm_le (fun i _ => ?_)
    unfold hav
    cases S i
    · have e : c * 0 = 0 := Int.mul_zero c
      simp only [Bool.false_eq_true, if_false, e]
      omega
    · simp only [if_true]; omega
  rw [sm_sub, sm_mul, sm_mul, ← hB] at h1
  have h2 : d * sm n (fun i => if S i then U i else L i) = d * A + d * load := by rw [hA, Int.mul_sub]; omega
  rw [h2] at h1
  rw [Int.mul_comm A d]
  omega

/-- In the least numbers: the force. -/
theorem Fin7.isF {load A B a b g : Int} {S : Nat → Bool} (h : Fin7 n U L E load S A B) (hg : 1 ≤ g) (ha : A = g * a) (hb : B = g * b) (cop : ∀ k : Int, 2 ≤ k → k ∣ a → k ∣ b → False) : IsF n U L E load a b := by
  have a1 : 1 ≤ a := by
    have h1 := h.A0; rw [ha] at h1
    have := Int.pos_of_mul_pos_right h1 (by omega)
    omega
  have b1 : 1 ≤ b := by
    have h1 := h.B1; rw [hb] at h1
    have : 0 < g * b := by omega
    have := Int.pos_of_mul_pos_right this (by omega)
    omega
  have hbB : b ≤ B := by rw [hb]; have := Int.mul_le_mul_of_nonneg_right hg (show (0 : Int) ≤ b by omega); omega
  have haA : a ≤ A := by rw [ha]; have := Int.mul_le_mul_of_nonneg_right hg (show (0 : Int) ≤ a by omega); omega
  have hall := h.all
  rw [ha, hb, tot_mul (by omega), Int.mul_assoc] at hall
  have hall := Int.eq_of_mul_eq_mul_left (by omega) hall
  refine ⟨by omega, b1, by have := h.B32; omega, by have := h.A22; omega, cop, by omega, fun _ => hall, fun c d _ hd ht => ?_⟩
  have := h.least c d hd ht
  rw [ha, hb] at this
  have e1 : g * a * d = g * (a * d) := Int.mul_assoc _ _ _
  have e2 : c * (g * b) = g * (c * b) := by rw [← Int.mul_assoc, Int.mul_comm c g, Int.mul_assoc]
  rw [e1, e2] at this
  exact Int.le_of_mul_le_mul_left this (by omega)

end
end Go.Proofs.Yteklcolphbcjlaa
/- Lists of integers of the call's own, that are appended to; what is appended to keeps what it had. -/
namespace Go.Proofs.Yteklcolphbcjlaa
open Go.RowKit

def ivs (xs : List Int) : List Value := xs.map (Value.int .i64)
theorem ivs_len (xs : List Int) : (ivs xs).length = xs.length := by simp [ivs]
theorem ivs_at {xs : List Int} {i : Nat} (h : i < xs.length) : (ivs xs)[i]? = some (.int .i64 (xs.getD i 0)) := by
  unfold ivs; rw [List.getElem?_map, List.getElem?_eq_getElem h]; simp [List.getD, h]

/-- Is a list without memory without room, too? -/
def NilCap (v : Value) : Prop := ∀ c, v = .slice none 0 c → c = 0

/-- Integers of the call's own are read. -/
theorem Nums.own {w : World} {base : Nat} {v : Value} {n : Nat} {xs : List Int} (h : w.ownsRow base 3 1 v n (ivs xs)) : Nums w v xs ∧ NilCap v ∧ n = xs.length := by
  have hn : n = xs.length := by have := h.1; rw [ivs_len] at this; omega
  subst hn
  have hcs := fun g hg => h.cells (g := g) hg
  obtain ⟨_, ⟨rfl, hz⟩ | ⟨g, cap, cur, rfl, hb, hh, h1, h2, _⟩⟩ := h
  · obtain rfl : xs = [] := List.eq_nil_of_length_eq_zero hz
    exact ⟨⟨none, 0, rfl, by simp, by simp, fun h => absurd rfl h⟩, fun c hc => by simpa using hc.symm, rfl⟩
  · refine ⟨⟨_, cap, rfl, h1, h2, fun _ => ⟨g, 0, rfl, fun i hi => ?_⟩⟩, fun c hc => by simp at hc, rfl⟩
    have := hcs g rfl i _ (ivs_at hi)
    cases i with
    | zero => simpa [Addr.add] using this
    | succ i => simpa [Addr.add] using this
end Go.Proofs.Yteklcolphbcjlaa
/- Springs as they lie; walks of package spring: within, least, slack, what tells of one, and two numbers in the least ones. -/
namespace Go.Proofs.Yteklcolphbcjlaa
open Go.RowKit

/-- A list of springs that is read: U, Min and E of each. -/
def Sprs (w : World) (v : Value) (n : Nat) (u m e : Nat → Int) : Prop :=
  ∃ a cap, v = .slice a n cap ∧ n ≤ cap ∧ cap ≤ maxLen ∧ (a = none → cap = 0) ∧ (0 < n → ∃ b o, a = some ⟨b, o, none⟩ ∧ ∀ i, i < n → w.cell? ⟨b, o + i * 3, none⟩ = some (.int .i64 (u i)) ∧ w.cell? ⟨b, o + i * 3 + 1, none⟩ = some (.int .i64 (m i)) ∧ w.cell? ⟨b, o + i * 3 + 2, none⟩ = some (.int .i64 (e i)))
theorem Sprs.later {w w' : World} {v : Value} {n : Nat} {u m e : Nat → Int} (h : Sprs w v n u m e) (hb : Below w.heap.size w w') : Sprs w' v n u m e := by
  obtain ⟨a, cap, rfl, h1, h2, h0, h3⟩ := h
  refine ⟨a, cap, rfl, h1, h2, h0, fun hx => ?_⟩
  obtain ⟨b, o, rfl, h4⟩ := h3 hx
  exact ⟨b, o, rfl, fun i hi => ⟨cell_later hb (h4 i hi).1, cell_later hb (h4 i hi).2.1, cell_later hb (h4 i hi).2.2⟩⟩

/-- A spring's least. -/
def lea (u m e : Int) : Int := if e = 0 then u else m

/-- How many units a spring has by a through b, rounded down. -/
def hasV (u m e a b : Int) : Int := max (u - cl (a * e) b) (lea u m e)
end Go.Proofs.Yteklcolphbcjlaa
/- Walks of package spring: what is told of each, and all of it together; May and Room. -/
namespace Go.Proofs.Yteklcolphbcjlaa
open Go.RowKit
/-- What springs must be to be pressed. -/
def fitS (n : Nat) (u m e : Nat → Int) : Prop := n ≤ 4 ∧ ∀ i, i < n → 1 ≤ m i ∧ m i ≤ u i ∧ u i ≤ 1048576 ∧ 0 ≤ e i ∧ e i ≤ 8
def lo7 (u m e : Nat → Int) (i : Nat) : Int := lea (u i) (m i) (e i)
theorem fitS.sp {n : Nat} {u m e : Nat → Int} (h : fitS n u m e) : Sp7 n u (lo7 u m e) e := by
  refine ⟨h.1, fun i hi => ?_, fun i hi => ?_, fun i hi => (h.2 i hi).2.2.1, fun i hi => (h.2 i hi).2.2.2.1, fun i hi => (h.2 i hi).2.2.2.2, fun i hi he => ?_⟩
  · have := h.2 i hi; unfold lo7 lea; split <;> omega
  · have := h.2 i hi; unfold lo7 lea; split <;> omega
  · unfold lo7 lea; rw [if_pos he]

/-- May springs be? -/
def sprB (n : Nat) (u m e : Nat → Int) : Bool := decide (n ≤ 4 ∧ ∀ i, i < n → 1 ≤ m i ∧ m i ≤ u i ∧ u i ≤ 1048576 ∧ 0 ≤ e i ∧ e i ≤ 8)
theorem sprB_yes {n : Nat} {u m e : Nat → Int} (h : fitS n u m e) : sprB n u m e = true := by unfold sprB; rw [decide_eq_true_eq]; exact h

/-- Is there room for springs? -/
def roomB (n : Nat) (u m e : Nat → Int) (load : Int) : Bool := sprB n u m e && (wiB load 0 1099511627776 && decide (sm n (lo7 u m e) ≤ load))
end Go.Proofs.Yteklcolphbcjlaa
/- Walks of package spring: Force and Press; the document's example. -/
namespace Go.Proofs.Yteklcolphbcjlaa
open Go.RowKit
theorem roomB_yes {n : Nat} {u m e : Nat → Int} {load : Int} (h : fitS n u m e) (h0 : 0 ≤ load) (h1 : load ≤ 1099511627776) (h2 : sm n (lo7 u m e) ≤ load) : roomB n u m e load = true := by
  unfold roomB
  rw [sprB_yes h, decide_eq_true h2]
  have : wiB load 0 1099511627776 = true := decide_eq_true ⟨h0, h1⟩
  rw [this]; rfl

/-- The force: 0 and 0, if there is no room. -/
def Frc (n : Nat) (u m e : Nat → Int) (load a b : Int) (rb : Bool) : Prop := roomB n u m e load = rb ∧ (rb = true → IsF n u (lo7 u m e) e load a b) ∧ (rb = false → a = 0 ∧ b = 0)
end Go.Proofs.Yteklcolphbcjlaa
/- Walks of chapter 7: what is the same, the document's own least; the document's example. -/
namespace Go.Proofs.Yteklcolphbcjlaa
open Go.RowKit

theorem same_of {xs ys : List Int} (hl : xs.length = ys.length) (h : ∀ i, i < xs.length → xs.getD i 0 = ys.getD i 0) : xs = ys := by
  apply List.ext_getElem hl
  intro i h1 h2
  have := h i h1
  simpa [List.getD, h1, h2] using this

set_option maxHeartbeats 1000000 in
set_option maxRecDepth 100000 in
theorem ints_any (xs ys : List Int) (v v' : Value) (w : World) (h : Nums w v xs) (h' : Nums w v' ys) (hx : xs.length ≤ 100000) :
    Calls Try.prog 27 #[v, v'] w fun r w' => r = .returned (.bool (decide (xs = ys))) ∧ Below w.heap.size w w' := by
  obtain ⟨a, cap, rfl, h1, h2, h3⟩ := h
  obtain ⟨a', cap', rfl, h1', h2', h3'⟩ := h'
  by_cases hl : xs.length = ys.length
  · have hl1 : ((xs.length : Int)) = ys.length := by omega
    have HL : Hid (xs.length = ys.length) := hl
    clear hl1
    generalize hy : ys.length = ly at *
    have HY : Hid (ys.length = ly) := hy
    clear hy
    subst hl
    go_enter Try.func27, Try.ntmps27
    go_wp2_with fail
    go_loopw [5] (fun i wr => ∃ (j : Nat), j ≤ xs.length ∧ i = .int .i64 j ∧ Hid (∀ i, i < j → xs.getD i 0 = ys.getD i 0) ∧ Below w.heap.size w wr) (fun i _ => ((xs.length : Int) - intOf i).toNat)
    case atStart => exact ⟨0, by omega, rfl, (fun i hi => by omega), Below.refl _ _⟩
    case round =>
      obtain ⟨j, hj, rfl, HG, hbw⟩ := hrel
      by_cases hlt : (j : Int) < xs.length
      · obtain ⟨b, o, rfl, h4⟩ := h3 (by intro e; rw [e, List.length_nil] at hlt; omega)
        obtain ⟨b', o', rfl, h4'⟩ := h3' (by intro e; have := HY.out; rw [e, List.length_nil] at this; omega)
        have c0 := cell_later hbw (h4 j (by omega))
        have c1 := cell_later hbw (h4' j (by have := HY.out; omega))
        clear h3 h3' h4 h4'
        obtain ⟨x, hx⟩ : ∃ x, xs.getD j 0 = x := ⟨_, rfl⟩
        obtain ⟨y, hy⟩ : ∃ y, ys.getD j 0 = y := ⟨_, rfl⟩
        have HX : Hid (xs.getD j 0 = x) := hx
        have HZ : Hid (ys.getD j 0 = y) := hy
        rw [hx] at c0
        rw [hy] at c1
        clear hx hy
        by_cases hxy : x = y
        · subst hxy
          have HN : Hid (∀ i, i < j + 1 → xs.getD i 0 = ys.getD i 0) := by
            intro i hi
            rcases Nat.lt_succ_iff_lt_or_eq.1 hi with hi | rfl
            · exact HG.out i hi
            · rw [HX.out, HZ.out]
          go_wp2_with fail
          go_quiet (fail)
          go_wp2_with fail
          go_roundw
          case rel => exact ⟨j + 1, by omega, by go_num, HN.out, ⟨hbw.os, hbw.tape, hbw.output, hbw.size, hbw.block⟩⟩
          case measure => simp [intOf]; omega
        · have H : Hid (decide (xs = ys) = false) := decide_eq_false (fun e => hxy (by rw [← HX.out, ← HZ.out, e]))
          have q1 : (x == y) = false := by simpa using hxy
          go_wp2_with fail
          go_quiet (fail)
          go_wp2
          go_ret
          exact ⟨ret_b H.out.symm, ⟨hbw.os, hbw.tape, hbw.output, hbw.size, hbw.block⟩⟩
      · have hjk : j = xs.length := by omega
        have H : Hid (decide (xs = ys) = true) := decide_eq_true (same_of HY.out.symm (fun i hi => HG.out i (by omega)))
        subst hjk
        go_wp2
        go_ret
        exact ⟨ret_b H.out.symm, hbw⟩
  · have H : Hid (decide (xs = ys) = false) := decide_eq_false (fun e => hl (by rw [e]))
    have hl1 : ¬ ((xs.length : Int)) = ys.length := by omega
    have q1 : ((xs.length : Int) == ys.length) = false := by simpa using hl1
    go_enter Try.func27, Try.ntmps27
    go_wp2
    go_ret
    exact ⟨ret_b H.out.symm, Below.refl _ _⟩

/-- The chapter's two springs. -/
def exU (_ : Nat) : Int := 100
def exM (_ : Nat) : Int := 50
def exE (i : Nat) : Int := if i = 0 then 1 else 3
theorem sprs_two (w : World) (t : TypeId) : Sprs (w.alloc (.cells #[.int .i64 100, .int .i64 50, .int .i64 1, .int .i64 100, .int .i64 50, .int .i64 3] t)) (.slice (some ⟨w.heap.size, 0, none⟩) 2 2) 2 exU exM exE :=
  ⟨_, 2, rfl, by omega, by decide, fun h => (by cases h), fun _ => ⟨w.heap.size, 0, rfl, fun i hi => by
    match i, hi with
    | 0, _ => simp [exU, exM, exE]
    | 1, _ => simp [exU, exM, exE]⟩⟩
theorem ex_fit : fitS 2 exU exM exE := ⟨by omega, fun i hi => by
  match i, hi with
  | 0, _ => decide
  | 1, _ => decide⟩
theorem ex_frc : Frc 2 exU exM exE 160 10 1 true := by
  refine ⟨roomB_yes ex_fit (by omega) (by omega) (by decide), fun _ => ?_, fun h => by cases h⟩
  have hF : Fin7 2 exU (lo7 exU exM exE) exE 160 (fun _ => true) 40 4 := ⟨by omega, by omega, by omega, by omega, by decide, by decide, by decide, fun c d _ ht => fin_least (S := fun _ => true) (by decide) (by decide) c d ht⟩
  refine hF.isF (g := 4) (by omega) (by omega) (by omega) (fun k hk _ h2 => ?_)
  have := Int.le_of_dvd (by omega) h2
  omega
end Go.Proofs.Yteklcolphbcjlaa
