/- A map by items whose elements are slices: what it holds, key by key; an entry read, and written behind that. -/
import Derived.Test.YtjaaabliefcgaaaO2
import Derived.Maps.Views
import Derived.Maps.OwnOps
import Derived.Maps.OwnSet
import Derived.Maps.AppendAt
import Derived.WideKeyEntry
import Derived.DeepKeys4
namespace Go.Proofs.Ytjaaabliefcgaaa
open Go.RowKit Go.Maps Go.WideMaps
open Go.ChangeMaps (setBlock)

theorem laidOut13 : laidOutB Try.prog = true := by kernel_rfl
theorem lawItem : KeyLaw Try.prog 50 := deep_law_laid laidOut13 (m := 2) (by omega) (of_decide_eq_true (by kernel_rfl)) (by kernel_rfl) (by kernel_rfl)
theorem keysItem : Keyed Try.prog 50 := Keyed.of_law lawItem
theorem keyItem : Try.prog.keyType 50 = true := by kernel_rfl
theorem typesPos : 0 < Try.prog.types.size := of_decide_eq_true (by kernel_rfl)

def okI (x : Int) : Prop := -9223372036854775808 ≤ x ∧ x ≤ 9223372036854775807
def wfK (x : Int × Int) : Prop := okI x.1 ∧ okI x.2
theorem okI_wf {x : Int} (h : okI x) : (Lit.int .i64 x).wf = true := Go.WalkArith.wf_i64 h
def keyV (x : Int × Int) : Value := .agg #[.int .i64 x.1, .int .i64 x.2]
def keyL (x : Int × Int) : Lit := .string (keyBytes [.int .i64 x.1, .int .i64 x.2])
theorem keyL_is {x : Int × Int} (h : wfK x) : keyOf Try.prog 50 (keyV x) = some (keyL x) := by
  obtain ⟨n, hn⟩ : ∃ n, Try.prog.types.size + 1 = n + 2 := ⟨Try.prog.types.size - 1, by have := typesPos; omega⟩
  have h1 := okI_wf h.1
  have h2 := okI_wf h.2
  have hc : Try.prog.cellsOf 50 = 2 := by kernel_rfl
  have hc1 : Try.prog.cellsOf 3 = 1 := by kernel_rfl
  unfold keyOf
  rw [Try.underlying50]
  simp only
  have hf : (keyV x).formed Try.prog 50 = true := by
    unfold keyV
    simp [Value.formed, Try.underlying50, hc]
  rw [keyItem, hf, hn]
  unfold keyV keyL
  simp [Program.keyLits, Try.underlying50, Try.underlying3, hc, hc1, Value.cells, h1, h2]
theorem keyV_inj {x y : Int × Int} (h : keyV x = keyV y) : x = y := by
  unfold keyV at h
  simp at h
  exact Prod.ext h.1 h.2
theorem keyL_ne {x y : Int × Int} (hx : wfK x) (hy : wfK y) (h : x ≠ y) : keyL x ≠ keyL y := fun e => h (keyV_inj (lawItem.inj (keyL_is hx) (by rw [e]; exact keyL_is hy)))
theorem keyL_key {x : Int × Int} (h : wfK x) : WideAt.IsKeyLit (keyL x) := keysItem.key (keyL_is h)

/-- How a slice reads: where it lies, and how long it is. -/
def encS : Value → Option (DataW Unit × List MemPlace)
  | .slice none n c => some (.agg [.lit (.int .i64 n), .lit (.int .i64 c)], [])
  | .slice (some ⟨b, o, none⟩) n c => some (.agg [.lit (.int .i64 b), .lit (.int .i64 o), .lit (.int .i64 n), .lit (.int .i64 c)], [])
  | _ => none
theorem encS_is {v : Value} {y : DataW Unit × List MemPlace} (h : encS v = some y) : (∃ n c : Nat, v = .slice none n c ∧ y = (.agg [.lit (.int .i64 n), .lit (.int .i64 c)], [])) ∨ ∃ b o n c : Nat, v = .slice (some ⟨b, o, none⟩) n c ∧ y = (.agg [.lit (.int .i64 b), .lit (.int .i64 o), .lit (.int .i64 n), .lit (.int .i64 c)], []) := by
  unfold encS at h
  split at h
  · cases h; exact .inl ⟨_, _, rfl, rfl⟩
  · cases h; exact .inr ⟨_, _, _, _, rfl, rfl⟩
  · cases h
theorem encS_inj {v v' : Value} {d : DataW Unit} {ps ps' : List MemPlace} (h : encS v = some (d, ps)) (h' : encS v' = some (d, ps')) : v = v' := by
  rcases encS_is h with ⟨n, c, rfl, e⟩ | ⟨b, o, n, c, rfl, e⟩ <;> rcases encS_is h' with ⟨n', c', rfl, e'⟩ | ⟨b', o', n', c', rfl, e'⟩ <;> cases e <;> simp at e' <;> obtain ⟨e', _⟩ := e' <;> simp_all <;> omega
theorem encS_ps {v : Value} {d : DataW Unit} {ps : List MemPlace} (h : encS v = some (d, ps)) : encS v = some (d, []) := by
  rcases encS_is h with ⟨n, c, rfl, e⟩ | ⟨b, o, n, c, rfl, e⟩ <;> cases e <;> rfl
def zS : DataW Unit := .agg [.lit (.int .i64 0), .lit (.int .i64 0)]
theorem encS_nil : encS (.slice none 0 0) = some (zS, []) := rfl
theorem encS_rws {α : Type} {R : Rec α} {w : World} {v : Value} {n : Nat} {f : Nat → α} (h : Rws R w v n f) (hp : 0 < n) : ∃ d, encS v = some (d, []) := by
  obtain ⟨a, cap, rfl, _, _, _, h3⟩ := h
  obtain ⟨b, o, rfl, _⟩ := h3 hp
  exact ⟨_, rfl⟩
theorem encS_own {α : Type} {R : Rec α} {w : World} {base : Nat} {e : TypeId} {v : Value} {n : Nat} {f : Nat → α} (h : OwnR R w base e v n f) : ∃ d, encS v = some (d, []) := by
  rcases h.open with ⟨rfl, _⟩ | ⟨g, cap, rfl, _⟩
  · exact ⟨_, rfl⟩
  · exact ⟨_, rfl⟩

/-- What the map holds: V, key by key; nil where nothing was put. -/
def HoldS (D : DataW Unit) (V : Int × Int → Value) : Prop := ∀ x, wfK x → ∃ d, encS (V x) = some (d, []) ∧ D.atKey (keyL x) zS = d
theorem holdS_none : HoldS (.map []) (fun _ => .slice none 0 0) := fun _ _ => ⟨zS, rfl, rfl⟩
def putV (V : Int × Int → Value) (k : Int × Int) (v : Value) (x : Int × Int) : Value := if x = k then v else V x
theorem HoldS.put {D : DataW Unit} {V : Int × Int → Value} (h : HoldS D V) (hD : IsMap D) {k : Int × Int} (hk : wfK k) {v : Value} {d : DataW Unit} (hv : encS v = some (d, [])) : HoldS (D.put (keyL k) d) (putV V k v) := by
  intro x hx
  unfold putV
  by_cases c : x = k
  · subst c
    rw [if_pos rfl]
    exact ⟨d, hv, atKey_put_same hD (keyL_key hk) _ _⟩
  · rw [if_neg c, atKey_put_other (keyL_ne hx hk c)]
    exact h x hx
theorem zeroApes (w : World) : (zeroValue 22).run Try.prog w = .ok (.slice none 0 0) w := by kernel_rfl
theorem lookS {w : World} {b n : Nat} {D : DataW Unit} {V : Int × Int → Value} (h : w.ownsMap Try.prog 50 encS b n D) (hH : HoldS D V) {k : Int × Int} (hk : wfK k) :
    (Instr.lookup 58 (.map (some b)) (keyV k) false).run Try.prog w = .ok (V k) w := by
  obtain ⟨v, ps, hrun, hR⟩ := h.lookup keysItem Try.underlying58 (zeroApes w) encS_nil (keyL_is hk)
  obtain ⟨d, h1, h2⟩ := hH k hk
  rw [h2] at hR
  rw [hrun, encS_inj hR h1]

theorem nodup_key : ∀ {l : List MapEntry}, (l.map (·.key)).Nodup → ∀ {a b : MapEntry}, a ∈ l → b ∈ l → a.key = b.key → a = b
  | [], _, _, _, ha, _, _ => by simp at ha
  | x :: r, h, a, b, ha, hb, e => by
    simp only [List.map_cons, List.nodup_cons] at h
    rcases List.mem_cons.1 ha with e1 | ha <;> rcases List.mem_cons.1 hb with e2 | hb
    · rw [e1, e2]
    · exact absurd (List.mem_map.2 ⟨b, hb, by rw [← e, e1]⟩) h.1
    · exact absurd (List.mem_map.2 ⟨a, ha, by rw [e, e2]⟩) h.1
    · exact nodup_key h.2 ha hb e
/-- An entry is read, and written behind that, while other blocks turn. -/
theorem entryS {w : World} {b n : Nat} {D : DataW Unit} {V : Int × Int → Value} (h : w.ownsMap Try.prog 50 encS b n D) (hH : HoldS D V) {k : Int × Int} (hk : wfK k) (hn : n < maxLen) :
    ∃ (st : Nat) (w1 : World), (Instr.mapEntry 58 (.map (some b)) (keyV k)).run Try.prog w = .ok (.tuple #[V k, goInt st]) w1 ∧ w.grownBy w1 (some b) ∧ w1.heap.size = w.heap.size ∧
      ∀ (w2 : World) (v : Value) (d : DataW Unit), w2.heap[b]? = w1.heap[b]? → encS v = some (d, []) → ∃ w3, (Instr.entryStore 58 (.map (some b)) (goInt st) v).run Try.prog w2 = .ok () w3 ∧ w2.grownBy w3 (some b) ∧ w3.heap.size = w2.heap.size ∧ w3.ownsMap Try.prog 50 encS b (n + 1) (D.put (keyL k) d) := by
  have h0 := h
  have hlook := lookS h hH hk
  obtain ⟨es, clock, hb, F, hs, rfl⟩ := h
  obtain ⟨v0, st, es1, clock1, hrun, hwho, hback⟩ := WideElems.entry_then_store lawItem Try.underlying58 (fun u => zeroApes u) hb F (keyL_is hk)
  have hv0 : v0 = V k := by
    rcases Maps.fit_look false keysItem Try.underlying58 (zeroApes w) hb F (keyL_is hk) with ⟨hr, hno, _⟩ | ⟨e0, y, hm, hkk, hr, _⟩
    · rcases hwho with ⟨e1, hm1, hk1, _⟩ | ⟨_, rfl⟩
      · exact absurd hk1 (hno e1 hm1)
      · rw [hlook] at hr
        simp at hr
        exact hr.symm
    · rcases hwho with ⟨e1, hm1, hk1, rfl⟩ | ⟨hno, _⟩
      · have : e1 = e0 := by
          obtain ⟨_, _, s3⟩ := F.stamped
          exact nodup_key s3 hm1 hm (hk1.trans hkk.symm)
        rw [this]
        rw [hlook] at hr
        simp at hr
        exact hr.symm
      · exact absurd hkk (hno e0 hm)
  subst hv0
  refine ⟨st, _, hrun, ⟨rfl, rfl, rfl, by simp [setBlock], fun i _ hi => ChangeMaps.heap_setBlock_other hb _ (fun e => hi (by rw [e]))⟩, by simp [setBlock], fun w2 v d hw2 hv => ?_⟩
  rw [ChangeMaps.heap_setBlock_same hb] at hw2
  obtain ⟨es', clock', hst, hup⟩ := hback w2 v hw2
  obtain ⟨w', hrun', hown', _⟩ := h0.update keysItem Try.underlying58 hn (keyL_is hk) hv
  rw [hup] at hrun'
  simp at hrun'
  subst hrun'
  refine ⟨_, hst, ⟨rfl, rfl, rfl, by simp [setBlock], fun i _ hi => ChangeMaps.heap_setBlock_other hw2 _ (fun e => hi (by rw [e]))⟩, by simp [setBlock], ?_⟩
  obtain ⟨es2, clock2, hb2, F2, hs2, hD2⟩ := hown'
  rw [ChangeMaps.heap_setBlock_same hb] at hb2
  simp at hb2
  obtain ⟨rfl, rfl⟩ := hb2
  exact ⟨_, _, ChangeMaps.heap_setBlock_same hw2 _, F2, hs2, hD2⟩
end Go.Proofs.Ytjaaabliefcgaaa
