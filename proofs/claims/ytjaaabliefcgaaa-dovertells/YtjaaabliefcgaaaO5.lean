/- Lists kept by items: what a round of dover's inOrder makes of them; laws for an entry of a map. -/
import Derived.Test.YtjaaabliefcgaaaO4
import Derived.Test.YtjaaabliefcgaaaH11
namespace Go.Proofs.Ytjaaabliefcgaaa
open Go.RowKit Go.Maps Go.Shelf

def flatA (ys : List Ap) : List Value := ys.flatMap Ap.row
theorem flatA_app (xs ys : List Ap) : flatA (xs ++ ys) = flatA xs ++ flatA ys := by simp [flatA]
theorem flatA_one (a : Ap) : flatA [a] = a.row := by simp [flatA]
theorem flatA_R (ys : List Ap) : flatA ys = flatR recA ys.length (atA ys) := by
  unfold flatA flatR
  have e : ys = (List.range ys.length).map (atA ys) := by
    apply List.ext_getElem?
    intro i
    by_cases h : i < ys.length
    · rw [atA_get h, List.getElem?_map, List.getElem?_range h]; rfl
    · rw [List.getElem?_eq_none (by omega), List.getElem?_eq_none (by simp; omega)]
  conv => lhs; rw [e]
  rw [List.flatMap_map]
  rfl
/-- A list that is read. -/
def Aps (w : World) (v : Value) (xs : List Ap) : Prop := Rws recA w v xs.length (atA xs)
theorem Aps.later {w w' : World} {v : Value} {xs : List Ap} (h : Aps w v xs) (hb : Below w.heap.size w w') : Aps w' v xs := Rws.later h hb
/-- A list of the call's own. -/
def OwnA (w : World) (base : Nat) (v : Value) (xs : List Ap) : Prop := w.ownsRow base 30 5 v xs.length (flatA xs)
theorem OwnA.aps {w : World} {base : Nat} {v : Value} {xs : List Ap} (h : OwnA w base v xs) : Aps w v xs := by
  unfold OwnA at h
  rw [flatA_R] at h
  exact OwnR.rws (R := recA) h
theorem OwnA.kept {w w' : World} {base : Nat} {v : Value} {xs : List Ap} {row : Option Nat} (h : OwnA w base v xs) (hg : w.grownBy w' row) (hr : ∀ k, row = some k → k < base) : OwnA w' base v xs := by
  unfold OwnA at h ⊢
  refine h.kept hg ?_
  cases c : v.ownBlock with
  | none => exact .inl rfl
  | some k =>
    refine .inr (fun e => ?_)
    have := (h.lt k c).1
    have := hr k e.symm
    omega
theorem OwnA.later {w w' : World} {base : Nat} {v : Value} {xs : List Ap} (h : OwnA w base v xs) (hb : Below w.heap.size w w') : OwnA w' base v xs := own_laterF h hb

structure Grp (w : World) (B b m : Nat) (F : Int × Int → List Ap) (D : DataW Unit) (V : Int × Int → Value) : Prop where
  own : w.ownsMap Try.prog 50 encS b m D
  hold : HoldS D V
  rows : ∀ x, OwnA w B (V x) (F x)
  apart : ∀ x y, x ≠ y → (V x).ownBlock = none ∨ (V x).ownBlock ≠ (V y).ownBlock
theorem Grp.kept {w w' : World} {B b m : Nat} {F : Int × Int → List Ap} {D : DataW Unit} {V : Int × Int → Value} {row : Option Nat} (h : Grp w B b m F D V) (hg : w.grownBy w' row) (hne : some b ≠ row) (hr : ∀ k, row = some k → k < B) : Grp w' B b m F D V :=
  ⟨h.own.kept hg hne, h.hold, fun x => (h.rows x).kept hg hr, h.apart⟩
theorem Grp.start (w : World) (B : Nat) : Grp (w.alloc (.map #[] 0)) B w.heap.size 0 (fun x => selA x []) (.map []) (fun _ => .slice none 0 0) :=
  ⟨World.ownsMap_made _ _ _ _, holdS_none, fun _ => World.ownsRow_nil _ _ _ _, fun _ _ _ => .inl rfl⟩
theorem Grp.congr {w : World} {B b m : Nat} {F G : Int × Int → List Ap} {D : DataW Unit} {V : Int × Int → Value} (h : Grp w B b m F D V) (hf : ∀ x, F x = G x) : Grp w B b m G D V :=
  ⟨h.own, h.hold, fun x => by rw [← hf]; exact h.rows x, h.apart⟩
/-- One more behind those of its item. -/
def addF (F : Int × Int → List Ap) (k : Int × Int) (a : Ap) (x : Int × Int) : List Ap := if x = k then F x ++ [a] else F x
theorem Grp.next {w w1 w2 w3 : World} {B b m : Nat} {F : Int × Int → List Ap} {D : DataW Unit} {V : Int × Int → Value} (h : Grp w B b m F D V) (hbB : b < B) {k : Int × Int} (hk : wfK k) {a : Ap} {v' : Value} {d : DataW Unit}
    (h1 : w.grownBy w1 (some b)) (hs1 : w.heap.size ≤ w1.heap.size) (h2 : w1.grownBy w2 (V k).ownBlock) (hv : OwnA w2 B v' (F k ++ [a])) (hl : v'.ownBlock = (V k).ownBlock ∨ v'.ownBlock = some w1.heap.size)
    (h3 : w2.grownBy w3 (some b)) (hown : w3.ownsMap Try.prog 50 encS b (m + 1) (D.put (keyL k) d)) (hd : encS v' = some (d, [])) : Grp w3 B b (m + 1) (addF F k a) (D.put (keyL k) d) (putV V k v') := by
  have hlow : ∀ j, some b = some j → j < B := fun j e => by cases e; exact hbB
  have r1 : ∀ x, OwnA w1 B (V x) (F x) := fun x => (h.rows x).kept h1 hlow
  refine ⟨hown, h.hold.put h.own.isMap hk hd, fun x => ?_, fun x y hxy => ?_⟩
  · unfold putV addF
    by_cases c : x = k
    · rw [if_pos c, if_pos c, c]
      exact hv.kept h3 hlow
    · rw [if_neg c, if_neg c]
      refine OwnA.kept ?_ h3 hlow
      have := r1 x
      unfold OwnA at this ⊢
      exact this.kept h2 (h.apart x k c)
  · have new : ∀ x, x ≠ k → (V x).ownBlock = none ∨ (V x).ownBlock ≠ v'.ownBlock := fun x c => by
      rcases hl with e | e
      · rw [e]; exact h.apart x k c
      · rw [e]
        cases cx : (V x).ownBlock with
        | none => exact .inl rfl
        | some g =>
          refine .inr (fun e2 => ?_)
          have h0 := h.rows x
          unfold OwnA at h0
          have := (h0.lt g cx).2
          simp at e2
          omega
    unfold putV
    by_cases c : x = k
    · have d' : y ≠ k := fun e => hxy (c.trans e.symm)
      rw [if_pos c, if_neg d']
      rcases new y d' with e | e
      · cases cv : v'.ownBlock with
        | none => exact .inl rfl
        | some g => rw [e]; exact .inr (by simp)
      · exact .inr (fun e2 => e e2.symm)
    · rw [if_neg c]
      by_cases d' : y = k
      · rw [if_pos d']
        exact new x c
      · rw [if_neg d']
        exact h.apart x y hxy

/-- The step at an entry that is read. -/
theorem wpList_mapEntryS {w : World} {ops : Array Oper} {rest : List Oper} {o : Oper} {act : Act} {Q : Exit → Act → World → Prop} (hg : o.guard = none) (m x : Operand) (hop : o.op = Op.mapEntry 58 m x)
    (b n : Nat) (D : DataW Unit) (V : Int × Int → Value) (hm : act.eval m = .map (some b)) (hown : w.ownsMap Try.prog 50 encS b n D) (hH : HoldS D V) (k : Int × Int) (hk : wfK k) (hn : n < maxLen) (hx : act.eval x = keyV k)
    (h : ∀ (st : Nat) (w1 : World), w.grownBy w1 (some b) → w1.heap.size = w.heap.size →
      (∀ (w2 : World) (v : Value) (d : DataW Unit), w2.heap[b]? = w1.heap[b]? → encS v = some (d, []) → ∃ w3, (Instr.entryStore 58 (.map (some b)) (goInt st) v).run Try.prog w2 = .ok () w3 ∧ w2.grownBy w3 (some b) ∧ w3.heap.size = w2.heap.size ∧ w3.ownsMap Try.prog 50 encS b (n + 1) (D.put (keyL k) d)) →
      wpList Try.prog ops Q rest (act.put o.dst (.tuple #[V k, goInt st])) w1) :
    wpList Try.prog ops Q (o :: rest) act w := by
  refine wpList_plain hg fun K' hK' => ?_
  obtain ⟨st, w1, hrun, h1, h2, h3⟩ := entryS hown hH hk hn
  unfold Oper.wp
  simp [execOp, hop, hm, hx, hrun, Result.andThen]
  exact hK' _ _ (h st w1 h1 h2 h3)
theorem wpList_entryStoreS {w : World} {ops : Array Oper} {rest : List Oper} {o : Oper} {act : Act} {Q : Exit → Act → World → Prop} (hg : o.guard = none) (m s x : Operand) (t : TypeId) (hop : o.op = Op.entryStore t m s x)
    (b : Nat) (st : Nat) (v : Value) (w' : World) (hm : act.eval m = .map (some b)) (hs : act.eval s = goInt st) (hx : act.eval x = v) (hrun : (Instr.entryStore t (.map (some b)) (goInt st) v).run Try.prog w = .ok () w')
    (h : wpList Try.prog ops Q rest (act.put o.dst undef) w') :
    wpList Try.prog ops Q (o :: rest) act w := by
  refine wpList_plain hg fun K' hK' => ?_
  unfold Oper.wp
  simp [execOp, hop, hm, hs, hx, hrun, Result.andThen]
  exact hK' _ _ h
end Go.Proofs.Ytjaaabliefcgaaa
