/- Boxes of any kind of struct, as lists of cells; tasks, in numbers: plain. -/
import Derived.Test.YthbppojglhimnaaJ8
import Derived.Test.YthbppojglhimnaaR2
import Derived.Test.YthbppojglhimnaaE13
import Derived.Deep.MidRow
import Derived.Deep.Cut
namespace Go.Proofs.Ythbppojglhimnaa
open Go.RowKit

/-- What lies in a block, and may be written. -/
def Bk (w : World) (q : Nat) (l : List Value) : Prop := ∀ i, i < l.length → w.cell? ⟨q, i, none⟩ = l[i]? ∧ w.frozen? ⟨q, i, none⟩ = false
theorem Bk.new (w : World) (l : List Value) (t : TypeId) : Bk (w.alloc (.cells l.toArray t)) w.heap.size l := fun i hi => ⟨by simp, by simp⟩
theorem Bk.cell {w : World} {q i : Nat} {l : List Value} {v : Value} (h : Bk w q l) (hv : l[i]? = some v) : w.cell? ⟨q, i, none⟩ = some v := by
  rw [(h i (List.getElem?_eq_some_iff.1 hv).1).1, hv]
theorem Bk.frz {w : World} {q i : Nat} {l : List Value} (h : Bk w q l) (hi : i < l.length) : w.frozen? ⟨q, i, none⟩ = false := (h i hi).2
theorem Bk.later {w w' : World} {q : Nat} {l : List Value} (h : Bk w q l) (hb : Below w.heap.size w w') : Bk w' q l := by
  intro i hi
  obtain ⟨h1, h2⟩ := h i hi
  have hu : l[i]? = some l[i] := List.getElem?_eq_getElem hi
  rw [hu] at h1
  exact ⟨by rw [hu]; exact cell_later hb h1, (hb.frozen (p := ⟨q, i, none⟩) (World.block_lt_of_cell? _ _ h1)).trans h2⟩
theorem Bk.set {w : World} {q : Nat} {l : List Value} (h : Bk w q l) (t : Nat) (v : Value) : Bk (w.setCell ⟨q, t, none⟩ v) q (l.set t v) := by
  intro i hi
  rw [List.length_set] at hi
  obtain ⟨h1, h2⟩ := h i hi
  refine ⟨?_, by simpa using h2⟩
  by_cases e : i = t
  · subst e
    rw [List.getElem?_set_self hi]
    exact World.cell?_setCell_same _ _ _ (h1.trans (List.getElem?_eq_getElem hi))
  · rw [World.cell?_setCell_other _ _ _ _ (by intro he; exact e (Addr.mk.injEq .. ▸ he).2.1.symm), List.getElem?_set_ne (fun h => e h.symm)]; exact h1
theorem Bk.other {w : World} {q k i : Nat} {l : List Value} (h : Bk w q l) (hc : k ≠ q) (v : Value) : Bk (w.setCell ⟨k, i, none⟩ v) q l := by
  intro t ht
  obtain ⟨h1, h2⟩ := h t ht
  exact ⟨by rw [World.cell?_setCell_other _ _ _ _ (fun h => hc (congrArg Addr.block h))]; exact h1, by simpa using h2⟩
def lsets (l : List Value) : Nat → List Value → List Value
  | _, [] => l
  | k, v :: vs => lsets (l.set k v) (k + 1) vs
theorem Bk.sets {q : Nat} : ∀ (vs : List Value) {w : World} {l : List Value} (k : Nat), Bk w q l → Bk (w.setCells q k vs) q (lsets l k vs)
  | [], _, _, _, h => h
  | _ :: vs, _, _, k, h => Bk.sets vs (k + 1) (h.set k _)
theorem Bk.sets_other {p q : Nat} (hc : p ≠ q) : ∀ (vs : List Value) {w : World} {l : List Value} (k : Nat), Bk w q l → Bk (w.setCells p k vs) q l
  | [], _, _, _, h => h
  | _ :: vs, _, _, k, h => Bk.sets_other hc vs (k + 1) (h.other hc _)
theorem below_sets {B q : Nat} {a : World} (hq : B ≤ q) : ∀ (vs : List Value) {w : World} (k : Nat), Below B a w → Below B a (w.setCells q k vs)
  | [], _, _, h => h
  | _ :: vs, _, k, h => below_sets hq vs (k + 1) (h.setCell (p := ⟨q, k, none⟩) hq _)
theorem Bk.lt {w : World} {q : Nat} {v : Value} {l : List Value} (h : Bk w q (v :: l)) : q < w.heap.size := World.block_lt_of_cell? _ _ (h.cell (i := 0) rfl)
theorem size_setCells (q : Nat) : ∀ (vs : List Value) (k : Nat) (w : World), (w.setCells q k vs).heap.size = w.heap.size
  | [], _, _ => rfl
  | _ :: vs, k, w => (size_setCells q vs (k + 1) _).trans (by simp)
theorem lsets_eq : ∀ (vs l : List Value) (k : Nat), k + vs.length ≤ l.length → lsets l k vs = l.take k ++ vs ++ l.drop (k + vs.length)
  | [], l, k, _ => by simp [lsets]
  | v :: vs, l, k, h => by
    have h' : k + (vs.length + 1) ≤ l.length := by simpa using h
    rw [lsets, lsets_eq vs (l.set k v) (k + 1) (by rw [List.length_set]; omega), List.take_set, List.drop_set, if_pos (by omega)]
    rw [List.take_add_one, List.getElem?_eq_getElem (by omega : k < l.length)]
    have e : k + 1 + vs.length = k + (v :: vs).length := by simp; omega
    rw [e]
    have e2 : (l.take k ++ (some l[k]).toList).set k v = l.take k ++ [v] := by
      rw [List.set_append, if_neg (by rw [List.length_take]; omega)]
      have : k - (l.take k).length = 0 := by rw [List.length_take]; omega
      rw [this]; rfl
    rw [e2]
    simp
/-- A struct by value into a block, or into the middle of one: the world behind it is told by what lies there. -/
theorem store_bk {P : Program} {ops : Array Oper} {rest : List Oper} {op : Oper} {a : Act} {w : World} {Q : Exit → Act → World → Prop} (hgd : op.guard = none) (ty : TypeId) (x y : Operand) (ho : op.op = .store ty x y)
    (q o : Nat) (l vs l' : List Value) (hx : a.eval x = .pointer (some ⟨q, o, none⟩)) (hy : a.eval y = .agg vs.toArray) (n : Nat) (hv : vs.length = n) (hq : Bk w q l) (hn : o + n ≤ l.length) (hl : l.take o ++ vs ++ l.drop (o + n) = l')
    (hi : (P.info? ty).map (·.size) = some vs.length) (h1 : ∀ v ∈ vs, v.oneCell' = true)
    (h : ∀ w', Bk w' q l' → (∀ p m, p ≠ q → Bk w p m → Bk w' p m) → (∀ B a', B ≤ q → Below B a' w → Below B a' w') → w'.heap.size = w.heap.size → wpList P ops Q rest (a.put op.dst undef) w') : wpList P ops Q (op :: rest) a w := by
  refine wpList_store_mid hgd ty x y ho q o vs.toArray hx hy (fun j hj => ?_) (by simpa using hi) (all_oneCell_toArray h1) ?_
  · have hj' : j < vs.length := by simpa using hj
    obtain ⟨h2, h3⟩ := hq (o + j) (by omega)
    exact ⟨by rw [h2, List.getElem?_eq_getElem (by omega)]; rfl, h3⟩
  · refine h _ (by rw [← hl, ← hv, ← lsets_eq vs l o (by omega)]; exact Bk.sets vs o hq) (fun p m hp hb => Bk.sets_other (fun e => hp e.symm) vs o hb) (fun B a' hB hb => below_sets hB vs o hb) (size_setCells q vs o w)
/-- A struct by value out of a block, or out of the middle of one. -/
theorem load_bk {P : Program} {ops : Array Oper} {rest : List Oper} {op : Oper} {a : Act} {w : World} {Q : Exit → Act → World → Prop} (hgd : op.guard = none) (ty : TypeId) (x : Operand) (ho : op.op = .load ty x)
    (q o : Nat) (l m : List Value) (hx : a.eval x = .pointer (some ⟨q, o, none⟩)) (hq : Bk w q l) (hm : (l.drop o).take m.length = m) (d : TypeDesc) (hu : P.underlying ty = some d) (hd : d.isRow = true) (hi : (P.info? ty).map (·.size) = some m.length)
    (h : wpList P ops Q rest (a.put op.dst (.agg m.toArray)) w) : wpList P ops Q (op :: rest) a w := by
  refine wpList_load_mid hgd ty x ho q o hx m d (fun j v hv => ?_) hu hd hi h
  have hj := (List.getElem?_eq_some_iff.1 hv).1
  refine hq.cell ?_
  rw [← hm, List.getElem?_take, if_pos hj, List.getElem?_drop] at hv
  exact hv
/-- The same where a guard lets the operation be carried out. -/
theorem load_bkG {P : Program} {ops : Array Oper} {rest : List Oper} {op : Oper} {a : Act} {w : World} {Q : Exit → Act → World → Prop} (hw : Region.wanted op (yielded ops a.tmps) = true) (ty : TypeId) (x : Operand) (ho : op.op = .load ty x)
    (q o : Nat) (l m : List Value) (hx : a.eval x = .pointer (some ⟨q, o, none⟩)) (hq : Bk w q l) (hm : (l.drop o).take m.length = m) (d : TypeDesc) (hu : P.underlying ty = some d) (hd : d.isRow = true) (hi : (P.info? ty).map (·.size) = some m.length)
    (h : wpList P ops Q rest (a.put op.dst (.agg m.toArray)) w) : wpList P ops Q (op :: rest) a w := by
  unfold wpList
  rw [if_pos hw]
  refine Or.inl (wp_load_mid ty x ho q o hx m d (fun j v hv => ?_) hu hd hi h)
  have hj := (List.getElem?_eq_some_iff.1 hv).1
  refine hq.cell ?_
  rw [← hm, List.getElem?_take, if_pos hj, List.getElem?_drop] at hv
  exact hv
theorem Bk.c2 {w : World} {q : Nat} {v0 v1 : Value} (h : Bk w q [v0, v1]) :
    w.cell? ⟨q, 0, none⟩ = some v0 ∧ w.cell? ⟨q, 1, none⟩ = some v1 :=
  ⟨h.cell (i := 0) rfl, h.cell (i := 1) rfl⟩
theorem Bk.f2 {w : World} {q : Nat} {v0 v1 : Value} (h : Bk w q [v0, v1]) :
    w.frozen? ⟨q, 0, none⟩ = false ∧ w.frozen? ⟨q, 1, none⟩ = false :=
  ⟨h.frz (i := 0) (by simp), h.frz (i := 1) (by simp)⟩
theorem Bk.c6 {w : World} {q : Nat} {v0 v1 v2 v3 v4 v5 : Value} (h : Bk w q [v0, v1, v2, v3, v4, v5]) :
    w.cell? ⟨q, 0, none⟩ = some v0 ∧ w.cell? ⟨q, 1, none⟩ = some v1 ∧ w.cell? ⟨q, 2, none⟩ = some v2 ∧ w.cell? ⟨q, 3, none⟩ = some v3 ∧ w.cell? ⟨q, 4, none⟩ = some v4 ∧ w.cell? ⟨q, 5, none⟩ = some v5 :=
  ⟨h.cell (i := 0) rfl, h.cell (i := 1) rfl, h.cell (i := 2) rfl, h.cell (i := 3) rfl, h.cell (i := 4) rfl, h.cell (i := 5) rfl⟩
theorem Bk.f6 {w : World} {q : Nat} {v0 v1 v2 v3 v4 v5 : Value} (h : Bk w q [v0, v1, v2, v3, v4, v5]) :
    w.frozen? ⟨q, 0, none⟩ = false ∧ w.frozen? ⟨q, 1, none⟩ = false ∧ w.frozen? ⟨q, 2, none⟩ = false ∧ w.frozen? ⟨q, 3, none⟩ = false ∧ w.frozen? ⟨q, 4, none⟩ = false ∧ w.frozen? ⟨q, 5, none⟩ = false :=
  ⟨h.frz (i := 0) (by simp), h.frz (i := 1) (by simp), h.frz (i := 2) (by simp), h.frz (i := 3) (by simp), h.frz (i := 4) (by simp), h.frz (i := 5) (by simp)⟩
theorem Bk.c8 {w : World} {q : Nat} {v0 v1 v2 v3 v4 v5 v6 v7 : Value} (h : Bk w q [v0, v1, v2, v3, v4, v5, v6, v7]) :
    w.cell? ⟨q, 0, none⟩ = some v0 ∧ w.cell? ⟨q, 1, none⟩ = some v1 ∧ w.cell? ⟨q, 2, none⟩ = some v2 ∧ w.cell? ⟨q, 3, none⟩ = some v3 ∧ w.cell? ⟨q, 4, none⟩ = some v4 ∧ w.cell? ⟨q, 5, none⟩ = some v5 ∧ w.cell? ⟨q, 6, none⟩ = some v6 ∧ w.cell? ⟨q, 7, none⟩ = some v7 :=
  ⟨h.cell (i := 0) rfl, h.cell (i := 1) rfl, h.cell (i := 2) rfl, h.cell (i := 3) rfl, h.cell (i := 4) rfl, h.cell (i := 5) rfl, h.cell (i := 6) rfl, h.cell (i := 7) rfl⟩
theorem Bk.f8 {w : World} {q : Nat} {v0 v1 v2 v3 v4 v5 v6 v7 : Value} (h : Bk w q [v0, v1, v2, v3, v4, v5, v6, v7]) :
    w.frozen? ⟨q, 0, none⟩ = false ∧ w.frozen? ⟨q, 1, none⟩ = false ∧ w.frozen? ⟨q, 2, none⟩ = false ∧ w.frozen? ⟨q, 3, none⟩ = false ∧ w.frozen? ⟨q, 4, none⟩ = false ∧ w.frozen? ⟨q, 5, none⟩ = false ∧ w.frozen? ⟨q, 6, none⟩ = false ∧ w.frozen? ⟨q, 7, none⟩ = false :=
  ⟨h.frz (i := 0) (by simp), h.frz (i := 1) (by simp), h.frz (i := 2) (by simp), h.frz (i := 3) (by simp), h.frz (i := 4) (by simp), h.frz (i := 5) (by simp), h.frz (i := 6) (by simp), h.frz (i := 7) (by simp)⟩
theorem Bk.c17 {w : World} {q : Nat} {v0 v1 v2 v3 v4 v5 v6 v7 v8 v9 v10 v11 v12 v13 v14 v15 v16 : Value} (h : Bk w q [v0, v1, v2, v3, v4, v5, v6, v7, v8, v9, v10, v11, v12, v13, v14, v15, v16]) :
    w.cell? ⟨q, 0, none⟩ = some v0 ∧ w.cell? ⟨q, 1, none⟩ = some v1 ∧ w.cell? ⟨q, 2, none⟩ = some v2 ∧ w.cell? ⟨q, 3, none⟩ = some v3 ∧ w.cell? ⟨q, 4, none⟩ = some v4 ∧ w.cell? ⟨q, 5, none⟩ = some v5 ∧ w.cell? ⟨q, 6, none⟩ = some v6 ∧ w.cell? ⟨q, 7, none⟩ = some v7 ∧ w.cell? ⟨q, 8, none⟩ = some v8 ∧ w.cell? ⟨q, 9, none⟩ = some v9 ∧ w.cell? ⟨q, 10, none⟩ = some v10 ∧ w.cell? ⟨q, 11, none⟩ = some v11 ∧ w.cell? ⟨q, 12, none⟩ = some v12 ∧ w.cell? ⟨q, 13, none⟩ = some v13 ∧ w.cell? ⟨q, 14, none⟩ = some v14 ∧ w.cell? ⟨q, 15, none⟩ = some v15 ∧ w.cell? ⟨q, 16, none⟩ = some v16 :=
  ⟨h.cell (i := 0) rfl, h.cell (i := 1) rfl, h.cell (i := 2) rfl, h.cell (i := 3) rfl, h.cell (i := 4) rfl, h.cell (i := 5) rfl, h.cell (i := 6) rfl, h.cell (i := 7) rfl, h.cell (i := 8) rfl, h.cell (i := 9) rfl, h.cell (i := 10) rfl, h.cell (i := 11) rfl, h.cell (i := 12) rfl, h.cell (i := 13) rfl, h.cell (i := 14) rfl, h.cell (i := 15) rfl, h.cell (i := 16) rfl⟩
theorem Bk.f17 {w : World} {q : Nat} {v0 v1 v2 v3 v4 v5 v6 v7 v8 v9 v10 v11 v12 v13 v14 v15 v16 : Value} (h : Bk w q [v0, v1, v2, v3, v4, v5, v6, v7, v8, v9, v10, v11, v12, v13, v14, v15, v16]) :
    w.frozen? ⟨q, 0, none⟩ = false ∧ w.frozen? ⟨q, 1, none⟩ = false ∧ w.frozen? ⟨q, 2, none⟩ = false ∧ w.frozen? ⟨q, 3, none⟩ = false ∧ w.frozen? ⟨q, 4, none⟩ = false ∧ w.frozen? ⟨q, 5, none⟩ = false ∧ w.frozen? ⟨q, 6, none⟩ = false ∧ w.frozen? ⟨q, 7, none⟩ = false ∧ w.frozen? ⟨q, 8, none⟩ = false ∧ w.frozen? ⟨q, 9, none⟩ = false ∧ w.frozen? ⟨q, 10, none⟩ = false ∧ w.frozen? ⟨q, 11, none⟩ = false ∧ w.frozen? ⟨q, 12, none⟩ = false ∧ w.frozen? ⟨q, 13, none⟩ = false ∧ w.frozen? ⟨q, 14, none⟩ = false ∧ w.frozen? ⟨q, 15, none⟩ = false ∧ w.frozen? ⟨q, 16, none⟩ = false :=
  ⟨h.frz (i := 0) (by simp), h.frz (i := 1) (by simp), h.frz (i := 2) (by simp), h.frz (i := 3) (by simp), h.frz (i := 4) (by simp), h.frz (i := 5) (by simp), h.frz (i := 6) (by simp), h.frz (i := 7) (by simp), h.frz (i := 8) (by simp), h.frz (i := 9) (by simp), h.frz (i := 10) (by simp), h.frz (i := 11) (by simp), h.frz (i := 12) (by simp), h.frz (i := 13) (by simp), h.frz (i := 14) (by simp), h.frz (i := 15) (by simp), h.frz (i := 16) (by simp)⟩
theorem Bk.c22 {w : World} {q : Nat} {v0 v1 v2 v3 v4 v5 v6 v7 v8 v9 v10 v11 v12 v13 v14 v15 v16 v17 v18 v19 v20 v21 : Value} (h : Bk w q [v0, v1, v2, v3, v4, v5, v6, v7, v8, v9, v10, v11, v12, v13, v14, v15, v16, v17, v18, v19, v20, v21]) :
    w.cell? ⟨q, 0, none⟩ = some v0 ∧ w.cell? ⟨q, 1, none⟩ = some v1 ∧ w.cell? ⟨q, 2, none⟩ = some v2 ∧ w.cell? ⟨q, 3, none⟩ = some v3 ∧ w.cell? ⟨q, 4, none⟩ = some v4 ∧ w.cell? ⟨q, 5, none⟩ = some v5 ∧ w.cell? ⟨q, 6, none⟩ = some v6 ∧ w.cell? ⟨q, 7, none⟩ = some v7 ∧ w.cell? ⟨q, 8, none⟩ = some v8 ∧ w.cell? ⟨q, 9, none⟩ = some v9 ∧ w.cell? ⟨q, 10, none⟩ = some v10 ∧ w.cell? ⟨q, 11, none⟩ = some v11 ∧ w.cell? ⟨q, 12, none⟩ = some v12 ∧ w.cell? ⟨q, 13, none⟩ = some v13 ∧ w.cell? ⟨q, 14, none⟩ = some v14 ∧ w.cell? ⟨q, 15, none⟩ = some v15 ∧ w.cell? ⟨q, 16, none⟩ = some v16 ∧ w.cell? ⟨q, 17, none⟩ = some v17 ∧ w.cell? ⟨q, 18, none⟩ = some v18 ∧ w.cell? ⟨q, 19, none⟩ = some v19 ∧ w.cell? ⟨q, 20, none⟩ = some v20 ∧ w.cell? ⟨q, 21, none⟩ = some v21 :=
  ⟨h.cell (i := 0) rfl, h.cell (i := 1) rfl, h.cell (i := 2) rfl, h.cell (i := 3) rfl, h.cell (i := 4) rfl, h.cell (i := 5) rfl, h.cell (i := 6) rfl, h.cell (i := 7) rfl, h.cell (i := 8) rfl, h.cell (i := 9) rfl, h.cell (i := 10) rfl, h.cell (i := 11) rfl, h.cell (i := 12) rfl, h.cell (i := 13) rfl, h.cell (i := 14) rfl, h.cell (i := 15) rfl, h.cell (i := 16) rfl, h.cell (i := 17) rfl, h.cell (i := 18) rfl, h.cell (i := 19) rfl, h.cell (i := 20) rfl, h.cell (i := 21) rfl⟩
theorem Bk.f22 {w : World} {q : Nat} {v0 v1 v2 v3 v4 v5 v6 v7 v8 v9 v10 v11 v12 v13 v14 v15 v16 v17 v18 v19 v20 v21 : Value} (h : Bk w q [v0, v1, v2, v3, v4, v5, v6, v7, v8, v9, v10, v11, v12, v13, v14, v15, v16, v17, v18, v19, v20, v21]) :
    w.frozen? ⟨q, 0, none⟩ = false ∧ w.frozen? ⟨q, 1, none⟩ = false ∧ w.frozen? ⟨q, 2, none⟩ = false ∧ w.frozen? ⟨q, 3, none⟩ = false ∧ w.frozen? ⟨q, 4, none⟩ = false ∧ w.frozen? ⟨q, 5, none⟩ = false ∧ w.frozen? ⟨q, 6, none⟩ = false ∧ w.frozen? ⟨q, 7, none⟩ = false ∧ w.frozen? ⟨q, 8, none⟩ = false ∧ w.frozen? ⟨q, 9, none⟩ = false ∧ w.frozen? ⟨q, 10, none⟩ = false ∧ w.frozen? ⟨q, 11, none⟩ = false ∧ w.frozen? ⟨q, 12, none⟩ = false ∧ w.frozen? ⟨q, 13, none⟩ = false ∧ w.frozen? ⟨q, 14, none⟩ = false ∧ w.frozen? ⟨q, 15, none⟩ = false ∧ w.frozen? ⟨q, 16, none⟩ = false ∧ w.frozen? ⟨q, 17, none⟩ = false ∧ w.frozen? ⟨q, 18, none⟩ = false ∧ w.frozen? ⟨q, 19, none⟩ = false ∧ w.frozen? ⟨q, 20, none⟩ = false ∧ w.frozen? ⟨q, 21, none⟩ = false :=
  ⟨h.frz (i := 0) (by simp), h.frz (i := 1) (by simp), h.frz (i := 2) (by simp), h.frz (i := 3) (by simp), h.frz (i := 4) (by simp), h.frz (i := 5) (by simp), h.frz (i := 6) (by simp), h.frz (i := 7) (by simp), h.frz (i := 8) (by simp), h.frz (i := 9) (by simp), h.frz (i := 10) (by simp), h.frz (i := 11) (by simp), h.frz (i := 12) (by simp), h.frz (i := 13) (by simp), h.frz (i := 14) (by simp), h.frz (i := 15) (by simp), h.frz (i := 16) (by simp), h.frz (i := 17) (by simp), h.frz (i := 18) (by simp), h.frz (i := 19) (by simp), h.frz (i := 20) (by simp), h.frz (i := 21) (by simp)⟩

/-- A task: its number, description, period, the one of its next job, when that begins, which it is, its job, its outcomes, and whether it is kept to. -/
structure Tk where
  id : Int
  s : Sp
  p : Int
  x : Int
  a : Int
  n : Int
  j : Jb
  hn : Int
  hb : Int
  k : Bool
def Tk.row (t : Tk) : List Value := [.int .i64 t.id, .int .i64 t.s.c, .int .i64 t.s.t, .int .i64 t.s.x, .int .i64 t.s.m, .int .i64 t.s.k, .int .i64 t.s.e, .int .i64 t.p, .int .i64 t.x, .int .i64 t.a, .int .i64 t.n, .bool t.j.on, .int .i64 t.j.n, .int .i64 t.j.rel, .int .i64 t.j.due, .bool t.j.md, .int .i64 t.j.c, .int .i64 t.j.d, .int .i64 t.j.ran, .int .i64 t.hn, .int .u64 t.hb, .bool t.k]
def tkV (t : Tk) : Value := .agg #[.int .i64 t.id, .int .i64 t.s.c, .int .i64 t.s.t, .int .i64 t.s.x, .int .i64 t.s.m, .int .i64 t.s.k, .int .i64 t.s.e, .int .i64 t.p, .int .i64 t.x, .int .i64 t.a, .int .i64 t.n, .bool t.j.on, .int .i64 t.j.n, .int .i64 t.j.rel, .int .i64 t.j.due, .bool t.j.md, .int .i64 t.j.c, .int .i64 t.j.d, .int .i64 t.j.ran, .int .i64 t.hn, .int .u64 t.hb, .bool t.k]
def lvV (s : Sp) (j : Jb) (p a n : Int) : Value := .agg #[.int .i64 s.c, .int .i64 s.t, .int .i64 s.x, .int .i64 s.m, .int .i64 s.k, .int .i64 s.e, .bool j.on, .int .i64 j.n, .int .i64 j.rel, .int .i64 j.due, .bool j.md, .int .i64 j.c, .int .i64 j.d, .int .i64 j.ran, .int .i64 p, .int .i64 a, .int .i64 n]
/-- Is a job the one just ahead of the next one? -/
def ldB (j : Jb) (a n now : Int) : Bool := decide (j.rel < now) && (decide (j.due = a) && decide (n = j.n + 1))
def mvB (s : Sp) (j : Jb) (p a n now : Int) : Bool := maySp s && (wiB p s.t s.x && (wiB a now (now + 48) && (wiB n 0 549755813888 && (jmB s j && (!j.on || ldB j a n now)))))
/-- May one task be, as it is, at a time? -/
def lmB (s : Sp) (j : Jb) (p a n now : Int) : Bool := wiB now 0 549755813888 && mvB s j p a n now
def ovI (o : Bool) (n : Int) : Int := bif o then n - 1 else n
def reB (o : Bool) (n hn hb : Int) : Bool := mayR hn hb && decide (hn = min (ovI o n) 60)
def tmB (t : Tk) (now : Int) : Bool := wiB t.id 0 549755813888 && (wiB t.p 1 48 && (lmB t.s t.j t.x t.a t.n now && reB t.j.on t.n t.hn t.hb))
end Go.Proofs.Ythbppojglhimnaa
