/- Texts that belong together, one behind the other: Z1, Z6, AA2. -/
import Derived.Test.YteklcolphbcjlaaQ7
import Derived.Test.YteklcolphbcjlaaQ1
import Derived.Deep.RegionWith
import Derived.Deep.MidRow
import Derived.Deep.Cut
import Derived.Laws.ResultCell
import Derived.Test.YteklcolphbcjlaaQ3
/- Boxes of any kind of struct, as lists of cells; tasks, in numbers: plain. -/
namespace Go.Proofs.Yteklcolphbcjlaa
open Go.RowKit

/-- What lies in a block, and may be written. -/
def Bk (w : World) (q : Nat) (l : List Value) : Prop := ∀ i, i < l.length → w.cell? ⟨q, i, none⟩ = l[i]? ∧ w.frozen? ⟨q, i, none⟩ = false
theorem Bk.new (w : World) (l : List Value) (t : TypeId) : Bk (w.alloc (.cells l.toArray t)) w.heap.size l := fun i hi => ⟨by simp, by simp⟩
theorem Bk.cell {w : World} {q i : Nat} {l : List Value} {v : Value} (h : Bk w q l) (hv : l[i]? = some v) : w.cell? ⟨q, i, none⟩ = some v := by
  rw [(h i (List.getElem?_eq_some_iff.1 hv).1).1, hv]
theorem Bk.frz {w : World} {q i : Nat} {l : List Value} (h : Bk w q l) (hi : i < l.length) : w.frozen? ⟨q, i, none⟩ = false := (h i hi).2
theorem Bk.later {w w' : World} {q : Nat} {l : List Value} (h : Bk w q l) (hb : Below w.heap.size w w') : Bk w' q l := by
  intro i hi
  obtain ⟨h1, h2⟩ := h i hi
  have hu : l[i]? = some l[i] := List.getElem?_eq_getElem hi
  rw [hu] at h1
  exact ⟨by rw [hu]; exact cell_later hb h1, (hb.frozen (p := ⟨q, i, none⟩) (World.block_lt_of_cell? _ _ h1)).trans h2⟩
theorem Bk.set {w : World} {q : Nat} {l : List Value} (h : Bk w q l) (t : Nat) (v : Value) : Bk (w.setCell ⟨q, t, none⟩ v) q (l.set t v) := by
  intro i hi
  rw [List.length_set] at hi
  obtain ⟨h1, h2⟩ := h i hi
  refine ⟨?_, by simpa using h2⟩
  by_cases e : i = t
  · subst e
    rw [List.getElem?_set_self hi]
    exact World.cell?_setCell_same _ _ _ (h1.trans (List.getElem?_eq_getElem hi))
  · rw [World.cell?_setCell_other _ _ _ _ (by intro he; exact e (Addr.mk.injEq .. ▸ he).2.1.symm), List.getElem?_set_ne (fun h => e h.symm)]; exact h1
theorem Bk.other {w : World} {q k i : Nat} {l : List Value} (h : Bk w q l) (hc : k ≠ q) (v : Value) : Bk (w.setCell ⟨k, i, none⟩ v) q l := by
  intro t ht
  obtain ⟨h1, h2⟩ := h t ht
  exact ⟨by rw [World.cell?_setCell_other _ _ _ _ (fun h => hc (congrArg Addr.block h))]; exact h1, by simpa using h2⟩
def lsets (l : List Value) : Nat → List Value → List Value
  | _, [] => l
  | k, v :: vs => lsets (l.set k v) (k + 1) vs
theorem Bk.sets {q : Nat} : ∀ (vs : List Value) {w : World} {l : List Value} (k : Nat), Bk w q l → Bk (w.setCells q k vs) q (lsets l k vs)
  | [], _, _, _, h => h
  | _ :: vs, _, _, k, h => Bk.sets vs (k + 1) (h.set k _)
theorem Bk.sets_other {p q : Nat} (hc : p ≠ q) : ∀ (vs : List Value) {w : World} {l : List Value} (k : Nat), Bk w q l → Bk (w.setCells p k vs) q l
  | [], _, _, _, h => h
  | _ :: vs, _, _, k, h => Bk.sets_other hc vs (k + 1) (h.other hc _)
theorem below_sets {B q : Nat} {a : World} (hq : B ≤ q) : ∀ (vs : List Value) {w : World} (k : Nat), Below B a w → Below B a (w.setCells q k vs)
  | [], _, _, h => h
  | _ :: vs, _, k, h => below_sets hq vs (k + 1) (h.setCell (p := ⟨q, k, none⟩) hq _)
theorem Bk.lt {w : World} {q : Nat} {v : Value} {l : List Value} (h : Bk w q (v :: l)) : q < w.heap.size := World.block_lt_of_cell? _ _ (h.cell (i := 0) rfl)
theorem size_setCells (q : Nat) : ∀ (vs : List Value) (k : Nat) (w : World), (w.setCells q k vs).heap.size = w.heap.size
  | [], _, _ => rfl
  | _ :: vs, k, w => (size_setCells q vs (k + 1) _).trans (by simp)
theorem lsets_eq : ∀ (vs l : List Value) (k : Nat), k + vs.length ≤ l.length → lsets l k vs = l.take k ++ vs ++ l.drop (k + vs.length)
  | [], l, k, _ => by simp [lsets]
  | v :: vs, l, k, h => by
    have h' : k + (vs.length + 1) ≤ l.length := by simpa using h
    rw [lsets, lsets_eq vs (l.set k v) (k + 1) (by rw [List.length_set]; omega), List.take_set, List.drop_set, if_pos (by omega)]
    rw [List.take_add_one, List.getElem?_eq_getElem (by omega : k < l.length)]
    have e : k + 1 + vs.length = k + (v :: vs).length := by simp; omega
    rw [e]
    have e2 : (l.take k ++ (some l[k]).toList).set k v = l.take k ++ [v] := by
      rw [List.set_append, if_neg (by rw [List.length_take]; omega)]
      have : k - (l.take k).length = 0 := by rw [List.length_take]; omega
      rw [this]; rfl
    rw [e2]
    simp
/-- A struct by value into a block, or into the middle of one: the world behind it is told by what lies there. -/
theorem store_bk {P : Program} {ops : Array Oper} {rest : List Oper} {op : Oper} {a : Act} {w : World} {Q : Exit → Act → World → Prop} (hgd : op.guard = none) (ty : TypeId) (x y : Operand) (ho : op.op = .store ty x y)
    (q o : Nat) (l vs l' : List Value) (hx : a.eval x = .pointer (some ⟨q, o, none⟩)) (hy : a.eval y = .agg vs.toArray) (n : Nat) (hv : vs.length = n) (hq : Bk w q l) (hn : o + n ≤ l.length) (hl : l.take o ++ vs ++ l.drop (o + n) = l')
    (hi : (P.info? ty).map (·.size) = some vs.length) (h1 : ∀ v ∈ vs, v.oneCell' = true)
    (h : ∀ w', Bk w' q l' → (∀ p m, p ≠ q → Bk w p m → Bk w' p m) → (∀ B a', B ≤ q → Below B a' w → Below B a' w') → w'.heap.size = w.heap.size → wpList P ops Q rest (a.put op.dst undef) w') : wpList P ops Q (op :: rest) a w := by
  refine wpList_store_mid hgd ty x y ho q o vs.toArray hx hy (fun j hj => ?_) (by simpa using hi) (all_oneCell_toArray h1) ?_
  · have hj' : j < vs.length := by simpa using hj
    obtain ⟨h2, h3⟩ := hq (o + j) (by omega)
    exact ⟨by rw [h2, List.getElem?_eq_getElem (by omega)]; rfl, h3⟩
  · refine h _ (by rw [← hl, ← hv, ← lsets_eq vs l o (by omega)]; exact Bk.sets vs o hq) (fun p m hp hb => Bk.sets_other (fun e => hp e.symm) vs o hb) (fun B a' hB hb => below_sets hB vs o hb) (size_setCells q vs o w)
/-- A struct by value out of a block, or out of the middle of one. -/
theorem load_bk {P : Program} {ops : Array Oper} {rest : List Oper} {op : Oper} {a : Act} {w : World} {Q : Exit → Act → World → Prop} (hgd : op.guard = none) (ty : TypeId) (x : Operand) (ho : op.op = .load ty x)
    (q o : Nat) (l m : List Value) (hx : a.eval x = .pointer (some ⟨q, o, none⟩)) (hq : Bk w q l) (hm : (l.drop o).take m.length = m) (d : TypeDesc) (hu : P.underlying ty = some d) (hd : d.isRow = true) (hi : (P.info? ty).map (·.size) = some m.length)
    (h : wpList P ops Q rest (a.put op.dst (.agg m.toArray)) w) : wpList P ops Q (op :: rest) a w := by
  refine wpList_load_mid hgd ty x ho q o hx m d (fun j v hv => ?_) hu hd hi h
  have hj := (List.getElem?_eq_some_iff.1 hv).1
  refine hq.cell ?_
  rw [← hm, List.getElem?_take, if_pos hj, List.getElem?_drop] at hv
  exact hv
/-- The same where a guard lets the operation be carried out. -/
theorem load_bkG {P : Program} {ops : Array Oper} {rest : List Oper} {op : Oper} {a : Act} {w : World} {Q : Exit → Act → World → Prop} (hw : Region.wanted op (yielded ops a.tmps) = true) (ty : TypeId) (x : Operand) (ho : op.op = .load ty x)
    (q o : Nat) (l m : List Value) (hx : a.eval x = .pointer (some ⟨q, o, none⟩)) (hq : Bk w q l) (hm : (l.drop o).take m.length = m) (d : TypeDesc) (hu : P.underlying ty = some d) (hd : d.isRow = true) (hi : (P.info? ty).map (·.size) = some m.length)
    (h : wpList P ops Q rest (a.put op.dst (.agg m.toArray)) w) : wpList P ops Q (op :: rest) a w := by
  unfold wpList
  rw [if_pos hw]
  refine Or.inl (wp_load_mid ty x ho q o hx m d (fun j v hv => ?_) hu hd hi h)
  have hj := (List.getElem?_eq_some_iff.1 hv).1
  refine hq.cell ?_
  rw [← hm, List.getElem?_take, if_pos hj, List.getElem?_drop] at hv
  exact hv
theorem Bk.c2 {w : World} {q : Nat} {v0 v1 : Value} (h : Bk w q [v0, v1]) :
    w.cell? ⟨q, 0, none⟩ = some v0 ∧ w.cell? ⟨q, 1, none⟩ = some v1 :=
  ⟨h.cell (i := 0) rfl, h.cell (i := 1) rfl⟩
theorem Bk.f2 {w : World} {q : Nat} {v0 v1 : Value} (h : Bk w q [v0, v1]) :
    w.frozen? ⟨q, 0, none⟩ = false ∧ w.frozen? ⟨q, 1, none⟩ = false :=
  ⟨h.frz (i := 0) (by simp), h.frz (i := 1) (by simp)⟩
theorem Bk.c6 {w : World} {q : Nat} {v0 v1 v2 v3 v4 v5 : Value} (h : Bk w q [v0, v1, v2, v3, v4, v5]) :
    w.cell? ⟨q, 0, none⟩ = some v0 ∧ w.cell? ⟨q, 1, none⟩ = some v1 ∧ w.cell? ⟨q, 2, none⟩ = some v2 ∧ w.cell? ⟨q, 3, none⟩ = some v3 ∧ w.cell? ⟨q, 4, none⟩ = some v4 ∧ w.cell? ⟨q, 5, none⟩ = some v5 :=
  ⟨h.cell (i := 0) rfl, h.cell (i := 1) rfl, h.cell (i := 2) rfl, h.cell (i := 3) rfl, h.cell (i := 4) rfl, h.cell (i := 5) rfl⟩
theorem Bk.f6 {w : World} {q : Nat} {v0 v1 v2 v3 v4 v5 : Value} (h : Bk w q [v0, v1, v2, v3, v4, v5]) :
    w.frozen? ⟨q, 0, none⟩ = false ∧ w.frozen? ⟨q, 1, none⟩ = false ∧ w.frozen? ⟨q, 2, none⟩ = false ∧ w.frozen? ⟨q, 3, none⟩ = false ∧ w.frozen? ⟨q, 4, none⟩ = false ∧ w.frozen? ⟨q, 5, none⟩ = false :=
  ⟨h.frz (i := 0) (by simp), h.frz (i := 1) (by simp), h.frz (i := 2) (by simp), h.frz (i := 3) (by simp), h.frz (i := 4) (by simp), h.frz (i := 5) (by simp)⟩
theorem Bk.c8 {w : World} {q : Nat} {v0 v1 v2 v3 v4 v5 v6 v7 : Value} (h : Bk w q [v0, v1, v2, v3, v4, v5, v6, v7]) :
    w.cell? ⟨q, 0, none⟩ = some v0 ∧ w.cell? ⟨q, 1, none⟩ = some v1 ∧ w.cell? ⟨q, 2, none⟩ = some v2 ∧ w.cell? ⟨q, 3, none⟩ = some v3 ∧ w.cell? ⟨q, 4, none⟩ = some v4 ∧ w.cell? ⟨q, 5, none⟩ = some v5 ∧ w.cell? ⟨q, 6, none⟩ = some v6 ∧ w.cell? ⟨q, 7, none⟩ = some v7 :=
  ⟨h.cell (i := 0) rfl, h.cell (i := 1) rfl, h.cell (i := 2) rfl, h.cell (i := 3) rfl, h.cell (i := 4) rfl, h.cell (i := 5) rfl, h.cell (i := 6) rfl, h.cell (i := 7) rfl⟩
theorem Bk.f8 {w : World} {q : Nat} {v0 v1 v2 v3 v4 v5 v6 v7 : Value} (h : Bk w q [v0, v1, v2, v3, v4, v5, v6, v7]) :
    w.frozen? ⟨q, 0, none⟩ = false ∧ w.frozen? ⟨q, 1, none⟩ = false ∧ w.frozen? ⟨q, 2, none⟩ = false ∧ w.frozen? ⟨q, 3, none⟩ = false ∧ w.frozen? ⟨q, 4, none⟩ = false ∧ w.frozen? ⟨q, 5, none⟩ = false ∧ w.frozen? ⟨q, 6, none⟩ = false ∧ w.frozen? ⟨q, 7, none⟩ = false :=
  ⟨h.frz (i := 0) (by simp), h.frz (i := 1) (by simp), h.frz (i := 2) (by simp), h.frz (i := 3) (by simp), h.frz (i := 4) (by simp), h.frz (i := 5) (by simp), h.frz (i := 6) (by simp), h.frz (i := 7) (by simp)⟩
theorem Bk.c17 {w : World} {q : Nat} {v0 v1 v2 v3 v4 v5 v6 v7 v8 v9 v10 v11 v12 v13 v14 v15 v16 : Value} (h : Bk w q [v0, v1, v2, v3, v4, v5, v6, v7, v8, v9, v10, v11, v12, v13, v14, v15, v16]) :
    w.cell? ⟨q, 0, none⟩ = some v0 ∧ w.cell? ⟨q, 1, none⟩ = some v1 ∧ w.cell? ⟨q, 2, none⟩ = some v2 ∧ w.cell? ⟨q, 3, none⟩ = some v3 ∧ w.cell? ⟨q, 4, none⟩ = some v4 ∧ w.cell? ⟨q, 5, none⟩ = some v5 ∧ w.cell? ⟨q, 6, none⟩ = some v6 ∧ w.cell? ⟨q, 7, none⟩ = some v7 ∧ w.cell? ⟨q, 8, none⟩ = some v8 ∧ w.cell? ⟨q, 9, none⟩ = some v9 ∧ w.cell? ⟨q, 10, none⟩ = some v10 ∧ w.cell? ⟨q, 11, none⟩ = some v11 ∧ w.cell? ⟨q, 12, none⟩ = some v12 ∧ w.cell? ⟨q, 13, none⟩ = some v13 ∧ w.cell? ⟨q, 14, none⟩ = some v14 ∧ w.cell? ⟨q, 15, none⟩ = some v15 ∧ w.cell? ⟨q, 16, none⟩ = some v16 :=
  ⟨h.cell (i := 0) rfl, h.cell (i := 1) rfl, h.cell (i := 2) rfl, h.cell (i := 3) rfl, h.cell (i := 4) rfl, h.cell (i := 5) rfl, h.cell (i := 6) rfl, h.cell (i := 7) rfl, h.cell (i := 8) rfl, h.cell (i := 9) rfl, h.cell (i := 10) rfl, h.cell (i := 11) rfl, h.cell (i := 12) rfl, h.cell (i := 13) rfl, h.cell (i := 14) rfl, h.cell (i := 15) rfl, h.cell (i := 16) rfl⟩
theorem Bk.f17 {w : World} {q : Nat} {v0 v1 v2 v3 v4 v5 v6 v7 v8 v9 v10 v11 v12 v13 v14 v15 v16 : Value} (h : Bk w q [v0, v1, v2, v3, v4, v5, v6, v7, v8, v9, v10, v11, v12, v13, v14, v15, v16]) :
    w.frozen? ⟨q, 0, none⟩ = false ∧ w.frozen? ⟨q, 1, none⟩ = false ∧ w.frozen? ⟨q, 2, none⟩ = false ∧ w.frozen? ⟨q, 3, none⟩ = false ∧ w.frozen? ⟨q, 4, none⟩ = false ∧ w.frozen? ⟨q, 5, none⟩ = false ∧ w.frozen? ⟨q, 6, none⟩ = false ∧ w.frozen? ⟨q, 7, none⟩ = false ∧ w.frozen? ⟨q, 8, none⟩ = false ∧ w.frozen? ⟨q, 9, none⟩ = false ∧ w.frozen? ⟨q, 10, none⟩ = false ∧ w.frozen? ⟨q, 11, none⟩ = false ∧ w.frozen? ⟨q, 12, none⟩ = false ∧ w.frozen? ⟨q, 13, none⟩ = false ∧ w.frozen? ⟨q, 14, none⟩ = false ∧ w.frozen? ⟨q, 15, none⟩ = false ∧ w.frozen? ⟨q, 16, none⟩ = false :=
  ⟨h.frz (i := 0) (by simp), h.frz (i := 1) (by simp), h.frz (i := 2) (by simp), h.frz (i := 3) (by simp), h.frz (i := 4) (by simp), h.frz (i := 5) (by simp), h.frz (i := 6) (by simp), h.frz (i := 7) (by simp), h.frz (i := 8) (by simp), h.frz (i := 9) (by simp), h.frz (i := 10) (by simp), h.frz (i := 11) (by simp), h.frz (i := 12) (by simp), h.frz (i := 13) (by simp), h.frz (i := 14) (by simp), h.frz (i := 15) (by simp), h.frz (i := 16) (by simp)⟩
theorem Bk.c22 {w : World} {q : Nat} {v0 v1 v2 v3 v4 v5 v6 v7 v8 v9 v10 v11 v12 v13 v14 v15 v16 v17 v18 v19 v20 v21 : Value} (h : Bk w q [v0, v1, v2, v3, v4, v5, v6, v7, v8, v9, v10, v11, v12, v13, v14, v15, v16, v17, v18, v19, v20, v21]) :
    w.cell? ⟨q, 0, none⟩ = some v0 ∧ w.cell? ⟨q, 1, none⟩ = some v1 ∧ w.cell? ⟨q, 2, none⟩ = some v2 ∧ w.cell? ⟨q, 3, none⟩ = some v3 ∧ w.cell? ⟨q, 4, none⟩ = some v4 ∧ w.cell? ⟨q, 5, none⟩ = some v5 ∧ w.cell? ⟨q, 6, none⟩ = some v6 ∧ w.cell? ⟨q, 7, none⟩ = some v7 ∧ w.cell? ⟨q, 8, none⟩ = some v8 ∧ w.cell? ⟨q, 9, none⟩ = some v9 ∧ w.cell? ⟨q, 10, none⟩ = some v10 ∧ w.cell? ⟨q, 11, none⟩ = some v11 ∧ w.cell? ⟨q, 12, none⟩ = some v12 ∧ w.cell? ⟨q, 13, none⟩ = some v13 ∧ w.cell? ⟨q, 14, none⟩ = some v14 ∧ w.cell? ⟨q, 15, none⟩ = some v15 ∧ w.cell? ⟨q, 16, none⟩ = some v16 ∧ w.cell? ⟨q, 17, none⟩ = some v17 ∧ w.cell? ⟨q, 18, none⟩ = some v18 ∧ w.cell? ⟨q, 19, none⟩ = some v19 ∧ w.cell? ⟨q, 20, none⟩ = some v20 ∧ w.cell? ⟨q, 21, none⟩ = some v21 :=
  ⟨h.cell (i := 0) rfl, h.cell (i := 1) rfl, h.cell (i := 2) rfl, h.cell (i := 3) rfl, h.cell (i := 4) rfl, h.cell (i := 5) rfl, h.cell (i := 6) rfl, h.cell (i := 7) rfl, h.cell (i := 8) rfl, h.cell (i := 9) rfl, h.cell (i := 10) rfl, h.cell (i := 11) rfl, h.cell (i := 12) rfl, h.cell (i := 13) rfl, h.cell (i := 14) rfl, h.cell (i := 15) rfl, h.cell (i := 16) rfl, h.cell (i := 17) rfl, h.cell (i := 18) rfl, h.cell (i := 19) rfl, h.cell (i := 20) rfl, h.cell (i := 21) rfl⟩
theorem Bk.f22 {w : World} {q : Nat} {v0 v1 v2 v3 v4 v5 v6 v7 v8 v9 v10 v11 v12 v13 v14 v15 v16 v17 v18 v19 v20 v21 : Value} (h : Bk w q [v0, v1, v2, v3, v4, v5, v6, v7, v8, v9, v10, v11, v12, v13, v14, v15, v16, v17, v18, v19, v20, v21]) :
    w.frozen? ⟨q, 0, none⟩ = false ∧ w.frozen? ⟨q, 1, none⟩ = false ∧ w.frozen? ⟨q, 2, none⟩ = false ∧ w.frozen? ⟨q, 3, none⟩ = false ∧ w.frozen? ⟨q, 4, none⟩ = false ∧ w.frozen? ⟨q, 5, none⟩ = false ∧ w.frozen? ⟨q, 6, none⟩ = false ∧ w.frozen? ⟨q, 7, none⟩ = false ∧ w.frozen? ⟨q, 8, none⟩ = false ∧ w.frozen? ⟨q, 9, none⟩ = false ∧ w.frozen? ⟨q, 10, none⟩ = false ∧ w.frozen? ⟨q, 11, none⟩ = false ∧ w.frozen? ⟨q, 12, none⟩ = false ∧ w.frozen? ⟨q, 13, none⟩ = false ∧ w.frozen? ⟨q, 14, none⟩ = false ∧ w.frozen? ⟨q, 15, none⟩ = false ∧ w.frozen? ⟨q, 16, none⟩ = false ∧ w.frozen? ⟨q, 17, none⟩ = false ∧ w.frozen? ⟨q, 18, none⟩ = false ∧ w.frozen? ⟨q, 19, none⟩ = false ∧ w.frozen? ⟨q, 20, none⟩ = false ∧ w.frozen? ⟨q, 21, none⟩ = false :=
  ⟨h.frz (i := 0) (by simp), h.frz (i := 1) (by simp), h.frz (i := 2) (by simp), h.frz (i := 3) (by simp), h.frz (i := 4) (by simp), h.frz (i := 5) (by simp), h.frz (i := 6) (by simp), h.frz (i := 7) (by simp), h.frz (i := 8) (by simp), h.frz (i := 9) (by simp), h.frz (i := 10) (by simp), h.frz (i := 11) (by simp), h.frz (i := 12) (by simp), h.frz (i := 13) (by simp), h.frz (i := 14) (by simp), h.frz (i := 15) (by simp), h.frz (i := 16) (by simp), h.frz (i := 17) (by simp), h.frz (i := 18) (by simp), h.frz (i := 19) (by simp), h.frz (i := 20) (by simp), h.frz (i := 21) (by simp)⟩

/-- A task: its number, description, period, the one of its next job, when that begins, which it is, its job, its outcomes, and whether it is kept to. -/
structure Tk where
  id : Int
  s : Sp
  p : Int
  x : Int
  a : Int
  n : Int
  j : Jb
  hn : Int
  hb : Int
  k : Bool
def Tk.row (t : Tk) : List Value := [.int .i64 t.id, .int .i64 t.s.c, .int .i64 t.s.t, .int .i64 t.s.x, .int .i64 t.s.m, .int .i64 t.s.k, .int .i64 t.s.e, .int .i64 t.p, .int .i64 t.x, .int .i64 t.a, .int .i64 t.n, .bool t.j.on, .int .i64 t.j.n, .int .i64 t.j.rel, .int .i64 t.j.due, .bool t.j.md, .int .i64 t.j.c, .int .i64 t.j.d, .int .i64 t.j.ran, .int .i64 t.hn, .int .u64 t.hb, .bool t.k]
def tkV (t : Tk) : Value := .agg #[.int .i64 t.id, .int .i64 t.s.c, .int .i64 t.s.t, .int .i64 t.s.x, .int .i64 t.s.m, .int .i64 t.s.k, .int .i64 t.s.e, .int .i64 t.p, .int .i64 t.x, .int .i64 t.a, .int .i64 t.n, .bool t.j.on, .int .i64 t.j.n, .int .i64 t.j.rel, .int .i64 t.j.due, .bool t.j.md, .int .i64 t.j.c, .int .i64 t.j.d, .int .i64 t.j.ran, .int .i64 t.hn, .int .u64 t.hb, .bool t.k]
def lvV (s : Sp) (j : Jb) (p a n : Int) : Value := .agg #[.int .i64 s.c, .int .i64 s.t, .int .i64 s.x, .int .i64 s.m, .int .i64 s.k, .int .i64 s.e, .bool j.on, .int .i64 j.n, .int .i64 j.rel, .int .i64 j.due, .bool j.md, .int .i64 j.c, .int .i64 j.d, .int .i64 j.ran, .int .i64 p, .int .i64 a, .int .i64 n]
/-- Is a job the one just ahead of the next one? -/
def ldB (j : Jb) (a n now : Int) : Bool := decide (j.rel < now) && (decide (j.due = a) && decide (n = j.n + 1))
def mvB (s : Sp) (j : Jb) (p a n now : Int) : Bool := maySp s && (wiB p s.t s.x && (wiB a now (now + 48) && (wiB n 0 549755813888 && (jmB s j && (!j.on || ldB j a n now)))))
/-- May one task be, as it is, at a time? -/
def lmB (s : Sp) (j : Jb) (p a n now : Int) : Bool := wiB now 0 549755813888 && mvB s j p a n now
def ovI (o : Bool) (n : Int) : Int := bif o then n - 1 else n
def reB (o : Bool) (n hn hb : Int) : Bool := mayR hn hb && decide (hn = min (ovI o n) 60)
def tmB (t : Tk) (now : Int) : Bool := wiB t.id 0 549755813888 && (wiB t.p 1 48 && (lmB t.s t.j t.x t.a t.n now && reB t.j.on t.n t.hn t.hb))
end Go.Proofs.Yteklcolphbcjlaa
/- Walks of package task: sameJobs, Turn. -/
namespace Go.Proofs.Yteklcolphbcjlaa
open Go.RowKit

theorem run_loadVar_bk {P : Program} {w : World} {q : Nat} {l : List Value} (ty : TypeId) (d : TypeDesc) (hq : Bk w q l) (hu : P.underlying ty = some d) (hd : d.isRow = true) (hi : (P.info? ty).map (·.size) = some l.length) :
    (loadVar ty ⟨q, 0, none⟩).run P w = .ok (.agg l.toArray) w := run_loadVar_mid w q 0 ty l d (fun j v hv => by rw [Nat.zero_add]; exact hq.cell hv) hu hd hi
/-- A result that lies in a block, beside one in a slot. -/
theorem ret_ct {P : Program} {fn : Func} {R : Ending → World → Prop} {a : Act} {w : World} {p t : Tmp} {ty : TypeId} (h : fn.results = #[.cell p ty, .tmp t]) (q : Nat) (l : List Value) (u : Value) (hp : a.tmps.getD p undef = .pointer (some ⟨q, 0, none⟩)) (hq : Bk w q l) (d : TypeDesc) (hu : P.underlying ty = some d) (hd : d.isRow = true) (hi : (P.info? ty).map (·.size) = some l.length)
    (hv : a.tmps.getD t undef = u) (hdf : a.defers = []) (hR : R (.returned (.tuple #[.agg l.toArray, u])) w) : bodyPost P fn R .ret a w := by
  refine bodyPost_ret (v := .tuple #[.agg l.toArray, u]) ?_ hdf hR
  rw [results_cell_tmp h, hp, hv]
  simp [asAddr, run_loadVar_bk ty d hq hu hd hi]
theorem below_b1 (w : World) (p : Obj) : Below w.heap.size w (w.alloc p) := (Below.refl _ _).alloc (Nat.le_refl _) _
theorem below_b2 (w : World) (p q : Obj) : Below w.heap.size w ((w.alloc p).alloc q) := (below_b1 w p).alloc (by simp) _
end Go.Proofs.Yteklcolphbcjlaa
/- What is asked, as cells; the document's own small, Same. -/
namespace Go.Proofs.Yteklcolphbcjlaa
open Go.RowKit

theorem Bk.c14 {w : World} {q : Nat} {v0 v1 v2 v3 v4 v5 v6 v7 v8 v9 v10 v11 v12 v13 : Value} (h : Bk w q [v0, v1, v2, v3, v4, v5, v6, v7, v8, v9, v10, v11, v12, v13]) :
    w.cell? ⟨q, 0, none⟩ = some v0 ∧ w.cell? ⟨q, 1, none⟩ = some v1 ∧ w.cell? ⟨q, 2, none⟩ = some v2 ∧ w.cell? ⟨q, 3, none⟩ = some v3 ∧ w.cell? ⟨q, 4, none⟩ = some v4 ∧ w.cell? ⟨q, 5, none⟩ = some v5 ∧ w.cell? ⟨q, 6, none⟩ = some v6 ∧ w.cell? ⟨q, 7, none⟩ = some v7 ∧ w.cell? ⟨q, 8, none⟩ = some v8 ∧ w.cell? ⟨q, 9, none⟩ = some v9 ∧ w.cell? ⟨q, 10, none⟩ = some v10 ∧ w.cell? ⟨q, 11, none⟩ = some v11 ∧ w.cell? ⟨q, 12, none⟩ = some v12 ∧ w.cell? ⟨q, 13, none⟩ = some v13 :=
  ⟨h.cell (i := 0) rfl, h.cell (i := 1) rfl, h.cell (i := 2) rfl, h.cell (i := 3) rfl, h.cell (i := 4) rfl, h.cell (i := 5) rfl, h.cell (i := 6) rfl, h.cell (i := 7) rfl, h.cell (i := 8) rfl, h.cell (i := 9) rfl, h.cell (i := 10) rfl, h.cell (i := 11) rfl, h.cell (i := 12) rfl, h.cell (i := 13) rfl⟩
theorem Bk.f14 {w : World} {q : Nat} {v0 v1 v2 v3 v4 v5 v6 v7 v8 v9 v10 v11 v12 v13 : Value} (h : Bk w q [v0, v1, v2, v3, v4, v5, v6, v7, v8, v9, v10, v11, v12, v13]) :
    w.frozen? ⟨q, 0, none⟩ = false ∧ w.frozen? ⟨q, 1, none⟩ = false ∧ w.frozen? ⟨q, 2, none⟩ = false ∧ w.frozen? ⟨q, 3, none⟩ = false ∧ w.frozen? ⟨q, 4, none⟩ = false ∧ w.frozen? ⟨q, 5, none⟩ = false ∧ w.frozen? ⟨q, 6, none⟩ = false ∧ w.frozen? ⟨q, 7, none⟩ = false ∧ w.frozen? ⟨q, 8, none⟩ = false ∧ w.frozen? ⟨q, 9, none⟩ = false ∧ w.frozen? ⟨q, 10, none⟩ = false ∧ w.frozen? ⟨q, 11, none⟩ = false ∧ w.frozen? ⟨q, 12, none⟩ = false ∧ w.frozen? ⟨q, 13, none⟩ = false :=
  ⟨h.frz (i := 0) (by simp), h.frz (i := 1) (by simp), h.frz (i := 2) (by simp), h.frz (i := 3) (by simp), h.frz (i := 4) (by simp), h.frz (i := 5) (by simp), h.frz (i := 6) (by simp), h.frz (i := 7) (by simp), h.frz (i := 8) (by simp), h.frz (i := 9) (by simp), h.frz (i := 10) (by simp), h.frz (i := 11) (by simp), h.frz (i := 12) (by simp), h.frz (i := 13) (by simp)⟩
def smN (n most : Int) : Bool := decide (0 ≤ n ∧ n ≤ most)
theorem small_any (n most : Int) (w : World) :
    Calls Try.prog 29 #[.int .i64 n, .int .i64 most] w fun e w' => e = .returned (.bool (smN n most)) ∧ w' = w := by
  by_cases c0 : 0 ≤ n
  · have H : Hid (smN n most = decide (n ≤ most)) := by show _ = _; unfold smN; simp [c0]
    go_enter Try.func29, Try.ntmps29
    go_wp2
    go_ret
    exact ⟨ret_b H.out.symm, rfl⟩
  · have H : Hid (smN n most = false) := by show _ = _; unfold smN; simp [c0]
    go_enter Try.func29, Try.ntmps29
    go_wp2
    go_ret
    exact ⟨ret_b H.out.symm, rfl⟩
/-- Are all parts the same? -/
def smO (o p : Ow) : Bool := decide (o.d = p.d) && (decide (o.k = p.k) && (decide (o.id = p.id) && (spB o.s.c o.s.t o.s.x o.s.m o.s.k o.s.e p.s.c p.s.t p.s.x p.s.m p.s.k p.s.e && (decide (o.t = p.t) && (decide (o.m = p.m) && (decide (o.w = p.w) && (decide (o.c = p.c) && decide (o.v = p.v))))))))
set_option maxHeartbeats 4000000 in
set_option maxRecDepth 100000 in
theorem osame_any (ok oid ec et ex em ek ee ot om ow oc ov : Int) (dv : Value) (pk pid fc ft fx fm fk fe pt pm pw pc pv : Int) (du : Value) (ds es : List Int) (w : World) (h : Nums w dv ds) (h' : Nums w du es) (hl : ds.length ≤ 1000) (hl' : es.length ≤ 1000) :
    Calls Try.prog 18 #[.agg #[.int .i64 ok, .int .i64 oid, .int .i64 ec, .int .i64 et, .int .i64 ex, .int .i64 em, .int .i64 ek, .int .i64 ee, .int .i64 ot, .int .i64 om, .int .i64 ow, .int .i64 oc, .int .i64 ov, dv], .agg #[.int .i64 pk, .int .i64 pid, .int .i64 fc, .int .i64 ft, .int .i64 fx, .int .i64 fm, .int .i64 fk, .int .i64 fe, .int .i64 pt, .int .i64 pm, .int .i64 pw, .int .i64 pc, .int .i64 pv, du]] w fun e w' => e = .returned (.bool (smO ⟨ok, oid, ⟨ec, et, ex, em, ek, ee⟩, ot, om, ow, oc, ov, ds⟩ ⟨pk, pid, ⟨fc, ft, fx, fm, fk, fe⟩, pt, pm, pw, pc, pv, es⟩)) ∧ Below w.heap.size w w' := by
  have hA : Bk ((w.alloc (.cells #[.int .i64 ok, .int .i64 oid, .int .i64 ec, .int .i64 et, .int .i64 ex, .int .i64 em, .int .i64 ek, .int .i64 ee, .int .i64 ot, .int .i64 om, .int .i64 ow, .int .i64 oc, .int .i64 ov, dv] 26)).alloc (.cells #[.int .i64 pk, .int .i64 pid, .int .i64 fc, .int .i64 ft, .int .i64 fx, .int .i64 fm, .int .i64 fk, .int .i64 fe, .int .i64 pt, .int .i64 pm, .int .i64 pw, .int .i64 pc, .int .i64 pv, du] 26)) w.heap.size [.int .i64 ok, .int .i64 oid, .int .i64 ec, .int .i64 et, .int .i64 ex, .int .i64 em, .int .i64 ek, .int .i64 ee, .int .i64 ot, .int .i64 om, .int .i64 ow, .int .i64 oc, .int .i64 ov, dv] := (Bk.new w _ _).later (below_b1 _ _)
  have hB : Bk ((w.alloc (.cells #[.int .i64 ok, .int .i64 oid, .int .i64 ec, .int .i64 et, .int .i64 ex, .int .i64 em, .int .i64 ek, .int .i64 ee, .int .i64 ot, .int .i64 om, .int .i64 ow, .int .i64 oc, .int .i64 ov, dv] 26)).alloc (.cells #[.int .i64 pk, .int .i64 pid, .int .i64 fc, .int .i64 ft, .int .i64 fx, .int .i64 fm, .int .i64 fk, .int .i64 fe, .int .i64 pt, .int .i64 pm, .int .i64 pw, .int .i64 pc, .int .i64 pv, du] 26)) (w.heap.size + 1) [.int .i64 pk, .int .i64 pid, .int .i64 fc, .int .i64 ft, .int .i64 fx, .int .i64 fm, .int .i64 fk, .int .i64 fe, .int .i64 pt, .int .i64 pm, .int .i64 pw, .int .i64 pc, .int .i64 pv, du] := by have := Bk.new (w.alloc (.cells #[.int .i64 ok, .int .i64 oid, .int .i64 ec, .int .i64 et, .int .i64 ex, .int .i64 em, .int .i64 ek, .int .i64 ee, .int .i64 ot, .int .i64 om, .int .i64 ow, .int .i64 oc, .int .i64 ov, dv] 26)) [.int .i64 pk, .int .i64 pid, .int .i64 fc, .int .i64 ft, .int .i64 fx, .int .i64 fm, .int .i64 fk, .int .i64 fe, .int .i64 pt, .int .i64 pm, .int .i64 pw, .int .i64 pc, .int .i64 pv, du] 26; simp only [World.size_alloc] at this; exact this
  have HW : Hid (Below w.heap.size w ((w.alloc (.cells #[.int .i64 ok, .int .i64 oid, .int .i64 ec, .int .i64 et, .int .i64 ex, .int .i64 em, .int .i64 ek, .int .i64 ee, .int .i64 ot, .int .i64 om, .int .i64 ow, .int .i64 oc, .int .i64 ov, dv] 26)).alloc (.cells #[.int .i64 pk, .int .i64 pid, .int .i64 fc, .int .i64 ft, .int .i64 fx, .int .i64 fm, .int .i64 fk, .int .i64 fe, .int .i64 pt, .int .i64 pm, .int .i64 pw, .int .i64 pc, .int .i64 pv, du] 26))) := below_b2 _ _ _
  have HN : Hid (Nums ((w.alloc (.cells #[.int .i64 ok, .int .i64 oid, .int .i64 ec, .int .i64 et, .int .i64 ex, .int .i64 em, .int .i64 ek, .int .i64 ee, .int .i64 ot, .int .i64 om, .int .i64 ow, .int .i64 oc, .int .i64 ov, dv] 26)).alloc (.cells #[.int .i64 pk, .int .i64 pid, .int .i64 fc, .int .i64 ft, .int .i64 fx, .int .i64 fm, .int .i64 fk, .int .i64 fe, .int .i64 pt, .int .i64 pm, .int .i64 pw, .int .i64 pc, .int .i64 pv, du] 26)) dv ds ∧ Nums ((w.alloc (.cells #[.int .i64 ok, .int .i64 oid, .int .i64 ec, .int .i64 et, .int .i64 ex, .int .i64 em, .int .i64 ek, .int .i64 ee, .int .i64 ot, .int .i64 om, .int .i64 ow, .int .i64 oc, .int .i64 ov, dv] 26)).alloc (.cells #[.int .i64 pk, .int .i64 pid, .int .i64 fc, .int .i64 ft, .int .i64 fx, .int .i64 fm, .int .i64 fk, .int .i64 fe, .int .i64 pt, .int .i64 pm, .int .i64 pw, .int .i64 pc, .int .i64 pv, du] 26)) du es) := ⟨h.later (below_b2 _ _ _), h'.later (below_b2 _ _ _)⟩
  have HL : Hid (ds.length ≤ 1000 ∧ es.length ≤ 1000) := ⟨hl, hl'⟩
  clear h h' hl hl'
  obtain ⟨z, hz⟩ : ∃ z, decide (ds = es) = z := ⟨_, rfl⟩
  have HZ : Hid (decide (ds = es) = z) := hz
  clear hz
  go_enter Try.func18, Try.ntmps18
  go_upto_region 1 with fail
  generalize ((w.alloc (.cells #[.int .i64 ok, .int .i64 oid, .int .i64 ec, .int .i64 et, .int .i64 ex, .int .i64 em, .int .i64 ek, .int .i64 ee, .int .i64 ot, .int .i64 om, .int .i64 ow, .int .i64 oc, .int .i64 ov, dv] 26)).alloc (.cells #[.int .i64 pk, .int .i64 pid, .int .i64 fc, .int .i64 ft, .int .i64 fx, .int .i64 fm, .int .i64 fk, .int .i64 fe, .int .i64 pt, .int .i64 pm, .int .i64 pw, .int .i64 pc, .int .i64 pv, du] 26)) = W at *
  have HG : Hid (Bk W w.heap.size [.int .i64 ok, .int .i64 oid, .int .i64 ec, .int .i64 et, .int .i64 ex, .int .i64 em, .int .i64 ek, .int .i64 ee, .int .i64 ot, .int .i64 om, .int .i64 ow, .int .i64 oc, .int .i64 ov, dv] ∧ Bk W (w.heap.size + 1) [.int .i64 pk, .int .i64 pid, .int .i64 fc, .int .i64 ft, .int .i64 fx, .int .i64 fm, .int .i64 fk, .int .i64 fe, .int .i64 pt, .int .i64 pm, .int .i64 pw, .int .i64 pc, .int .i64 pv, du]) := ⟨hA, hB⟩
  have e13 : W.cell? ⟨w.heap.size, 13, none⟩ = some dv := hA.cell rfl
  have m13 : W.cell? ⟨w.heap.size + 1, 13, none⟩ = some du := hB.cell rfl
  clear hA hB
  go_wp2_with fail
  refine (ints_any ds es dv du _ HN.out.1 HN.out.2 (by have := HL.out.1; omega)).mono ?_
  rintro e w1 ⟨rfl, hb1⟩
  rw [HZ.out]
  have HE : Hid (Below w.heap.size w w1) := HW.out.trans (hb1.mono HW.out.size)
  obtain ⟨g0, g1, g2, g3, g4, g5, g6, g7, g8, g9, g10, g11, g12, g13⟩ := (HG.out.1.later hb1).c14
  obtain ⟨m0, m1, m2, m3, m4, m5, m6, m7, m8, m9, m10, m11, m12, m13⟩ := (HG.out.2.later hb1).c14
  clear hb1 e13 m13
  cases z with
  | false =>
    have HR : Hid (smO ⟨ok, oid, ⟨ec, et, ex, em, ek, ee⟩, ot, om, ow, oc, ov, ds⟩ ⟨pk, pid, ⟨fc, ft, fx, fm, fk, fe⟩, pt, pm, pw, pc, pv, es⟩ = false) := by show _ = _; unfold smO; rw [HZ.out]; rfl
    go_wp2; go_ret; exact ⟨ret_b HR.out.symm, HE.out⟩
  | true =>
    have HR : Hid (smO ⟨ok, oid, ⟨ec, et, ex, em, ek, ee⟩, ot, om, ow, oc, ov, ds⟩ ⟨pk, pid, ⟨fc, ft, fx, fm, fk, fe⟩, pt, pm, pw, pc, pv, es⟩ = (decide (ok = pk) && (decide (oid = pid) && (spB ec et ex em ek ee fc ft fx fm fk fe && (decide (ot = pt) && (decide (om = pm) && (decide (ow = pw) && (decide (oc = pc) && decide (ov = pv))))))))) := by show _ = _; unfold smO; rw [HZ.out]; rfl
    by_cases c0 : ok = pk
    rotate_left
    · have d0 : (ok == pk) = false := by simpa using c0
      have HF : Hid (smO ⟨ok, oid, ⟨ec, et, ex, em, ek, ee⟩, ot, om, ow, oc, ov, ds⟩ ⟨pk, pid, ⟨fc, ft, fx, fm, fk, fe⟩, pt, pm, pw, pc, pv, es⟩ = false) := by show _ = _; rw [HR.out]; simp [c0]
      clear c0
      go_wp2; go_ret; exact ⟨ret_b HF.out.symm, HE.out⟩
    by_cases c1 : oid = pid
    rotate_left
    · have d0 : (ok == pk) = true := by simpa using c0
      have d1 : (oid == pid) = false := by simpa using c1
      have HF : Hid (smO ⟨ok, oid, ⟨ec, et, ex, em, ek, ee⟩, ot, om, ow, oc, ov, ds⟩ ⟨pk, pid, ⟨fc, ft, fx, fm, fk, fe⟩, pt, pm, pw, pc, pv, es⟩ = false) := by show _ = _; rw [HR.out]; simp [c1]
      clear c0 c1
      go_wp2; go_ret; exact ⟨ret_b HF.out.symm, HE.out⟩
    have d0 : (ok == pk) = true := by simpa using c0
    have d1 : (oid == pid) = true := by simpa using c1
    have hS := fun w => sp_eql ec et ex em ek ee fc ft fx fm fk fe w
    cases hq : spB ec et ex em ek ee fc ft fx fm fk fe with
    | false =>
      rw [hq] at hS
      have HF : Hid (smO ⟨ok, oid, ⟨ec, et, ex, em, ek, ee⟩, ot, om, ow, oc, ov, ds⟩ ⟨pk, pid, ⟨fc, ft, fx, fm, fk, fe⟩, pt, pm, pw, pc, pv, es⟩ = false) := by show _ = _; rw [HR.out, hq]; simp
      clear c0 c1 hq
      go_wp2; go_ret; exact ⟨ret_b HF.out.symm, HE.out⟩
    | true =>
      rw [hq] at hS
      have HR : Hid (smO ⟨ok, oid, ⟨ec, et, ex, em, ek, ee⟩, ot, om, ow, oc, ov, ds⟩ ⟨pk, pid, ⟨fc, ft, fx, fm, fk, fe⟩, pt, pm, pw, pc, pv, es⟩ = (decide (ot = pt) && (decide (om = pm) && (decide (ow = pw) && (decide (oc = pc) && decide (ov = pv)))))) := by show _ = _; rw [HR.out, hq]; simp [c0, c1]
      clear c0 c1 hq
      by_cases b0 : ot = pt
      rotate_left
      · have HF : Hid (smO ⟨ok, oid, ⟨ec, et, ex, em, ek, ee⟩, ot, om, ow, oc, ov, ds⟩ ⟨pk, pid, ⟨fc, ft, fx, fm, fk, fe⟩, pt, pm, pw, pc, pv, es⟩ = false) := by show _ = _; rw [HR.out]; simp [b0]
        have e0 : (ot == pt) = false := by simpa using b0
        clear b0
        go_wp2; go_ret; exact ⟨ret_b HF.out.symm, HE.out⟩
      by_cases b1 : om = pm
      rotate_left
      · have HF : Hid (smO ⟨ok, oid, ⟨ec, et, ex, em, ek, ee⟩, ot, om, ow, oc, ov, ds⟩ ⟨pk, pid, ⟨fc, ft, fx, fm, fk, fe⟩, pt, pm, pw, pc, pv, es⟩ = false) := by show _ = _; rw [HR.out]; simp [b1]
        have e0 : (ot == pt) = true := by simpa using b0
        have e1 : (om == pm) = false := by simpa using b1
        clear b0 b1
        go_wp2; go_ret; exact ⟨ret_b HF.out.symm, HE.out⟩
      by_cases b2 : ow = pw
      rotate_left
      · have HF : Hid (smO ⟨ok, oid, ⟨ec, et, ex, em, ek, ee⟩, ot, om, ow, oc, ov, ds⟩ ⟨pk, pid, ⟨fc, ft, fx, fm, fk, fe⟩, pt, pm, pw, pc, pv, es⟩ = false) := by show _ = _; rw [HR.out]; simp [b2]
        have e0 : (ot == pt) = true := by simpa using b0
        have e1 : (om == pm) = true := by simpa using b1
        have e2 : (ow == pw) = false := by simpa using b2
        clear b0 b1 b2
        go_wp2; go_ret; exact ⟨ret_b HF.out.symm, HE.out⟩
      by_cases b3 : oc = pc
      rotate_left
      · have HF : Hid (smO ⟨ok, oid, ⟨ec, et, ex, em, ek, ee⟩, ot, om, ow, oc, ov, ds⟩ ⟨pk, pid, ⟨fc, ft, fx, fm, fk, fe⟩, pt, pm, pw, pc, pv, es⟩ = false) := by show _ = _; rw [HR.out]; simp [b3]
        have e0 : (ot == pt) = true := by simpa using b0
        have e1 : (om == pm) = true := by simpa using b1
        have e2 : (ow == pw) = true := by simpa using b2
        have e3 : (oc == pc) = false := by simpa using b3
        clear b0 b1 b2 b3
        go_wp2; go_ret; exact ⟨ret_b HF.out.symm, HE.out⟩
      have HF : Hid (smO ⟨ok, oid, ⟨ec, et, ex, em, ek, ee⟩, ot, om, ow, oc, ov, ds⟩ ⟨pk, pid, ⟨fc, ft, fx, fm, fk, fe⟩, pt, pm, pw, pc, pv, es⟩ = decide (ov = pv)) := by show _ = _; rw [HR.out]; simp [b0, b1, b2, b3]
      have e0 : (ot == pt) = true := by simpa using b0
      have e1 : (om == pm) = true := by simpa using b1
      have e2 : (ow == pw) = true := by simpa using b2
      have e3 : (oc == pc) = true := by simpa using b3
      clear b0 b1 b2 b3
      go_wp2; go_ret
      exact ⟨ret_b (by rw [HF.out]; first | rfl | (rw [Bool.eq_iff_iff]; simp)), HE.out⟩
end Go.Proofs.Yteklcolphbcjlaa
