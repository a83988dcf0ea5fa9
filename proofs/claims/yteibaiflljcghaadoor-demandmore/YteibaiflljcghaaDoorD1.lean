/- Tasks at their periods, as they lie: seven numbers each; lists of them, that are read, and that are appended to. -/
import Derived.Test.YteibaiflljcghaaDoorB14
import Derived.Test.YteibaiflljcghaaDoorV6
import Derived.Test.YteibaiflljcghaaDoorX15
import Derived.Test.YteibaiflljcghaaDoorA5
import Derived.Laws.AppendOwnNone
namespace Go.Proofs.YteibaiflljcghaaDoor
open Go.RowKit Go.Shelf

theorem own_laterF {w w' : World} {base n : Nat} {e : TypeId} {size : Nat} {v : Value} {xs : List Value} (h : w.ownsRow base e size v n xs) (hb : Below w.heap.size w w') : w'.ownsRow base e size v n xs := by
  have hl := h.lt
  obtain ⟨h0, h1 | ⟨g, cap, cur, rfl, h2, h3, h4⟩⟩ := h
  · exact ⟨h0, .inl h1⟩
  · exact ⟨h0, .inr ⟨g, cap, cur, rfl, h2, by rw [hb.block g (hl g rfl).2]; exact h3, h4⟩⟩

/-- A task at its period. -/
structure Fx where
  c : Int
  t : Int
  x : Int
  m : Int
  k : Int
  e : Int
  p : Int
def Fx.at (f : Fx) (i : Nat) : Int := match i with
  | 0 => f.c
  | 1 => f.t
  | 2 => f.x
  | 3 => f.m
  | 4 => f.k
  | 5 => f.e
  | _ => f.p
def Fx.sp (f : Fx) : Sp := ⟨f.c, f.t, f.x, f.m, f.k, f.e⟩
def Fx.row (f : Fx) : List Value := [.int .i64 f.c, .int .i64 f.t, .int .i64 f.x, .int .i64 f.m, .int .i64 f.k, .int .i64 f.e, .int .i64 f.p]

/-- Seven numbers that lie in a block, and may be written. -/
def Sev (w : World) (b : Nat) (f : Fx) : Prop := ∀ i, i < 7 → w.cell? ⟨b, i, none⟩ = some (.int .i64 (f.at i)) ∧ w.frozen? ⟨b, i, none⟩ = false
theorem Sev.new (w : World) (c t x m k e p : Int) : Sev (w.alloc (.cells #[.int .i64 c, .int .i64 t, .int .i64 x, .int .i64 m, .int .i64 k, .int .i64 e, .int .i64 p] 26)) w.heap.size ⟨c, t, x, m, k, e, p⟩ := by
  intro i hi
  rcases (show i = 0 ∨ i = 1 ∨ i = 2 ∨ i = 3 ∨ i = 4 ∨ i = 5 ∨ i = 6 by omega) with rfl | rfl | rfl | rfl | rfl | rfl | rfl <;> exact ⟨by simp [Fx.at], by simp⟩
theorem Sev.later {w w' : World} {b : Nat} {f : Fx} (h : Sev w b f) (hb : Below w.heap.size w w') : Sev w' b f := by
  intro i hi
  obtain ⟨h1, h2⟩ := h i hi
  exact ⟨cell_later hb h1, (hb.frozen (p := ⟨b, i, none⟩) (World.block_lt_of_cell? _ _ h1)).trans h2⟩
theorem Sev.lt {w : World} {b : Nat} {f : Fx} (h : Sev w b f) : b < w.heap.size := World.block_lt_of_cell? _ _ (h 0 (by omega)).1
theorem Sev.fx {w : World} {b : Nat} {c t x m k e p : Int} (h : Sev w b ⟨c, t, x, m, k, e, p⟩) :
    w.cell? ⟨b, 0, none⟩ = some (.int .i64 c) ∧ w.cell? ⟨b, 1, none⟩ = some (.int .i64 t) ∧ w.cell? ⟨b, 2, none⟩ = some (.int .i64 x) ∧ w.cell? ⟨b, 3, none⟩ = some (.int .i64 m) ∧ w.cell? ⟨b, 4, none⟩ = some (.int .i64 k) ∧ w.cell? ⟨b, 5, none⟩ = some (.int .i64 e) ∧ w.cell? ⟨b, 6, none⟩ = some (.int .i64 p) :=
  ⟨(h 0 (by omega)).1, (h 1 (by omega)).1, (h 2 (by omega)).1, (h 3 (by omega)).1, (h 4 (by omega)).1, (h 5 (by omega)).1, (h 6 (by omega)).1⟩

/-- A list of tasks at their periods that is read. -/
def Fxs (w : World) (v : Value) (n : Nat) (f : Nat → Fx) : Prop :=
  ∃ a cap, v = .slice a n cap ∧ n ≤ cap ∧ cap ≤ maxLen ∧ (a = none → cap = 0) ∧ (0 < n → ∃ b o, a = some ⟨b, o, none⟩ ∧ ∀ i, i < n → ∀ j, j < 7 → w.cell? ⟨b, o + i * 7 + j, none⟩ = some (.int .i64 ((f i).at j)))
theorem Fxs.later {w w' : World} {v : Value} {n : Nat} {f : Nat → Fx} (h : Fxs w v n f) (hb : Below w.heap.size w w') : Fxs w' v n f := by
  obtain ⟨a, cap, rfl, h1, h2, h0, h3⟩ := h
  refine ⟨a, cap, rfl, h1, h2, h0, fun hx => ?_⟩
  obtain ⟨b, o, rfl, h4⟩ := h3 hx
  exact ⟨b, o, rfl, fun i hi j hj => cell_later hb (h4 i hi j hj)⟩
theorem Fxs.congr {w : World} {v : Value} {n : Nat} {f g : Nat → Fx} (h : Fxs w v n f) (hg : ∀ i, i < n → f i = g i) : Fxs w v n g := by
  obtain ⟨a, cap, rfl, h1, h2, h0, h3⟩ := h
  refine ⟨a, cap, rfl, h1, h2, h0, fun hx => ?_⟩
  obtain ⟨b, o, rfl, h4⟩ := h3 hx
  exact ⟨b, o, rfl, fun i hi j hj => by rw [← hg i hi]; exact h4 i hi j hj⟩
/-- One alone. -/
theorem Fxs.one {w : World} {b : Nat} {f : Fx} (h : Sev w b f) : Fxs w (.slice (some ⟨b, 0, none⟩) 1 1) 1 (fun _ => f) :=
  ⟨_, 1, rfl, Nat.le_refl _, by unfold maxLen; omega, fun h => by simp at h, fun _ => ⟨b, 0, rfl, fun i hi j hj => by
    obtain rfl : i = 0 := by omega
    have := (h j hj).1
    rw [show 0 + 0 * 7 + j = j by omega]; exact this⟩⟩
/-- The seven numbers of one of them. -/
theorem row_open {w : World} {b o : Nat} {f : Fx} (h : ∀ j, j < 7 → w.cell? ⟨b, o + j, none⟩ = some (.int .i64 (f.at j))) :
    w.cell? ⟨b, o, none⟩ = some (.int .i64 f.c) ∧ w.cell? ⟨b, o + 1, none⟩ = some (.int .i64 f.t) ∧ w.cell? ⟨b, o + 2, none⟩ = some (.int .i64 f.x) ∧ w.cell? ⟨b, o + 3, none⟩ = some (.int .i64 f.m) ∧ w.cell? ⟨b, o + 4, none⟩ = some (.int .i64 f.k) ∧ w.cell? ⟨b, o + 5, none⟩ = some (.int .i64 f.e) ∧ w.cell? ⟨b, o + 6, none⟩ = some (.int .i64 f.p) :=
  ⟨h 0 (by omega), h 1 (by omega), h 2 (by omega), h 3 (by omega), h 4 (by omega), h 5 (by omega), h 6 (by omega)⟩

/-- Tasks, as cells. -/
def flatF (n : Nat) (f : Nat → Fx) : List Value := (List.range n).flatMap fun i => (f i).row
theorem flatF_succ (n : Nat) (f : Nat → Fx) : flatF (n + 1) f = flatF n f ++ (f n).row := by
  unfold flatF; rw [List.range_succ, List.flatMap_append]; simp
theorem flatF_len (n : Nat) (f : Nat → Fx) : (flatF n f).length = n * 7 := by
  induction n with
  | zero => rfl
  | succ n ih => rw [flatF_succ, List.length_append, ih]; simp [Fx.row]; omega
theorem row_at (f : Fx) (j : Nat) (h : j < 7) : f.row[j]? = some (.int .i64 (f.at j)) := by
  rcases (show j = 0 ∨ j = 1 ∨ j = 2 ∨ j = 3 ∨ j = 4 ∨ j = 5 ∨ j = 6 by omega) with rfl | rfl | rfl | rfl | rfl | rfl | rfl <;> rfl
theorem flatF_at (n : Nat) (f : Nat → Fx) (i j : Nat) (h : i < n) (hj : j < 7) : (flatF n f)[i * 7 + j]? = some (.int .i64 ((f i).at j)) := by
  induction n with
  | zero => omega
  | succ n ih =>
    rw [flatF_succ]
    have hl := flatF_len n f
    rcases Nat.lt_succ_iff_lt_or_eq.1 h with h1 | rfl
    · rw [List.getElem?_append_left (by omega)]
      exact ih h1
    · rw [List.getElem?_append_right (by omega), hl, show i * 7 + j - i * 7 = j by omega]
      exact row_at _ _ hj
theorem flatF_one (n : Nat) (f : Nat → Fx) : ∀ u ∈ flatF n f, u.oneCell' = true := by
  intro u hu
  obtain ⟨i, _, hx⟩ := List.mem_flatMap.1 hu
  simp [Fx.row] at hx
  rcases hx with rfl | rfl | rfl | rfl | rfl | rfl | rfl <;> rfl
theorem flatF_congr {n : Nat} {f g : Nat → Fx} (h : ∀ i, i < n → f i = g i) : flatF n f = flatF n g := by
  induction n with
  | zero => rfl
  | succ n ih => rw [flatF_succ, flatF_succ, ih (fun i hi => h i (by omega)), h n (by omega)]
/-- Some, and others behind them. -/
def cat9 (n : Nat) (f g : Nat → Fx) (i : Nat) : Fx := if i < n then f i else g (i - n)
theorem cat9_left {n : Nat} {f g : Nat → Fx} {i : Nat} (h : i < n) : cat9 n f g i = f i := if_pos h
theorem cat9_right {n : Nat} {f g : Nat → Fx} {i : Nat} (h : n ≤ i) : cat9 n f g i = g (i - n) := if_neg (by omega)
theorem flatF_app (n m : Nat) (f g : Nat → Fx) : flatF n f ++ flatF m g = flatF (n + m) (cat9 n f g) := by
  induction m with
  | zero =>
    rw [show flatF 0 g = [] from rfl, List.append_nil]
    exact flatF_congr fun i hi => (cat9_left hi).symm
  | succ m ih =>
    rw [flatF_succ, ← List.append_assoc, ih, show n + (m + 1) = n + m + 1 by omega, flatF_succ, cat9_right (by omega), show n + m - n = m by omega]

/-- Tasks of the call's own. -/
def OwnF (w : World) (base : Nat) (v : Value) (n : Nat) (f : Nat → Fx) : Prop := w.ownsRow base 26 7 v n (flatF n f)
theorem OwnF.nil (w : World) (base : Nat) (f : Nat → Fx) : OwnF w base (.slice none 0 0) 0 f := World.ownsRow_nil _ _ _ _
theorem OwnF.fxs {w : World} {base : Nat} {v : Value} {n : Nat} {f : Nat → Fx} (h : OwnF w base v n f) : Fxs w v n f := by
  unfold OwnF at h
  have hcs := fun g hg => h.cells (g := g) hg
  obtain ⟨_, ⟨rfl, hz⟩ | ⟨g, cap, cur, rfl, hb, hh, h1, h2, _⟩⟩ := h
  · subst hz
    exact ⟨none, 0, rfl, by simp, by simp, fun _ => rfl, fun h => by omega⟩
  · refine ⟨_, cap, rfl, h1, h2, fun h => by simp at h, fun _ => ⟨g, 0, rfl, fun i hi j hj => ?_⟩⟩
    have k0 := hcs g rfl _ _ (flatF_at n f i j hi hj)
    rw [Go.WideShapes.add_plain] at k0
    rw [Nat.add_assoc]; exact k0

theorem Tryd.infoFix : (Tryd.prog.info? 26).map (fun i => (i.zero, i.size, i.bytes)) = some (some (.agg #[.int .i64 0, .int .i64 0, .int .i64 0, .int .i64 0, .int .i64 0, .int .i64 0, .int .i64 0]), 7, 56) := by kernel_rfl

/-- What an append of tasks comes to. -/
theorem wp_append_fix {w : World} {o : Oper} {act : Act} {K : Act → World → Prop} {Q : Exit → Act → World → Prop} (s x : Operand)
    (ho : o.op = .call { callee := .builtin .append, args := #[s, x], argTypes := #[22, 22] }) (base : Nat) (v u : Value) (n m : Nat) (f g : Nat → Fx)
    (hs : act.eval s = v) (hown : OwnF w base v n f) (hx : act.eval x = u) (hr : Fxs w u m g) (hn : n + m ≤ 100000) (hbase : base ≤ w.heap.size)
    (h : ∀ v' w', OwnF w' base v' (n + m) (cat9 n f g) → Below base w w' → K (act.put o.dst v') w') : Oper.wp Tryd.prog o act w K Q := by
  obtain ⟨i0, hi, hz0, hz1, hz2⟩ := info_parts Tryd.infoFix
  unfold OwnF at hown
  have hlow := hown.lt
  obtain ⟨a, cap, rfl, h1, h2, h0, h3⟩ := hr
  have m1 : n + m ≤ maxLen := by unfold maxLen; omega
  have main : ∀ (ad : Addr), a = some ad → (∀ j q, (flatF m g)[j]? = some q → w.cell? (ad.add j) = some q) → Oper.wp Tryd.prog o act w K Q := by
    intro ad ha hcells
    subst ha
    refine wp_append_own w s x 22 ho base 26 i0 _ 7 56 Tryd.underlying22 hi hz0 hz1 hz2 rfl (by decide) v n (flatF n f) hs hown ad m cap (flatF m g) hx (by rw [flatF_len]) hcells (flatF_one _ _) m1 (by omega) hbase ?_
    intro v' w' g1 g2 _
    rw [flatF_app] at g1
    exact h v' w' g1 ((Below.refl _ _).grown g2 hbase fun k hk => (hlow k hk).1)
  cases a with
  | none =>
    obtain rfl := h0 rfl
    obtain rfl : m = 0 := by omega
    have hr := run_append_owned_none (P := Tryd.prog) (w := w) base 22 o.type 26 i0 7 Tryd.underlying22 hi v n (flatF n f) hown
    unfold Oper.wp execOp
    have hx' : act.eval x = .slice none 0 0 := hx
    simp only [ho, resolve, invoke, builtin, Sem.run_bind, Sem.run_pure, Result.andThen_ok, List.map_toArray, List.map_cons, List.map_nil, hs, hx', hr]
    refine h v w ?_ (Below.refl _ _)
    unfold OwnF
    rw [← flatF_app, show flatF 0 g = [] from rfl, List.append_nil]
    exact hown
  | some ad =>
    refine main ad rfl (fun j q hq => ?_)
    have hj : j < (flatF m g).length := (List.getElem?_eq_some_iff.1 hq).1
    rw [flatF_len] at hj
    obtain ⟨b, oo, he, h4⟩ := h3 (by omega)
    obtain rfl : ad = ⟨b, oo, none⟩ := by simpa using he
    have k0 := flatF_at m g (j / 7) (j % 7) (by omega) (by omega)
    rw [show j / 7 * 7 + j % 7 = j by omega] at k0
    rw [k0] at hq
    rw [← hq, Go.WideShapes.add_plain]
    have := h4 (j / 7) (by omega) (j % 7) (by omega)
    rwa [show oo + j / 7 * 7 + j % 7 = oo + j by omega] at this
theorem append_fix {w : World} {ops : Array Oper} {rest : List Oper} {o : Oper} {act : Act} {Q : Exit → Act → World → Prop} (hgd : o.guard = Option.none) (s x : Operand)
    (ho : o.op = .call { callee := .builtin .append, args := #[s, x], argTypes := #[22, 22] }) (base : Nat) (v u : Value) (n m : Nat) (f g : Nat → Fx)
    (hs : act.eval s = v) (hown : OwnF w base v n f) (hx : act.eval x = u) (hr : Fxs w u m g) (hn : n + m ≤ 100000) (hbase : base ≤ w.heap.size)
    (h : ∀ v' w', OwnF w' base v' (n + m) (cat9 n f g) → Below base w w' → wpList Tryd.prog ops Q rest (act.put o.dst v') w') : wpList Tryd.prog ops Q (o :: rest) act w := by
  refine wpList_plain hgd fun K hK => ?_
  exact wp_append_fix s x ho base v u n m f g hs hown hx hr hn hbase fun v' w' h1 h2 => hK _ _ (h v' w' h1 h2)
theorem step_append_fix {w : World} {ops : Array Oper} {o : Oper} {act : Act} {K : Act → World → Prop} {Q : Exit → Act → World → Prop} {E : Prop} (hgd : o.guard = Option.none) (s x : Operand)
    (ho : o.op = .call { callee := .builtin .append, args := #[s, x], argTypes := #[22, 22] }) (base : Nat) (v u : Value) (n m : Nat) (f g : Nat → Fx)
    (hs : act.eval s = v) (hown : OwnF w base v n f) (hx : act.eval x = u) (hr : Fxs w u m g) (hn : n + m ≤ 100000) (hbase : base ≤ w.heap.size)
    (h : ∀ v' w', OwnF w' base v' (n + m) (cat9 n f g) → Below base w w' → K (act.put o.dst v') w') :
    if Region.wanted o (yielded ops act.tmps) = true then Oper.wp Tryd.prog o act w K Q else E := by
  have hw : Region.wanted o (yielded ops act.tmps) = true := by simp [Region.wanted, hgd]
  rw [if_pos hw]
  exact wp_append_fix s x ho base v u n m f g hs hown hx hr hn hbase h
end Go.Proofs.YteibaiflljcghaaDoor
