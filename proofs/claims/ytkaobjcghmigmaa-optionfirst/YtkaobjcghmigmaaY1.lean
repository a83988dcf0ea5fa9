/- Texts that belong together, one behind the other: N15, N16, N17, N23, N24, N25, N26, N27, N28, N29, N30, N31. -/
import Derived.Test.YtkaobjcghmigmaaV14
import Derived.Maps.Views
import Derived.Maps.OwnOps
import Derived.Maps.OwnSet
import Derived.Maps.AppendAt
import Derived.Maps.RangeWalk
import Derived.WideKeyEntry
import Derived.DeepKeys4
import Derived.Laws.IdiomCopy
import Derived.Lib.SlBuf
import Derived.Laws.OwnMore
import Derived.Deep.RegionHeld3
import Derived.Test.YtkaobjcghmigmaaN14
import Derived.OwnWalk
import Derived.Test.YtkaobjcghmigmaaN20
/- A map by options whose elements count: what it holds, key by key; count. -/
namespace Go.Proofs.Ytkaobjcghmigmaa
open Go.RowKit Go.Maps Go.WideMaps
open Go.ChangeMaps (setBlock)

theorem laidOut14 : laidOutB Try.prog = true := by kernel_rfl
theorem lawO : KeyLaw Try.prog 24 := deep_law_laid laidOut14 (m := 2) (by omega) (of_decide_eq_true (by kernel_rfl)) (by kernel_rfl) (by kernel_rfl)
theorem keysO : Keyed Try.prog 24 := Keyed.of_law lawO
theorem keyO : Try.prog.keyType 24 = true := by kernel_rfl
theorem typesPos14 : 0 < Try.prog.types.size := of_decide_eq_true (by kernel_rfl)

def kV (x : Int × Int × Int) : Value := .agg #[.int .i64 x.1, .int .i64 x.2.1, .int .i64 x.2.2]
def kL (x : Int × Int × Int) : Lit := .string (keyBytes [.int .i64 x.1, .int .i64 x.2.1, .int .i64 x.2.2])
theorem kL_is {x : Int × Int × Int} (h : wfO x) : keyOf Try.prog 24 (kV x) = some (kL x) := by
  obtain ⟨n, hn⟩ : ∃ n, Try.prog.types.size + 1 = n + 2 := ⟨Try.prog.types.size - 1, by have := typesPos14; omega⟩
  obtain ⟨h1, h2, h3⟩ := h
  have hc : Try.prog.cellsOf 24 = 3 := by kernel_rfl
  have hc1 : Try.prog.cellsOf 3 = 1 := by kernel_rfl
  unfold keyOf
  rw [Try.underlying24]
  simp only
  have hf : (kV x).formed Try.prog 24 = true := by
    unfold kV
    simp [Value.formed, Try.underlying24, hc]
  rw [keyO, hf, hn]
  unfold kV kL
  simp [Program.keyLits, Try.underlying24, Try.underlying3, hc, hc1, Value.cells, h1, h2, h3]
theorem kV_inj {x y : Int × Int × Int} (h : kV x = kV y) : x = y := by
  obtain ⟨a, b, c⟩ := x
  obtain ⟨d, e, f⟩ := y
  unfold kV at h
  simp at h
  simp [h]
theorem kL_ne {x y : Int × Int × Int} (hx : wfO x) (hy : wfO y) (h : x ≠ y) : kL x ≠ kL y := fun e => h (kV_inj (lawO.inj (kL_is hx) (by rw [e]; exact kL_is hy)))
theorem kL_key {x : Int × Int × Int} (h : wfO x) : WideAt.IsKeyLit (kL x) := keysO.key (kL_is h)
theorem keyLits_int {n : Nat} {c : Value} {ls : List Lit} (h : Try.prog.keyLits (n + 1) 3 [c] = some ls) : ∃ a, c = .int .i64 a ∧ (Lit.int .i64 a).wf = true := by
  cases c with
  | int q a =>
    simp only [Program.keyLits, Try.underlying3] at h
    split at h
    · next hc => exact ⟨a, by rw [hc.1], hc.2⟩
    · cases h
  | _ => simp [Program.keyLits, Try.underlying3] at h
set_option maxRecDepth 100000 in
theorem kV_of {key : Value} {kl : Lit} (h : keyOf Try.prog 24 key = some kl) : ∃ x, key = kV x ∧ wfO x := by
  obtain ⟨n, m, hn, hm⟩ : ∃ n m, Try.prog.types.size + 1 = m + 1 ∧ m = n + 1 := ⟨Try.prog.types.size - 1, Try.prog.types.size, rfl, by have := typesPos14; omega⟩
  have hc : Try.prog.cellsOf 24 = 3 := by kernel_rfl
  have hc1 : Try.prog.cellsOf 3 = 1 := by kernel_rfl
  unfold keyOf at h
  rw [Try.underlying24] at h
  simp only at h
  split at h
  rotate_left
  · cases h
  next hcond =>
  rw [Bool.and_eq_true] at hcond
  have hf := hcond.2
  cases key with
  | agg cs =>
    simp [Value.formed, Try.underlying24, hc] at hf
    obtain ⟨l⟩ := cs
    match l, hf with
    | [c0, c1, c2], _ =>
      rw [hn] at h
      obtain ⟨ls, hls, _⟩ := Option.map_eq_some_iff.1 h
      simp only [Program.keyLits, Try.underlying24] at hls
      simp [Value.cells, hc, hc1] at hls
      rw [hm] at hls
      cases h0 : Try.prog.keyLits (n + 1) 3 [c0] with
      | none => simp [h0] at hls
      | some q0 =>
      cases h1 : Try.prog.keyLits (n + 1) 3 [c1] with
      | none => simp [h0, h1] at hls
      | some q1 =>
      cases h2 : Try.prog.keyLits (n + 1) 3 [c2] with
      | none => simp [h0, h1, h2] at hls
      | some q2 =>
      obtain ⟨a0, rfl, w0⟩ := keyLits_int h0
      obtain ⟨a1, rfl, w1⟩ := keyLits_int h1
      obtain ⟨a2, rfl, w2⟩ := keyLits_int h2
      exact ⟨(a0, a1, a2), rfl, w0, w1, w2⟩
  | _ => simp [Value.formed, Try.underlying24] at hf

/-- How a number reads. -/
def encC : Value → Option (DataW Unit × List MemPlace)
  | .int .i64 q => some (.lit (.int .i64 q), [])
  | _ => none
theorem encC_is {v : Value} {y : DataW Unit × List MemPlace} (h : encC v = some y) : ∃ q, v = .int .i64 q ∧ y = (.lit (.int .i64 q), []) := by
  unfold encC at h
  split at h
  · cases h; exact ⟨_, rfl, rfl⟩
  · cases h
def dC (n : Nat) : DataW Unit := .lit (.int .i64 n)
/-- What the map holds: how many of each. -/
structure HoldC (D : DataW Unit) (C : Int × Int × Int → Nat) : Prop where
  at_ : ∀ x, wfO x → D.atKey (kL x) (dC 0) = dC (C x)
  keys : ∀ kl, Maps.has D kl = true → ∃ x, wfO x ∧ kl = kL x ∧ 0 < C x
  pos : ∀ x, wfO x → 0 < C x → Maps.has D (kL x) = true
theorem holdC_none : HoldC (.map []) (fun _ => 0) := ⟨fun _ _ => rfl, fun kl hk => by simp [Maps.has] at hk, fun _ _ h => by omega⟩
def putC (C : Int × Int × Int → Nat) (k : Int × Int × Int) (n : Nat) (x : Int × Int × Int) : Nat := if x = k then n else C x
theorem HoldC.putAt {D : DataW Unit} {C : Int × Int × Int → Nat} (h : HoldC D C) (hD : IsMap D) {k : Int × Int × Int} (hk : wfO k) (n : Nat) : ∀ x, wfO x → (D.put (kL k) (dC n)).atKey (kL x) (dC 0) = dC (putC C k n x) := fun x hx => by
  unfold putC
  by_cases c : x = k
  · rw [if_pos c, c]; exact atKey_put_same hD (kL_key hk) _ _
  · rw [if_neg c, atKey_put_other (kL_ne hx hk c)]; exact h.at_ x hx
theorem HoldC.put {D : DataW Unit} {C : Int × Int × Int → Nat} (h : HoldC D C) (hD : IsMap D) {k : Int × Int × Int} (hk : wfO k) (n : Nat) (hn : 0 < n) : HoldC (D.put (kL k) (dC n)) (putC C k n) := by
  refine ⟨h.putAt hD hk n, fun kl hkl => ?_, fun x hx hp => ?_⟩
  · by_cases c : kl = kL k
    · exact ⟨k, hk, c, by unfold putC; rw [if_pos rfl]; exact hn⟩
    · rw [has_put_other c] at hkl
      obtain ⟨x, hx, he, hp⟩ := h.keys kl hkl
      exact ⟨x, hx, he, by unfold putC; split <;> omega⟩
  · by_cases c : x = k
    · rw [c]; exact has_put_same hD (kL_key hk) _
    · rw [has_put_other (kL_ne hx hk c)]
      unfold putC at hp
      rw [if_neg c] at hp
      exact h.pos x hx hp
theorem HoldC.congr {D : DataW Unit} {C C' : Int × Int × Int → Nat} (h : HoldC D C) (e : ∀ x, C x = C' x) : HoldC D C' := by
  have : C = C' := funext e
  rw [← this]; exact h
theorem zeroC (w : World) : (zeroValue 3).run Try.prog w = .ok (.int .i64 0) w := by kernel_rfl
theorem lookC {w : World} {b n : Nat} {D : DataW Unit} {C : Int × Int × Int → Nat} (h : w.ownsMap Try.prog 24 encC b n D) (hat : ∀ x, wfO x → D.atKey (kL x) (dC 0) = dC (C x)) {k : Int × Int × Int} (hk : wfO k) :
    (Instr.lookup 52 (.map (some b)) (kV k) false).run Try.prog w = .ok (.int .i64 (C k)) w := by
  obtain ⟨v, ps, hrun, hR⟩ := h.lookup keysO Try.underlying52 (zeroC w) (show encC (.int .i64 0) = some (dC 0, []) from rfl) (kL_is hk)
  rw [hat k hk] at hR
  obtain ⟨q, rfl, e⟩ := encC_is hR
  unfold dC at e
  simp at e
  rw [hrun, e.1]

/-- That an entry is read is as if what is there were written. -/
theorem entry_upd14 {w : World} {b : Nat} {es : Array MapEntry} {clock : Nat} (hb : w.heap[b]? = some (.map es clock)) (F : WideElems.Fit Try.prog 24 encC es clock) {k : Int × Int × Int} (hk : wfO k) :
    ∃ (v0 : Value) (st : Nat) (w1 : World), (Instr.mapEntry 52 (.map (some b)) (kV k)).run Try.prog w = .ok (.tuple #[v0, goInt st]) w1 ∧ (Instr.mapUpdate 52 (.map (some b)) (kV k) v0).run Try.prog w = .ok () w1 := by
  have ht := Try.underlying52
  rcases lawO.find w (kL_is hk) es.toList F.keys with ⟨h1, h2⟩ | ⟨j, e0, h1, h2, h3⟩
  · refine ⟨.int .i64 0, clock, setBlock w b (.map (es.push ⟨kV k, .int .i64 0, clock⟩) (clock + 1)), ?_, ?_⟩
    · simp [Instr.mapEntry, run_underlying ht, MapKept.run_getObj_map hb, lawO.check w false (kL_is hk), h1, MapKept.run_setObj_map _ hb, Result.andThen, setBlock]
    · simp [Instr.mapUpdate, run_underlying ht, MapKept.run_getObj_map hb, lawO.check w false (kL_is hk), h1, MapKept.run_setObj_map _ hb, Result.andThen, setBlock]
  · have hj : es[j]? = some e0 := by simpa using h2
    have hsame : es.modify j (fun e => { e with key := kV k }) = es := by
      apply Array.ext'
      rw [Array.toList_modify, Go.ChangeMaps.modify_eq_set _ _ _ _ h2]
      have : ({ e0 with key := kV k } : MapEntry) = e0 := by rw [← h3]
      rw [this]
      exact Go.WideElems.set_self _ _ _ h2
    have hsame2 : es.modify j (fun e => { e with key := kV k, val := e0.val }) = es := by
      apply Array.ext'
      rw [Array.toList_modify, Go.ChangeMaps.modify_eq_set _ _ _ _ h2]
      have : ({ e0 with key := kV k, val := e0.val } : MapEntry) = e0 := by rw [← h3]
      rw [this]
      exact Go.WideElems.set_self _ _ _ h2
    refine ⟨e0.val, e0.born, setBlock w b (.map es clock), ?_, ?_⟩
    · simp [Instr.mapEntry, run_underlying ht, MapKept.run_getObj_map hb, lawO.check w false (kL_is hk), h1, hj, h3, lawO.stays w (kL_is hk), hsame, MapKept.run_setObj_map _ hb, Result.andThen, setBlock]
    · simp [Instr.mapUpdate, run_underlying ht, MapKept.run_getObj_map hb, lawO.check w false (kL_is hk), h1, hj, h3, lawO.stays w (kL_is hk), hsame2, MapKept.run_setObj_map _ hb, Result.andThen, setBlock]
theorem nodup_key14 : ∀ {l : List MapEntry}, (l.map (·.key)).Nodup → ∀ {a b : MapEntry}, a ∈ l → b ∈ l → a.key = b.key → a = b
  | [], _, _, _, ha, _, _ => by simp at ha
  | x :: r, h, a, b, ha, hb, e => by
    simp only [List.map_cons, List.nodup_cons] at h
    rcases List.mem_cons.1 ha with e1 | ha <;> rcases List.mem_cons.1 hb with e2 | hb
    · rw [e1, e2]
    · exact absurd (List.mem_map.2 ⟨b, hb, by rw [← e, e1]⟩) h.1
    · exact absurd (List.mem_map.2 ⟨a, ha, by rw [e, e2]⟩) h.1
    · exact nodup_key14 h.2 ha hb e
/-- An entry is read; what is there may be read again; then it is written. -/
theorem entryC {w : World} {b n : Nat} {D : DataW Unit} {C : Int × Int × Int → Nat} (h : w.ownsMap Try.prog 24 encC b n D) (hH : HoldC D C) {k : Int × Int × Int} (hk : wfO k) (hn : n < maxLen) :
    ∃ (st : Nat) (w1 w3 : World), (Instr.mapEntry 52 (.map (some b)) (kV k)).run Try.prog w = .ok (.tuple #[.int .i64 (C k), goInt st]) w1 ∧ w.grownBy w1 (some b) ∧
      (Instr.lookup 52 (.map (some b)) (kV k) false).run Try.prog w1 = .ok (.int .i64 (C k)) w1 ∧
      (Instr.entryStore 52 (.map (some b)) (goInt st) (.int .i64 ((C k : Int) + 1))).run Try.prog w1 = .ok () w3 ∧ w1.grownBy w3 (some b) ∧ w3.ownsMap Try.prog 24 encC b (n + 1) (D.put (kL k) (dC (C k + 1))) := by
  have h0 := h
  have hlook := lookC h hH.at_ hk
  obtain ⟨es, clock, hb, F, hs, rfl⟩ := h
  obtain ⟨v0, st, es1, clock1, hrun, hwho, hback⟩ := WideElems.entry_then_store lawO Try.underlying52 (fun u => zeroC u) hb F (kL_is hk)
  have hv0 : v0 = .int .i64 (C k) := by
    rcases Maps.fit_look false keysO Try.underlying52 (zeroC w) hb F (kL_is hk) with ⟨hr, hno, _⟩ | ⟨e0, y, hm, hkk, hr, _⟩
    · rcases hwho with ⟨e1, hm1, hk1, _⟩ | ⟨_, rfl⟩
      · exact absurd hk1 (hno e1 hm1)
      · rw [hlook] at hr
        simp at hr ⊢
        omega
    · rcases hwho with ⟨e1, hm1, hk1, rfl⟩ | ⟨hno, _⟩
      · have : e1 = e0 := by
          obtain ⟨_, _, s3⟩ := F.stamped
          exact nodup_key14 s3 hm1 hm (hk1.trans hkk.symm)
        rw [this]
        rw [hlook] at hr
        simp at hr
        exact hr.symm
      · exact absurd hkk (hno e0 hm)
  subst hv0
  obtain ⟨v1, st1, w1, hrun1, hup1⟩ := entry_upd14 hb F hk
  rw [hrun] at hrun1
  simp at hrun1
  obtain ⟨⟨rfl, _⟩, hw1⟩ := hrun1
  obtain ⟨w1', hr1', hown1, _⟩ := h0.update keysO Try.underlying52 hn (kL_is hk) (show encC (.int .i64 (C k)) = some (dC (C k), []) from rfl)
  rw [hup1] at hr1'
  simp at hr1'
  subst hr1'
  have hl1 := lookC hown1 (hH.putAt h0.isMap hk (C k)) hk
  rw [show putC C k (C k) k = C k from if_pos rfl] at hl1
  obtain ⟨es', clock', hst, hup⟩ := hback (setBlock w b (.map es1 clock1)) (.int .i64 ((C k : Int) + 1)) (ChangeMaps.heap_setBlock_same hb _)
  obtain ⟨w', hrun', hown', _⟩ := h0.update keysO Try.underlying52 hn (kL_is hk) (show encC (.int .i64 ((C k : Int) + 1)) = some (dC (C k + 1), []) from by unfold dC; simp [encC])
  rw [hup] at hrun'
  simp at hrun'
  subst hrun'
  refine ⟨st, _, _, hrun, ⟨rfl, rfl, rfl, by simp [setBlock], fun i _ hi => ChangeMaps.heap_setBlock_other hb _ (fun e => hi (by rw [e]))⟩, by rw [hw1]; exact hl1, hst, ⟨rfl, rfl, rfl, by simp [setBlock], fun i _ hi => ChangeMaps.heap_setBlock_other (ChangeMaps.heap_setBlock_same hb _) _ (fun e => hi (by rw [e]))⟩, ?_⟩
  obtain ⟨es2, clock2, hb2, F2, hs2, hD2⟩ := hown'
  rw [ChangeMaps.heap_setBlock_same hb] at hb2
  simp at hb2
  obtain ⟨rfl, rfl⟩ := hb2
  exact ⟨_, _, ChangeMaps.heap_setBlock_same (ChangeMaps.heap_setBlock_same hb _) _, F2, hs2, hD2⟩

/-- How many of the first j are x. -/
def cntO (f : Nat → Int × Int × Int) : Nat → Int × Int × Int → Nat
  | 0, _ => 0
  | j + 1, x => cntO f j x + if f j = x then 1 else 0
theorem cntO_le (f : Nat → Int × Int × Int) (x : Int × Int × Int) : ∀ j, cntO f j x ≤ j
  | 0 => Nat.le_refl _
  | j + 1 => by have := cntO_le f x j; unfold cntO; split <;> omega
def MapC (w : World) (b : Nat) (C : Int × Int × Int → Nat) : Prop := ∃ D m, w.ownsMap Try.prog 24 encC b m D ∧ HoldC D C
end Go.Proofs.Ytkaobjcghmigmaa
/- Walks of package option: count. -/
namespace Go.Proofs.Ytkaobjcghmigmaa
open Go.RowKit Go.Maps Go.WideMaps

theorem MapC.kept {w w' : World} {b : Nat} {C : Int × Int × Int → Nat} {row : Option Nat} (h : MapC w b C) (hg : w.grownBy w' row) (hne : some b ≠ row) : MapC w' b C := by
  obtain ⟨D, m, ho, hh⟩ := h
  exact ⟨D, m, ho.kept hg hne, hh⟩
theorem grown_below14 {w w' : World} (hb : Below w.heap.size w w') : w.grownBy w' none := ⟨hb.os, hb.tape, hb.output, hb.size, fun k hk _ => hb.block k hk⟩
theorem MapC.later {w w' : World} {b : Nat} {C : Int × Int × Int → Nat} (h : MapC w b C) (hb : Below w.heap.size w w') : MapC w' b C := h.kept (grown_below14 hb) (by simp)

set_option maxHeartbeats 2000000 in
set_option maxRecDepth 100000 in
theorem count14_any (n : Nat) (f : Nat → Int × Int × Int) (v : Value) (w : World) (h : Ops w v n f) (hf : ∀ i, i < n → wfO (f i)) (hn : n ≤ 1000) :
    Calls Try.prog 27 #[v] w fun e w' => e = .returned (.map (some w.heap.size)) ∧ MapC w' w.heap.size (cntO f n) ∧ Below w.heap.size w w' := by
  have hmm := @run_makeMap Try.prog
  obtain ⟨ad, cap, rfl, h1, h2, h0, h3⟩ := h
  go_enter Try.func27, Try.ntmps27
  go_wp2_with fail
  go_loopw [9] (fun i wr => ∃ j : Nat, j ≤ n ∧ i = .int .i64 j ∧ Hid (∃ D, wr.ownsMap Try.prog 24 encC w.heap.size j D ∧ HoldC D (cntO f j)) ∧ Below w.heap.size w wr) (fun i _ => ((n : Int) - intOf i).toNat)
  case atStart => exact ⟨0, by omega, rfl, ⟨.map [], World.ownsMap_made _ _ _ _, holdC_none⟩, (Below.refl _ _).alloc (Nat.le_refl _) _⟩
  case round =>
    obtain ⟨j, hj, rfl, HM, hbw⟩ := hrel
    clear hmm
    by_cases hlt : j < n
    · have hlt' : (j : Int) < n := by omega
      obtain ⟨bk, o, rfl, h4⟩ := h3 (by omega)
      obtain ⟨k0, k1, k2⟩ := h4 j (by omega)
      have e0 := cell_later hbw k0
      have e1 := cell_later hbw k1
      have e2 := cell_later hbw k2
      clear h4 h3 k0 k1 k2
      have hwf := hf j hlt
      obtain ⟨x, hx⟩ : ∃ x, f j = x := ⟨_, rfl⟩
      rw [hx] at e0 e1 e2 hwf
      have HXF : Hid (f j = x) := hx
      clear hx
      obtain ⟨fa, fb, fc⟩ := x
      have HW : Hid (wfO (fa, fb, fc)) := hwf
      simp only at e0 e1 e2
      obtain ⟨D, hown, hH⟩ := HM.out
      have hbox : Below w.heap.size w (wr.alloc (.cells #[.int .i64 fa, .int .i64 fb, .int .i64 fc] 24)) := hbw.alloc hbw.size _
      have HT : Hid (Thr (wr.alloc (.cells #[.int .i64 fa, .int .i64 fb, .int .i64 fc] 24)) wr.heap.size fa fb fc) := Thr.new wr fa fb fc 24
      have hownX : (wr.alloc (.cells #[.int .i64 fa, .int .i64 fb, .int .i64 fc] 24)).drew.ownsMap Try.prog 24 encC w.heap.size j D := (hown.alloc _).kept (grown_below14 (Below.refl _ _).drew) (by simp)
      have hlk := lookC hownX hH.at_ HW.out
      obtain ⟨st, w1, w3, hent, hg1, hl1, hsto, hg3, hown3⟩ := entryC hownX hH HW.out (by unfold maxLen; omega)
      have HSX : Hid ((wr.alloc (.cells #[.int .i64 fa, .int .i64 fb, .int .i64 fc] 24)).drew.cell? ⟨wr.heap.size, 0, none⟩ = some (.int .i64 fa) ∧ (wr.alloc (.cells #[.int .i64 fa, .int .i64 fb, .int .i64 fc] 24)).drew.cell? ⟨wr.heap.size, 1, none⟩ = some (.int .i64 fb) ∧ (wr.alloc (.cells #[.int .i64 fa, .int .i64 fb, .int .i64 fc] 24)).drew.cell? ⟨wr.heap.size, 2, none⟩ = some (.int .i64 fc)) := ⟨HT.out.1, HT.out.2.1, HT.out.2.2⟩
      have hsz : wr.heap.size < (wr.alloc (.cells #[.int .i64 fa, .int .i64 fb, .int .i64 fc] 24)).drew.heap.size := by show _ < (wr.alloc (.cells #[.int .i64 fa, .int .i64 fb, .int .i64 fc] 24)).heap.size; simp
      have hne : wr.heap.size ≠ w.heap.size := by have := hown.lt; omega
      have HS1 : Hid (w1.cell? ⟨wr.heap.size, 0, none⟩ = some (.int .i64 fa) ∧ w1.cell? ⟨wr.heap.size, 1, none⟩ = some (.int .i64 fb) ∧ w1.cell? ⟨wr.heap.size, 2, none⟩ = some (.int .i64 fc)) := by
        have hb := hg1.block wr.heap.size hsz (by simpa using hne)
        exact ⟨(World.cell?_of_block (a := ⟨wr.heap.size, 0, none⟩) hb).trans HSX.out.1, (World.cell?_of_block (a := ⟨wr.heap.size, 1, none⟩) hb).trans HSX.out.2.1, (World.cell?_of_block (a := ⟨wr.heap.size, 2, none⟩) hb).trans HSX.out.2.2⟩
      have HS3 : Hid (w3.cell? ⟨wr.heap.size, 0, none⟩ = some (.int .i64 fa) ∧ w3.cell? ⟨wr.heap.size, 1, none⟩ = some (.int .i64 fb) ∧ w3.cell? ⟨wr.heap.size, 2, none⟩ = some (.int .i64 fc)) := by
        have hb := hg3.block wr.heap.size (Nat.lt_of_lt_of_le hsz hg1.size) (by simpa using hne)
        exact ⟨(World.cell?_of_block (a := ⟨wr.heap.size, 0, none⟩) hb).trans HS1.out.1, (World.cell?_of_block (a := ⟨wr.heap.size, 1, none⟩) hb).trans HS1.out.2.1, (World.cell?_of_block (a := ⟨wr.heap.size, 2, none⟩) hb).trans HS1.out.2.2⟩
      have hbX : Below w.heap.size w (wr.alloc (.cells #[.int .i64 fa, .int .i64 fb, .int .i64 fc] 24)).drew := hbox.drew
      have hb1 : Below w.heap.size w w1 := hbX.grown hg1 hbX.size (fun k hk => by cases hk; exact Nat.le_refl _)
      have hb3 : Below w.heap.size w w3 := hb1.grown hg3 hb1.size (fun k hk => by cases hk; exact Nat.le_refl _)
      have HE : Hid ((∃ D, w3.ownsMap Try.prog 24 encC w.heap.size (j + 1) D ∧ HoldC D (cntO f (j + 1))) ∧ Below w.heap.size w w3) :=
        ⟨⟨_, hown3, (hH.put hownX.isMap HW.out _ (by omega)).congr (fun x => by
          unfold putC
          conv => rhs; unfold cntO
          rw [HXF.out]
          by_cases c : x = (fa, fb, fc)
          · rw [if_pos c, if_pos c.symm, c]
          · rw [if_neg c, if_neg (fun e => c e.symm)]; rfl)⟩, hb3⟩
      obtain ⟨q, hq⟩ : ∃ q, cntO f j (fa, fb, fc) = q := ⟨_, rfl⟩
      have hq1 : q ≤ j := hq ▸ cntO_le f _ j
      rw [hq] at hlk hent hl1 hsto
      have hwq : IntKind.i64.wrap ((q : Int) + 1) = (q : Int) + 1 := by rw [IntKind.wrap_i64]; omega
      have hLX := hlk
      have hL1 := hl1
      unfold kV at hent hLX hL1
      unfold goInt at hsto
      clear hown3 hg1 hg3 hH hown hownX hbX hb1 hb3 hlk hl1 hbox hwf hq hsz
      go_wp2_with fail
      refine wp_region_held_drew (S := (fun w' : World => w'.cell? ⟨wr.heap.size, 0, none⟩ = some (.int .i64 fa) ∧ w'.cell? ⟨wr.heap.size, 1, none⟩ = some (.int .i64 fb) ∧ w'.cell? ⟨wr.heap.size, 2, none⟩ = some (.int .i64 fc))) (by kernel_rfl) ?_ (fun hHeld => ?_)
      · exact HSX.out
      generalize (wr.alloc (.cells #[.int .i64 fa, .int .i64 fb, .int .i64 fc] 24)).drew = X at *
      refine wpAnyH_take (i := 0) (oi := { dst := some 13, op := Op.move (Operand.tmp 3), type := 52, pos := _, after := _, guard := none }) (v := ?_) rfl (by kernel_rfl) (by kernel_rfl) (by kernel_rfl) (fun _ _ _ h => h) (Or.inl ⟨by rfl, ?_⟩) (by assumption) ?_
      rotate_left
      · intro wS hSw; (try dsimp only at hSw); go_simp; first | done | with_reducible rfl
      try simp only [Act.put, List.setIfInBounds_toArray, List.set_cons_zero, List.set_cons_succ]
      refine wpAnyH_take (i := 1) (oi := { dst := some 14, op := Op.load 24 (Operand.tmp 5), type := 24, pos := _, after := _, guard := none }) (v := ?_) rfl (by kernel_rfl) (by kernel_rfl) (by kernel_rfl) (fun _ _ _ h => h) (Or.inl ⟨by rfl, ?_⟩) (by assumption) ?_
      rotate_left
      · intro wS hSw; (try dsimp only at hSw); go_simp; first | done | with_reducible rfl
      try simp only [Act.put, List.setIfInBounds_toArray, List.set_cons_zero, List.set_cons_succ]
      refine wpAnyH_ready (rs := [2, 4]) (by kernel_rfl) (by simp) ?_
      refine AllReadyH.cons (o := { dst := some 15, op := Op.lookup 52 (Operand.tmp 13) (Operand.tmp 14) false, type := 3, pos := _, after := _, guard := none }) rfl (fun K hK => ?_) (AllReadyH.cons (o := { dst := some 17, op := Op.mapEntry 52 (Operand.tmp 13) (Operand.tmp 14), type := 0, pos := _, after := _, guard := none }) rfl (fun K hK => ?_) AllReadyH.nil)
      · go_simp
        refine hK.out _ _ ?_ (fun hHeld => ?_)
        · exact HSX.out
        clear hK K
        try simp only [Act.put, List.setIfInBounds_toArray, List.set_cons_zero, List.set_cons_succ]
        refine wpAnyH_take (i := 3) (oi := { dst := some 16, op := Op.binOp BinOp.add 3 (Operand.tmp 15) (Operand.const (Value.int IntKind.i64 1)) 3, type := 3, pos := _, after := _, guard := none }) (v := ?_) rfl (by kernel_rfl) (by kernel_rfl) (by kernel_rfl) (fun _ _ _ h => h) (Or.inl ⟨by rfl, ?_⟩) (by assumption) ?_
        rotate_left
        · intro wS hSw; (try dsimp only at hSw); go_simp; first | done | with_reducible rfl
        try simp only [Act.put, List.setIfInBounds_toArray, List.set_cons_zero, List.set_cons_succ]
        refine wpAnyH_ready (rs := [4]) (by kernel_rfl) (by simp) ?_
        refine AllReadyH.cons (o := { dst := some 17, op := Op.mapEntry 52 (Operand.tmp 13) (Operand.tmp 14), type := 0, pos := _, after := _, guard := none }) rfl (fun K hK => ?_) AllReadyH.nil
        go_simp
        refine hK.out _ _ ?_ (fun hHeld => ?_)
        · exact HS1.out
        clear hK K
        try simp only [Act.put, List.setIfInBounds_toArray, List.set_cons_zero, List.set_cons_succ]
        refine wpAnyH_take (i := 5) (oi := { dst := some 18, op := Op.extract (Operand.tmp 17) 1, type := 3, pos := _, after := _, guard := none }) (v := ?_) rfl (by kernel_rfl) (by kernel_rfl) (by kernel_rfl) (fun _ _ _ h => h) (Or.inl ⟨by rfl, ?_⟩) (by assumption) ?_
        rotate_left
        · intro wS hSw; (try dsimp only at hSw); go_simp; first | done | with_reducible rfl
        try simp only [Act.put, List.setIfInBounds_toArray, List.set_cons_zero, List.set_cons_succ]
        refine wpAnyH_ready (rs := [6]) (by kernel_rfl) (by simp) ?_
        refine AllReadyH.cons (o := { dst := none, op := Op.entryStore 52 (Operand.tmp 13) (Operand.tmp 18) (Operand.tmp 16), type := 0, pos := _, after := _, guard := none }) rfl (fun K hK => ?_) AllReadyH.nil
        go_simp
        refine hK.out _ _ ?_ (fun hHeld => ?_)
        · exact HS3.out
        clear hK K
        try simp only [Act.put, List.setIfInBounds_toArray, List.set_cons_zero, List.set_cons_succ]
        refine wpAnyH_done (by kernel_rfl) ?_ _
        go_wp2_with fail
        go_roundw
        case rel => exact ⟨j + 1, by omega, by first | rfl | go_num, HE.out.1, HE.out.2⟩
        case measure => simp [intOf]; omega
      · go_simp
        refine hK.out _ _ ?_ (fun hHeld => ?_)
        · exact HS1.out
        clear hK K
        try simp only [Act.put, List.setIfInBounds_toArray, List.set_cons_zero, List.set_cons_succ]
        refine wpAnyH_take (i := 5) (oi := { dst := some 18, op := Op.extract (Operand.tmp 17) 1, type := 3, pos := _, after := _, guard := none }) (v := ?_) rfl (by kernel_rfl) (by kernel_rfl) (by kernel_rfl) (fun _ _ _ h => h) (Or.inl ⟨by rfl, ?_⟩) (by assumption) ?_
        rotate_left
        · intro wS hSw; (try dsimp only at hSw); go_simp; first | done | with_reducible rfl
        try simp only [Act.put, List.setIfInBounds_toArray, List.set_cons_zero, List.set_cons_succ]
        refine wpAnyH_ready (rs := [2]) (by kernel_rfl) (by simp) ?_
        refine AllReadyH.cons (o := { dst := some 15, op := Op.lookup 52 (Operand.tmp 13) (Operand.tmp 14) false, type := 3, pos := _, after := _, guard := none }) rfl (fun K hK => ?_) AllReadyH.nil
        go_simp
        refine hK.out _ _ ?_ (fun hHeld => ?_)
        · exact HS1.out
        clear hK K
        try simp only [Act.put, List.setIfInBounds_toArray, List.set_cons_zero, List.set_cons_succ]
        refine wpAnyH_take (i := 3) (oi := { dst := some 16, op := Op.binOp BinOp.add 3 (Operand.tmp 15) (Operand.const (Value.int IntKind.i64 1)) 3, type := 3, pos := _, after := _, guard := none }) (v := ?_) rfl (by kernel_rfl) (by kernel_rfl) (by kernel_rfl) (fun _ _ _ h => h) (Or.inl ⟨by rfl, ?_⟩) (by assumption) ?_
        rotate_left
        · intro wS hSw; (try dsimp only at hSw); go_simp; first | done | with_reducible rfl
        try simp only [Act.put, List.setIfInBounds_toArray, List.set_cons_zero, List.set_cons_succ]
        refine wpAnyH_ready (rs := [6]) (by kernel_rfl) (by simp) ?_
        refine AllReadyH.cons (o := { dst := none, op := Op.entryStore 52 (Operand.tmp 13) (Operand.tmp 18) (Operand.tmp 16), type := 0, pos := _, after := _, guard := none }) rfl (fun K hK => ?_) AllReadyH.nil
        go_simp
        refine hK.out _ _ ?_ (fun hHeld => ?_)
        · exact HS3.out
        clear hK K
        try simp only [Act.put, List.setIfInBounds_toArray, List.set_cons_zero, List.set_cons_succ]
        refine wpAnyH_done (by kernel_rfl) ?_ _
        go_wp2_with fail
        go_roundw
        case rel => exact ⟨j + 1, by omega, by first | rfl | go_num, HE.out.1, HE.out.2⟩
        case measure => simp [intOf]; omega
    · have hlt' : ¬ (j : Int) < n := by omega
      obtain rfl : j = n := by omega
      go_wp2_with fail
      go_ret
      obtain ⟨D, ho, hh⟩ := HM.out
      exact ⟨rfl, ⟨D, _, ho, hh⟩, hbw⟩
end Go.Proofs.Ytkaobjcghmigmaa
/- Rows of options of the call's own; slices.Repeat of one option. -/
namespace Go.Proofs.Ytkaobjcghmigmaa
open Go.RowKit

theorem run_copy3 {P : Program} (w : World) (dT sT ty elem : TypeId) (b o dLen dCap : Nat) (a : Addr) (sLen sCap m : Nat) (cs : List Value)
    (hu : P.underlying dT = some (.slice elem)) (hs : (P.info? elem).map (·.size) = some 3) (hm : m = Nat.min sLen dLen) (hn : cs.length = m * 3)
    (hsrc : ∀ j v, cs[j]? = some v → w.cell? (a.add j) = some v) (hc : ∀ j, j < cs.length → (w.cell? ⟨b, o + j, none⟩).isSome = true) (hf : ∀ j, j < cs.length → w.frozen? ⟨b, o + j, none⟩ = false) (h1 : ∀ v ∈ cs, v.oneCell' = true) :
    (Builtin.copy_ #[dT, sT] ty #[.slice (some ⟨b, o, none⟩) dLen dCap, .slice (some a) sLen sCap]).run P w = .ok (goInt m) (w.setCells b o cs) := by
  have hl := run_loadCells_list (P := P) w a cs hsrc
  have hst := run_storeCells_cells (P := P) b o cs 0 w (by simpa using hc) (by simpa using hf) h1
  cases hq : P.info? elem with
  | none => simp [hq] at hs
  | some i =>
    have hi : i.size = 3 := by simpa [hq] using hs
    simp [Builtin.copy_, run_underlying hu, Builtin.lenOf, Builtin.firstCells, sizeOf, typeInfo, hq, hi, ← hm, ← hn, hl, hst]

theorem and_mask (n : Nat) (hn : n ≤ 1000) : bits .and .u64 (n : Int) 4294967295 = n := by
  have := bits_and_u64_nat n 4294967295 (by omega) (by omega)
  rw [show (4294967295 : Nat) = 2 ^ 32 - 1 by decide, Nat.and_two_pow_sub_one_eq_mod n 32] at this
  rw [show ((4294967295 : Int)) = ((2 ^ 32 - 1 : Nat) : Int) by decide, this]
  have : n % 2 ^ 32 = n := Nat.mod_eq_of_lt (by omega)
  rw [this]
set_option maxHeartbeats 1000000 in
set_option maxRecDepth 100000 in
theorem mul64_one (n : Nat) (w : World) (hn : n ≤ 1000) :
    Calls Try.prog 54 #[.int .u64 1, .int .u64 n] w fun e w' => e = .returned (.tuple #[.int .u64 0, .int .u64 n]) ∧ w' = w := by
  have k0 := and_mask n hn
  have k2 := and_mask 1 (by omega)
  have k3 := and_mask 0 (by omega)
  simp only [Int.natCast_one, Int.natCast_zero] at k2 k3
  have k1 : (n : Int) / 4294967296 = 0 := by omega
  go_enter Try.func54, Try.ntmps54
  go_wp2
  go_ret2
  exact ⟨rfl, rfl⟩

theorem mulU_any (n : Nat) (w : World) (hn : n ≤ 1000) :
    Calls Try.prog 42 #[.int .u64 1, .int .u64 n] w fun e w' => e = .returned (.tuple #[.int .u64 0, .int .u64 n]) ∧ w' = w := by
  go_enter Try.func42, Try.ntmps42
  go_wp2_with fail
  refine (mul64_one n _ hn).mono ?_
  rintro e w2 ⟨rfl, rfl⟩
  go_wp2
  go_ret2
  exact ⟨rfl, rfl⟩
end Go.Proofs.Ytkaobjcghmigmaa
/- slices.Repeat of one option. -/
namespace Go.Proofs.Ytkaobjcghmigmaa
open Go.RowKit

theorem step_copy_run {P : Program} {ops : Array Oper} {o : Oper} {a : Act} {w : World} {K : Act → World → Prop} {Q : Exit → Act → World → Prop} {E : Prop} (hgd : o.guard = none) (d s : Operand) (t t' : TypeId)
    (ho : o.op = .call { callee := .builtin .copy, args := #[d, s], argTypes := #[t, t'] }) (v u : Value) (hd : a.eval d = v) (hs : a.eval s = u) {v' : Value} {w' : World}
    (hr : (Builtin.copy_ #[t, t'] o.type #[v, u]).run P w = .ok v' w') (h : K (a.put o.dst v') w') :
    if Region.wanted o (yielded ops a.tmps) = true then Oper.wp P o a w K Q else E := by
  have hw : Region.wanted o (yielded ops a.tmps) = true := by simp [Region.wanted, hgd]
  rw [if_pos hw]
  exact Go.Lib.wp_copy_run w d s t t' ho v u hd hs hr h

theorem below_setCells {base b : Nat} {w0 : World} : ∀ (vs : List Value) (o : Nat) (w : World), Below base w0 w → base ≤ b → Below base w0 (w.setCells b o vs)
  | [], _, _, h, _ => h
  | v :: r, o, _, h, hb => below_setCells r (o + 1) _ (h.setCell (p := ⟨b, o, none⟩) hb v) hb

/-- m times one option, as cells. -/
def repO (x : Int × Int × Int) (m : Nat) : List Value := (List.replicate m x).flatMap encO
theorem repO_len (x : Int × Int × Int) : ∀ m, (repO x m).length = m * 3
  | 0 => rfl
  | m + 1 => by
    have := repO_len x m
    unfold repO at *
    rw [List.replicate_succ, List.flatMap_cons, List.length_append, this]
    simp [encO]; omega
theorem repO_get (x : Int × Int × Int) : ∀ m t, t < m * 3 → (repO x m)[t]? = (encO x)[t % 3]?
  | 0, t, h => by omega
  | m + 1, t, h => by
    have ih := repO_get x m
    unfold repO at *
    rw [List.replicate_succ, List.flatMap_cons]
    by_cases c : t < 3
    · rw [List.getElem?_append_left (by simp [encO]; omega), Nat.mod_eq_of_lt c]
    · rw [List.getElem?_append_right (by simp [encO]; omega), show (encO x).length = 3 from rfl, ih (t - 3) (by omega)]
      congr 1; omega
theorem encO_get (x : Int × Int × Int) (t : Nat) : ∃ v, (encO x)[t % 3]? = some v ∧ v.oneCell' = true := by
  rcases (show t % 3 = 0 ∨ t % 3 = 1 ∨ t % 3 = 2 by omega) with h | h | h <;> rw [h] <;> exact ⟨_, rfl, rfl⟩
theorem repO_one (x : Int × Int × Int) (m : Nat) : ∀ v ∈ repO x m, v.oneCell' = true := by
  intro v hv
  unfold repO at hv
  obtain ⟨y, _, hy⟩ := List.mem_flatMap.1 hv
  simp [encO] at hy
  rcases hy with rfl | rfl | rfl <;> rfl

/-- A block that is filled with one option from the front. -/
structure Fill (g n : Nat) (x : Int × Int × Int) (w wr : World) (j : Nat) : Prop where
  there : ∀ t, t < n * 3 → (wr.cell? ⟨g, t, none⟩).isSome = true
  free : ∀ t, t < n * 3 → wr.frozen? ⟨g, t, none⟩ = false
  holds : ∀ t, t < j * 3 → wr.cell? ⟨g, t, none⟩ = (encO x)[t % 3]?
  below : Below w.heap.size w wr
theorem Fill.drew {g n : Nat} {x : Int × Int × Int} {w wr : World} {j : Nat} (h : Fill g n x w wr j) : Fill g n x w wr.drew j := ⟨h.there, h.free, h.holds, h.below.drew⟩
theorem Fill.more {g n : Nat} {x : Int × Int × Int} {w wr : World} {j m : Nat} (h : Fill g n x w wr j) (hg : w.heap.size ≤ g) (hm : j + m ≤ n) : Fill g n x w (wr.setCells g (j * 3) (repO x m)) (j + m) := by
  have hin := World.cell?_setCells_in g (repO x m) (j * 3) wr (fun t ht => h.there _ (by rw [repO_len] at ht; omega))
  have hout := World.cell?_setCells_out g (repO x m) (j * 3) wr
  have all : ∀ t, t < (j + m) * 3 → (wr.setCells g (j * 3) (repO x m)).cell? ⟨g, t, none⟩ = (encO x)[t % 3]? := fun t ht => by
    by_cases c : t < j * 3
    · rw [hout ⟨g, t, none⟩ (fun _ _ => Or.inl c)]; exact h.holds t c
    · have hl : t - j * 3 < (repO x m).length := by rw [repO_len]; omega
      have := hin (t - j * 3) hl
      rw [show j * 3 + (t - j * 3) = t by omega] at this
      rw [this, ← List.getElem?_eq_getElem hl, repO_get x m _ (by omega)]
      congr 1; omega
  refine ⟨fun t ht => ?_, fun t ht => (World.frozen?_setCells g _ _ _ _).trans (h.free t ht), all, below_setCells _ _ _ h.below hg⟩
  by_cases c : t < (j + m) * 3
  · rw [all t c]; obtain ⟨v, hv, _⟩ := encO_get x t; rw [hv]; rfl
  · rw [hout ⟨g, t, none⟩ (fun _ _ => Or.inr (by rw [repO_len]; show _ ≤ t; omega))]; exact h.there t ht
theorem Fill.copy {g n : Nat} {x : Int × Int × Int} {w wr : World} {j m : Nat} (h : Fill g n x w wr j) (hm : m = Nat.min j (n - j)) (hj : j < n) (c1 c2 : Nat) (ty : TypeId) :
    (Builtin.copy_ #[22, 22] ty #[.slice (some ⟨g, j * 3, none⟩) (n - j) c1, .slice (some ⟨g, 0, none⟩) j c2]).run Try.prog wr = .ok (goInt m) (wr.setCells g (j * 3) (repO x m)) := by
  have hmj : m ≤ j := by rw [hm]; exact Nat.min_le_left _ _
  have hmn : m ≤ n - j := by rw [hm]; exact Nat.min_le_right _ _
  refine run_copy3 wr _ _ ty 24 g (j * 3) (n - j) c1 ⟨g, 0, none⟩ j c2 m (repO x m) Try.underlying22 (by kernel_rfl) hm (repO_len x m) (fun t v hv => ?_) (fun t ht => h.there _ (by rw [repO_len] at ht; omega)) (fun t ht => h.free _ (by rw [repO_len] at ht; omega)) (repO_one x m)
  have ht : t < m * 3 := by rw [← repO_len x m]; exact (List.getElem?_eq_some_iff.1 hv).1
  rw [repO_get x m t ht] at hv
  rw [Go.WideShapes.add_plain, Nat.zero_add, h.holds t (by omega), hv]

def RepE (x : Int × Int × Int) (n : Nat) (w : World) (e : Ending) (w' : World) : Prop :=
  e = .returned (.slice (some ⟨w.heap.size, 0, none⟩) n n) ∧ (∀ t, t < n * 3 → w'.cell? ⟨w.heap.size, t, none⟩ = (encO x)[t % 3]?) ∧ Below w.heap.size w w'
theorem Try.infoOpt : (Try.prog.info? 24).map (fun i => (i.zero, i.size, i.bytes)) = some (some (.agg #[.int .i64 0, .int .i64 0, .int .i64 0]), 3, 24) := by kernel_rfl

set_option maxHeartbeats 2000000 in
set_option maxRecDepth 100000 in
theorem rep14_any (b n : Nat) (x : Int × Int × Int) (w : World) (hb : Thr w b x.1 x.2.1 x.2.2) (h1 : 1 ≤ n) (hn : n ≤ 1000) :
    Calls Try.prog 28 #[.slice (some ⟨b, 0, none⟩) 1 1, .int .i64 n] w (RepE x n w) := by
  obtain ⟨i0, hi, hz0, hz1, hz2⟩ := info_parts Try.infoOpt
  go_enter Try.func28, Try.ntmps28
  go_wp2_with fail
  refine (mulU_any n _ hn).mono ?_
  rintro e w2 ⟨rfl, rfl⟩
  have HF : Hid (∀ w3, w3.ownsRow w2.heap.size 24 3 (.slice (some ⟨w2.heap.size, 0, none⟩) n n) n (madeCells #[.int .i64 0, .int .i64 0, .int .i64 0] (n * 3)).toList → Below w2.heap.size w2 w3 → Fill w2.heap.size n x w2 w3 0) := fun w3 ho hb3 =>
    ⟨fun t ht => by
      rw [ho.cellAt t ht, List.getElem?_eq_getElem (by simp [madeCells]; exact ht)]; rfl, fun t _ => ho.frozenAt t, fun t ht => by omega, hb3⟩
  go_wp2_with (first
    | (at_make; refine wpList_make_full _ rfl _ _ 22 rfl w2.heap.size 24 i0 (.agg #[.int .i64 0, .int .i64 0, .int .i64 0]) 3 Try.underlying22 hi hz0 hz1 .i64 .i64 n n n rfl rfl rfl rfl (by rw [hz2]; omega) (by unfold maxLen; omega) (Nat.le_refl _) ?_; intro w3 hown hgrow))
  have hF0 := HF.out w3 hown ((Below.refl _ _).grown hgrow (Nat.le_refl _) (by intro k hk; cases hk))
  have hb3 := hb.later hF0.below
  clear hown hgrow hi hz0 hz1 hz2 HF hb
  have hr : (Builtin.copy_ #[22, 22] 3 #[.slice (some ⟨w2.heap.size, 0, none⟩) n n, .slice (some ⟨b, 0, none⟩) 1 1]).run Try.prog w3 = .ok (goInt 1) (w3.setCells w2.heap.size 0 (repO x 1)) := by
    refine run_copy3 w3 _ _ _ 24 w2.heap.size 0 n n ⟨b, 0, none⟩ 1 1 1 (repO x 1) Try.underlying22 (by kernel_rfl) (by simp [Nat.min_def]; omega) (repO_len x 1) (fun t v hv => ?_) (fun t ht => ?_) (fun t ht => ?_) (repO_one x 1)
    · rw [Go.WideShapes.add_plain, Nat.zero_add]
      match t, hv with
      | 0, hv => simp [repO, encO] at hv; rw [← hv]; exact hb3.1
      | 1, hv => simp [repO, encO] at hv; rw [← hv]; exact hb3.2.1
      | 2, hv => simp [repO, encO] at hv; rw [← hv]; exact hb3.2.2
    · rw [Nat.zero_add]; exact hF0.there t (by rw [repO_len] at ht; omega)
    · rw [Nat.zero_add]; exact hF0.free t (by rw [repO_len] at ht; omega)
  have HF1 : Hid (Fill w2.heap.size n x w2 (w3.setCells w2.heap.size 0 (repO x 1)) 1) := by
    have := hF0.more (m := 1) (Nat.le_refl _) (by omega)
    rwa [Nat.zero_mul, Nat.zero_add] at this
  rw [hr]
  simp only [Result.andThen]
  rw [Oper.upon_value]
  clear hr hF0 hb3
  generalize w3.setCells w2.heap.size 0 (repO x 1) = w4 at *
  go_wp2_with fail
  go_loopw [8] (fun v wr => ∃ j : Nat, v = .int .i64 j ∧ 1 ≤ j ∧ j ≤ n ∧ Hid (Fill w2.heap.size n x w2 wr j)) (fun v _ => ((n : Int) - intOf v).toNat)
  case atStart => exact ⟨1, rfl, by omega, by omega, HF1.out⟩
  case round =>
    obtain ⟨j, rfl, hj1, hjn, HR⟩ := hrel
    by_cases hlt : j < n
    · have hlt' : (j : Int) < n := by omega
      obtain ⟨m, hm⟩ : ∃ m, m = Nat.min j (n - j) := ⟨_, rfl⟩
      have hm1 : 1 ≤ m := hm ▸ Nat.le_min.2 ⟨hj1, by omega⟩
      have hm2 : m ≤ n - j := hm ▸ Nat.min_le_right _ _
      have hr := (HR.out.drew).copy hm hlt (n - j) n 3
      have HN : Hid (Fill w2.heap.size n x w2 (wr.drew.setCells w2.heap.size (j * 3) (repO x m)) (j + m)) := HR.out.drew.more (Nat.le_refl _) (by omega)
      have hnj : ¬ n = j := by omega
      have hw : IntKind.i64.wrap ((j : Int) + m) = (j : Int) + m := by rw [IntKind.wrap_i64]; omega
      clear hm
      go_wp2_with fail
      go_region_held3 (fun _ => True) (exact trivial)
        (first | (refine step_copy_run (by rfl) _ _ _ _ (by rfl) _ _ (by rfl) (by rfl) hr ?_))
      all_goals
        go_wp2
        go_roundw
        case rel => exact ⟨j + m, by first | rfl | go_num, by omega, by omega, HN⟩
        case measure => simp [intOf]; omega
    · have hlt' : ¬ (j : Int) < n := by omega
      obtain rfl : j = n := by omega
      go_wp2
      go_ret
      exact ⟨rfl, HR.out.holds, HR.out.below⟩
end Go.Proofs.Ytkaobjcghmigmaa
/- Sort: what it holds on the way; what is sorted. -/
namespace Go.Proofs.Ytkaobjcghmigmaa
open Go.RowKit Go.Maps Go.WideMaps
open Go.Sort (SWO swp HoldsK putRowK PermIn SortedIn)

/-- Options as cells. -/
def flatO (S : List (Int × Int × Int)) : List Value := S.flatMap encO
theorem flatO_len (S : List (Int × Int × Int)) : (flatO S).length = S.length * 3 := by
  unfold flatO
  induction S with
  | nil => rfl
  | cons a S ih => rw [List.flatMap_cons, List.length_append, ih]; simp [encO]; omega
theorem flatO_app (S T : List (Int × Int × Int)) : flatO (S ++ T) = flatO S ++ flatO T := by unfold flatO; rw [List.flatMap_append]
theorem flatO_get (S : List (Int × Int × Int)) : ∀ t, t < S.length * 3 → (flatO S)[t]? = (encO (S.getD (t / 3) (0, 0, 0)))[t % 3]? := by
  unfold flatO
  induction S with
  | nil => intro t h; simp at h
  | cons a S ih =>
    intro t h
    rw [List.flatMap_cons]
    by_cases c : t < 3
    · rw [List.getElem?_append_left (by simp [encO]; omega), Nat.mod_eq_of_lt c, show t / 3 = 0 by omega]; rfl
    · rw [List.getElem?_append_right (by simp [encO]; omega), show (encO a).length = 3 from rfl, ih (t - 3) (by simp at h; omega)]
      obtain ⟨u, rfl⟩ : ∃ u, t = u + 3 := ⟨t - 3, by omega⟩
      rw [show u + 3 - 3 = u by omega, show (u + 3) / 3 = u / 3 + 1 by omega, show (u + 3) % 3 = u % 3 by omega]
      rfl
def OwnO (w : World) (base : Nat) (v : Value) (S : List (Int × Int × Int)) : Prop := w.ownsRow base 24 3 v S.length (flatO S)
theorem OwnO.kept {w w' : World} {base : Nat} {v : Value} {S : List (Int × Int × Int)} {row : Option Nat} (h : OwnO w base v S) (hg : w.grownBy w' row) (hne : ∀ g, v.ownBlock = some g → some g ≠ row) : OwnO w' base v S := by
  obtain ⟨hl, h⟩ := h
  refine ⟨hl, ?_⟩
  rcases h with h | ⟨g, cap, cur, rfl, hb, hh, h1, h2, h3, h4⟩
  · exact Or.inl h
  · have hlt := (Array.getElem?_eq_some_iff.1 hh).1
    exact Or.inr ⟨g, cap, cur, rfl, hb, (hg.block g hlt (hne g rfl)).trans hh, h1, h2, h3, h4⟩
theorem OwnO.later {w w' : World} {base : Nat} {v : Value} {S : List (Int × Int × Int)} (h : OwnO w base v S) (hb : Below w.heap.size w w') : OwnO w' base v S := h.kept (grown_below14 hb) (fun g _ => by simp)
theorem OwnO.low {w : World} {base : Nat} {v : Value} {S : List (Int × Int × Int)} (h : OwnO w base v S) : ∀ k, v.ownBlock = some k → base ≤ k ∧ k < w.heap.size := fun k e => by
  obtain ⟨_, ⟨rfl, _⟩ | ⟨g, cap, cur, rfl, hb, hh, _⟩⟩ := h
  · cases e
  · cases e; exact ⟨hb, (Array.getElem?_eq_some_iff.1 hh).1⟩
/-- Its block is no map's, no iterator's, and not that of a variable that holds a list. -/
theorem OwnO.apart {w : World} {base b : Nat} {v : Value} {S : List (Int × Int × Int)} (h : OwnO w base v S) (hn : ∀ cur, w.heap[b]? ≠ some (.cells cur 24 (0, 0))) : some b ≠ v.ownBlock := fun e => by
  obtain ⟨_, ⟨rfl, _⟩ | ⟨g, cap, cur, rfl, hb, hh, _⟩⟩ := h
  · cases e
  · cases e; exact hn cur hh
theorem ranges_apart {w : World} {b r n : Nat} {D : DataW Unit} {left : Lit → Bool} {cnt : Nat} (h : w.ranges Try.prog 24 encC b r n D left cnt) : (∀ cur, w.heap[b]? ≠ some (.cells cur 24 (0, 0))) ∧ ∀ cur, w.heap[r]? ≠ some (.cells cur 24 (0, 0)) := by
  obtain ⟨es, clock, since, seen, c0, hb, _, _, _, hr, _⟩ := h
  exact ⟨fun cur e => (by rw [hb] at e; cases e), fun cur e => (by rw [hr] at e; cases e)⟩

/-- The variable that holds the list. -/
def Vr (w : World) (p : Nat) (v : Value) : Prop := w.heap[p]? = some (.cells #[v] 22 (0, 0))
theorem Vr.apart {w : World} {p : Nat} {v : Value} (h : Vr w p v) : ∀ cur, w.heap[p]? ≠ some (.cells cur 24 (0, 0)) := fun cur e => by
  unfold Vr at h
  rw [h] at e
  simp at e
theorem Vr.cell {w : World} {p : Nat} {v : Value} (h : Vr w p v) : w.cell? ⟨p, 0, none⟩ = some v ∧ w.frozen? ⟨p, 0, none⟩ = false := by
  unfold Vr at h
  exact ⟨by simp [World.cell?, h], by simp [World.frozen?, h]⟩
theorem Vr.lt {w : World} {p : Nat} {v : Value} (h : Vr w p v) : p < w.heap.size := (Array.getElem?_eq_some_iff.1 h).1
theorem Vr.kept {w w' : World} {p : Nat} {v : Value} {row : Option Nat} (h : Vr w p v) (hg : w.grownBy w' row) (hne : some p ≠ row) : Vr w' p v := (hg.block p h.lt hne).trans h
theorem Vr.put {w : World} {p : Nat} {v : Value} (h : Vr w p v) (u : Value) : Vr (w.setCell ⟨p, 0, none⟩ u) p u := by
  unfold Vr at *
  simp [World.setCell, Array.getElem?_modify, h]
theorem Vr.new (w : World) (v : Value) : Vr (w.alloc (.cells #[v] 22)) w.heap.size v := by
  unfold Vr; exact heap_alloc_last w _

theorem len_le_of_count : ∀ (S l : List (Int × Int × Int)), (∀ x, S.count x ≤ l.count x) → S.length ≤ l.length
  | [], _, _ => by simp
  | a :: S, l, h => by
    have ha : a ∈ l := by
      have := h a
      rw [List.count_cons_self] at this
      exact List.count_pos_iff.1 (by omega)
    have ih := len_le_of_count S (l.erase a) (fun x => by
      have := h x
      rw [List.count_erase]
      by_cases c : a = x
      · subst c; rw [List.count_cons_self] at this; simp; omega
      · rw [List.count_cons_of_ne c] at this
        have : (a == x) = false := by simpa using c
        rw [this]; simp; omega)
    have := List.length_erase_of_mem ha
    have := List.length_pos_of_mem ha
    simp; omega
def lstO (f : Nat → Int × Int × Int) (n : Nat) : List (Int × Int × Int) := (List.range n).map f
theorem lstO_count (f : Nat → Int × Int × Int) (x : Int × Int × Int) : ∀ n, (lstO f n).count x = cntO f n x
  | 0 => rfl
  | n + 1 => by
    unfold lstO cntO
    rw [List.range_succ, List.map_append, List.count_append]
    have := lstO_count f x n
    unfold lstO at this
    rw [this]
    congr 1
    by_cases c : f n = x
    · simp [c]
    · simp [c]
end Go.Proofs.Ytkaobjcghmigmaa
/- Walks of package option: Sort. -/
namespace Go.Proofs.Ytkaobjcghmigmaa
open Go.RowKit Go.Maps Go.WideMaps
open Go.Sort (SWO swp HoldsK putRowK PermIn SortedIn)

def leftO (left : Lit → Bool) (x : Int × Int × Int) : Lit → Bool := fun z => left z && !z.sameKey (kL x)
theorem leftO_same (left : Lit → Bool) {x : Int × Int × Int} (hx : wfO x) : leftO left x (kL x) = false := by unfold leftO; rw [WideAt.sameKey_self (kL_key hx)]; simp
theorem leftO_other (left : Lit → Bool) {x y : Int × Int × Int} (hx : wfO x) (hy : wfO y) (h : y ≠ x) : leftO left x (kL y) = left (kL y) := by unfold leftO; rw [sameKey_ne (kL_ne hy hx h)]; simp

/-- What Sort holds while it goes over the map. -/
structure Srs (base sb mb rb N : Nat) (D : DataW Unit) (left : Lit → Bool) (cnt : Nat) (v : Value) (S : List (Int × Int × Int)) (w : World) : Prop where
  rng : w.ranges Try.prog 24 encC mb rb N D left cnt
  var : Vr w sb v
  own : OwnO w base v S
theorem Srs.ne {base sb mb rb N : Nat} {D : DataW Unit} {left : Lit → Bool} {cnt : Nat} {v : Value} {S : List (Int × Int × Int)} {w : World} (h : Srs base sb mb rb N D left cnt v S w) : some mb ≠ v.ownBlock ∧ some rb ≠ v.ownBlock ∧ some sb ≠ v.ownBlock :=
  ⟨h.own.apart (ranges_apart h.rng).1, h.own.apart (ranges_apart h.rng).2, h.own.apart h.var.apart⟩
theorem Srs.ne2 {base sb mb rb N : Nat} {D : DataW Unit} {left : Lit → Bool} {cnt : Nat} {v : Value} {S : List (Int × Int × Int)} {w : World} (h : Srs base sb mb rb N D left cnt v S w) : mb ≠ sb ∧ rb ≠ sb := by
  obtain ⟨es, clock, since, seen, c0, hb, _, _, _, hr, _⟩ := h.rng
  have hv := h.var
  unfold Vr at hv
  exact ⟨fun e => (by rw [e, hv] at hb; cases hb), fun e => (by rw [e, hv] at hr; cases hr)⟩
theorem Srs.later {base sb mb rb N : Nat} {D : DataW Unit} {left : Lit → Bool} {cnt : Nat} {v : Value} {S : List (Int × Int × Int)} {w w' : World} (h : Srs base sb mb rb N D left cnt v S w) (hb : Below w.heap.size w w') : Srs base sb mb rb N D left cnt v S w' :=
  ⟨h.rng.kept (grown_below14 hb) (by simp) (by simp), h.var.kept (grown_below14 hb) (by simp), h.own.later hb⟩
/-- A step of the range itself. -/
theorem Srs.next {base sb mb rb N : Nat} {D : DataW Unit} {left left' : Lit → Bool} {cnt cnt' : Nat} {v : Value} {S : List (Int × Int × Int)} {w w' : World} (h : Srs base sb mb rb N D left cnt v S w) (hr : w'.ranges Try.prog 24 encC mb rb N D left' cnt') (hg : w.grownBy w' (some rb)) : Srs base sb mb rb N D left' cnt' v S w' :=
  ⟨hr, h.var.kept hg (fun e => h.ne2.2 (by cases e; rfl)), h.own.kept hg (fun g hgo e => h.ne.2.1 (by rw [← e, ← hgo]))⟩
theorem grown_set14 (w : World) (p : Nat) (u : Value) : w.grownBy (w.setCell ⟨p, 0, none⟩ u) (some p) := ⟨rfl, rfl, rfl, by simp, fun k _ hne => Below.heap_setCell _ _ _ _ (fun e => hne (by rw [e]))⟩
/-- Options are appended, and the list is laid back. -/
theorem Srs.put {base sb mb rb N : Nat} {D : DataW Unit} {left : Lit → Bool} {cnt : Nat} {v v' : Value} {S S' : List (Int × Int × Int)} {w w' : World} (h : Srs base sb mb rb N D left cnt v S w) (ho : OwnO w' base v' S') (hg : w.grownBy w' v.ownBlock) :
    Srs base sb mb rb N D left cnt v' S' (w'.setCell ⟨sb, 0, none⟩ v') := by
  have hv := h.var.kept hg h.ne.2.2
  exact ⟨(h.rng.kept hg h.ne.1 h.ne.2.1).kept (grown_set14 _ _ _) (fun e => h.ne2.1 (by cases e; rfl)) (fun e => h.ne2.2 (by cases e; rfl)), hv.put v',
    ho.kept (grown_set14 _ _ _) (fun g hgo e => ho.apart hv.apart (by rw [← e, ← hgo]))⟩
/-- How many there are of each on the way. -/
def CntS (C : Int × Int × Int → Nat) (left : Lit → Bool) (S : List (Int × Int × Int)) : Prop := (∀ x, wfO x → S.count x = if left (kL x) = true then 0 else C x) ∧ ∀ x, x ∈ S → wfO x
theorem CntS.more {C : Int × Int × Int → Nat} {left : Lit → Bool} {S : List (Int × Int × Int)} {x : Int × Int × Int} (h : CntS C left S) (hx : wfO x) (hl : left (kL x) = true) : CntS C (leftO left x) (S ++ List.replicate (C x) x) := by
  refine ⟨fun y hy => ?_, fun y hy => ?_⟩
  · rw [List.count_append, h.1 y hy, List.count_replicate]
    by_cases c : y = x
    · subst c
      rw [hl, leftO_same left hx]; simp
    · rw [leftO_other left hx hy c]
      have : (x == y) = false := by simpa using fun e => c e.symm
      rw [this]; simp
  · rcases List.mem_append.1 hy with h1 | h1
    · exact h.2 y h1
    · rw [List.eq_of_mem_replicate h1]; exact hx
theorem cntO_wf {f : Nat → Int × Int × Int} {x : Int × Int × Int} : ∀ n, (∀ i, i < n → wfO (f i)) → ¬ wfO x → cntO f n x = 0
  | 0, _, _ => rfl
  | n + 1, h, hx => by
    unfold cntO
    rw [cntO_wf n (fun i hi => h i (by omega)) hx, if_neg (fun e => hx (by rw [← e]; exact h n (by omega)))]
theorem CntS.le {f : Nat → Int × Int × Int} {n : Nat} {left : Lit → Bool} {S : List (Int × Int × Int)} (h : CntS (cntO f n) left S) : S.length ≤ n := by
  have := len_le_of_count S (lstO f n) (fun x => by
    rw [lstO_count]
    by_cases hx : wfO x
    · rw [h.1 x hx]; split <;> omega
    · rw [List.count_eq_zero.2 (fun hm => hx (h.2 x hm))]; omega)
  simpa [lstO] using this
theorem CntS.fin {f : Nat → Int × Int × Int} {n : Nat} {left : Lit → Bool} {S : List (Int × Int × Int)} (h : CntS (cntO f n) left S) (hl : ∀ kl, left kl = false) (hf : ∀ i, i < n → wfO (f i)) : S.Perm (lstO f n) := by
  rw [List.perm_iff_count]
  intro x
  rw [lstO_count]
  by_cases hx : wfO x
  · rw [h.1 x hx, hl]; rfl
  · rw [List.count_eq_zero.2 (fun hm => hx (h.2 x hm)), cntO_wf n hf hx]

/-- The step of a range over such a map. -/
theorem next_opt {w : World} {ops : Array Oper} {rest : List Oper} {o : Oper} {act : Act} {Q : Exit → Act → World → Prop} (hg : o.guard = none) (it : Operand) (hop : o.op = Op.next it false)
    (b r N : Nat) (D : DataW Unit) (left : Lit → Bool) (cnt : Nat) (C : Int × Int × Int → Nat) (hit : act.eval it = .pointer (some ⟨r, 0, none⟩)) (h : w.ranges Try.prog 24 encC b r N D left cnt) (hH : HoldC D C)
    (hDone : (∀ kl, left kl = false) → wpList Try.prog ops Q rest (act.put o.dst (.tuple #[.bool false])) w)
    (hMore : ∀ (x : Int × Int × Int) (w' : World) (cnt' : Nat), wfO x → 0 < C x → left (kL x) = true → w'.ranges Try.prog 24 encC b r N D (leftO left x) cnt' → cnt' < cnt → w.grownBy w' (some r) → w'.heap.size = w.heap.size →
      (Instr.entry (.pointer (some ⟨r, 0, none⟩))).run Try.prog w' = .ok (.tuple #[kV x, .int .i64 (C x)]) w' →
      wpList Try.prog ops Q rest (act.put o.dst (.tuple #[.bool true, kV x, .int .i64 (C x)])) w') :
    wpList Try.prog ops Q (o :: rest) act w := by
  refine wpList_next_ranges w hg it hop 24 keysO encC kV (Value.int .i64) (fun key kl hkey => by obtain ⟨x, e, _⟩ := kV_of hkey; exact ⟨x, e⟩) (fun v y hv => by obtain ⟨q, e, _⟩ := encC_is hv; exact ⟨q, e⟩)
    b r N D left cnt hit h (fun _ h => hDone h) (fun x c kl y w' cnt' hkey hlk hv hat hrg hlt hgr hsz hen => ?_)
  obtain ⟨x', ex, hx⟩ := kV_of hkey
  obtain rfl := kV_inj ex
  have hkl : kl = kL x := by have := kL_is hx; rw [hkey] at this; exact Option.some.inj this
  subst hkl
  obtain ⟨q, eq, rfl⟩ := encC_is hv
  cases eq
  have h1 := hat (dC 0)
  rw [hH.at_ x hx] at h1
  unfold dC at h1
  simp at h1
  obtain ⟨x2, hx2, he, hp⟩ := hH.keys _ (has_true_of_atKey hat)
  have e2 : x = x2 := Classical.byContradiction fun hn => kL_ne hx hx2 hn he
  subst e2
  rw [← h1] at hen ⊢
  exact hMore x w' cnt' hx hp hlk hrg hlt hgr hsz hen
end Go.Proofs.Ytkaobjcghmigmaa
/- Sort: appending a row of one option; from the list made to the row that is sorted. -/
namespace Go.Proofs.Ytkaobjcghmigmaa
open Go.RowKit Go.Maps Go.WideMaps
open Go.Sort (SWO swp HoldsK putRowK PermIn SortedIn)

theorem flatO_rep (x : Int × Int × Int) : ∀ c t, t < c * 3 → (flatO (List.replicate c x))[t]? = (encO x)[t % 3]? := fun c t h => by
  rw [flatO_get _ t (by simpa using h)]
  congr 2
  rw [List.getD_eq_getElem?_getD, List.getElem?_replicate, if_pos (by omega)]
  rfl
theorem flatO_one (S : List (Int × Int × Int)) : ∀ u ∈ flatO S, u.oneCell' = true := fun u hu => by
  unfold flatO at hu
  obtain ⟨x, _, h⟩ := List.mem_flatMap.1 hu
  simp [encO] at h
  rcases h with rfl | rfl | rfl <;> rfl
theorem wp_append_rep {w : World} {o : Oper} {act : Act} {K : Act → World → Prop} {Q : Exit → Act → World → Prop} (s x : Operand)
    (ho : o.op = .call { callee := .builtin .append, args := #[s, x], argTypes := #[22, 22] }) (base : Nat) (v : Value) (S : List (Int × Int × Int)) (b c : Nat) (q : Int × Int × Int)
    (hs : act.eval s = v) (hown : OwnO w base v S) (hv : v ≠ .slice none 0 0) (hx : act.eval x = .slice (some ⟨b, 0, none⟩) c c) (hc : ∀ t, t < c * 3 → w.cell? ⟨b, t, none⟩ = (encO q)[t % 3]?) (hn : S.length + c ≤ 100000) (hbase : base ≤ w.heap.size)
    (h : ∀ v' w', OwnO w' base v' (S ++ List.replicate c q) → w.grownBy w' v.ownBlock → v' ≠ .slice none 0 0 → K (act.put o.dst v') w') : o.wp Try.prog act w K Q := by
  obtain ⟨i0, hi, hz0, hz1, hz2⟩ := info_parts Try.infoOpt
  refine wp_append_own w s x 22 ho base 24 i0 _ 3 24 Try.underlying22 hi hz0 hz1 hz2 rfl (by decide) v S.length (flatO S) hs hown ⟨b, 0, none⟩ c c (flatO (List.replicate c q)) hx (by rw [flatO_len]; simp) (fun j u hu => ?_) (flatO_one _) (by unfold maxLen; omega) (by omega) hbase ?_
  · have hj := (List.getElem?_eq_some_iff.1 hu).1
    rw [flatO_len, List.length_replicate] at hj
    rw [Go.WideShapes.add_plain, Nat.zero_add, hc j hj, ← hu, flatO_rep q c j hj]
  · intro v' w' g1 g2 g3
    refine h v' w' ?_ g2 (fun e => hv (g3.1 e).1)
    unfold OwnO
    rw [← flatO_app] at g1
    simpa using g1
theorem step_append_rep {w : World} {ops : Array Oper} {o : Oper} {act : Act} {K : Act → World → Prop} {Q : Exit → Act → World → Prop} {E : Prop} (hgd : o.guard = Option.none) (s x : Operand)
    (ho : o.op = .call { callee := .builtin .append, args := #[s, x], argTypes := #[22, 22] }) (base : Nat) (v : Value) (S : List (Int × Int × Int)) (b c : Nat) (q : Int × Int × Int)
    (hs : act.eval s = v) (hown : OwnO w base v S) (hv : v ≠ .slice none 0 0) (hx : act.eval x = .slice (some ⟨b, 0, none⟩) c c) (hc : ∀ t, t < c * 3 → w.cell? ⟨b, t, none⟩ = (encO q)[t % 3]?) (hn : S.length + c ≤ 100000) (hbase : base ≤ w.heap.size)
    (h : ∀ v' w', OwnO w' base v' (S ++ List.replicate c q) → w.grownBy w' v.ownBlock → v' ≠ .slice none 0 0 → K (act.put o.dst v') w') :
    if Region.wanted o (yielded ops act.tmps) = true then Oper.wp Try.prog o act w K Q else E := by
  have hw : Region.wanted o (yielded ops act.tmps) = true := by simp [Region.wanted, hgd]
  rw [if_pos hw]
  exact wp_append_rep s x ho base v S b c q hs hown hv hx hc hn hbase h

theorem getE (L : List (Int × Int × Int)) (j : Nat) (h : j < L.length) : L.toArray[j]! = L.getD j (0, 0, 0) := by
  rw [getElem!_pos _ j (by simpa using h), List.getD_eq_getElem?_getD, List.getElem?_eq_getElem h]; simp
/-- The list that is made, as the row that is sorted. -/
theorem OwnO.srt {w : World} {base sb : Nat} {v ty : Value} {S : List (Int × Int × Int)} (h : OwnO w base v S) (hv : v ≠ .slice none 0 0) (hvar : Vr w sb v) (hn : S.length ≤ 1000) (hty : ty = typeHandle Try.prog 24) :
    ∃ g cap, v = .slice (some ⟨g, 0, none⟩) S.length cap ∧ base ≤ g ∧ S.length ≤ cap ∧ cap ≤ maxLen ∧ Srt sb g 0 S.length cap ty w S.toArray := by
  have ha := h.apart hvar.apart
  have ho := h
  obtain ⟨_, ⟨e, _⟩ | ⟨g, cap, cur, rfl, hb, hh, h1, h2, _⟩⟩ := h
  · exact absurd e hv
  · refine ⟨g, cap, rfl, hb, h1, h2, ⟨fun j hj => ?_, hvar.cell.1, (Array.getElem?_eq_some_iff.1 hh).1, fun e => ha (by rw [e]; rfl), by simp, hn, hty⟩⟩
    have hj' : j < S.length * 3 := by simpa [Go.Sort.size_flatK] using hj
    refine ⟨?_, by rw [Nat.zero_add]; exact World.ownsRow.frozenAt ho j⟩
    rw [Nat.zero_add, World.ownsRow.cellAt ho j hj', flatO_get S j hj', Go.Sort.get_flatK _ _ _ _ (by simpa using hj'), getE S _ (by omega)]
    have hm : j % 3 < 3 := Nat.mod_lt _ (by omega)
    rw [getElem!_pos _ _ (by simpa [encO] using hm), List.getElem?_eq_getElem (by simpa [encO] using hm)]
    rfl
/-- What is sorted, as a list that is read. -/
theorem Srt.ops {Bs B n c : Nat} {ty : Value} {w : World} {d : Array (Int × Int × Int)} (h : Srt Bs B 0 n c ty w d) (h1 : n ≤ c) (h2 : c ≤ maxLen) : Ops w (.slice (some ⟨B, 0, none⟩) n c) n (fun i => d[i]!) :=
  ⟨_, c, rfl, h1, h2, fun e => (by cases e), fun _ => ⟨B, 0, rfl, fun i hi => h.at i hi⟩⟩
theorem lst_of (d : Array (Int × Int × Int)) : lstO (fun i => d[i]!) d.size = d.toList := by
  apply List.ext_getElem
  · simp [lstO]
  · intro i h1 h2
    simp [lstO] at h1 ⊢
    rw [getElem!_pos d i h1]
theorem cnt_perm {d : Array (Int × Int × Int)} {S : List (Int × Int × Int)} {f : Nat → Int × Int × Int} {n : Nat} (hd : d.size = n) (hS : S.length = n) (hp : PermIn 0 n S.toArray d) (hq : S.Perm (lstO f n)) (x : Int × Int × Int) : cntO (fun i => d[i]!) n x = cntO f n x := by
  have h1 : d.toList.Perm S := by
    have h := hp.2.2
    have e1 : d.extract 0 n = d := by subst hd; simp
    have e2 : S.toArray.extract 0 n = S.toArray := by subst hS; simp
    rw [e1, e2] at h
    simpa using h
  subst hd
  rw [← lstO_count, ← lstO_count, lst_of, (h1.trans hq).count_eq]
theorem Perm.len14 {S : List (Int × Int × Int)} {f : Nat → Int × Int × Int} {n : Nat} (hq : S.Perm (lstO f n)) : S.length = n := by have := hq.length_eq; simpa [lstO] using this
theorem cntO_pos {f : Nat → Int × Int × Int} {x : Int × Int × Int} : ∀ {n}, 0 < cntO f n x → ∃ i, i < n ∧ f i = x
  | 0, h => by simp [cntO] at h
  | n + 1, h => by
    unfold cntO at h
    by_cases c : f n = x
    · exact ⟨n, by omega, c⟩
    · rw [if_neg c] at h
      obtain ⟨i, hi, e⟩ := cntO_pos (n := n) (by omega)
      exact ⟨i, by omega, e⟩
theorem cntO_at {f : Nat → Int × Int × Int} : ∀ {n i}, i < n → 0 < cntO f n (f i)
  | n + 1, i, h => by
    unfold cntO
    by_cases c : i = n
    · subst c; rw [if_pos rfl]; omega
    · have := cntO_at (f := f) (n := n) (i := i) (by omega); omega

/-- What Sort answers. -/
def SortE (n : Nat) (f : Nat → Int × Int × Int) (w : World) (e : Ending) (w' : World) : Prop :=
  ∃ v g, e = .returned v ∧ Ops w' v n g ∧ (∀ x, cntO g n x = cntO f n x) ∧ (∀ i j, i < j → j < n → ltO (g j) (g i) = false) ∧ Below w.heap.size w w'
theorem sortE_of {n : Nat} {f : Nat → Int × Int × Int} {w wa wb : World} {S : List (Int × Int × Int)} {d : Array (Int × Int × Int)} {sb g cap : Nat} {ty : Value} (hn : S.length = n) (hq : S.Perm (lstO f n)) (hs : Srt sb g 0 n cap ty wb d) (hp : PermIn 0 n S.toArray d) (ho : SortedIn ltO 0 n d) (h1 : n ≤ cap) (h2 : cap ≤ maxLen)
    (hk : Kpt g wa wb) (hB : Below w.heap.size w wa) (hg : w.heap.size ≤ g) : SortE n f w (.returned (.slice (some ⟨g, 0, none⟩) n cap)) wb :=
  ⟨_, _, rfl, hs.ops h1 h2, cnt_perm hs.size hn hp hq, fun i j h3 h4 => ho i j (Nat.zero_le _) h3 h4, hk.from hB hg hB.size⟩
end Go.Proofs.Ytkaobjcghmigmaa
/- Walks of package option: Sort. -/
namespace Go.Proofs.Ytkaobjcghmigmaa
open Go.RowKit Go.Maps Go.WideMaps
open Go.Sort (SWO swp HoldsK putRowK PermIn SortedIn)

theorem Thr.kept3 {w w' : World} {b : Nat} {u m e : Int} {row : Option Nat} (h : Thr w b u m e) (hg : w.grownBy w' row) (hne : some b ≠ row) : Thr w' b u m e := by
  have hb := hg.block b h.lt hne
  exact ⟨(World.cell?_of_block (a := ⟨b, 0, none⟩) hb).trans h.1, (World.cell?_of_block (a := ⟨b, 1, none⟩) hb).trans h.2.1, (World.cell?_of_block (a := ⟨b, 2, none⟩) hb).trans h.2.2⟩
theorem OwnO.is {w : World} {base : Nat} {v : Value} {S : List (Int × Int × Int)} (h : OwnO w base v S) (hv : v ≠ .slice none 0 0) : ∃ g l c, v = .slice (some ⟨g, 0, none⟩) l c := by
  obtain ⟨_, ⟨e, _⟩ | ⟨g, cap, cur, rfl, _⟩⟩ := h
  · exact absurd e hv
  · exact ⟨g, _, cap, rfl⟩
theorem Thr.set14 {w : World} {b p : Nat} {u m e : Int} {v : Value} (h : Thr w b u m e) (hne : p ≠ b) : Thr (w.setCell ⟨p, 0, none⟩ v) b u m e := h.kept3 (grown_set14 w p v) (fun e => hne (by cases e; rfl))

set_option maxHeartbeats 2000000 in
set_option maxRecDepth 100000 in
theorem sort14_any (n : Nat) (f : Nat → Int × Int × Int) (v0 : Value) (w : World) (h : Ops w v0 n f) (hf : ∀ i, i < n → wfO (f i)) (hn : n ≤ 1000) :
    Calls Try.prog 14 #[v0] w (SortE n f w) := by
  obtain ⟨i0, hi, hz0, hz1, hz2⟩ := info_parts Try.infoOpt
  have HO : Hid (Ops w v0 n f) := h
  obtain ⟨ad, cap, rfl, h1, h2, h0, h3⟩ := h
  clear h3 h0
  have hb0 : Below w.heap.size w w := Below.refl _ _
  have HMK : Hid (∀ w3, w3.ownsRow w.heap.size 24 3 (.slice (some ⟨w.heap.size, 0, none⟩) 0 n) 0 [] → w.grownBy w3 none → OwnO w3 w.heap.size (.slice (some ⟨w.heap.size, 0, none⟩) 0 n) [] ∧ Below w.heap.size w w3) := fun w3 a b => ⟨a, (Below.refl _ _).grown b (Nat.le_refl _) (by intro k hk; cases hk)⟩
  go_enter Try.func14, Try.ntmps14
  go_wp2_with (first
    | (at_make; refine wpList_make_own _ rfl _ _ 22 rfl w.heap.size 24 i0 (.agg #[.int .i64 0, .int .i64 0, .int .i64 0]) 3 Try.underlying22 hi hz0 hz1 .i64 .i64 n n rfl rfl rfl (by rw [hz2]; omega) (by unfold maxLen; omega) (Nat.le_refl _) ?_; intro w1 hown hgrow))
  obtain ⟨ho1, hb1⟩ := HMK.out w1 hown hgrow
  clear hown hgrow HMK hi hz0 hz1 hz2
  have hb1a : Below w.heap.size w (w1.alloc (.cells #[.slice (some ⟨w.heap.size, 0, none⟩) 0 n] 22)) := hb1.alloc hb1.size _
  have HV1 : Hid (Vr (w1.alloc (.cells #[.slice (some ⟨w.heap.size, 0, none⟩) 0 n] 22)) w1.heap.size (.slice (some ⟨w.heap.size, 0, none⟩) 0 n)) := Vr.new w1 _
  have HO1 : Hid (OwnO (w1.alloc (.cells #[.slice (some ⟨w.heap.size, 0, none⟩) 0 n] 22)) w.heap.size (.slice (some ⟨w.heap.size, 0, none⟩) 0 n) []) := ho1.later ((Below.refl _ _).alloc (Nat.le_refl _) _)
  refine (count14_any n f _ _ (HO.out.later hb1a) hf hn).mono ?_
  rintro e w2 ⟨rfl, ⟨D, N, hown2, hH⟩, hb2⟩
  have HH : Hid (HoldC D (cntO f n)) := hH
  have HV2 : Hid (Vr w2 w1.heap.size (.slice (some ⟨w.heap.size, 0, none⟩) 0 n)) := HV1.out.kept (grown_below14 hb2) (by simp)
  have HO2 : Hid (OwnO w2 w.heap.size (.slice (some ⟨w.heap.size, 0, none⟩) 0 n) []) := HO1.out.later hb2
  have hb3 : Below w.heap.size w w2 := hb1a.trans (hb2.mono hb1a.size)
  have LOWS : w.heap.size ≤ w1.heap.size := hb1.size
  clear HV1 HO1 hb2 hb1a hb1 ho1 hH
  generalize (w1.alloc (.cells #[.slice (some ⟨w.heap.size, 0, none⟩) 0 n] 22)).heap.size = mb at *
  generalize w1.heap.size = sb at *
  clear w1
  go_wp2_with (first
    | (at_range; refine wpList_range_own _ rfl _ 52 rfl 24 3 keysO Try.underlying52 _ mb N _ rfl hown2 ?_; intro w3 hrg3 hg3 hs3)
    | go_in)
  have HS : Hid (Srs w.heap.size sb mb w2.heap.size N D (Maps.has D) (Maps.size D) (.slice (some ⟨w.heap.size, 0, none⟩) 0 n) [] w3) := ⟨hrg3, HV2.out.kept hg3 (by simp), HO2.out.kept hg3 (fun g _ => by simp)⟩
  have HC : Hid (CntS (cntO f n) (Maps.has D) []) := ⟨fun x hx => by
    show (0 : Nat) = _
    by_cases c : Maps.has D (kL x) = true
    · rw [if_pos c]
    · rw [if_neg c]
      by_cases c2 : 0 < cntO f n x
      · exact absurd (HH.out.pos x hx c2) c
      · omega, fun x hx => by simp at hx⟩
  have hb4 : Below w.heap.size w w3 := hb3.grown hg3 hb3.size (fun k hk => by cases hk)
  have LOW : w.heap.size ≤ w2.heap.size := hb3.size
  clear hg3 hs3 hrg3 HV2 HO2 hown2 hb3
  generalize w2.heap.size = rb at *
  clear w2
  go_frame
  go_loopw [5] (fun _ wr => ∃ (left : Lit → Bool) (cnt : Nat) (v : Value) (S : List (Int × Int × Int)), Hid (Srs w.heap.size sb mb rb N D left cnt v S wr) ∧ Hid (CntS (cntO f n) left S) ∧ Hid (v ≠ .slice none 0 0) ∧ Below w.heap.size w wr) (fun _ wr => wr.rangeLeft mb rb)
  case atStart => exact ⟨_, _, _, _, HS.out, HC.out, (by show _ ≠ _; simp), hb4⟩
  case round =>
    clear hb4 HC HS
    obtain ⟨left, cnt, v, S, HR, HC, HN, hbw⟩ := hrel
    go_wp2_with (first
      | (at_next; refine next_opt rfl _ rfl mb rb N D left cnt (cntO f n) rfl HR.out.rng HH.out ?_ ?_)
      | go_in)
    · intro hl0
      have HP : Hid (S.Perm (lstO f n)) := HC.out.fin hl0 hf
      have HL : Hid (S.length = n) := Perm.len14 HP.out
      obtain ⟨ty, hty⟩ : ∃ ty, ty = typeHandle Try.prog 24 := ⟨_, rfl⟩
      have hsr : ∃ g cap2, v = .slice (some ⟨g, 0, none⟩) n cap2 ∧ w.heap.size ≤ g ∧ n ≤ cap2 ∧ cap2 ≤ maxLen ∧ Srt sb g 0 n cap2 ty wr S.toArray := by
        have := HR.out.own.srt HN.out HR.out.var (by have := HL.out; omega) hty
        rw [HL.out] at this; exact this
      obtain ⟨g, cap2, rfl, hg, hc1, hc2, hsrt⟩ := hsr
      have HSR : Hid (Srt sb g 0 n cap2 ty wr S.toArray) := hsrt
      have hvar := hsrt.var
      clear hl0 hty hsrt HR HC HN
      go_wp2_with fail
      refine (slice_any HSR.out).mono ?_
      rintro e w5 ⟨d', rfl, r1, r2, r3, r4⟩
      have HE : Hid (SortE n f w (.returned (.slice (some ⟨g, 0, none⟩) n cap2)) w5) := sortE_of HL.out HP.out r1 r3 r4 hc1 hc2 r2 hbw hg
      have hvar5 := r1.var
      clear r1 r2 r3 r4 HSR hvar
      go_wp2_with fail
      go_ret
      exact HE.out
    · intro fa fb fc w4 cnt4 hx hp hl hrg4 hlt hg4 hs4 hen
      have HR4 : Hid (Srs w.heap.size sb mb rb N D (leftO left (fa, fb, fc)) cnt4 v S w4) := HR.out.next hrg4 hg4
      have HC4 : Hid (CntS (cntO f n) (leftO left (fa, fb, fc)) (S ++ List.replicate (cntO f n (fa, fb, fc)) (fa, fb, fc))) := HC.out.more hx hl
      have hb4 : Below w.heap.size w w4 := hbw.grown hg4 hbw.size (fun k hk => by cases hk; exact LOW)
      have hle := HC4.out.le
      have hcl := cntO_le f (fa, fb, fc) n
      have HLT : Hid (cnt4 < cnt) := hlt
      rw [List.length_append, List.length_replicate] at hle
      clear hrg4 hg4 hs4 hl hx hlt hbw
      obtain ⟨c, hc⟩ : ∃ c, cntO f n (fa, fb, fc) = c := ⟨_, rfl⟩
      rw [hc] at hp hen HC4 hle hcl ⊢
      unfold kV at hen ⊢
      simp only at hen ⊢
      clear hc
      have HSL : Hid (S.length + c ≤ n) := hle
      clear hle
      go_wp2_with fail
      have hx1 : Below w4.heap.size w4 (w4.alloc (.cells #[.int .i64 fa, .int .i64 fb, .int .i64 fc] 24)).drew := ((Below.refl _ _).alloc (Nat.le_refl _) _).drew
      have HG : Hid (Srs w.heap.size sb mb rb N D (leftO left (fa, fb, fc)) cnt4 v S (w4.alloc (.cells #[.int .i64 fa, .int .i64 fb, .int .i64 fc] 24)).drew ∧ Thr (w4.alloc (.cells #[.int .i64 fa, .int .i64 fb, .int .i64 fc] 24)).drew w4.heap.size fa fb fc ∧ Below w.heap.size w (w4.alloc (.cells #[.int .i64 fa, .int .i64 fb, .int .i64 fc] 24)).drew) := ⟨HR4.out.later hx1, (Thr.new w4 fa fb fc _).later (Below.refl _ _).drew, hb4.trans (hx1.mono hb4.size)⟩
      have HNO : Hid (some w4.heap.size ≠ v.ownBlock ∧ sb ≠ w4.heap.size) := ⟨fun e => Nat.lt_irrefl _ (HR4.out.own.low _ e.symm).2, fun e => Nat.lt_irrefl _ (e ▸ HR4.out.var.lt)⟩
      have HLQ : Hid (∀ y y' : World, Srs w.heap.size sb mb rb N D (leftO left (fa, fb, fc)) cnt4 v S y ∧ Thr y w4.heap.size fa fb fc ∧ Below w.heap.size w y → Below y.heap.size y y' → Srs w.heap.size sb mb rb N D (leftO left (fa, fb, fc)) cnt4 v S y' ∧ Thr y' w4.heap.size fa fb fc ∧ Below w.heap.size w y') := fun y y' g b => ⟨g.1.later b, g.2.1.later b, g.2.2.trans (b.mono g.2.2.size)⟩
      have HMS : Hid (wr.rangeLeft mb rb = cnt) := HR.out.rng.left_eq
      refine wp_region_held_drew (S := (fun w' : World => w'.cell? ⟨w4.heap.size, 0, none⟩ = some (.int .i64 fa) ∧ w'.cell? ⟨w4.heap.size, 1, none⟩ = some (.int .i64 fb) ∧ w'.cell? ⟨w4.heap.size, 2, none⟩ = some (.int .i64 fc))) (by kernel_rfl) ?_ (fun hHeld => ?_)
      · exact HG.out.2.1
      clear hx1 HR4 hb4 HR
      generalize (w4.alloc (.cells #[.int .i64 fa, .int .i64 fb, .int .i64 fc] 24)).drew = y0 at *
      generalize w4.heap.size = ob at *
      have HGy0 := HG
      clear HG
      refine wpAnyH_take (i := 1) (oi := { dst := some 18, op := Op.load 24 (Operand.tmp 4), type := 24, pos := _, after := _, guard := none }) (v := ?_) rfl (by kernel_rfl) (by kernel_rfl) (by kernel_rfl) (fun _ _ _ h => h) (Or.inl ⟨by rfl, ?_⟩) (by assumption) ?_
      rotate_left
      · intro wS hSw; (try dsimp only at hSw); go_simp; first | done | with_reducible rfl
      try simp only [Act.put, List.setIfInBounds_toArray, List.set_cons_zero, List.set_cons_succ]
      refine wpAnyH_take (i := 3) (oi := { dst := some 20, op := Op.move (Operand.tmp 5), type := 3, pos := _, after := _, guard := none }) (v := ?_) rfl (by kernel_rfl) (by kernel_rfl) (by kernel_rfl) (fun _ _ _ h => h) (Or.inl ⟨by rfl, ?_⟩) (by assumption) ?_
      rotate_left
      · intro wS hSw; (try dsimp only at hSw); go_simp; first | done | with_reducible rfl
      try simp only [Act.put, List.setIfInBounds_toArray, List.set_cons_zero, List.set_cons_succ]
      refine wpAnyH_ready (rs := [0, 2]) (by kernel_rfl) (by simp) ?_
      refine AllReadyH.cons (o := { dst := some 17, op := Op.load 22 (Operand.tmp 3), type := 22, pos := _, after := _, guard := none }) rfl (fun K hK => ?_) (AllReadyH.cons (o := { dst := some 19, op := Op.buildSlice 22 1 #[(0, Operand.tmp 18)], type := 22, pos := _, after := _, guard := none }) rfl (fun K hK => ?_) AllReadyH.nil)
      · have hc0 := HGy0.out.1.var.cell.1
        go_simp
        clear hc0
        refine hK.out _ _ ?_ (fun hHeld => ?_)
        · exact HGy0.out.2.1
        clear hK K
        try simp only [Act.put, List.setIfInBounds_toArray, List.set_cons_zero, List.set_cons_succ]
        refine wpAnyH_ready (rs := [2]) (by kernel_rfl) (by simp) ?_
        refine AllReadyH.cons (o := { dst := some 19, op := Op.buildSlice 22 1 #[(0, Operand.tmp 18)], type := 22, pos := _, after := _, guard := none }) rfl (fun K hK => ?_) AllReadyH.nil
        go_simp
        obtain ⟨y2, ey2⟩ : ∃ y, y0.alloc (.cells #[.int .i64 fa, .int .i64 fb, .int .i64 fc] 24) = y := ⟨_, rfl⟩
        rw [ey2]
        have HGy2 : Hid (Srs w.heap.size sb mb rb N D (leftO left (fa, fb, fc)) cnt4 v S y2 ∧ Thr y2 ob fa fb fc ∧ Below w.heap.size w y2) := HLQ.out _ _ HGy0.out (ey2 ▸ (Below.refl _ _).alloc (Nat.le_refl _) _)
        have HTy2 : Hid (Thr y2 y0.heap.size fa fb fc) := ey2 ▸ Thr.new _ fa fb fc _
        clear ey2
        refine hK.out _ _ ?_ (fun hHeld => ?_)
        · exact HGy2.out.2.1
        clear hK K
        try simp only [Act.put, List.setIfInBounds_toArray, List.set_cons_zero, List.set_cons_succ]
        refine wpAnyH_ready (rs := [4]) (by kernel_rfl) (by simp) ?_
        refine AllReadyH.cons (o := { dst := some 21, op := Op.call { callee := Callee.value (Operand.func 28), args := #[Operand.tmp 19, Operand.tmp 20], argTypes := #[22, 3] }, type := 22, pos := _, after := _, guard := none }) rfl (fun K hK => ?_) AllReadyH.nil
        go_simp
        refine (rep14_any y0.heap.size c (fa, fb, fc) _ HTy2.out (by omega) (by omega)).mono ?_
        rintro e y3 ⟨rfl, hcly3, hby3⟩
        have HGy3 : Hid (Srs w.heap.size sb mb rb N D (leftO left (fa, fb, fc)) cnt4 v S y3 ∧ Thr y3 ob fa fb fc ∧ Below w.heap.size w y3) := HLQ.out _ _ HGy2.out hby3
        have HPy3 : Hid (∀ t, t < c * 3 → y3.cell? ⟨y2.heap.size, t, none⟩ = (encO (fa, fb, fc))[t % 3]?) := hcly3
        clear hcly3 hby3
        go_wp2_with fail
        refine hK.out _ _ ?_ (fun hHeld => ?_)
        · exact HGy3.out.2.1
        clear hK K
        try simp only [Act.put, List.setIfInBounds_toArray, List.set_cons_zero, List.set_cons_succ]
        refine wpAnyH_ready (rs := [5]) (by kernel_rfl) (by simp) ?_
        refine AllReadyH.cons (o := { dst := some 22, op := Op.call { callee := Callee.builtin Builtin.append, args := #[Operand.tmp 17, Operand.tmp 21], argTypes := #[22, 22] }, type := 22, pos := _, after := _, guard := none }) rfl (fun K hK => ?_) AllReadyH.nil
        first | refine step_append_rep (by rfl) _ _ (by rfl) w.heap.size v S y2.heap.size c (fa, fb, fc) (by rfl) HGy3.out.1.own HN.out (by rfl) HPy3.out (by have := HSL.out; omega) HGy3.out.2.2.size ?_ | refine wp_append_rep _ _ (by rfl) w.heap.size v S y2.heap.size c (fa, fb, fc) (by rfl) HGy3.out.1.own HN.out (by rfl) HPy3.out (by have := HSL.out; omega) HGy3.out.2.2.size ?_
        intro v' y4 ho hg hv'
        obtain ⟨g5, l5, cap5, rfl⟩ := ho.is hv'
        have HV' : Hid ((Value.slice (some ⟨g5, 0, none⟩) l5 cap5) ≠ Value.slice none 0 0) := hv'
        have HTA : Hid (Thr y4 ob fa fb fc) := HGy3.out.2.1.kept3 hg HNO.out.1
        have HW : Hid (Vr y4 sb v) := HGy3.out.1.var.kept hg HGy3.out.1.ne.2.2
        have HF : Hid (Srs w.heap.size sb mb rb N D (leftO left (fa, fb, fc)) cnt4 (Value.slice (some ⟨g5, 0, none⟩) l5 cap5) (S ++ List.replicate c (fa, fb, fc)) (y4.setCell ⟨sb, 0, none⟩ (Value.slice (some ⟨g5, 0, none⟩) l5 cap5)) ∧ Below w.heap.size w (y4.setCell ⟨sb, 0, none⟩ (Value.slice (some ⟨g5, 0, none⟩) l5 cap5))) := ⟨HGy3.out.1.put ho hg, (HGy3.out.2.2.grown hg HGy3.out.2.2.size (fun k hk => (HGy3.out.1.own.low k hk).1)).grown (grown_set14 _ _ _) (Nat.le_trans HGy3.out.2.2.size hg.size) (fun k hk => by cases hk; exact LOWS)⟩
        clear ho hg hv'
        refine hK.out _ _ ?_ (fun hHeld => ?_)
        · exact HTA.out
        clear hK K
        try simp only [Act.put, List.setIfInBounds_toArray, List.set_cons_zero, List.set_cons_succ]
        refine wpAnyH_ready (rs := [6]) (by kernel_rfl) (by simp) ?_
        refine AllReadyH.cons (o := { dst := none, op := Op.store 22 (Operand.tmp 3) (Operand.tmp 22), type := 0, pos := _, after := _, guard := none }) rfl (fun K hK => ?_) AllReadyH.nil
        have hc0 := HW.out.cell.1
        have hc1 := HW.out.cell.2
        go_simp
        clear hc0 hc1
        refine hK.out _ _ ?_ (fun hHeld => ?_)
        · exact HTA.out.set14 HNO.out.2
        clear hK K
        try simp only [Act.put, List.setIfInBounds_toArray, List.set_cons_zero, List.set_cons_succ]
        refine wpAnyH_done (by kernel_rfl) ?_ _
        go_wp2_with fail
        go_roundw
        case rel => exact ⟨_, cnt4, (Value.slice (some ⟨g5, 0, none⟩) l5 cap5), _, HF.out.1, HC4.out, HV'.out, HF.out.2⟩
        case measure => rw [HF.out.1.rng.left_eq, HMS.out]; exact HLT.out
      · go_simp
        obtain ⟨y6, ey6⟩ : ∃ y, y0.alloc (.cells #[.int .i64 fa, .int .i64 fb, .int .i64 fc] 24) = y := ⟨_, rfl⟩
        rw [ey6]
        have HGy6 : Hid (Srs w.heap.size sb mb rb N D (leftO left (fa, fb, fc)) cnt4 v S y6 ∧ Thr y6 ob fa fb fc ∧ Below w.heap.size w y6) := HLQ.out _ _ HGy0.out (ey6 ▸ (Below.refl _ _).alloc (Nat.le_refl _) _)
        have HTy6 : Hid (Thr y6 y0.heap.size fa fb fc) := ey6 ▸ Thr.new _ fa fb fc _
        clear ey6
        refine hK.out _ _ ?_ (fun hHeld => ?_)
        · exact HGy6.out.2.1
        clear hK K
        try simp only [Act.put, List.setIfInBounds_toArray, List.set_cons_zero, List.set_cons_succ]
        refine wpAnyH_ready (rs := [0, 4]) (by kernel_rfl) (by simp) ?_
        refine AllReadyH.cons (o := { dst := some 17, op := Op.load 22 (Operand.tmp 3), type := 22, pos := _, after := _, guard := none }) rfl (fun K hK => ?_) (AllReadyH.cons (o := { dst := some 21, op := Op.call { callee := Callee.value (Operand.func 28), args := #[Operand.tmp 19, Operand.tmp 20], argTypes := #[22, 3] }, type := 22, pos := _, after := _, guard := none }) rfl (fun K hK => ?_) AllReadyH.nil)
        · have hc0 := HGy6.out.1.var.cell.1
          go_simp
          clear hc0
          refine hK.out _ _ ?_ (fun hHeld => ?_)
          · exact HGy6.out.2.1
          clear hK K
          try simp only [Act.put, List.setIfInBounds_toArray, List.set_cons_zero, List.set_cons_succ]
          refine wpAnyH_ready (rs := [4]) (by kernel_rfl) (by simp) ?_
          refine AllReadyH.cons (o := { dst := some 21, op := Op.call { callee := Callee.value (Operand.func 28), args := #[Operand.tmp 19, Operand.tmp 20], argTypes := #[22, 3] }, type := 22, pos := _, after := _, guard := none }) rfl (fun K hK => ?_) AllReadyH.nil
          go_simp
          refine (rep14_any y0.heap.size c (fa, fb, fc) _ HTy6.out (by omega) (by omega)).mono ?_
          rintro e y8 ⟨rfl, hcly8, hby8⟩
          have HGy8 : Hid (Srs w.heap.size sb mb rb N D (leftO left (fa, fb, fc)) cnt4 v S y8 ∧ Thr y8 ob fa fb fc ∧ Below w.heap.size w y8) := HLQ.out _ _ HGy6.out hby8
          have HPy8 : Hid (∀ t, t < c * 3 → y8.cell? ⟨y6.heap.size, t, none⟩ = (encO (fa, fb, fc))[t % 3]?) := hcly8
          clear hcly8 hby8
          go_wp2_with fail
          refine hK.out _ _ ?_ (fun hHeld => ?_)
          · exact HGy8.out.2.1
          clear hK K
          try simp only [Act.put, List.setIfInBounds_toArray, List.set_cons_zero, List.set_cons_succ]
          refine wpAnyH_ready (rs := [5]) (by kernel_rfl) (by simp) ?_
          refine AllReadyH.cons (o := { dst := some 22, op := Op.call { callee := Callee.builtin Builtin.append, args := #[Operand.tmp 17, Operand.tmp 21], argTypes := #[22, 22] }, type := 22, pos := _, after := _, guard := none }) rfl (fun K hK => ?_) AllReadyH.nil
          first | refine step_append_rep (by rfl) _ _ (by rfl) w.heap.size v S y6.heap.size c (fa, fb, fc) (by rfl) HGy8.out.1.own HN.out (by rfl) HPy8.out (by have := HSL.out; omega) HGy8.out.2.2.size ?_ | refine wp_append_rep _ _ (by rfl) w.heap.size v S y6.heap.size c (fa, fb, fc) (by rfl) HGy8.out.1.own HN.out (by rfl) HPy8.out (by have := HSL.out; omega) HGy8.out.2.2.size ?_
          intro v' y9 ho hg hv'
          obtain ⟨g5, l5, cap5, rfl⟩ := ho.is hv'
          have HV' : Hid ((Value.slice (some ⟨g5, 0, none⟩) l5 cap5) ≠ Value.slice none 0 0) := hv'
          have HTA : Hid (Thr y9 ob fa fb fc) := HGy8.out.2.1.kept3 hg HNO.out.1
          have HW : Hid (Vr y9 sb v) := HGy8.out.1.var.kept hg HGy8.out.1.ne.2.2
          have HF : Hid (Srs w.heap.size sb mb rb N D (leftO left (fa, fb, fc)) cnt4 (Value.slice (some ⟨g5, 0, none⟩) l5 cap5) (S ++ List.replicate c (fa, fb, fc)) (y9.setCell ⟨sb, 0, none⟩ (Value.slice (some ⟨g5, 0, none⟩) l5 cap5)) ∧ Below w.heap.size w (y9.setCell ⟨sb, 0, none⟩ (Value.slice (some ⟨g5, 0, none⟩) l5 cap5))) := ⟨HGy8.out.1.put ho hg, (HGy8.out.2.2.grown hg HGy8.out.2.2.size (fun k hk => (HGy8.out.1.own.low k hk).1)).grown (grown_set14 _ _ _) (Nat.le_trans HGy8.out.2.2.size hg.size) (fun k hk => by cases hk; exact LOWS)⟩
          clear ho hg hv'
          refine hK.out _ _ ?_ (fun hHeld => ?_)
          · exact HTA.out
          clear hK K
          try simp only [Act.put, List.setIfInBounds_toArray, List.set_cons_zero, List.set_cons_succ]
          refine wpAnyH_ready (rs := [6]) (by kernel_rfl) (by simp) ?_
          refine AllReadyH.cons (o := { dst := none, op := Op.store 22 (Operand.tmp 3) (Operand.tmp 22), type := 0, pos := _, after := _, guard := none }) rfl (fun K hK => ?_) AllReadyH.nil
          have hc0 := HW.out.cell.1
          have hc1 := HW.out.cell.2
          go_simp
          clear hc0 hc1
          refine hK.out _ _ ?_ (fun hHeld => ?_)
          · exact HTA.out.set14 HNO.out.2
          clear hK K
          try simp only [Act.put, List.setIfInBounds_toArray, List.set_cons_zero, List.set_cons_succ]
          refine wpAnyH_done (by kernel_rfl) ?_ _
          go_wp2_with fail
          go_roundw
          case rel => exact ⟨_, cnt4, (Value.slice (some ⟨g5, 0, none⟩) l5 cap5), _, HF.out.1, HC4.out, HV'.out, HF.out.2⟩
          case measure => rw [HF.out.1.rng.left_eq, HMS.out]; exact HLT.out
        · go_simp
          refine (rep14_any y0.heap.size c (fa, fb, fc) _ HTy6.out (by omega) (by omega)).mono ?_
          rintro e y11 ⟨rfl, hcly11, hby11⟩
          have HGy11 : Hid (Srs w.heap.size sb mb rb N D (leftO left (fa, fb, fc)) cnt4 v S y11 ∧ Thr y11 ob fa fb fc ∧ Below w.heap.size w y11) := HLQ.out _ _ HGy6.out hby11
          have HPy11 : Hid (∀ t, t < c * 3 → y11.cell? ⟨y6.heap.size, t, none⟩ = (encO (fa, fb, fc))[t % 3]?) := hcly11
          clear hcly11 hby11
          go_wp2_with fail
          refine hK.out _ _ ?_ (fun hHeld => ?_)
          · exact HGy11.out.2.1
          clear hK K
          try simp only [Act.put, List.setIfInBounds_toArray, List.set_cons_zero, List.set_cons_succ]
          refine wpAnyH_ready (rs := [0]) (by kernel_rfl) (by simp) ?_
          refine AllReadyH.cons (o := { dst := some 17, op := Op.load 22 (Operand.tmp 3), type := 22, pos := _, after := _, guard := none }) rfl (fun K hK => ?_) AllReadyH.nil
          have hc0 := HGy11.out.1.var.cell.1
          go_simp
          clear hc0
          refine hK.out _ _ ?_ (fun hHeld => ?_)
          · exact HGy11.out.2.1
          clear hK K
          try simp only [Act.put, List.setIfInBounds_toArray, List.set_cons_zero, List.set_cons_succ]
          refine wpAnyH_ready (rs := [5]) (by kernel_rfl) (by simp) ?_
          refine AllReadyH.cons (o := { dst := some 22, op := Op.call { callee := Callee.builtin Builtin.append, args := #[Operand.tmp 17, Operand.tmp 21], argTypes := #[22, 22] }, type := 22, pos := _, after := _, guard := none }) rfl (fun K hK => ?_) AllReadyH.nil
          first | refine step_append_rep (by rfl) _ _ (by rfl) w.heap.size v S y6.heap.size c (fa, fb, fc) (by rfl) HGy11.out.1.own HN.out (by rfl) HPy11.out (by have := HSL.out; omega) HGy11.out.2.2.size ?_ | refine wp_append_rep _ _ (by rfl) w.heap.size v S y6.heap.size c (fa, fb, fc) (by rfl) HGy11.out.1.own HN.out (by rfl) HPy11.out (by have := HSL.out; omega) HGy11.out.2.2.size ?_
          intro v' y13 ho hg hv'
          obtain ⟨g5, l5, cap5, rfl⟩ := ho.is hv'
          have HV' : Hid ((Value.slice (some ⟨g5, 0, none⟩) l5 cap5) ≠ Value.slice none 0 0) := hv'
          have HTA : Hid (Thr y13 ob fa fb fc) := HGy11.out.2.1.kept3 hg HNO.out.1
          have HW : Hid (Vr y13 sb v) := HGy11.out.1.var.kept hg HGy11.out.1.ne.2.2
          have HF : Hid (Srs w.heap.size sb mb rb N D (leftO left (fa, fb, fc)) cnt4 (Value.slice (some ⟨g5, 0, none⟩) l5 cap5) (S ++ List.replicate c (fa, fb, fc)) (y13.setCell ⟨sb, 0, none⟩ (Value.slice (some ⟨g5, 0, none⟩) l5 cap5)) ∧ Below w.heap.size w (y13.setCell ⟨sb, 0, none⟩ (Value.slice (some ⟨g5, 0, none⟩) l5 cap5))) := ⟨HGy11.out.1.put ho hg, (HGy11.out.2.2.grown hg HGy11.out.2.2.size (fun k hk => (HGy11.out.1.own.low k hk).1)).grown (grown_set14 _ _ _) (Nat.le_trans HGy11.out.2.2.size hg.size) (fun k hk => by cases hk; exact LOWS)⟩
          clear ho hg hv'
          refine hK.out _ _ ?_ (fun hHeld => ?_)
          · exact HTA.out
          clear hK K
          try simp only [Act.put, List.setIfInBounds_toArray, List.set_cons_zero, List.set_cons_succ]
          refine wpAnyH_ready (rs := [6]) (by kernel_rfl) (by simp) ?_
          refine AllReadyH.cons (o := { dst := none, op := Op.store 22 (Operand.tmp 3) (Operand.tmp 22), type := 0, pos := _, after := _, guard := none }) rfl (fun K hK => ?_) AllReadyH.nil
          have hc0 := HW.out.cell.1
          have hc1 := HW.out.cell.2
          go_simp
          clear hc0 hc1
          refine hK.out _ _ ?_ (fun hHeld => ?_)
          · exact HTA.out.set14 HNO.out.2
          clear hK K
          try simp only [Act.put, List.setIfInBounds_toArray, List.set_cons_zero, List.set_cons_succ]
          refine wpAnyH_done (by kernel_rfl) ?_ _
          go_wp2_with fail
          go_roundw
          case rel => exact ⟨_, cnt4, (Value.slice (some ⟨g5, 0, none⟩) l5 cap5), _, HF.out.1, HC4.out, HV'.out, HF.out.2⟩
          case measure => rw [HF.out.1.rng.left_eq, HMS.out]; exact HLT.out
end Go.Proofs.Ytkaobjcghmigmaa
/- Lists that are sorted, with as many of each, are one; the document's Same. -/
namespace Go.Proofs.Ytkaobjcghmigmaa
open Go.RowKit

def SrtL (g : Nat → Int × Int × Int) (n : Nat) : Prop := ∀ i j, i < j → j < n → ltO (g j) (g i) = false
theorem lstO_get (f : Nat → Int × Int × Int) (n i : Nat) (h : i < n) : (lstO f n)[i]? = some (f i) := by
  unfold lstO; simp [h]
theorem sorted_one {g h : Nat → Int × Int × Int} {n : Nat} (hg : SrtL g n) (hh : SrtL h n) (hc : ∀ x, cntO g n x = cntO h n x) : ∀ i, i < n → g i = h i := by
  have hp : (lstO g n).Perm (lstO h n) := by
    rw [List.perm_iff_count]; intro x; rw [lstO_count, lstO_count, hc]
  have pw : ∀ f : Nat → Int × Int × Int, SrtL f n → (lstO f n).Pairwise (fun x y => ltO y x = false) := fun f hf => by
    rw [List.pairwise_iff_getElem]
    intro i j hi hj hij
    simp [lstO] at hi hj ⊢
    exact hf i j hij hj
  have he : lstO g n = lstO h n := List.Perm.eq_of_pairwise (le := fun x y => ltO y x = false) (fun a b _ _ h1 h2 => ltO_same h2 h1) (pw g hg) (pw h hh) hp
  intro i hi
  have := lstO_get g n i hi
  rw [he, lstO_get h n i hi] at this
  exact (Option.some.inj this).symm
theorem SrtL.first {g : Nat → Int × Int × Int} {n : Nat} (h : SrtL g n) (hn : 0 < n) : IsFst g n 0 :=
  ⟨hn, fun t ht => by
    by_cases c : t = 0
    · subst c; exact swo_ltO.irrefl _
    · exact h 0 t (by omega) ht, fun t ht => by omega⟩
theorem first_one {f g : Nat → Int × Int × Int} {n k : Nat} (hg : SrtL g n) (hc : ∀ x, cntO g n x = cntO f n x) (hk : IsFst f n k) : g 0 = f k := by
  have hn : 0 < n := by have := hk.1; omega
  obtain ⟨i, hi, hgi⟩ := cntO_pos (f := g) (n := n) (x := f k) (by rw [hc]; exact cntO_at hk.1)
  obtain ⟨j, hj, hfj⟩ := cntO_pos (f := f) (n := n) (x := g 0) (by rw [← hc]; exact cntO_at hn)
  have h1 := (hg.first hn).2.1 i hi
  have h2 := hk.2.1 j hj
  rw [hgi] at h1
  rw [hfj] at h2
  exact ltO_same h2 h1

set_option maxHeartbeats 2000000 in
set_option maxRecDepth 100000 in
theorem same14_any (n : Nat) (f g : Nat → Int × Int × Int) (v v' : Value) (w : World) (h : Ops w v n f) (h' : Ops w v' n g) (he : ∀ i, i < n → f i = g i) (hn : n ≤ 1000) :
    Calls Try.prog 13 #[v, v'] w fun r w' => r = .returned (.bool true) ∧ Below w.heap.size w w' := by
  have HEQ : Hid (∀ i, i < n → f i = g i) := he
  clear he
  obtain ⟨a, cap, rfl, h1, h2, _, h3⟩ := h
  obtain ⟨a', cap', rfl, h1', h2', _, h3'⟩ := h'
  go_enter Try.func13, Try.ntmps13
  go_wp2_with fail
  go_loopw [5] (fun i wr => ∃ (j : Nat), j ≤ n ∧ i = .int .i64 j ∧ Below w.heap.size w wr) (fun i _ => ((n : Int) - intOf i).toNat)
  case atStart => exact ⟨0, by omega, rfl, Below.refl _ _⟩
  case round =>
    obtain ⟨j, hj, rfl, hbw⟩ := hrel
    by_cases hlt : (j : Int) < n
    · obtain ⟨bk, o, rfl, h4⟩ := h3 (by omega)
      obtain ⟨bk', o', rfl, h4'⟩ := h3' (by omega)
      obtain ⟨c0, c1, c2⟩ := h4 j (by omega)
      obtain ⟨d0, d1, d2⟩ := h4' j (by omega)
      rw [← HEQ.out j (by omega)] at d0 d1 d2
      replace c0 := cell_later hbw c0
      replace c1 := cell_later hbw c1
      replace c2 := cell_later hbw c2
      replace d0 := cell_later hbw d0
      replace d1 := cell_later hbw d1
      replace d2 := cell_later hbw d2
      clear h3 h3' h4 h4'
      obtain ⟨⟨cj, tj, xj⟩, hf⟩ : ∃ y, f j = y := ⟨_, rfl⟩
      rw [hf] at c0 c1 c2 d0 d1 d2
      clear hf
      simp only at c0 c1 c2 d0 d1 d2
      have hN : ∀ w, (binOp .neq 24 (.agg #[.int .i64 cj, .int .i64 tj, .int .i64 xj]) (.agg #[.int .i64 cj, .int .i64 tj, .int .i64 xj])).run Try.prog w = .ok (.bool false) w := fun w => (op_neq cj tj xj cj tj xj w).trans (by rw [eqO_self]; rfl)
      go_wp2_with fail
      go_region
      all_goals
        go_wp2_with fail
        go_roundw
        case rel => exact ⟨j + 1, by omega, by go_num, hbw.drew⟩
        case measure => simp [intOf]; omega
    · go_wp2
      go_ret
      exact ⟨rfl, hbw⟩
end Go.Proofs.Ytkaobjcghmigmaa
/- OptionFirst: the first one is the first one when they are sorted, as often as it is there. -/
namespace Go.Proofs.Ytkaobjcghmigmaa
open Go.RowKit

theorem wf_same {f g : Nat → Int × Int × Int} {n : Nat} (hc : ∀ x, cntO g n x = cntO f n x) (hf : ∀ i, i < n → wfO (f i)) : ∀ i, i < n → wfO (g i) := fun i hi => by
  obtain ⟨j, hj, e⟩ := cntO_pos (f := f) (n := n) (x := g i) (by rw [← hc]; exact cntO_at hi)
  rw [← e]; exact hf j hj

set_option maxHeartbeats 4000000 in
set_option maxRecDepth 100000 in
theorem law_ofirst (n : Nat) (f : Nat → Int × Int × Int) (v : Value) (w : World) (h : Ops w v n f) (hf : ∀ i, i < n → wfO (f i)) :
    Calls Try.prog 5 #[v] w fun e w' => e = .returned (.bool true) ∧ Below w.heap.size w w' := by
  have HO : Hid (Ops w v n f) := h
  have HWF : Hid (∀ i, i < n → wfO (f i)) := hf
  clear hf
  obtain ⟨a, cap, rfl, h1, h2, h0, h3⟩ := h
  go_enter Try.func5, Try.ntmps5
  go_wp2_with fail
  refine (awake14_any _).mono ?_
  rintro e w1 ⟨rfl, hb1⟩
  have HB1 : Hid (Below w.heap.size w w1) := hb1
  clear hb1
  by_cases h100 : n ≤ 100
  rotate_left
  · have hgt : (100 : Int) < n := by omega
    go_wp2
    go_ret
    exact ⟨rfl, HB1.out⟩
  have hgt : ¬ (100 : Int) < n := by omega
  go_wp2_with fail
  refine (sort14_any n f _ _ (HO.out.later HB1.out) HWF.out (by omega)).mono ?_
  rintro e w2 ⟨vs, g, rfl, hos, hcn, hsr, hb2⟩
  have HOS : Hid (Ops w2 vs n g) := hos
  have HCN : Hid (∀ x, cntO g n x = cntO f n x) := hcn
  have HSR : Hid (SrtL g n) := hsr
  have HB2 : Hid (Below w.heap.size w w2) := HB1.out.trans (hb2.mono HB1.out.size)
  clear hcn hsr hb2
  obtain ⟨ads, caps, rfl, hs1, hs2, hs0, hs3⟩ := hos
  go_wp2_with fail
  refine (first14_any n f _ _ (HO.out.later HB2.out) (by omega)).mono ?_
  rintro e w3 ⟨r, rfl, hr, hb3⟩
  have HB3 : Hid (Below w.heap.size w w3) := HB2.out.trans (hb3.mono HB2.out.size)
  have HB23 : Hid (Below w2.heap.size w2 w3) := hb3
  clear hb3
  rcases hr with ⟨rfl, rfl⟩ | ⟨k, rfl, hk⟩
  · go_wp2
    go_ret
    exact ⟨rfl, HB3.out⟩
  have HK : Hid (IsFst f n k) := hk
  have hkn := hk.1
  clear hk
  obtain ⟨b, o, rfl, h4⟩ := h3 (by omega)
  obtain ⟨bs, os, rfl, hs4⟩ := hs3 (by omega)
  have HF4 : Hid (∀ i, i < n → ∀ y, Below w3.heap.size w3 y → y.cell? ⟨b, o + i * 3, none⟩ = some (.int .i64 (f i).1) ∧ y.cell? ⟨b, o + i * 3 + 1, none⟩ = some (.int .i64 (f i).2.1) ∧ y.cell? ⟨b, o + i * 3 + 2, none⟩ = some (.int .i64 (f i).2.2)) := fun i hi y hy =>
    have hb := HB3.out.trans (hy.mono HB3.out.size)
    ⟨cell_later hb (h4 i hi).1, cell_later hb (h4 i hi).2.1, cell_later hb (h4 i hi).2.2⟩
  have HG4 : Hid (∀ i, i < n → ∀ y, Below w3.heap.size w3 y → y.cell? ⟨bs, os + i * 3, none⟩ = some (.int .i64 (g i).1) ∧ y.cell? ⟨bs, os + i * 3 + 1, none⟩ = some (.int .i64 (g i).2.1) ∧ y.cell? ⟨bs, os + i * 3 + 2, none⟩ = some (.int .i64 (g i).2.2)) := fun i hi y hy =>
    have hb := HB23.out.trans (hy.mono HB23.out.size)
    ⟨cell_later hb (hs4 i hi).1, cell_later hb (hs4 i hi).2.1, cell_later hb (hs4 i hi).2.2⟩
  clear h3 h4 hs3 hs4
  have hG0 : g 0 = f k := first_one HSR.out HCN.out HK.out
  have hfk := HF4.out k hkn
  have hg0 := HG4.out 0 (by omega)
  rw [hG0] at hg0
  have HX : Hid (∀ i, f i = f k → f i = f k) := fun _ h => h
  obtain ⟨X, hX⟩ : ∃ X, f k = X := ⟨_, rfl⟩
  have HXK : Hid (f k = X) := hX
  rw [hX] at hfk hg0
  obtain ⟨p, q, t⟩ := X
  have MK : Hid (∀ y, Below w3.heap.size w3 y → (y.cell? ⟨b, o + k * 3, none⟩ = some (.int .i64 p) ∧ y.cell? ⟨b, o + k * 3 + 1, none⟩ = some (.int .i64 q) ∧ y.cell? ⟨b, o + k * 3 + 2, none⟩ = some (.int .i64 t) ∧ y.cell? ⟨bs, os, none⟩ = some (.int .i64 p) ∧ y.cell? ⟨bs, os + 1, none⟩ = some (.int .i64 q) ∧ y.cell? ⟨bs, os + 2, none⟩ = some (.int .i64 t)) ∧ Below w3.heap.size w3 y) := fun y hy => ⟨⟨(hfk y hy).1, (hfk y hy).2.1, (hfk y hy).2.2, (by simpa using (hg0 y hy).1), (by simpa using (hg0 y hy).2.1), (by simpa using (hg0 y hy).2.2)⟩, hy⟩
  have HF1 : Hid (∀ y, Below w3.heap.size w3 y → Calls Try.prog 16 #[.slice (some ⟨bs, os, none⟩) n caps] y fun e y' => e = .returned (.int .i64 0) ∧ Below y.heap.size y y') := fun y hy => by
    refine (first14_any n g _ y (HOS.out.later (HB23.out.trans (hy.mono HB23.out.size))) (by omega)).mono ?_
    rintro e y' ⟨r, rfl, ⟨h0, _⟩ | ⟨k', rfl, hk'⟩, hb'⟩
    · omega
    · rw [hk'.unique (HSR.out.first (by omega))]; exact ⟨rfl, hb'⟩
  have hN : ∀ w, (binOp .neq 24 (.agg #[.int .i64 p, .int .i64 q, .int .i64 t]) (.agg #[.int .i64 p, .int .i64 q, .int .i64 t])).run Try.prog w = .ok (.bool false) w := fun w => (op_neq p q t p q t w).trans (by rw [eqO_self]; rfl)
  clear hX hG0 hfk hg0 HX
  have hn0 : ¬ n = 0 := by omega
  have hn0' : ((n : Int) == 0) = false := by simp; omega
  have hk0 : decide ((k : Int) < 0) = false := decide_eq_false (by omega)
  have hkn' : (k : Int) < n := by omega
  have hkn2 : decide ((n : Int) ≤ k) = false := decide_eq_false (by omega)
  have hkn3 : decide (n ≤ k) = false := decide_eq_false (by omega)
  have hpos : (0 : Int) < n := by omega
  have hposn : 0 < n := by omega
  go_wp2_with fail
  go_region_held3 (fun y => (y.cell? ⟨b, o + k * 3, none⟩ = some (.int .i64 p) ∧ y.cell? ⟨b, o + k * 3 + 1, none⟩ = some (.int .i64 q) ∧ y.cell? ⟨b, o + k * 3 + 2, none⟩ = some (.int .i64 t) ∧ y.cell? ⟨bs, os, none⟩ = some (.int .i64 p) ∧ y.cell? ⟨bs, os + 1, none⟩ = some (.int .i64 q) ∧ y.cell? ⟨bs, os + 2, none⟩ = some (.int .i64 t)) ∧ Below w3.heap.size w3 y)
    (first | exact MK.out _ (bstep (by assumption) (sBel (by assumption))) | exact MK.out _ (Below.refl _ _).drew)
    (first | (go_at_call 16; refine (HF1.out _ (sBel (by assumption))).mono ?_; rintro e w4 ⟨rfl, hb4⟩))
  have HB4 : Hid (Below w3.heap.size w3 w4) := sBel (by assumption)
  clear hb4 hN hn0 hn0' hk0 hkn2 hkn3
  go_wp2_with fail
  go_loopw [6, 7, 8] (fun va vb vi wr => ∃ (j ca cb : Nat), va = .int .i64 ca ∧ vb = .int .i64 cb ∧ vi = .int .i64 j ∧ j ≤ n ∧ ca ≤ j ∧ cb ≤ j ∧ Hid (ca = cntO f j (p, q, t) ∧ cb = cntO g j (p, q, t)) ∧ Below w3.heap.size w3 wr) (fun _ _ vi _ => ((n : Int) - intOf vi).toNat)
  case atStart => exact ⟨0, 0, 0, rfl, rfl, rfl, by omega, by omega, by omega, ⟨rfl, rfl⟩, HB4.out⟩
  case round =>
    clear HB4
    obtain ⟨j, ca, cb, rfl, rfl, rfl, hj, hca, hcb, HC, hbw⟩ := hrel
    by_cases hlt : j < n
    · have hlt' : (j : Int) < n := by omega
      have hfj := HF4.out j hlt wr hbw
      have hgj := HG4.out j hlt wr hbw
      have hx := (MK.out wr hbw).1
      obtain ⟨⟨fa, fb, fc⟩, hfx⟩ : ∃ y, f j = y := ⟨_, rfl⟩
      obtain ⟨⟨ga, gb, gc⟩, hgx⟩ : ∃ y, g j = y := ⟨_, rfl⟩
      have HFX : Hid (f j = (fa, fb, fc)) := hfx
      have HGX : Hid (g j = (ga, gb, gc)) := hgx
      rw [hfx] at hfj
      rw [hgx] at hgj
      clear hfx hgx
      obtain ⟨c0, c1, c2⟩ := hfj
      obtain ⟨d0, d1, d2⟩ := hgj
      obtain ⟨x0, x1, x2, hHeld⟩ := hx
      simp only at c0 c1 c2 d0 d1 d2
      obtain ⟨e1, he1⟩ : ∃ e, eqO (fa, fb, fc) (p, q, t) = e := ⟨_, rfl⟩
      obtain ⟨e2, he2⟩ : ∃ e, eqO (ga, gb, gc) (p, q, t) = e := ⟨_, rfl⟩
      have hE1 : ∀ w, (binOp .eql 24 (.agg #[.int .i64 fa, .int .i64 fb, .int .i64 fc]) (.agg #[.int .i64 p, .int .i64 q, .int .i64 t])).run Try.prog w = .ok (.bool e1) w := fun w => (op_eql fa fb fc p q t w).trans (by rw [he1])
      have hE2 : ∀ w, (binOp .eql 24 (.agg #[.int .i64 ga, .int .i64 gb, .int .i64 gc]) (.agg #[.int .i64 p, .int .i64 q, .int .i64 t])).run Try.prog w = .ok (.bool e2) w := fun w => (op_eql ga gb gc p q t w).trans (by rw [he2])
      have HN : Hid ((∀ w, w = ca + (if e1 = true then 1 else 0) → w = cntO f (j + 1) (p, q, t)) ∧ ∀ w, w = cb + (if e2 = true then 1 else 0) → w = cntO g (j + 1) (p, q, t)) := by
        refine ⟨fun w hw => ?_, fun w hw => ?_⟩
        · rw [hw, HC.out.1]; unfold cntO; rw [HFX.out, ← he1]
          by_cases c : (fa, fb, fc) = (p, q, t)
          · rw [if_pos c, if_pos (eqO_iff.2 c)]; cases j <;> rfl
          · rw [if_neg c, if_neg (fun h => c (eqO_iff.1 h))]; cases j <;> rfl
        · rw [hw, HC.out.2]; unfold cntO; rw [HGX.out, ← he2]
          by_cases c : (ga, gb, gc) = (p, q, t)
          · rw [if_pos c, if_pos (eqO_iff.2 c)]; cases j <;> rfl
          · rw [if_neg c, if_neg (fun h => c (eqO_iff.1 h))]; cases j <;> rfl
      clear he1 he2 HC
      have hwa : IntKind.i64.wrap ((ca : Int) + 1) = (ca : Int) + 1 := by rw [IntKind.wrap_i64]; omega
      have hwb : IntKind.i64.wrap ((cb : Int) + 1) = (cb : Int) + 1 := by rw [IntKind.wrap_i64]; omega
      have HBW : Hid (Below w3.heap.size w3 wr.drew.drew) := hbw.drew.drew
      cases e1
      · cases e2
        · go_wp2_with fail
          go_region
          go_wp2_with fail
          go_region
          go_wp2_with fail
          generalize wr.drew.drew = W at *
          by_cases hj0 : j = 0
          · subst hj0
            refine wp_region_held_drew (S := fun _ : World => True) (by kernel_rfl) ?_ (fun hHeld => ?_)
            · trivial
            refine wpAnyH_take (i := 0) (oi := { dst := some 90, op := Op.move (Operand.tmp 8), type := 3, pos := _, after := _, guard := none }) (v := ?_) rfl (by kernel_rfl) (by kernel_rfl) (by kernel_rfl) (fun _ _ _ h => h) (Or.inl ⟨by rfl, ?_⟩) (by assumption) ?_
            rotate_left
            · intro wS hSw; (try dsimp only at hSw); go_simp; first | done | with_reducible rfl
            try simp only [Act.put, List.setIfInBounds_toArray, List.set_cons_zero, List.set_cons_succ]
            refine wpAnyH_take (i := 1) (oi := { dst := some 91, op := Op.binOp BinOp.gtr 3 (Operand.tmp 90) (Operand.const (Value.int IntKind.i64 0)) 3, type := 4, pos := _, after := _, guard := none }) (v := ?_) rfl (by kernel_rfl) (by kernel_rfl) (by kernel_rfl) (fun _ _ _ h => h) (Or.inl ⟨by rfl, ?_⟩) (by assumption) ?_
            rotate_left
            · intro wS hSw; (try dsimp only at hSw); go_simp; first | done | with_reducible rfl
            try simp only [Act.put, List.setIfInBounds_toArray, List.set_cons_zero, List.set_cons_succ]
            refine wpAnyH_take (i := 2) (oi := { dst := some 92, op := Op.move (Operand.tmp 91), type := 4, pos := _, after := _, guard := none }) (v := ?_) rfl (by kernel_rfl) (by kernel_rfl) (by kernel_rfl) (fun _ _ _ h => h) (Or.inl ⟨by rfl, ?_⟩) (by assumption) ?_
            rotate_left
            · intro wS hSw; (try dsimp only at hSw); go_simp; first | done | with_reducible rfl
            try simp only [Act.put, List.setIfInBounds_toArray, List.set_cons_zero, List.set_cons_succ]
            refine wpAnyH_take (i := 3) (oi := { dst := some 93, op := Op.move (Operand.tmp 4), type := 22, pos := _, after := _, guard := some (2, true) }) (v := undef) rfl (by kernel_rfl) (by kernel_rfl) (by kernel_rfl) (fun _ _ _ h => h) (Or.inr ⟨by rfl, rfl⟩) (by assumption) ?_
            try simp only [Act.put, List.setIfInBounds_toArray, List.set_cons_zero, List.set_cons_succ]
            refine wpAnyH_take (i := 4) (oi := { dst := some 94, op := Op.move (Operand.tmp 8), type := 3, pos := _, after := _, guard := some (2, true) }) (v := undef) rfl (by kernel_rfl) (by kernel_rfl) (by kernel_rfl) (fun _ _ _ h => h) (Or.inr ⟨by rfl, rfl⟩) (by assumption) ?_
            try simp only [Act.put, List.setIfInBounds_toArray, List.set_cons_zero, List.set_cons_succ]
            refine wpAnyH_take (i := 5) (oi := { dst := some 95, op := Op.indexAddr 22 (Operand.tmp 93) (Operand.tmp 94), type := 0, pos := _, after := _, guard := some (2, true) }) (v := undef) rfl (by kernel_rfl) (by kernel_rfl) (by kernel_rfl) (fun _ _ _ h => h) (Or.inr ⟨by rfl, rfl⟩) (by assumption) ?_
            try simp only [Act.put, List.setIfInBounds_toArray, List.set_cons_zero, List.set_cons_succ]
            refine wpAnyH_take (i := 6) (oi := { dst := some 96, op := Op.load 24 (Operand.tmp 95), type := 24, pos := _, after := _, guard := some (2, true) }) (v := undef) rfl (by kernel_rfl) (by kernel_rfl) (by kernel_rfl) (fun _ _ _ h => h) (Or.inr ⟨by rfl, rfl⟩) (by assumption) ?_
            try simp only [Act.put, List.setIfInBounds_toArray, List.set_cons_zero, List.set_cons_succ]
            refine wpAnyH_take (i := 7) (oi := { dst := some 97, op := Op.move (Operand.tmp 4), type := 22, pos := _, after := _, guard := some (2, true) }) (v := undef) rfl (by kernel_rfl) (by kernel_rfl) (by kernel_rfl) (fun _ _ _ h => h) (Or.inr ⟨by rfl, rfl⟩) (by assumption) ?_
            try simp only [Act.put, List.setIfInBounds_toArray, List.set_cons_zero, List.set_cons_succ]
            refine wpAnyH_take (i := 8) (oi := { dst := some 98, op := Op.move (Operand.tmp 8), type := 3, pos := _, after := _, guard := some (2, true) }) (v := undef) rfl (by kernel_rfl) (by kernel_rfl) (by kernel_rfl) (fun _ _ _ h => h) (Or.inr ⟨by rfl, rfl⟩) (by assumption) ?_
            try simp only [Act.put, List.setIfInBounds_toArray, List.set_cons_zero, List.set_cons_succ]
            refine wpAnyH_take (i := 9) (oi := { dst := some 99, op := Op.binOp BinOp.sub 3 (Operand.tmp 98) (Operand.const (Value.int IntKind.i64 1)) 3, type := 3, pos := _, after := _, guard := some (2, true) }) (v := undef) rfl (by kernel_rfl) (by kernel_rfl) (by kernel_rfl) (fun _ _ _ h => h) (Or.inr ⟨by rfl, rfl⟩) (by assumption) ?_
            try simp only [Act.put, List.setIfInBounds_toArray, List.set_cons_zero, List.set_cons_succ]
            refine wpAnyH_take (i := 10) (oi := { dst := some 100, op := Op.indexAddr 22 (Operand.tmp 97) (Operand.tmp 99), type := 0, pos := _, after := _, guard := some (2, true) }) (v := undef) rfl (by kernel_rfl) (by kernel_rfl) (by kernel_rfl) (fun _ _ _ h => h) (Or.inr ⟨by rfl, rfl⟩) (by assumption) ?_
            try simp only [Act.put, List.setIfInBounds_toArray, List.set_cons_zero, List.set_cons_succ]
            refine wpAnyH_take (i := 11) (oi := { dst := some 101, op := Op.load 24 (Operand.tmp 100), type := 24, pos := _, after := _, guard := some (2, true) }) (v := undef) rfl (by kernel_rfl) (by kernel_rfl) (by kernel_rfl) (fun _ _ _ h => h) (Or.inr ⟨by rfl, rfl⟩) (by assumption) ?_
            try simp only [Act.put, List.setIfInBounds_toArray, List.set_cons_zero, List.set_cons_succ]
            refine wpAnyH_take (i := 12) (oi := { dst := some 102, op := Op.call { callee := Callee.value (Operand.func 11), args := #[Operand.tmp 96, Operand.tmp 101], argTypes := #[24, 24] }, type := 4, pos := _, after := _, guard := some (2, true) }) (v := undef) rfl (by kernel_rfl) (by kernel_rfl) (by kernel_rfl) (fun _ _ _ h => h) (Or.inr ⟨by rfl, rfl⟩) (by assumption) ?_
            try simp only [Act.put, List.setIfInBounds_toArray, List.set_cons_zero, List.set_cons_succ]
            refine wpAnyH_take (i := 13) (oi := { dst := some 103, op := Op.pick (Operand.tmp 92) (Operand.tmp 102) (Operand.const (Value.bool false)), type := 4, pos := _, after := _, guard := none }) (v := ?_) rfl (by kernel_rfl) (by kernel_rfl) (by kernel_rfl) (fun _ _ _ h => h) (Or.inl ⟨by rfl, ?_⟩) (by assumption) ?_
            rotate_left
            · intro wS hSw; (try dsimp only at hSw); go_simp; first | done | with_reducible rfl
            try simp only [Act.put, List.setIfInBounds_toArray, List.set_cons_zero, List.set_cons_succ]
            refine wpAnyH_done (by kernel_rfl) ?_ _
            go_wp2
            go_roundw
            case rel => exact ⟨1, ca, cb, by first | rfl | go_num, by first | rfl | go_num, by first | rfl | go_num, by omega, by omega, by omega, ⟨HN.out.1 _ (by simp), HN.out.2 _ (by simp)⟩, HBW.out.drew⟩
            case measure => simp [intOf]; omega
          · have hj1 : decide ((0 : Int) < j) = true := decide_eq_true (by omega)
            have hj2 : decide (0 < j) = true := decide_eq_true (by omega)
            obtain ⟨i, hi⟩ : ∃ i, j = i + 1 := ⟨j - 1, by omega⟩
            have hil : (i : Int) < n := by omega
            have hwj : IntKind.i64.wrap ((j : Int) - 1) = (i : Int) := by rw [IntKind.wrap_i64]; omega
            have hgi := HG4.out i (by omega)
            have hgj := HG4.out j hlt
            rw [HGX.out] at hgj
            have hl0 : ltO (g j) (g i) = false := HSR.out i j (by omega) hlt
            rw [HGX.out] at hl0
            obtain ⟨⟨ha, hb, hc⟩, hgx⟩ : ∃ y, g i = y := ⟨_, rfl⟩
            rw [hgx] at hgi hl0
            have HL0 : Hid (ltO (ga, gb, gc) (ha, hb, hc) = false) := hl0
            clear hgx hl0
            have HS : Hid (∀ y, Below w3.heap.size w3 y → (y.cell? ⟨bs, os + j * 3, none⟩ = some (.int .i64 ga) ∧ y.cell? ⟨bs, os + j * 3 + 1, none⟩ = some (.int .i64 gb) ∧ y.cell? ⟨bs, os + j * 3 + 2, none⟩ = some (.int .i64 gc) ∧ y.cell? ⟨bs, os + i * 3, none⟩ = some (.int .i64 ha) ∧ y.cell? ⟨bs, os + i * 3 + 1, none⟩ = some (.int .i64 hb) ∧ y.cell? ⟨bs, os + i * 3 + 2, none⟩ = some (.int .i64 hc)) ∧ Below w3.heap.size w3 y) := fun y hy => ⟨⟨(hgj y hy).1, (hgj y hy).2.1, (hgj y hy).2.2, (hgi y hy).1, (hgi y hy).2.1, (hgi y hy).2.2⟩, hy⟩
            clear hgi hgj hi hj0 hHeld
            go_region_held3 (fun y => (y.cell? ⟨bs, os + j * 3, none⟩ = some (.int .i64 ga) ∧ y.cell? ⟨bs, os + j * 3 + 1, none⟩ = some (.int .i64 gb) ∧ y.cell? ⟨bs, os + j * 3 + 2, none⟩ = some (.int .i64 gc) ∧ y.cell? ⟨bs, os + i * 3, none⟩ = some (.int .i64 ha) ∧ y.cell? ⟨bs, os + i * 3 + 1, none⟩ = some (.int .i64 hb) ∧ y.cell? ⟨bs, os + i * 3 + 2, none⟩ = some (.int .i64 hc)) ∧ Below w3.heap.size w3 y)
              (first | exact HS.out _ (bstep (by assumption) (sBel (by assumption))) | exact HS.out _ HBW.out.drew)
              (first | (go_at_call 11; refine (less14_any ga gb gc ha hb hc _).mono ?_; rintro e w7 ⟨rfl, hb7⟩; rw [HL0.out]))
            all_goals
              go_wp2
              go_roundw
              case rel => exact ⟨j + 1, ca, cb, by first | rfl | go_num, by first | rfl | go_num, by first | rfl | go_num, by omega, by omega, by omega, ⟨HN.out.1 _ (by simp), HN.out.2 _ (by simp)⟩, (sBel (by assumption))⟩
              case measure => simp [intOf]; omega
        · go_wp2_with fail
          go_region
          go_wp2_with fail
          go_region
          go_wp2_with fail
          generalize wr.drew.drew = W at *
          by_cases hj0 : j = 0
          · subst hj0
            refine wp_region_held_drew (S := fun _ : World => True) (by kernel_rfl) ?_ (fun hHeld => ?_)
            · trivial
            refine wpAnyH_take (i := 0) (oi := { dst := some 90, op := Op.move (Operand.tmp 8), type := 3, pos := _, after := _, guard := none }) (v := ?_) rfl (by kernel_rfl) (by kernel_rfl) (by kernel_rfl) (fun _ _ _ h => h) (Or.inl ⟨by rfl, ?_⟩) (by assumption) ?_
            rotate_left
            · intro wS hSw; (try dsimp only at hSw); go_simp; first | done | with_reducible rfl
            try simp only [Act.put, List.setIfInBounds_toArray, List.set_cons_zero, List.set_cons_succ]
            refine wpAnyH_take (i := 1) (oi := { dst := some 91, op := Op.binOp BinOp.gtr 3 (Operand.tmp 90) (Operand.const (Value.int IntKind.i64 0)) 3, type := 4, pos := _, after := _, guard := none }) (v := ?_) rfl (by kernel_rfl) (by kernel_rfl) (by kernel_rfl) (fun _ _ _ h => h) (Or.inl ⟨by rfl, ?_⟩) (by assumption) ?_
            rotate_left
            · intro wS hSw; (try dsimp only at hSw); go_simp; first | done | with_reducible rfl
            try simp only [Act.put, List.setIfInBounds_toArray, List.set_cons_zero, List.set_cons_succ]
            refine wpAnyH_take (i := 2) (oi := { dst := some 92, op := Op.move (Operand.tmp 91), type := 4, pos := _, after := _, guard := none }) (v := ?_) rfl (by kernel_rfl) (by kernel_rfl) (by kernel_rfl) (fun _ _ _ h => h) (Or.inl ⟨by rfl, ?_⟩) (by assumption) ?_
            rotate_left
            · intro wS hSw; (try dsimp only at hSw); go_simp; first | done | with_reducible rfl
            try simp only [Act.put, List.setIfInBounds_toArray, List.set_cons_zero, List.set_cons_succ]
            refine wpAnyH_take (i := 3) (oi := { dst := some 93, op := Op.move (Operand.tmp 4), type := 22, pos := _, after := _, guard := some (2, true) }) (v := undef) rfl (by kernel_rfl) (by kernel_rfl) (by kernel_rfl) (fun _ _ _ h => h) (Or.inr ⟨by rfl, rfl⟩) (by assumption) ?_
            try simp only [Act.put, List.setIfInBounds_toArray, List.set_cons_zero, List.set_cons_succ]
            refine wpAnyH_take (i := 4) (oi := { dst := some 94, op := Op.move (Operand.tmp 8), type := 3, pos := _, after := _, guard := some (2, true) }) (v := undef) rfl (by kernel_rfl) (by kernel_rfl) (by kernel_rfl) (fun _ _ _ h => h) (Or.inr ⟨by rfl, rfl⟩) (by assumption) ?_
            try simp only [Act.put, List.setIfInBounds_toArray, List.set_cons_zero, List.set_cons_succ]
            refine wpAnyH_take (i := 5) (oi := { dst := some 95, op := Op.indexAddr 22 (Operand.tmp 93) (Operand.tmp 94), type := 0, pos := _, after := _, guard := some (2, true) }) (v := undef) rfl (by kernel_rfl) (by kernel_rfl) (by kernel_rfl) (fun _ _ _ h => h) (Or.inr ⟨by rfl, rfl⟩) (by assumption) ?_
            try simp only [Act.put, List.setIfInBounds_toArray, List.set_cons_zero, List.set_cons_succ]
            refine wpAnyH_take (i := 6) (oi := { dst := some 96, op := Op.load 24 (Operand.tmp 95), type := 24, pos := _, after := _, guard := some (2, true) }) (v := undef) rfl (by kernel_rfl) (by kernel_rfl) (by kernel_rfl) (fun _ _ _ h => h) (Or.inr ⟨by rfl, rfl⟩) (by assumption) ?_
            try simp only [Act.put, List.setIfInBounds_toArray, List.set_cons_zero, List.set_cons_succ]
            refine wpAnyH_take (i := 7) (oi := { dst := some 97, op := Op.move (Operand.tmp 4), type := 22, pos := _, after := _, guard := some (2, true) }) (v := undef) rfl (by kernel_rfl) (by kernel_rfl) (by kernel_rfl) (fun _ _ _ h => h) (Or.inr ⟨by rfl, rfl⟩) (by assumption) ?_
            try simp only [Act.put, List.setIfInBounds_toArray, List.set_cons_zero, List.set_cons_succ]
            refine wpAnyH_take (i := 8) (oi := { dst := some 98, op := Op.move (Operand.tmp 8), type := 3, pos := _, after := _, guard := some (2, true) }) (v := undef) rfl (by kernel_rfl) (by kernel_rfl) (by kernel_rfl) (fun _ _ _ h => h) (Or.inr ⟨by rfl, rfl⟩) (by assumption) ?_
            try simp only [Act.put, List.setIfInBounds_toArray, List.set_cons_zero, List.set_cons_succ]
            refine wpAnyH_take (i := 9) (oi := { dst := some 99, op := Op.binOp BinOp.sub 3 (Operand.tmp 98) (Operand.const (Value.int IntKind.i64 1)) 3, type := 3, pos := _, after := _, guard := some (2, true) }) (v := undef) rfl (by kernel_rfl) (by kernel_rfl) (by kernel_rfl) (fun _ _ _ h => h) (Or.inr ⟨by rfl, rfl⟩) (by assumption) ?_
            try simp only [Act.put, List.setIfInBounds_toArray, List.set_cons_zero, List.set_cons_succ]
            refine wpAnyH_take (i := 10) (oi := { dst := some 100, op := Op.indexAddr 22 (Operand.tmp 97) (Operand.tmp 99), type := 0, pos := _, after := _, guard := some (2, true) }) (v := undef) rfl (by kernel_rfl) (by kernel_rfl) (by kernel_rfl) (fun _ _ _ h => h) (Or.inr ⟨by rfl, rfl⟩) (by assumption) ?_
            try simp only [Act.put, List.setIfInBounds_toArray, List.set_cons_zero, List.set_cons_succ]
            refine wpAnyH_take (i := 11) (oi := { dst := some 101, op := Op.load 24 (Operand.tmp 100), type := 24, pos := _, after := _, guard := some (2, true) }) (v := undef) rfl (by kernel_rfl) (by kernel_rfl) (by kernel_rfl) (fun _ _ _ h => h) (Or.inr ⟨by rfl, rfl⟩) (by assumption) ?_
            try simp only [Act.put, List.setIfInBounds_toArray, List.set_cons_zero, List.set_cons_succ]
            refine wpAnyH_take (i := 12) (oi := { dst := some 102, op := Op.call { callee := Callee.value (Operand.func 11), args := #[Operand.tmp 96, Operand.tmp 101], argTypes := #[24, 24] }, type := 4, pos := _, after := _, guard := some (2, true) }) (v := undef) rfl (by kernel_rfl) (by kernel_rfl) (by kernel_rfl) (fun _ _ _ h => h) (Or.inr ⟨by rfl, rfl⟩) (by assumption) ?_
            try simp only [Act.put, List.setIfInBounds_toArray, List.set_cons_zero, List.set_cons_succ]
            refine wpAnyH_take (i := 13) (oi := { dst := some 103, op := Op.pick (Operand.tmp 92) (Operand.tmp 102) (Operand.const (Value.bool false)), type := 4, pos := _, after := _, guard := none }) (v := ?_) rfl (by kernel_rfl) (by kernel_rfl) (by kernel_rfl) (fun _ _ _ h => h) (Or.inl ⟨by rfl, ?_⟩) (by assumption) ?_
            rotate_left
            · intro wS hSw; (try dsimp only at hSw); go_simp; first | done | with_reducible rfl
            try simp only [Act.put, List.setIfInBounds_toArray, List.set_cons_zero, List.set_cons_succ]
            refine wpAnyH_done (by kernel_rfl) ?_ _
            go_wp2
            go_roundw
            case rel => exact ⟨1, ca, cb + 1, by first | rfl | go_num, by first | rfl | go_num, by first | rfl | go_num, by omega, by omega, by omega, ⟨HN.out.1 _ (by simp), HN.out.2 _ (by simp)⟩, HBW.out.drew⟩
            case measure => simp [intOf]; omega
          · have hj1 : decide ((0 : Int) < j) = true := decide_eq_true (by omega)
            have hj2 : decide (0 < j) = true := decide_eq_true (by omega)
            obtain ⟨i, hi⟩ : ∃ i, j = i + 1 := ⟨j - 1, by omega⟩
            have hil : (i : Int) < n := by omega
            have hwj : IntKind.i64.wrap ((j : Int) - 1) = (i : Int) := by rw [IntKind.wrap_i64]; omega
            have hgi := HG4.out i (by omega)
            have hgj := HG4.out j hlt
            rw [HGX.out] at hgj
            have hl0 : ltO (g j) (g i) = false := HSR.out i j (by omega) hlt
            rw [HGX.out] at hl0
            obtain ⟨⟨ha, hb, hc⟩, hgx⟩ : ∃ y, g i = y := ⟨_, rfl⟩
            rw [hgx] at hgi hl0
            have HL0 : Hid (ltO (ga, gb, gc) (ha, hb, hc) = false) := hl0
            clear hgx hl0
            have HS : Hid (∀ y, Below w3.heap.size w3 y → (y.cell? ⟨bs, os + j * 3, none⟩ = some (.int .i64 ga) ∧ y.cell? ⟨bs, os + j * 3 + 1, none⟩ = some (.int .i64 gb) ∧ y.cell? ⟨bs, os + j * 3 + 2, none⟩ = some (.int .i64 gc) ∧ y.cell? ⟨bs, os + i * 3, none⟩ = some (.int .i64 ha) ∧ y.cell? ⟨bs, os + i * 3 + 1, none⟩ = some (.int .i64 hb) ∧ y.cell? ⟨bs, os + i * 3 + 2, none⟩ = some (.int .i64 hc)) ∧ Below w3.heap.size w3 y) := fun y hy => ⟨⟨(hgj y hy).1, (hgj y hy).2.1, (hgj y hy).2.2, (hgi y hy).1, (hgi y hy).2.1, (hgi y hy).2.2⟩, hy⟩
            clear hgi hgj hi hj0 hHeld
            go_region_held3 (fun y => (y.cell? ⟨bs, os + j * 3, none⟩ = some (.int .i64 ga) ∧ y.cell? ⟨bs, os + j * 3 + 1, none⟩ = some (.int .i64 gb) ∧ y.cell? ⟨bs, os + j * 3 + 2, none⟩ = some (.int .i64 gc) ∧ y.cell? ⟨bs, os + i * 3, none⟩ = some (.int .i64 ha) ∧ y.cell? ⟨bs, os + i * 3 + 1, none⟩ = some (.int .i64 hb) ∧ y.cell? ⟨bs, os + i * 3 + 2, none⟩ = some (.int .i64 hc)) ∧ Below w3.heap.size w3 y)
              (first | exact HS.out _ (bstep (by assumption) (sBel (by assumption))) | exact HS.out _ HBW.out.drew)
              (first | (go_at_call 11; refine (less14_any ga gb gc ha hb hc _).mono ?_; rintro e w7 ⟨rfl, hb7⟩; rw [HL0.out]))
            all_goals
              go_wp2
              go_roundw
              case rel => exact ⟨j + 1, ca, cb + 1, by first | rfl | go_num, by first | rfl | go_num, by first | rfl | go_num, by omega, by omega, by omega, ⟨HN.out.1 _ (by simp), HN.out.2 _ (by simp)⟩, (sBel (by assumption))⟩
              case measure => simp [intOf]; omega
      · cases e2
        · go_wp2_with fail
          go_region
          go_wp2_with fail
          go_region
          go_wp2_with fail
          generalize wr.drew.drew = W at *
          by_cases hj0 : j = 0
          · subst hj0
            refine wp_region_held_drew (S := fun _ : World => True) (by kernel_rfl) ?_ (fun hHeld => ?_)
            · trivial
            refine wpAnyH_take (i := 0) (oi := { dst := some 90, op := Op.move (Operand.tmp 8), type := 3, pos := _, after := _, guard := none }) (v := ?_) rfl (by kernel_rfl) (by kernel_rfl) (by kernel_rfl) (fun _ _ _ h => h) (Or.inl ⟨by rfl, ?_⟩) (by assumption) ?_
            rotate_left
            · intro wS hSw; (try dsimp only at hSw); go_simp; first | done | with_reducible rfl
            try simp only [Act.put, List.setIfInBounds_toArray, List.set_cons_zero, List.set_cons_succ]
            refine wpAnyH_take (i := 1) (oi := { dst := some 91, op := Op.binOp BinOp.gtr 3 (Operand.tmp 90) (Operand.const (Value.int IntKind.i64 0)) 3, type := 4, pos := _, after := _, guard := none }) (v := ?_) rfl (by kernel_rfl) (by kernel_rfl) (by kernel_rfl) (fun _ _ _ h => h) (Or.inl ⟨by rfl, ?_⟩) (by assumption) ?_
            rotate_left
            · intro wS hSw; (try dsimp only at hSw); go_simp; first | done | with_reducible rfl
            try simp only [Act.put, List.setIfInBounds_toArray, List.set_cons_zero, List.set_cons_succ]
            refine wpAnyH_take (i := 2) (oi := { dst := some 92, op := Op.move (Operand.tmp 91), type := 4, pos := _, after := _, guard := none }) (v := ?_) rfl (by kernel_rfl) (by kernel_rfl) (by kernel_rfl) (fun _ _ _ h => h) (Or.inl ⟨by rfl, ?_⟩) (by assumption) ?_
            rotate_left
            · intro wS hSw; (try dsimp only at hSw); go_simp; first | done | with_reducible rfl
            try simp only [Act.put, List.setIfInBounds_toArray, List.set_cons_zero, List.set_cons_succ]
            refine wpAnyH_take (i := 3) (oi := { dst := some 93, op := Op.move (Operand.tmp 4), type := 22, pos := _, after := _, guard := some (2, true) }) (v := undef) rfl (by kernel_rfl) (by kernel_rfl) (by kernel_rfl) (fun _ _ _ h => h) (Or.inr ⟨by rfl, rfl⟩) (by assumption) ?_
            try simp only [Act.put, List.setIfInBounds_toArray, List.set_cons_zero, List.set_cons_succ]
            refine wpAnyH_take (i := 4) (oi := { dst := some 94, op := Op.move (Operand.tmp 8), type := 3, pos := _, after := _, guard := some (2, true) }) (v := undef) rfl (by kernel_rfl) (by kernel_rfl) (by kernel_rfl) (fun _ _ _ h => h) (Or.inr ⟨by rfl, rfl⟩) (by assumption) ?_
            try simp only [Act.put, List.setIfInBounds_toArray, List.set_cons_zero, List.set_cons_succ]
            refine wpAnyH_take (i := 5) (oi := { dst := some 95, op := Op.indexAddr 22 (Operand.tmp 93) (Operand.tmp 94), type := 0, pos := _, after := _, guard := some (2, true) }) (v := undef) rfl (by kernel_rfl) (by kernel_rfl) (by kernel_rfl) (fun _ _ _ h => h) (Or.inr ⟨by rfl, rfl⟩) (by assumption) ?_
            try simp only [Act.put, List.setIfInBounds_toArray, List.set_cons_zero, List.set_cons_succ]
            refine wpAnyH_take (i := 6) (oi := { dst := some 96, op := Op.load 24 (Operand.tmp 95), type := 24, pos := _, after := _, guard := some (2, true) }) (v := undef) rfl (by kernel_rfl) (by kernel_rfl) (by kernel_rfl) (fun _ _ _ h => h) (Or.inr ⟨by rfl, rfl⟩) (by assumption) ?_
            try simp only [Act.put, List.setIfInBounds_toArray, List.set_cons_zero, List.set_cons_succ]
            refine wpAnyH_take (i := 7) (oi := { dst := some 97, op := Op.move (Operand.tmp 4), type := 22, pos := _, after := _, guard := some (2, true) }) (v := undef) rfl (by kernel_rfl) (by kernel_rfl) (by kernel_rfl) (fun _ _ _ h => h) (Or.inr ⟨by rfl, rfl⟩) (by assumption) ?_
            try simp only [Act.put, List.setIfInBounds_toArray, List.set_cons_zero, List.set_cons_succ]
            refine wpAnyH_take (i := 8) (oi := { dst := some 98, op := Op.move (Operand.tmp 8), type := 3, pos := _, after := _, guard := some (2, true) }) (v := undef) rfl (by kernel_rfl) (by kernel_rfl) (by kernel_rfl) (fun _ _ _ h => h) (Or.inr ⟨by rfl, rfl⟩) (by assumption) ?_
            try simp only [Act.put, List.setIfInBounds_toArray, List.set_cons_zero, List.set_cons_succ]
            refine wpAnyH_take (i := 9) (oi := { dst := some 99, op := Op.binOp BinOp.sub 3 (Operand.tmp 98) (Operand.const (Value.int IntKind.i64 1)) 3, type := 3, pos := _, after := _, guard := some (2, true) }) (v := undef) rfl (by kernel_rfl) (by kernel_rfl) (by kernel_rfl) (fun _ _ _ h => h) (Or.inr ⟨by rfl, rfl⟩) (by assumption) ?_
            try simp only [Act.put, List.setIfInBounds_toArray, List.set_cons_zero, List.set_cons_succ]
            refine wpAnyH_take (i := 10) (oi := { dst := some 100, op := Op.indexAddr 22 (Operand.tmp 97) (Operand.tmp 99), type := 0, pos := _, after := _, guard := some (2, true) }) (v := undef) rfl (by kernel_rfl) (by kernel_rfl) (by kernel_rfl) (fun _ _ _ h => h) (Or.inr ⟨by rfl, rfl⟩) (by assumption) ?_
            try simp only [Act.put, List.setIfInBounds_toArray, List.set_cons_zero, List.set_cons_succ]
            refine wpAnyH_take (i := 11) (oi := { dst := some 101, op := Op.load 24 (Operand.tmp 100), type := 24, pos := _, after := _, guard := some (2, true) }) (v := undef) rfl (by kernel_rfl) (by kernel_rfl) (by kernel_rfl) (fun _ _ _ h => h) (Or.inr ⟨by rfl, rfl⟩) (by assumption) ?_
            try simp only [Act.put, List.setIfInBounds_toArray, List.set_cons_zero, List.set_cons_succ]
            refine wpAnyH_take (i := 12) (oi := { dst := some 102, op := Op.call { callee := Callee.value (Operand.func 11), args := #[Operand.tmp 96, Operand.tmp 101], argTypes := #[24, 24] }, type := 4, pos := _, after := _, guard := some (2, true) }) (v := undef) rfl (by kernel_rfl) (by kernel_rfl) (by kernel_rfl) (fun _ _ _ h => h) (Or.inr ⟨by rfl, rfl⟩) (by assumption) ?_
            try simp only [Act.put, List.setIfInBounds_toArray, List.set_cons_zero, List.set_cons_succ]
            refine wpAnyH_take (i := 13) (oi := { dst := some 103, op := Op.pick (Operand.tmp 92) (Operand.tmp 102) (Operand.const (Value.bool false)), type := 4, pos := _, after := _, guard := none }) (v := ?_) rfl (by kernel_rfl) (by kernel_rfl) (by kernel_rfl) (fun _ _ _ h => h) (Or.inl ⟨by rfl, ?_⟩) (by assumption) ?_
            rotate_left
            · intro wS hSw; (try dsimp only at hSw); go_simp; first | done | with_reducible rfl
            try simp only [Act.put, List.setIfInBounds_toArray, List.set_cons_zero, List.set_cons_succ]
            refine wpAnyH_done (by kernel_rfl) ?_ _
            go_wp2
            go_roundw
            case rel => exact ⟨1, ca + 1, cb, by first | rfl | go_num, by first | rfl | go_num, by first | rfl | go_num, by omega, by omega, by omega, ⟨HN.out.1 _ (by simp), HN.out.2 _ (by simp)⟩, HBW.out.drew⟩
            case measure => simp [intOf]; omega
          · have hj1 : decide ((0 : Int) < j) = true := decide_eq_true (by omega)
            have hj2 : decide (0 < j) = true := decide_eq_true (by omega)
            obtain ⟨i, hi⟩ : ∃ i, j = i + 1 := ⟨j - 1, by omega⟩
            have hil : (i : Int) < n := by omega
            have hwj : IntKind.i64.wrap ((j : Int) - 1) = (i : Int) := by rw [IntKind.wrap_i64]; omega
            have hgi := HG4.out i (by omega)
            have hgj := HG4.out j hlt
            rw [HGX.out] at hgj
            have hl0 : ltO (g j) (g i) = false := HSR.out i j (by omega) hlt
            rw [HGX.out] at hl0
            obtain ⟨⟨ha, hb, hc⟩, hgx⟩ : ∃ y, g i = y := ⟨_, rfl⟩
            rw [hgx] at hgi hl0
            have HL0 : Hid (ltO (ga, gb, gc) (ha, hb, hc) = false) := hl0
            clear hgx hl0
            have HS : Hid (∀ y, Below w3.heap.size w3 y → (y.cell? ⟨bs, os + j * 3, none⟩ = some (.int .i64 ga) ∧ y.cell? ⟨bs, os + j * 3 + 1, none⟩ = some (.int .i64 gb) ∧ y.cell? ⟨bs, os + j * 3 + 2, none⟩ = some (.int .i64 gc) ∧ y.cell? ⟨bs, os + i * 3, none⟩ = some (.int .i64 ha) ∧ y.cell? ⟨bs, os + i * 3 + 1, none⟩ = some (.int .i64 hb) ∧ y.cell? ⟨bs, os + i * 3 + 2, none⟩ = some (.int .i64 hc)) ∧ Below w3.heap.size w3 y) := fun y hy => ⟨⟨(hgj y hy).1, (hgj y hy).2.1, (hgj y hy).2.2, (hgi y hy).1, (hgi y hy).2.1, (hgi y hy).2.2⟩, hy⟩
            clear hgi hgj hi hj0 hHeld
            go_region_held3 (fun y => (y.cell? ⟨bs, os + j * 3, none⟩ = some (.int .i64 ga) ∧ y.cell? ⟨bs, os + j * 3 + 1, none⟩ = some (.int .i64 gb) ∧ y.cell? ⟨bs, os + j * 3 + 2, none⟩ = some (.int .i64 gc) ∧ y.cell? ⟨bs, os + i * 3, none⟩ = some (.int .i64 ha) ∧ y.cell? ⟨bs, os + i * 3 + 1, none⟩ = some (.int .i64 hb) ∧ y.cell? ⟨bs, os + i * 3 + 2, none⟩ = some (.int .i64 hc)) ∧ Below w3.heap.size w3 y)
              (first | exact HS.out _ (bstep (by assumption) (sBel (by assumption))) | exact HS.out _ HBW.out.drew)
              (first | (go_at_call 11; refine (less14_any ga gb gc ha hb hc _).mono ?_; rintro e w7 ⟨rfl, hb7⟩; rw [HL0.out]))
            all_goals
              go_wp2
              go_roundw
              case rel => exact ⟨j + 1, ca + 1, cb, by first | rfl | go_num, by first | rfl | go_num, by first | rfl | go_num, by omega, by omega, by omega, ⟨HN.out.1 _ (by simp), HN.out.2 _ (by simp)⟩, (sBel (by assumption))⟩
              case measure => simp [intOf]; omega
        · go_wp2_with fail
          go_region
          go_wp2_with fail
          go_region
          go_wp2_with fail
          generalize wr.drew.drew = W at *
          by_cases hj0 : j = 0
          · subst hj0
            refine wp_region_held_drew (S := fun _ : World => True) (by kernel_rfl) ?_ (fun hHeld => ?_)
            · trivial
            refine wpAnyH_take (i := 0) (oi := { dst := some 90, op := Op.move (Operand.tmp 8), type := 3, pos := _, after := _, guard := none }) (v := ?_) rfl (by kernel_rfl) (by kernel_rfl) (by kernel_rfl) (fun _ _ _ h => h) (Or.inl ⟨by rfl, ?_⟩) (by assumption) ?_
            rotate_left
            · intro wS hSw; (try dsimp only at hSw); go_simp; first | done | with_reducible rfl
            try simp only [Act.put, List.setIfInBounds_toArray, List.set_cons_zero, List.set_cons_succ]
            refine wpAnyH_take (i := 1) (oi := { dst := some 91, op := Op.binOp BinOp.gtr 3 (Operand.tmp 90) (Operand.const (Value.int IntKind.i64 0)) 3, type := 4, pos := _, after := _, guard := none }) (v := ?_) rfl (by kernel_rfl) (by kernel_rfl) (by kernel_rfl) (fun _ _ _ h => h) (Or.inl ⟨by rfl, ?_⟩) (by assumption) ?_
            rotate_left
            · intro wS hSw; (try dsimp only at hSw); go_simp; first | done | with_reducible rfl
            try simp only [Act.put, List.setIfInBounds_toArray, List.set_cons_zero, List.set_cons_succ]
            refine wpAnyH_take (i := 2) (oi := { dst := some 92, op := Op.move (Operand.tmp 91), type := 4, pos := _, after := _, guard := none }) (v := ?_) rfl (by kernel_rfl) (by kernel_rfl) (by kernel_rfl) (fun _ _ _ h => h) (Or.inl ⟨by rfl, ?_⟩) (by assumption) ?_
            rotate_left
            · intro wS hSw; (try dsimp only at hSw); go_simp; first | done | with_reducible rfl
            try simp only [Act.put, List.setIfInBounds_toArray, List.set_cons_zero, List.set_cons_succ]
            refine wpAnyH_take (i := 3) (oi := { dst := some 93, op := Op.move (Operand.tmp 4), type := 22, pos := _, after := _, guard := some (2, true) }) (v := undef) rfl (by kernel_rfl) (by kernel_rfl) (by kernel_rfl) (fun _ _ _ h => h) (Or.inr ⟨by rfl, rfl⟩) (by assumption) ?_
            try simp only [Act.put, List.setIfInBounds_toArray, List.set_cons_zero, List.set_cons_succ]
            refine wpAnyH_take (i := 4) (oi := { dst := some 94, op := Op.move (Operand.tmp 8), type := 3, pos := _, after := _, guard := some (2, true) }) (v := undef) rfl (by kernel_rfl) (by kernel_rfl) (by kernel_rfl) (fun _ _ _ h => h) (Or.inr ⟨by rfl, rfl⟩) (by assumption) ?_
            try simp only [Act.put, List.setIfInBounds_toArray, List.set_cons_zero, List.set_cons_succ]
            refine wpAnyH_take (i := 5) (oi := { dst := some 95, op := Op.indexAddr 22 (Operand.tmp 93) (Operand.tmp 94), type := 0, pos := _, after := _, guard := some (2, true) }) (v := undef) rfl (by kernel_rfl) (by kernel_rfl) (by kernel_rfl) (fun _ _ _ h => h) (Or.inr ⟨by rfl, rfl⟩) (by assumption) ?_
            try simp only [Act.put, List.setIfInBounds_toArray, List.set_cons_zero, List.set_cons_succ]
            refine wpAnyH_take (i := 6) (oi := { dst := some 96, op := Op.load 24 (Operand.tmp 95), type := 24, pos := _, after := _, guard := some (2, true) }) (v := undef) rfl (by kernel_rfl) (by kernel_rfl) (by kernel_rfl) (fun _ _ _ h => h) (Or.inr ⟨by rfl, rfl⟩) (by assumption) ?_
            try simp only [Act.put, List.setIfInBounds_toArray, List.set_cons_zero, List.set_cons_succ]
            refine wpAnyH_take (i := 7) (oi := { dst := some 97, op := Op.move (Operand.tmp 4), type := 22, pos := _, after := _, guard := some (2, true) }) (v := undef) rfl (by kernel_rfl) (by kernel_rfl) (by kernel_rfl) (fun _ _ _ h => h) (Or.inr ⟨by rfl, rfl⟩) (by assumption) ?_
            try simp only [Act.put, List.setIfInBounds_toArray, List.set_cons_zero, List.set_cons_succ]
            refine wpAnyH_take (i := 8) (oi := { dst := some 98, op := Op.move (Operand.tmp 8), type := 3, pos := _, after := _, guard := some (2, true) }) (v := undef) rfl (by kernel_rfl) (by kernel_rfl) (by kernel_rfl) (fun _ _ _ h => h) (Or.inr ⟨by rfl, rfl⟩) (by assumption) ?_
            try simp only [Act.put, List.setIfInBounds_toArray, List.set_cons_zero, List.set_cons_succ]
            refine wpAnyH_take (i := 9) (oi := { dst := some 99, op := Op.binOp BinOp.sub 3 (Operand.tmp 98) (Operand.const (Value.int IntKind.i64 1)) 3, type := 3, pos := _, after := _, guard := some (2, true) }) (v := undef) rfl (by kernel_rfl) (by kernel_rfl) (by kernel_rfl) (fun _ _ _ h => h) (Or.inr ⟨by rfl, rfl⟩) (by assumption) ?_
            try simp only [Act.put, List.setIfInBounds_toArray, List.set_cons_zero, List.set_cons_succ]
            refine wpAnyH_take (i := 10) (oi := { dst := some 100, op := Op.indexAddr 22 (Operand.tmp 97) (Operand.tmp 99), type := 0, pos := _, after := _, guard := some (2, true) }) (v := undef) rfl (by kernel_rfl) (by kernel_rfl) (by kernel_rfl) (fun _ _ _ h => h) (Or.inr ⟨by rfl, rfl⟩) (by assumption) ?_
            try simp only [Act.put, List.setIfInBounds_toArray, List.set_cons_zero, List.set_cons_succ]
            refine wpAnyH_take (i := 11) (oi := { dst := some 101, op := Op.load 24 (Operand.tmp 100), type := 24, pos := _, after := _, guard := some (2, true) }) (v := undef) rfl (by kernel_rfl) (by kernel_rfl) (by kernel_rfl) (fun _ _ _ h => h) (Or.inr ⟨by rfl, rfl⟩) (by assumption) ?_
            try simp only [Act.put, List.setIfInBounds_toArray, List.set_cons_zero, List.set_cons_succ]
            refine wpAnyH_take (i := 12) (oi := { dst := some 102, op := Op.call { callee := Callee.value (Operand.func 11), args := #[Operand.tmp 96, Operand.tmp 101], argTypes := #[24, 24] }, type := 4, pos := _, after := _, guard := some (2, true) }) (v := undef) rfl (by kernel_rfl) (by kernel_rfl) (by kernel_rfl) (fun _ _ _ h => h) (Or.inr ⟨by rfl, rfl⟩) (by assumption) ?_
            try simp only [Act.put, List.setIfInBounds_toArray, List.set_cons_zero, List.set_cons_succ]
            refine wpAnyH_take (i := 13) (oi := { dst := some 103, op := Op.pick (Operand.tmp 92) (Operand.tmp 102) (Operand.const (Value.bool false)), type := 4, pos := _, after := _, guard := none }) (v := ?_) rfl (by kernel_rfl) (by kernel_rfl) (by kernel_rfl) (fun _ _ _ h => h) (Or.inl ⟨by rfl, ?_⟩) (by assumption) ?_
            rotate_left
            · intro wS hSw; (try dsimp only at hSw); go_simp; first | done | with_reducible rfl
            try simp only [Act.put, List.setIfInBounds_toArray, List.set_cons_zero, List.set_cons_succ]
            refine wpAnyH_done (by kernel_rfl) ?_ _
            go_wp2
            go_roundw
            case rel => exact ⟨1, ca + 1, cb + 1, by first | rfl | go_num, by first | rfl | go_num, by first | rfl | go_num, by omega, by omega, by omega, ⟨HN.out.1 _ (by simp), HN.out.2 _ (by simp)⟩, HBW.out.drew⟩
            case measure => simp [intOf]; omega
          · have hj1 : decide ((0 : Int) < j) = true := decide_eq_true (by omega)
            have hj2 : decide (0 < j) = true := decide_eq_true (by omega)
            obtain ⟨i, hi⟩ : ∃ i, j = i + 1 := ⟨j - 1, by omega⟩
            have hil : (i : Int) < n := by omega
            have hwj : IntKind.i64.wrap ((j : Int) - 1) = (i : Int) := by rw [IntKind.wrap_i64]; omega
            have hgi := HG4.out i (by omega)
            have hgj := HG4.out j hlt
            rw [HGX.out] at hgj
            have hl0 : ltO (g j) (g i) = false := HSR.out i j (by omega) hlt
            rw [HGX.out] at hl0
            obtain ⟨⟨ha, hb, hc⟩, hgx⟩ : ∃ y, g i = y := ⟨_, rfl⟩
            rw [hgx] at hgi hl0
            have HL0 : Hid (ltO (ga, gb, gc) (ha, hb, hc) = false) := hl0
            clear hgx hl0
            have HS : Hid (∀ y, Below w3.heap.size w3 y → (y.cell? ⟨bs, os + j * 3, none⟩ = some (.int .i64 ga) ∧ y.cell? ⟨bs, os + j * 3 + 1, none⟩ = some (.int .i64 gb) ∧ y.cell? ⟨bs, os + j * 3 + 2, none⟩ = some (.int .i64 gc) ∧ y.cell? ⟨bs, os + i * 3, none⟩ = some (.int .i64 ha) ∧ y.cell? ⟨bs, os + i * 3 + 1, none⟩ = some (.int .i64 hb) ∧ y.cell? ⟨bs, os + i * 3 + 2, none⟩ = some (.int .i64 hc)) ∧ Below w3.heap.size w3 y) := fun y hy => ⟨⟨(hgj y hy).1, (hgj y hy).2.1, (hgj y hy).2.2, (hgi y hy).1, (hgi y hy).2.1, (hgi y hy).2.2⟩, hy⟩
            clear hgi hgj hi hj0 hHeld
            go_region_held3 (fun y => (y.cell? ⟨bs, os + j * 3, none⟩ = some (.int .i64 ga) ∧ y.cell? ⟨bs, os + j * 3 + 1, none⟩ = some (.int .i64 gb) ∧ y.cell? ⟨bs, os + j * 3 + 2, none⟩ = some (.int .i64 gc) ∧ y.cell? ⟨bs, os + i * 3, none⟩ = some (.int .i64 ha) ∧ y.cell? ⟨bs, os + i * 3 + 1, none⟩ = some (.int .i64 hb) ∧ y.cell? ⟨bs, os + i * 3 + 2, none⟩ = some (.int .i64 hc)) ∧ Below w3.heap.size w3 y)
              (first | exact HS.out _ (bstep (by assumption) (sBel (by assumption))) | exact HS.out _ HBW.out.drew)
              (first | (go_at_call 11; refine (less14_any ga gb gc ha hb hc _).mono ?_; rintro e w7 ⟨rfl, hb7⟩; rw [HL0.out]))
            all_goals
              go_wp2
              go_roundw
              case rel => exact ⟨j + 1, ca + 1, cb + 1, by first | rfl | go_num, by first | rfl | go_num, by first | rfl | go_num, by omega, by omega, by omega, ⟨HN.out.1 _ (by simp), HN.out.2 _ (by simp)⟩, (sBel (by assumption))⟩
              case measure => simp [intOf]; omega
    · have hlt' : ¬ (j : Int) < n := by omega
      obtain rfl : j = n := by omega
      obtain rfl : ca = cb := by rw [HC.out.1, HC.out.2, HCN.out]
      go_wp2_with fail
      have HBW : Hid (Below w.heap.size w wr ∧ Below w2.heap.size w2 wr) := ⟨HB3.out.trans (hbw.mono HB3.out.size), HB23.out.trans (hbw.mono HB23.out.size)⟩
      refine (sort14_any j g _ _ (HOS.out.later HBW.out.2) (wf_same HCN.out HWF.out) (by omega)).mono ?_
      rintro e w5 ⟨v5, g5, rfl, ho5, hc5, hs5, hb5⟩
      have HO5 : Hid (Ops w5 v5 j g5) := ho5
      have H5 : Hid ((∀ i, i < j → g5 i = g i) ∧ Below w.heap.size w w5 ∧ Ops w5 (.slice (some ⟨bs, os, none⟩) j caps) j g) := ⟨sorted_one hs5 HSR.out hc5, HBW.out.1.trans (hb5.mono HBW.out.1.size), HOS.out.later (HBW.out.2.trans (hb5.mono HBW.out.2.size))⟩
      clear hc5 hs5 hb5
      obtain ⟨a5, c5, rfl, _, _, _, _⟩ := ho5
      go_wp2_with fail
      refine (same14_any j g5 g _ _ _ HO5.out H5.out.2.2 H5.out.1 (by omega)).mono ?_
      rintro e w6 ⟨rfl, hb6⟩
      have H6 : Hid (Below w.heap.size w w6) := H5.out.2.1.trans (hb6.mono H5.out.2.1.size)
      clear hb6
      go_wp2_with fail
      go_ret
      exact ⟨rfl, H6.out⟩
end Go.Proofs.Ytkaobjcghmigmaa
/- Lists of options that are put together. -/
namespace Go.Proofs.Ytkaobjcghmigmaa
open Go.RowKit

/-- What an append of a list that is read comes to. -/
theorem wp_append_ops {w : World} {o : Oper} {act : Act} {K : Act → World → Prop} {Q : Exit → Act → World → Prop} (s x : Operand)
    (ho : o.op = .call { callee := .builtin .append, args := #[s, x], argTypes := #[22, 22] }) (base : Nat) (v u : Value) (S : List (Int × Int × Int)) (m : Nat) (g : Nat → Int × Int × Int)
    (hs : act.eval s = v) (hown : OwnO w base v S) (hx : act.eval x = u) (hr : Ops w u m g) (hn : S.length + m ≤ 100000) (hbase : base ≤ w.heap.size)
    (h : ∀ v' w', OwnO w' base v' (S ++ lstO g m) → Below base w w' → K (act.put o.dst v') w') : Oper.wp Try.prog o act w K Q := by
  obtain ⟨i0, hi, hz0, hz1, hz2⟩ := info_parts Try.infoOpt
  have hlow := hown.low
  unfold OwnO at hown
  have hll : (lstO g m).length = m := by simp [lstO]
  obtain ⟨a, cap, rfl, h1, h2, h0, h3⟩ := hr
  have m1 : S.length + m ≤ maxLen := by unfold maxLen; omega
  cases a with
  | none =>
    obtain rfl := h0 rfl
    obtain rfl : m = 0 := by omega
    have hr := run_append_owned_none (P := Try.prog) (w := w) base 22 o.type 24 i0 3 Try.underlying22 hi v S.length (flatO S) hown
    unfold Oper.wp execOp
    have hx' : act.eval x = .slice none 0 0 := hx
    simp only [ho, resolve, invoke, builtin, Sem.run_bind, Sem.run_pure, Result.andThen_ok, List.map_toArray, List.map_cons, List.map_nil, hs, hx', hr]
    refine h v w ?_ (Below.refl _ _)
    rw [show lstO g 0 = [] from rfl, List.append_nil]
    exact hown
  | some ad =>
    refine wp_append_own w s x 22 ho base 24 i0 _ 3 24 Try.underlying22 hi hz0 hz1 hz2 rfl (by decide) v S.length (flatO S) hs hown ad m cap (flatO (lstO g m)) hx (by rw [flatO_len, hll]) (fun j q hq => ?_) (flatO_one _) m1 (by omega) hbase ?_
    · have hj := (List.getElem?_eq_some_iff.1 hq).1
      rw [flatO_len, hll] at hj
      obtain ⟨b, oo, he, h4⟩ := h3 (by omega)
      obtain rfl : ad = ⟨b, oo, none⟩ := by simpa using he
      rw [flatO_get _ j (by rw [hll]; exact hj), List.getD_eq_getElem?_getD, lstO_get g m (j / 3) (by omega)] at hq
      rw [← hq, Go.WideShapes.add_plain]
      have hm : j % 3 = 0 ∨ j % 3 = 1 ∨ j % 3 = 2 := by omega
      have hd : j / 3 * 3 + j % 3 = j := by omega
      have hlt : j / 3 < m := by omega
      generalize j / 3 = i3 at *
      obtain ⟨k0, k1, k2⟩ := h4 i3 hlt
      rcases hm with e | e | e
      · rw [e] at hd ⊢; rw [← hd, Nat.add_zero]; exact k0
      · rw [e] at hd ⊢; rw [← hd, ← Nat.add_assoc]; exact k1
      · rw [e] at hd ⊢; rw [← hd, ← Nat.add_assoc]; exact k2
    · intro v' w' g1 g2 _
      refine h v' w' ?_ ((Below.refl _ _).grown g2 hbase fun k hk => (hlow k hk).1)
      unfold OwnO
      rw [← flatO_app] at g1
      rw [List.length_append, hll]
      exact g1
theorem append_ops {w : World} {ops : Array Oper} {rest : List Oper} {o : Oper} {act : Act} {Q : Exit → Act → World → Prop} (hgd : o.guard = Option.none) (s x : Operand)
    (ho : o.op = .call { callee := .builtin .append, args := #[s, x], argTypes := #[22, 22] }) (base : Nat) (v u : Value) (S : List (Int × Int × Int)) (m : Nat) (g : Nat → Int × Int × Int)
    (hs : act.eval s = v) (hown : OwnO w base v S) (hx : act.eval x = u) (hr : Ops w u m g) (hn : S.length + m ≤ 100000) (hbase : base ≤ w.heap.size)
    (h : ∀ v' w', OwnO w' base v' (S ++ lstO g m) → Below base w w' → wpList Try.prog ops Q rest (act.put o.dst v') w') : wpList Try.prog ops Q (o :: rest) act w := by
  refine wpList_plain hgd fun K hK => ?_
  exact wp_append_ops s x ho base v u S m g hs hown hx hr hn hbase fun v' w' h1 h2 => hK _ _ (h v' w' h1 h2)
theorem OwnO.nil (w : World) (base : Nat) : OwnO w base (.slice none 0 0) [] := World.ownsRow_nil w base _ _
/-- A list that was made, read. -/
theorem OwnO.ops {w : World} {base : Nat} {v : Value} {S : List (Int × Int × Int)} (h : OwnO w base v S) : Ops w v S.length (fun i => S.getD i (0, 0, 0)) := by
  have ho := h
  obtain ⟨_, ⟨e, e0⟩ | ⟨g, cap, cur, rfl, hb, hh, h1, h2, _⟩⟩ := h
  · rw [e, e0]; exact ⟨none, 0, rfl, by omega, by unfold maxLen; omega, fun _ => rfl, fun hx => by omega⟩
  · refine ⟨_, cap, rfl, h1, h2, fun e => (by cases e), fun _ => ⟨g, 0, rfl, fun i hi => ?_⟩⟩
    have hc := fun t (ht : t < 3) => (World.ownsRow.cellAt ho (i * 3 + t) (by omega)).trans (flatO_get S (i * 3 + t) (by omega))
    have e0 : (i * 3 + 0) / 3 = i ∧ (i * 3 + 0) % 3 = 0 := by omega
    have e1 : (i * 3 + 1) / 3 = i ∧ (i * 3 + 1) % 3 = 1 := by omega
    have e2 : (i * 3 + 2) / 3 = i ∧ (i * 3 + 2) % 3 = 2 := by omega
    have c0 := hc 0 (by omega); have c1 := hc 1 (by omega); have c2 := hc 2 (by omega)
    rw [e0.1, e0.2] at c0; rw [e1.1, e1.2] at c1; rw [e2.1, e2.2] at c2
    rw [Nat.zero_add]
    exact ⟨c0, c1, c2⟩

/-- Two lists as one. -/
def bothO (a b : Nat) (f g : Nat → Int × Int × Int) (i : Nat) : Int × Int × Int := (lstO f a ++ lstO g b).getD i (0, 0, 0)
theorem bothO_lst (a b : Nat) (f g : Nat → Int × Int × Int) : lstO (bothO a b f g) (a + b) = lstO f a ++ lstO g b := by
  apply List.ext_getElem?
  intro i
  by_cases c : i < a + b
  · rw [lstO_get _ _ _ c]
    unfold bothO
    rw [List.getD_eq_getElem?_getD, List.getElem?_eq_getElem (by simp [lstO]; omega)]
    rfl
  · rw [List.getElem?_eq_none (by simp [lstO]; omega), List.getElem?_eq_none (by simp [lstO]; omega)]
theorem bothO_cnt (a b : Nat) (f g : Nat → Int × Int × Int) (x : Int × Int × Int) : cntO (bothO a b f g) (a + b) x = cntO f a x + cntO g b x := by
  rw [← lstO_count, bothO_lst, List.count_append, lstO_count, lstO_count]
/-- Who is the first of both is the first of one of them; and none of theirs is ahead of it. -/
theorem both_first {a b k : Nat} {f g gx gy : Nat → Int × Int × Int} (ha : 0 < a) (hk : IsFst (bothO a b f g) (a + b) k) (hx : SrtL gx a) (hcx : ∀ x, cntO gx a x = cntO f a x) (hy : SrtL gy b) (hcy : ∀ x, cntO gy b x = cntO g b x) :
    ltO (gx 0) (bothO a b f g k) = false ∧ (bothO a b f g k = gx 0 ∨ bothO a b f g k ≠ gx 0 ∧ 0 < b ∧ bothO a b f g k = gy 0) := by
  have low : ∀ x, 0 < cntO f a x + cntO g b x → ltO x (bothO a b f g k) = false := fun x hx => by
    obtain ⟨i, hi, e⟩ := cntO_pos (f := bothO a b f g) (n := a + b) (x := x) (by rw [bothO_cnt]; exact hx)
    rw [← e]; exact hk.2.1 i hi
  have hx0 : 0 < cntO f a (gx 0) := by rw [← hcx]; exact cntO_at ha
  have l1 := low (gx 0) (by omega)
  refine ⟨l1, ?_⟩
  by_cases c : bothO a b f g k = gx 0
  · exact Or.inl c
  · refine Or.inr ⟨c, ?_⟩
    have hp := cntO_at (f := bothO a b f g) hk.1
    rw [bothO_cnt] at hp
    by_cases h1 : 0 < cntO f a (bothO a b f g k)
    · obtain ⟨i, hi, e⟩ := cntO_pos (f := gx) (n := a) (x := bothO a b f g k) (by rw [hcx]; exact h1)
      have := (hx.first ha).2.1 i hi
      rw [e] at this
      exact absurd (ltO_same this l1) c
    · have h2 : 0 < cntO g b (bothO a b f g k) := by omega
      obtain ⟨i, hi, e⟩ := cntO_pos (f := gy) (n := b) (x := bothO a b f g k) (by rw [hcy]; exact h2)
      have hb : 0 < b := by omega
      have q := (hy.first hb).2.1 i hi
      rw [e] at q
      have hy0 : 0 < cntO g b (gy 0) := by rw [← hcy]; exact cntO_at hb
      exact ⟨hb, ltO_same q (low (gy 0) (by omega))⟩
theorem bothO_wf {a b : Nat} {f g : Nat → Int × Int × Int} (hf : ∀ i, i < a → wfO (f i)) (hg : ∀ i, i < b → wfO (g i)) : ∀ i, i < a + b → wfO (bothO a b f g i) := fun i hi => by
  have h := cntO_at (f := bothO a b f g) hi
  rw [bothO_cnt] at h
  by_cases h1 : 0 < cntO f a (bothO a b f g i)
  · obtain ⟨j, hj, e⟩ := cntO_pos h1; rw [← e]; exact hf j hj
  · obtain ⟨j, hj, e⟩ := cntO_pos (f := g) (n := b) (x := bothO a b f g i) (by omega); rw [← e]; exact hg j hj
theorem SrtL.tail {g : Nat → Int × Int × Int} {n : Nat} (h : SrtL g n) : SrtL (fun i => g (i + 1)) (n - 1) := fun i j hij hj => h (i + 1) (j + 1) (by omega) (by omega)
/-- What is behind the first. -/
theorem Ops.tail14 {w : World} {b o n cap : Nat} {g : Nat → Int × Int × Int} (h : Ops w (.slice (some ⟨b, o, none⟩) n cap) n g) (hn : 0 < n) : Ops w (.slice (if cap = 1 then some ⟨b, o, none⟩ else some ⟨b, o + 3, none⟩) (n - 1) (cap - 1)) (n - 1) (fun i => g (i + 1)) := by
  obtain ⟨a, c, e, h1, h2, h0, h3⟩ := h
  cases e
  by_cases c1 : cap = 1
  · rw [if_pos c1]
    exact ⟨_, _, rfl, by omega, by omega, fun e => (by cases e), fun hx => by omega⟩
  · rw [if_neg c1]
    refine ⟨_, _, rfl, by omega, by omega, fun e => (by cases e), fun hx => ⟨b, o + 3, rfl, fun i hi => ?_⟩⟩
    obtain ⟨b', o', e', h4⟩ := h3 hn
    cases e'
    have := h4 (i + 1) (by omega)
    rw [show o + (i + 1) * 3 = o + 3 + i * 3 by omega] at this
    exact this
end Go.Proofs.Ytkaobjcghmigmaa
/- OptionBoth: of two lists together the first one is the first one of either. -/
namespace Go.Proofs.Ytkaobjcghmigmaa
open Go.RowKit

theorem Ops.at14 {w : World} {ad : Option Addr} {n cap : Nat} {f : Nat → Int × Int × Int} (h : Ops w (.slice ad n cap) n f) (hn : 0 < n) : ∃ b o, ad = some ⟨b, o, none⟩ ∧ ∀ i, i < n → ∀ y, Below w.heap.size w y → y.cell? ⟨b, o + i * 3, none⟩ = some (.int .i64 (f i).1) ∧ y.cell? ⟨b, o + i * 3 + 1, none⟩ = some (.int .i64 (f i).2.1) ∧ y.cell? ⟨b, o + i * 3 + 2, none⟩ = some (.int .i64 (f i).2.2) := by
  obtain ⟨a, c, e, _, _, _, h3⟩ := h
  cases e
  obtain ⟨b, o, rfl, h4⟩ := h3 hn
  exact ⟨b, o, rfl, fun i hi y hy => ⟨cell_later hy (h4 i hi).1, cell_later hy (h4 i hi).2.1, cell_later hy (h4 i hi).2.2⟩⟩

set_option maxHeartbeats 40000000 in
set_option maxRecDepth 100000 in
theorem law_oboth (a b : Nat) (f g : Nat → Int × Int × Int) (va vb : Value) (w : World) (ha : Ops w va a f) (hb : Ops w vb b g) (hf : ∀ i, i < a → wfO (f i)) (hg : ∀ i, i < b → wfO (g i)) :
    Calls Try.prog 6 #[va, vb] w fun e w' => e = .returned (.bool true) ∧ Below w.heap.size w w' := by
  have HA : Hid (Ops w va a f) := ha
  have HB : Hid (Ops w vb b g) := hb
  have HF : Hid (∀ i, i < a → wfO (f i)) := hf
  have HG : Hid (∀ i, i < b → wfO (g i)) := hg
  clear hf hg
  obtain ⟨ada, capa, rfl, a1, a2, a0, a3⟩ := ha
  obtain ⟨adb, capb, rfl, b1, b2, b0, b3⟩ := hb
  clear a3 b3 a0 b0
  go_enter Try.func6, Try.ntmps6
  go_wp2_with fail
  refine (awake14_any _).mono ?_
  rintro e w1 ⟨rfl, hb1⟩
  have HB1 : Hid (Below w.heap.size w w1) := hb1
  clear hb1
  by_cases c1 : a ≤ 60
  rotate_left
  · have hgt : (60 : Int) < a := by omega
    go_wp2
    go_ret
    exact ⟨rfl, HB1.out⟩
  have hgt1 : ¬ (60 : Int) < a := by omega
  by_cases c2 : b ≤ 60
  rotate_left
  · have hgt : (60 : Int) < b := by omega
    go_wp2
    go_ret
    exact ⟨rfl, HB1.out⟩
  have hgt2 : ¬ (60 : Int) < b := by omega
  by_cases c3 : a = 0
  · have hgt : ((a : Int) == 0) = true := by simp; omega
    go_wp2
    go_ret
    exact ⟨rfl, HB1.out⟩
  have hgt3 : ((a : Int) == 0) = false := by simp; omega
  have hgt4 : ¬ ((a : Int) = 0) := by omega
  go_wp2_with (first
    | (at_builtin; have h3 := ho3; refine append_ops rfl _ _ rfl w.heap.size v3 _ _ b g rfl h3 rfl (HB.out.later (HB1.out.trans hb3)) (by simp [lstO]; omega) (HB1.out.trans hb3).size ?_; intro v4 w4 ho4 hb4)
    | (at_builtin; refine append_ops rfl _ _ rfl w.heap.size (.slice none 0 0) _ [] a f rfl (OwnO.nil _ _) rfl (HA.out.later HB1.out) (by simp; omega) HB1.out.size ?_; intro v3 w3 ho3 hb3))
  have HB4 : Hid (Below w.heap.size w w4) := (HB1.out.trans hb3).trans hb4
  obtain ⟨n, hn⟩ : ∃ n, n = a + b := ⟨_, rfl⟩
  have hn0 : 0 < n := by omega
  have hn120 : n ≤ 120 := by omega
  have HNE : Hid (n = a + b) := hn
  have hall : Ops w4 v4 n (bothO a b f g) := by
    have := ho4.ops
    have e : ([] ++ lstO f a ++ lstO g b : List (Int × Int × Int)).length = n := by rw [hn]; simp [lstO]
    rw [e] at this
    exact this
  clear ho3 ho4 hb3 hb4 hn HB1
  have HALL4 : Hid (Ops w4 v4 n (bothO a b f g)) := hall
  have HWF : Hid (∀ i, i < n → wfO (bothO a b f g i)) := fun i hi => bothO_wf HF.out HG.out i (by rw [← HNE.out]; exact hi)
  obtain ⟨h, hh⟩ : ∃ h, bothO a b f g = h := ⟨_, rfl⟩
  have HH : Hid (bothO a b f g = h) := hh
  rw [hh] at HALL4 HWF hall
  clear hh
  obtain ⟨ad4, cap4, rfl, d1, d2, d0, d3⟩ := hall
  clear d0 d3
  refine (sort14_any n h _ _ HALL4.out HWF.out (by omega)).mono ?_
  rintro e w5 ⟨vs, gs, rfl, hos, hcs, hss, hb5⟩
  have HSP : Hid ((∀ x, cntO gs n x = cntO h n x) ∧ SrtL gs n) := ⟨hcs, hss⟩
  have HS5 : Hid (Ops w5 vs n gs) := hos
  have HALL5 : Hid (Ops w5 (.slice ad4 n cap4) n h) := HALL4.out.later hb5
  have HB5 : Hid (Below w.heap.size w w5) := HB4.out.trans (hb5.mono HB4.out.size)
  clear hcs hss hb5 HALL4 HB4
  obtain ⟨ads, caps, rfl, s1, s2, s0, s3⟩ := hos
  clear s0 s3
  go_wp2_with fail
  refine (first14_any n h _ _ HALL5.out (by omega)).mono ?_
  rintro e w6 ⟨r, rfl, hr, hb6⟩
  obtain ⟨k, rfl, HK⟩ : ∃ k : Nat, r = k ∧ Hid (IsFst h n k) := by
    rcases hr with ⟨h0, _⟩ | ⟨k, e, hk⟩
    · omega
    · exact ⟨k, e, hk⟩
  clear hr
  have HS6 : Hid (Ops w6 (.slice ads n caps) n gs) := HS5.out.later hb6
  have HALL6 : Hid (Ops w6 (.slice ad4 n cap4) n h) := HALL5.out.later hb6
  have HB6 : Hid (Below w.heap.size w w6) := HB5.out.trans (hb6.mono HB5.out.size)
  clear hb6 HS5 HALL5 HB5
  go_wp2_with fail
  refine (sort14_any a f _ _ (HA.out.later HB6.out) HF.out (by omega)).mono ?_
  rintro e w7 ⟨vx, gx, rfl, hox, hcx, hsx, hb7⟩
  have HXP : Hid ((∀ x, cntO gx a x = cntO f a x) ∧ SrtL gx a) := ⟨hcx, hsx⟩
  have HX7 : Hid (Ops w7 vx a gx) := hox
  have HS7 : Hid (Ops w7 (.slice ads n caps) n gs) := HS6.out.later hb7
  have HALL7 : Hid (Ops w7 (.slice ad4 n cap4) n h) := HALL6.out.later hb7
  have HB7 : Hid (Below w.heap.size w w7) := HB6.out.trans (hb7.mono HB6.out.size)
  clear hcx hsx hb7 HS6 HALL6 HB6
  obtain ⟨adx, capx, rfl, x1, x2, x0, x3⟩ := hox
  clear x0 x3
  go_wp2_with fail
  refine (sort14_any b g _ _ (HB.out.later HB7.out) HG.out (by omega)).mono ?_
  rintro e w8 ⟨vy, gy, rfl, hoy, hcy, hsy, hb8⟩
  have HYP : Hid ((∀ x, cntO gy b x = cntO g b x) ∧ SrtL gy b) := ⟨hcy, hsy⟩
  have HY8 : Hid (Ops w8 vy b gy) := hoy
  have HX8 : Hid (Ops w8 (.slice adx a capx) a gx) := HX7.out.later hb8
  have HS8 : Hid (Ops w8 (.slice ads n caps) n gs) := HS7.out.later hb8
  have HALL8 : Hid (Ops w8 (.slice ad4 n cap4) n h) := HALL7.out.later hb8
  have HB8 : Hid (Below w.heap.size w w8) := HB7.out.trans (hb8.mono HB7.out.size)
  clear hcy hsy hb8 HX7 HS7 HALL7 HB7
  obtain ⟨ady, capy, rfl, y1, y2, y0, y3⟩ := hoy
  clear y0 y3
  have hkn : k < n := HK.out.1
  have hk0 : ¬ (k : Int) < 0 := by omega
  have hkn' : (k : Int) < n := by omega
  have hkn2 : ¬ (n : Int) ≤ k := by omega
  have FB : Hid (ltO (gx 0) (h k) = false ∧ (h k = gx 0 ∨ h k ≠ gx 0 ∧ 0 < b ∧ h k = gy 0)) := by
    have hk := HK.out
    rw [← HH.out, HNE.out] at hk
    have := both_first (by omega) hk HXP.out.2 HXP.out.1 HYP.out.2 HYP.out.1
    rw [HH.out] at this
    exact this
  obtain ⟨b4, o4, rfl, h4⟩ := HALL8.out.at14 hn0
  obtain ⟨bx, ox, rfl, hx4⟩ := HX8.out.at14 (by omega)
  obtain ⟨bs, os, rfl, _⟩ := HS8.out.at14 hn0
  have q4 := h4 k hkn
  have qx := hx4 0 (by omega)
  clear h4 hx4
  obtain ⟨⟨p, q, t⟩, hX⟩ : ∃ X, h k = X := ⟨_, rfl⟩
  obtain ⟨⟨u0, u1, u2⟩, hU⟩ : ∃ X, gx 0 = X := ⟨_, rfl⟩
  have HXU : Hid (h k = (p, q, t) ∧ gx 0 = (u0, u1, u2)) := ⟨hX, hU⟩
  rw [hX] at q4
  rw [hU] at qx
  have HL : Hid (ltO (u0, u1, u2) (p, q, t) = false) := by have := FB.out.1; rw [hX, hU] at this; exact this
  have CS : Hid (∀ y, Below w8.heap.size w8 y → (y.cell? ⟨b4, o4 + k * 3, none⟩ = some (.int .i64 p) ∧ y.cell? ⟨b4, o4 + k * 3 + 1, none⟩ = some (.int .i64 q) ∧ y.cell? ⟨b4, o4 + k * 3 + 2, none⟩ = some (.int .i64 t) ∧ y.cell? ⟨bx, ox, none⟩ = some (.int .i64 u0) ∧ y.cell? ⟨bx, ox + 1, none⟩ = some (.int .i64 u1) ∧ y.cell? ⟨bx, ox + 2, none⟩ = some (.int .i64 u2))) := fun y hy => ⟨(q4 y hy).1, (q4 y hy).2.1, (q4 y hy).2.2, (by simpa using (qx y hy).1), (by simpa using (qx y hy).2.1), (by simpa using (qx y hy).2.2)⟩
  have HTL : Hid (∀ y, Below w8.heap.size w8 y → Ops y (.slice (if caps = 1 then some ⟨bs, os, none⟩ else some ⟨bs, os + 3, none⟩) (n - 1) (caps - 1)) (n - 1) (fun i => gs (i + 1))) := fun y hy => (HS8.out.later hy).tail14 hn0
  clear q4 qx hX hU
  have hposn : 0 < n := by omega
  have hpos : (0 : Int) < n := by omega
  have hposa : 0 < a := by omega
  have hposa' : (0 : Int) < a := by omega
  have h1n : (1 : Int) ≤ n := by omega
  have h1n' : 1 ≤ n := by omega
  have h1c : (1 : Int) ≤ caps := by omega
  have h1c' : 1 ≤ caps := by omega
  clear a1 a2 b1 b2 c1 c2 hgt1 hgt2 hgt3 hgt4 d1 d2 x1 x2 y1 y2 hk0 hkn2
  go_upto_region 11 with fail
  go_cut [11] from 72 to 95 (fun s11 wc => s11 = .bool true ∧ Below w8.heap.size w8 wc)
  case first =>
    rcases FB.out.2 with hA | ⟨hA, hb0, hY⟩
    · have hE1 : ∀ w, (binOp .eql 24 (.agg #[.int .i64 p, .int .i64 q, .int .i64 t]) (.agg #[.int .i64 u0, .int .i64 u1, .int .i64 u2])).run Try.prog w = .ok (.bool true) w := fun w => (op_eql p q t u0 u1 u2 w).trans (by
        rw [HXU.out.1, HXU.out.2] at hA; rw [hA, eqO_self])
      clear hA
      refine wp_region_held_drew (S := fun y : World => (y.cell? ⟨b4, o4 + k * 3, none⟩ = some (.int .i64 p) ∧ y.cell? ⟨b4, o4 + k * 3 + 1, none⟩ = some (.int .i64 q) ∧ y.cell? ⟨b4, o4 + k * 3 + 2, none⟩ = some (.int .i64 t) ∧ y.cell? ⟨bx, ox, none⟩ = some (.int .i64 u0) ∧ y.cell? ⟨bx, ox + 1, none⟩ = some (.int .i64 u1) ∧ y.cell? ⟨bx, ox + 2, none⟩ = some (.int .i64 u2))) (by kernel_rfl) ?_ (fun hHeld => ?_)
      · exact CS.out _ (Below.refl _ _).drew
      refine wpAnyH_take (i := 0) (oi := { dst := some 72, op := Op.move (Operand.tmp 6), type := 22, pos := _, after := _, guard := none }) (v := ?_) rfl (by kernel_rfl) (by kernel_rfl) (by kernel_rfl) (fun _ _ _ h => h) (Or.inl ⟨by rfl, ?_⟩) (by assumption) ?_
      rotate_left
      · intro wS hSw; (try dsimp only at hSw); go_simp; first | done | with_reducible rfl
      try simp only [Act.put, List.setIfInBounds_toArray, List.set_cons_zero, List.set_cons_succ]
      refine wpAnyH_take (i := 1) (oi := { dst := some 73, op := Op.move (Operand.tmp 8), type := 3, pos := _, after := _, guard := none }) (v := ?_) rfl (by kernel_rfl) (by kernel_rfl) (by kernel_rfl) (fun _ _ _ h => h) (Or.inl ⟨by rfl, ?_⟩) (by assumption) ?_
      rotate_left
      · intro wS hSw; (try dsimp only at hSw); go_simp; first | done | with_reducible rfl
      try simp only [Act.put, List.setIfInBounds_toArray, List.set_cons_zero, List.set_cons_succ]
      refine wpAnyH_take (i := 2) (oi := { dst := some 74, op := Op.indexAddr 22 (Operand.tmp 72) (Operand.tmp 73), type := 0, pos := _, after := _, guard := none }) (v := ?_) rfl (by kernel_rfl) (by kernel_rfl) (by kernel_rfl) (fun _ _ _ h => h) (Or.inl ⟨by rfl, ?_⟩) (by assumption) ?_
      rotate_left
      · intro wS hSw; (try dsimp only at hSw); go_simp; first | done | with_reducible rfl
      try simp only [Act.put, List.setIfInBounds_toArray, List.set_cons_zero, List.set_cons_succ]
      refine wpAnyH_take (i := 3) (oi := { dst := some 75, op := Op.load 24 (Operand.tmp 74), type := 24, pos := _, after := _, guard := none }) (v := ?_) rfl (by kernel_rfl) (by kernel_rfl) (by kernel_rfl) (fun _ _ _ h => h) (Or.inl ⟨by rfl, ?_⟩) (by assumption) ?_
      rotate_left
      · intro wS hSw; (try dsimp only at hSw); go_simp; first | done | with_reducible rfl
      try simp only [Act.put, List.setIfInBounds_toArray, List.set_cons_zero, List.set_cons_succ]
      refine wpAnyH_take (i := 4) (oi := { dst := some 76, op := Op.move (Operand.tmp 9), type := 22, pos := _, after := _, guard := none }) (v := ?_) rfl (by kernel_rfl) (by kernel_rfl) (by kernel_rfl) (fun _ _ _ h => h) (Or.inl ⟨by rfl, ?_⟩) (by assumption) ?_
      rotate_left
      · intro wS hSw; (try dsimp only at hSw); go_simp; first | done | with_reducible rfl
      try simp only [Act.put, List.setIfInBounds_toArray, List.set_cons_zero, List.set_cons_succ]
      refine wpAnyH_take (i := 5) (oi := { dst := some 77, op := Op.indexAddr 22 (Operand.tmp 76) (Operand.const (Value.int IntKind.i64 0)), type := 0, pos := _, after := _, guard := none }) (v := ?_) rfl (by kernel_rfl) (by kernel_rfl) (by kernel_rfl) (fun _ _ _ h => h) (Or.inl ⟨by rfl, ?_⟩) (by assumption) ?_
      rotate_left
      · intro wS hSw; (try dsimp only at hSw); go_simp; first | done | with_reducible rfl
      try simp only [Act.put, List.setIfInBounds_toArray, List.set_cons_zero, List.set_cons_succ]
      refine wpAnyH_take (i := 6) (oi := { dst := some 78, op := Op.load 24 (Operand.tmp 77), type := 24, pos := _, after := _, guard := none }) (v := ?_) rfl (by kernel_rfl) (by kernel_rfl) (by kernel_rfl) (fun _ _ _ h => h) (Or.inl ⟨by rfl, ?_⟩) (by assumption) ?_
      rotate_left
      · intro wS hSw; (try dsimp only at hSw); go_simp; first | done | with_reducible rfl
      try simp only [Act.put, List.setIfInBounds_toArray, List.set_cons_zero, List.set_cons_succ]
      refine wpAnyH_take (i := 7) (oi := { dst := some 79, op := Op.binOp BinOp.eql 24 (Operand.tmp 75) (Operand.tmp 78) 24, type := 4, pos := _, after := _, guard := none }) (v := ?_) rfl (by kernel_rfl) (by kernel_rfl) (by kernel_rfl) (fun _ _ _ h => h) (Or.inl ⟨by rfl, ?_⟩) (by assumption) ?_
      rotate_left
      · intro wS hSw; (try dsimp only at hSw); go_simp; first | done | with_reducible rfl
      try simp only [Act.put, List.setIfInBounds_toArray, List.set_cons_zero, List.set_cons_succ]
      refine wpAnyH_take (i := 8) (oi := { dst := some 80, op := Op.move (Operand.tmp 79), type := 4, pos := _, after := _, guard := none }) (v := ?_) rfl (by kernel_rfl) (by kernel_rfl) (by kernel_rfl) (fun _ _ _ h => h) (Or.inl ⟨by rfl, ?_⟩) (by assumption) ?_
      rotate_left
      · intro wS hSw; (try dsimp only at hSw); go_simp; first | done | with_reducible rfl
      try simp only [Act.put, List.setIfInBounds_toArray, List.set_cons_zero, List.set_cons_succ]
      refine wpAnyH_take (i := 9) (oi := { dst := some 81, op := Op.move (Operand.tmp 10), type := 22, pos := _, after := _, guard := some (8, false) }) (v := undef) rfl (by kernel_rfl) (by kernel_rfl) (by kernel_rfl) (fun _ _ _ h => h) (Or.inr ⟨by rfl, rfl⟩) (by assumption) ?_
      try simp only [Act.put, List.setIfInBounds_toArray, List.set_cons_zero, List.set_cons_succ]
      refine wpAnyH_take (i := 10) (oi := { dst := some 82, op := Op.call { callee := Callee.builtin Builtin.len, args := #[Operand.tmp 81], argTypes := #[22] }, type := 3, pos := _, after := _, guard := some (8, false) }) (v := undef) rfl (by kernel_rfl) (by kernel_rfl) (by kernel_rfl) (fun _ _ _ h => h) (Or.inr ⟨by rfl, rfl⟩) (by assumption) ?_
      try simp only [Act.put, List.setIfInBounds_toArray, List.set_cons_zero, List.set_cons_succ]
      refine wpAnyH_take (i := 11) (oi := { dst := some 83, op := Op.binOp BinOp.gtr 3 (Operand.tmp 82) (Operand.const (Value.int IntKind.i64 0)) 3, type := 4, pos := _, after := _, guard := some (8, false) }) (v := undef) rfl (by kernel_rfl) (by kernel_rfl) (by kernel_rfl) (fun _ _ _ h => h) (Or.inr ⟨by rfl, rfl⟩) (by assumption) ?_
      try simp only [Act.put, List.setIfInBounds_toArray, List.set_cons_zero, List.set_cons_succ]
      refine wpAnyH_take (i := 12) (oi := { dst := some 84, op := Op.move (Operand.tmp 83), type := 4, pos := _, after := _, guard := some (8, false) }) (v := undef) rfl (by kernel_rfl) (by kernel_rfl) (by kernel_rfl) (fun _ _ _ h => h) (Or.inr ⟨by rfl, rfl⟩) (by assumption) ?_
      try simp only [Act.put, List.setIfInBounds_toArray, List.set_cons_zero, List.set_cons_succ]
      refine wpAnyH_take (i := 13) (oi := { dst := some 85, op := Op.move (Operand.tmp 6), type := 22, pos := _, after := _, guard := some (12, true) }) (v := undef) rfl (by kernel_rfl) (by kernel_rfl) (by kernel_rfl) (fun _ _ _ h => h) (Or.inr ⟨by rfl, rfl⟩) (by assumption) ?_
      try simp only [Act.put, List.setIfInBounds_toArray, List.set_cons_zero, List.set_cons_succ]
      refine wpAnyH_take (i := 14) (oi := { dst := some 86, op := Op.move (Operand.tmp 8), type := 3, pos := _, after := _, guard := some (12, true) }) (v := undef) rfl (by kernel_rfl) (by kernel_rfl) (by kernel_rfl) (fun _ _ _ h => h) (Or.inr ⟨by rfl, rfl⟩) (by assumption) ?_
      try simp only [Act.put, List.setIfInBounds_toArray, List.set_cons_zero, List.set_cons_succ]
      refine wpAnyH_take (i := 15) (oi := { dst := some 87, op := Op.indexAddr 22 (Operand.tmp 85) (Operand.tmp 86), type := 0, pos := _, after := _, guard := some (12, true) }) (v := undef) rfl (by kernel_rfl) (by kernel_rfl) (by kernel_rfl) (fun _ _ _ h => h) (Or.inr ⟨by rfl, rfl⟩) (by assumption) ?_
      try simp only [Act.put, List.setIfInBounds_toArray, List.set_cons_zero, List.set_cons_succ]
      refine wpAnyH_take (i := 16) (oi := { dst := some 88, op := Op.load 24 (Operand.tmp 87), type := 24, pos := _, after := _, guard := some (12, true) }) (v := undef) rfl (by kernel_rfl) (by kernel_rfl) (by kernel_rfl) (fun _ _ _ h => h) (Or.inr ⟨by rfl, rfl⟩) (by assumption) ?_
      try simp only [Act.put, List.setIfInBounds_toArray, List.set_cons_zero, List.set_cons_succ]
      refine wpAnyH_take (i := 17) (oi := { dst := some 89, op := Op.move (Operand.tmp 10), type := 22, pos := _, after := _, guard := some (12, true) }) (v := undef) rfl (by kernel_rfl) (by kernel_rfl) (by kernel_rfl) (fun _ _ _ h => h) (Or.inr ⟨by rfl, rfl⟩) (by assumption) ?_
      try simp only [Act.put, List.setIfInBounds_toArray, List.set_cons_zero, List.set_cons_succ]
      refine wpAnyH_take (i := 18) (oi := { dst := some 90, op := Op.indexAddr 22 (Operand.tmp 89) (Operand.const (Value.int IntKind.i64 0)), type := 0, pos := _, after := _, guard := some (12, true) }) (v := undef) rfl (by kernel_rfl) (by kernel_rfl) (by kernel_rfl) (fun _ _ _ h => h) (Or.inr ⟨by rfl, rfl⟩) (by assumption) ?_
      try simp only [Act.put, List.setIfInBounds_toArray, List.set_cons_zero, List.set_cons_succ]
      refine wpAnyH_take (i := 19) (oi := { dst := some 91, op := Op.load 24 (Operand.tmp 90), type := 24, pos := _, after := _, guard := some (12, true) }) (v := undef) rfl (by kernel_rfl) (by kernel_rfl) (by kernel_rfl) (fun _ _ _ h => h) (Or.inr ⟨by rfl, rfl⟩) (by assumption) ?_
      try simp only [Act.put, List.setIfInBounds_toArray, List.set_cons_zero, List.set_cons_succ]
      refine wpAnyH_take (i := 20) (oi := { dst := some 92, op := Op.binOp BinOp.eql 24 (Operand.tmp 88) (Operand.tmp 91) 24, type := 4, pos := _, after := _, guard := some (12, true) }) (v := undef) rfl (by kernel_rfl) (by kernel_rfl) (by kernel_rfl) (fun _ _ _ h => h) (Or.inr ⟨by rfl, rfl⟩) (by assumption) ?_
      try simp only [Act.put, List.setIfInBounds_toArray, List.set_cons_zero, List.set_cons_succ]
      refine wpAnyH_take (i := 21) (oi := { dst := some 93, op := Op.pick (Operand.tmp 84) (Operand.tmp 92) (Operand.const (Value.bool false)), type := 4, pos := _, after := _, guard := some (8, false) }) (v := undef) rfl (by kernel_rfl) (by kernel_rfl) (by kernel_rfl) (fun _ _ _ h => h) (Or.inr ⟨by rfl, rfl⟩) (by assumption) ?_
      try simp only [Act.put, List.setIfInBounds_toArray, List.set_cons_zero, List.set_cons_succ]
      refine wpAnyH_take (i := 22) (oi := { dst := some 94, op := Op.pick (Operand.tmp 80) (Operand.const (Value.bool true)) (Operand.tmp 93), type := 4, pos := _, after := _, guard := none }) (v := ?_) rfl (by kernel_rfl) (by kernel_rfl) (by kernel_rfl) (fun _ _ _ h => h) (Or.inl ⟨by rfl, ?_⟩) (by assumption) ?_
      rotate_left
      · intro wS hSw; (try dsimp only at hSw); go_simp; first | done | with_reducible rfl
      try simp only [Act.put, List.setIfInBounds_toArray, List.set_cons_zero, List.set_cons_succ]
      refine wpAnyH_take (i := 23) (oi := { dst := some 11, op := Op.assign (Operand.tmp 94), type := 4, pos := _, after := _, guard := none }) (v := ?_) rfl (by kernel_rfl) (by kernel_rfl) (by kernel_rfl) (fun _ _ _ h => h) (Or.inl ⟨by rfl, ?_⟩) (by assumption) ?_
      rotate_left
      · intro wS hSw; (try dsimp only at hSw); go_simp; first | done | with_reducible rfl
      try simp only [Act.put, List.setIfInBounds_toArray, List.set_cons_zero, List.set_cons_succ]
      refine wpAnyH_done (by kernel_rfl) ?_ _
      go_wp2_with fail
      go_meet
      case rel => exact ⟨rfl, (Below.refl _ _).drew⟩
    · obtain ⟨by', oy, rfl, hy4⟩ := HY8.out.at14 hb0
      have qy := hy4 0 hb0
      rw [← hY, HXU.out.1] at qy
      have CY : Hid (∀ y, Below w8.heap.size w8 y → ((y.cell? ⟨b4, o4 + k * 3, none⟩ = some (.int .i64 p) ∧ y.cell? ⟨b4, o4 + k * 3 + 1, none⟩ = some (.int .i64 q) ∧ y.cell? ⟨b4, o4 + k * 3 + 2, none⟩ = some (.int .i64 t) ∧ y.cell? ⟨bx, ox, none⟩ = some (.int .i64 u0) ∧ y.cell? ⟨bx, ox + 1, none⟩ = some (.int .i64 u1) ∧ y.cell? ⟨bx, ox + 2, none⟩ = some (.int .i64 u2)) ∧ y.cell? ⟨by', oy, none⟩ = some (.int .i64 p) ∧ y.cell? ⟨by', oy + 1, none⟩ = some (.int .i64 q) ∧ y.cell? ⟨by', oy + 2, none⟩ = some (.int .i64 t))) := fun y hy => ⟨CS.out y hy, (by simpa using (qy y hy).1), (by simpa using (qy y hy).2.1), (by simpa using (qy y hy).2.2)⟩
      have hE1 : ∀ w, (binOp .eql 24 (.agg #[.int .i64 p, .int .i64 q, .int .i64 t]) (.agg #[.int .i64 u0, .int .i64 u1, .int .i64 u2])).run Try.prog w = .ok (.bool false) w := fun w => (op_eql p q t u0 u1 u2 w).trans (by
        cases c : eqO (p, q, t) (u0, u1, u2) with
        | false => rfl
        | true => exact absurd ((HXU.out.1.trans (eqO_iff.1 c)).trans HXU.out.2.symm) hA)
      have hE2 : ∀ w, (binOp .eql 24 (.agg #[.int .i64 p, .int .i64 q, .int .i64 t]) (.agg #[.int .i64 p, .int .i64 q, .int .i64 t])).run Try.prog w = .ok (.bool true) w := fun w => (op_eql p q t p q t w).trans (by rw [eqO_self])
      have hposb : (0 : Int) < b := by omega
      have hb1' : 0 < b := hb0
      clear hA hY hy4 qy
      refine wp_region_held_drew (S := fun y : World => ((y.cell? ⟨b4, o4 + k * 3, none⟩ = some (.int .i64 p) ∧ y.cell? ⟨b4, o4 + k * 3 + 1, none⟩ = some (.int .i64 q) ∧ y.cell? ⟨b4, o4 + k * 3 + 2, none⟩ = some (.int .i64 t) ∧ y.cell? ⟨bx, ox, none⟩ = some (.int .i64 u0) ∧ y.cell? ⟨bx, ox + 1, none⟩ = some (.int .i64 u1) ∧ y.cell? ⟨bx, ox + 2, none⟩ = some (.int .i64 u2)) ∧ y.cell? ⟨by', oy, none⟩ = some (.int .i64 p) ∧ y.cell? ⟨by', oy + 1, none⟩ = some (.int .i64 q) ∧ y.cell? ⟨by', oy + 2, none⟩ = some (.int .i64 t))) (by kernel_rfl) ?_ (fun hHeld => ?_)
      · exact CY.out _ (Below.refl _ _).drew
      refine wpAnyH_take (i := 0) (oi := { dst := some 72, op := Op.move (Operand.tmp 6), type := 22, pos := _, after := _, guard := none }) (v := ?_) rfl (by kernel_rfl) (by kernel_rfl) (by kernel_rfl) (fun _ _ _ h => h) (Or.inl ⟨by rfl, ?_⟩) (by assumption) ?_
      rotate_left
      · intro wS hSw; (try dsimp only at hSw); go_simp; first | done | with_reducible rfl
      try simp only [Act.put, List.setIfInBounds_toArray, List.set_cons_zero, List.set_cons_succ]
      refine wpAnyH_take (i := 1) (oi := { dst := some 73, op := Op.move (Operand.tmp 8), type := 3, pos := _, after := _, guard := none }) (v := ?_) rfl (by kernel_rfl) (by kernel_rfl) (by kernel_rfl) (fun _ _ _ h => h) (Or.inl ⟨by rfl, ?_⟩) (by assumption) ?_
      rotate_left
      · intro wS hSw; (try dsimp only at hSw); go_simp; first | done | with_reducible rfl
      try simp only [Act.put, List.setIfInBounds_toArray, List.set_cons_zero, List.set_cons_succ]
      refine wpAnyH_take (i := 2) (oi := { dst := some 74, op := Op.indexAddr 22 (Operand.tmp 72) (Operand.tmp 73), type := 0, pos := _, after := _, guard := none }) (v := ?_) rfl (by kernel_rfl) (by kernel_rfl) (by kernel_rfl) (fun _ _ _ h => h) (Or.inl ⟨by rfl, ?_⟩) (by assumption) ?_
      rotate_left
      · intro wS hSw; (try dsimp only at hSw); go_simp; first | done | with_reducible rfl
      try simp only [Act.put, List.setIfInBounds_toArray, List.set_cons_zero, List.set_cons_succ]
      refine wpAnyH_take (i := 3) (oi := { dst := some 75, op := Op.load 24 (Operand.tmp 74), type := 24, pos := _, after := _, guard := none }) (v := ?_) rfl (by kernel_rfl) (by kernel_rfl) (by kernel_rfl) (fun _ _ _ h => h) (Or.inl ⟨by rfl, ?_⟩) (by assumption) ?_
      rotate_left
      · intro wS hSw; (try dsimp only at hSw); go_simp; first | done | with_reducible rfl
      try simp only [Act.put, List.setIfInBounds_toArray, List.set_cons_zero, List.set_cons_succ]
      refine wpAnyH_take (i := 4) (oi := { dst := some 76, op := Op.move (Operand.tmp 9), type := 22, pos := _, after := _, guard := none }) (v := ?_) rfl (by kernel_rfl) (by kernel_rfl) (by kernel_rfl) (fun _ _ _ h => h) (Or.inl ⟨by rfl, ?_⟩) (by assumption) ?_
      rotate_left
      · intro wS hSw; (try dsimp only at hSw); go_simp; first | done | with_reducible rfl
      try simp only [Act.put, List.setIfInBounds_toArray, List.set_cons_zero, List.set_cons_succ]
      refine wpAnyH_take (i := 5) (oi := { dst := some 77, op := Op.indexAddr 22 (Operand.tmp 76) (Operand.const (Value.int IntKind.i64 0)), type := 0, pos := _, after := _, guard := none }) (v := ?_) rfl (by kernel_rfl) (by kernel_rfl) (by kernel_rfl) (fun _ _ _ h => h) (Or.inl ⟨by rfl, ?_⟩) (by assumption) ?_
      rotate_left
      · intro wS hSw; (try dsimp only at hSw); go_simp; first | done | with_reducible rfl
      try simp only [Act.put, List.setIfInBounds_toArray, List.set_cons_zero, List.set_cons_succ]
      refine wpAnyH_take (i := 6) (oi := { dst := some 78, op := Op.load 24 (Operand.tmp 77), type := 24, pos := _, after := _, guard := none }) (v := ?_) rfl (by kernel_rfl) (by kernel_rfl) (by kernel_rfl) (fun _ _ _ h => h) (Or.inl ⟨by rfl, ?_⟩) (by assumption) ?_
      rotate_left
      · intro wS hSw; (try dsimp only at hSw); go_simp; first | done | with_reducible rfl
      try simp only [Act.put, List.setIfInBounds_toArray, List.set_cons_zero, List.set_cons_succ]
      refine wpAnyH_take (i := 7) (oi := { dst := some 79, op := Op.binOp BinOp.eql 24 (Operand.tmp 75) (Operand.tmp 78) 24, type := 4, pos := _, after := _, guard := none }) (v := ?_) rfl (by kernel_rfl) (by kernel_rfl) (by kernel_rfl) (fun _ _ _ h => h) (Or.inl ⟨by rfl, ?_⟩) (by assumption) ?_
      rotate_left
      · intro wS hSw; (try dsimp only at hSw); go_simp; first | done | with_reducible rfl
      try simp only [Act.put, List.setIfInBounds_toArray, List.set_cons_zero, List.set_cons_succ]
      refine wpAnyH_take (i := 8) (oi := { dst := some 80, op := Op.move (Operand.tmp 79), type := 4, pos := _, after := _, guard := none }) (v := ?_) rfl (by kernel_rfl) (by kernel_rfl) (by kernel_rfl) (fun _ _ _ h => h) (Or.inl ⟨by rfl, ?_⟩) (by assumption) ?_
      rotate_left
      · intro wS hSw; (try dsimp only at hSw); go_simp; first | done | with_reducible rfl
      try simp only [Act.put, List.setIfInBounds_toArray, List.set_cons_zero, List.set_cons_succ]
      refine wpAnyH_take (i := 9) (oi := { dst := some 81, op := Op.move (Operand.tmp 10), type := 22, pos := _, after := _, guard := some (8, false) }) (v := ?_) rfl (by kernel_rfl) (by kernel_rfl) (by kernel_rfl) (fun _ _ _ h => h) (Or.inl ⟨by rfl, ?_⟩) (by assumption) ?_
      rotate_left
      · intro wS hSw; (try dsimp only at hSw); go_simp; first | done | with_reducible rfl
      try simp only [Act.put, List.setIfInBounds_toArray, List.set_cons_zero, List.set_cons_succ]
      refine wpAnyH_take (i := 10) (oi := { dst := some 82, op := Op.call { callee := Callee.builtin Builtin.len, args := #[Operand.tmp 81], argTypes := #[22] }, type := 3, pos := _, after := _, guard := some (8, false) }) (v := ?_) rfl (by kernel_rfl) (by kernel_rfl) (by kernel_rfl) (fun _ _ _ h => h) (Or.inl ⟨by rfl, ?_⟩) (by assumption) ?_
      rotate_left
      · intro wS hSw; (try dsimp only at hSw); go_simp; first | done | with_reducible rfl
      try simp only [Act.put, List.setIfInBounds_toArray, List.set_cons_zero, List.set_cons_succ]
      refine wpAnyH_take (i := 11) (oi := { dst := some 83, op := Op.binOp BinOp.gtr 3 (Operand.tmp 82) (Operand.const (Value.int IntKind.i64 0)) 3, type := 4, pos := _, after := _, guard := some (8, false) }) (v := ?_) rfl (by kernel_rfl) (by kernel_rfl) (by kernel_rfl) (fun _ _ _ h => h) (Or.inl ⟨by rfl, ?_⟩) (by assumption) ?_
      rotate_left
      · intro wS hSw; (try dsimp only at hSw); go_simp; first | done | with_reducible rfl
      try simp only [Act.put, List.setIfInBounds_toArray, List.set_cons_zero, List.set_cons_succ]
      refine wpAnyH_take (i := 12) (oi := { dst := some 84, op := Op.move (Operand.tmp 83), type := 4, pos := _, after := _, guard := some (8, false) }) (v := ?_) rfl (by kernel_rfl) (by kernel_rfl) (by kernel_rfl) (fun _ _ _ h => h) (Or.inl ⟨by rfl, ?_⟩) (by assumption) ?_
      rotate_left
      · intro wS hSw; (try dsimp only at hSw); go_simp; first | done | with_reducible rfl
      try simp only [Act.put, List.setIfInBounds_toArray, List.set_cons_zero, List.set_cons_succ]
      refine wpAnyH_take (i := 13) (oi := { dst := some 85, op := Op.move (Operand.tmp 6), type := 22, pos := _, after := _, guard := some (12, true) }) (v := ?_) rfl (by kernel_rfl) (by kernel_rfl) (by kernel_rfl) (fun _ _ _ h => h) (Or.inl ⟨by rfl, ?_⟩) (by assumption) ?_
      rotate_left
      · intro wS hSw; (try dsimp only at hSw); go_simp; first | done | with_reducible rfl
      try simp only [Act.put, List.setIfInBounds_toArray, List.set_cons_zero, List.set_cons_succ]
      refine wpAnyH_take (i := 14) (oi := { dst := some 86, op := Op.move (Operand.tmp 8), type := 3, pos := _, after := _, guard := some (12, true) }) (v := ?_) rfl (by kernel_rfl) (by kernel_rfl) (by kernel_rfl) (fun _ _ _ h => h) (Or.inl ⟨by rfl, ?_⟩) (by assumption) ?_
      rotate_left
      · intro wS hSw; (try dsimp only at hSw); go_simp; first | done | with_reducible rfl
      try simp only [Act.put, List.setIfInBounds_toArray, List.set_cons_zero, List.set_cons_succ]
      refine wpAnyH_take (i := 15) (oi := { dst := some 87, op := Op.indexAddr 22 (Operand.tmp 85) (Operand.tmp 86), type := 0, pos := _, after := _, guard := some (12, true) }) (v := ?_) rfl (by kernel_rfl) (by kernel_rfl) (by kernel_rfl) (fun _ _ _ h => h) (Or.inl ⟨by rfl, ?_⟩) (by assumption) ?_
      rotate_left
      · intro wS hSw; (try dsimp only at hSw); go_simp; first | done | with_reducible rfl
      try simp only [Act.put, List.setIfInBounds_toArray, List.set_cons_zero, List.set_cons_succ]
      refine wpAnyH_take (i := 16) (oi := { dst := some 88, op := Op.load 24 (Operand.tmp 87), type := 24, pos := _, after := _, guard := some (12, true) }) (v := ?_) rfl (by kernel_rfl) (by kernel_rfl) (by kernel_rfl) (fun _ _ _ h => h) (Or.inl ⟨by rfl, ?_⟩) (by assumption) ?_
      rotate_left
      · intro wS hSw; (try dsimp only at hSw); go_simp; first | done | with_reducible rfl
      try simp only [Act.put, List.setIfInBounds_toArray, List.set_cons_zero, List.set_cons_succ]
      refine wpAnyH_take (i := 17) (oi := { dst := some 89, op := Op.move (Operand.tmp 10), type := 22, pos := _, after := _, guard := some (12, true) }) (v := ?_) rfl (by kernel_rfl) (by kernel_rfl) (by kernel_rfl) (fun _ _ _ h => h) (Or.inl ⟨by rfl, ?_⟩) (by assumption) ?_
      rotate_left
      · intro wS hSw; (try dsimp only at hSw); go_simp; first | done | with_reducible rfl
      try simp only [Act.put, List.setIfInBounds_toArray, List.set_cons_zero, List.set_cons_succ]
      refine wpAnyH_take (i := 18) (oi := { dst := some 90, op := Op.indexAddr 22 (Operand.tmp 89) (Operand.const (Value.int IntKind.i64 0)), type := 0, pos := _, after := _, guard := some (12, true) }) (v := ?_) rfl (by kernel_rfl) (by kernel_rfl) (by kernel_rfl) (fun _ _ _ h => h) (Or.inl ⟨by rfl, ?_⟩) (by assumption) ?_
      rotate_left
      · intro wS hSw; (try dsimp only at hSw); go_simp; first | done | with_reducible rfl
      try simp only [Act.put, List.setIfInBounds_toArray, List.set_cons_zero, List.set_cons_succ]
      refine wpAnyH_take (i := 19) (oi := { dst := some 91, op := Op.load 24 (Operand.tmp 90), type := 24, pos := _, after := _, guard := some (12, true) }) (v := ?_) rfl (by kernel_rfl) (by kernel_rfl) (by kernel_rfl) (fun _ _ _ h => h) (Or.inl ⟨by rfl, ?_⟩) (by assumption) ?_
      rotate_left
      · intro wS hSw; (try dsimp only at hSw); go_simp; first | done | with_reducible rfl
      try simp only [Act.put, List.setIfInBounds_toArray, List.set_cons_zero, List.set_cons_succ]
      refine wpAnyH_take (i := 20) (oi := { dst := some 92, op := Op.binOp BinOp.eql 24 (Operand.tmp 88) (Operand.tmp 91) 24, type := 4, pos := _, after := _, guard := some (12, true) }) (v := ?_) rfl (by kernel_rfl) (by kernel_rfl) (by kernel_rfl) (fun _ _ _ h => h) (Or.inl ⟨by rfl, ?_⟩) (by assumption) ?_
      rotate_left
      · intro wS hSw; (try dsimp only at hSw); go_simp; first | done | with_reducible rfl
      try simp only [Act.put, List.setIfInBounds_toArray, List.set_cons_zero, List.set_cons_succ]
      refine wpAnyH_take (i := 21) (oi := { dst := some 93, op := Op.pick (Operand.tmp 84) (Operand.tmp 92) (Operand.const (Value.bool false)), type := 4, pos := _, after := _, guard := some (8, false) }) (v := ?_) rfl (by kernel_rfl) (by kernel_rfl) (by kernel_rfl) (fun _ _ _ h => h) (Or.inl ⟨by rfl, ?_⟩) (by assumption) ?_
      rotate_left
      · intro wS hSw; (try dsimp only at hSw); go_simp; first | done | with_reducible rfl
      try simp only [Act.put, List.setIfInBounds_toArray, List.set_cons_zero, List.set_cons_succ]
      refine wpAnyH_take (i := 22) (oi := { dst := some 94, op := Op.pick (Operand.tmp 80) (Operand.const (Value.bool true)) (Operand.tmp 93), type := 4, pos := _, after := _, guard := none }) (v := ?_) rfl (by kernel_rfl) (by kernel_rfl) (by kernel_rfl) (fun _ _ _ h => h) (Or.inl ⟨by rfl, ?_⟩) (by assumption) ?_
      rotate_left
      · intro wS hSw; (try dsimp only at hSw); go_simp; first | done | with_reducible rfl
      try simp only [Act.put, List.setIfInBounds_toArray, List.set_cons_zero, List.set_cons_succ]
      refine wpAnyH_take (i := 23) (oi := { dst := some 11, op := Op.assign (Operand.tmp 94), type := 4, pos := _, after := _, guard := none }) (v := ?_) rfl (by kernel_rfl) (by kernel_rfl) (by kernel_rfl) (fun _ _ _ h => h) (Or.inl ⟨by rfl, ?_⟩) (by assumption) ?_
      rotate_left
      · intro wS hSw; (try dsimp only at hSw); go_simp; first | done | with_reducible rfl
      try simp only [Act.put, List.setIfInBounds_toArray, List.set_cons_zero, List.set_cons_succ]
      refine wpAnyH_done (by kernel_rfl) ?_ _
      go_wp2_with fail
      go_meet
      case rel => exact ⟨rfl, (Below.refl _ _).drew⟩
  case rest =>
    obtain ⟨rfl, hbc⟩ := hcut
    have HBc : Hid (Below w8.heap.size w8 wc.drew) := hbc.drew
    clear hbc
    obtain ⟨ta, hta⟩ : ∃ ta, (if caps = 1 then (some ⟨bs, os, none⟩ : Option Addr) else some ⟨bs, os + 3, none⟩) = ta := ⟨_, rfl⟩
    have HTM : Hid (∀ y, Below w8.heap.size w8 y → Ops y (.slice ta (n - 1) (caps - 1)) (n - 1) (fun i => gs (i + 1))) := fun y hy => by rw [← hta]; exact HTL.out y hy
    clear HTL
    go_wp2_with fail
    refine wp_region_held_drew (S := fun y : World => (y.cell? ⟨b4, o4 + k * 3, none⟩ = some (.int .i64 p) ∧ y.cell? ⟨b4, o4 + k * 3 + 1, none⟩ = some (.int .i64 q) ∧ y.cell? ⟨b4, o4 + k * 3 + 2, none⟩ = some (.int .i64 t) ∧ y.cell? ⟨bx, ox, none⟩ = some (.int .i64 u0) ∧ y.cell? ⟨bx, ox + 1, none⟩ = some (.int .i64 u1) ∧ y.cell? ⟨bx, ox + 2, none⟩ = some (.int .i64 u2))) (by kernel_rfl) ?_ (fun hHeld => ?_)
    · exact CS.out _ HBc.out
    have HBy0 : Hid (Below w8.heap.size w8 wc.drew) := HBc.out
    clear HBc
    generalize wc.drew = y0 at *
    refine wpAnyH_take (i := 0) (oi := { dst := some 95, op := Op.move (Operand.tmp 11), type := 4, pos := _, after := _, guard := none }) (v := ?_) rfl (by kernel_rfl) (by kernel_rfl) (by kernel_rfl) (fun _ _ _ h => h) (Or.inl ⟨by rfl, ?_⟩) (by assumption) ?_
    rotate_left
    · intro wS hSw; (try dsimp only at hSw); go_simp; first | done | with_reducible rfl
    try simp only [Act.put, List.setIfInBounds_toArray, List.set_cons_zero, List.set_cons_succ]
    refine wpAnyH_take (i := 1) (oi := { dst := some 96, op := Op.move (Operand.tmp 95), type := 4, pos := _, after := _, guard := none }) (v := ?_) rfl (by kernel_rfl) (by kernel_rfl) (by kernel_rfl) (fun _ _ _ h => h) (Or.inl ⟨by rfl, ?_⟩) (by assumption) ?_
    rotate_left
    · intro wS hSw; (try dsimp only at hSw); go_simp; first | done | with_reducible rfl
    try simp only [Act.put, List.setIfInBounds_toArray, List.set_cons_zero, List.set_cons_succ]
    refine wpAnyH_take (i := 2) (oi := { dst := some 97, op := Op.move (Operand.tmp 9), type := 22, pos := _, after := _, guard := some (1, true) }) (v := ?_) rfl (by kernel_rfl) (by kernel_rfl) (by kernel_rfl) (fun _ _ _ h => h) (Or.inl ⟨by rfl, ?_⟩) (by assumption) ?_
    rotate_left
    · intro wS hSw; (try dsimp only at hSw); go_simp; first | done | with_reducible rfl
    try simp only [Act.put, List.setIfInBounds_toArray, List.set_cons_zero, List.set_cons_succ]
    refine wpAnyH_take (i := 3) (oi := { dst := some 98, op := Op.indexAddr 22 (Operand.tmp 97) (Operand.const (Value.int IntKind.i64 0)), type := 0, pos := _, after := _, guard := some (1, true) }) (v := ?_) rfl (by kernel_rfl) (by kernel_rfl) (by kernel_rfl) (fun _ _ _ h => h) (Or.inl ⟨by rfl, ?_⟩) (by assumption) ?_
    rotate_left
    · intro wS hSw; (try dsimp only at hSw); go_simp; first | done | with_reducible rfl
    try simp only [Act.put, List.setIfInBounds_toArray, List.set_cons_zero, List.set_cons_succ]
    refine wpAnyH_take (i := 4) (oi := { dst := some 99, op := Op.load 24 (Operand.tmp 98), type := 24, pos := _, after := _, guard := some (1, true) }) (v := ?_) rfl (by kernel_rfl) (by kernel_rfl) (by kernel_rfl) (fun _ _ _ h => h) (Or.inl ⟨by rfl, ?_⟩) (by assumption) ?_
    rotate_left
    · intro wS hSw; (try dsimp only at hSw); go_simp; first | done | with_reducible rfl
    try simp only [Act.put, List.setIfInBounds_toArray, List.set_cons_zero, List.set_cons_succ]
    refine wpAnyH_take (i := 5) (oi := { dst := some 100, op := Op.move (Operand.tmp 6), type := 22, pos := _, after := _, guard := some (1, true) }) (v := ?_) rfl (by kernel_rfl) (by kernel_rfl) (by kernel_rfl) (fun _ _ _ h => h) (Or.inl ⟨by rfl, ?_⟩) (by assumption) ?_
    rotate_left
    · intro wS hSw; (try dsimp only at hSw); go_simp; first | done | with_reducible rfl
    try simp only [Act.put, List.setIfInBounds_toArray, List.set_cons_zero, List.set_cons_succ]
    refine wpAnyH_take (i := 6) (oi := { dst := some 101, op := Op.move (Operand.tmp 8), type := 3, pos := _, after := _, guard := some (1, true) }) (v := ?_) rfl (by kernel_rfl) (by kernel_rfl) (by kernel_rfl) (fun _ _ _ h => h) (Or.inl ⟨by rfl, ?_⟩) (by assumption) ?_
    rotate_left
    · intro wS hSw; (try dsimp only at hSw); go_simp; first | done | with_reducible rfl
    try simp only [Act.put, List.setIfInBounds_toArray, List.set_cons_zero, List.set_cons_succ]
    refine wpAnyH_take (i := 7) (oi := { dst := some 102, op := Op.indexAddr 22 (Operand.tmp 100) (Operand.tmp 101), type := 0, pos := _, after := _, guard := some (1, true) }) (v := ?_) rfl (by kernel_rfl) (by kernel_rfl) (by kernel_rfl) (fun _ _ _ h => h) (Or.inl ⟨by rfl, ?_⟩) (by assumption) ?_
    rotate_left
    · intro wS hSw; (try dsimp only at hSw); go_simp; first | done | with_reducible rfl
    try simp only [Act.put, List.setIfInBounds_toArray, List.set_cons_zero, List.set_cons_succ]
    refine wpAnyH_take (i := 8) (oi := { dst := some 103, op := Op.load 24 (Operand.tmp 102), type := 24, pos := _, after := _, guard := some (1, true) }) (v := ?_) rfl (by kernel_rfl) (by kernel_rfl) (by kernel_rfl) (fun _ _ _ h => h) (Or.inl ⟨by rfl, ?_⟩) (by assumption) ?_
    rotate_left
    · intro wS hSw; (try dsimp only at hSw); go_simp; first | done | with_reducible rfl
    try simp only [Act.put, List.setIfInBounds_toArray, List.set_cons_zero, List.set_cons_succ]
    refine wpAnyH_ready (rs := [9]) (by kernel_rfl) (by simp) ?_
    refine AllReadyH.cons (o := { dst := some 104, op := Op.call { callee := Callee.value (Operand.func 11), args := #[Operand.tmp 99, Operand.tmp 103], argTypes := #[24, 24] }, type := 4, pos := _, after := _, guard := some (1, true) }) rfl (fun K hK => ?_) AllReadyH.nil
    go_simp
    refine (less14_any u0 u1 u2 p q t _).mono ?_
    rintro e y9 ⟨rfl, hb⟩
    rw [HL.out]
    have HBy9 : Hid (Below w8.heap.size w8 y9) := HBy0.out.trans (hb.mono HBy0.out.size)
    clear hb
    go_wp2_with fail
    refine hK.out _ _ ?_ (fun hHeld => ?_)
    · exact CS.out _ HBy9.out
    clear hK K
    try simp only [Act.put, List.setIfInBounds_toArray, List.set_cons_zero, List.set_cons_succ]
    refine wpAnyH_take (i := 10) (oi := { dst := some 105, op := Op.unOp UnOp.not 4 (Operand.tmp 104), type := 4, pos := _, after := _, guard := some (1, true) }) (v := ?_) rfl (by kernel_rfl) (by kernel_rfl) (by kernel_rfl) (fun _ _ _ h => h) (Or.inl ⟨by rfl, ?_⟩) (by assumption) ?_
    rotate_left
    · intro wS hSw; (try dsimp only at hSw); go_simp; first | done | with_reducible rfl
    try simp only [Act.put, List.setIfInBounds_toArray, List.set_cons_zero, List.set_cons_succ]
    refine wpAnyH_take (i := 11) (oi := { dst := some 106, op := Op.pick (Operand.tmp 96) (Operand.tmp 105) (Operand.const (Value.bool false)), type := 4, pos := _, after := _, guard := none }) (v := ?_) rfl (by kernel_rfl) (by kernel_rfl) (by kernel_rfl) (fun _ _ _ h => h) (Or.inl ⟨by rfl, ?_⟩) (by assumption) ?_
    rotate_left
    · intro wS hSw; (try dsimp only at hSw); go_simp; first | done | with_reducible rfl
    try simp only [Act.put, List.setIfInBounds_toArray, List.set_cons_zero, List.set_cons_succ]
    refine wpAnyH_take (i := 12) (oi := { dst := some 107, op := Op.move (Operand.tmp 106), type := 4, pos := _, after := _, guard := none }) (v := ?_) rfl (by kernel_rfl) (by kernel_rfl) (by kernel_rfl) (fun _ _ _ h => h) (Or.inl ⟨by rfl, ?_⟩) (by assumption) ?_
    rotate_left
    · intro wS hSw; (try dsimp only at hSw); go_simp; first | done | with_reducible rfl
    try simp only [Act.put, List.setIfInBounds_toArray, List.set_cons_zero, List.set_cons_succ]
    refine wpAnyH_take (i := 13) (oi := { dst := some 108, op := Op.move (Operand.tmp 7), type := 22, pos := _, after := _, guard := some (12, true) }) (v := ?_) rfl (by kernel_rfl) (by kernel_rfl) (by kernel_rfl) (fun _ _ _ h => h) (Or.inl ⟨by rfl, ?_⟩) (by assumption) ?_
    rotate_left
    · intro wS hSw; (try dsimp only at hSw); go_simp; first | done | with_reducible rfl
    try simp only [Act.put, List.setIfInBounds_toArray, List.set_cons_zero, List.set_cons_succ]
    refine wpAnyH_take (i := 14) (oi := { dst := some 109, op := Op.slice 22 (Operand.tmp 108) (some (Operand.const (Value.int IntKind.i64 1))) none none, type := 22, pos := _, after := _, guard := some (12, true) }) (v := ?_) rfl (by kernel_rfl) (by kernel_rfl) (by kernel_rfl) (fun _ _ _ h => h) (Or.inl ⟨by rfl, ?_⟩) (by assumption) ?_
    rotate_left
    · intro wS hSw; (try dsimp only at hSw); go_simp; first | done | with_reducible rfl
    try simp only [Act.put, List.setIfInBounds_toArray, List.set_cons_zero, List.set_cons_succ]
    refine wpAnyH_take (i := 16) (oi := { dst := some 111, op := Op.move (Operand.tmp 7), type := 22, pos := _, after := _, guard := some (12, true) }) (v := ?_) rfl (by kernel_rfl) (by kernel_rfl) (by kernel_rfl) (fun _ _ _ h => h) (Or.inl ⟨by rfl, ?_⟩) (by assumption) ?_
    rotate_left
    · intro wS hSw; (try dsimp only at hSw); go_simp; first | done | with_reducible rfl
    try simp only [Act.put, List.setIfInBounds_toArray, List.set_cons_zero, List.set_cons_succ]
    refine wpAnyH_take (i := 17) (oi := { dst := some 112, op := Op.slice 22 (Operand.tmp 111) (some (Operand.const (Value.int IntKind.i64 1))) none none, type := 22, pos := _, after := _, guard := some (12, true) }) (v := ?_) rfl (by kernel_rfl) (by kernel_rfl) (by kernel_rfl) (fun _ _ _ h => h) (Or.inl ⟨by rfl, ?_⟩) (by assumption) ?_
    rotate_left
    · intro wS hSw; (try dsimp only at hSw); go_simp; first | done | with_reducible rfl
    try simp only [Act.put, List.setIfInBounds_toArray, List.set_cons_zero, List.set_cons_succ]
    refine wpAnyH_ready (rs := [15]) (by kernel_rfl) (by simp) ?_
    refine AllReadyH.cons (o := { dst := some 110, op := Op.call { callee := Callee.value (Operand.func 14), args := #[Operand.tmp 109], argTypes := #[22] }, type := 22, pos := _, after := _, guard := some (12, true) }) rfl (fun K hK => ?_) AllReadyH.nil
    go_simp
    refine (sort14_any (n - 1) (fun i => gs (i + 1)) _ _ (HTM.out _ HBy9.out) (fun i hi => wf_same HSP.out.1 HWF.out (i + 1) (by omega)) (by omega)).mono ?_
    rintro e y15 ⟨v5, g5, rfl, ho5, hc5, hs5, hb⟩
    have HBy15 : Hid (Below w8.heap.size w8 y15) := HBy9.out.trans (hb.mono HBy9.out.size)
    have H5 : Hid ((∀ i, i < n - 1 → g5 i = gs (i + 1)) ∧ Ops y15 v5 (n - 1) g5) := ⟨sorted_one hs5 HSP.out.2.tail hc5, ho5⟩
    clear ho5 hc5 hs5 hb
    go_wp2_with fail
    refine hK.out _ _ ?_ (fun hHeld => ?_)
    · exact CS.out _ HBy15.out
    clear hK K
    try simp only [Act.put, List.setIfInBounds_toArray, List.set_cons_zero, List.set_cons_succ]
    refine wpAnyH_ready (rs := [18]) (by kernel_rfl) (by simp) ?_
    refine AllReadyH.cons (o := { dst := some 113, op := Op.call { callee := Callee.value (Operand.func 13), args := #[Operand.tmp 110, Operand.tmp 112], argTypes := #[22, 22] }, type := 4, pos := _, after := _, guard := some (12, true) }) rfl (fun K hK => ?_) AllReadyH.nil
    go_simp
    refine (same14_any (n - 1) g5 (fun i => gs (i + 1)) _ _ _ H5.out.2 (HTM.out _ HBy15.out) H5.out.1 (by omega)).mono ?_
    rintro e y18 ⟨rfl, hb⟩
    have HBy18 : Hid (Below w8.heap.size w8 y18) := HBy15.out.trans (hb.mono HBy15.out.size)
    clear hb
    go_wp2_with fail
    refine hK.out _ _ ?_ (fun hHeld => ?_)
    · exact CS.out _ HBy18.out
    clear hK K
    try simp only [Act.put, List.setIfInBounds_toArray, List.set_cons_zero, List.set_cons_succ]
    refine wpAnyH_take (i := 19) (oi := { dst := some 114, op := Op.pick (Operand.tmp 107) (Operand.tmp 113) (Operand.const (Value.bool false)), type := 4, pos := _, after := _, guard := none }) (v := ?_) rfl (by kernel_rfl) (by kernel_rfl) (by kernel_rfl) (fun _ _ _ h => h) (Or.inl ⟨by rfl, ?_⟩) (by assumption) ?_
    rotate_left
    · intro wS hSw; (try dsimp only at hSw); go_simp; first | done | with_reducible rfl
    try simp only [Act.put, List.setIfInBounds_toArray, List.set_cons_zero, List.set_cons_succ]
    refine wpAnyH_take (i := 20) (oi := { dst := some 4, op := Op.assign (Operand.tmp 114), type := 4, pos := _, after := _, guard := none }) (v := ?_) rfl (by kernel_rfl) (by kernel_rfl) (by kernel_rfl) (fun _ _ _ h => h) (Or.inl ⟨by rfl, ?_⟩) (by assumption) ?_
    rotate_left
    · intro wS hSw; (try dsimp only at hSw); go_simp; first | done | with_reducible rfl
    try simp only [Act.put, List.setIfInBounds_toArray, List.set_cons_zero, List.set_cons_succ]
    refine wpAnyH_done (by kernel_rfl) ?_ _
    go_wp2_with fail
    go_ret
    exact ⟨rfl, HB8.out.trans (HBy18.out.mono HB8.out.size)⟩
end Go.Proofs.Ytkaobjcghmigmaa
