/- The library's sort: which one is gone by. -/
import Derived.Test.YtcdkocdjbpebpaaN9
namespace Go.Proofs.Ytcdkocdjbpebpaa
open Go.RowKit
open Go.Sort (SWO swp HoldsK putRowK PermIn SortedIn)

/-- A variable of the sort's own that counts. -/
def Swp (P : Nat) (w : World) (s : Nat) : Prop := w.cell? ⟨P, 0, none⟩ = some (.int .i64 s) ∧ w.frozen? ⟨P, 0, none⟩ = false
theorem Swp.later {P s : Nat} {w w' : World} (h : Swp P w s) (hb : Below w.heap.size w w') : Swp P w' s :=
  ⟨cell_later hb h.1, (hb.frozen (p := ⟨P, 0, none⟩) (World.block_lt_of_cell? _ _ h.1)).trans h.2⟩
theorem Swp.put {P s : Nat} {w : World} (h : Swp P w s) (t : Nat) (v : Value) (hv : v = .int .i64 t) : Swp P (w.setCell ⟨P, 0, none⟩ v) t := by
  subst hv
  exact ⟨World.cell?_setCell_same _ _ _ h.1, by simpa using h.2⟩
theorem Srt.past {P : Nat} {Bs B o n c : Nat} {ty : Value} {w w' : World} {d : Array (Int × Int × Int)} (h : Srt Bs B o n c ty w d) (k : Kpt P w w') (h1 : P ≠ B) (h2 : P ≠ Bs) : Srt Bs B o n c ty w' d :=
  ⟨fun j hj => ⟨(World.cell?_of_block (w := w) (k.block B h.lt (fun e => h1 e.symm))).trans (h.holds j hj).1, (World.frozen?_of_block (w := w) (k.block B h.lt (fun e => h1 e.symm))).trans (h.holds j hj).2⟩,
    k.cell h.var (fun e => h2 e.symm), Nat.lt_of_lt_of_le h.lt k.size, h.ne, h.size, h.small, h.hnd⟩

def OrdE (P a b s : Nat) (w : World) (e : Ending) (w' : World) : Prop := ∃ x y t : Nat, e = .returned (.tuple #[.int .i64 x, .int .i64 y]) ∧ ((x = a ∧ y = b) ∨ (x = b ∧ y = a)) ∧ t ≤ s + 1 ∧ Swp P w' t ∧ Kpt P w w'
def MedE (P a b c s : Nat) (w : World) (e : Ending) (w' : World) : Prop := ∃ r t : Nat, e = .returned (.int .i64 r) ∧ (r = a ∨ r = b ∨ r = c) ∧ t ≤ s + 3 ∧ Swp P w' t ∧ Kpt P w w'

set_option maxHeartbeats 2000000 in
set_option maxRecDepth 100000 in
theorem ord2_any {Bs B o n c : Nat} {ty : Value} {w : World} {d : Array (Int × Int × Int)} (h : Srt Bs B o n c ty w d) (P a b s : Nat) (hs : Swp P w s) (ha : a < n) (hb : b < n) (s12 : s ≤ 20) :
    Calls Try.prog 101 #[.agg #[.func (.func 30) #[] #[.pointer (some ⟨Bs, 0, none⟩)], .func (.func 63) #[] #[.slice (some ⟨B, o, none⟩) n c, ty]], .int .i64 a, .int .i64 b, .pointer (some ⟨P, 0, none⟩)] w (OrdE P a b s w) := by
  have hD := SrtD.new h
  have hS := hs.later ((Below.refl _ _).alloc (Nat.le_refl _) (.cells #[.func (.func 30) #[] #[.pointer (some ⟨Bs, 0, none⟩)], .func (.func 63) #[] #[.slice (some ⟨B, o, none⟩) n c, ty]] 82))
  have HK0 : Hid (Kpt P w (w.alloc (.cells #[.func (.func 30) #[] #[.pointer (some ⟨Bs, 0, none⟩)], .func (.func 63) #[] #[.slice (some ⟨B, o, none⟩) n c, ty]] 82))) := Kpt.of ((Below.refl _ _).alloc (Nat.le_refl _) _)
  have hne : w.heap.size ≠ P := fun e => by have := World.block_lt_of_cell? _ _ hs.1; simp at this; omega
  clear h hs
  go_enter Try.func101, Try.ntmps101
  have f0 := hD.f0
  go_wp2_with fail
  generalize w.alloc (.cells #[.func (.func 30) #[] #[.pointer (some ⟨Bs, 0, none⟩)], .func (.func 63) #[] #[.slice (some ⟨B, o, none⟩) n c, ty]] 82) = W at *
  refine (less_at14 hD.srt b a b a rfl rfl hb ha).mono ?_
  rintro e w2 ⟨rfl, hb2⟩
  have hS2 := hS.later hb2
  have HK : Hid (Swp P w2 s ∧ Kpt P w w2) := ⟨hS2, HK0.out.trans (Kpt.of hb2)⟩
  obtain ⟨z0, z1⟩ := hS2
  clear hD hS HK0 hb2 f0
  generalize ltO d[b]! d[a]! = q
  cases q
  · go_wp2
    go_ret2
    exact ⟨a, b, s, rfl, Or.inl ⟨rfl, rfl⟩, by omega, HK.out.1, HK.out.2⟩
  · go_wp2
    go_ret2
    exact ⟨b, a, s + 1, rfl, Or.inr ⟨rfl, rfl⟩, by omega, HK.out.1.put (s + 1) _ (by go_num), HK.out.2.set 0 _⟩

set_option maxHeartbeats 2000000 in
set_option maxRecDepth 100000 in
theorem med_any {Bs B o n c : Nat} {ty : Value} {w : World} {d : Array (Int × Int × Int)} (h : Srt Bs B o n c ty w d) (P a b x s : Nat) (hs : Swp P w s) (h1 : P ≠ B) (h2 : P ≠ Bs) (ha : a < n) (hb : b < n) (hx : x < n) (s12 : s ≤ 15) :
    Calls Try.prog 99 #[.agg #[.func (.func 30) #[] #[.pointer (some ⟨Bs, 0, none⟩)], .func (.func 63) #[] #[.slice (some ⟨B, o, none⟩) n c, ty]], .int .i64 a, .int .i64 b, .int .i64 x, .pointer (some ⟨P, 0, none⟩)] w (MedE P a b x s w) := by
  have hD := SrtD.new h
  have hS := hs.later ((Below.refl _ _).alloc (Nat.le_refl _) (.cells #[.func (.func 30) #[] #[.pointer (some ⟨Bs, 0, none⟩)], .func (.func 63) #[] #[.slice (some ⟨B, o, none⟩) n c, ty]] 82))
  have HK0 : Hid (Kpt P w (w.alloc (.cells #[.func (.func 30) #[] #[.pointer (some ⟨Bs, 0, none⟩)], .func (.func 63) #[] #[.slice (some ⟨B, o, none⟩) n c, ty]] 82))) := Kpt.of ((Below.refl _ _).alloc (Nat.le_refl _) _)
  have hne : w.heap.size ≠ P := fun e => by have := World.block_lt_of_cell? _ _ hs.1; simp at this; omega
  clear h hs
  go_enter Try.func99, Try.ntmps99
  have f0 := hD.f0
  have f1 := hD.f1
  go_wp2_with fail
  generalize w.alloc (.cells #[.func (.func 30) #[] #[.pointer (some ⟨Bs, 0, none⟩)], .func (.func 63) #[] #[.slice (some ⟨B, o, none⟩) n c, ty]] 82) = W at *
  refine (ord2_any hD.srt P a b s hS ha hb (by omega)).mono ?_
  rintro e w2 ⟨x1, y1, s1, rfl, hor1, hs1, hS1, hK1⟩
  have HK1 : Hid (Srt Bs B o n c ty w2 d ∧ Swp P w2 s1 ∧ Kpt P w w2) := ⟨hD.srt.past hK1 h1 h2, hS1, HK0.out.trans hK1⟩
  replace f0 := hK1.cell f0 hne
  replace f1 := hK1.cell f1 hne
  clear hD hS HK0 hK1 hS1
  go_wp2_with fail
  refine (ord2_any HK1.out.1 P y1 x s1 HK1.out.2.1 (by omega) hx (by omega)).mono ?_
  rintro e w3 ⟨x2, y2, s2, rfl, hor2, hs2, hS2, hK2⟩
  have HK2 : Hid (Srt Bs B o n c ty w3 d ∧ Swp P w3 s2 ∧ Kpt P w w3) := ⟨HK1.out.1.past hK2 h1 h2, hS2, HK1.out.2.2.trans hK2⟩
  replace f0 := hK2.cell f0 hne
  replace f1 := hK2.cell f1 hne
  clear hK2 hS2
  go_wp2_with fail
  refine (ord2_any HK2.out.1 P x1 x2 s2 HK2.out.2.1 (by omega) (by omega) (by omega)).mono ?_
  rintro e w4 ⟨x3, y3, s3, rfl, hor3, hs3, hS3, hK3⟩
  have HK3 : Hid (Swp P w4 s3 ∧ Kpt P w w4) := ⟨hS3, HK2.out.2.2.trans hK3⟩
  clear hK3 hS3 f0 f1
  go_wp2
  go_ret
  exact ⟨y3, s3, rfl, by omega, by omega, HK3.out.1, HK3.out.2⟩

set_option maxHeartbeats 2000000 in
set_option maxRecDepth 100000 in
theorem meda_any {Bs B o n c : Nat} {ty : Value} {w : World} {d : Array (Int × Int × Int)} (h : Srt Bs B o n c ty w d) (P a s : Nat) (hs : Swp P w s) (h1 : P ≠ B) (h2 : P ≠ Bs) (ha0 : 0 < a) (ha : a + 1 < n) (s12 : s ≤ 15) :
    Calls Try.prog 98 #[.agg #[.func (.func 30) #[] #[.pointer (some ⟨Bs, 0, none⟩)], .func (.func 63) #[] #[.slice (some ⟨B, o, none⟩) n c, ty]], .int .i64 a, .pointer (some ⟨P, 0, none⟩)] w (MedE P (a - 1) a (a + 1) s w) := by
  have hD := SrtD.new h
  have hsm := h.small
  have hS := hs.later ((Below.refl _ _).alloc (Nat.le_refl _) (.cells #[.func (.func 30) #[] #[.pointer (some ⟨Bs, 0, none⟩)], .func (.func 63) #[] #[.slice (some ⟨B, o, none⟩) n c, ty]] 82))
  have HK0 : Hid (Kpt P w (w.alloc (.cells #[.func (.func 30) #[] #[.pointer (some ⟨Bs, 0, none⟩)], .func (.func 63) #[] #[.slice (some ⟨B, o, none⟩) n c, ty]] 82))) := Kpt.of ((Below.refl _ _).alloc (Nat.le_refl _) _)
  clear h hs
  go_enter Try.func98, Try.ntmps98
  have f0 := hD.f0
  have f1 := hD.f1
  go_wp2_with fail
  generalize w.alloc (.cells #[.func (.func 30) #[] #[.pointer (some ⟨Bs, 0, none⟩)], .func (.func 63) #[] #[.slice (some ⟨B, o, none⟩) n c, ty]] 82) = W at *
  have e1 : (a : Int) - 1 = ((a - 1 : Nat) : Int) := by omega
  have e2 : (a : Int) + 1 = ((a + 1 : Nat) : Int) := by omega
  rw [e1, e2]
  clear e1 e2
  refine (med_any hD.srt P (a - 1) a (a + 1) s hS h1 h2 (by omega) (by omega) (by omega) s12).mono ?_
  rintro e w2 ⟨r, t, rfl, hr, ht, hS1, hK1⟩
  have HK1 : Hid (Swp P w2 t ∧ Kpt P w w2) := ⟨hS1, HK0.out.trans hK1⟩
  clear hD hS HK0 hK1 hS1 f0 f1
  go_wp2
  go_ret
  exact ⟨r, t, rfl, hr, ht, HK1.out.1, HK1.out.2⟩

/-- A block that was not there: all that was there is as it was. -/
theorem Kpt.fresh {P : Nat} {w w' : World} (h : Kpt P w w') (hP : w.heap.size ≤ P) : Below w.heap.size w w' := ⟨h.os, h.tape, h.output, h.size, fun k hk => h.block k hk (by omega)⟩
def ChoE (a b : Nat) (w : World) (e : Ending) (w' : World) : Prop := ∃ (r : Nat) (h : Int), e = .returned (.tuple #[.int .i64 r, .int .i64 h]) ∧ a ≤ r ∧ r < b ∧ (h = 0 ∨ h = 1 ∨ h = 2) ∧ Below w.heap.size w w'

set_option maxHeartbeats 2000000 in
set_option maxRecDepth 100000 in
theorem cho14_any {Bs B o n c : Nat} {ty : Value} {w : World} {d : Array (Int × Int × Int)} (h : Srt Bs B o n c ty w d) (a b : Nat) (hab : a + 13 ≤ b) (hb : b ≤ n) :
    Calls Try.prog 69 #[.agg #[.func (.func 30) #[] #[.pointer (some ⟨Bs, 0, none⟩)], .func (.func 63) #[] #[.slice (some ⟨B, o, none⟩) n c, ty]], .int .i64 a, .int .i64 b] w (ChoE a b w) := by
  have hD := (SrtD.new h).later ((Below.refl _ _).alloc (Nat.le_refl _) (.cells #[.int .i64 0] 3))
  have hS : Swp (w.heap.size + 1) ((w.alloc (.cells #[.func (.func 30) #[] #[.pointer (some ⟨Bs, 0, none⟩)], .func (.func 63) #[] #[.slice (some ⟨B, o, none⟩) n c, ty]] 82)).alloc (.cells #[.int .i64 0] 3)) 0 := ⟨by simp, by simp⟩
  have HB : Hid (Below w.heap.size w ((w.alloc (.cells #[.func (.func 30) #[] #[.pointer (some ⟨Bs, 0, none⟩)], .func (.func 63) #[] #[.slice (some ⟨B, o, none⟩) n c, ty]] 82)).alloc (.cells #[.int .i64 0] 3))) := ((Below.refl _ _).alloc (Nat.le_refl _) _).alloc (by simp) _
  have hsm := h.small
  have hPB : w.heap.size + 1 ≠ B := fun e => by have := h.lt; omega
  have hPV : w.heap.size + 1 ≠ Bs := fun e => by have := World.block_lt_of_cell? _ _ h.var; simp at this; omega
  clear h
  obtain ⟨m, rfl⟩ : ∃ m, b = a + m := ⟨b - a, by omega⟩
  have hq4 : ((m : Int)).tdiv 4 = ((m / 4 : Nat) : Int) := by rw [Int.tdiv_eq_ediv_of_nonneg (by omega)]; omega
  have hm : ((a + m : Nat) : Int) - a = m := by omega
  obtain ⟨q, hq⟩ : ∃ q, m / 4 = q := ⟨_, rfl⟩
  rw [hq] at hq4
  have h1 : 4 * q ≤ m := by omega
  have h2 : m < 4 * q + 4 := by omega
  clear hq
  generalize hbm : a + m = b at *
  have HBM : Hid (a + m = b) := hbm
  have hq3 : 3 ≤ q := by omega
  have hne : w.heap.size ≠ w.heap.size + 1 := by omega
  go_enter Try.func69, Try.ntmps69
  have f0 := hD.f0
  have f1 := hD.f1
  by_cases c50 : 50 ≤ m
  · have c50' : ((m : Int) ≥ 50) := by omega
    go_wp2_with fail
    rw [show (a : Int) + q = ((a + q : Nat) : Int) by omega]
    refine (meda_any hD.srt (w.heap.size + 1) (a + q) 0 hS hPB hPV (by omega) (by omega) (by omega)).mono ?_
    rintro e w2 ⟨r1, t1, rfl, hr1, ht1, hS1, hK1⟩
    have HK1 : Hid (Srt Bs B o n c ty w2 d ∧ Swp (w.heap.size + 1) w2 t1 ∧ Kpt (w.heap.size + 1) w w2) := ⟨hD.srt.past hK1 hPB hPV, hS1, (Kpt.of HB.out).trans hK1⟩
    replace f0 := hK1.cell f0 hne
    replace f1 := hK1.cell f1 hne
    clear hD hS HB hK1 hS1
    go_wp2_with fail
    rw [show (a : Int) + q * 2 = ((a + q * 2 : Nat) : Int) by omega]
    refine (meda_any HK1.out.1 (w.heap.size + 1) (a + q * 2) t1 HK1.out.2.1 hPB hPV (by omega) (by omega) (by omega)).mono ?_
    rintro e w3 ⟨r2, t2, rfl, hr2, ht2, hS2, hK2⟩
    have HK2 : Hid (Srt Bs B o n c ty w3 d ∧ Swp (w.heap.size + 1) w3 t2 ∧ Kpt (w.heap.size + 1) w w3) := ⟨HK1.out.1.past hK2 hPB hPV, hS2, HK1.out.2.2.trans hK2⟩
    replace f0 := hK2.cell f0 hne
    replace f1 := hK2.cell f1 hne
    clear hK2 hS2 HK1
    go_wp2_with fail
    rw [show (a : Int) + q * 3 = ((a + q * 3 : Nat) : Int) by omega]
    refine (meda_any HK2.out.1 (w.heap.size + 1) (a + q * 3) t2 HK2.out.2.1 hPB hPV (by omega) (by omega) (by omega)).mono ?_
    rintro e w4 ⟨r3, t3, rfl, hr3, ht3, hS3, hK3⟩
    have HK3 : Hid (Srt Bs B o n c ty w4 d ∧ Swp (w.heap.size + 1) w4 t3 ∧ Kpt (w.heap.size + 1) w w4) := ⟨HK2.out.1.past hK3 hPB hPV, hS3, HK2.out.2.2.trans hK3⟩
    replace f0 := hK3.cell f0 hne
    replace f1 := hK3.cell f1 hne
    clear hK3 hS3 HK2
    go_wp2_with fail
    refine (med_any HK3.out.1 (w.heap.size + 1) r1 r2 r3 t3 HK3.out.2.1 hPB hPV (by omega) (by omega) (by omega) (by omega)).mono ?_
    rintro e w9 ⟨r9, t9, rfl, hr9, ht9, hS9, hK9⟩
    have K9 : Below w.heap.size w w9 := Kpt.fresh (HK3.out.2.2.trans hK9) (by omega)
    have HZ : Hid (Swp (w.heap.size + 1) w9 t9 ∧ Below w.heap.size w w9) := ⟨hS9, K9⟩
    obtain ⟨z0, _⟩ := hS9
    clear f0 f1 K9
    by_cases c0 : t9 = 0
    · subst c0
      go_wp2
      go_ret2
      exact ⟨r9, 1, rfl, by omega, by omega, by omega, HZ.out.2⟩
    · have c0' : ((t9 : Int) == 0) = false := by simpa using c0
      by_cases c12 : t9 = 12
      · subst c12
        go_wp2
        go_ret2
        exact ⟨r9, 2, rfl, by omega, by omega, by omega, HZ.out.2⟩
      · have c12' : ((t9 : Int) == 12) = false := by simpa using (by omega : ¬ (t9 : Int) = 12)
        go_wp2
        go_ret2
        exact ⟨r9, 0, rfl, by omega, by omega, by omega, HZ.out.2⟩
  · have c50' : ¬ ((m : Int) ≥ 50) := by omega
    go_wp2_with fail
    rw [show (a : Int) + q = ((a + q : Nat) : Int) by omega, show (a : Int) + q * 2 = ((a + q * 2 : Nat) : Int) by omega, show (a : Int) + q * 3 = ((a + q * 3 : Nat) : Int) by omega]
    refine (med_any hD.srt (w.heap.size + 1) (a + q) (a + q * 2) (a + q * 3) 0 hS hPB hPV (by omega) (by omega) (by omega) (by omega)).mono ?_
    rintro e w9 ⟨r9, t9, rfl, hr9, ht9, hS9, hK9⟩
    have K9 : Below w.heap.size w w9 := Kpt.fresh ((Kpt.of HB.out).trans hK9) (by omega)
    clear hD hS HB
    have HZ : Hid (Swp (w.heap.size + 1) w9 t9 ∧ Below w.heap.size w w9) := ⟨hS9, K9⟩
    obtain ⟨z0, _⟩ := hS9
    clear f0 f1 K9
    by_cases c0 : t9 = 0
    · subst c0
      go_wp2
      go_ret2
      exact ⟨r9, 1, rfl, by omega, by omega, by omega, HZ.out.2⟩
    · have c0' : ((t9 : Int) == 0) = false := by simpa using c0
      by_cases c12 : t9 = 12
      · subst c12
        go_wp2
        go_ret2
        exact ⟨r9, 2, rfl, by omega, by omega, by omega, HZ.out.2⟩
      · have c12' : ((t9 : Int) == 12) = false := by simpa using (by omega : ¬ (t9 : Int) = 12)
        go_wp2
        go_ret2
        exact ⟨r9, 0, rfl, by omega, by omega, by omega, HZ.out.2⟩
end Go.Proofs.Ytcdkocdjbpebpaa
