/- Springs as they lie; walks of package spring: within, least, slack, what tells of one, and two numbers in the least ones. -/
import Derived.Test.YtjiockmphbhljaaDoorX2
import Derived.Test.YtjiockmphbhljaaDoorU9
import Derived.Test.YtjiockmphbhljaaDoorU7
import Derived.Test.YtjiockmphbhljaaDoorW8
import Derived.Test.YtjiockmphbhljaaDoorF1
import Derived.Deep.RegionHeld3
import Derived.BigQuiet
namespace Go.Proofs.YtjiockmphbhljaaDoor
open Go.RowKit

/-- A list of springs that is read: U, Min and E of each. -/
def Sprs (w : World) (v : Value) (n : Nat) (u m e : Nat → Int) : Prop :=
  ∃ a cap, v = .slice a n cap ∧ n ≤ cap ∧ cap ≤ maxLen ∧ (a = none → cap = 0) ∧ (0 < n → ∃ b o, a = some ⟨b, o, none⟩ ∧ ∀ i, i < n → w.cell? ⟨b, o + i * 3, none⟩ = some (.int .i64 (u i)) ∧ w.cell? ⟨b, o + i * 3 + 1, none⟩ = some (.int .i64 (m i)) ∧ w.cell? ⟨b, o + i * 3 + 2, none⟩ = some (.int .i64 (e i)))
theorem Sprs.later {w w' : World} {v : Value} {n : Nat} {u m e : Nat → Int} (h : Sprs w v n u m e) (hb : Below w.heap.size w w') : Sprs w' v n u m e := by
  obtain ⟨a, cap, rfl, h1, h2, h0, h3⟩ := h
  refine ⟨a, cap, rfl, h1, h2, h0, fun hx => ?_⟩
  obtain ⟨b, o, rfl, h4⟩ := h3 hx
  exact ⟨b, o, rfl, fun i hi => ⟨cell_later hb (h4 i hi).1, cell_later hb (h4 i hi).2.1, cell_later hb (h4 i hi).2.2⟩⟩

/-- Three numbers that lie in a block. -/
def Thr (w : World) (b : Nat) (u m e : Int) : Prop := w.cell? ⟨b, 0, none⟩ = some (.int .i64 u) ∧ w.cell? ⟨b, 1, none⟩ = some (.int .i64 m) ∧ w.cell? ⟨b, 2, none⟩ = some (.int .i64 e)
theorem Thr.later {w w' : World} {b : Nat} {u m e : Int} (h : Thr w b u m e) (hb : Below w.heap.size w w') : Thr w' b u m e := ⟨cell_later hb h.1, cell_later hb h.2.1, cell_later hb h.2.2⟩
theorem Thr.new (w : World) (u m e : Int) (t : TypeId) : Thr (w.alloc (.cells #[.int .i64 u, .int .i64 m, .int .i64 e] t)) w.heap.size u m e := ⟨by simp, by simp, by simp⟩
theorem Thr.lt {w : World} {b : Nat} {u m e : Int} (h : Thr w b u m e) : b < w.heap.size := World.block_lt_of_cell? _ _ h.1
/-- Two numbers that lie in a block. -/
def Duo (w : World) (b : Nat) (x y : Int) : Prop := w.cell? ⟨b, 0, none⟩ = some (.int .i64 x) ∧ w.cell? ⟨b, 1, none⟩ = some (.int .i64 y)
theorem Duo.later {w w' : World} {b : Nat} {x y : Int} (h : Duo w b x y) (hb : Below w.heap.size w w') : Duo w' b x y := ⟨cell_later hb h.1, cell_later hb h.2⟩
theorem Duo.new (w : World) (x y : Int) (t : TypeId) : Duo (w.alloc (.cells #[.int .i64 x, .int .i64 y] t)) w.heap.size x y := ⟨by simp, by simp⟩
theorem Duo.lt {w : World} {b : Nat} {x y : Int} (h : Duo w b x y) : b < w.heap.size := World.block_lt_of_cell? _ _ h.1

/-- A spring's least. -/
def lea (u m e : Int) : Int := if e = 0 then u else m

theorem within7_any (n a b : Int) (w : World) :
    Calls Tryd.prog 24 #[.int .i64 n, .int .i64 a, .int .i64 b] w fun e w' => e = .returned (.bool (wiB n a b)) ∧ w' = w := by
  by_cases c0 : a ≤ n
  · have H : Hid (wiB n a b = decide (n ≤ b)) := by show _ = _; unfold wiB; simp [c0]
    go_enter Tryd.func24, Tryd.ntmps24
    go_wp2
    go_ret
    exact ⟨ret_b H.out.symm, rfl⟩
  · have H : Hid (wiB n a b = false) := by show _ = _; unfold wiB; simp [c0]
    go_enter Tryd.func24, Tryd.ntmps24
    go_wp2
    go_ret
    exact ⟨ret_b H.out.symm, rfl⟩

theorem least7_any (u m e : Int) (w : World) :
    Calls Tryd.prog 26 #[.agg #[.int .i64 u, .int .i64 m, .int .i64 e]] w fun r w' => r = .returned (.int .i64 (lea u m e)) ∧ Below w.heap.size w w' := by
  by_cases h : e = 0
  · have H : Hid (lea u m e = u) := by show _ = _; unfold lea; rw [if_pos h]
    go_enter Tryd.func26, Tryd.ntmps26
    go_wp2
    go_ret
    exact ⟨ret_i H.out.symm, (Below.refl _ _).alloc (Nat.le_refl _) _⟩
  · have H : Hid (lea u m e = m) := by show _ = _; unfold lea; rw [if_neg h]
    go_enter Tryd.func26, Tryd.ntmps26
    go_wp2
    go_ret
    exact ⟨ret_i H.out.symm, (Below.refl _ _).alloc (Nat.le_refl _) _⟩

theorem top7_any (u m e : Int) (w : World) :
    Calls Tryd.prog 27 #[.agg #[.int .i64 u, .int .i64 m, .int .i64 e]] w fun r w' => r = .returned (.int .i64 u) ∧ Below w.heap.size w w' := by
  go_enter Tryd.func27, Tryd.ntmps27
  go_wp2
  go_ret
  exact ⟨rfl, (Below.refl _ _).alloc (Nat.le_refl _) _⟩

set_option maxHeartbeats 1000000 in
set_option maxRecDepth 100000 in
theorem slack7_any (u m e : Int) (w : World) (h0 : 0 ≤ u - lea u m e) (h1 : u - lea u m e ≤ 1048576) :
    Calls Tryd.prog 35 #[.agg #[.int .i64 u, .int .i64 m, .int .i64 e]] w fun r w' => r = .returned (.int .i64 (u - lea u m e)) ∧ Below w.heap.size w w' := by
  have hT := Thr.new w u m e 33
  have hE : Hid (Below w.heap.size w (w.alloc (.cells #[.int .i64 u, .int .i64 m, .int .i64 e] 33))) := (Below.refl _ _).alloc (Nat.le_refl _) _
  obtain ⟨q, hq⟩ : ∃ q, lea u m e = q := ⟨_, rfl⟩
  rw [hq] at h0 h1 ⊢
  have HQ : Hid (lea u m e = q) := hq
  clear hq
  have hw : IntKind.i64.wrap (u - q) = u - q := by rw [IntKind.wrap_i64]; omega
  go_enter Tryd.func35, Tryd.ntmps35
  go_wp2_with fail
  generalize (w.alloc (.cells #[.int .i64 u, .int .i64 m, .int .i64 e] 33)) = W at *
  have s5 := hE.out.size
  have MK : Hid (∀ w' : World, Below W.heap.size W w' → (w'.cell? ⟨w.heap.size, 0, none⟩ = some (.int .i64 u) ∧ w'.cell? ⟨w.heap.size, 1, none⟩ = some (.int .i64 m) ∧ w'.cell? ⟨w.heap.size, 2, none⟩ = some (.int .i64 e)) ∧ Below W.heap.size W w') := fun w' hb => ⟨hT.later hb, hb⟩
  clear hT
  go_region_held3 (fun w' => (w'.cell? ⟨w.heap.size, 0, none⟩ = some (.int .i64 u) ∧ w'.cell? ⟨w.heap.size, 1, none⟩ = some (.int .i64 m) ∧ w'.cell? ⟨w.heap.size, 2, none⟩ = some (.int .i64 e)) ∧ Below W.heap.size W w')
    (first | exact MK.out _ (bstep (by assumption) (sBel (by assumption))) | exact MK.out _ (Below.refl _ _).drew)
    (first | (go_at_call 26; refine (least7_any _ _ _ _).mono ?_; rintro r w3 ⟨rfl, hb3⟩; rw [HQ.out]))
  all_goals
    go_wp2
    go_ret
    exact ⟨rfl, hE.out.trans ((sBel (by assumption)).mono s5)⟩

/-- Is a spring at its least by a through b? -/
def atlB (u m e a b : Int) : Bool := decide ((u - lea u m e) * b ≤ e * a)

set_option maxHeartbeats 2000000 in
set_option maxRecDepth 100000 in
theorem atleast_any (u m e a b : Int) (c : Nat) (w : World) (h0 : 0 ≤ u - lea u m e) (h1 : u - lea u m e ≤ 1048576) (e1 : 1 ≤ e) (e8 : e ≤ 8) (a0 : 0 ≤ a) (a1 : a ≤ 4194304) (b1 : 1 ≤ b) (b32 : b ≤ 32) (hD : Duo w c a b) :
    Calls Tryd.prog 40 #[.agg #[.int .i64 u, .int .i64 m, .int .i64 e], .pointer (some ⟨c, 0, none⟩)] w fun r w' => r = .returned (.bool (atlB u m e a b)) ∧ Below w.heap.size w w' := by
  have hT := Thr.new w u m e 33
  have hE : Hid (Below w.heap.size w (w.alloc (.cells #[.int .i64 u, .int .i64 m, .int .i64 e] 33))) := (Below.refl _ _).alloc (Nat.le_refl _) _
  have hD' := hD.later hE.out
  have HR : Hid (okq (u - lea u m e) e ∧ okq a b) := by
    show _ ∧ _
    unfold okq
    omega
  obtain ⟨q, hq⟩ : ∃ q, sgn ((u - lea u m e) * b) (a * e) = q := ⟨_, rfl⟩
  have HQ : Hid (sgn ((u - lea u m e) * b) (a * e) = q) := hq
  have HZ : Hid (decide (q ≤ 0) = atlB u m e a b) := by
    show _ = _
    rw [← hq]
    unfold atlB sgn
    rw [Int.mul_comm e a]
    generalize (u - lea u m e) * b = x
    generalize a * e = y
    by_cases c1 : x = y
    · simp [c1]
    · by_cases c2 : x < y
      · rw [if_neg c1, if_pos c2, decide_eq_true (show x ≤ y by omega)]; rfl
      · rw [if_neg c1, if_neg c2, decide_eq_false (show ¬ x ≤ y by omega)]; rfl
  have HS : Hid (0 ≤ u - lea u m e ∧ u - lea u m e ≤ 1048576) := ⟨h0, h1⟩
  clear hq hD h0 h1
  go_enter Tryd.func40, Tryd.ntmps40
  go_wp2_with fail
  generalize (w.alloc (.cells #[.int .i64 u, .int .i64 m, .int .i64 e] 33)) = W at *
  have s5 := hE.out.size
  have MK : Hid (∀ w' : World, Below W.heap.size W w' → (w'.cell? ⟨w.heap.size, 0, none⟩ = some (.int .i64 u) ∧ w'.cell? ⟨w.heap.size, 1, none⟩ = some (.int .i64 m) ∧ w'.cell? ⟨w.heap.size, 2, none⟩ = some (.int .i64 e) ∧ w'.cell? ⟨c, 0, none⟩ = some (.int .i64 a) ∧ w'.cell? ⟨c, 1, none⟩ = some (.int .i64 b)) ∧ Below W.heap.size W w') := fun w' hb => ⟨⟨(hT.later hb).1, (hT.later hb).2.1, (hT.later hb).2.2, (hD'.later hb).1, (hD'.later hb).2⟩, hb⟩
  clear hT hD'
  go_region_held3 (fun w' => (w'.cell? ⟨w.heap.size, 0, none⟩ = some (.int .i64 u) ∧ w'.cell? ⟨w.heap.size, 1, none⟩ = some (.int .i64 m) ∧ w'.cell? ⟨w.heap.size, 2, none⟩ = some (.int .i64 e) ∧ w'.cell? ⟨c, 0, none⟩ = some (.int .i64 a) ∧ w'.cell? ⟨c, 1, none⟩ = some (.int .i64 b)) ∧ Below W.heap.size W w')
    (first | exact MK.out _ (bstep (by assumption) (sBel (by assumption))) | exact MK.out _ (Below.refl _ _).drew)
    (first
    | (go_at_call 35; refine (slack7_any _ _ _ _ HS.out.1 HS.out.2).mono ?_; rintro r w3 ⟨rfl, hb3⟩)
    | (go_at_call 41; refine (cmp_yes _ _ _ _ _ HR.out.1.1 HR.out.1.2.1 HR.out.1.2.2.1 HR.out.1.2.2.2 HR.out.2.1 HR.out.2.2.1 HR.out.2.2.2.1 HR.out.2.2.2.2).mono ?_; rintro r w4 ⟨rfl, hb4⟩; rw [HQ.out]))
  all_goals
    go_wp2
    go_ret
    exact ⟨ret_b HZ.out, hE.out.trans ((sBel (by assumption)).mono s5)⟩

/-- How many units a spring has by a through b, rounded down. -/
def hasV (u m e a b : Int) : Int := max (u - cl (a * e) b) (lea u m e)

set_option maxHeartbeats 2000000 in
set_option maxRecDepth 100000 in
theorem has7_any (u m e a b : Int) (c : Nat) (w : World) (u0 : 0 ≤ u) (u1 : u ≤ 1048576) (e0 : 0 ≤ e) (e8 : e ≤ 8) (a0 : 0 ≤ a) (a1 : a ≤ 4194304) (b1 : 1 ≤ b) (b32 : b ≤ 32) (hD : Duo w c a b) :
    Calls Tryd.prog 32 #[.agg #[.int .i64 u, .int .i64 m, .int .i64 e], .pointer (some ⟨c, 0, none⟩)] w fun r w' => r = .returned (.int .i64 (hasV u m e a b)) ∧ Below w.heap.size w w' := by
  have hT := Thr.new w u m e 33
  have hE : Hid (Below w.heap.size w (w.alloc (.cells #[.int .i64 u, .int .i64 m, .int .i64 e] 33))) := (Below.refl _ _).alloc (Nat.le_refl _) _
  obtain ⟨d0, d1⟩ := hD.later hE.out
  have s0 := hD.lt
  have s1 : c < w.heap.size + 1 := by omega
  have p0 : 0 ≤ a * e := Int.mul_nonneg a0 e0
  have p1 : a * e ≤ 33554432 := Int.le_trans (Int.mul_le_mul_of_nonneg_left e8 a0) (by omega)
  have hw : IntKind.i64.wrap (a * e) = a * e := by rw [IntKind.wrap_i64]; omega
  have HR : Hid (okq (a * e) b) := by show _ ∧ _; omega
  obtain ⟨q, hq⟩ : ∃ q, cl (a * e) b = q := ⟨_, rfl⟩
  have HQ : Hid (cl (a * e) b = q) := hq
  have q0 : 0 ≤ q := by rw [← hq]; exact le_cl_of b1 (by rw [Int.zero_sub, Int.neg_one_mul]; omega)
  have q1 : q ≤ 33554432 := by rw [← hq]; exact cl_le_of b1 (by omega)
  have hw2 : IntKind.i64.wrap (u - q) = u - q := by rw [IntKind.wrap_i64]; omega
  obtain ⟨l, hl⟩ : ∃ l, lea u m e = l := ⟨_, rfl⟩
  have HL : Hid (lea u m e = l) := hl
  have HV : Hid (hasV u m e a b = max (u - q) l) := by show _ = _; unfold hasV; rw [hq, hl]
  clear hq hl hD
  go_enter Tryd.func32, Tryd.ntmps32
  go_wp2_with fail
  refine (ceil_yes _ _ _ HR.out.1 HR.out.2.1 HR.out.2.2.1 HR.out.2.2.2).mono ?_
  rintro r w1 ⟨rfl, hb1⟩
  rw [HQ.out]
  have hT1 := hT.later hb1
  have hE1 : Hid (Below w.heap.size w w1) := hE.out.trans (hb1.mono (by simp))
  have s2 := hE1.out.size
  clear hT hE hb1 d0 d1 hw p0 p1 HR HQ
  go_wp2_with fail
  have MK : Hid (∀ w' : World, Below w1.heap.size w1 w' → (w'.cell? ⟨w.heap.size, 0, none⟩ = some (.int .i64 u) ∧ w'.cell? ⟨w.heap.size, 1, none⟩ = some (.int .i64 m) ∧ w'.cell? ⟨w.heap.size, 2, none⟩ = some (.int .i64 e)) ∧ Below w1.heap.size w1 w') := fun w' hb => ⟨hT1.later hb, hb⟩
  clear hT1
  go_region_held3 (fun w' => (w'.cell? ⟨w.heap.size, 0, none⟩ = some (.int .i64 u) ∧ w'.cell? ⟨w.heap.size, 1, none⟩ = some (.int .i64 m) ∧ w'.cell? ⟨w.heap.size, 2, none⟩ = some (.int .i64 e)) ∧ Below w1.heap.size w1 w')
    (first | assumption | exact MK.out _ (bstep (by assumption) (sBel (by assumption))) | exact MK.out _ (Below.refl _ _).drew)
    (first | (go_at_call 26; refine (least7_any _ _ _ _).mono ?_; rintro r w3 ⟨rfl, hb3⟩; rw [HL.out]))
  all_goals go_wp2
  all_goals
    go_ret
    exact ⟨ret_i (by rw [HV.out]; omega), hE1.out.trans ((sBel (by assumption)).mono s2)⟩

theorem has_at (x y : Int) (w : World) :
    Calls Tryd.prog 23 #[.agg #[.int .i64 x, .int .i64 y]] w fun r w' => r = .returned (.func (.func 32) #[] #[.pointer (some ⟨w.heap.size, 0, none⟩)]) ∧ w' = w.alloc (.cells #[.int .i64 x, .int .i64 y] 39) := by
  go_enter Tryd.func23, Tryd.ntmps23
  go_wp2
  go_ret
  exact ⟨rfl, rfl⟩
theorem atleast_at (x y : Int) (w : World) :
    Calls Tryd.prog 36 #[.agg #[.int .i64 x, .int .i64 y]] w fun r w' => r = .returned (.func (.func 40) #[] #[.pointer (some ⟨w.heap.size, 0, none⟩)]) ∧ w' = w.alloc (.cells #[.int .i64 x, .int .i64 y] 39) := by
  go_enter Tryd.func36, Tryd.ntmps36
  go_wp2
  go_ret
  exact ⟨rfl, rfl⟩
end Go.Proofs.YtjiockmphbhljaaDoor
