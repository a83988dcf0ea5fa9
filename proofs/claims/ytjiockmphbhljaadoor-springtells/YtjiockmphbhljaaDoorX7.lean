/- Walks of package spring: Force and Press; the document's example. -/
import Derived.Test.YtjiockmphbhljaaDoorX6
namespace Go.Proofs.YtjiockmphbhljaaDoor
open Go.RowKit

theorem roomB_of {n : Nat} {u m e : Nat → Int} {load : Int} (h : roomB n u m e load = true) : fitS n u m e ∧ (0 ≤ load ∧ load ≤ 1099511627776) ∧ sm n (lo7 u m e) ≤ load := by
  unfold roomB at h
  rw [Bool.and_eq_true, Bool.and_eq_true] at h
  exact ⟨sprB_of h.1, of_decide_eq_true (show decide (0 ≤ load ∧ load ≤ 1099511627776) = true from h.2.1), of_decide_eq_true h.2.2⟩
theorem roomB_yes {n : Nat} {u m e : Nat → Int} {load : Int} (h : fitS n u m e) (h0 : 0 ≤ load) (h1 : load ≤ 1099511627776) (h2 : sm n (lo7 u m e) ≤ load) : roomB n u m e load = true := by
  unfold roomB
  rw [sprB_yes h, decide_eq_true h2]
  have : wiB load 0 1099511627776 = true := decide_eq_true ⟨h0, h1⟩
  rw [this]; rfl

/-- The force: 0 and 0, if there is no room. -/
def Frc (n : Nat) (u m e : Nat → Int) (load a b : Int) (rb : Bool) : Prop := roomB n u m e load = rb ∧ (rb = true → IsF n u (lo7 u m e) e load a b) ∧ (rb = false → a = 0 ∧ b = 0)
theorem frc_exists (n : Nat) (u m e : Nat → Int) (load : Int) : ∃ a b rb, Frc n u m e load a b rb := by
  cases h : roomB n u m e load
  · exact ⟨0, 0, false, h, (fun h => by cases h), fun _ => ⟨rfl, rfl⟩⟩
  · obtain ⟨h1, _, h2⟩ := roomB_of h
    obtain ⟨a, b, hF, _⟩ := isF_exists h1.sp h2
    exact ⟨a, b, true, h, fun _ => hF, fun h => by cases h⟩
theorem Frc.one {n : Nat} {u m e : Nat → Int} {load a b a' b' : Int} {rb rb' : Bool} (h : Frc n u m e load a b rb) (h' : Frc n u m e load a' b' rb') : a = a' ∧ b = b' ∧ rb = rb' := by
  obtain ⟨h1, h2, h3⟩ := h
  obtain ⟨h1', h2', h3'⟩ := h'
  obtain rfl := h1.symm.trans h1'
  cases rb
  · obtain ⟨rfl, rfl⟩ := h3 rfl; obtain ⟨rfl, rfl⟩ := h3' rfl; exact ⟨rfl, rfl, rfl⟩
  · obtain ⟨rfl, rfl⟩ := (h2 rfl).one (h2' rfl); exact ⟨rfl, rfl, rfl⟩

set_option maxHeartbeats 1000000 in
set_option maxRecDepth 100000 in
theorem force7_any (n : Nat) (u m e : Nat → Int) (load a b : Int) (rb : Bool) (v : Value) (w : World) (h : Sprs w v n u m e) (hF : Frc n u m e load a b rb) (hL : Lim w) :
    Calls Tryd.prog 9 #[v, .int .i64 load] w fun r w' => r = .returned (.tuple #[.int .i64 a, .int .i64 b, .bool rb]) ∧ Below w.heap.size w w' := by
  obtain ⟨hr, hy, hn⟩ := hF
  have HR : Hid (roomB n u m e load = rb) := hr
  cases rb
  · obtain ⟨rfl, rfl⟩ := hn rfl
    clear hr hy hn
    go_enter Tryd.func9, Tryd.ntmps9
    go_wp2_with fail
    refine (room7_any n u m e load v _ h hL).mono ?_
    rintro r w1 ⟨rfl, hb1⟩
    rw [HR.out]
    go_wp2
    exact bodyPost_ret (v := .tuple #[.int .i64 0, .int .i64 0, .bool false]) (by simp [results, Tryd.results9, go_sem]) rfl ⟨rfl, hb1⟩
  · have HF : Hid (IsF n u (lo7 u m e) e load a b) := hy rfl
    obtain ⟨hS, ⟨l0, l1⟩, hm⟩ := roomB_of hr
    clear hr hy hn
    have HM : Hid (sm n (lo7 u m e) ≤ load) := hm
    clear hm
    go_enter Tryd.func9, Tryd.ntmps9
    go_wp2_with fail
    refine (room7_any n u m e load v _ h hL).mono ?_
    rintro r w1 ⟨rfl, hb1⟩
    rw [HR.out]
    go_wp2_with fail
    refine (leastForce_any n u m e load a b v _ (h.later hb1) hS HM.out l0 l1 HF.out (hL.later hb1)).mono ?_
    rintro r w2 ⟨rfl, hb2⟩
    have hb : Below w.heap.size w w2 := hb1.trans (hb2.mono hb1.size)
    have hs := hb.size
    clear hb1 hb2
    go_wp2_with fail
    go_quiet (fail)
    go_wp2
    exact bodyPost_ret (v := .tuple #[.int .i64 a, .int .i64 b, .bool true]) (by simp [results, Tryd.results9, go_sem]) rfl ⟨rfl, by have h2 := hb.alloc hs (.cells #[.int .i64 a, .int .i64 b] 39); exact ⟨h2.os, h2.tape, h2.output, h2.size, h2.block⟩⟩

/-- What Press tells. -/
def prs7 (n : Nat) (u m e : Nat → Int) (a b : Int) (rb : Bool) : List Int := bif rb then lst7 n (fun i => hasV (u i) (m i) (e i) a b) else []
def PrsE (B : Nat) (xs : List Int) (rb : Bool) (w : World) (r : Ending) (w' : World) : Prop :=
  ∃ x, r = .returned (.tuple #[x, .bool rb]) ∧ w'.ownsRow B 3 1 x xs.length (ivs xs) ∧ Below B w w'

set_option maxHeartbeats 1000000 in
set_option maxRecDepth 100000 in
theorem press7_any (n : Nat) (u m e : Nat → Int) (load a b : Int) (rb : Bool) (v : Value) (w : World) (h : Sprs w v n u m e) (hF : Frc n u m e load a b rb) (hL : Lim w) :
    Calls Tryd.prog 11 #[v, .int .i64 load] w (PrsE w.heap.size (prs7 n u m e a b rb) rb w) := by
  obtain ⟨hr, hy, hn⟩ := hF
  have HR : Hid (roomB n u m e load = rb) := hr
  cases rb
  · clear hr hy hn
    go_enter Tryd.func11, Tryd.ntmps11
    go_wp2_with fail
    refine (room7_any n u m e load v _ h hL).mono ?_
    rintro r w1 ⟨rfl, hb1⟩
    rw [HR.out]
    go_wp2
    exact bodyPost_ret (v := .tuple #[.slice none 0 0, .bool false]) (by simp [results, Tryd.results11, go_sem]) rfl ⟨_, rfl, ⟨rfl, .inl ⟨rfl, rfl⟩⟩, hb1⟩
  · have HF : Hid (IsF n u (lo7 u m e) e load a b) := hy rfl
    obtain ⟨hS, ⟨l0, l1⟩, hm⟩ := roomB_of hr
    clear hr hy hn
    have HM : Hid (sm n (lo7 u m e) ≤ load) := hm
    clear hm
    go_enter Tryd.func11, Tryd.ntmps11
    go_wp2_with fail
    refine (room7_any n u m e load v _ h hL).mono ?_
    rintro r w1 ⟨rfl, hb1⟩
    rw [HR.out]
    go_wp2_with fail
    refine (leastForce_any n u m e load a b v _ (h.later hb1) hS HM.out l0 l1 HF.out (hL.later hb1)).mono ?_
    rintro r w2 ⟨rfl, hb2⟩
    have hb : Below w.heap.size w w2 := hb1.trans (hb2.mono hb1.size)
    have hs := hb.size
    clear hb1 hb2
    go_wp2_with fail
    refine (has_at a b _).mono ?_
    rintro r w3 ⟨rfl, rfl⟩
    have hb3 : Below w.heap.size w (w2.alloc (.cells #[.int .i64 a, .int .i64 b] 39)) := hb.alloc hs _
    have hs3 := hb3.size
    go_wp2_with fail
    refine (each_has n u m e v _ a b w2.heap.size HF.out.a0 HF.out.abig HF.out.b1 HF.out.b32 (Duo.new _ _ _ _) hS (h.later hb3) hS.1).mono ?_
    rintro r w4 ⟨x, rfl, hown, hb4⟩
    go_wp2
    refine bodyPost_ret (v := .tuple #[x, .bool true]) (by simp [results, Tryd.results11, go_sem]) rfl ⟨x, rfl, ?_, hb3.trans (hb4.mono hs3)⟩
    have ho := hown.1
    rcases hown.2 with hz | ⟨g, cap, cur, hv, hg, hh⟩
    · exact ⟨ho, .inl hz⟩
    · exact ⟨ho, .inr ⟨g, cap, cur, hv, Nat.le_trans hs3 hg, hh⟩⟩
end Go.Proofs.YtjiockmphbhljaaDoor
