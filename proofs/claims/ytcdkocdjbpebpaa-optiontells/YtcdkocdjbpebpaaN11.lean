/- The library's sort: what is scattered. -/
import Derived.Test.YtcdkocdjbpebpaaN10
import Derived.Laws.Closers25b
import Derived.Shelf.Small.Bits
namespace Go.Proofs.Ytcdkocdjbpebpaa
open Go.RowKit Go.Shelf
open Go.Sort (SWO swp HoldsK putRowK PermIn SortedIn)

/-- A variable of 64 bits. -/
def Xor (P : Nat) (w : World) (x : Int) : Prop := w.cell? ⟨P, 0, none⟩ = some (.int .u64 x) ∧ w.frozen? ⟨P, 0, none⟩ = false
theorem Xor.put {P : Nat} {w : World} {x : Int} (h : Xor P w x) (v : Int) : Xor P (w.setCell ⟨P, 0, none⟩ (.int .u64 v)).drew v :=
  ⟨World.cell?_setCell_same _ _ _ h.1, (by simpa using h.2 : (w.setCell ⟨P, 0, none⟩ (.int .u64 v)).frozen? ⟨P, 0, none⟩ = false)⟩
def NextE (P : Nat) (w : World) (e : Ending) (w' : World) : Prop := ∃ v : Int, 0 ≤ v ∧ v ≤ 18446744073709551615 ∧ e = .returned (.int .u64 v) ∧ Xor P w' v ∧ Kpt P w w'

set_option maxHeartbeats 2000000 in
set_option maxRecDepth 100000 in
theorem next_any (P : Nat) (x : Int) (w : World) (h : Xor P w x) :
    Calls Try.prog 97 #[.pointer (some ⟨P, 0, none⟩)] w (NextE P w) := by
  have HX0 : Hid (Xor P w x ∧ Kpt P w w) := ⟨h, Kpt.refl _ _⟩
  obtain ⟨c0, c1⟩ := h
  go_enter Try.func97, Try.ntmps97
  go_wp2_with fail
  go_region
  obtain ⟨v1, hv1⟩ : ∃ v, bits .xor .u64 x (IntKind.u64.wrap (x * 8192)) = v := ⟨_, rfl⟩
  rw [hv1]
  have b1 : 0 ≤ v1 ∧ v1 ≤ 18446744073709551615 := hv1 ▸ bits_within _ .u64 _ _
  obtain ⟨w1, hw1⟩ : ∃ y, (w.setCell ⟨P, 0, none⟩ (.int .u64 v1)).drew = y := ⟨_, rfl⟩
  rw [hw1]
  have HX1 : Hid (Xor P w1 v1 ∧ Kpt P w w1) := hw1 ▸ ⟨Xor.put HX0.out.1 _, (HX0.out.2.set 0 _).trans (Kpt.of (Below.refl _ _).drew)⟩
  clear c0 c1 hv1 hw1
  obtain ⟨c0, c1⟩ := HX1.out.1
  go_wp2_with fail
  go_region
  obtain ⟨v2, hv2⟩ : ∃ v, bits .xor .u64 v1 (v1 / 128) = v := ⟨_, rfl⟩
  rw [hv2]
  have b2 : 0 ≤ v2 ∧ v2 ≤ 18446744073709551615 := hv2 ▸ bits_within _ .u64 _ _
  obtain ⟨w2, hw2⟩ : ∃ y, (w1.setCell ⟨P, 0, none⟩ (.int .u64 v2)).drew = y := ⟨_, rfl⟩
  rw [hw2]
  have HX2 : Hid (Xor P w2 v2 ∧ Kpt P w w2) := hw2 ▸ ⟨Xor.put HX1.out.1 _, (HX1.out.2.set 0 _).trans (Kpt.of (Below.refl _ _).drew)⟩
  clear c0 c1 hv2 hw2
  obtain ⟨c0, c1⟩ := HX2.out.1
  go_wp2_with fail
  go_region
  obtain ⟨v3, hv3⟩ : ∃ v, bits .xor .u64 v2 (IntKind.u64.wrap (v2 * 131072)) = v := ⟨_, rfl⟩
  rw [hv3]
  have b3 : 0 ≤ v3 ∧ v3 ≤ 18446744073709551615 := hv3 ▸ bits_within _ .u64 _ _
  obtain ⟨w3, hw3⟩ : ∃ y, (w2.setCell ⟨P, 0, none⟩ (.int .u64 v3)).drew = y := ⟨_, rfl⟩
  rw [hw3]
  have HX3 : Hid (Xor P w3 v3 ∧ Kpt P w w3) := hw3 ▸ ⟨Xor.put HX2.out.1 _, (HX2.out.2.set 0 _).trans (Kpt.of (Below.refl _ _).drew)⟩
  clear c0 c1 hv3 hw3
  obtain ⟨c0, c1⟩ := HX3.out.1
  go_wp2
  go_ret
  exact ⟨v3, b3.1, b3.2, rfl, HX3.out.1, HX3.out.2⟩

theorem laid_bits : Lays.n125 Try.prog ⟨fun k => match k with | 125 => 46 | 128 => 64 | 129 => 65 | _ => 0, fun k => match k with | 3 => 3 | 4 => 4 | 5 => 5 | 9 => 9 | 46 => 61 | 51 => 90 | 53 => 29 | _ => 0, fun _ => 0⟩ where
  mixed := by kernel_rfl
  f125 := by kernel_rfl
  f128 := by kernel_rfl
  f129 := by kernel_rfl
  t3 := by kernel_rfl
  a3 := fun _ => by kernel_rfl
  z3 := fun _ => by kernel_rfl
  v3 := fun _ => by kernel_rfl
  t4 := by kernel_rfl
  a4 := fun _ => by kernel_rfl
  z4 := fun _ => by kernel_rfl
  v4 := fun _ => by kernel_rfl
  t5 := by kernel_rfl
  a5 := fun _ => by kernel_rfl
  z5 := fun _ => by kernel_rfl
  v5 := fun _ => by kernel_rfl
  t9 := by kernel_rfl
  a9 := fun _ => by kernel_rfl
  z9 := fun _ => by kernel_rfl
  v9 := fun _ => by kernel_rfl
  t46 := by kernel_rfl
  a46 := fun _ => by kernel_rfl
  z46 := fun _ => by kernel_rfl
  v46 := fun _ => by kernel_rfl
  t51 := by kernel_rfl
  a51 := fun _ => by kernel_rfl
  z51 := fun _ => by kernel_rfl
  v51 := fun _ => by kernel_rfl
  t53 := by kernel_rfl
  a53 := fun _ => by kernel_rfl
  z53 := fun _ => by kernel_rfl
  v53 := fun _ => by kernel_rfl
theorem len_any (x : Nat) (w : World) (h : x ≤ 1000) : Calls Try.prog 46 #[.int .u64 x] w fun e w' => e = .returned (.int .i64 (Go.Lib.bitLen x)) ∧ w' = w :=
  Any.bits_Len laid_bits x w (by omega) (by omega)
end Go.Proofs.Ytcdkocdjbpebpaa
