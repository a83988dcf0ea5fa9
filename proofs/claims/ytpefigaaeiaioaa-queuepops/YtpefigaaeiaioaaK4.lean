/- The statement on two lists that are ordered together. -/
import Derived.Test.YtpefigaaeiaioaaK3
namespace Go.Proofs.Ytpefigaaeiaioaa
open Go.RowKit
set_option linter.unusedVariables false

theorem own_later {w w' : World} {B n : Nat} {v : Value} {xs : List Value} (h : w.ownsRow B 24 2 v n xs) (hb : Below w.heap.size w w') : w'.ownsRow B 24 2 v n xs :=
  h.kept (row := none) ⟨hb.os, hb.tape, hb.output, hb.size, fun k hk _ => hb.block k hk⟩ (by cases h : Value.ownBlock v <;> simp)

set_option maxHeartbeats 2000000 in
set_option maxRecDepth 100000 in
theorem law_both (xs ys : List (Int × Int)) (u v : Value) (w : World) (h : Its w u xs) (h' : Its w v ys) :
    Calls Try.prog 7 #[u, v] w fun e w' => e = .returned (.bool true) ∧ Below w.heap.size w w' := by
  have HI : Hid (Its w u xs ∧ Its w v ys) := ⟨h, h'⟩
  obtain ⟨a, cap, rfl, h1, h2, _, _⟩ := h
  obtain ⟨a', cap', rfl, h1', h2', _, _⟩ := h'
  go_enter Try.func7, Try.ntmps7
  go_wp2_with fail
  refine (awake_any _).mono ?_
  rintro e w1 ⟨rfl, hb1⟩
  have HB1 : Hid (Below w.heap.size w w1) := hb1
  clear hb1
  by_cases cx : (xs.length : Int) > 60
  · have cx' : decide ((xs.length : Int) > 60) = true := decide_eq_true cx
    go_wp2_with fail
    go_ret
    exact ⟨rfl, HB1.out⟩
  · have cx' : decide ((xs.length : Int) > 60) = false := decide_eq_false cx
    by_cases cy : (ys.length : Int) > 60
    · have cy' : decide ((ys.length : Int) > 60) = true := decide_eq_true cy
      go_wp2_with fail
      go_ret
      exact ⟨rfl, HB1.out⟩
    · have cy' : decide ((ys.length : Int) > 60) = false := decide_eq_false cy
      go_wp2_with (first
        | (at_builtin; refine append_its rfl _ _ 22 Try.underlying22 rfl w1.heap.size (.slice none 0 0) _ 0 [] xs (by rfl) (World.ownsRow_nil _ _ _ _) (by rfl) (HI.out.1.later HB1.out) (by omega) (Nat.le_refl _) ?_; intro v2 w2 hown2 hb2)
        | (at_builtin; refine append_its rfl _ _ 22 Try.underlying22 rfl w1.heap.size v2 _ (0 + xs.length) ([] ++ xs) ys (by rfl) hown2 (by rfl) (HI.out.2.later (HB1.out.trans (hb2.mono HB1.out.size))) (by omega) hb2.size ?_; intro v3 w3 hown3 hb3))
      rw [List.nil_append] at hown3
      have HI3 : Hid (Its w3 v3 (xs ++ ys)) := (Its.own hown3).1
      have HB3 : Hid (Below w.heap.size w w3) := (HB1.out.trans (hb2.mono HB1.out.size)).trans (hb3.mono HB1.out.size)
      clear hown2 hb2 hown3 hb3 HB1
      refine (sort_any (xs ++ ys) v3 w3 HI3.out (by simp; omega)).mono ?_
      rintro e w4 ⟨v4, rfl, hown4, hb4⟩
      have HI4 : Hid (Its w4 v4 (srt (xs ++ ys))) := (Its.own hown4).1
      have HB4 : Hid (Below w.heap.size w w4) := below_next HB3.out hb4 HB3.out.size
      obtain ⟨a4, cap4, rfl⟩ := HI4.out.form
      have hl4 : (((srt (xs ++ ys)).length : Nat) : Int) = xs.length + ys.length := by rw [srt_len]; simp
      clear hown4 hb4 HB3 HI3
      generalize hs : srt (xs ++ ys) = ss at *
      have HS : Hid (srt (xs ++ ys) = ss) := hs
      clear hs
      go_wp2_with fail
      refine (sort_any ys _ w4 (HI.out.2.later HB4.out) (by omega)).mono ?_
      rintro e w5 ⟨v5, rfl, hown5, hb5⟩
      have HI5 : Hid (Its w5 v5 (srt ys) ∧ Its w5 (.slice a4 ss.length cap4) ss) := ⟨(Its.own hown5).1, HI4.out.later hb5⟩
      have HB5 : Hid (Below w.heap.size w w5) := below_next HB4.out hb5 HB4.out.size
      have hly : (srt ys).length ≤ 60 := by rw [srt_len]; omega
      have hlx : (srt xs).length ≤ 60 := by rw [srt_len]; omega
      clear hown5 hb5 HB4 HI4
      go_wp2_with (first
        | (at_builtin; refine append_its rfl _ _ 22 Try.underlying22 rfl w5.heap.size (.slice none 0 0) _ 0 [] (srt ys) (by rfl) (World.ownsRow_nil _ _ _ _) (by rfl) HI5.out.1 (by omega) (Nat.le_refl _) ?_; intro v6 w6 hown6 hb6))
      have HB6 : Hid (Below w.heap.size w w6) := below_next HB5.out hb6 HB5.out.size
      rw [List.nil_append, Nat.zero_add] at hown6
      have H6 : Hid (w6.ownsRow w5.heap.size 24 2 v6 (srt ys).length (flat (srt ys)) ∧ Its w6 (.slice a4 ss.length cap4) ss) := ⟨hown6, HI5.out.2.later hb6⟩
      have s56 := hb6.size
      have HK6 : Hid (Below w5.heap.size w5 w6 ∧ Its w5 (.slice a4 ss.length cap4) ss) := ⟨hb6, HI5.out.2⟩
      clear hown6 hb6 HI5
      refine (sort_any xs _ w6 (HI.out.1.later HB6.out) (by omega)).mono ?_
      rintro e w7 ⟨v7, rfl, hown7, hb7⟩
      have HB7 : Hid (Below w.heap.size w w7) := below_next HB6.out hb7 HB6.out.size
      have H7 : Hid (w7.ownsRow w5.heap.size 24 2 v6 (srt ys).length (flat (srt ys)) ∧ Its w7 (.slice a4 ss.length cap4) ss ∧ Its w7 v7 (srt xs)) := ⟨own_later H6.out.1 hb7, H6.out.2.later hb7, (Its.own hown7).1⟩
      have s57 : w5.heap.size ≤ w7.heap.size := Nat.le_trans s56 hb7.size
      have HK7 : Hid (Below w5.heap.size w5 w7) := below_next HK6.out.1 hb7 s56
      clear hown7 hb7 HB6 H6 s56
      go_wp2_with (first
        | (at_builtin; refine append_its rfl _ _ 22 Try.underlying22 rfl w5.heap.size v6 _ (srt ys).length (srt ys) (srt xs) (by rfl) H7.out.1 (by rfl) H7.out.2.2 (by omega) s57 ?_; intro v8 w8 hown8 hb8))
      have HK8 : Hid (Below w5.heap.size w5 w8) := HK7.out.trans hb8
      have HB8 : Hid (Below w.heap.size w w8) := HB5.out.trans (HK8.out.mono HB5.out.size)
      have H8 : Hid (Its w8 v8 (srt ys ++ srt xs) ∧ Its w8 (.slice a4 ss.length cap4) ss) := ⟨(Its.own hown8).1, HK6.out.2.later HK8.out⟩
      clear hown8 hb8 HK7 HK6 HK8 HB7 H7
      refine (sort_any _ v8 w8 H8.out.1 (by simp; omega)).mono ?_
      rintro e w9 ⟨v9, rfl, hown9, hb9⟩
      have hsame : srt (srt ys ++ srt xs) = ss := by
        rw [← HS.out]
        exact srt_congr (((srt_perm ys).append (srt_perm xs)).trans List.perm_append_comm)
      rw [hsame] at hown9
      have H9 : Hid (Its w9 v9 ss ∧ Its w9 (.slice a4 ss.length cap4) ss ∧ Below w.heap.size w w9) := ⟨(Its.own hown9).1, H8.out.2.later hb9, below_next HB8.out hb9 HB8.out.size⟩
      have hss : ss.length ≤ 1000 := by omega
      clear hown9 hb9 H8 HB8 hsame
      go_wp2_with fail
      refine (same_eq ss _ v9 w9 H9.out.2.1 H9.out.1 hss).mono ?_
      rintro e w10 ⟨rfl, hb10⟩
      have HB10 : Hid (Below w.heap.size w w10) := below_next H9.out.2.2 hb10 H9.out.2.2.size
      have hl4' : ((ss.length : Int) == (xs.length : Int) + ys.length) = true := by simpa using hl4
      clear hb10
      go_wp2_with fail
      go_ret
      exact ⟨rfl, HB10.out⟩
end Go.Proofs.Ytpefigaaeiaioaa
