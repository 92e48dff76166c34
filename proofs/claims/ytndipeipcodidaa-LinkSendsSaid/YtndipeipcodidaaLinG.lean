/-
  The statements' faults, made of numbers.
-/
import Derived.Test.YtndipeipcodidaaLinF
namespace Go.Proofs.Ytndipeipcodidaa.link
open Go.ChangeShapes Go.WideShapes Go.ChangeAt Go.RowKit
set_option linter.unusedVariables false
set_option linter.unusedSimpArgs false

theorem some_any (n : Int) (w : World) (h1 : -9223372036854775808 ≤ n) (h2 : n ≤ 9223372036854775807) :
    Calls Try.prog 16 #[.int .i64 n] w fun e w' => (∃ s, e = .returned (I s) ∧ 0 ≤ s ∧ s ≤ 202) ∧ w = w' := by
  have A0 := fun w => around_any n 15 w h1 h2 (by omega) (by omega)
  have a0 := around_lo n 15 (by omega); have a1 := around_hi n 15 (by omega)
  obtain ⟨k, hk⟩ : ∃ z, around n 15 = z := ⟨_, rfl⟩
  rw [hk] at A0 a0 a1
  replace A0 := Lib.hid A0
  clear hk
  go_enter Try.func16, Try.ntmps16
  go_wp2_with fail
  refine (A0.out _).mono ?_
  rintro e w' ⟨rfl, rfl⟩
  go_wp2_with fail
  all_goals
    go_ret
    exact ⟨⟨_, rfl, by omega, by omega⟩, rfl⟩
theorem way_any (k : Int) (w : World) : Calls Try.prog 27 #[.int .i64 k] w fun e w' => e = .returned (.bool (k == 1 || k == 2 || k == 3 || k == 4)) ∧ w = w' := by
  by_cases h1 : k = 1
  · subst h1
    go_enter Try.func27, Try.ntmps27
    go_wp2_with fail
    go_ret
    exact ⟨rfl, rfl⟩
  · have e1 : (k == 1) = false := beq_eq_false_iff_ne.2 h1
    by_cases h2 : k = 2
    · subst h2
      go_enter Try.func27, Try.ntmps27
      go_wp2_with fail
      go_ret
      exact ⟨rfl, rfl⟩
    · have e2 : (k == 2) = false := beq_eq_false_iff_ne.2 h2
      by_cases h3 : k = 3
      · subst h3
        go_enter Try.func27, Try.ntmps27
        go_wp2_with fail
        go_ret
        exact ⟨rfl, rfl⟩
      · have e3 : (k == 3) = false := beq_eq_false_iff_ne.2 h3
        go_enter Try.func27, Try.ntmps27
        go_wp2_with fail
        all_goals
          go_ret
          refine ⟨ret_bool ?_, rfl⟩
          simp_all

/-- A fault that may be. -/
def okG (x : Flt) : Prop := (0 ≤ x.n ∧ x.n ≤ 4) ∧ (way x = true → x.k ≠ 4 → 1 ≤ x.n) ∧ (0 ≤ x.t ∧ x.t ≤ 400)
theorem okG.f {x : Flt} (h : okG x) : okF x := ⟨h.1.1, by have := h.1.2; omega⟩

set_option maxHeartbeats 8000000 in
set_option maxRecDepth 20000 in
theorem fault_any (n : Int) (w : World) (h1 : -9223372036854775808 ≤ n) (h2 : n ≤ 9223372036854775807) :
    Calls Try.prog 21 #[.int .i64 n] w fun e w' => (∃ x, e = .returned (fv x) ∧ okG x) ∧ Bl w w' := by
  have A0 := fun w => around_any n 100000000 w h1 h2 (by omega) (by omega)
  have a0 := around_lo n 100000000 (by omega); have a1 := around_hi n 100000000 (by omega)
  obtain ⟨s, hs⟩ : ∃ z, around n 100000000 = z := ⟨_, rfl⟩
  rw [hs] at A0 a0 a1
  replace A0 := Lib.hid A0
  clear hs
  obtain ⟨k, hk⟩ : ∃ z, 1 + s % 10 = z := ⟨_, rfl⟩
  have k0 : 1 ≤ k := by omega
  have k1 : k ≤ 10 := by omega
  obtain ⟨f, hf⟩ : ∃ z, s / 10 % 200 = z := ⟨_, rfl⟩
  have f0 : 0 ≤ f := by omega
  have f1 : f ≤ 199 := by omega
  obtain ⟨g, hg⟩ : ∃ z, s / 2000 % 100 = z := ⟨_, rfl⟩
  have g0 : 0 ≤ g := by omega
  have g1 : g ≤ 99 := by omega
  obtain ⟨j, hj⟩ : ∃ z, s / 200000 = z := ⟨_, rfl⟩
  have j0 : 0 ≤ j := by omega
  have j1 : j ≤ 500 := by omega
  go_enter Try.func21, Try.ntmps21
  go_wp2_with fail
  refine (A0.out _).mono ?_
  rintro e w' ⟨rfl, rfl⟩
  go_wp2_with fail
  simp only [hj]
  clear hk hf hg hj a0 a1 A0
  obtain ⟨t, ht⟩ : ∃ z, f + 1 + g = z := ⟨_, rfl⟩
  have t0 : 0 ≤ t := by omega
  have t1 : t ≤ 400 := by omega
  rw [ht]
  clear ht
  obtain ⟨m, hm⟩ : ∃ z, (k == 1 || k == 2 || k == 3 || k == 4) = z := ⟨_, rfl⟩
  have hB : ∀ (y1 y2 : List Value), Bl w ((w.alloc (.cells y1.toArray 40)).alloc (.cells y2.toArray 40)) := fun _ _ => ((Bl.rfl' w).al _).al _
  replace hB := Lib.hid hB
  have W := way_any k
  rw [hm] at W
  refine (W _).mono ?_
  rintro e w' ⟨rfl, rfl⟩
  clear W
  replace hm := Lib.hid hm
  have SA := Lib.hid some_any
  cases m with
  | true =>
    have hwy : ∀ f t a b n, way ⟨k, f, t, a, b, n⟩ = true := fun f t a b n => hm.out
    replace hwy := Lib.hid hwy
    go_wp2_with fail
    refine (SA.out j _ (by omega) (by omega)).mono ?_
    rintro e w1 ⟨⟨s1, rfl, p0, p1⟩, rfl⟩
    go_wp2_with fail
    refine (SA.out _ _ (by omega) (by omega)).mono ?_
    rintro e w1 ⟨⟨s2, rfl, p2, p3⟩, rfl⟩
    go_wp2_with fail
    all_goals
      apply bodyPost_ret
      · simp only [results, Try.results21]
        simp [go_sem]
        rfl
      · rfl
      · exact ⟨⟨⟨_, _, _, _, _, _⟩, rfl, ⟨by simp only; omega, by simp only; omega⟩, fun _ h => by simp only at h ⊢; first | omega | (simp_all; done), by simp only; omega, by simp only; omega⟩, by first | exact hB.out [_, _, _, _, _, _] [_, _, _, _, _, _]⟩
  | false =>
    go_wp2_with fail
    all_goals
      apply bodyPost_ret
      · simp only [results, Try.results21]
        simp [go_sem]
        rfl
      · rfl
      · exact ⟨⟨⟨_, _, _, _, _, _⟩, rfl, ⟨by simp only; omega, by simp only; omega⟩, fun h => by have := hm.out; (simp [way] at h this) <;> omega, by simp only; omega, by simp only; omega⟩, by exact hB.out [_, _, _, _, _, _] [_, _, _, _, _, _]⟩
end Go.Proofs.Ytndipeipcodidaa.link
