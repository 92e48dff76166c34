/-
  Package link: which faults are on a way, and see a message.
-/
import Derived.Test.YtndipeipcodidaaGen
import Derived.Test.YtndipeipcodidaaKit2
import Derived.Test.YtndipeipcodidaaAround
import Derived.Test.YtndipeipcodidaaSame
import Derived.BigRegion
import Derived.BigQuiet
import Derived.StillTailTactics
namespace Go.Proofs.Ytndipeipcodidaa.link
open Go.ChangeShapes Go.WideShapes Go.ChangeAt Go.RowKit
set_option linter.unusedVariables false
set_option linter.unusedSimpArgs false

abbrev ptr (p : Nat) : Value := .pointer (some ⟨p, 0, none⟩)
/-- A fault: its kind, from when to when, between whom, and its strength. -/
structure Flt where
  k : Int
  f : Int
  t : Int
  a : Int
  b : Int
  n : Int
abbrev fv (x : Flt) : Value := .agg #[I x.k, I x.f, I x.t, I x.a, I x.b, I x.n]
def way (x : Flt) : Bool := x.k == 1 || x.k == 2 || x.k == 3 || x.k == 4
def thereB (x : Flt) (now : Int) : Bool := decide (x.f ≤ now) && decide (now < x.t)
def touch (x : Flt) (u v : Int) : Bool := (x.a == u && (x.b == v || x.b == -1)) || (x.a == v && (x.b == u || x.b == -1))
def seesB (x : Flt) (now u v : Int) : Bool := thereB x now && touch x u v

theorem onWay_any (k : Int) (w : World) : Calls Try.prog 28 #[.int .i64 k] w fun e w' => e = .returned (.bool (k == 1 || k == 2 || k == 3 || k == 4)) ∧ w = w' := by
  by_cases h1 : k = 1
  · subst h1
    go_enter Try.func28, Try.ntmps28
    go_wp2_with fail
    go_ret
    exact ⟨rfl, rfl⟩
  · have e1 : (k == 1) = false := beq_eq_false_iff_ne.2 h1
    by_cases h2 : k = 2
    · subst h2
      go_enter Try.func28, Try.ntmps28
      go_wp2_with fail
      go_ret
      exact ⟨rfl, rfl⟩
    · have e2 : (k == 2) = false := beq_eq_false_iff_ne.2 h2
      by_cases h3 : k = 3
      · subst h3
        go_enter Try.func28, Try.ntmps28
        go_wp2_with fail
        go_ret
        exact ⟨rfl, rfl⟩
      · have e3 : (k == 3) = false := beq_eq_false_iff_ne.2 h3
        go_enter Try.func28, Try.ntmps28
        go_wp2_with fail
        all_goals
          go_ret
          refine ⟨ret_bool ?_, rfl⟩
          simp_all

theorem there_any (x : Flt) (now : Int) (w : World) : Calls Try.prog 25 #[fv x, .int .i64 now] w fun e w' => e = .returned (.bool (thereB x now)) ∧ Bl w w' := by
  unfold thereB
  by_cases h : x.f ≤ now
  · have e1 : decide (now ≥ x.f) = true := decide_eq_true h
    rw [show decide (x.f ≤ now) = true from decide_eq_true h]
    go_enter Try.func25, Try.ntmps25
    go_wp2_with fail
    all_goals
      go_ret
      refine ⟨ret_bool ?_, (Bl.rfl' _).al _⟩
      first | rfl | simp_all
  · have e1 : decide (now ≥ x.f) = false := decide_eq_false h
    rw [show decide (x.f ≤ now) = false from decide_eq_false h]
    go_enter Try.func25, Try.ntmps25
    go_wp2_with fail
    all_goals
      go_ret
      refine ⟨ret_bool ?_, (Bl.rfl' _).al _⟩
      first | rfl | simp_all

set_option maxHeartbeats 2000000 in
theorem sees_any (x : Flt) (now u v : Int) (w : World) : Calls Try.prog 24 #[fv x, .int .i64 now, .int .i64 u, .int .i64 v] w fun e w' => e = .returned (.bool (seesB x now u v)) ∧ Bl w w' := by
  have T := Lib.hid (fun w => there_any x now w)
  unfold seesB
  obtain ⟨th, hth⟩ : ∃ z, thereB x now = z := ⟨_, rfl⟩
  rw [hth] at T ⊢
  obtain ⟨k, f, t, a, b, n⟩ := x
  unfold touch
  simp only at T ⊢
  obtain ⟨p1, h1⟩ : ∃ z, (a == u) = z := ⟨_, rfl⟩
  obtain ⟨p2, h2⟩ : ∃ z, (a == v) = z := ⟨_, rfl⟩
  obtain ⟨p3, h3⟩ : ∃ z, (b == v) = z := ⟨_, rfl⟩
  obtain ⟨p4, h4⟩ : ∃ z, (b == u) = z := ⟨_, rfl⟩
  obtain ⟨p5, h5⟩ : ∃ z, (b == -1) = z := ⟨_, rfl⟩
  rw [h1, h2, h3, h4, h5]
  have hv : ∀ w1 : World, Bl w w1 → Bl w w1 := fun _ h => h
  have B0 := heap_alloc_new w (.cells #[I k, I f, I t, I a, I b, I n] 55)
  clear hth
  cases th with
  | false =>
    go_enter Try.func24, Try.ntmps24
    go_wp2_with fail
    refine (T.out _).mono ?_
    rintro e w1 ⟨rfl, hb1⟩
    have hbb := ((Bl.rfl' w).al _).tr hb1
    go_wp2_with fail
    go_ret
    exact ⟨rfl, hbb⟩
  | true =>
    cases p1 <;> cases p2 <;> cases p3 <;> cases p4 <;> cases p5
    all_goals
      go_enter Try.func24, Try.ntmps24
      go_wp2_with fail
      refine (T.out _).mono ?_
      rintro e w1 ⟨rfl, hb1⟩
      have hbb := ((Bl.rfl' w).al _).tr hb1
      have hy : w1.heap[w.heap.size]? = _ := (hb1.block _ (lt_of_block B0)).trans B0
      have c3 := cell_at hy 3
      have c4 := cell_at hy 4
      simp only [List.getElem?_toArray, List.getElem?_cons_succ, List.getElem?_cons_zero] at c3 c4
      go_wp2_with fail
      go_ret
      exact ⟨rfl, hbb⟩
end Go.Proofs.Ytndipeipcodidaa.link
