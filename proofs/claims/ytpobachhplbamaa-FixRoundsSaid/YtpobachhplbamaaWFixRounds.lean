/-
  FixRounds is true for every input: Down and Up of a made number by a made one above 0 bound the quotient, are a whole number apart at most, and mirror each other. No condition.
-/
import Derived.Test.YtpobachhplbamaaLives01
namespace Go.Proofs.Ytpobachhplbamaa.fixRounds
open Go.ChangeShapes Go.WideShapes Go.ChangeAt Go.RowKit
set_option linter.unusedVariables false
set_option linter.unusedSimpArgs false

theorem facts (x y : Int) (hy : 0 < y) : ∃ d u P Q, x / y = d ∧ M.up x y = u ∧ d * y = P ∧ u * y = Q ∧ (d + 1) * y = P + y ∧ (u - 1) * y = Q - y ∧ P ≤ x ∧ x < P + y ∧ x ≤ Q ∧ Q - y < x ∧ (u = d ∧ P = x ∧ Q = x ∨ u = d + 1 ∧ P ≠ x) ∧ M.up (-x) y = -d := by
  have e := Int.mul_ediv_add_emod x y
  have h0 := Int.emod_nonneg x (show y ≠ 0 by omega)
  have h1 := Int.emod_lt_of_pos x hy
  have hu := M.up_of x y hy
  have hc := Int.mul_comm y (x / y)
  have hn : M.up (-x) y = -(x / y) := by unfold M.up; rw [Int.neg_neg]
  refine ⟨x / y, M.up x y, x / y * y, M.up x y * y, rfl, rfl, rfl, rfl, by rw [Int.add_mul]; omega, by rw [Int.sub_mul]; omega, by omega, by omega, ?_, ?_, ?_, hn⟩
  all_goals (by_cases h : x % y = 0 <;> simp only [h, if_true, if_false] at hu <;> rw [hu])
  all_goals (try rw [Int.add_mul])
  all_goals omega

set_option maxHeartbeats 1000000 in
theorem walk (a0 : Int) (l0 : -9223372036854775808 ≤ a0) (u0 : a0 ≤ 9223372036854775807) (a1 : Int) (l1 : -9223372036854775808 ≤ a1) (u1 : a1 ≤ 9223372036854775807) (w : World) :
    Calls Try.prog 4 #[.int .i64 a0, .int .i64 a1] w fun e w' => e = .returned (.bool true) ∧ Bl w w' := by
  obtain ⟨p, hp⟩ : ∃ p, around a0 2199023255552 = p := ⟨_, rfl⟩
  obtain ⟨q, hq⟩ : ∃ q, around a1 1048576 = q := ⟨_, rfl⟩
  have p0 := around_lo a0 2199023255552 (by omega); have p1 := around_hi a0 2199023255552 (by omega)
  have q0 := around_lo a1 1048576 (by omega); have q1 := around_hi a1 1048576 (by omega)
  rw [hp] at p0 p1; rw [hq] at q0 q1
  have A0 := fun w => around_any a0 2199023255552 w l0 u0 (by omega) (by omega)
  have A1 := fun w => around_any a1 1048576 w l1 u1 (by omega) (by omega)
  rw [hp] at A0; rw [hq] at A1
  have A0 := Lib.hid A0; have A1 := Lib.hid A1
  clear hp hq
  obtain ⟨x, hx⟩ : ∃ x, p - 1099511627776 = x := ⟨_, rfl⟩
  obtain ⟨y, hy⟩ : ∃ y, 1 + q = y := ⟨_, rfl⟩
  have x0 : -1099511627776 ≤ x := by omega
  have x1 : x < 1099511627776 := by omega
  have y0 : 0 < y := by omega
  have y1 : y ≤ 1048576 := by omega
  obtain ⟨d, u, P, Q, hd, hu, hP, hQ, hP1, hQ1, c1, c2, c3, c4, c5, c6⟩ := facts x y y0
  have D := fun w => down_any x y w (by omega) (by omega) y0 (by omega)
  have U := fun w => up_any x y w (by omega) (by omega) y0 (by omega)
  have V := fun w => up_any (-x) y w (by omega) (by omega) y0 (by omega)
  rw [hd] at D; rw [hu] at U; rw [c6] at V
  have D := Lib.hid D; have U := Lib.hid U; have V := Lib.hid V
  clear hd hu c6
  have d0 : -1099511627776 ≤ d ∧ d ≤ 1099511627776 := by
    constructor
    · rcases Int.lt_or_le d (-1099511627776) with h | h
      · have : (d + 1) * y ≤ -1099511627776 * y := Int.mul_le_mul_of_nonneg_right (by omega) (by omega)
        omega
      · exact h
    · rcases Int.lt_or_le 1099511627776 d with h | h
      · have : 1099511627776 * y ≤ d * y := Int.mul_le_mul_of_nonneg_right (by omega) (by omega)
        omega
      · exact h
  have u2 : -1099511627776 ≤ u ∧ u ≤ 1099511627777 := by omega
  obtain ⟨d0, d1⟩ := d0
  obtain ⟨u2, u3⟩ := u2
  have key : ((u == d) == (P == x)) = true := by
    rcases c5 with ⟨h1, h2, _⟩ | ⟨h1, h2⟩
    · rw [h1, h2]; simp
    · rw [show (u == d) = false from beq_eq_false_iff_ne.2 (by omega), show (P == x) = false from beq_eq_false_iff_ne.2 h2]; rfl
  have k2 : decide (u - d ≤ 1) = true := by simp; omega
  have k3 : decide (x < P) = false := by simp; omega
  have k4 : decide (Q < x) = false := by simp; omega
  have k5 : decide (P + y ≤ x) = false := by simp; omega
  have k6 : decide (x ≤ Q - y) = false := by simp; omega
  clear c5
  go_enter Try.func4, Try.ntmps4
  go_wp2_with fail
  refine (A0.out _).mono ?_
  rintro e w' ⟨rfl, rfl⟩
  go_wp2_with fail
  refine (A1.out _).mono ?_
  rintro e w' ⟨rfl, rfl⟩
  go_wp2_with fail
  refine (D.out _).mono ?_
  rintro e w' ⟨rfl, rfl⟩
  go_wp2_with fail
  refine (U.out _).mono ?_
  rintro e w' ⟨rfl, rfl⟩
  go_wp2_with fail
  refine (V.out _).mono ?_
  rintro e w' ⟨rfl, rfl⟩
  go_wp2_with fail
  refine (lives01 _).mono ?_
  rintro e w' ⟨rfl, hb⟩
  go_wp2_with fail
  go_ret
  exact ⟨rfl, hb⟩

end Go.Proofs.Ytpobachhplbamaa.fixRounds
