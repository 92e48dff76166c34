/-
  Plain lemmas on the long division of 128 bits by 64 (Knuth's step, digit by digit of 32 bits).
-/
namespace Go.Proofs.Ytpobachhplbamaa.M
set_option linter.unusedVariables false

/-- One digit's estimate: what holds of (q, rhat) all the while. -/
structure Est (u y1 y0 d q r : Int) : Prop where
  e : q * y1 + r = u
  q0 : 0 ≤ q
  q1 : q ≤ 4294967297
  r0 : 0 ≤ r
  r1 : r < 4294967296
  ge : (u * 4294967296 + d) / (y1 * 4294967296 + y0) ≤ q

theorem est_start {u y1 y0 d : Int} (hy1 : 2147483648 ≤ y1) (hy1' : y1 < 4294967296) (hy0 : 0 ≤ y0) (hy0' : y0 < 4294967296) (hd : 0 ≤ d) (hd' : d < 4294967296) (hu : 0 ≤ u) (hu' : u < y1 * 4294967296 + y0) :
    Est u y1 y0 d (u / y1) (u - u / y1 * y1) := by
  have hp : 0 < y1 := by omega
  have e := Int.mul_ediv_add_emod u y1
  have m0 := Int.emod_nonneg u (show y1 ≠ 0 by omega)
  have m1 := Int.emod_lt_of_pos u hp
  have c := Int.mul_comm y1 (u / y1)
  refine ⟨by omega, Int.ediv_nonneg hu (by omega), ?_, by omega, by omega, ?_⟩
  · have : u / y1 < 4294967298 := Int.ediv_lt_of_lt_mul hp (by omega)
    omega
  · have hq : u < (u / y1 + 1) * y1 := by rw [Int.add_mul]; omega
    apply Int.le_of_lt_add_one
    apply Int.ediv_lt_of_lt_mul (by omega)
    have h1 : (u / y1 + 1) * (y1 * 4294967296 + y0) = ((u / y1 + 1) * y1) * 4294967296 + (u / y1 + 1) * y0 := by rw [Int.mul_add, ← Int.mul_assoc]
    have h2 : 0 ≤ (u / y1 + 1) * y0 := Int.mul_nonneg (by have := Int.ediv_nonneg hu (Int.le_of_lt hp); omega) hy0
    omega

theorem est_lt {u y1 y0 d : Int} (hy1 : 2147483648 ≤ y1) (hy0 : 0 ≤ y0) (hd : 0 ≤ d) (hd' : d < 4294967296) (hu : 0 ≤ u) (hu' : u < y1 * 4294967296 + y0) :
    0 ≤ (u * 4294967296 + d) / (y1 * 4294967296 + y0) ∧ (u * 4294967296 + d) / (y1 * 4294967296 + y0) < 4294967296 := by
  refine ⟨Int.ediv_nonneg (by omega) (by omega), Int.ediv_lt_of_lt_mul (by omega) ?_⟩
  generalize y1 * 4294967296 + y0 = y at *
  omega

/-- The estimate is one less, where it is too great. -/
theorem est_step {u y1 y0 d q r : Int} (hy1 : 2147483648 ≤ y1) (hy0 : 0 ≤ y0) (hd : 0 ≤ d) (hd' : d < 4294967296) (hu : 0 ≤ u) (hu' : u < y1 * 4294967296 + y0)
    (h : Est u y1 y0 d q r) (hb : 4294967296 ≤ q ∨ 4294967296 * r + d < q * y0) : (u * 4294967296 + d) / (y1 * 4294967296 + y0) ≤ q - 1 ∧ 1 ≤ q := by
  have hl := est_lt hy1 hy0 hd hd' hu hu'
  have hg := h.ge
  have e := h.e
  rcases hb with hb | hb
  · omega
  · have : (u * 4294967296 + d) / (y1 * 4294967296 + y0) < q := by
      apply Int.ediv_lt_of_lt_mul (by omega)
      have h1 : q * (y1 * 4294967296 + y0) = (q * y1) * 4294967296 + q * y0 := by rw [Int.mul_add, ← Int.mul_assoc]
      omega
    omega

/-- Where it is not too great it is the digit. -/
theorem est_stop {u y1 y0 d q r : Int} (hy1 : 2147483648 ≤ y1) (hy0 : 0 ≤ y0) (e : q * y1 + r = u) (ge : (u * 4294967296 + d) / (y1 * 4294967296 + y0) ≤ q) (h : q * y0 ≤ 4294967296 * r + d) :
    q = (u * 4294967296 + d) / (y1 * 4294967296 + y0) := by
  have : q ≤ (u * 4294967296 + d) / (y1 * 4294967296 + y0) := by
    rw [Int.le_ediv_iff_mul_le (by omega)]
    have h1 : q * (y1 * 4294967296 + y0) = (q * y1) * 4294967296 + q * y0 := by rw [Int.mul_add, ← Int.mul_assoc]
    omega
  omega

theorem mul_le_of {q y : Int} (h0 : 0 ≤ q) (h : q ≤ 4294967296) (hy0 : 0 ≤ y) (hy : y < 4294967296) : 0 ≤ q * y ∧ q * y ≤ 18446744069414584320 := by
  refine ⟨Int.mul_nonneg h0 hy0, ?_⟩
  calc q * y ≤ 4294967296 * 4294967295 := Int.mul_le_mul h (by omega) hy0 (by omega)
    _ = 18446744069414584320 := by omega

theorem est_out {u y1 y0 d q r : Int} (hy1 : 2147483648 ≤ y1) (hy0 : 0 ≤ y0) (hy0' : y0 < 4294967296) (hd : 0 ≤ d) (hq0 : 0 ≤ q) (hq : q ≤ 4294967296) (e : q * y1 + r = u) (ge : (u * 4294967296 + d) / (y1 * 4294967296 + y0) ≤ q) (h : 4294967296 ≤ r) :
    q = (u * 4294967296 + d) / (y1 * 4294967296 + y0) := by
  have := mul_le_of hq0 hq hy0 hy0'
  exact est_stop hy1 hy0 e ge (by omega)

/-- What is left behind a digit. -/
theorem left_range {a y : Int} (hy : 0 < y) : 0 ≤ a - a / y * y ∧ a - a / y * y < y := by
  have e := Int.mul_ediv_add_emod a y
  have m0 := Int.emod_nonneg a (show y ≠ 0 by omega)
  have m1 := Int.emod_lt_of_pos a hy
  have c := Int.mul_comm y (a / y)
  omega

/-- Two digits are the quotient. -/
theorem two_digits {u d1 d0 y : Int} (hy : 0 < y) :
    (u * 18446744073709551616 + (d1 * 4294967296 + d0)) / y = (u * 4294967296 + d1) / y * 4294967296 + (((u * 4294967296 + d1) - (u * 4294967296 + d1) / y * y) * 4294967296 + d0) / y := by
  generalize ha : u * 4294967296 + d1 = a
  have e : u * 18446744073709551616 + (d1 * 4294967296 + d0) = ((a - a / y * y) * 4294967296 + d0) + (a / y * 4294967296) * y := by
    have : (a / y * 4294967296) * y = (a / y * y) * 4294967296 := by rw [Int.mul_assoc, Int.mul_comm 4294967296 y, ← Int.mul_assoc]
    rw [this, Int.sub_mul]; omega
  rw [e, Int.add_mul_ediv_right _ _ (by omega)]
  omega
end Go.Proofs.Ytpobachhplbamaa.M
