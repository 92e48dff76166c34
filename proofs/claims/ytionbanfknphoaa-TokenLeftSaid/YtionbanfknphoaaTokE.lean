/-
  How what is left steps, when a call comes and when one is taken.
-/
import Derived.Test.YtionbanfknphoaaTokD
namespace Go.Proofs.Ytionbanfknphoaa.token
open Go.ChangeShapes Go.WideShapes Go.ChangeAt Go.RowKit
set_option linter.unusedVariables false
set_option linter.unusedSimpArgs false

theorem up_rng (P O : Int) (p0 : 0 ≤ P) (p1 : P ≤ 100) (o0 : 1 ≤ O) : 0 ≤ M.up P O ∧ M.up P O ≤ 101 := by
  rw [M.up_of P O (by omega)]
  have h0 := Int.ediv_nonneg p0 (show 0 ≤ O by omega)
  have h1 := Int.ediv_le_self O p0
  split <;> omega
theorem up_step {m O P Q : Int} (hO : 0 < O) (p0 : 0 ≤ P) (m0 : 0 ≤ m) (hm : m ≤ Q) : m / O ≤ min (m + P) Q / O ∧ min (m + P) Q / O ≤ m / O + M.up P O := by
  refine ⟨Int.ediv_le_ediv hO (by omega), ?_⟩
  have h1 : min (m + P) Q / O ≤ (m + P) / O := Int.ediv_le_ediv hO (by omega)
  have h2 : (m + P) / O ≤ m / O + M.up P O := by
    have a0 := Int.mul_ediv_add_emod m O; have b0 := Int.mul_ediv_add_emod P O
    have a1 := Int.emod_nonneg m (show O ≠ 0 by omega); have b1 := Int.emod_nonneg P (show O ≠ 0 by omega)
    have a2 := Int.emod_lt_of_pos m hO; have b2 := Int.emod_lt_of_pos P hO
    rw [M.up_of P O hO]
    split
    · next h =>
      have : (m + P) / O < m / O + P / O + 1 := by
        rw [Int.ediv_lt_iff_lt_mul hO, Int.add_mul, Int.add_mul, Int.mul_comm (m / O), Int.mul_comm (P / O)]
        omega
      omega
    · have : (m + P) / O < m / O + (P / O + 1) + 1 := by
        rw [Int.ediv_lt_iff_lt_mul hO, Int.add_mul, Int.add_mul, Int.add_mul, Int.mul_comm (m / O), Int.mul_comm (P / O)]
        omega
      omega
  omega
theorem tk_div {n O : Int} (o1 : 1 ≤ O) : tk O n / O = if 0 < n / O then n / O - 1 else n / O := by
  have h := div_pos_iff (n := n) o1
  unfold tk
  by_cases hO : O ≤ n
  · rw [if_pos hO, if_pos (h.2 hO)]
    have := Int.add_mul_ediv_right n (-1) (show O ≠ 0 by omega)
    rw [show n - O = n + -1 * O by omega, this]; omega
  · rw [if_neg hO, if_neg (fun hh => hO (h.1 hh))]
end Go.Proofs.Ytionbanfknphoaa.token
