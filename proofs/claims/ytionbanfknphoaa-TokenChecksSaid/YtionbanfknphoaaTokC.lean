/-
  A row that is handed in, read behind what came since; a bucket's parts, and how far Take and Fresh lead them.
-/
import Derived.Test.YtionbanfknphoaaTokB
namespace Go.Proofs.Ytionbanfknphoaa.token
open Go.ChangeShapes Go.WideShapes Go.ChangeAt Go.RowKit
set_option linter.unusedVariables false
set_option linter.unusedSimpArgs false

theorem var_cells' {w' : World} {x : Nat} {P O B : Int} {t : TypeId} (h : w'.heap[x]? = some (.cells #[I P, I O, I B] t (0, 0))) : w'.cell? ⟨x, 0, none⟩ = some (I P) ∧ w'.cell? ⟨x, 1, none⟩ = some (I O) ∧ w'.cell? ⟨x, 2, none⟩ = some (I B) := by
  refine ⟨?_, ?_, ?_⟩ <;> simp [World.cell?, h]
theorem con {O P B m t c : Int} (hO : 0 < O) (h : t * O + m ≤ B * O + c * P) : t + m / O ≤ B + c * P / O := by
  have h1 := Int.ediv_le_ediv hO h
  rw [Int.add_comm (t * O), Int.add_comm (B * O), Int.add_mul_ediv_right _ _ (by omega), Int.add_mul_ediv_right _ _ (by omega)] at h1
  omega

theorem tk_bd {O n : Int} (o1 : 1 ≤ O) (n0 : 0 ≤ n) : 0 ≤ tk O n ∧ tk O n ≤ n := by
  unfold tk
  split <;> omega
theorem div_hi {n O B : Int} (o1 : 1 ≤ O) (h : n ≤ B * O) : n / O ≤ B := by
  have h1 := Int.ediv_le_ediv (show 0 < O by omega) h
  rwa [Int.mul_ediv_cancel _ (by omega)] at h1
end Go.Proofs.Ytionbanfknphoaa.token
