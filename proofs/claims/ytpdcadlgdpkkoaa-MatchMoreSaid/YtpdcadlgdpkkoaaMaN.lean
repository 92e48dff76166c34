/-
  Package match: matches made of numbers are right; rows of three.
-/
import Derived.Test.YtpdcadlgdpkkoaaMaI
import Derived.Test.YtpdcadlgdpkkoaaMaH
namespace Go.Proofs.Ytpdcadlgdpkkoaa.mat
open Go.ChangeShapes Go.WideShapes Go.ChangeAt Go.RowKit
open Go.Proofs.Ytpdcadlgdpkkoaa.heads
set_option linter.unusedVariables false
set_option linter.unusedSimpArgs false

theorem mpF_is (z : List Int) : pathF (mpF z) = true ∧ (mpF z).size ≤ 9 := by
  have h := pathO_is ((n0F z / 3 : Nat) : Int)
  exact ⟨h.1, h.2.2⟩
theorem cmp_neg (a b c d e f : Int) : cmp3 d e f a b c = -(cmp3 a b c d e f) := by
  unfold cmp3
  split <;> split <;> (try split) <;> (try split) <;> (try split) <;> (try split) <;> (try split) <;> omega
theorem cmp_self (a b c : Int) : cmp3 a b c a b c = 0 := by unfold cmp3; simp
theorem cmp_in (a b c d e f : Int) : -1 ≤ cmp3 a b c d e f ∧ cmp3 a b c d e f ≤ 1 := by
  unfold cmp3
  split <;> (try split) <;> (try split) <;> (try split) <;> omega
/-- Ahead or alike, by the first unlike numbers. -/
theorem cmp_le (a b c d e f : Int) : cmp3 a b c d e f ≤ 0 ↔ (a > d ∨ (a = d ∧ (b > e ∨ (b = e ∧ c ≥ f)))) := by
  unfold cmp3
  split <;> (try split) <;> (try split) <;> (try split) <;> (constructor <;> intro h <;> omega)
theorem cmp_zero (a b c d e f : Int) : cmp3 a b c d e f = 0 ↔ (a = d ∧ b = e ∧ c = f) := by
  unfold cmp3
  split <;> (try split) <;> (try split) <;> (try split) <;> (constructor <;> intro h <;> omega)
theorem cmp_tr {a b c d e f g h i : Int} (h1 : cmp3 a b c d e f ≤ 0) (h2 : cmp3 d e f g h i ≤ 0) : cmp3 a b c g h i ≤ 0 ∧ (cmp3 a b c g h i = 0 → cmp3 a b c d e f = 0 ∧ cmp3 d e f g h i = 0) := by
  rw [cmp_le] at h1 h2 ⊢
  rw [cmp_zero, cmp_zero, cmp_zero]
  constructor
  · omega
  · intro h
    omega
theorem cmp_eq {a b c d e f : Int} (h1 : cmp3 a b c d e f = 0) (g h i : Int) : cmp3 a b c g h i = cmp3 d e f g h i := by
  obtain ⟨rfl, rfl, rfl⟩ := (cmp_zero a b c d e f).1 h1
  rfl
end Go.Proofs.Ytpdcadlgdpkkoaa.mat
