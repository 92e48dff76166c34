/-
  Around: a number within so many.
-/
import Derived.Test.YtnmehmlenbbfbaaKit
namespace Go.Proofs.Ytnmehmlenbbfbaa
open Go.ChangeShapes Go.WideShapes Go.ChangeAt Go.RowKit
set_option linter.unusedVariables false
set_option linter.unusedSimpArgs false

def around (n m : Int) : Int := (if n < 0 then -(n + 1) else n) % m

theorem around_lo (n m : Int) (hm : 0 < m) : 0 ≤ around n m := Int.emod_nonneg _ (by omega)
theorem around_hi (n m : Int) (hm : 0 < m) : around n m < m := Int.emod_lt_of_pos _ hm

theorem tmod_nn {a m : Int} (h : 0 ≤ a) : a.tmod m = a % m := Int.tmod_eq_emod_of_nonneg h
theorem around_neg {n m : Int} (h : n < 0) : -((n + 1).tmod m) = around n m := by rw [around, if_pos h, ← Int.neg_tmod]; exact tmod_nn (by omega)
theorem around_pos {n m : Int} (h : ¬ n < 0) : n % m = around n m := by rw [around, if_neg h]

theorem around_any (n m : Int) (w : World) (h1 : -9223372036854775808 ≤ n) (h2 : n ≤ 9223372036854775807) (hm : 0 < m) (hm2 : m ≤ 9223372036854775807) :
    Calls Try.prog 27 #[.int .i64 n, .int .i64 m] w fun e w' => e = .returned (.int .i64 (around n m)) ∧ w = w' := by
  by_cases h : n < 0
  · go_enter Try.func27, Try.ntmps27
    go_wp2
    go_ret
    exact ⟨ret_int (around_neg (by omega)), rfl⟩
  · go_enter Try.func27, Try.ntmps27
    go_wp2
    go_ret
    exact ⟨ret_int (around_pos (by omega)), rfl⟩

end Go.Proofs.Ytnmehmlenbbfbaa
