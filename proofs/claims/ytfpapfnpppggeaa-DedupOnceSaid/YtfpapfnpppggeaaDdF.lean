/-
  Package dedup: a horizon that is made of a number.
-/
import Derived.Test.YtfpapfnpppggeaaDdE
import Derived.Test.YtfpapfnpppggeaaAround
namespace Go.Proofs.Ytfpapfnpppggeaa.dedup
open Go.ChangeShapes Go.WideShapes Go.ChangeAt Go.RowKit
set_option linter.unusedVariables false
set_option linter.unusedSimpArgs false

set_option maxHeartbeats 1000000 in
theorem horizon_any (n : Int) (w : World) (h1 : -9223372036854775808 ≤ n) (h2 : n ≤ 9223372036854775807) :
    Calls Try.prog 10 #[I n] w fun e w' => e = .returned (I (1 + around n 40)) ∧ w = w' := by
  have A1 := Lib.hid (fun w => around_any n 40 w h1 h2 (by omega) (by omega))
  have f0 := around_lo n 40 (by omega); have f1 := around_hi n 40 (by omega)
  obtain ⟨x, hx⟩ : ∃ z_, (around n 40) = z_ := ⟨_, rfl⟩
  rw [hx] at A1 f0 f1
  obtain ⟨y, hy⟩ : ∃ z, 1 + x = z := ⟨_, rfl⟩
  have w1 : IntKind.i64.wrap (1 + x) = y := by rw [IntKind.wrap_i64]; omega
  rw [hx, hy]
  clear hx hy h1 h2
  go_enter Try.func10, Try.ntmps10
  go_wp2_with fail
  with_reducible refine ((A1.out _)).mono ?_
  rintro e w' ⟨rfl, rfl⟩
  go_wp2_with fail
  go_ret
  exact ⟨rfl, rfl⟩
end Go.Proofs.Ytfpapfnpppggeaa.dedup
