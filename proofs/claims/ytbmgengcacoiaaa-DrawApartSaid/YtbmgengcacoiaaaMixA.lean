/-
  Package draw: Mix.
-/
import Derived.Test.YtbmgengcacoiaaaMathScr
namespace Go.Proofs.Ytbmgengcacoiaaa.draw
open Go.ChangeShapes Go.WideShapes Go.ChangeAt Go.RowKit
set_option linter.unusedVariables false
set_option linter.unusedSimpArgs false

theorem mix_any (a b : Int) (w : World) (a0 : 0 ≤ a) (a1 : a ≤ 18446744073709551615) (b0 : 0 ≤ b) (b1 : b ≤ 18446744073709551615) :
    Calls Try.prog 15 #[.int .u64 a, .int .u64 b] w fun e w' => e = .returned (.int .u64 (mix a b)) ∧ w = w' := by
  have S1 := Lib.hid (fun w => scramble_any (nst a) w (nst_range a).1 (nst_range a).2)
  have hx := xr_eq (scr_lo (nst a)) (scr_hi (nst a)) b0 b1
  have S2 := Lib.hid (fun w => scramble_any (IntKind.u64.wrap (11400714819323198485 + xr (scr (nst a)) b)) w (wrap_range _).1 (wrap_range _).2)
  rw [← hx] at S2
  replace hx := Lib.hid hx
  go_enter Try.func15, Try.ntmps15
  go_wp2_with fail
  refine (S1.out _).mono ?_
  rintro e w' ⟨rfl, rfl⟩
  go_wp2_with fail
  refine (S2.out _).mono ?_
  rintro e w' ⟨rfl, rfl⟩
  go_wp2_with fail
  go_ret
  exact ⟨by unfold mix; rw [hx.out]; rfl, rfl⟩

end Go.Proofs.Ytbmgengcacoiaaa.draw
