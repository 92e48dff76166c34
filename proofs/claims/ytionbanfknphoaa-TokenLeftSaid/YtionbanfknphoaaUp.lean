/-
  fix.Up.
-/
import Derived.Test.YtionbanfknphoaaKit
import Derived.Test.YtionbanfknphoaaMathA
namespace Go.Proofs.Ytionbanfknphoaa
open Go.ChangeShapes Go.WideShapes Go.ChangeAt Go.RowKit
set_option linter.unusedVariables false
set_option linter.unusedSimpArgs false

theorem up_any (a b : Int) (w : World) (h1 : -9223372036854775808 ≤ a) (h2 : a ≤ 9223372036854775807) (hb : 0 < b) (hb2 : b ≤ 9223372036854775807) :
    Calls Try.prog 23 #[.int .i64 a, .int .i64 b] w fun e w' => e = .returned (.int .i64 (M.up a b)) ∧ w = w' := by
  have t := M.tdiv_range a b hb h1 h2
  have u := M.up_range a b hb h1 h2
  by_cases h : 0 < a.tmod b
  · have hq := M.up_pos a b hb h
    rw [hq] at u
    have H := Lib.hid hq; clear hq
    obtain ⟨t1, t2, _⟩ := t
    go_enter Try.func23, Try.ntmps23
    go_wp2
    go_ret
    exact ⟨ret_int (by rw [H.out]), rfl⟩
  · have hq := M.up_np a b hb (by omega)
    have H := Lib.hid hq; clear hq
    obtain ⟨t1, t2, _⟩ := t
    go_enter Try.func23, Try.ntmps23
    go_wp2
    go_ret
    exact ⟨ret_int (by rw [H.out]), rfl⟩

end Go.Proofs.Ytionbanfknphoaa
