/-
  fix.Down.
-/
import Derived.Test.YtjajhebnafaflaaKit
import Derived.Test.YtjajhebnafaflaaMathA
namespace Go.Proofs.Ytjajhebnafaflaa
open Go.ChangeShapes Go.WideShapes Go.ChangeAt Go.RowKit
set_option linter.unusedVariables false
set_option linter.unusedSimpArgs false

theorem down_any (a b : Int) (w : World) (h1 : -9223372036854775808 ≤ a) (h2 : a ≤ 9223372036854775807) (hb : 0 < b) (hb2 : b ≤ 9223372036854775807) :
    Calls Try.prog 26 #[.int .i64 a, .int .i64 b] w fun e w' => e = .returned (.int .i64 (a / b)) ∧ w = w' := by
  have t := M.tdiv_range a b hb h1 h2
  by_cases h : a.tmod b < 0
  · have t3 := t.2.2 h
    have hq := M.down_neg a b hb h
    have H := Lib.hid hq; clear hq
    obtain ⟨t1, t2, _⟩ := t
    go_enter Try.func26, Try.ntmps26
    go_wp2
    go_ret
    exact ⟨ret_int (by rw [H.out]), rfl⟩
  · have hq := M.down_nn a b hb (by omega)
    have H := Lib.hid hq; clear hq
    obtain ⟨t1, t2, _⟩ := t
    go_enter Try.func26, Try.ntmps26
    go_wp2
    go_ret
    exact ⟨ret_int (by rw [H.out]), rfl⟩

end Go.Proofs.Ytjajhebnafaflaa
