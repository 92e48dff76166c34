/-
  The document's own Fresh, Take, Most and Check of a budget.
-/
import Derived.Test.YtionbanfknphoaaTokC
import Derived.Test.YtionbanfknphoaaUp
namespace Go.Proofs.Ytionbanfknphoaa.token
open Go.ChangeShapes Go.WideShapes Go.ChangeAt Go.RowKit
set_option linter.unusedVariables false
set_option linter.unusedSimpArgs false

theorem rfresh_any (w : World) (P O B n : Int) (hb : okB P O B) (n0 : 0 ≤ n) (n1 : n ≤ 10000) :
    Calls Try.prog 20 #[bud P O B, .int .i64 n] w fun e w' => e = .returned (.int .i64 (min (n + P) (B * O))) ∧ Bl w w' := by
  obtain ⟨p0, p1, o0, o1, b0, b1⟩ := hb
  have hm := mul_bd b0 b1 (by omega) o1
  have hw : IntKind.i64.wrap (B * O) = B * O := by rw [IntKind.wrap_i64]; generalize B * O = x at hm; omega
  obtain ⟨x, hx⟩ : ∃ x, B * O = x := ⟨_, rfl⟩
  rw [hx] at hm hw ⊢
  go_enter Try.func20, Try.ntmps20
  go_wp2_with fail
  all_goals
    go_ret
    exact ⟨ret_int (by omega), (Bl.rfl' _).al _⟩

theorem rtake_any (w : World) (P O B n : Int) (hb : okB P O B) (n0 : 0 ≤ n) (n1 : n ≤ 10000) :
    Calls Try.prog 21 #[bud P O B, .int .i64 n] w fun e w' => e = .returned (.tuple #[.int .i64 (tk O n), .bool (decide (O ≤ n))]) ∧ Bl w w' := by
  obtain ⟨p0, p1, o0, o1, b0, b1⟩ := hb
  by_cases h : O ≤ n
  · rw [decide_eq_true h, show tk O n = n - O from if_pos h]
    go_enter Try.func21, Try.ntmps21
    go_wp2_with fail
    go_ret2
    exact ⟨rfl, (Bl.rfl' _).al _⟩
  · rw [decide_eq_false h, show tk O n = n from if_neg h]
    go_enter Try.func21, Try.ntmps21
    go_wp2_with fail
    go_ret2
    exact ⟨rfl, (Bl.rfl' _).al _⟩
end Go.Proofs.Ytionbanfknphoaa.token
