/-
  Check, and the document's own Check and Most of a budget.
-/
import Derived.Test.YtionbanfknphoaaTokC
namespace Go.Proofs.Ytionbanfknphoaa.token
open Go.ChangeShapes Go.WideShapes Go.ChangeAt Go.RowKit
set_option linter.unusedVariables false
set_option linter.unusedSimpArgs false

def chk (P O B : Int) : Int := if 0 ≤ P ∧ P ≤ 100 ∧ 1 ≤ O ∧ O ≤ 100 ∧ 0 ≤ B ∧ B ≤ 100 then 0 else 16
theorem chk_ok {P O B : Int} (h : okB P O B) : chk P O B = 0 := if_pos h
theorem check_any (w : World) (P O B : Int) :
    Calls Try.prog 12 #[bud P O B] w fun e w' => e = .returned (.int .i64 (chk P O B)) ∧ Bl w w' := by
  unfold chk
  go_enter Try.func12, Try.ntmps12
  go_wp2_with fail
  all_goals
    go_ret
    refine ⟨ret_int ?_, (Bl.rfl' _).al _⟩
    first | rfl | (rw [if_pos (by omega)]; done) | (rw [if_neg (by omega)]; done)
theorem rcheck_any (w : World) (P O B : Int) :
    Calls Try.prog 13 #[bud P O B] w fun e w' => e = .returned (.int .i64 (chk P O B)) ∧ Bl w w' := by
  unfold chk
  go_enter Try.func13, Try.ntmps13
  go_wp2_with fail
  all_goals
    go_ret
    refine ⟨ret_int ?_, (Bl.rfl' _).al _⟩
    first | rfl | (rw [if_pos (by omega)]; done) | (rw [if_neg (by omega)]; done)
theorem rmost_any (P O B k : Int) (w : World) (hb : okB P O B) (k0 : 0 ≤ k) (k1 : k ≤ 2147483648) :
    Calls Try.prog 15 #[bud P O B, .int .i64 k] w fun e w' => e = .returned (.int .i64 (B + k * P / O)) ∧ Bl w w' := by
  obtain ⟨p0, p1, o0, o1, b0, b1⟩ := hb
  have hm : 0 ≤ k * P ∧ k * P ≤ 214748364800 := by
    have h1 : k * P ≤ k * 100 := Int.mul_le_mul_of_nonneg_left p1 k0
    exact ⟨Int.mul_nonneg k0 p0, by omega⟩
  have hw : IntKind.i64.wrap (k * P) = k * P := by rw [IntKind.wrap_i64]; omega
  have hd0 : 0 ≤ k * P / O := Int.ediv_nonneg hm.1 (by omega)
  have hd1 : k * P / O ≤ k * P := Int.ediv_le_self _ hm.1
  have htd : (k * P).tdiv O = k * P / O := Int.tdiv_eq_ediv_of_nonneg hm.1
  obtain ⟨x, hx⟩ : ∃ x, k * P = x := ⟨_, rfl⟩
  rw [hx] at hm hw hd0 hd1 htd ⊢
  obtain ⟨y, hy⟩ : ∃ y, x / O = y := ⟨_, rfl⟩
  rw [hy] at htd hd0 hd1 ⊢
  have hO : ¬ O = 0 := by omega
  have hwd : IntKind.i64.wrap (x.tdiv O) = y := by rw [htd, IntKind.wrap_i64]; omega
  have hwa : IntKind.i64.wrap (B + y) = B + y := by rw [IntKind.wrap_i64]; omega
  go_enter Try.func15, Try.ntmps15
  go_wp2_with fail
  go_region
  go_wp2_with fail
  go_ret
  exact ⟨ret_int (by simp_all), ((Bl.rfl' _).al _).dr⟩
end Go.Proofs.Ytionbanfknphoaa.token
