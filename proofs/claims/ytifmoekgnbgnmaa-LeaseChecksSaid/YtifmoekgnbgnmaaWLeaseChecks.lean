/-
  LeaseChecks is true for every input: how a rate is wrong, what an exact limiter admits, and the error, is the document's. No condition.
-/
import Derived.Test.YtifmoekgnbgnmaaLeaC
namespace Go.Proofs.Ytifmoekgnbgnmaa.leaseChecks
open Go.ChangeShapes Go.WideShapes Go.ChangeAt Go.RowKit
open Go.Proofs.Ytifmoekgnbgnmaa.lease
set_option linter.unusedVariables false
set_option linter.unusedSimpArgs false

set_option maxHeartbeats 4000000 in
theorem walk {w : World} (ra : Int) (ra0 : -9223372036854775808 ≤ ra) (ra1 : ra ≤ 9223372036854775807) (rb : Int) (rb0 : -9223372036854775808 ≤ rb) (rb1 : rb ≤ 9223372036854775807) (rc : Int) (rc0 : -9223372036854775808 ≤ rc) (rc1 : rc ≤ 9223372036854775807) (n : Int) (n0 : -9223372036854775808 ≤ n) (n1 : n ≤ 9223372036854775807) (f : Int) (f0 : -9223372036854775808 ≤ f) (f1 : f ≤ 9223372036854775807) (g : Int) (g0 : -9223372036854775808 ≤ g) (g1 : g ≤ 9223372036854775807) :
    Calls Try.prog 3 #[rate ra rb rc, .int .i64 n, .int .i64 f, .int .i64 g] w fun e w' => e = .returned (.bool true) ∧ Bl w w' := by
  have A0 := fun w => around_any f 2147483648 w f0 f1 (by omega) (by omega)
  have a0 := around_lo f 2147483648 (by omega); have a1 := around_hi f 2147483648 (by omega)
  obtain ⟨a, ha⟩ : ∃ t, around f 2147483648 = t := ⟨_, rfl⟩
  rw [ha] at A0 a0 a1
  clear ha f0 f1
  have A1 := fun w => around_any g 1001 w g0 g1 (by omega) (by omega)
  have c0 := around_lo g 1001 (by omega); have c1 := around_hi g 1001 (by omega)
  obtain ⟨c, hc⟩ : ∃ t, around g 1001 = t := ⟨_, rfl⟩
  rw [hc] at A1 c0 c1
  clear hc g0 g1
  replace A0 := Lib.hid A0
  replace A1 := Lib.hid A1
  have Ra := Lib.hid (fun w => rate_any n w n0 n1)
  go_enter Try.func3, Try.ntmps3
  go_wp2_with fail
  refine (Ra.out _).mono ?_
  rintro e w1 ⟨L, W, S, rfl, hk, L12, W9, hb1⟩
  have hq0 := var_bl (heap_alloc_new w (.cells #[I ra, I rb, I rc] 23)) hb1
  have hbw : Bl w w1 := ((Bl.rfl' w).al _).tr hb1
  clear hb1
  have hk' := hk
  obtain ⟨L0, L1, W0, W1, S0, S1⟩ := hk'
  replace hk := Lib.hid hk
  go_wp2_with fail
  refine (A0.out _).mono ?_
  rintro e w2 ⟨rfl, rfl⟩
  go_wp2_with fail
  refine (A1.out _).mono ?_
  rintro e w2 ⟨rfl, rfl⟩
  go_wp2_with fail
  have hq1 := heap_alloc_new w1 (.cells #[I L, I W, I S] 23)
  have hq0' := var_bl hq0 ((Bl.rfl' w1).al (.cells #[I L, I W, I S] 23))
  have hbw' := hbw.al (.cells #[I L, I W, I S] 23)
  clear hq0 hbw
  obtain ⟨w4, hw4⟩ : ∃ t, w1.alloc (.cells #[I L, I W, I S] 23) = t := ⟨_, rfl⟩
  rw [hw4] at hq0' hq1 hbw' ⊢
  clear hw4
  obtain ⟨x1, hx1⟩ : ∃ t, w1.heap.size = t := ⟨_, rfl⟩
  obtain ⟨x0, hx0⟩ : ∃ t, w.heap.size = t := ⟨_, rfl⟩
  rw [hx0] at hq0'; rw [hx1] at hq1
  rw [hx0, hx1]
  have KK := Lib.hid (fun w' (hb : Bl w4 w') => (⟨hb, var_cells (var_bl hq0' hb), var_cells (var_bl hq1 hb)⟩ : Bl w4 w' ∧ (w'.cell? ⟨x0, 0, none⟩ = some (I ra) ∧ w'.cell? ⟨x0, 1, none⟩ = some (I rb) ∧ w'.cell? ⟨x0, 2, none⟩ = some (I rc)) ∧ (w'.cell? ⟨x1, 0, none⟩ = some (I L) ∧ w'.cell? ⟨x1, 1, none⟩ = some (I W) ∧ w'.cell? ⟨x1, 2, none⟩ = some (I S))))
  have hc0 := chk_ok hk.out
  have E1 := fun w => error_any L W S c true w hk.out c0 (by omega)
  have E2 := fun w => error_any L W S c false w hk.out c0 (by omega)
  simp only [if_true] at E1
  simp only [Bool.false_eq_true, if_false] at E2
  have hcS : 0 ≤ c * (S - 1) ∧ c * (S - 1) ≤ 1000000 := by
    have h1 : c * (S - 1) ≤ 1000 * (S - 1) := Int.mul_le_mul_of_nonneg_right (by omega) (by omega)
    exact ⟨Int.mul_nonneg c0 (by omega), by omega⟩
  have hwS : IntKind.i64.wrap (S - 1) = S - 1 := by rw [IntKind.wrap_i64]; omega
  have hwm : IntKind.i64.wrap (c * (S - 1)) = c * (S - 1) := by rw [IntKind.wrap_i64]; generalize c * (S - 1) = x at hcS; omega
  obtain ⟨er, her⟩ : ∃ t, c * (S - 1) = t := ⟨_, rfl⟩
  rw [her] at E2 hwm
  have Ex := fun w => exact_any L W S a w
  obtain ⟨ex, hex⟩ : ∃ t, min a L = t := ⟨_, rfl⟩
  rw [hex] at Ex
  have hif : (if L < a then L else a) = ex := by split <;> omega
  replace E1 := Lib.hid E1; replace E2 := Lib.hid E2; replace Ex := Lib.hid Ex
  clear hex hcS
  obtain ⟨d0, ⟨d1, d2, d3⟩, d4, d5, d6⟩ := KK.out w4 (Bl.rfl' _)
  clear d0
  go_region_held3 (fun w' => Bl w4 w' ∧ (w'.cell? ⟨x0, 0, none⟩ = some (I ra) ∧ w'.cell? ⟨x0, 1, none⟩ = some (I rb) ∧ w'.cell? ⟨x0, 2, none⟩ = some (I rc)) ∧ (w'.cell? ⟨x1, 0, none⟩ = some (I L) ∧ w'.cell? ⟨x1, 1, none⟩ = some (I W) ∧ w'.cell? ⟨x1, 2, none⟩ = some (I S)))
    ((go_split_ands; exact KK.out _ (by first | assumption | exact Bl.rfl' _ | exact Bl.drewN _ _ | exact Bl.dr (by first | assumption | exact Bl.rfl' _) | exact Bl.tr (by assumption) (by assumption))))
    (first
      | (go_at_call 12; go_split_ands; refine (check_any _ _ _ _).mono ?_; rintro e w6 ⟨rfl, hb7⟩)
      | (go_at_call 13; go_split_ands; refine (rcheck_any _ _ _ _).mono ?_; rintro e w6 ⟨rfl, hb7⟩))
  all_goals
    go_split_ands
    have hb6 : Bl w4 w6 := by assumption
    clear d1 d2 d3 d4 d5 d6
    have hq2 := var_bl hq1 hb6
    have hbw6 := hbw'.tr hb6
    clear hq0' hq1 hbw' KK hb6
    have KK := Lib.hid (fun w' (hb : Bl w6 w') => (⟨hb, var_cells (var_bl hq2 hb)⟩ : Bl w6 w' ∧ (w'.cell? ⟨x1, 0, none⟩ = some (I L) ∧ w'.cell? ⟨x1, 1, none⟩ = some (I W) ∧ w'.cell? ⟨x1, 2, none⟩ = some (I S))))
    obtain ⟨d0, d4, d5, d6⟩ := KK.out w6 (Bl.rfl' _)
    clear d0
    go_wp2_with fail
    go_region_held3 (fun w' => Bl w6 w' ∧ (w'.cell? ⟨x1, 0, none⟩ = some (I L) ∧ w'.cell? ⟨x1, 1, none⟩ = some (I W) ∧ w'.cell? ⟨x1, 2, none⟩ = some (I S)))
      ((go_split_ands; exact KK.out _ (by first | assumption | exact Bl.rfl' _ | exact Bl.drewN _ _ | exact Bl.dr (by first | assumption | exact Bl.rfl' _) | exact Bl.tr (by assumption) (by assumption))))
      (first
        | (go_at_call 14; go_split_ands; refine (Ex.out _).mono ?_; rintro e w8 ⟨rfl, hb7⟩)
        | (go_at_call 15; go_split_ands; (first | with_reducible refine (E1.out _).mono ?_ | with_reducible refine (E2.out _).mono ?_); rintro e w8 ⟨rfl, hb7⟩)
        | (go_at_call 16; go_split_ands; refine (lives24 _).mono ?_; rintro e w8 ⟨rfl, hb7⟩))
    all_goals
      go_split_ands
      have hb8 : Bl w6 w8 := by assumption
      go_wp2_with fail
      go_ret
      exact ⟨rfl, hbw6.tr hb8⟩
end Go.Proofs.Ytifmoekgnbgnmaa.leaseChecks
