/-
  TokenChecks is true for every input: which budgets may be, and how many may be taken at most, is the document's. No condition.
-/
import Derived.Test.YtionbanfknphoaaTokF
namespace Go.Proofs.Ytionbanfknphoaa.tokenChecks
open Go.ChangeShapes Go.WideShapes Go.ChangeAt Go.RowKit
open Go.Proofs.Ytionbanfknphoaa.token
set_option linter.unusedVariables false
set_option linter.unusedSimpArgs false

set_option maxHeartbeats 4000000 in
theorem walk {w : World} (ra : Int) (ra0 : -9223372036854775808 ≤ ra) (ra1 : ra ≤ 9223372036854775807) (rb : Int) (rb0 : -9223372036854775808 ≤ rb) (rb1 : rb ≤ 9223372036854775807) (rc : Int) (rc0 : -9223372036854775808 ≤ rc) (rc1 : rc ≤ 9223372036854775807) (n : Int) (n0 : -9223372036854775808 ≤ n) (n1 : n ≤ 9223372036854775807) (f : Int) (f0 : -9223372036854775808 ≤ f) (f1 : f ≤ 9223372036854775807) (g : Int) (g0 : -9223372036854775808 ≤ g) (g1 : g ≤ 9223372036854775807) :
    Calls Try.prog 3 #[bud ra rb rc, .int .i64 n, .int .i64 f, .int .i64 g] w fun e w' => e = .returned (.bool true) ∧ Bl w w' := by
  have A0 := fun w => around_any f 3 w f0 f1 (by omega) (by omega)
  have h0 := around_lo f 3 (by omega); have h1 := around_hi f 3 (by omega)
  obtain ⟨s, hs⟩ : ∃ t, around f 3 = t := ⟨_, rfl⟩
  rw [hs] at A0 h0 h1
  clear hs f0 f1
  have A1 := fun w => around_any n 5 w n0 n1 (by omega) (by omega)
  have i0 := around_lo n 5 (by omega); have i1 := around_hi n 5 (by omega)
  obtain ⟨r, hr⟩ : ∃ t, around n 5 = t := ⟨_, rfl⟩
  rw [hr] at A1 i0 i1
  clear hr
  obtain ⟨r, rfl⟩ : ∃ c : Nat, r = c := ⟨r.toNat, by omega⟩
  have A2 := fun w => around_any g 2147483648 w g0 g1 (by omega) (by omega)
  have k0 := around_lo g 2147483648 (by omega); have k1 := around_hi g 2147483648 (by omega)
  obtain ⟨k, hk⟩ : ∃ t, around g 2147483648 = t := ⟨_, rfl⟩
  rw [hk] at A2 k0 k1
  clear hk g0 g1
  replace A0 := Lib.hid A0
  replace A1 := Lib.hid A1
  replace A2 := Lib.hid A2
  obtain ⟨nv, hnv⟩ : ∃ nv, [Value.int IntKind.i64 (-1), Value.int IntKind.i64 0, Value.int IntKind.i64 1, Value.int IntKind.i64 100, Value.int IntKind.i64 101][r]? = some (.int .i64 nv) := by
    match r, i1 with
    | 0, _ => exact ⟨_, rfl⟩
    | 1, _ => exact ⟨_, rfl⟩
    | 2, _ => exact ⟨_, rfl⟩
    | 3, _ => exact ⟨_, rfl⟩
    | 4, _ => exact ⟨_, rfl⟩
    | n + 5, h => omega
  have Bu := Lib.hid (fun w => budget_any n w n0 n1)
  go_enter Try.func3, Try.ntmps3
  go_wp2_with fail
  refine (Bu.out _).mono ?_
  rintro e w1 ⟨P, O, B, rfl, hk, hb1⟩
  go_wp2_with fail
  refine (A1.out _).mono ?_
  rintro e w2 ⟨rfl, rfl⟩
  have hw1 := hb1.size
  have hq0 := var_bl (heap_alloc_new w (.cells #[I ra, I rb, I rc] 23)) hb1
  have hbw : Bl w w1 := ((Bl.rfl' w).al _).tr hb1
  clear hb1
  go_wp2_with fail
  refine (A0.out _).mono ?_
  rintro e w2 ⟨rfl, rfl⟩
  clear hnv
  have hs : s = 0 ∨ s = 1 ∨ s = 2 := by omega
  rcases hs with rfl | rfl | rfl
  · go_wp2_with fail
    refine (Bu.out _).mono ?_
    rintro e w3 ⟨P', O', B', rfl, hk', hb3⟩
    have hq1 := var_bl (var_bl (heap_alloc_new w1 (.cells #[I nv, I O, I B] 23)) ((Bl.rfl' _).al _)) hb3
    have hq0' := var_bl hq0 ((((Bl.rfl' w1).al _).al _).tr hb3)
    have hbw' := hbw.tr ((((Bl.rfl' w1).al _).al _).tr hb3)
    clear hb3 hq0 hbw hw1
    go_wp2_with fail
    refine (A2.out _).mono ?_
    rintro e w5 ⟨rfl, rfl⟩
    go_wp2_with fail
    have hq2 := heap_alloc_new w3 (.cells #[I P', I O', I B'] 23)
    have hq1' := var_bl hq1 ((Bl.rfl' w3).al (.cells #[I P', I O', I B'] 23))
    have hq0 := var_bl hq0' ((Bl.rfl' w3).al (.cells #[I P', I O', I B'] 23))
    have hbw := hbw'.al (.cells #[I P', I O', I B'] 23)
    clear hq1 hq0' hbw'
    obtain ⟨w4, hw4⟩ : ∃ t, w3.alloc (.cells #[I P', I O', I B'] 23) = t := ⟨_, rfl⟩
    rw [hw4] at hq0 hq1' hq2 hbw ⊢
    clear hw4
    obtain ⟨x1, hx1⟩ : ∃ t, w1.heap.size = t := ⟨_, rfl⟩
    obtain ⟨x2, hx2⟩ : ∃ t, w3.heap.size = t := ⟨_, rfl⟩
    obtain ⟨x0, hx0⟩ : ∃ t, w.heap.size = t := ⟨_, rfl⟩
    rw [hx0] at hq0; rw [hx1] at hq1'; rw [hx2] at hq2
    rw [hx0, hx1, hx2]
    have KK := Lib.hid (fun w' (hb : Bl w4 w') => (⟨hb, var_cells' (var_bl hq0 hb), var_cells' (var_bl hq1' hb), var_cells' (var_bl hq2 hb)⟩ : Bl w4 w' ∧ (w'.cell? ⟨x0, 0, none⟩ = some (I ra) ∧ w'.cell? ⟨x0, 1, none⟩ = some (I rb) ∧ w'.cell? ⟨x0, 2, none⟩ = some (I rc)) ∧ (w'.cell? ⟨x1, 0, none⟩ = some (I nv) ∧ w'.cell? ⟨x1, 1, none⟩ = some (I O) ∧ w'.cell? ⟨x1, 2, none⟩ = some (I B)) ∧ (w'.cell? ⟨x2, 0, none⟩ = some (I P') ∧ w'.cell? ⟨x2, 1, none⟩ = some (I O') ∧ w'.cell? ⟨x2, 2, none⟩ = some (I B'))))
    obtain ⟨_, ⟨_, _, _⟩, ⟨_, _, _⟩, _, _, _⟩ := KK.out w4 (Bl.rfl' _)
    have hc0 := chk_ok hk'
    have M1 := fun w => most_any P' O' B' k w hk' k0 (by omega)
    have M2 := fun w => rmost_any P' O' B' k w hk' k0 (by omega)
    obtain ⟨mo, hmo⟩ : ∃ t, B' + k * P' / O' = t := ⟨_, rfl⟩
    rw [hmo] at M1 M2
    replace M1 := Lib.hid M1; replace M2 := Lib.hid M2
    clear hmo hq0 hq1' hq2 h0 h1 A0 A1 A2
    go_region_held3 (fun w' => Bl w4 w' ∧ (w'.cell? ⟨x0, 0, none⟩ = some (I ra) ∧ w'.cell? ⟨x0, 1, none⟩ = some (I rb) ∧ w'.cell? ⟨x0, 2, none⟩ = some (I rc)) ∧ (w'.cell? ⟨x1, 0, none⟩ = some (I nv) ∧ w'.cell? ⟨x1, 1, none⟩ = some (I O) ∧ w'.cell? ⟨x1, 2, none⟩ = some (I B)) ∧ (w'.cell? ⟨x2, 0, none⟩ = some (I P') ∧ w'.cell? ⟨x2, 1, none⟩ = some (I O') ∧ w'.cell? ⟨x2, 2, none⟩ = some (I B')))
      ((go_split_ands; exact KK.out _ (by first | assumption | exact Bl.rfl' _ | exact Bl.drewN _ _ | exact Bl.dr (by first | assumption | exact Bl.rfl' _) | exact Bl.tr (by assumption) (by assumption))))
      (first
        | (go_at_call 12; go_split_ands; refine (check_any _ _ _ _).mono ?_; rintro e w6 ⟨rfl, hb7⟩)
        | (go_at_call 13; go_split_ands; refine (rcheck_any _ _ _ _).mono ?_; rintro e w6 ⟨rfl, hb7⟩)
        | (go_at_call 14; go_split_ands; refine (M1.out _).mono ?_; rintro e w6 ⟨rfl, hb7⟩)
        | (go_at_call 15; go_split_ands; refine (M2.out _).mono ?_; rintro e w6 ⟨rfl, hb7⟩)
        | (go_at_call 16; go_split_ands; refine (lives19 _).mono ?_; rintro e w6 ⟨rfl, hb7⟩))
    all_goals
      go_split_ands
      have hb6 : Bl w4 w6 := by assumption
      go_wp2_with fail
      go_ret
      exact ⟨rfl, hbw.tr hb6⟩
  · go_wp2_with fail
    refine (Bu.out _).mono ?_
    rintro e w3 ⟨P', O', B', rfl, hk', hb3⟩
    have hq1 := var_bl (var_bl (heap_alloc_new w1 (.cells #[I P, I nv, I B] 23)) ((Bl.rfl' _).al _)) hb3
    have hq0' := var_bl hq0 ((((Bl.rfl' w1).al _).al _).tr hb3)
    have hbw' := hbw.tr ((((Bl.rfl' w1).al _).al _).tr hb3)
    clear hb3 hq0 hbw hw1
    go_wp2_with fail
    refine (A2.out _).mono ?_
    rintro e w5 ⟨rfl, rfl⟩
    go_wp2_with fail
    have hq2 := heap_alloc_new w3 (.cells #[I P', I O', I B'] 23)
    have hq1' := var_bl hq1 ((Bl.rfl' w3).al (.cells #[I P', I O', I B'] 23))
    have hq0 := var_bl hq0' ((Bl.rfl' w3).al (.cells #[I P', I O', I B'] 23))
    have hbw := hbw'.al (.cells #[I P', I O', I B'] 23)
    clear hq1 hq0' hbw'
    obtain ⟨w4, hw4⟩ : ∃ t, w3.alloc (.cells #[I P', I O', I B'] 23) = t := ⟨_, rfl⟩
    rw [hw4] at hq0 hq1' hq2 hbw ⊢
    clear hw4
    obtain ⟨x1, hx1⟩ : ∃ t, w1.heap.size = t := ⟨_, rfl⟩
    obtain ⟨x2, hx2⟩ : ∃ t, w3.heap.size = t := ⟨_, rfl⟩
    obtain ⟨x0, hx0⟩ : ∃ t, w.heap.size = t := ⟨_, rfl⟩
    rw [hx0] at hq0; rw [hx1] at hq1'; rw [hx2] at hq2
    rw [hx0, hx1, hx2]
    have KK := Lib.hid (fun w' (hb : Bl w4 w') => (⟨hb, var_cells' (var_bl hq0 hb), var_cells' (var_bl hq1' hb), var_cells' (var_bl hq2 hb)⟩ : Bl w4 w' ∧ (w'.cell? ⟨x0, 0, none⟩ = some (I ra) ∧ w'.cell? ⟨x0, 1, none⟩ = some (I rb) ∧ w'.cell? ⟨x0, 2, none⟩ = some (I rc)) ∧ (w'.cell? ⟨x1, 0, none⟩ = some (I P) ∧ w'.cell? ⟨x1, 1, none⟩ = some (I nv) ∧ w'.cell? ⟨x1, 2, none⟩ = some (I B)) ∧ (w'.cell? ⟨x2, 0, none⟩ = some (I P') ∧ w'.cell? ⟨x2, 1, none⟩ = some (I O') ∧ w'.cell? ⟨x2, 2, none⟩ = some (I B'))))
    obtain ⟨_, ⟨_, _, _⟩, ⟨_, _, _⟩, _, _, _⟩ := KK.out w4 (Bl.rfl' _)
    have hc0 := chk_ok hk'
    have M1 := fun w => most_any P' O' B' k w hk' k0 (by omega)
    have M2 := fun w => rmost_any P' O' B' k w hk' k0 (by omega)
    obtain ⟨mo, hmo⟩ : ∃ t, B' + k * P' / O' = t := ⟨_, rfl⟩
    rw [hmo] at M1 M2
    replace M1 := Lib.hid M1; replace M2 := Lib.hid M2
    clear hmo hq0 hq1' hq2 h0 h1 A0 A1 A2
    go_region_held3 (fun w' => Bl w4 w' ∧ (w'.cell? ⟨x0, 0, none⟩ = some (I ra) ∧ w'.cell? ⟨x0, 1, none⟩ = some (I rb) ∧ w'.cell? ⟨x0, 2, none⟩ = some (I rc)) ∧ (w'.cell? ⟨x1, 0, none⟩ = some (I P) ∧ w'.cell? ⟨x1, 1, none⟩ = some (I nv) ∧ w'.cell? ⟨x1, 2, none⟩ = some (I B)) ∧ (w'.cell? ⟨x2, 0, none⟩ = some (I P') ∧ w'.cell? ⟨x2, 1, none⟩ = some (I O') ∧ w'.cell? ⟨x2, 2, none⟩ = some (I B')))
      ((go_split_ands; exact KK.out _ (by first | assumption | exact Bl.rfl' _ | exact Bl.drewN _ _ | exact Bl.dr (by first | assumption | exact Bl.rfl' _) | exact Bl.tr (by assumption) (by assumption))))
      (first
        | (go_at_call 12; go_split_ands; refine (check_any _ _ _ _).mono ?_; rintro e w6 ⟨rfl, hb7⟩)
        | (go_at_call 13; go_split_ands; refine (rcheck_any _ _ _ _).mono ?_; rintro e w6 ⟨rfl, hb7⟩)
        | (go_at_call 14; go_split_ands; refine (M1.out _).mono ?_; rintro e w6 ⟨rfl, hb7⟩)
        | (go_at_call 15; go_split_ands; refine (M2.out _).mono ?_; rintro e w6 ⟨rfl, hb7⟩)
        | (go_at_call 16; go_split_ands; refine (lives19 _).mono ?_; rintro e w6 ⟨rfl, hb7⟩))
    all_goals
      go_split_ands
      have hb6 : Bl w4 w6 := by assumption
      go_wp2_with fail
      go_ret
      exact ⟨rfl, hbw.tr hb6⟩
  · go_wp2_with fail
    refine (Bu.out _).mono ?_
    rintro e w3 ⟨P', O', B', rfl, hk', hb3⟩
    have hq1 := var_bl (var_bl (heap_alloc_new w1 (.cells #[I P, I O, I nv] 23)) ((Bl.rfl' _).al _)) hb3
    have hq0' := var_bl hq0 ((((Bl.rfl' w1).al _).al _).tr hb3)
    have hbw' := hbw.tr ((((Bl.rfl' w1).al _).al _).tr hb3)
    clear hb3 hq0 hbw hw1
    go_wp2_with fail
    refine (A2.out _).mono ?_
    rintro e w5 ⟨rfl, rfl⟩
    go_wp2_with fail
    have hq2 := heap_alloc_new w3 (.cells #[I P', I O', I B'] 23)
    have hq1' := var_bl hq1 ((Bl.rfl' w3).al (.cells #[I P', I O', I B'] 23))
    have hq0 := var_bl hq0' ((Bl.rfl' w3).al (.cells #[I P', I O', I B'] 23))
    have hbw := hbw'.al (.cells #[I P', I O', I B'] 23)
    clear hq1 hq0' hbw'
    obtain ⟨w4, hw4⟩ : ∃ t, w3.alloc (.cells #[I P', I O', I B'] 23) = t := ⟨_, rfl⟩
    rw [hw4] at hq0 hq1' hq2 hbw ⊢
    clear hw4
    obtain ⟨x1, hx1⟩ : ∃ t, w1.heap.size = t := ⟨_, rfl⟩
    obtain ⟨x2, hx2⟩ : ∃ t, w3.heap.size = t := ⟨_, rfl⟩
    obtain ⟨x0, hx0⟩ : ∃ t, w.heap.size = t := ⟨_, rfl⟩
    rw [hx0] at hq0; rw [hx1] at hq1'; rw [hx2] at hq2
    rw [hx0, hx1, hx2]
    have KK := Lib.hid (fun w' (hb : Bl w4 w') => (⟨hb, var_cells' (var_bl hq0 hb), var_cells' (var_bl hq1' hb), var_cells' (var_bl hq2 hb)⟩ : Bl w4 w' ∧ (w'.cell? ⟨x0, 0, none⟩ = some (I ra) ∧ w'.cell? ⟨x0, 1, none⟩ = some (I rb) ∧ w'.cell? ⟨x0, 2, none⟩ = some (I rc)) ∧ (w'.cell? ⟨x1, 0, none⟩ = some (I P) ∧ w'.cell? ⟨x1, 1, none⟩ = some (I O) ∧ w'.cell? ⟨x1, 2, none⟩ = some (I nv)) ∧ (w'.cell? ⟨x2, 0, none⟩ = some (I P') ∧ w'.cell? ⟨x2, 1, none⟩ = some (I O') ∧ w'.cell? ⟨x2, 2, none⟩ = some (I B'))))
    obtain ⟨_, ⟨_, _, _⟩, ⟨_, _, _⟩, _, _, _⟩ := KK.out w4 (Bl.rfl' _)
    have hc0 := chk_ok hk'
    have M1 := fun w => most_any P' O' B' k w hk' k0 (by omega)
    have M2 := fun w => rmost_any P' O' B' k w hk' k0 (by omega)
    obtain ⟨mo, hmo⟩ : ∃ t, B' + k * P' / O' = t := ⟨_, rfl⟩
    rw [hmo] at M1 M2
    replace M1 := Lib.hid M1; replace M2 := Lib.hid M2
    clear hmo hq0 hq1' hq2 h0 h1 A0 A1 A2
    go_region_held3 (fun w' => Bl w4 w' ∧ (w'.cell? ⟨x0, 0, none⟩ = some (I ra) ∧ w'.cell? ⟨x0, 1, none⟩ = some (I rb) ∧ w'.cell? ⟨x0, 2, none⟩ = some (I rc)) ∧ (w'.cell? ⟨x1, 0, none⟩ = some (I P) ∧ w'.cell? ⟨x1, 1, none⟩ = some (I O) ∧ w'.cell? ⟨x1, 2, none⟩ = some (I nv)) ∧ (w'.cell? ⟨x2, 0, none⟩ = some (I P') ∧ w'.cell? ⟨x2, 1, none⟩ = some (I O') ∧ w'.cell? ⟨x2, 2, none⟩ = some (I B')))
      ((go_split_ands; exact KK.out _ (by first | assumption | exact Bl.rfl' _ | exact Bl.drewN _ _ | exact Bl.dr (by first | assumption | exact Bl.rfl' _) | exact Bl.tr (by assumption) (by assumption))))
      (first
        | (go_at_call 12; go_split_ands; refine (check_any _ _ _ _).mono ?_; rintro e w6 ⟨rfl, hb7⟩)
        | (go_at_call 13; go_split_ands; refine (rcheck_any _ _ _ _).mono ?_; rintro e w6 ⟨rfl, hb7⟩)
        | (go_at_call 14; go_split_ands; refine (M1.out _).mono ?_; rintro e w6 ⟨rfl, hb7⟩)
        | (go_at_call 15; go_split_ands; refine (M2.out _).mono ?_; rintro e w6 ⟨rfl, hb7⟩)
        | (go_at_call 16; go_split_ands; refine (lives19 _).mono ?_; rintro e w6 ⟨rfl, hb7⟩))
    all_goals
      go_split_ands
      have hb6 : Bl w4 w6 := by assumption
      go_wp2_with fail
      go_ret
      exact ⟨rfl, hbw.tr hb6⟩
end Go.Proofs.Ytionbanfknphoaa.tokenChecks
