/-
  TokenShares is true for every input: what most is of two numbers of calls, against that of both. No condition.
-/
import Derived.Test.YtionbanfknphoaaTokB
namespace Go.Proofs.Ytionbanfknphoaa.tokenShares
open Go.ChangeShapes Go.WideShapes Go.ChangeAt Go.RowKit
open Go.Proofs.Ytionbanfknphoaa.token
set_option linter.unusedVariables false
set_option linter.unusedSimpArgs false

theorem var_new (w : World) (P O B : Int) : (w.alloc (.cells #[I P, I O, I B] 23)).heap[w.heap.size]? = some (.cells #[I P, I O, I B] 23 (0, 0)) := heap_alloc_new _ _
theorem div_add {a b O : Int} (hO : 0 < O) : a / O + b / O ≤ (a + b) / O ∧ (a + b) / O ≤ a / O + b / O + 1 := by
  have a0 := Int.mul_ediv_add_emod a O; have b0 := Int.mul_ediv_add_emod b O
  have a1 := Int.emod_nonneg a (show O ≠ 0 by omega); have b1 := Int.emod_nonneg b (show O ≠ 0 by omega)
  have a2 := Int.emod_lt_of_pos a hO; have b2 := Int.emod_lt_of_pos b hO
  have e1 : (a / O + b / O) * O = O * (a / O) + O * (b / O) := by rw [Int.add_mul, Int.mul_comm (a / O), Int.mul_comm (b / O)]
  refine ⟨(Int.le_ediv_iff_mul_le hO).2 (by omega), ?_⟩
  have : (a + b) / O < a / O + b / O + 2 := by
    rw [Int.ediv_lt_iff_lt_mul hO, Int.add_mul (a / O + b / O) 2, e1]
    omega
  omega

set_option maxHeartbeats 2000000 in
theorem walk {w : World} (n : Int) (n0 : -9223372036854775808 ≤ n) (n1 : n ≤ 9223372036854775807) (a : Int) (a0 : -9223372036854775808 ≤ a) (a1 : a ≤ 9223372036854775807) (b : Int) (b0 : -9223372036854775808 ≤ b) (b1 : b ≤ 9223372036854775807) :
    Calls Try.prog 9 #[.int .i64 n, .int .i64 a, .int .i64 b] w fun e w' => e = .returned (.bool true) ∧ Bl w w' := by
  have A1 := fun w => around_any a 1048576 w a0 a1 (by omega) (by omega)
  have A2 := fun w => around_any b 1048576 w b0 b1 (by omega) (by omega)
  have p0 := around_lo a 1048576 (by omega); have p1 := around_hi a 1048576 (by omega)
  have q0 := around_lo b 1048576 (by omega); have q1 := around_hi b 1048576 (by omega)
  obtain ⟨p, hp⟩ : ∃ t, around a 1048576 = t := ⟨_, rfl⟩
  obtain ⟨q, hq⟩ : ∃ t, around b 1048576 = t := ⟨_, rfl⟩
  rw [hp] at A1 p0 p1; rw [hq] at A2 q0 q1
  clear hp hq a0 a1 b0 b1
  replace A1 := Lib.hid A1; replace A2 := Lib.hid A2
  have Bu := Lib.hid (fun w => budget_any n w n0 n1)
  go_enter Try.func9, Try.ntmps9
  go_wp2_with fail
  refine (Bu.out _).mono ?_
  rintro e w1 ⟨P, O, B, rfl, hk, hb1⟩
  have hk' := hk
  obtain ⟨P0, P1, O0, O1, B0, B1⟩ := hk'
  have M := fun w k k0 k1 => most_any P O B k w hk k0 k1
  have M1 := Lib.hid (fun w => M w p p0 (by omega))
  have M2 := Lib.hid (fun w => M w q q0 (by omega))
  have M3 := fun w => M w (p + q) (by omega) (by omega)
  have M4 := fun w => M w 0 (by omega) (by omega)
  rw [show B + 0 * P / O = B by simp] at M4
  rw [Int.add_mul] at M3
  have d := div_add (a := p * P) (b := q * P) (show 0 < O by omega)
  have hp0 : 0 ≤ p * P := Int.mul_nonneg p0 P0
  have hq0 : 0 ≤ q * P := Int.mul_nonneg q0 P0
  have hp1 : p * P ≤ 1048576 * 100 := by
    have h1 : p * P ≤ p * 100 := Int.mul_le_mul_of_nonneg_left P1 p0
    omega
  have hq1 : q * P ≤ 1048576 * 100 := by
    have h1 : q * P ≤ q * 100 := Int.mul_le_mul_of_nonneg_left P1 q0
    omega
  have mono : p ≤ q → p * P / O ≤ q * P / O := fun h => Int.ediv_le_ediv (by omega) (Int.mul_le_mul_of_nonneg_right h P0)
  have x0 := Int.ediv_nonneg hp0 (show 0 ≤ O by omega)
  have y0 := Int.ediv_nonneg hq0 (show 0 ≤ O by omega)
  have x1 := Int.ediv_le_self O hp0
  have y1 := Int.ediv_le_self O hq0
  obtain ⟨X, hX⟩ : ∃ X, p * P / O = X := ⟨_, rfl⟩
  obtain ⟨Y, hY⟩ : ∃ X, q * P / O = X := ⟨_, rfl⟩
  obtain ⟨Z, hZ⟩ : ∃ X, (p * P + q * P) / O = X := ⟨_, rfl⟩
  rw [hX] at M1 d mono x0 x1; rw [hY] at M2 d mono y0 y1; rw [hZ] at M3 d
  clear hX hY hZ M
  have x2 : X ≤ 104857600 := by omega
  have y2 : Y ≤ 104857600 := by omega
  clear x1 y1 hp0 hq0 hp1 hq1
  obtain ⟨U, hU⟩ : ∃ U, B + X = U := ⟨_, rfl⟩
  obtain ⟨V, hV⟩ : ∃ U, B + Y = U := ⟨_, rfl⟩
  obtain ⟨W, hW⟩ : ∃ U, B + Z = U := ⟨_, rfl⟩
  rw [hU] at M1; rw [hV] at M2; rw [hW] at M3
  have r1 : 0 ≤ U := by omega
  have r1' : U ≤ 104857700 := by omega
  have r2 : 0 ≤ V := by omega
  have r2' : V ≤ 104857700 := by omega
  have r3 : 0 ≤ W := by omega
  have r3' : W ≤ 209715400 := by omega
  have w1e : IntKind.i64.wrap (U + V) = U + V := by rw [IntKind.wrap_i64]; omega
  have w2e : IntKind.i64.wrap (W + B) = W + B := by rw [IntKind.wrap_i64]; omega
  have w3e : IntKind.i64.wrap (U + V - B) = U + V - B := by rw [IntKind.wrap_i64]; omega
  have w4e : IntKind.i64.wrap (U + V - B + 1) = U + V - B + 1 := by rw [IntKind.wrap_i64]; omega
  have e1 : decide (U + V ≤ W + B) = true := decide_eq_true (by omega)
  have e2 : decide (W ≤ U + V - B + 1) = true := decide_eq_true (by omega)
  have e3 : (B == B) = true := by simp
  have e4 : ¬ q < p → U ≤ V := fun h => by have := mono (by omega); omega
  replace e4 := Lib.hid e4
  clear d mono hU hV hW x0 y0 x2 y2
  replace M3 := Lib.hid M3; replace M4 := Lib.hid M4
  have hv0 := var_new w1 P O B
  have c0 := var_cells (w := w1) hv0
  go_wp2_with fail
  refine (A1.out _).mono ?_
  rintro e w' ⟨rfl, rfl⟩
  go_wp2_with fail
  refine (A2.out _).mono ?_
  rintro e w' ⟨rfl, rfl⟩
  go_wp2_with fail
  refine (M1.out _).mono ?_
  rintro e w2 ⟨rfl, hb2⟩
  have hv2 := var_bl hv0 hb2
  obtain ⟨d0, d1, d2⟩ := var_cells (w := w1) hv2
  have hb3 := (hb1.al (.cells #[I P, I O, I B] 23)).tr hb2
  clear hb1 hb2 hv0 c0
  go_wp2_with fail
  refine (M2.out _).mono ?_
  rintro e w3 ⟨rfl, hb2⟩
  have hv3 := var_bl hv2 hb2
  obtain ⟨d0, d1, d2⟩ := var_cells (w := w1) hv3
  have hb4 := hb3.tr hb2
  clear hb3 hb2 hv2
  go_wp2_with fail
  refine (M3.out _).mono ?_
  rintro e w4 ⟨rfl, hb2⟩
  have hv4 := var_bl hv3 hb2
  have hb5 := hb4.tr hb2
  have K := Lib.hid (fun w' (h : Bl w4 w') => (⟨h, var_cells (w := w1) (var_bl hv4 h)⟩ : Bl w4 w' ∧ w'.cell? ⟨w1.heap.size, 0, none⟩ = some (I P) ∧ w'.cell? ⟨w1.heap.size, 1, none⟩ = some (I O) ∧ w'.cell? ⟨w1.heap.size, 2, none⟩ = some (I B)))
  clear hb4 hb2 hv3 hv4
  by_cases hqp : q < p
  · have e5 : decide (q < p) = true := decide_eq_true hqp
    go_wp2_with fail
    have e7 : decide (p > q) = true := decide_eq_true hqp
    have K0 := K
    refine wp_region_held_drew (S := (fun w' => Bl w4 w' ∧ w'.cell? ⟨w1.heap.size, 0, none⟩ = some (I P) ∧ w'.cell? ⟨w1.heap.size, 1, none⟩ = some (I O) ∧ w'.cell? ⟨w1.heap.size, 2, none⟩ = some (I B))) (by kernel_rfl) ?_ (fun hHeld => ?_)
    · exact K0.out _ (by first | assumption | exact Bl.rfl' _ | exact Bl.dr (by first | assumption | exact Bl.rfl' _) | exact Bl.tr (by assumption) (by assumption))
    refine wpAnyH_take (i := 0) (v := ?v0) rfl (by kernel_rfl) (by kernel_rfl) (by kernel_rfl) (fun _ _ _ h => h) (Or.inl ⟨by rfl, ?y0⟩) hHeld ?r0
    case y0 => (intro w hSw; (try dsimp only at hSw); go_split_ands; go_simp; try with_reducible rfl)
    try simp only [List.getElem_toArray, List.getElem_cons_succ, List.getElem_cons_zero, Act.put, List.setIfInBounds_toArray, List.set_cons_zero, List.set_cons_succ]
    refine wpAnyH_take (i := 1) (v := ?v1) rfl (by kernel_rfl) (by kernel_rfl) (by kernel_rfl) (fun _ _ _ h => h) (Or.inl ⟨by rfl, ?y1⟩) hHeld ?r1
    case y1 => (intro w hSw; (try dsimp only at hSw); go_split_ands; go_simp; try with_reducible rfl)
    try simp only [List.getElem_toArray, List.getElem_cons_succ, List.getElem_cons_zero, Act.put, List.setIfInBounds_toArray, List.set_cons_zero, List.set_cons_succ]
    refine wpAnyH_take (i := 2) (v := ?v2) rfl (by kernel_rfl) (by kernel_rfl) (by kernel_rfl) (fun _ _ _ h => h) (Or.inl ⟨by rfl, ?y2⟩) hHeld ?r2
    case y2 => (intro w hSw; (try dsimp only at hSw); go_split_ands; go_simp; try with_reducible rfl)
    try simp only [List.getElem_toArray, List.getElem_cons_succ, List.getElem_cons_zero, Act.put, List.setIfInBounds_toArray, List.set_cons_zero, List.set_cons_succ]
    refine wpAnyH_take (i := 3) (v := ?v3) rfl (by kernel_rfl) (by kernel_rfl) (by kernel_rfl) (fun _ _ _ h => h) (Or.inl ⟨by rfl, ?y3⟩) hHeld ?r3
    case y3 => (intro w hSw; (try dsimp only at hSw); go_split_ands; go_simp; try with_reducible rfl)
    try simp only [List.getElem_toArray, List.getElem_cons_succ, List.getElem_cons_zero, Act.put, List.setIfInBounds_toArray, List.set_cons_zero, List.set_cons_succ]
    refine wpAnyH_take (i := 4) (v := ?v4) rfl (by kernel_rfl) (by kernel_rfl) (by kernel_rfl) (fun _ _ _ h => h) (Or.inl ⟨by rfl, ?y4⟩) hHeld ?r4
    case y4 => (intro w hSw; (try dsimp only at hSw); go_split_ands; go_simp; try with_reducible rfl)
    try simp only [List.getElem_toArray, List.getElem_cons_succ, List.getElem_cons_zero, Act.put, List.setIfInBounds_toArray, List.set_cons_zero, List.set_cons_succ]
    refine wpAnyH_take (i := 5) (v := ?v5) rfl (by kernel_rfl) (by kernel_rfl) (by kernel_rfl) (fun _ _ _ h => h) (Or.inl ⟨by rfl, ?y5⟩) hHeld ?r5
    case y5 => (intro w hSw; (try dsimp only at hSw); go_split_ands; go_simp; try with_reducible rfl)
    try simp only [List.getElem_toArray, List.getElem_cons_succ, List.getElem_cons_zero, Act.put, List.setIfInBounds_toArray, List.set_cons_zero, List.set_cons_succ]
    refine wpAnyH_take (i := 6) (v := ?v6) rfl (by kernel_rfl) (by kernel_rfl) (by kernel_rfl) (fun _ _ _ h => h) (Or.inl ⟨by rfl, ?y6⟩) hHeld ?r6
    case y6 => (intro w hSw; (try dsimp only at hSw); go_split_ands; go_simp; try with_reducible rfl)
    try simp only [List.getElem_toArray, List.getElem_cons_succ, List.getElem_cons_zero, Act.put, List.setIfInBounds_toArray, List.set_cons_zero, List.set_cons_succ]
    refine wpAnyH_take (i := 7) (v := ?v7) rfl (by kernel_rfl) (by kernel_rfl) (by kernel_rfl) (fun _ _ _ h => h) (Or.inl ⟨by rfl, ?y7⟩) hHeld ?r7
    case y7 => (intro w hSw; (try dsimp only at hSw); go_split_ands; go_simp; try with_reducible rfl)
    try simp only [List.getElem_toArray, List.getElem_cons_succ, List.getElem_cons_zero, Act.put, List.setIfInBounds_toArray, List.set_cons_zero, List.set_cons_succ]
    refine wpAnyH_take (i := 8) (v := ?v8) rfl (by kernel_rfl) (by kernel_rfl) (by kernel_rfl) (fun _ _ _ h => h) (Or.inl ⟨by rfl, ?y8⟩) hHeld ?r8
    case y8 => (intro w hSw; (try dsimp only at hSw); go_split_ands; go_simp; try with_reducible rfl)
    try simp only [List.getElem_toArray, List.getElem_cons_succ, List.getElem_cons_zero, Act.put, List.setIfInBounds_toArray, List.set_cons_zero, List.set_cons_succ]
    refine wpAnyH_take (i := 9) (v := ?v9) rfl (by kernel_rfl) (by kernel_rfl) (by kernel_rfl) (fun _ _ _ h => h) (Or.inl ⟨by rfl, ?y9⟩) hHeld ?r9
    case y9 => (intro w hSw; (try dsimp only at hSw); go_split_ands; go_simp; try with_reducible rfl)
    try simp only [List.getElem_toArray, List.getElem_cons_succ, List.getElem_cons_zero, Act.put, List.setIfInBounds_toArray, List.set_cons_zero, List.set_cons_succ]
    refine wpAnyH_take (i := 10) (v := ?v10) rfl (by kernel_rfl) (by kernel_rfl) (by kernel_rfl) (fun _ _ _ h => h) (Or.inl ⟨by rfl, ?y10⟩) hHeld ?r10
    case y10 => (intro w hSw; (try dsimp only at hSw); go_split_ands; go_simp; try with_reducible rfl)
    try simp only [List.getElem_toArray, List.getElem_cons_succ, List.getElem_cons_zero, Act.put, List.setIfInBounds_toArray, List.set_cons_zero, List.set_cons_succ]
    refine wpAnyH_take (i := 11) (v := ?v11) rfl (by kernel_rfl) (by kernel_rfl) (by kernel_rfl) (fun _ _ _ h => h) (Or.inl ⟨by rfl, ?y11⟩) hHeld ?r11
    case y11 => (intro w hSw; (try dsimp only at hSw); go_split_ands; go_simp; try with_reducible rfl)
    try simp only [List.getElem_toArray, List.getElem_cons_succ, List.getElem_cons_zero, Act.put, List.setIfInBounds_toArray, List.set_cons_zero, List.set_cons_succ]
    refine wpAnyH_take (i := 12) (v := ?v12) rfl (by kernel_rfl) (by kernel_rfl) (by kernel_rfl) (fun _ _ _ h => h) (Or.inl ⟨by rfl, ?y12⟩) hHeld ?r12
    case y12 => (intro w hSw; (try dsimp only at hSw); go_split_ands; go_simp; try with_reducible rfl)
    try simp only [List.getElem_toArray, List.getElem_cons_succ, List.getElem_cons_zero, Act.put, List.setIfInBounds_toArray, List.set_cons_zero, List.set_cons_succ]
    refine wpAnyH_take (i := 13) (v := ?v13) rfl (by kernel_rfl) (by kernel_rfl) (by kernel_rfl) (fun _ _ _ h => h) (Or.inl ⟨by rfl, ?y13⟩) hHeld ?r13
    case y13 => (intro w hSw; (try dsimp only at hSw); go_split_ands; go_simp; try with_reducible rfl)
    try simp only [List.getElem_toArray, List.getElem_cons_succ, List.getElem_cons_zero, Act.put, List.setIfInBounds_toArray, List.set_cons_zero, List.set_cons_succ]
    refine wpAnyH_take (i := 14) (v := ?v14) rfl (by kernel_rfl) (by kernel_rfl) (by kernel_rfl) (fun _ _ _ h => h) (Or.inl ⟨by rfl, ?y14⟩) hHeld ?r14
    case y14 => (intro w hSw; (try dsimp only at hSw); go_split_ands; go_simp; try with_reducible rfl)
    try simp only [List.getElem_toArray, List.getElem_cons_succ, List.getElem_cons_zero, Act.put, List.setIfInBounds_toArray, List.set_cons_zero, List.set_cons_succ]
    refine wpAnyH_take (i := 15) (v := ?v15) rfl (by kernel_rfl) (by kernel_rfl) (by kernel_rfl) (fun _ _ _ h => h) (Or.inl ⟨by rfl, ?y15⟩) hHeld ?r15
    case y15 => (intro w hSw; (try dsimp only at hSw); go_split_ands; go_simp; try with_reducible rfl)
    try simp only [List.getElem_toArray, List.getElem_cons_succ, List.getElem_cons_zero, Act.put, List.setIfInBounds_toArray, List.set_cons_zero, List.set_cons_succ]
    refine wpAnyH_take (i := 16) (v := ?v16) rfl (by kernel_rfl) (by kernel_rfl) (by kernel_rfl) (fun _ _ _ h => h) (Or.inl ⟨by rfl, ?y16⟩) hHeld ?r16
    case y16 => (intro w hSw; (try dsimp only at hSw); go_split_ands; go_simp; try with_reducible rfl)
    try simp only [List.getElem_toArray, List.getElem_cons_succ, List.getElem_cons_zero, Act.put, List.setIfInBounds_toArray, List.set_cons_zero, List.set_cons_succ]
    refine wpAnyH_take (i := 17) (v := ?v17) rfl (by kernel_rfl) (by kernel_rfl) (by kernel_rfl) (fun _ _ _ h => h) (Or.inl ⟨by rfl, ?y17⟩) hHeld ?r17
    case y17 => (intro w hSw; (try dsimp only at hSw); go_split_ands; go_simp; try with_reducible rfl)
    try simp only [List.getElem_toArray, List.getElem_cons_succ, List.getElem_cons_zero, Act.put, List.setIfInBounds_toArray, List.set_cons_zero, List.set_cons_succ]
    refine wpAnyH_take (i := 18) (v := ?v18) rfl (by kernel_rfl) (by kernel_rfl) (by kernel_rfl) (fun _ _ _ h => h) (Or.inl ⟨by rfl, ?y18⟩) hHeld ?r18
    case y18 => (intro w hSw; (try dsimp only at hSw); go_split_ands; go_simp; try with_reducible rfl)
    try simp only [List.getElem_toArray, List.getElem_cons_succ, List.getElem_cons_zero, Act.put, List.setIfInBounds_toArray, List.set_cons_zero, List.set_cons_succ]
    refine wpAnyH_take (i := 19) (v := ?v19) rfl (by kernel_rfl) (by kernel_rfl) (by kernel_rfl) (fun _ _ _ h => h) (Or.inl ⟨by rfl, ?y19⟩) hHeld ?r19
    case y19 => (intro w hSw; (try dsimp only at hSw); go_split_ands; go_simp; try with_reducible rfl)
    try simp only [List.getElem_toArray, List.getElem_cons_succ, List.getElem_cons_zero, Act.put, List.setIfInBounds_toArray, List.set_cons_zero, List.set_cons_succ]
    refine wpAnyH_take (i := 20) (v := ?v20) rfl (by kernel_rfl) (by kernel_rfl) (by kernel_rfl) (fun _ _ _ h => h) (Or.inl ⟨by rfl, ?y20⟩) hHeld ?r20
    case y20 => (intro w hSw; (try dsimp only at hSw); go_split_ands; go_simp; try with_reducible rfl)
    try simp only [List.getElem_toArray, List.getElem_cons_succ, List.getElem_cons_zero, Act.put, List.setIfInBounds_toArray, List.set_cons_zero, List.set_cons_succ]
    refine wpAnyH_take (i := 22) (v := ?v22) rfl (by kernel_rfl) (by kernel_rfl) (by kernel_rfl) (fun _ _ _ h => h) (Or.inl ⟨by rfl, ?y22⟩) hHeld ?r22
    case y22 => (intro w hSw; (try dsimp only at hSw); go_split_ands; go_simp; try with_reducible rfl)
    try simp only [List.getElem_toArray, List.getElem_cons_succ, List.getElem_cons_zero, Act.put, List.setIfInBounds_toArray, List.set_cons_zero, List.set_cons_succ]
    refine wpAnyH_take (i := 23) (v := ?v23) rfl (by kernel_rfl) (by kernel_rfl) (by kernel_rfl) (fun _ _ _ h => h) (Or.inl ⟨by rfl, ?y23⟩) hHeld ?r23
    case y23 => (intro w hSw; (try dsimp only at hSw); go_split_ands; go_simp; try with_reducible rfl)
    try simp only [List.getElem_toArray, List.getElem_cons_succ, List.getElem_cons_zero, Act.put, List.setIfInBounds_toArray, List.set_cons_zero, List.set_cons_succ]
    refine wpAnyH_ready (rs := [21]) (by kernel_rfl) (by simp) ?_
    refine AllReadyH.cons rfl (fun K hK => ?_) AllReadyH.nil
    have hHeld' := hHeld
    try dsimp only at hHeld'
    go_split_ands
    go_simp
    (refine (M4.out _).mono ?_; rintro e w5 ⟨rfl, hb7⟩; go_wp2_with fail)
    refine hK.out _ _ ?_ (fun hHeld => ?_)
    · exact K0.out _ (by first | assumption | exact Bl.rfl' _ | exact Bl.dr (by first | assumption | exact Bl.rfl' _) | exact Bl.tr (by assumption) (by assumption))
    clear hK K
    try simp only [List.getElem_toArray, List.getElem_cons_succ, List.getElem_cons_zero, Act.put, List.setIfInBounds_toArray, List.set_cons_zero, List.set_cons_succ]
    refine wpAnyH_take (i := 24) (v := ?v24) rfl (by kernel_rfl) (by kernel_rfl) (by kernel_rfl) (fun _ _ _ h => h) (Or.inl ⟨by rfl, ?y24⟩) hHeld ?r24
    case y24 => (intro w hSw; (try dsimp only at hSw); go_split_ands; go_simp; try with_reducible rfl)
    try simp only [List.getElem_toArray, List.getElem_cons_succ, List.getElem_cons_zero, Act.put, List.setIfInBounds_toArray, List.set_cons_zero, List.set_cons_succ]
    refine wpAnyH_take (i := 25) (v := ?v25) rfl (by kernel_rfl) (by kernel_rfl) (by kernel_rfl) (fun _ _ _ h => h) (Or.inl ⟨by rfl, ?y25⟩) hHeld ?r25
    case y25 => (intro w hSw; (try dsimp only at hSw); go_split_ands; go_simp; try with_reducible rfl)
    try simp only [List.getElem_toArray, List.getElem_cons_succ, List.getElem_cons_zero, Act.put, List.setIfInBounds_toArray, List.set_cons_zero, List.set_cons_succ]
    refine wpAnyH_take (i := 26) (v := ?v26) rfl (by kernel_rfl) (by kernel_rfl) (by kernel_rfl) (fun _ _ _ h => h) (Or.inl ⟨by rfl, ?y26⟩) hHeld ?r26
    case y26 => (intro w hSw; (try dsimp only at hSw); go_split_ands; go_simp; try with_reducible rfl)
    try simp only [List.getElem_toArray, List.getElem_cons_succ, List.getElem_cons_zero, Act.put, List.setIfInBounds_toArray, List.set_cons_zero, List.set_cons_succ]
    refine wpAnyH_take (i := 27) (v := ?v27) rfl (by kernel_rfl) (by kernel_rfl) (by kernel_rfl) (fun _ _ _ h => h) (Or.inl ⟨by rfl, ?y27⟩) hHeld ?r27
    case y27 => (intro w hSw; (try dsimp only at hSw); go_split_ands; go_simp; try with_reducible rfl)
    try simp only [List.getElem_toArray, List.getElem_cons_succ, List.getElem_cons_zero, Act.put, List.setIfInBounds_toArray, List.set_cons_zero, List.set_cons_succ]
    refine wpAnyH_take (i := 28) (v := ?v28) rfl (by kernel_rfl) (by kernel_rfl) (by kernel_rfl) (fun _ _ _ h => h) (Or.inl ⟨by rfl, ?y28⟩) hHeld ?r28
    case y28 => (intro w hSw; (try dsimp only at hSw); go_split_ands; go_simp; try with_reducible rfl)
    try simp only [List.getElem_toArray, List.getElem_cons_succ, List.getElem_cons_zero, Act.put, List.setIfInBounds_toArray, List.set_cons_zero, List.set_cons_succ]
    refine wpAnyH_take (i := 29) (v := ?v29) rfl (by kernel_rfl) (by kernel_rfl) (by kernel_rfl) (fun _ _ _ h => h) (Or.inl ⟨by rfl, ?y29⟩) hHeld ?r29
    case y29 => (intro w hSw; (try dsimp only at hSw); go_split_ands; go_simp; try with_reducible rfl)
    try simp only [List.getElem_toArray, List.getElem_cons_succ, List.getElem_cons_zero, Act.put, List.setIfInBounds_toArray, List.set_cons_zero, List.set_cons_succ]
    refine wpAnyH_take (i := 30) (v := ?v30) rfl (by kernel_rfl) (by kernel_rfl) (by kernel_rfl) (fun _ _ _ h => h) (Or.inl ⟨by rfl, ?y30⟩) hHeld ?r30
    case y30 => (intro w hSw; (try dsimp only at hSw); go_split_ands; go_simp; try with_reducible rfl)
    try simp only [List.getElem_toArray, List.getElem_cons_succ, List.getElem_cons_zero, Act.put, List.setIfInBounds_toArray, List.set_cons_zero, List.set_cons_succ]
    refine wpAnyH_take (i := 31) (v := undef) rfl (by kernel_rfl) (by kernel_rfl) (by kernel_rfl) (fun _ _ _ h => h) (Or.inr ⟨by rfl, rfl⟩) hHeld ?_
    try simp only [List.getElem_toArray, List.getElem_cons_succ, List.getElem_cons_zero, Act.put, List.setIfInBounds_toArray, List.set_cons_zero, List.set_cons_succ]
    refine wpAnyH_take (i := 32) (v := undef) rfl (by kernel_rfl) (by kernel_rfl) (by kernel_rfl) (fun _ _ _ h => h) (Or.inr ⟨by rfl, rfl⟩) hHeld ?_
    try simp only [List.getElem_toArray, List.getElem_cons_succ, List.getElem_cons_zero, Act.put, List.setIfInBounds_toArray, List.set_cons_zero, List.set_cons_succ]
    refine wpAnyH_take (i := 33) (v := undef) rfl (by kernel_rfl) (by kernel_rfl) (by kernel_rfl) (fun _ _ _ h => h) (Or.inr ⟨by rfl, rfl⟩) hHeld ?_
    try simp only [List.getElem_toArray, List.getElem_cons_succ, List.getElem_cons_zero, Act.put, List.setIfInBounds_toArray, List.set_cons_zero, List.set_cons_succ]
    refine wpAnyH_take (i := 34) (v := ?v34) rfl (by kernel_rfl) (by kernel_rfl) (by kernel_rfl) (fun _ _ _ h => h) (Or.inl ⟨by rfl, ?y34⟩) hHeld ?r34
    case y34 => (intro w hSw; (try dsimp only at hSw); go_split_ands; go_simp; try with_reducible rfl)
    try simp only [List.getElem_toArray, List.getElem_cons_succ, List.getElem_cons_zero, Act.put, List.setIfInBounds_toArray, List.set_cons_zero, List.set_cons_succ]
    refine wpAnyH_take (i := 35) (v := ?v35) rfl (by kernel_rfl) (by kernel_rfl) (by kernel_rfl) (fun _ _ _ h => h) (Or.inl ⟨by rfl, ?y35⟩) hHeld ?r35
    case y35 => (intro w hSw; (try dsimp only at hSw); go_split_ands; go_simp; try with_reducible rfl)
    try simp only [List.getElem_toArray, List.getElem_cons_succ, List.getElem_cons_zero, Act.put, List.setIfInBounds_toArray, List.set_cons_zero, List.set_cons_succ]
    refine wpAnyH_take (i := 36) (v := ?v36) rfl (by kernel_rfl) (by kernel_rfl) (by kernel_rfl) (fun _ _ _ h => h) (Or.inl ⟨by rfl, ?y36⟩) hHeld ?r36
    case y36 => (intro w hSw; (try dsimp only at hSw); go_split_ands; go_simp; try with_reducible rfl)
    try simp only [List.getElem_toArray, List.getElem_cons_succ, List.getElem_cons_zero, Act.put, List.setIfInBounds_toArray, List.set_cons_zero, List.set_cons_succ]
    refine wpAnyH_ready (rs := [37]) (by kernel_rfl) (by simp) ?_
    refine AllReadyH.cons rfl (fun K hK => ?_) AllReadyH.nil
    have hHeld' := hHeld
    try dsimp only at hHeld'
    go_split_ands
    go_simp
    (refine (lives19 _).mono ?_; rintro e w6 ⟨rfl, hb8⟩; go_wp2_with fail)
    refine hK.out _ _ ?_ (fun hHeld => ?_)
    · exact K0.out _ (by first | assumption | exact Bl.rfl' _ | exact Bl.dr (by first | assumption | exact Bl.rfl' _) | exact Bl.tr (by assumption) (by assumption))
    clear hK K
    try simp only [List.getElem_toArray, List.getElem_cons_succ, List.getElem_cons_zero, Act.put, List.setIfInBounds_toArray, List.set_cons_zero, List.set_cons_succ]
    refine wpAnyH_take (i := 38) (v := ?v38) rfl (by kernel_rfl) (by kernel_rfl) (by kernel_rfl) (fun _ _ _ h => h) (Or.inl ⟨by rfl, ?y38⟩) hHeld ?r38
    case y38 => (intro w hSw; (try dsimp only at hSw); go_split_ands; go_simp; try with_reducible rfl)
    try simp only [List.getElem_toArray, List.getElem_cons_succ, List.getElem_cons_zero, Act.put, List.setIfInBounds_toArray, List.set_cons_zero, List.set_cons_succ]
    refine wpAnyH_take (i := 39) (v := ?v39) rfl (by kernel_rfl) (by kernel_rfl) (by kernel_rfl) (fun _ _ _ h => h) (Or.inl ⟨by rfl, ?y39⟩) hHeld ?r39
    case y39 => (intro w hSw; (try dsimp only at hSw); go_split_ands; go_simp; try with_reducible rfl)
    try simp only [List.getElem_toArray, List.getElem_cons_succ, List.getElem_cons_zero, Act.put, List.setIfInBounds_toArray, List.set_cons_zero, List.set_cons_succ]
    refine wpAnyH_done (by kernel_rfl) ?_ _
    have hb9 := hHeld.1
    go_wp2_with fail
    go_ret
    exact ⟨rfl, hb5.tr hb9⟩
  · have e5 : decide (q < p) = false := decide_eq_false hqp
    have e6 : decide (U ≤ V) = true := decide_eq_true (e4.out (by omega))
    go_wp2_with fail
    have e7 : decide (p > q) = false := decide_eq_false (by omega)
    go_region_held3 (fun w' => Bl w4 w' ∧ w'.cell? ⟨w1.heap.size, 0, none⟩ = some (I P) ∧ w'.cell? ⟨w1.heap.size, 1, none⟩ = some (I O) ∧ w'.cell? ⟨w1.heap.size, 2, none⟩ = some (I B))
      ((go_split_ands; exact K.out _ (by first | assumption | exact Bl.rfl' _ | exact Bl.drewN _ _ | exact Bl.dr (by first | assumption | exact Bl.rfl' _) | exact Bl.tr (by assumption) (by assumption))))
      (first
        | (go_at_call 14; go_split_ands; refine (M4.out _).mono ?_; rintro e w5 ⟨rfl, hb7⟩)
        | (go_at_call 16; go_split_ands; refine (lives19 _).mono ?_; rintro e w5 ⟨rfl, hb7⟩))
    all_goals
      go_split_ands
      have hb6 : Bl w4 w5 := by assumption
      go_wp2_with fail
      go_ret
      exact ⟨rfl, hb5.tr hb6⟩
end Go.Proofs.Ytionbanfknphoaa.tokenShares
