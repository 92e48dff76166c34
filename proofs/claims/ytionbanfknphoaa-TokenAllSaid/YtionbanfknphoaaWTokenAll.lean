/-
  TokenAll is true for every input: a bucket that is asked, till it tells no, behind each call, has given just what Most tells. No condition.
-/
import Derived.Test.YtionbanfknphoaaTokC
namespace Go.Proofs.Ytionbanfknphoaa.tokenAll
open Go.ChangeShapes Go.WideShapes Go.ChangeAt Go.RowKit
open Go.Proofs.Ytionbanfknphoaa.token
set_option linter.unusedVariables false
set_option linter.unusedSimpArgs false

theorem q_lo (i c : Nat) (h : i ≤ c) : min (i : Int) c = i := by omega
theorem q_hi (i c : Nat) (h : c ≤ i) : min (i : Int) c = c := by omega
theorem step_eq {O t m M : Int} (h : t * O + m = M) : (t + 1) * O + (m - O) = M := by rw [Int.add_mul]; omega
theorem step_le {O t m M : Int} (h : t * O + m ≤ M) : (t + 1) * O + (m - O) ≤ M := by rw [Int.add_mul]; omega
theorem fin_eq {O P B t m c : Int} (hO : 0 < O) (h : t * O + m = B * O + c * P) (m0 : 0 ≤ m) (m1 : m < O) : t = B + c * P / O := by
  have h1 : (t * O + m) / O = (B * O + c * P) / O := by rw [h]
  rw [Int.add_comm (t * O), Int.add_comm (B * O), Int.add_mul_ediv_right _ _ (by omega), Int.add_mul_ediv_right _ _ (by omega), Int.ediv_eq_zero_of_lt m0 m1] at h1
  omega
theorem no_cap {O P B m : Int} (o1 : 1 ≤ O) (h : 1 < B ∨ P ≤ 0) (hP : P ≤ O) (b1 : 1 ≤ B) (m1 : m < O) : min (m + P) (B * O) = m + P := by
  have h1 : 1 * O ≤ B * O := Int.mul_le_mul_of_nonneg_right b1 (by omega)
  rcases h with h | h
  · have h2 : 2 * O ≤ B * O := Int.mul_le_mul_of_nonneg_right (by omega) (by omega)
    omega
  · omega

set_option maxHeartbeats 4000000 in
theorem walk {w : World} (n : Int) (n0 : -9223372036854775808 ≤ n) (n1 : n ≤ 9223372036854775807) (f : Int) (f0 : -9223372036854775808 ≤ f) (f1 : f ≤ 9223372036854775807) :
    Calls Try.prog 7 #[.int .i64 n, .int .i64 f] w fun e w' => e = .returned (.bool true) ∧ Bl w w' := by
  have A0 := fun w => around_any f 61 w f0 f1 (by omega) (by omega)
  have g0 := around_lo f 61 (by omega); have g1 := around_hi f 61 (by omega)
  obtain ⟨s, hs⟩ : ∃ t, around f 61 = t := ⟨_, rfl⟩
  rw [hs] at A0 g0 g1
  obtain ⟨c, rfl⟩ : ∃ c : Nat, s = c := ⟨s.toNat, by omega⟩
  replace A0 := Lib.hid A0
  clear hs f0 f1
  have Bu := Lib.hid (fun w => budget_any n w n0 n1)
  go_enter Try.func7, Try.ntmps7
  go_wp2_with fail
  refine (Bu.out _).mono ?_
  rintro e w1 ⟨P, O, B, rfl, hk, hb1⟩
  obtain ⟨P0, P1, O0, O1, B0, B1⟩ := hk
  by_cases hPO : P ≤ O
  · by_cases hB : 1 ≤ B
    · go_wp2_with fail
      have hk : okB P O B := by unfold okB; omega
      have hmb := mul_bd (B := B) (O := O) (by omega) (by omega) (by omega) O1
      have hM100 : B * O ≤ 100 * O := Int.mul_le_mul_of_nonneg_right (by omega) (by omega)
      have hcap := Lib.hid (fun m h m1 => no_cap (O := O) (P := P) (B := B) (m := m) O0 h (by omega) (by omega) m1)
      refine (new_any P O B _ hk).mono ?_
      rintro e w2 ⟨p, rfl, hp, ht, hb2⟩
      have hv2 := var_bl (heap_alloc_new w1 (.cells #[I P, I O, I B] 23)) hb2
      obtain ⟨x, hx⟩ : ∃ x, w1.heap.size = x := ⟨_, rfl⟩
      have hxp : x < p := by simp at hp; omega
      have hb0 : Bl w w2 := hb1.tr (((Bl.rfl' w1).al _).tr hb2)
      have hwp : w.heap.size ≤ p := by have := hb1.size; omega
      rw [hx] at hv2
      clear hb2 hp hb1
      obtain ⟨M, hM⟩ : ∃ M, B * O = M := ⟨_, rfl⟩
      rw [hM] at hmb ht hM100 hcap
      replace hM := Lib.hid hM
      replace hk := Lib.hid hk
      have hFl : ((1 : Int) < B ∨ P ≤ 0) ↔ ((1 : Int) < B ∨ P + O ≤ O) := by omega
      go_wp2_with fail
      refine (A0.out _).mono ?_
      rintro e w3 ⟨rfl, rfl⟩
      go_wp2_with fail
      go_loopw [8, 9] (fun t i wr => ∃ (k : Nat) (tn m : Int), k ≤ c + 1 ∧ i = I k ∧ t = I tn ∧ 0 ≤ tn ∧ tn ≤ 102 * k ∧ 0 ≤ m ∧ m ≤ M ∧ tn * O + m ≤ M + min (k : Int) c * P ∧ (((1 : Int) < B ∨ P ≤ 0) → tn * O + m = M + min (k : Int) c * P) ∧ (k = c + 1 → m < O) ∧ wr.heap[x]? = some (.cells #[I P, I O, I B] 23 (0, 0)) ∧ TB wr p P O B m ∧ Bl w wr) (fun _ i _ => c + 1 - (intOf i).toNat)
      case atStart => exact ⟨0, 0, M, by omega, rfl, rfl, by omega, by omega, by omega, by omega, by rw [q_lo 0 c (by omega)]; simp, fun _ => by rw [q_lo 0 c (by omega)]; simp, fun h => by omega, hv2, ht, hb0⟩
      case round =>
        obtain ⟨k, tn, m, hkc, rfl, rfl, htn0, htn, m0, m1, hin, heq, hlast, hvr, htr, hbr⟩ := hrel
        clear hv2 ht hb0
        by_cases hlt : k ≤ c
        · rw [q_lo k c hlt] at hin heq
          obtain ⟨R, hR⟩ : ∃ t, M + (k : Int) * P = t := ⟨_, rfl⟩
          rw [hR] at hin heq
          replace hR := Lib.hid hR
          replace hin := Lib.hid hin; replace heq := Lib.hid heq
          go_wp2_with fail
          go_loopw [8, 10] (fun t j wr => ∃ (q : Nat) (tn m : Int), q ≤ 102 ∧ j = I q ∧ t = I tn ∧ 0 ≤ tn ∧ tn ≤ 102 * k + q ∧ 0 ≤ m ∧ m ≤ M ∧ tn * O + m ≤ R ∧ (((1 : Int) < B ∨ P ≤ 0) → tn * O + m = R) ∧ (m < O ∨ m + q * O ≤ 100 * O) ∧ wr.heap[x]? = some (.cells #[I P, I O, I B] 23 (0, 0)) ∧ TB wr p P O B m ∧ Bl w wr) (fun _ j _ => 102 - (intOf j).toNat)
          case atStart => exact ⟨0, tn, m, by omega, rfl, rfl, by omega, by omega, by omega, by omega, hin.out, heq.out, Or.inr (by simp; omega), hvr, htr, hbr⟩
          case round =>
            obtain ⟨q, tn, m, hq, rfl, rfl, htn0, htn, m0, m1, hin, heq, hdn, hvr, htr, hbr⟩ := hrel
            replace hin := Lib.hid hin; replace heq := Lib.hid heq
            by_cases hq2 : q < 102
            · by_cases hO : O ≤ m
              · have T := take_any wr p P O B m htr hk.out m0 (by omega)
                rw [decide_eq_true hO, show tk O m = m - O from if_pos hO] at T
                replace T := Lib.hid T
                replace hdn := Lib.hid hdn
                go_wp2_with fail
                refine T.out.mono ?_
                rintro e w3 ⟨rfl, ht3, hg⟩
                have hv3 := var_gby hvr hg hxp
                have hb3 := hbr.gp hg hwp
                clear hvr hg htr hbr T
                go_wp2_with fail
                go_roundw
                case rel => exact ⟨q + 1, tn + 1, m - O, by omega, by go_num, rfl, by omega, by omega, by omega, by omega, step_le hin.out, fun h => step_eq (heq.out h), by
                    have := hdn.out
                    rcases this with h | h
                    · omega
                    · refine Or.inr ?_
                      rw [show ((q + 1 : Nat) : Int) = (q : Int) + 1 by omega, Int.add_mul]
                      omega, hv3, ht3, hb3⟩
                case measure => simp [intOf] <;> omega
              · have T := take_any wr p P O B m htr hk.out m0 (by omega)
                rw [decide_eq_false hO, show tk O m = m from if_neg hO] at T
                replace T := Lib.hid T
                clear hdn
                go_wp2_with fail
                refine T.out.mono ?_
                rintro e w3 ⟨rfl, ht3, hg⟩
                have hv3 := var_gby hvr hg hxp
                have hb3 := hbr.gp hg hwp
                clear hvr hg htr hbr T
                go_wp2_with fail
                go_roundw
                case rel => exact ⟨q + 1, tn, m, by omega, by go_num, rfl, by omega, by omega, by omega, by omega, hin.out, heq.out, Or.inl (by omega), hv3, ht3, hb3⟩
                case measure => simp [intOf] <;> omega
            · obtain rfl : q = 102 := by omega
              have hmO : m < O := by
                rcases hdn with h | h
                · exact h
                · omega
              clear hdn
              by_cases hkl : k < c
              · have F := fresh_any wr p P O B m htr hk.out m0 (by omega)
                rw [hM.out] at F
                obtain ⟨m', hm'⟩ : ∃ t, min (m + P) M = t := ⟨_, rfl⟩
                rw [hm'] at F
                replace F := Lib.hid F
                go_wp2_with fail
                refine F.out.mono ?_
                rintro e w3 ⟨rfl, ht3, hg⟩
                have hv3 := var_gby hvr hg hxp
                have hb3 := hbr.gp hg hwp
                clear hvr hg htr hbr F
                go_wp2_with fail
                go_roundw
                case rel =>
                  have e1 : min ((k + 1 : Nat) : Int) (c : Int) = (k : Int) + 1 := by omega
                  refine ⟨k + 1, tn, m', by omega, by go_num, rfl, by omega, by omega, by omega, by omega, ?_, fun h => ?_, fun h => by omega, hv3, ht3, hb3⟩
                  · rw [e1, Int.add_mul, Int.one_mul]
                    have h1 := hin.out; have h2 := hR.out
                    omega
                  · rw [e1, Int.add_mul, Int.one_mul]
                    have h1 := heq.out h; have h2 := hR.out; have h3 := hcap.out m h hmO
                    omega
                case measure => simp [intOf] <;> omega
              · obtain rfl : k = c := by omega
                go_wp2_with fail
                go_roundw
                case rel =>
                  have e1 : min ((k + 1 : Nat) : Int) (k : Int) = (k : Int) := by omega
                  refine ⟨k + 1, tn, m, by omega, by go_num, rfl, by omega, by omega, by omega, by omega, ?_, fun h => ?_, fun h => hmO, hvr, htr, hbr⟩
                  · rw [e1]
                    have h1 := hin.out; have h2 := hR.out
                    omega
                  · rw [e1]
                    have h1 := heq.out h; have h2 := hR.out
                    omega
                case measure => simp [intOf] <;> omega
        · obtain rfl : k = c + 1 := by omega
          have hmO := hlast rfl
          rw [q_hi (c + 1) c (by omega)] at hin heq
          have M4 := fun w' => most_any P O B c w' hk.out (by omega) (by omega)
          have hle : tn ≤ B + c * P / O := by
            have h1 := con (show 0 < O by omega) (show tn * O + m ≤ B * O + c * P by rw [hM.out]; exact hin)
            have h2 := Int.ediv_nonneg m0 (show 0 ≤ O by omega)
            omega
          have heq2 : ((1 : Int) < B ∨ P ≤ 0) → tn = B + c * P / O := fun h => fin_eq (show 0 < O by omega) (show tn * O + m = B * O + c * P by rw [hM.out]; exact heq h) m0 hmO
          obtain ⟨mo, hmo⟩ : ∃ t, B + c * P / O = t := ⟨_, rfl⟩
          rw [hmo] at M4 hle heq2
          replace M4 := Lib.hid M4
          obtain ⟨d0, d1, d2⟩ := var_cells' hvr
          clear hmo hin heq hlast htr
          by_cases hfl : (1 : Int) < B ∨ P ≤ 0
          · obtain rfl := heq2 hfl
            have hfl2 := hFl.1 hfl
            clear hfl hFl heq2 hle
            rcases hfl2 with hfl2 | hfl2
            · go_wp2_with fail
              all_goals
                refine (M4.out _).mono ?_
                rintro e w8 ⟨rfl, hb8⟩
                go_wp2_with fail
                refine (lives19 _).mono ?_
                rintro e w9 ⟨rfl, hb9⟩
                go_wp2_with fail
                go_ret
                exact ⟨rfl, (hbr.tr hb8).tr hb9⟩
            · by_cases hB : (1 : Int) < B
              · go_wp2_with fail
                all_goals
                  refine (M4.out _).mono ?_
                  rintro e w8 ⟨rfl, hb8⟩
                  go_wp2_with fail
                  refine (lives19 _).mono ?_
                  rintro e w9 ⟨rfl, hb9⟩
                  go_wp2_with fail
                  go_ret
                  exact ⟨rfl, (hbr.tr hb8).tr hb9⟩
              · go_wp2_with fail
                all_goals
                  refine (M4.out _).mono ?_
                  rintro e w8 ⟨rfl, hb8⟩
                  go_wp2_with fail
                  refine (lives19 _).mono ?_
                  rintro e w9 ⟨rfl, hb9⟩
                  go_wp2_with fail
                  go_ret
                  exact ⟨rfl, (hbr.tr hb8).tr hb9⟩
          · have hB1 : ¬ ((1 : Int) < B) := fun h => hfl (Or.inl h)
            have hP1 : ¬ (P ≤ 0) := fun h => hfl (Or.inr h)
            clear hfl hFl heq2
            go_wp2_with fail
            all_goals
              refine (M4.out _).mono ?_
              rintro e w8 ⟨rfl, hb8⟩
              go_wp2_with fail
              refine (lives19 _).mono ?_
              rintro e w9 ⟨rfl, hb9⟩
              go_wp2_with fail
              go_ret
              exact ⟨rfl, (hbr.tr hb8).tr hb9⟩
    · go_wp2_with fail
      have hk : okB P O 1 := by unfold okB; omega
      have hmb := mul_bd (B := 1) (O := O) (by omega) (by omega) (by omega) O1
      have hM100 : 1 * O ≤ 100 * O := Int.mul_le_mul_of_nonneg_right (by omega) (by omega)
      have hcap := Lib.hid (fun m h m1 => no_cap (O := O) (P := P) (B := 1) (m := m) O0 h (by omega) (by omega) m1)
      refine (new_any P O 1 _ hk).mono ?_
      rintro e w2 ⟨p, rfl, hp, ht, hb2⟩
      have hv2 := var_bl (heap_alloc_new w1 (.cells #[I P, I O, I 1] 23)) hb2
      obtain ⟨x, hx⟩ : ∃ x, w1.heap.size = x := ⟨_, rfl⟩
      have hxp : x < p := by simp at hp; omega
      have hb0 : Bl w w2 := hb1.tr (((Bl.rfl' w1).al _).tr hb2)
      have hwp : w.heap.size ≤ p := by have := hb1.size; omega
      rw [hx] at hv2
      clear hb2 hp hb1
      obtain ⟨M, hM⟩ : ∃ M, 1 * O = M := ⟨_, rfl⟩
      rw [hM] at hmb ht hM100 hcap
      replace hM := Lib.hid hM
      replace hk := Lib.hid hk
      have hFl : ((1 : Int) < 1 ∨ P ≤ 0) ↔ ((1 : Int) < 1 ∨ P + O ≤ O) := by omega
      go_wp2_with fail
      refine (A0.out _).mono ?_
      rintro e w3 ⟨rfl, rfl⟩
      go_wp2_with fail
      go_loopw [8, 9] (fun t i wr => ∃ (k : Nat) (tn m : Int), k ≤ c + 1 ∧ i = I k ∧ t = I tn ∧ 0 ≤ tn ∧ tn ≤ 102 * k ∧ 0 ≤ m ∧ m ≤ M ∧ tn * O + m ≤ M + min (k : Int) c * P ∧ (((1 : Int) < 1 ∨ P ≤ 0) → tn * O + m = M + min (k : Int) c * P) ∧ (k = c + 1 → m < O) ∧ wr.heap[x]? = some (.cells #[I P, I O, I 1] 23 (0, 0)) ∧ TB wr p P O 1 m ∧ Bl w wr) (fun _ i _ => c + 1 - (intOf i).toNat)
      case atStart => exact ⟨0, 0, M, by omega, rfl, rfl, by omega, by omega, by omega, by omega, by rw [q_lo 0 c (by omega)]; simp, fun _ => by rw [q_lo 0 c (by omega)]; simp, fun h => by omega, hv2, ht, hb0⟩
      case round =>
        obtain ⟨k, tn, m, hkc, rfl, rfl, htn0, htn, m0, m1, hin, heq, hlast, hvr, htr, hbr⟩ := hrel
        clear hv2 ht hb0
        by_cases hlt : k ≤ c
        · rw [q_lo k c hlt] at hin heq
          obtain ⟨R, hR⟩ : ∃ t, M + (k : Int) * P = t := ⟨_, rfl⟩
          rw [hR] at hin heq
          replace hR := Lib.hid hR
          replace hin := Lib.hid hin; replace heq := Lib.hid heq
          go_wp2_with fail
          go_loopw [8, 10] (fun t j wr => ∃ (q : Nat) (tn m : Int), q ≤ 102 ∧ j = I q ∧ t = I tn ∧ 0 ≤ tn ∧ tn ≤ 102 * k + q ∧ 0 ≤ m ∧ m ≤ M ∧ tn * O + m ≤ R ∧ (((1 : Int) < 1 ∨ P ≤ 0) → tn * O + m = R) ∧ (m < O ∨ m + q * O ≤ 100 * O) ∧ wr.heap[x]? = some (.cells #[I P, I O, I 1] 23 (0, 0)) ∧ TB wr p P O 1 m ∧ Bl w wr) (fun _ j _ => 102 - (intOf j).toNat)
          case atStart => exact ⟨0, tn, m, by omega, rfl, rfl, by omega, by omega, by omega, by omega, hin.out, heq.out, Or.inr (by simp; omega), hvr, htr, hbr⟩
          case round =>
            obtain ⟨q, tn, m, hq, rfl, rfl, htn0, htn, m0, m1, hin, heq, hdn, hvr, htr, hbr⟩ := hrel
            replace hin := Lib.hid hin; replace heq := Lib.hid heq
            by_cases hq2 : q < 102
            · by_cases hO : O ≤ m
              · have T := take_any wr p P O 1 m htr hk.out m0 (by omega)
                rw [decide_eq_true hO, show tk O m = m - O from if_pos hO] at T
                replace T := Lib.hid T
                replace hdn := Lib.hid hdn
                go_wp2_with fail
                refine T.out.mono ?_
                rintro e w3 ⟨rfl, ht3, hg⟩
                have hv3 := var_gby hvr hg hxp
                have hb3 := hbr.gp hg hwp
                clear hvr hg htr hbr T
                go_wp2_with fail
                go_roundw
                case rel => exact ⟨q + 1, tn + 1, m - O, by omega, by go_num, rfl, by omega, by omega, by omega, by omega, step_le hin.out, fun h => step_eq (heq.out h), by
                    have := hdn.out
                    rcases this with h | h
                    · omega
                    · refine Or.inr ?_
                      rw [show ((q + 1 : Nat) : Int) = (q : Int) + 1 by omega, Int.add_mul]
                      omega, hv3, ht3, hb3⟩
                case measure => simp [intOf] <;> omega
              · have T := take_any wr p P O 1 m htr hk.out m0 (by omega)
                rw [decide_eq_false hO, show tk O m = m from if_neg hO] at T
                replace T := Lib.hid T
                clear hdn
                go_wp2_with fail
                refine T.out.mono ?_
                rintro e w3 ⟨rfl, ht3, hg⟩
                have hv3 := var_gby hvr hg hxp
                have hb3 := hbr.gp hg hwp
                clear hvr hg htr hbr T
                go_wp2_with fail
                go_roundw
                case rel => exact ⟨q + 1, tn, m, by omega, by go_num, rfl, by omega, by omega, by omega, by omega, hin.out, heq.out, Or.inl (by omega), hv3, ht3, hb3⟩
                case measure => simp [intOf] <;> omega
            · obtain rfl : q = 102 := by omega
              have hmO : m < O := by
                rcases hdn with h | h
                · exact h
                · omega
              clear hdn
              by_cases hkl : k < c
              · have F := fresh_any wr p P O 1 m htr hk.out m0 (by omega)
                rw [hM.out] at F
                obtain ⟨m', hm'⟩ : ∃ t, min (m + P) M = t := ⟨_, rfl⟩
                rw [hm'] at F
                replace F := Lib.hid F
                go_wp2_with fail
                refine F.out.mono ?_
                rintro e w3 ⟨rfl, ht3, hg⟩
                have hv3 := var_gby hvr hg hxp
                have hb3 := hbr.gp hg hwp
                clear hvr hg htr hbr F
                go_wp2_with fail
                go_roundw
                case rel =>
                  have e1 : min ((k + 1 : Nat) : Int) (c : Int) = (k : Int) + 1 := by omega
                  refine ⟨k + 1, tn, m', by omega, by go_num, rfl, by omega, by omega, by omega, by omega, ?_, fun h => ?_, fun h => by omega, hv3, ht3, hb3⟩
                  · rw [e1, Int.add_mul, Int.one_mul]
                    have h1 := hin.out; have h2 := hR.out
                    omega
                  · rw [e1, Int.add_mul, Int.one_mul]
                    have h1 := heq.out h; have h2 := hR.out; have h3 := hcap.out m h hmO
                    omega
                case measure => simp [intOf] <;> omega
              · obtain rfl : k = c := by omega
                go_wp2_with fail
                go_roundw
                case rel =>
                  have e1 : min ((k + 1 : Nat) : Int) (k : Int) = (k : Int) := by omega
                  refine ⟨k + 1, tn, m, by omega, by go_num, rfl, by omega, by omega, by omega, by omega, ?_, fun h => ?_, fun h => hmO, hvr, htr, hbr⟩
                  · rw [e1]
                    have h1 := hin.out; have h2 := hR.out
                    omega
                  · rw [e1]
                    have h1 := heq.out h; have h2 := hR.out
                    omega
                case measure => simp [intOf] <;> omega
        · obtain rfl : k = c + 1 := by omega
          have hmO := hlast rfl
          rw [q_hi (c + 1) c (by omega)] at hin heq
          have M4 := fun w' => most_any P O 1 c w' hk.out (by omega) (by omega)
          have hle : tn ≤ 1 + c * P / O := by
            have h1 := con (show 0 < O by omega) (show tn * O + m ≤ 1 * O + c * P by rw [hM.out]; exact hin)
            have h2 := Int.ediv_nonneg m0 (show 0 ≤ O by omega)
            omega
          have heq2 : ((1 : Int) < 1 ∨ P ≤ 0) → tn = 1 + c * P / O := fun h => fin_eq (show 0 < O by omega) (show tn * O + m = 1 * O + c * P by rw [hM.out]; exact heq h) m0 hmO
          obtain ⟨mo, hmo⟩ : ∃ t, 1 + c * P / O = t := ⟨_, rfl⟩
          rw [hmo] at M4 hle heq2
          replace M4 := Lib.hid M4
          obtain ⟨d0, d1, d2⟩ := var_cells' hvr
          clear hmo hin heq hlast htr
          by_cases hfl : (1 : Int) < 1 ∨ P ≤ 0
          · obtain rfl := heq2 hfl
            have hfl2 := hFl.1 hfl
            clear hfl hFl heq2 hle
            rcases hfl2 with hfl2 | hfl2
            · go_wp2_with fail
              all_goals
                refine (M4.out _).mono ?_
                rintro e w8 ⟨rfl, hb8⟩
                go_wp2_with fail
                refine (lives19 _).mono ?_
                rintro e w9 ⟨rfl, hb9⟩
                go_wp2_with fail
                go_ret
                exact ⟨rfl, (hbr.tr hb8).tr hb9⟩
            · by_cases h1 : (1 : Int) < 1
              · go_wp2_with fail
                all_goals
                  refine (M4.out _).mono ?_
                  rintro e w8 ⟨rfl, hb8⟩
                  go_wp2_with fail
                  refine (lives19 _).mono ?_
                  rintro e w9 ⟨rfl, hb9⟩
                  go_wp2_with fail
                  go_ret
                  exact ⟨rfl, (hbr.tr hb8).tr hb9⟩
              · go_wp2_with fail
                all_goals
                  refine (M4.out _).mono ?_
                  rintro e w8 ⟨rfl, hb8⟩
                  go_wp2_with fail
                  refine (lives19 _).mono ?_
                  rintro e w9 ⟨rfl, hb9⟩
                  go_wp2_with fail
                  go_ret
                  exact ⟨rfl, (hbr.tr hb8).tr hb9⟩
          · have hB1 : ¬ ((1 : Int) < 1) := fun h => hfl (Or.inl h)
            have hP1 : ¬ (P ≤ 0) := fun h => hfl (Or.inr h)
            clear hfl hFl heq2
            go_wp2_with fail
            all_goals
              refine (M4.out _).mono ?_
              rintro e w8 ⟨rfl, hb8⟩
              go_wp2_with fail
              refine (lives19 _).mono ?_
              rintro e w9 ⟨rfl, hb9⟩
              go_wp2_with fail
              go_ret
              exact ⟨rfl, (hbr.tr hb8).tr hb9⟩
  · by_cases hB : 1 ≤ B
    · go_wp2_with fail
      have hk : okB O O B := by unfold okB; omega
      have hmb := mul_bd (B := B) (O := O) (by omega) (by omega) (by omega) O1
      have hM100 : B * O ≤ 100 * O := Int.mul_le_mul_of_nonneg_right (by omega) (by omega)
      have hcap := Lib.hid (fun m h m1 => no_cap (O := O) (P := O) (B := B) (m := m) O0 h (by omega) (by omega) m1)
      refine (new_any O O B _ hk).mono ?_
      rintro e w2 ⟨p, rfl, hp, ht, hb2⟩
      have hv2 := var_bl (heap_alloc_new w1 (.cells #[I O, I O, I B] 23)) hb2
      obtain ⟨x, hx⟩ : ∃ x, w1.heap.size = x := ⟨_, rfl⟩
      have hxp : x < p := by simp at hp; omega
      have hb0 : Bl w w2 := hb1.tr (((Bl.rfl' w1).al _).tr hb2)
      have hwp : w.heap.size ≤ p := by have := hb1.size; omega
      rw [hx] at hv2
      clear hb2 hp hb1
      obtain ⟨M, hM⟩ : ∃ M, B * O = M := ⟨_, rfl⟩
      rw [hM] at hmb ht hM100 hcap
      replace hM := Lib.hid hM
      replace hk := Lib.hid hk
      have hFl : ((1 : Int) < B ∨ O ≤ 0) ↔ ((1 : Int) < B ∨ O + O ≤ O) := by omega
      go_wp2_with fail
      refine (A0.out _).mono ?_
      rintro e w3 ⟨rfl, rfl⟩
      go_wp2_with fail
      go_loopw [8, 9] (fun t i wr => ∃ (k : Nat) (tn m : Int), k ≤ c + 1 ∧ i = I k ∧ t = I tn ∧ 0 ≤ tn ∧ tn ≤ 102 * k ∧ 0 ≤ m ∧ m ≤ M ∧ tn * O + m ≤ M + min (k : Int) c * O ∧ (((1 : Int) < B ∨ O ≤ 0) → tn * O + m = M + min (k : Int) c * O) ∧ (k = c + 1 → m < O) ∧ wr.heap[x]? = some (.cells #[I O, I O, I B] 23 (0, 0)) ∧ TB wr p O O B m ∧ Bl w wr) (fun _ i _ => c + 1 - (intOf i).toNat)
      case atStart => exact ⟨0, 0, M, by omega, rfl, rfl, by omega, by omega, by omega, by omega, by rw [q_lo 0 c (by omega)]; simp, fun _ => by rw [q_lo 0 c (by omega)]; simp, fun h => by omega, hv2, ht, hb0⟩
      case round =>
        obtain ⟨k, tn, m, hkc, rfl, rfl, htn0, htn, m0, m1, hin, heq, hlast, hvr, htr, hbr⟩ := hrel
        clear hv2 ht hb0
        by_cases hlt : k ≤ c
        · rw [q_lo k c hlt] at hin heq
          obtain ⟨R, hR⟩ : ∃ t, M + (k : Int) * O = t := ⟨_, rfl⟩
          rw [hR] at hin heq
          replace hR := Lib.hid hR
          replace hin := Lib.hid hin; replace heq := Lib.hid heq
          go_wp2_with fail
          go_loopw [8, 10] (fun t j wr => ∃ (q : Nat) (tn m : Int), q ≤ 102 ∧ j = I q ∧ t = I tn ∧ 0 ≤ tn ∧ tn ≤ 102 * k + q ∧ 0 ≤ m ∧ m ≤ M ∧ tn * O + m ≤ R ∧ (((1 : Int) < B ∨ O ≤ 0) → tn * O + m = R) ∧ (m < O ∨ m + q * O ≤ 100 * O) ∧ wr.heap[x]? = some (.cells #[I O, I O, I B] 23 (0, 0)) ∧ TB wr p O O B m ∧ Bl w wr) (fun _ j _ => 102 - (intOf j).toNat)
          case atStart => exact ⟨0, tn, m, by omega, rfl, rfl, by omega, by omega, by omega, by omega, hin.out, heq.out, Or.inr (by simp; omega), hvr, htr, hbr⟩
          case round =>
            obtain ⟨q, tn, m, hq, rfl, rfl, htn0, htn, m0, m1, hin, heq, hdn, hvr, htr, hbr⟩ := hrel
            replace hin := Lib.hid hin; replace heq := Lib.hid heq
            by_cases hq2 : q < 102
            · by_cases hO : O ≤ m
              · have T := take_any wr p O O B m htr hk.out m0 (by omega)
                rw [decide_eq_true hO, show tk O m = m - O from if_pos hO] at T
                replace T := Lib.hid T
                replace hdn := Lib.hid hdn
                go_wp2_with fail
                refine T.out.mono ?_
                rintro e w3 ⟨rfl, ht3, hg⟩
                have hv3 := var_gby hvr hg hxp
                have hb3 := hbr.gp hg hwp
                clear hvr hg htr hbr T
                go_wp2_with fail
                go_roundw
                case rel => exact ⟨q + 1, tn + 1, m - O, by omega, by go_num, rfl, by omega, by omega, by omega, by omega, step_le hin.out, fun h => step_eq (heq.out h), by
                    have := hdn.out
                    rcases this with h | h
                    · omega
                    · refine Or.inr ?_
                      rw [show ((q + 1 : Nat) : Int) = (q : Int) + 1 by omega, Int.add_mul]
                      omega, hv3, ht3, hb3⟩
                case measure => simp [intOf] <;> omega
              · have T := take_any wr p O O B m htr hk.out m0 (by omega)
                rw [decide_eq_false hO, show tk O m = m from if_neg hO] at T
                replace T := Lib.hid T
                clear hdn
                go_wp2_with fail
                refine T.out.mono ?_
                rintro e w3 ⟨rfl, ht3, hg⟩
                have hv3 := var_gby hvr hg hxp
                have hb3 := hbr.gp hg hwp
                clear hvr hg htr hbr T
                go_wp2_with fail
                go_roundw
                case rel => exact ⟨q + 1, tn, m, by omega, by go_num, rfl, by omega, by omega, by omega, by omega, hin.out, heq.out, Or.inl (by omega), hv3, ht3, hb3⟩
                case measure => simp [intOf] <;> omega
            · obtain rfl : q = 102 := by omega
              have hmO : m < O := by
                rcases hdn with h | h
                · exact h
                · omega
              clear hdn
              by_cases hkl : k < c
              · have F := fresh_any wr p O O B m htr hk.out m0 (by omega)
                rw [hM.out] at F
                obtain ⟨m', hm'⟩ : ∃ t, min (m + O) M = t := ⟨_, rfl⟩
                rw [hm'] at F
                replace F := Lib.hid F
                go_wp2_with fail
                refine F.out.mono ?_
                rintro e w3 ⟨rfl, ht3, hg⟩
                have hv3 := var_gby hvr hg hxp
                have hb3 := hbr.gp hg hwp
                clear hvr hg htr hbr F
                go_wp2_with fail
                go_roundw
                case rel =>
                  have e1 : min ((k + 1 : Nat) : Int) (c : Int) = (k : Int) + 1 := by omega
                  refine ⟨k + 1, tn, m', by omega, by go_num, rfl, by omega, by omega, by omega, by omega, ?_, fun h => ?_, fun h => by omega, hv3, ht3, hb3⟩
                  · rw [e1, Int.add_mul, Int.one_mul]
                    have h1 := hin.out; have h2 := hR.out
                    omega
                  · rw [e1, Int.add_mul, Int.one_mul]
                    have h1 := heq.out h; have h2 := hR.out; have h3 := hcap.out m h hmO
                    omega
                case measure => simp [intOf] <;> omega
              · obtain rfl : k = c := by omega
                go_wp2_with fail
                go_roundw
                case rel =>
                  have e1 : min ((k + 1 : Nat) : Int) (k : Int) = (k : Int) := by omega
                  refine ⟨k + 1, tn, m, by omega, by go_num, rfl, by omega, by omega, by omega, by omega, ?_, fun h => ?_, fun h => hmO, hvr, htr, hbr⟩
                  · rw [e1]
                    have h1 := hin.out; have h2 := hR.out
                    omega
                  · rw [e1]
                    have h1 := heq.out h; have h2 := hR.out
                    omega
                case measure => simp [intOf] <;> omega
        · obtain rfl : k = c + 1 := by omega
          have hmO := hlast rfl
          rw [q_hi (c + 1) c (by omega)] at hin heq
          have M4 := fun w' => most_any O O B c w' hk.out (by omega) (by omega)
          have hle : tn ≤ B + c * O / O := by
            have h1 := con (show 0 < O by omega) (show tn * O + m ≤ B * O + c * O by rw [hM.out]; exact hin)
            have h2 := Int.ediv_nonneg m0 (show 0 ≤ O by omega)
            omega
          have heq2 : ((1 : Int) < B ∨ O ≤ 0) → tn = B + c * O / O := fun h => fin_eq (show 0 < O by omega) (show tn * O + m = B * O + c * O by rw [hM.out]; exact heq h) m0 hmO
          obtain ⟨mo, hmo⟩ : ∃ t, B + c * O / O = t := ⟨_, rfl⟩
          rw [hmo] at M4 hle heq2
          replace M4 := Lib.hid M4
          obtain ⟨d0, d1, d2⟩ := var_cells' hvr
          clear hmo hin heq hlast htr
          by_cases hfl : (1 : Int) < B ∨ O ≤ 0
          · obtain rfl := heq2 hfl
            have hfl2 := hFl.1 hfl
            clear hfl hFl heq2 hle
            rcases hfl2 with hfl2 | hfl2
            · go_wp2_with fail
              all_goals
                refine (M4.out _).mono ?_
                rintro e w8 ⟨rfl, hb8⟩
                go_wp2_with fail
                refine (lives19 _).mono ?_
                rintro e w9 ⟨rfl, hb9⟩
                go_wp2_with fail
                go_ret
                exact ⟨rfl, (hbr.tr hb8).tr hb9⟩
            · by_cases hB : (1 : Int) < B
              · go_wp2_with fail
                all_goals
                  refine (M4.out _).mono ?_
                  rintro e w8 ⟨rfl, hb8⟩
                  go_wp2_with fail
                  refine (lives19 _).mono ?_
                  rintro e w9 ⟨rfl, hb9⟩
                  go_wp2_with fail
                  go_ret
                  exact ⟨rfl, (hbr.tr hb8).tr hb9⟩
              · go_wp2_with fail
                all_goals
                  refine (M4.out _).mono ?_
                  rintro e w8 ⟨rfl, hb8⟩
                  go_wp2_with fail
                  refine (lives19 _).mono ?_
                  rintro e w9 ⟨rfl, hb9⟩
                  go_wp2_with fail
                  go_ret
                  exact ⟨rfl, (hbr.tr hb8).tr hb9⟩
          · have hB1 : ¬ ((1 : Int) < B) := fun h => hfl (Or.inl h)
            have hP1 : ¬ (O ≤ 0) := fun h => hfl (Or.inr h)
            clear hfl hFl heq2
            go_wp2_with fail
            all_goals
              refine (M4.out _).mono ?_
              rintro e w8 ⟨rfl, hb8⟩
              go_wp2_with fail
              refine (lives19 _).mono ?_
              rintro e w9 ⟨rfl, hb9⟩
              go_wp2_with fail
              go_ret
              exact ⟨rfl, (hbr.tr hb8).tr hb9⟩
    · go_wp2_with fail
      have hk : okB O O 1 := by unfold okB; omega
      have hmb := mul_bd (B := 1) (O := O) (by omega) (by omega) (by omega) O1
      have hM100 : 1 * O ≤ 100 * O := Int.mul_le_mul_of_nonneg_right (by omega) (by omega)
      have hcap := Lib.hid (fun m h m1 => no_cap (O := O) (P := O) (B := 1) (m := m) O0 h (by omega) (by omega) m1)
      refine (new_any O O 1 _ hk).mono ?_
      rintro e w2 ⟨p, rfl, hp, ht, hb2⟩
      have hv2 := var_bl (heap_alloc_new w1 (.cells #[I O, I O, I 1] 23)) hb2
      obtain ⟨x, hx⟩ : ∃ x, w1.heap.size = x := ⟨_, rfl⟩
      have hxp : x < p := by simp at hp; omega
      have hb0 : Bl w w2 := hb1.tr (((Bl.rfl' w1).al _).tr hb2)
      have hwp : w.heap.size ≤ p := by have := hb1.size; omega
      rw [hx] at hv2
      clear hb2 hp hb1
      obtain ⟨M, hM⟩ : ∃ M, 1 * O = M := ⟨_, rfl⟩
      rw [hM] at hmb ht hM100 hcap
      replace hM := Lib.hid hM
      replace hk := Lib.hid hk
      have hFl : ((1 : Int) < 1 ∨ O ≤ 0) ↔ ((1 : Int) < 1 ∨ O + O ≤ O) := by omega
      go_wp2_with fail
      refine (A0.out _).mono ?_
      rintro e w3 ⟨rfl, rfl⟩
      go_wp2_with fail
      go_loopw [8, 9] (fun t i wr => ∃ (k : Nat) (tn m : Int), k ≤ c + 1 ∧ i = I k ∧ t = I tn ∧ 0 ≤ tn ∧ tn ≤ 102 * k ∧ 0 ≤ m ∧ m ≤ M ∧ tn * O + m ≤ M + min (k : Int) c * O ∧ (((1 : Int) < 1 ∨ O ≤ 0) → tn * O + m = M + min (k : Int) c * O) ∧ (k = c + 1 → m < O) ∧ wr.heap[x]? = some (.cells #[I O, I O, I 1] 23 (0, 0)) ∧ TB wr p O O 1 m ∧ Bl w wr) (fun _ i _ => c + 1 - (intOf i).toNat)
      case atStart => exact ⟨0, 0, M, by omega, rfl, rfl, by omega, by omega, by omega, by omega, by rw [q_lo 0 c (by omega)]; simp, fun _ => by rw [q_lo 0 c (by omega)]; simp, fun h => by omega, hv2, ht, hb0⟩
      case round =>
        obtain ⟨k, tn, m, hkc, rfl, rfl, htn0, htn, m0, m1, hin, heq, hlast, hvr, htr, hbr⟩ := hrel
        clear hv2 ht hb0
        by_cases hlt : k ≤ c
        · rw [q_lo k c hlt] at hin heq
          obtain ⟨R, hR⟩ : ∃ t, M + (k : Int) * O = t := ⟨_, rfl⟩
          rw [hR] at hin heq
          replace hR := Lib.hid hR
          replace hin := Lib.hid hin; replace heq := Lib.hid heq
          go_wp2_with fail
          go_loopw [8, 10] (fun t j wr => ∃ (q : Nat) (tn m : Int), q ≤ 102 ∧ j = I q ∧ t = I tn ∧ 0 ≤ tn ∧ tn ≤ 102 * k + q ∧ 0 ≤ m ∧ m ≤ M ∧ tn * O + m ≤ R ∧ (((1 : Int) < 1 ∨ O ≤ 0) → tn * O + m = R) ∧ (m < O ∨ m + q * O ≤ 100 * O) ∧ wr.heap[x]? = some (.cells #[I O, I O, I 1] 23 (0, 0)) ∧ TB wr p O O 1 m ∧ Bl w wr) (fun _ j _ => 102 - (intOf j).toNat)
          case atStart => exact ⟨0, tn, m, by omega, rfl, rfl, by omega, by omega, by omega, by omega, hin.out, heq.out, Or.inr (by simp; omega), hvr, htr, hbr⟩
          case round =>
            obtain ⟨q, tn, m, hq, rfl, rfl, htn0, htn, m0, m1, hin, heq, hdn, hvr, htr, hbr⟩ := hrel
            replace hin := Lib.hid hin; replace heq := Lib.hid heq
            by_cases hq2 : q < 102
            · by_cases hO : O ≤ m
              · have T := take_any wr p O O 1 m htr hk.out m0 (by omega)
                rw [decide_eq_true hO, show tk O m = m - O from if_pos hO] at T
                replace T := Lib.hid T
                replace hdn := Lib.hid hdn
                go_wp2_with fail
                refine T.out.mono ?_
                rintro e w3 ⟨rfl, ht3, hg⟩
                have hv3 := var_gby hvr hg hxp
                have hb3 := hbr.gp hg hwp
                clear hvr hg htr hbr T
                go_wp2_with fail
                go_roundw
                case rel => exact ⟨q + 1, tn + 1, m - O, by omega, by go_num, rfl, by omega, by omega, by omega, by omega, step_le hin.out, fun h => step_eq (heq.out h), by
                    have := hdn.out
                    rcases this with h | h
                    · omega
                    · refine Or.inr ?_
                      rw [show ((q + 1 : Nat) : Int) = (q : Int) + 1 by omega, Int.add_mul]
                      omega, hv3, ht3, hb3⟩
                case measure => simp [intOf] <;> omega
              · have T := take_any wr p O O 1 m htr hk.out m0 (by omega)
                rw [decide_eq_false hO, show tk O m = m from if_neg hO] at T
                replace T := Lib.hid T
                clear hdn
                go_wp2_with fail
                refine T.out.mono ?_
                rintro e w3 ⟨rfl, ht3, hg⟩
                have hv3 := var_gby hvr hg hxp
                have hb3 := hbr.gp hg hwp
                clear hvr hg htr hbr T
                go_wp2_with fail
                go_roundw
                case rel => exact ⟨q + 1, tn, m, by omega, by go_num, rfl, by omega, by omega, by omega, by omega, hin.out, heq.out, Or.inl (by omega), hv3, ht3, hb3⟩
                case measure => simp [intOf] <;> omega
            · obtain rfl : q = 102 := by omega
              have hmO : m < O := by
                rcases hdn with h | h
                · exact h
                · omega
              clear hdn
              by_cases hkl : k < c
              · have F := fresh_any wr p O O 1 m htr hk.out m0 (by omega)
                rw [hM.out] at F
                obtain ⟨m', hm'⟩ : ∃ t, min (m + O) M = t := ⟨_, rfl⟩
                rw [hm'] at F
                replace F := Lib.hid F
                go_wp2_with fail
                refine F.out.mono ?_
                rintro e w3 ⟨rfl, ht3, hg⟩
                have hv3 := var_gby hvr hg hxp
                have hb3 := hbr.gp hg hwp
                clear hvr hg htr hbr F
                go_wp2_with fail
                go_roundw
                case rel =>
                  have e1 : min ((k + 1 : Nat) : Int) (c : Int) = (k : Int) + 1 := by omega
                  refine ⟨k + 1, tn, m', by omega, by go_num, rfl, by omega, by omega, by omega, by omega, ?_, fun h => ?_, fun h => by omega, hv3, ht3, hb3⟩
                  · rw [e1, Int.add_mul, Int.one_mul]
                    have h1 := hin.out; have h2 := hR.out
                    omega
                  · rw [e1, Int.add_mul, Int.one_mul]
                    have h1 := heq.out h; have h2 := hR.out; have h3 := hcap.out m h hmO
                    omega
                case measure => simp [intOf] <;> omega
              · obtain rfl : k = c := by omega
                go_wp2_with fail
                go_roundw
                case rel =>
                  have e1 : min ((k + 1 : Nat) : Int) (k : Int) = (k : Int) := by omega
                  refine ⟨k + 1, tn, m, by omega, by go_num, rfl, by omega, by omega, by omega, by omega, ?_, fun h => ?_, fun h => hmO, hvr, htr, hbr⟩
                  · rw [e1]
                    have h1 := hin.out; have h2 := hR.out
                    omega
                  · rw [e1]
                    have h1 := heq.out h; have h2 := hR.out
                    omega
                case measure => simp [intOf] <;> omega
        · obtain rfl : k = c + 1 := by omega
          have hmO := hlast rfl
          rw [q_hi (c + 1) c (by omega)] at hin heq
          have M4 := fun w' => most_any O O 1 c w' hk.out (by omega) (by omega)
          have hle : tn ≤ 1 + c * O / O := by
            have h1 := con (show 0 < O by omega) (show tn * O + m ≤ 1 * O + c * O by rw [hM.out]; exact hin)
            have h2 := Int.ediv_nonneg m0 (show 0 ≤ O by omega)
            omega
          have heq2 : ((1 : Int) < 1 ∨ O ≤ 0) → tn = 1 + c * O / O := fun h => fin_eq (show 0 < O by omega) (show tn * O + m = 1 * O + c * O by rw [hM.out]; exact heq h) m0 hmO
          obtain ⟨mo, hmo⟩ : ∃ t, 1 + c * O / O = t := ⟨_, rfl⟩
          rw [hmo] at M4 hle heq2
          replace M4 := Lib.hid M4
          obtain ⟨d0, d1, d2⟩ := var_cells' hvr
          clear hmo hin heq hlast htr
          by_cases hfl : (1 : Int) < 1 ∨ O ≤ 0
          · obtain rfl := heq2 hfl
            have hfl2 := hFl.1 hfl
            clear hfl hFl heq2 hle
            rcases hfl2 with hfl2 | hfl2
            · go_wp2_with fail
              all_goals
                refine (M4.out _).mono ?_
                rintro e w8 ⟨rfl, hb8⟩
                go_wp2_with fail
                refine (lives19 _).mono ?_
                rintro e w9 ⟨rfl, hb9⟩
                go_wp2_with fail
                go_ret
                exact ⟨rfl, (hbr.tr hb8).tr hb9⟩
            · by_cases h1 : (1 : Int) < 1
              · go_wp2_with fail
                all_goals
                  refine (M4.out _).mono ?_
                  rintro e w8 ⟨rfl, hb8⟩
                  go_wp2_with fail
                  refine (lives19 _).mono ?_
                  rintro e w9 ⟨rfl, hb9⟩
                  go_wp2_with fail
                  go_ret
                  exact ⟨rfl, (hbr.tr hb8).tr hb9⟩
              · go_wp2_with fail
                all_goals
                  refine (M4.out _).mono ?_
                  rintro e w8 ⟨rfl, hb8⟩
                  go_wp2_with fail
                  refine (lives19 _).mono ?_
                  rintro e w9 ⟨rfl, hb9⟩
                  go_wp2_with fail
                  go_ret
                  exact ⟨rfl, (hbr.tr hb8).tr hb9⟩
          · have hB1 : ¬ ((1 : Int) < 1) := fun h => hfl (Or.inl h)
            have hP1 : ¬ (O ≤ 0) := fun h => hfl (Or.inr h)
            clear hfl hFl heq2
            go_wp2_with fail
            all_goals
              refine (M4.out _).mono ?_
              rintro e w8 ⟨rfl, hb8⟩
              go_wp2_with fail
              refine (lives19 _).mono ?_
              rintro e w9 ⟨rfl, hb9⟩
              go_wp2_with fail
              go_ret
              exact ⟨rfl, (hbr.tr hb8).tr hb9⟩
end Go.Proofs.Ytionbanfknphoaa.tokenAll
