/-
  TokenStorm is true for every input: of calls in a row, wherever they stand among others, no more are taken than Most tells of these alone. No condition.
-/
import Derived.Test.YtionbanfknphoaaTokC
namespace Go.Proofs.Ytionbanfknphoaa.tokenStorm
open Go.ChangeShapes Go.WideShapes Go.ChangeAt Go.RowKit
open Go.Proofs.Ytionbanfknphoaa.token
set_option linter.unusedVariables false
set_option linter.unusedSimpArgs false

set_option maxHeartbeats 4000000 in
theorem walk {w : World} (n : Int) (n0 : -9223372036854775808 ≤ n) (n1 : n ≤ 9223372036854775807) (v : Value) (z : List Bool) (hv : Rd w v z.length z.length (fun i => .bool (z.getD i false))) (hm : z.length ≤ maxLen) (f : Int) (f0 : -9223372036854775808 ≤ f) (f1 : f ≤ 9223372036854775807) :
    Calls Try.prog 6 #[.int .i64 n, v, .int .i64 f] w fun e w' => e = .returned (.bool true) ∧ Bl w w' := by
  obtain ⟨a, cap, rfl, R⟩ := rd_any hv
  obtain ⟨K, hK⟩ : ∃ K, z.length = K := ⟨_, rfl⟩
  rw [hK] at R hm ⊢
  unfold maxLen at hm
  replace R := Lib.hid R
  clear hv hK
  have A0 := fun w => around_any f 80 w f0 f1 (by omega) (by omega)
  have g0 := around_lo f 80 (by omega); have g1 := around_hi f 80 (by omega)
  obtain ⟨s, hs⟩ : ∃ t, around f 80 = t := ⟨_, rfl⟩
  rw [hs] at A0 g0 g1
  replace A0 := Lib.hid A0
  clear hs f0 f1
  have Bu := Lib.hid (fun w => budget_any n w n0 n1)
  go_enter Try.func6, Try.ntmps6
  go_wp2_with fail
  refine (Bu.out _).mono ?_
  rintro e w1 ⟨P, O, B, rfl, hk, hb1⟩
  go_wp2_with fail
  refine (new_any P O B _ hk).mono ?_
  rintro e w2 ⟨p, rfl, hp, ht, hb2⟩
  have hv2 := var_bl (heap_alloc_new w1 (.cells #[I P, I O, I B] 23)) hb2
  obtain ⟨x, hx⟩ : ∃ x, w1.heap.size = x := ⟨_, rfl⟩
  have hxp : x < p := by simp at hp; omega
  have hb0 : Bl w w2 := hb1.tr (((Bl.rfl' w1).al _).tr hb2)
  have hwp : w.heap.size ≤ p := by have := hb1.size; omega
  rw [hx] at hv2
  clear hb2 hp hb1
  have hk' := hk
  obtain ⟨P0, P1, O0, O1, B0, B1⟩ := hk'
  have hmb := mul_bd B0 B1 (by omega) O1
  obtain ⟨M, hM⟩ : ∃ M, B * O = M := ⟨_, rfl⟩
  rw [hM] at hmb ht
  replace hk := Lib.hid hk
  go_wp2_with fail
  have hmo : ∀ (c : Int), 0 ≤ c → c ≤ 100 → 0 ≤ c * P / O ∧ c * P / O ≤ 10000 := by
    intro c c0 c1
    have h1 : c * P ≤ 100 * P := Int.mul_le_mul_of_nonneg_right c1 P0
    have h0 : 0 ≤ c * P := Int.mul_nonneg c0 P0
    have h2 := Int.ediv_le_self O h0
    exact ⟨Int.ediv_nonneg h0 (by omega), by omega⟩
  have hdm : ∀ m : Int, 0 ≤ m → m ≤ M → 0 ≤ m / O ∧ m / O ≤ 10000 := by
    intro m m0 m1
    have h2 := Int.ediv_le_self O m0
    exact ⟨Int.ediv_nonneg m0 (by omega), by omega⟩
  replace hmo := Lib.hid hmo; replace hdm := Lib.hid hdm
  replace hM := Lib.hid hM
  replace hM := Lib.hid hM
  refine (A0.out _).mono ?_
  rintro e w3 ⟨rfl, rfl⟩
  go_wp2_with fail
  go_loopw [10, 11, 12] (fun c t i wr => ∃ (k : Nat) (cn tn m : Int), k ≤ K ∧ k ≤ 80 ∧ i = I k ∧ c = I cn ∧ t = I tn ∧ 0 ≤ cn ∧ cn ≤ k ∧ 0 ≤ tn ∧ tn ≤ k ∧ 0 ≤ m ∧ m ≤ M ∧ tn * O + m ≤ M + cn * P ∧ ((k : Int) ≤ s → cn = 0 ∧ tn = 0) ∧ wr.heap[x]? = some (.cells #[I P, I O, I B] 23 (0, 0)) ∧ TB wr p P O B m ∧ Bl w wr) (fun _ _ i _ => K - (intOf i).toNat)
  case atStart => exact ⟨0, 0, 0, M, by omega, by omega, rfl, rfl, rfl, by omega, by omega, by omega, by omega, by omega, by omega, by simp, fun _ => ⟨rfl, rfl⟩, hv2, ht, hb0⟩
  case round =>
    obtain ⟨k, cn, tn, m, hkK, hk1, rfl, rfl, rfl, hcn0, hcn, htn0, htn, m0, m1, hin, hz0, hvr, htr, hbr⟩ := hrel
    clear hv2 ht hb0
    by_cases hlt : k < K ∧ k < 80
    · obtain ⟨hlt, hlt2⟩ := hlt
      obtain ⟨b, off, rfl, hce⟩ := R.out wr hbr k hlt
      replace hin := Lib.hid hin
      replace hz0 := Lib.hid hz0
      cases hz : z.getD k false with
      | true =>
        rw [hz] at hce
        have F := Lib.hid (fresh_any wr p P O B m htr hk.out m0 (by omega))
        clear hz
        by_cases hks : s ≤ (k : Int)
        · go_wp2_with fail
          refine F.out.mono ?_
          rintro e w3 ⟨rfl, ht3, hg⟩
          have hv3 := var_gby hvr hg hxp
          have hb3 := hbr.gp hg hwp
          rw [hM.out] at ht3
          clear hvr hg htr hbr hce F
          go_wp2_with fail
          go_roundw
          case rel =>
            refine ⟨k + 1, cn + 1, tn, min (m + P) M, by omega, by omega, by go_num, rfl, rfl, by omega, by omega, htn0, by omega, by omega, by omega, ?_, fun h => by omega, hv3, ht3, hb3⟩
            have := hin.out
            rw [Int.add_mul]; omega
          case measure => simp [intOf]; omega
        · go_wp2_with fail
          refine F.out.mono ?_
          rintro e w3 ⟨rfl, ht3, hg⟩
          have hv3 := var_gby hvr hg hxp
          have hb3 := hbr.gp hg hwp
          rw [hM.out] at ht3
          clear hvr hg htr hbr hce F
          go_wp2_with fail
          go_roundw
          case rel =>
            obtain ⟨rfl, rfl⟩ := hz0.out (by omega)
            exact ⟨k + 1, 0, 0, min (m + P) M, by omega, by omega, by go_num, rfl, rfl, by omega, by omega, by omega, by omega, by omega, by omega, by omega, fun h => ⟨rfl, rfl⟩, hv3, ht3, hb3⟩
          case measure => simp [intOf]; omega
      | false =>
        rw [hz] at hce
        clear hz
        by_cases hO : O ≤ m
        · have T := take_any wr p P O B m htr hk.out m0 (by omega)
          rw [decide_eq_true hO, show tk O m = m - O from if_pos hO] at T
          replace T := Lib.hid T
          by_cases hks : s ≤ (k : Int)
          · go_wp2_with fail
            refine T.out.mono ?_
            rintro e w3 ⟨rfl, ht3, hg⟩
            have hv3 := var_gby hvr hg hxp
            have hb3 := hbr.gp hg hwp
            clear hvr hg htr hbr hce T
            go_wp2_with fail
            go_roundw
            case rel =>
              refine ⟨k + 1, cn, tn + 1, m - O, by omega, by omega, by go_num, rfl, rfl, by omega, by omega, by omega, by omega, by omega, by omega, ?_, fun h => by omega, hv3, ht3, hb3⟩
              have := hin.out
              rw [Int.add_mul]; omega
            case measure => simp [intOf]; omega
          · go_wp2_with fail
            refine T.out.mono ?_
            rintro e w3 ⟨rfl, ht3, hg⟩
            have hv3 := var_gby hvr hg hxp
            have hb3 := hbr.gp hg hwp
            clear hvr hg htr hbr hce T
            go_wp2_with fail
            go_roundw
            case rel =>
              obtain ⟨rfl, rfl⟩ := hz0.out (by omega)
              exact ⟨k + 1, 0, 0, m - O, by omega, by omega, by go_num, rfl, rfl, by omega, by omega, by omega, by omega, by omega, by omega, by omega, fun h => ⟨rfl, rfl⟩, hv3, ht3, hb3⟩
            case measure => simp [intOf]; omega
        · have T := take_any wr p P O B m htr hk.out m0 (by omega)
          rw [decide_eq_false hO, show tk O m = m from if_neg hO] at T
          replace T := Lib.hid T
          go_wp2_with fail
          refine T.out.mono ?_
          rintro e w3 ⟨rfl, ht3, hg⟩
          have hv3 := var_gby hvr hg hxp
          have hb3 := hbr.gp hg hwp
          clear hvr hg htr hbr hce T
          go_wp2_with fail
          go_roundw
          case rel => exact ⟨k + 1, cn, tn, m, by omega, by omega, by go_num, rfl, rfl, by omega, by omega, by omega, by omega, by omega, by omega, hin.out, fun h => hz0.out (by omega), hv3, ht3, hb3⟩
          case measure => simp [intOf]; omega
    · have hle : tn ≤ B + cn * P / O := by
        have h1 := con (show 0 < O by omega) (show tn * O + m ≤ B * O + cn * P by rw [hM.out]; exact hin)
        have h2 := Int.ediv_nonneg m0 (show 0 ≤ O by omega)
        omega
      have M4 := fun w' => most_any P O B cn w' hk.out hcn0 (by omega)
      obtain ⟨mo, hmo⟩ : ∃ t, B + cn * P / O = t := ⟨_, rfl⟩
      rw [hmo] at M4 hle
      replace M4 := Lib.hid M4
      obtain ⟨d0, d1, d2⟩ := var_cells' hvr
      clear hmo hin hz0 R
      have hh : k < K ∨ k = K := by omega
      by_cases h1 : k < K
      · obtain rfl : k = 80 := by omega
        go_wp2_with fail
        refine (M4.out _).mono ?_
        rintro e w8 ⟨rfl, hb8⟩
        go_wp2_with fail
        refine (lives19 _).mono ?_
        rintro e w9 ⟨rfl, hb9⟩
        go_wp2_with fail
        go_ret
        exact ⟨rfl, (hbr.tr hb8).tr hb9⟩
      · obtain rfl : k = K := by omega
        go_wp2_with fail
        refine (M4.out _).mono ?_
        rintro e w8 ⟨rfl, hb8⟩
        go_wp2_with fail
        refine (lives19 _).mono ?_
        rintro e w9 ⟨rfl, hb9⟩
        go_wp2_with fail
        go_ret
        exact ⟨rfl, (hbr.tr hb8).tr hb9⟩
end Go.Proofs.Ytionbanfknphoaa.tokenStorm
