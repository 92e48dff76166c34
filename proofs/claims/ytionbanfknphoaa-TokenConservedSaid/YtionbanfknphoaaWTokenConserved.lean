/-
  TokenConserved is true for every input: behind so many calls no more were taken than Most tells, however they were asked. No condition.
-/
import Derived.Test.YtionbanfknphoaaTokC
namespace Go.Proofs.Ytionbanfknphoaa.tokenConserved
open Go.ChangeShapes Go.WideShapes Go.ChangeAt Go.RowKit
open Go.Proofs.Ytionbanfknphoaa.token
set_option linter.unusedVariables false
set_option linter.unusedSimpArgs false

set_option maxHeartbeats 4000000 in
theorem walk {w : World} (n : Int) (n0 : -9223372036854775808 ≤ n) (n1 : n ≤ 9223372036854775807) (v : Value) (z : List Bool) (hv : Rd w v z.length z.length (fun i => .bool (z.getD i false))) (hm : z.length ≤ maxLen) :
    Calls Try.prog 5 #[.int .i64 n, v] w fun e w' => e = .returned (.bool true) ∧ Bl w w' := by
  obtain ⟨a, cap, rfl, R⟩ := rd_any hv
  obtain ⟨K, hK⟩ : ∃ K, z.length = K := ⟨_, rfl⟩
  rw [hK] at R hm ⊢
  unfold maxLen at hm
  replace R := Lib.hid R
  clear hv hK
  have Bu := Lib.hid (fun w => budget_any n w n0 n1)
  go_enter Try.func5, Try.ntmps5
  go_wp2_with fail
  refine (Bu.out _).mono ?_
  rintro e w1 ⟨P, O, B, rfl, hk, hb1⟩
  go_wp2_with fail
  refine (new_any P O B _ hk).mono ?_
  rintro e w2 ⟨p, rfl, hp, ht, hb2⟩
  have hv2 := var_bl (heap_alloc_new w1 (.cells #[I P, I O, I B] 23)) hb2
  obtain ⟨x, hx⟩ : ∃ x, w1.heap.size = x := ⟨_, rfl⟩
  have hxp : x < p := by simp at hp; omega
  have hb0 : Bl w w2 := hb1.tr (((Bl.rfl' w1).al _).tr hb2)
  have hwp : w.heap.size ≤ p := by have := hb1.size; omega
  rw [hx] at hv2
  clear hb2 hp hb1
  have hk' := hk
  obtain ⟨P0, P1, O0, O1, B0, B1⟩ := hk'
  have hmb := mul_bd B0 B1 (by omega) O1
  obtain ⟨M, hM⟩ : ∃ M, B * O = M := ⟨_, rfl⟩
  rw [hM] at hmb ht
  replace hk := Lib.hid hk
  go_wp2_with fail
  have hmo : ∀ (c : Int), 0 ≤ c → c ≤ 100 → 0 ≤ c * P / O ∧ c * P / O ≤ 10000 := by
    intro c c0 c1
    have h1 : c * P ≤ 100 * P := Int.mul_le_mul_of_nonneg_right c1 P0
    have h0 : 0 ≤ c * P := Int.mul_nonneg c0 P0
    have h2 := Int.ediv_le_self O h0
    exact ⟨Int.ediv_nonneg h0 (by omega), by omega⟩
  have hdm : ∀ m : Int, 0 ≤ m → m ≤ M → 0 ≤ m / O ∧ m / O ≤ 10000 := by
    intro m m0 m1
    have h2 := Int.ediv_le_self O m0
    exact ⟨Int.ediv_nonneg m0 (by omega), by omega⟩
  replace hmo := Lib.hid hmo; replace hdm := Lib.hid hdm
  replace hM := Lib.hid hM
  go_loopw [7, 8, 9] (fun c t i wr => ∃ (k : Nat) (cn tn m : Int), k ≤ K ∧ k ≤ 100 ∧ i = I k ∧ c = I cn ∧ t = I tn ∧ 0 ≤ cn ∧ cn ≤ k ∧ 0 ≤ tn ∧ tn ≤ k ∧ 0 ≤ m ∧ m ≤ M ∧ tn * O + m ≤ M + cn * P ∧ wr.heap[x]? = some (.cells #[I P, I O, I B] 23 (0, 0)) ∧ TB wr p P O B m ∧ Bl w wr) (fun _ _ i _ => K - (intOf i).toNat)
  case atStart => exact ⟨0, 0, 0, M, by omega, by omega, rfl, rfl, rfl, by omega, by omega, by omega, by omega, by omega, by omega, by simp, hv2, ht, hb0⟩
  case round =>
    obtain ⟨k, cn, tn, m, hkK, hk1, rfl, rfl, rfl, hcn0, hcn, htn0, htn, m0, m1, hin, hvr, htr, hbr⟩ := hrel
    clear hv2 ht hb0
    by_cases hlt : k < K ∧ k < 100
    · obtain ⟨hlt, hlt2⟩ := hlt
      obtain ⟨b, off, rfl, hce⟩ := R.out wr hbr k hlt
      cases hz : z.getD k false with
      | true =>
        rw [hz] at hce
        have F := Lib.hid (fresh_any wr p P O B m htr hk.out m0 (by omega))
        replace hin := Lib.hid hin
        clear hz
        go_wp2_with fail
        refine F.out.mono ?_
        rintro e w3 ⟨rfl, ht3, hg⟩
        have hv3 := var_gby hvr hg hxp
        have hb3 := hbr.gp hg hwp
        rw [hM.out] at ht3
        clear hvr hg htr hbr hce F
        go_wp2_with fail
        obtain ⟨c', hc'⟩ : ∃ t, t = cn + 1 := ⟨_, rfl⟩
        obtain ⟨m', hm'⟩ : ∃ t, t = min (m + P) M := ⟨_, rfl⟩
        rw [← hc']
        rw [← hm'] at ht3
        have hin' : tn * O + m' ≤ M + c' * P := by
          have := hin.out
          rw [hc', Int.add_mul]; omega
        have hc1 : 0 ≤ c' := by omega
        have hc2 : c' ≤ k + 1 := by omega
        have hm1 : 0 ≤ m' := by omega
        have hm2 : m' ≤ M := by omega
        have htn2 : tn ≤ k + 1 := by omega
        replace hin' := Lib.hid hin'
        clear hc' hm' hin m0 m1 hcn htn
        have hle := con (show 0 < O by omega) (show tn * O + m' ≤ B * O + c' * P by rw [hM.out]; exact hin'.out)
        have L4 := fun w' (hb : Bl w3 w') => left_any w' p P O B m' (ht3.bl hb) hk.out hm1 (by omega)
        have M4 := fun w' => most_any P O B c' w' hk.out hc1 (by omega)
        have q1 := hdm.out m' hm1 hm2
        have q2 := hmo.out c' hc1 (by omega)
        obtain ⟨lo, hlo⟩ : ∃ t, m' / O = t := ⟨_, rfl⟩
        obtain ⟨mo, hmo'⟩ : ∃ t, B + c' * P / O = t := ⟨_, rfl⟩
        have q3 : 0 ≤ mo ∧ mo ≤ 10200 := by omega
        rw [hlo] at L4 hle q1
        rw [hmo'] at M4 hle
        replace L4 := Lib.hid L4; replace M4 := Lib.hid M4
        have hw : IntKind.i64.wrap (tn + lo) = tn + lo := by rw [IntKind.wrap_i64]; omega
        have hd : decide (tn + lo > mo) = false := decide_eq_false (by omega)
        have KK := Lib.hid (fun w' (hb : Bl w3 w') => (⟨hb, var_cells' (var_bl hv3 hb)⟩ : Bl w3 w' ∧ w'.cell? ⟨x, 0, none⟩ = some (I P) ∧ w'.cell? ⟨x, 1, none⟩ = some (I O) ∧ w'.cell? ⟨x, 2, none⟩ = some (I B)))
        have K0 := (KK.out w3 (Bl.rfl' _)).2
        obtain ⟨d0, d1, d2⟩ := K0
        clear hlo hmo' q2
        go_region_held3 (fun w' => Bl w3 w' ∧ w'.cell? ⟨x, 0, none⟩ = some (I P) ∧ w'.cell? ⟨x, 1, none⟩ = some (I O) ∧ w'.cell? ⟨x, 2, none⟩ = some (I B))
          ((go_split_ands; exact KK.out _ (by first | assumption | exact Bl.rfl' _ | exact Bl.drewN _ _ | exact Bl.dr (by first | assumption | exact Bl.rfl' _) | exact Bl.tr (by assumption) (by assumption))))
          (first
            | (go_at_call 18; go_split_ands; refine (L4.out _ (by assumption)).mono ?_; rintro e w5 ⟨rfl, hb7⟩)
            | (go_at_call 14; go_split_ands; refine (M4.out _).mono ?_; rintro e w5 ⟨rfl, hb7⟩))
        all_goals
          go_split_ands
          have hb6 : Bl w3 w5 := by assumption
          clear d0 d1 d2
          go_wp2_with fail
          go_roundw
          case rel => exact ⟨k + 1, c', tn, m', by omega, by omega, by go_num, rfl, rfl, hc1, by omega, htn0, by omega, hm1, hm2, hin'.out, var_bl hv3 hb6, ht3.bl hb6, hb3.tr hb6⟩
          case measure => simp [intOf]; omega
      | false =>
        rw [hz] at hce
        replace hin := Lib.hid hin
        clear hz
        by_cases hO : O ≤ m
        · have T := take_any wr p P O B m htr hk.out m0 (by omega)
          rw [decide_eq_true hO, show tk O m = m - O from if_pos hO] at T
          replace T := Lib.hid T
          go_wp2_with fail
          refine T.out.mono ?_
          rintro e w3 ⟨rfl, ht3, hg⟩
          have hv3 := var_gby hvr hg hxp
          have hb3 := hbr.gp hg hwp
          clear hvr hg htr hbr hce T
          go_wp2_with fail
          obtain ⟨c', hc'⟩ : ∃ t, t = cn := ⟨_, rfl⟩
          obtain ⟨t', ht'⟩ : ∃ t, t = tn + 1 := ⟨_, rfl⟩
          obtain ⟨m', hm'⟩ : ∃ t, t = m - O := ⟨_, rfl⟩
          rw [← hc', ← ht']
          rw [← hm'] at ht3
          have hin' : t' * O + m' ≤ M + c' * P := by
            have := hin.out
            rw [ht', hc', Int.add_mul]; omega
          have hc1 : 0 ≤ c' := by omega
          have hc2 : c' ≤ k + 1 := by omega
          have hm1 : 0 ≤ m' := by omega
          have hm2 : m' ≤ M := by omega
          have htn2 : t' ≤ k + 1 := by omega
          have htn0 : 0 ≤ t' := by omega
          replace hin' := Lib.hid hin'
          clear hc' hm' ht' hin m0 m1 hcn htn
          obtain ⟨tn, rfl⟩ : ∃ t, t = t' := ⟨_, rfl⟩
          have hle := con (show 0 < O by omega) (show tn * O + m' ≤ B * O + c' * P by rw [hM.out]; exact hin'.out)
          have L4 := fun w' (hb : Bl w3 w') => left_any w' p P O B m' (ht3.bl hb) hk.out hm1 (by omega)
          have M4 := fun w' => most_any P O B c' w' hk.out hc1 (by omega)
          have q1 := hdm.out m' hm1 hm2
          have q2 := hmo.out c' hc1 (by omega)
          obtain ⟨lo, hlo⟩ : ∃ t, m' / O = t := ⟨_, rfl⟩
          obtain ⟨mo, hmo'⟩ : ∃ t, B + c' * P / O = t := ⟨_, rfl⟩
          have q3 : 0 ≤ mo ∧ mo ≤ 10200 := by omega
          rw [hlo] at L4 hle q1
          rw [hmo'] at M4 hle
          replace L4 := Lib.hid L4; replace M4 := Lib.hid M4
          have hw : IntKind.i64.wrap (tn + lo) = tn + lo := by rw [IntKind.wrap_i64]; omega
          have hd : decide (tn + lo > mo) = false := decide_eq_false (by omega)
          have KK := Lib.hid (fun w' (hb : Bl w3 w') => (⟨hb, var_cells' (var_bl hv3 hb)⟩ : Bl w3 w' ∧ w'.cell? ⟨x, 0, none⟩ = some (I P) ∧ w'.cell? ⟨x, 1, none⟩ = some (I O) ∧ w'.cell? ⟨x, 2, none⟩ = some (I B)))
          have K0 := (KK.out w3 (Bl.rfl' _)).2
          obtain ⟨d0, d1, d2⟩ := K0
          clear hlo hmo' q2
          go_region_held3 (fun w' => Bl w3 w' ∧ w'.cell? ⟨x, 0, none⟩ = some (I P) ∧ w'.cell? ⟨x, 1, none⟩ = some (I O) ∧ w'.cell? ⟨x, 2, none⟩ = some (I B))
            ((go_split_ands; exact KK.out _ (by first | assumption | exact Bl.rfl' _ | exact Bl.drewN _ _ | exact Bl.dr (by first | assumption | exact Bl.rfl' _) | exact Bl.tr (by assumption) (by assumption))))
            (first
              | (go_at_call 18; go_split_ands; refine (L4.out _ (by assumption)).mono ?_; rintro e w5 ⟨rfl, hb7⟩)
              | (go_at_call 14; go_split_ands; refine (M4.out _).mono ?_; rintro e w5 ⟨rfl, hb7⟩))
          all_goals
            go_split_ands
            have hb6 : Bl w3 w5 := by assumption
            clear d0 d1 d2
            go_wp2_with fail
            go_roundw
            case rel => exact ⟨k + 1, c', tn, m', by omega, by omega, by go_num, rfl, rfl, hc1, by omega, htn0, by omega, hm1, hm2, hin'.out, var_bl hv3 hb6, ht3.bl hb6, hb3.tr hb6⟩
            case measure => simp [intOf]; omega
        · have T := take_any wr p P O B m htr hk.out m0 (by omega)
          rw [decide_eq_false hO, show tk O m = m from if_neg hO] at T
          replace T := Lib.hid T
          go_wp2_with fail
          refine T.out.mono ?_
          rintro e w3 ⟨rfl, ht3, hg⟩
          have hv3 := var_gby hvr hg hxp
          have hb3 := hbr.gp hg hwp
          clear hvr hg htr hbr hce T
          go_wp2_with fail
          obtain ⟨c', hc'⟩ : ∃ t, t = cn := ⟨_, rfl⟩
          obtain ⟨m', hm'⟩ : ∃ t, t = m := ⟨_, rfl⟩
          rw [← hc']
          rw [← hm'] at ht3
          have hin' : tn * O + m' ≤ M + c' * P := by
            have := hin.out
            rw [hc', hm']; omega
          have hc1 : 0 ≤ c' := by omega
          have hc2 : c' ≤ k + 1 := by omega
          have hm1 : 0 ≤ m' := by omega
          have hm2 : m' ≤ M := by omega
          have htn2 : tn ≤ k + 1 := by omega
          replace hin' := Lib.hid hin'
          clear hc' hm' hin m0 m1 hcn htn
          have hle := con (show 0 < O by omega) (show tn * O + m' ≤ B * O + c' * P by rw [hM.out]; exact hin'.out)
          have L4 := fun w' (hb : Bl w3 w') => left_any w' p P O B m' (ht3.bl hb) hk.out hm1 (by omega)
          have M4 := fun w' => most_any P O B c' w' hk.out hc1 (by omega)
          have q1 := hdm.out m' hm1 hm2
          have q2 := hmo.out c' hc1 (by omega)
          obtain ⟨lo, hlo⟩ : ∃ t, m' / O = t := ⟨_, rfl⟩
          obtain ⟨mo, hmo'⟩ : ∃ t, B + c' * P / O = t := ⟨_, rfl⟩
          have q3 : 0 ≤ mo ∧ mo ≤ 10200 := by omega
          rw [hlo] at L4 hle q1
          rw [hmo'] at M4 hle
          replace L4 := Lib.hid L4; replace M4 := Lib.hid M4
          have hw : IntKind.i64.wrap (tn + lo) = tn + lo := by rw [IntKind.wrap_i64]; omega
          have hd : decide (tn + lo > mo) = false := decide_eq_false (by omega)
          have KK := Lib.hid (fun w' (hb : Bl w3 w') => (⟨hb, var_cells' (var_bl hv3 hb)⟩ : Bl w3 w' ∧ w'.cell? ⟨x, 0, none⟩ = some (I P) ∧ w'.cell? ⟨x, 1, none⟩ = some (I O) ∧ w'.cell? ⟨x, 2, none⟩ = some (I B)))
          have K0 := (KK.out w3 (Bl.rfl' _)).2
          obtain ⟨d0, d1, d2⟩ := K0
          clear hlo hmo' q2
          go_region_held3 (fun w' => Bl w3 w' ∧ w'.cell? ⟨x, 0, none⟩ = some (I P) ∧ w'.cell? ⟨x, 1, none⟩ = some (I O) ∧ w'.cell? ⟨x, 2, none⟩ = some (I B))
            ((go_split_ands; exact KK.out _ (by first | assumption | exact Bl.rfl' _ | exact Bl.drewN _ _ | exact Bl.dr (by first | assumption | exact Bl.rfl' _) | exact Bl.tr (by assumption) (by assumption))))
            (first
              | (go_at_call 18; go_split_ands; refine (L4.out _ (by assumption)).mono ?_; rintro e w5 ⟨rfl, hb7⟩)
              | (go_at_call 14; go_split_ands; refine (M4.out _).mono ?_; rintro e w5 ⟨rfl, hb7⟩))
          all_goals
            go_split_ands
            have hb6 : Bl w3 w5 := by assumption
            clear d0 d1 d2
            go_wp2_with fail
            go_roundw
            case rel => exact ⟨k + 1, c', tn, m', by omega, by omega, by go_num, rfl, rfl, hc1, by omega, htn0, by omega, hm1, hm2, hin'.out, var_bl hv3 hb6, ht3.bl hb6, hb3.tr hb6⟩
            case measure => simp [intOf]; omega
    · by_cases h1 : k < K
      · obtain rfl : k = 100 := by omega
        go_wp2_with fail
        refine (lives19 _).mono ?_
        rintro e w9 ⟨rfl, hb9⟩
        go_wp2_with fail
        go_ret
        exact ⟨rfl, hbr.tr hb9⟩
      · obtain rfl : k = K := by omega
        go_wp2_with fail
        refine (lives19 _).mono ?_
        rintro e w9 ⟨rfl, hb9⟩
        go_wp2_with fail
        go_ret
        exact ⟨rfl, hbr.tr hb9⟩
end Go.Proofs.Ytionbanfknphoaa.tokenConserved
