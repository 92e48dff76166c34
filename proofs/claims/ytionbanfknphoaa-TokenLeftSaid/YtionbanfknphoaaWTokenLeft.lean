/-
  TokenLeft is true for every input: there are never more than the burst; what is taken leaves one less; a call leaves no fewer, and Up(Per, Of) more at most. No condition.
-/
import Derived.Test.YtionbanfknphoaaTokE
namespace Go.Proofs.Ytionbanfknphoaa.tokenLeft
open Go.ChangeShapes Go.WideShapes Go.ChangeAt Go.RowKit
open Go.Proofs.Ytionbanfknphoaa.token
set_option linter.unusedVariables false
set_option linter.unusedSimpArgs false

set_option maxHeartbeats 4000000 in
theorem walk {w : World} (n : Int) (n0 : -9223372036854775808 ≤ n) (n1 : n ≤ 9223372036854775807) (v : Value) (z : List Bool) (hv : Rd w v z.length z.length (fun i => .bool (z.getD i false))) (hm : z.length ≤ maxLen) :
    Calls Try.prog 8 #[.int .i64 n, v] w fun e w' => e = .returned (.bool true) ∧ Bl w w' := by
  obtain ⟨a, cap, rfl, R⟩ := rd_any hv
  obtain ⟨K, hK⟩ : ∃ K, z.length = K := ⟨_, rfl⟩
  rw [hK] at R hm ⊢
  unfold maxLen at hm
  replace R := Lib.hid R
  clear hv hK
  have Bu := Lib.hid (fun w => budget_any n w n0 n1)
  go_enter Try.func8, Try.ntmps8
  go_wp2_with fail
  refine (Bu.out _).mono ?_
  rintro e w1 ⟨P, O, B, rfl, hk, hb1⟩
  go_wp2_with fail
  refine (new_any P O B _ hk).mono ?_
  rintro e w2 ⟨p, rfl, hp, ht, hb2⟩
  have hv2 := var_bl (heap_alloc_new w1 (.cells #[I P, I O, I B] 23)) hb2
  obtain ⟨x, hx⟩ : ∃ x, w1.heap.size = x := ⟨_, rfl⟩
  have hxp : x < p := by simp at hp; omega
  have hb0 : Bl w w2 := hb1.tr (((Bl.rfl' w1).al _).tr hb2)
  have hwp : w.heap.size ≤ p := by have := hb1.size; omega
  rw [hx] at hv2
  clear hb2 hp hb1
  have hk' := hk
  obtain ⟨P0, P1, O0, O1, B0, B1⟩ := hk'
  have hmb := mul_bd B0 B1 (by omega) O1
  obtain ⟨M, hM⟩ : ∃ M, B * O = M := ⟨_, rfl⟩
  rw [hM] at hmb ht
  replace hk := Lib.hid hk
  go_wp2_with fail
  have hmo : ∀ (c : Int), 0 ≤ c → c ≤ 100 → 0 ≤ c * P / O ∧ c * P / O ≤ 10000 := by
    intro c c0 c1
    have h1 : c * P ≤ 100 * P := Int.mul_le_mul_of_nonneg_right c1 P0
    have h0 : 0 ≤ c * P := Int.mul_nonneg c0 P0
    have h2 := Int.ediv_le_self O h0
    exact ⟨Int.ediv_nonneg h0 (by omega), by omega⟩
  have hdm : ∀ m : Int, 0 ≤ m → m ≤ M → 0 ≤ m / O ∧ m / O ≤ 10000 := by
    intro m m0 m1
    have h2 := Int.ediv_le_self O m0
    exact ⟨Int.ediv_nonneg m0 (by omega), by omega⟩
  replace hmo := Lib.hid hmo; replace hdm := Lib.hid hdm
  replace hM := Lib.hid hM
  have hUp := up_rng P O P0 P1 O0
  have U4 := fun w => up_any P O w (by omega) (by omega) (by omega) (by omega)
  have hst := fun m m0 => up_step (m := m) (O := O) (P := P) (Q := M) (by omega) P0 m0
  obtain ⟨up, hup⟩ : ∃ t, Go.Proofs.Ytionbanfknphoaa.M.up P O = t := ⟨_, rfl⟩
  rw [hup] at hUp U4 hst
  replace hst := Lib.hid hst
  replace U4 := Lib.hid U4
  have hdh := Lib.hid (fun m (h : m ≤ B * O) => div_hi (n := m) (O := O) (B := B) O0 h)
  replace hM := Lib.hid hM
  go_loopw [7] (fun i wr => ∃ (k : Nat) (m : Int), k ≤ K ∧ k ≤ 60 ∧ i = I k ∧ 0 ≤ m ∧ m ≤ M ∧ wr.heap[x]? = some (.cells #[I P, I O, I B] 23 (0, 0)) ∧ TB wr p P O B m ∧ Bl w wr) (fun i _ => K - (intOf i).toNat)
  case atStart => exact ⟨0, M, by omega, by omega, rfl, by omega, by omega, hv2, ht, hb0⟩
  case round =>
    obtain ⟨k, m, hkK, hk1, rfl, m0, m1, hvr, htr, hbr⟩ := hrel
    clear hv2 ht hb0
    by_cases hlt : k < K ∧ k < 60
    · obtain ⟨hlt, hlt2⟩ := hlt
      have L1 := fun w' (hb : Bl wr w') => left_any w' p P O B m (htr.bl hb) hk.out m0 (by omega)
      have q1 : 0 ≤ m / O ∧ m / O ≤ B := ⟨Int.ediv_nonneg m0 (by omega), hdh.out m (by rw [hM.out]; exact m1)⟩
      have hpos := div_pos_iff (n := m) O0
      have hst1 := hst.out m m0
      have htk := tk_div (n := m) O0
      obtain ⟨lo, hlo⟩ : ∃ t, m / O = t := ⟨_, rfl⟩
      rw [hlo] at L1 q1 hpos hst1 htk
      clear hlo
      replace L1 := Lib.hid L1; replace hpos := Lib.hid hpos; replace hst1 := Lib.hid hst1; replace htk := Lib.hid htk
      obtain ⟨b, off, rfl, _⟩ := R.out wr hbr k hlt
      go_wp2_with fail
      refine (L1.out _ (Bl.rfl' _)).mono ?_
      rintro e w3 ⟨rfl, hb3⟩
      have hv3 := var_bl hvr hb3
      have ht3 := htr.bl hb3
      have hl3 := hbr.tr hb3
      obtain ⟨b', off', hbe, hce⟩ := R.out w3 hl3 k hlt
      cases hbe
      obtain ⟨d0, d1, d2⟩ := var_cells' hv3
      clear hvr htr hbr hb3 L1
      cases hz : z.getD k false with
      | true =>
        rw [hz] at hce
        clear hz
        have F := Lib.hid (fresh_any w3 p P O B m ht3 hk.out m0 (by omega))
        go_wp2_with fail
        refine F.out.mono ?_
        rintro e w4 ⟨rfl, ht4, hg⟩
        have hv4 := var_gby hv3 hg hxp
        have hl4 := hl3.gp hg hwp
        rw [hM.out] at ht4
        clear hv3 ht3 hl3 hg F hce d0 d1 d2
        obtain ⟨m', hm'⟩ : ∃ t, min (m + P) M = t := ⟨_, rfl⟩
        have hst2 := hst1.out m1
        rw [hm'] at ht4 hst2
        have hm1 : 0 ≤ m' := by omega
        have hm2 : m' ≤ M := by omega
        have L4 := fun w' (hb : Bl w4 w') => left_any w' p P O B m' (ht4.bl hb) hk.out hm1 (by omega)
        obtain ⟨lp, hlp⟩ : ∃ t, m' / O = t := ⟨_, rfl⟩
        rw [hlp] at L4 hst2
        replace L4 := Lib.hid L4
        have hdl : decide (lp < lo) = false := decide_eq_false (by omega)
        have hwu : IntKind.i64.wrap (lo + up) = lo + up := by rw [IntKind.wrap_i64]; omega
        have hdg : decide (lp > lo + up) = false := decide_eq_false (by omega)
        clear hm' hlp hst2
        go_wp2_with fail
        have KK := Lib.hid (fun w' (hb : Bl w4 w') => (⟨hb, var_cells' (var_bl hv4 hb)⟩ : Bl w4 w' ∧ w'.cell? ⟨x, 0, none⟩ = some (I P) ∧ w'.cell? ⟨x, 1, none⟩ = some (I O) ∧ w'.cell? ⟨x, 2, none⟩ = some (I B)))
        obtain ⟨d0, d1, d2⟩ := (KK.out w4 (Bl.rfl' _)).2
        go_region_held3 (fun w' => Bl w4 w' ∧ w'.cell? ⟨x, 0, none⟩ = some (I P) ∧ w'.cell? ⟨x, 1, none⟩ = some (I O) ∧ w'.cell? ⟨x, 2, none⟩ = some (I B))
          ((go_split_ands; exact KK.out _ (by first | assumption | exact Bl.rfl' _ | exact Bl.drewN _ _ | exact Bl.dr (by first | assumption | exact Bl.rfl' _) | exact Bl.tr (by assumption) (by assumption))))
          (first
            | (go_at_call 18; go_split_ands; refine (L4.out _ (by assumption)).mono ?_; rintro e w5 ⟨rfl, hb7⟩)
            | (go_at_call 23; go_split_ands; refine (U4.out _).mono ?_; rintro e w5 ⟨rfl, rfl⟩))
        all_goals
          go_split_ands
          have hb6 : Bl w4 w5 := by assumption
          clear d0 d1 d2
          go_wp2_with fail
          go_roundw
          case rel => exact ⟨k + 1, m', by omega, by omega, by go_num, hm1, hm2, var_bl hv4 hb6, ht4.bl hb6, hl4.tr hb6⟩
          case measure => simp [intOf]; omega
      | false =>
        rw [hz] at hce
        clear hz
        have htk' := htk.out
        have F := take_any w3 p P O B m ht3 hk.out m0 (by omega)
        rw [← decide_eq_decide.2 hpos.out] at F
        obtain ⟨tb0, tb1⟩ := tk_bd O0 m0
        obtain ⟨m', hm'⟩ : ∃ t, tk O m = t := ⟨_, rfl⟩
        rw [hm'] at F tb0 tb1 htk'
        replace F := Lib.hid F
        clear hm'
        by_cases hlo0 : 0 < lo
        · rw [if_pos hlo0] at htk'
          rw [decide_eq_true hlo0] at F
          go_wp2_with fail
          refine F.out.mono ?_
          rintro e w4 ⟨rfl, ht4, hg⟩
          have hv4 := var_gby hv3 hg hxp
          have hl4 := hl3.gp hg hwp
          clear hv3 ht3 hl3 hg F hce d0 d1 d2
          have L4 := fun w' (hb : Bl w4 w') => left_any w' p P O B m' (ht4.bl hb) hk.out tb0 (by omega)
          rw [htk'] at L4
          replace L4 := Lib.hid L4
          go_wp2_with fail
          refine (L4.out _ (Bl.rfl' _)).mono ?_
          rintro e w5 ⟨rfl, hb6⟩
          go_wp2_with fail
          go_roundw
          case rel => exact ⟨k + 1, m', by omega, by omega, by go_num, by omega, by omega, var_bl hv4 hb6, ht4.bl hb6, hl4.tr hb6⟩
          case measure => simp [intOf]; omega
        · rw [if_neg hlo0] at htk'
          rw [decide_eq_false hlo0] at F
          go_wp2_with fail
          refine F.out.mono ?_
          rintro e w4 ⟨rfl, ht4, hg⟩
          have hv4 := var_gby hv3 hg hxp
          have hl4 := hl3.gp hg hwp
          clear hv3 ht3 hl3 hg F hce d0 d1 d2
          have L4 := fun w' (hb : Bl w4 w') => left_any w' p P O B m' (ht4.bl hb) hk.out tb0 (by omega)
          rw [htk'] at L4
          replace L4 := Lib.hid L4
          go_wp2_with fail
          refine (L4.out _ (Bl.rfl' _)).mono ?_
          rintro e w5 ⟨rfl, hb6⟩
          go_wp2_with fail
          go_roundw
          case rel => exact ⟨k + 1, m', by omega, by omega, by go_num, by omega, by omega, var_bl hv4 hb6, ht4.bl hb6, hl4.tr hb6⟩
          case measure => simp [intOf]; omega
    · by_cases h1 : k < K
      · obtain rfl : k = 60 := by omega
        go_wp2_with fail
        refine (lives19 _).mono ?_
        rintro e w9 ⟨rfl, hb9⟩
        go_wp2_with fail
        go_ret
        exact ⟨rfl, hbr.tr hb9⟩
      · obtain rfl : k = K := by omega
        go_wp2_with fail
        refine (lives19 _).mono ?_
        rintro e w9 ⟨rfl, hb9⟩
        go_wp2_with fail
        go_ret
        exact ⟨rfl, hbr.tr hb9⟩
end Go.Proofs.Ytionbanfknphoaa.tokenLeft
