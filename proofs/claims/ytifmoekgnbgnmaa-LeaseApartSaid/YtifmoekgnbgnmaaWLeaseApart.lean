/-
  LeaseApart is true for every input: what happens from a window on is the same, whatever happened ahead of it. No condition.
-/
import Derived.Test.YtifmoekgnbgnmaaAct24b
namespace Go.Proofs.Ytifmoekgnbgnmaa.leaseApart
open Go.ChangeShapes Go.WideShapes Go.ChangeAt Go.RowKit
open Go.Proofs.Ytifmoekgnbgnmaa.lease
set_option linter.unusedVariables false
set_option linter.unusedSimpArgs false

set_option maxHeartbeats 8000000 in
set_option maxRecDepth 20000 in
theorem walk {w : World} (n : Int) (n0 : -9223372036854775808 ≤ n) (n1 : n ≤ 9223372036854775807) (v : Value) (z : List Int) (hv : IntsAt w v z) (hz : i64ok z) (hm : z.length ≤ maxLen) (f : Int) (f0 : -9223372036854775808 ≤ f) (f1 : f ≤ 9223372036854775807) :
    Calls Try.prog 8 #[.int .i64 n, v, .int .i64 f] w fun e w' => e = .returned (.bool true) ∧ Bl w w' := by
  have Ac := Lib.hid (fun w' (hb : Bl w w') => acts_cap z v w' (Rd.below hv hb) hz hm)
  clear hv hz hm
  have Ra := Lib.hid (fun w => rate_any n w n0 n1)
  go_enter Try.func8, Try.ntmps8
  go_wp2_with fail
  refine (Ra.out _).mono ?_
  rintro e w1 ⟨L, W, S, rfl, hk, L12, W9, hb1⟩
  have hx2 := heap_alloc_new w1 (.cells #[I L, I W, I S] 23)
  obtain ⟨x, hx⟩ : ∃ x, w1.heap.size = x := ⟨_, rfl⟩
  have hbw := hb1.al (.cells #[I L, I W, I S] 23)
  rw [hx] at hx2
  replace hx := Lib.hid hx
  clear hb1
  replace hk := Lib.hid hk
  obtain ⟨w2, hw2⟩ : ∃ t, w1.alloc (.cells #[I L, I W, I S] 23) = t := ⟨_, rfl⟩
  have hx2' := hx.out
  rw [hw2] at hx2 hbw
  have Ac2 := Lib.hid (Ac.out w2 hbw)
  replace hw2 := Lib.hid hw2
  go_wp2_with fail
  rw [hw2.out]
  refine Ac2.out.mono ?_
  rintro e w4 ⟨a, cap, g, A, rfl, hok, hg, hAr, hac, hb4⟩
  have hx4 := var_bl hx2 hb4
  have hbw4 := hbw.tr hb4
  have hAN := hok.1
  obtain ⟨N, hN⟩ : ∃ zz, A.length = zz := ⟨_, rfl⟩
  rw [hN] at hAN hac
  rw [hN]
  have hk' := hk.out
  obtain ⟨L0, L1, W0, W1, S0, S1⟩ := hk'
  have A0 := fun w => around_any f (N + 1) w f0 f1 (by omega) (by omega)
  have k0 := around_lo f (N + 1) (by omega); have k1 := around_hi f (N + 1) (by omega)
  obtain ⟨kk, hkk⟩ : ∃ t, around f (N + 1) = t := ⟨_, rfl⟩
  rw [hkk] at A0 k0 k1
  clear hkk f0 f1
  obtain ⟨kk, rfl⟩ : ∃ zz : Nat, kk = zz := ⟨kk.toNat, by omega⟩
  replace A0 := Lib.hid A0
  replace hN := Lib.hid hN; replace hAr := Lib.hid hAr; replace hac := Lib.hid hac
  clear hx2 hbw Ac2 hb4 hx2'
  go_wp2_with fail
  refine (A0.out _).mono ?_
  rintro e w5 ⟨rfl, rfl⟩
  go_wp2_with fail
  go_loopw [9] (fun i wr => ∃ k : Nat, k ≤ N ∧ i = I k ∧ Bl w4 wr) (fun i _ => N - (intOf i).toNat)
  case atStart => exact ⟨kk, by omega, rfl, Bl.rfl' _⟩
  case round =>
    obtain ⟨k, hkN, rfl, hbr⟩ := hrel
    have hx5 := var_bl hx4 hbr
    obtain ⟨d0, d1, d2⟩ := var_cells hx5
    by_cases hin : 0 < k ∧ k < N
    · obtain ⟨j, rfl⟩ : ∃ j, k = j + 1 := ⟨k - 1, by omega⟩
      have z1 : decide (((j + 1 : Nat) : Int) > 0) = true := decide_eq_true (by omega)
      have z2 : decide (((j + 1 : Nat) : Int) < (N : Int)) = true := decide_eq_true (by omega)
      have z3 : decide ((j : Int) + 1 > 0) = true := decide_eq_true (by omega)
      have z4 : decide ((j : Int) + 1 < (N : Int)) = true := decide_eq_true (by omega)
      have hcap : N ≤ cap ∧ cap ≤ 9223372036854775807 := by
        rcases hac.out with ⟨_, h, _⟩ | ⟨_, h⟩
        · omega
        · exact h
      obtain ⟨rfl, _, q1, _⟩ := (hAr.out.bl hbr).c (j + 1) (by rw [hN.out]; omega)
      obtain ⟨_, _, q2, _⟩ := (hAr.out.bl hbr).c j (by rw [hN.out]; omega)
      have hok' := hok
      obtain ⟨_, hoA, _⟩ := hok'
      have m1 := hoA _ (getD_memA A (j + 1) (by rw [hN.out]; omega))
      have m2 := hoA _ (getD_memA A j (by rw [hN.out]; omega))
      obtain ⟨ta, hta⟩ : ∃ t, (A.getD (j + 1) (0, 0, 0)).2.1 = t := ⟨_, rfl⟩
      obtain ⟨tb, htb⟩ : ∃ t, (A.getD j (0, 0, 0)).2.1 = t := ⟨_, rfl⟩
      have m1 := m1.2; have m2 := m2.2
      rw [hta] at q1 m1; rw [htb] at q2 m2
      have da := div_bd m1.1 (show ta ≤ 1000000 by omega) W0
      have db := div_bd m2.1 (show tb ≤ 1000000 by omega) W0
      have ea : ta.tdiv W = ta / W := Int.tdiv_eq_ediv_of_nonneg m1.1
      have eb : tb.tdiv W = tb / W := Int.tdiv_eq_ediv_of_nonneg m2.1
      obtain ⟨wa, hwa⟩ : ∃ t, ta / W = t := ⟨_, rfl⟩
      obtain ⟨wb, hwb⟩ : ∃ t, tb / W = t := ⟨_, rfl⟩
      rw [hwa] at da ea; rw [hwb] at db eb
      have hW : ¬ W = 0 := by omega
      have fa : IntKind.i64.wrap (ta.tdiv W) = wa := by rw [ea, IntKind.wrap_i64]; omega
      have fb : IntKind.i64.wrap (tb.tdiv W) = wb := by rw [eb, IntKind.wrap_i64]; omega
      by_cases hab : wa = wb
      · subst hab
        have hbe : (wa == wa) = true := by simp
        clear ea eb hwa hwb hta htb
        go_wp2_with fail
        go_quiet (fail)
        go_wp2_with fail
        go_roundw
        case rel => exact ⟨j + 1 + 1, by omega, by go_num, hbr.drn _⟩
        case measure => simp [intOf]; omega
      · have hbe : (wa == wb) = false := beq_eq_false_iff_ne.2 hab
        have hta' : (A.getD (j + 1) (0, 0, 0)).2.1 / W = wa := by rw [hta]; exact hwa
        have htb' : (A.getD j (0, 0, 0)).2.1 / W = wb := by rw [htb]; exact hwb
        replace hta' := Lib.hid hta'; replace htb' := Lib.hid htb'
        clear ea eb
        go_wp2_with fail
        go_quiet (fail)
        have hend : ∀ xx yy B', A.drop (j + 1) = yy :: B' → (A.take (j + 1)).getLast? = some xx → xx.2.1 / W ≠ yy.2.1 / W := by
          intro xx yy B' h1 h2
          have hj := hN.out
          have e1 : (A.drop (j + 1)).getD 0 (0, 0, 0) = yy := by rw [h1]; rfl
          rw [drop_getD, Nat.add_zero] at e1
          rw [take_snoc A j (0, 0, 0) (by omega), List.getLast?_append] at h2
          simp only [List.getLast?_singleton, Option.some_or, Option.some.injEq] at h2
          rw [← e1, ← h2, hta'.out, htb'.out]
          omega
        obtain ⟨wz, hwz⟩ : ∃ zz, wr.drewN nq = zz := ⟨_, rfl⟩
        have hbz : Bl w4 wz := by rw [← hwz]; exact hbr.drn _
        rw [hwz]
        clear hwz
        have hx6 := var_bl hx4 hbz
        have hbw6 := hbw4.tr hbz
        obtain ⟨e0, e1, e2⟩ := var_cells hx6
        have Wa := windows_off L W S wz g 0 (some ⟨g, 0, none⟩) cap A (hAr.out.bl hbz).read hok hk.out
        rw [hN.out] at Wa
        replace Wa := Lib.hid Wa
        clear d0 d1 d2
        go_wp2_with fail
        refine Wa.out.mono ?_
        rintro e w7 ⟨v7, b7, rfl, hb7', hown7, hb7⟩
        have hx7 := var_bl hx6 hb7
        have hbw7 := hbw6.tr hb7
        have hA7 := (hAr.out.bl hbz).bl hb7
        clear e0 e1 e2 Wa hb7'
        obtain ⟨wd, hwd⟩ : ∃ zz, w7.drew = zz := ⟨_, rfl⟩
        have hbd := (Bl.rfl' w7).dr
        rw [hwd] at hbd
        have hx8 := var_bl hx7 hbd
        obtain ⟨e0, e1, e2⟩ := var_cells hx8
        replace hwd := Lib.hid hwd
        have hsl : 0 ≤ ((j : Int) + 1) ∧ ((j : Int) + 1) ≤ N := by omega
        obtain ⟨ak, hak⟩ : ∃ zz, (if cap = (j + 1) then some (⟨g, 0, none⟩ : Addr) else some ⟨g, (j + 1) * 3, none⟩) = zz := ⟨_, rfl⟩
        have hAp : ARead wd g ((j + 1) * 3) ak (A.drop (j + 1)) := by
          by_cases hc : cap = (j + 1)
          · intro w' _ i hi
            rw [List.length_drop] at hi
            have := hN.out
            omega
          · rw [if_neg hc] at hak
            subst hak
            exact (hA7.bl hbd).part (j + 1)
        have Wb := windows_off L W S wd g ((j + 1) * 3) ak (cap - ((j + 1))) (A.drop (j + 1)) hAp (okAs_drop hok _) hk.out
        rw [List.length_drop, hN.out] at Wb
        replace Wb := Lib.hid Wb
        clear hAp
        go_upto_region 7 with fail
        refine wp_region_still_tail 4 (by kernel_rfl) (by kernel_rfl) ?_
        simp only [List.take_succ_cons, List.take_zero, List.drop_succ_cons, List.drop_zero]
        change wpStill _ _ w7.drew (fun a' => wpList _ _ _ _ a' w7.drew) _ _
        rw [hwd.out]
        repeat still_step
        try refine wpStill_nil ?_
        go_wp2_with fail
        refine (Wb.out).mono ?_
        rintro e w9 ⟨v9, b9, rfl, hb9', hown9, hb9⟩
        have hx9 := var_bl hx8 hb9
        have hbw9 := (hbw7.tr hbd).tr hb9
        have hown79 := own_below hown7 (hbd.tr hb9)
        clear e0 e1 e2 hb9' hsl Wb
        obtain ⟨a7, c7, g7, rfl, R7⟩ := wins_read hown79
        obtain ⟨a9, c9, g9, rfl, R9⟩ := wins_read hown9
        have hap := winds_apart hk.out (A.take (j + 1)) (A.drop (j + 1)) (by rw [List.take_append_drop]; exact hok) hend
        rw [List.take_append_drop] at hap
        rw [hap] at R7 ⊢
        obtain ⟨Pre, hPre⟩ : ∃ zz, winds L W S (A.take (j + 1)) = zz := ⟨_, rfl⟩
        obtain ⟨X, hX⟩ : ∃ zz, winds L W S (A.drop (j + 1)) = zz := ⟨_, rfl⟩
        have hl1 := winds_len L W S (A.take (j + 1))
        have hl2 := winds_len L W S (A.drop (j + 1))
        rw [hPre] at hl1 R7
        rw [hX] at hl2 R7 R9
        rw [hPre, hX]
        have hl3 : (A.take (j + 1)).length ≤ 60 := by rw [List.length_take]; omega
        have hl4 : (A.drop (j + 1)).length ≤ 60 := by rw [List.length_drop]; have := hN.out; omega
        rw [List.length_append] at R7 ⊢
        have hgd : ∀ i, (Pre ++ X).getD (Pre.length + i) win0 = X.getD i win0 := fun i => by
          rw [List.getD_eq_getElem?_getD, List.getD_eq_getElem?_getD, List.getElem?_append_right (by omega), show Pre.length + i - Pre.length = i by omega]
        obtain ⟨p, hp⟩ : ∃ zz, Pre.length = zz := ⟨_, rfl⟩
        obtain ⟨m, hm⟩ : ∃ zz, X.length = zz := ⟨_, rfl⟩
        rw [hp] at hl1 R7 hgd ⊢
        rw [hm] at hl2 R7 R9 ⊢
        replace R7 := Lib.hid R7; replace R9 := Lib.hid R9; replace hgd := Lib.hid hgd
        clear hown79 hown9 hown7 hap hPre hX hp hm hx4 hbw4 hx6 hbw6 hx7 hbw7 hb7 hA7 hbd hx8 hwd hb9 hx9
        go_wp2_with fail
        go_loopw [12] (fun i wr => ∃ k : Nat, k ≤ m ∧ i = I k ∧ Bl w9 wr) (fun i _ => m - (intOf i).toNat)
        case atStart => exact ⟨0, by omega, rfl, Bl.rfl' _⟩
        case round =>
          obtain ⟨i, him, rfl, hbi⟩ := hrel
          by_cases hlt : i < m
          · obtain ⟨rfl, q0, q1, q2, q3⟩ := R9.out wr hbi i hlt
            obtain ⟨rfl, s0, s1, s2, s3⟩ := R7.out wr hbi (p + i) (by omega)
            rw [hgd.out i] at s0 s1 s2 s3
            obtain ⟨u, hu⟩ : ∃ t, X.getD i win0 = t := ⟨_, rfl⟩
            rw [hu] at q0 q1 q2 q3 s0 s1 s2 s3
            obtain ⟨uk, ua, ud, uf⟩ := u
            simp only at q0 q1 q2 q3 s0 s1 s2 s3
            clear hu
            go_wp2_with fail
            go_quiet (fail)
            go_wp2_with fail
            go_roundw
            case rel => exact ⟨i + 1, by omega, by go_num, hbi.drn _⟩
            case measure => simp [intOf]; omega
          · obtain rfl : i = m := by omega
            go_wp2_with fail
            refine (lives24 _).mono ?_
            rintro e w19 ⟨rfl, hb19⟩
            go_wp2_with fail
            go_ret
            exact ⟨rfl, (hbw9.tr hbi).tr hb19⟩
    · by_cases hk0 : k = 0
      · subst hk0
        rcases hac.out with ⟨rfl, rfl, rfl⟩ | ⟨rfl, hcap⟩
        · go_wp2_with fail
          go_quiet (fail)
          have hend : ∀ xx yy B', A.drop 0 = yy :: B' → (A.take 0).getLast? = some xx → xx.2.1 / W ≠ yy.2.1 / W := by
            intro xx yy B' h1 h2
            simp at h2
          obtain ⟨wz, hwz⟩ : ∃ zz, wr.drewN nq = zz := ⟨_, rfl⟩
          have hbz : Bl w4 wz := by rw [← hwz]; exact hbr.drn _
          rw [hwz]
          clear hwz
          have hx6 := var_bl hx4 hbz
          have hbw6 := hbw4.tr hbz
          obtain ⟨e0, e1, e2⟩ := var_cells hx6
          have Wa := windows_off L W S wz g 0 none 0 A (fun w' _ i hi => by have := hN.out; omega) hok hk.out
          rw [hN.out] at Wa
          replace Wa := Lib.hid Wa
          clear d0 d1 d2
          go_wp2_with fail
          refine Wa.out.mono ?_
          rintro e w7 ⟨v7, b7, rfl, hb7', hown7, hb7⟩
          have hx7 := var_bl hx6 hb7
          have hbw7 := hbw6.tr hb7
          have hA7 := (hAr.out.bl hbz).bl hb7
          clear e0 e1 e2 Wa hb7'
          obtain ⟨wd, hwd⟩ : ∃ zz, w7.drew = zz := ⟨_, rfl⟩
          have hbd := (Bl.rfl' w7).dr
          rw [hwd] at hbd
          have hx8 := var_bl hx7 hbd
          obtain ⟨e0, e1, e2⟩ := var_cells hx8
          replace hwd := Lib.hid hwd
          have hsl : True := trivial
          have Wb := windows_off L W S wd g 0 none 0 (A.drop 0) (fun w' _ i hi => by rw [List.length_drop] at hi; have := hN.out; omega) (okAs_drop hok 0) hk.out
          rw [List.length_drop, hN.out, Nat.sub_zero] at Wb
          replace Wb := Lib.hid Wb
          go_upto_region 7 with fail
          refine wp_region_still_tail 4 (by kernel_rfl) (by kernel_rfl) ?_
          simp only [List.take_succ_cons, List.take_zero, List.drop_succ_cons, List.drop_zero]
          change wpStill _ _ w7.drew (fun a' => wpList _ _ _ _ a' w7.drew) _ _
          rw [hwd.out]
          repeat still_step
          try refine wpStill_nil ?_
          go_wp2_with fail
          refine (Wb.out).mono ?_
          rintro e w9 ⟨v9, b9, rfl, hb9', hown9, hb9⟩
          have hx9 := var_bl hx8 hb9
          have hbw9 := (hbw7.tr hbd).tr hb9
          have hown79 := own_below hown7 (hbd.tr hb9)
          clear e0 e1 e2 hb9' hsl Wb
          obtain ⟨a7, c7, g7, rfl, R7⟩ := wins_read hown79
          obtain ⟨a9, c9, g9, rfl, R9⟩ := wins_read hown9
          have hap := winds_apart hk.out (A.take 0) (A.drop 0) (by rw [List.take_append_drop]; exact hok) hend
          rw [List.take_append_drop] at hap
          rw [hap] at R7 ⊢
          obtain ⟨Pre, hPre⟩ : ∃ zz, winds L W S (A.take 0) = zz := ⟨_, rfl⟩
          obtain ⟨X, hX⟩ : ∃ zz, winds L W S (A.drop 0) = zz := ⟨_, rfl⟩
          have hl1 := winds_len L W S (A.take 0)
          have hl2 := winds_len L W S (A.drop 0)
          rw [hPre] at hl1 R7
          rw [hX] at hl2 R7 R9
          rw [hPre, hX]
          have hl3 : (A.take 0).length ≤ 60 := by rw [List.length_take]; omega
          have hl4 : (A.drop 0).length ≤ 60 := by rw [List.length_drop]; have := hN.out; omega
          rw [List.length_append] at R7 ⊢
          have hgd : ∀ i, (Pre ++ X).getD (Pre.length + i) win0 = X.getD i win0 := fun i => by
            rw [List.getD_eq_getElem?_getD, List.getD_eq_getElem?_getD, List.getElem?_append_right (by omega), show Pre.length + i - Pre.length = i by omega]
          obtain ⟨p, hp⟩ : ∃ zz, Pre.length = zz := ⟨_, rfl⟩
          obtain ⟨m, hm⟩ : ∃ zz, X.length = zz := ⟨_, rfl⟩
          rw [hp] at hl1 R7 hgd ⊢
          rw [hm] at hl2 R7 R9 ⊢
          replace R7 := Lib.hid R7; replace R9 := Lib.hid R9; replace hgd := Lib.hid hgd
          clear hown79 hown9 hown7 hap hPre hX hp hm hx4 hbw4 hx6 hbw6 hx7 hbw7 hb7 hA7 hbd hx8 hwd hb9 hx9
          go_wp2_with fail
          go_loopw [12] (fun i wr => ∃ k : Nat, k ≤ m ∧ i = I k ∧ Bl w9 wr) (fun i _ => m - (intOf i).toNat)
          case atStart => exact ⟨0, by omega, rfl, Bl.rfl' _⟩
          case round =>
            obtain ⟨i, him, rfl, hbi⟩ := hrel
            by_cases hlt : i < m
            · obtain ⟨rfl, q0, q1, q2, q3⟩ := R9.out wr hbi i hlt
              obtain ⟨rfl, s0, s1, s2, s3⟩ := R7.out wr hbi (p + i) (by omega)
              rw [hgd.out i] at s0 s1 s2 s3
              obtain ⟨u, hu⟩ : ∃ t, X.getD i win0 = t := ⟨_, rfl⟩
              rw [hu] at q0 q1 q2 q3 s0 s1 s2 s3
              obtain ⟨uk, ua, ud, uf⟩ := u
              simp only at q0 q1 q2 q3 s0 s1 s2 s3
              clear hu
              go_wp2_with fail
              go_quiet (fail)
              go_wp2_with fail
              go_roundw
              case rel => exact ⟨i + 1, by omega, by go_num, hbi.drn _⟩
              case measure => simp [intOf]; omega
            · obtain rfl : i = m := by omega
              go_wp2_with fail
              refine (lives24 _).mono ?_
              rintro e w19 ⟨rfl, hb19⟩
              go_wp2_with fail
              go_ret
              exact ⟨rfl, (hbw9.tr hbi).tr hb19⟩
        · go_wp2_with fail
          go_quiet (fail)
          have hend : ∀ xx yy B', A.drop 0 = yy :: B' → (A.take 0).getLast? = some xx → xx.2.1 / W ≠ yy.2.1 / W := by
            intro xx yy B' h1 h2
            simp at h2
          obtain ⟨wz, hwz⟩ : ∃ zz, wr.drewN nq = zz := ⟨_, rfl⟩
          have hbz : Bl w4 wz := by rw [← hwz]; exact hbr.drn _
          rw [hwz]
          clear hwz
          have hx6 := var_bl hx4 hbz
          have hbw6 := hbw4.tr hbz
          obtain ⟨e0, e1, e2⟩ := var_cells hx6
          have Wa := windows_off L W S wz g 0 (some ⟨g, 0, none⟩) cap A (hAr.out.bl hbz).read hok hk.out
          rw [hN.out] at Wa
          replace Wa := Lib.hid Wa
          clear d0 d1 d2
          go_wp2_with fail
          refine Wa.out.mono ?_
          rintro e w7 ⟨v7, b7, rfl, hb7', hown7, hb7⟩
          have hx7 := var_bl hx6 hb7
          have hbw7 := hbw6.tr hb7
          have hA7 := (hAr.out.bl hbz).bl hb7
          clear e0 e1 e2 Wa hb7'
          obtain ⟨wd, hwd⟩ : ∃ zz, w7.drew = zz := ⟨_, rfl⟩
          have hbd := (Bl.rfl' w7).dr
          rw [hwd] at hbd
          have hx8 := var_bl hx7 hbd
          obtain ⟨e0, e1, e2⟩ := var_cells hx8
          replace hwd := Lib.hid hwd
          have hsl : True := trivial
          have Wb := windows_off L W S wd g 0 (some ⟨g, 0, none⟩) cap (A.drop 0) (by rw [List.drop_zero]; exact (hA7.bl hbd).read) (okAs_drop hok 0) hk.out
          rw [List.length_drop, hN.out, Nat.sub_zero] at Wb
          replace Wb := Lib.hid Wb
          go_upto_region 7 with fail
          refine wp_region_still_tail 4 (by kernel_rfl) (by kernel_rfl) ?_
          simp only [List.take_succ_cons, List.take_zero, List.drop_succ_cons, List.drop_zero]
          change wpStill _ _ w7.drew (fun a' => wpList _ _ _ _ a' w7.drew) _ _
          rw [hwd.out]
          repeat still_step
          try refine wpStill_nil ?_
          go_wp2_with fail
          refine (Wb.out).mono ?_
          rintro e w9 ⟨v9, b9, rfl, hb9', hown9, hb9⟩
          have hx9 := var_bl hx8 hb9
          have hbw9 := (hbw7.tr hbd).tr hb9
          have hown79 := own_below hown7 (hbd.tr hb9)
          clear e0 e1 e2 hb9' hsl Wb
          obtain ⟨a7, c7, g7, rfl, R7⟩ := wins_read hown79
          obtain ⟨a9, c9, g9, rfl, R9⟩ := wins_read hown9
          have hap := winds_apart hk.out (A.take 0) (A.drop 0) (by rw [List.take_append_drop]; exact hok) hend
          rw [List.take_append_drop] at hap
          rw [hap] at R7 ⊢
          obtain ⟨Pre, hPre⟩ : ∃ zz, winds L W S (A.take 0) = zz := ⟨_, rfl⟩
          obtain ⟨X, hX⟩ : ∃ zz, winds L W S (A.drop 0) = zz := ⟨_, rfl⟩
          have hl1 := winds_len L W S (A.take 0)
          have hl2 := winds_len L W S (A.drop 0)
          rw [hPre] at hl1 R7
          rw [hX] at hl2 R7 R9
          rw [hPre, hX]
          have hl3 : (A.take 0).length ≤ 60 := by rw [List.length_take]; omega
          have hl4 : (A.drop 0).length ≤ 60 := by rw [List.length_drop]; have := hN.out; omega
          rw [List.length_append] at R7 ⊢
          have hgd : ∀ i, (Pre ++ X).getD (Pre.length + i) win0 = X.getD i win0 := fun i => by
            rw [List.getD_eq_getElem?_getD, List.getD_eq_getElem?_getD, List.getElem?_append_right (by omega), show Pre.length + i - Pre.length = i by omega]
          obtain ⟨p, hp⟩ : ∃ zz, Pre.length = zz := ⟨_, rfl⟩
          obtain ⟨m, hm⟩ : ∃ zz, X.length = zz := ⟨_, rfl⟩
          rw [hp] at hl1 R7 hgd ⊢
          rw [hm] at hl2 R7 R9 ⊢
          replace R7 := Lib.hid R7; replace R9 := Lib.hid R9; replace hgd := Lib.hid hgd
          clear hown79 hown9 hown7 hap hPre hX hp hm hx4 hbw4 hx6 hbw6 hx7 hbw7 hb7 hA7 hbd hx8 hwd hb9 hx9
          go_wp2_with fail
          go_loopw [12] (fun i wr => ∃ k : Nat, k ≤ m ∧ i = I k ∧ Bl w9 wr) (fun i _ => m - (intOf i).toNat)
          case atStart => exact ⟨0, by omega, rfl, Bl.rfl' _⟩
          case round =>
            obtain ⟨i, him, rfl, hbi⟩ := hrel
            by_cases hlt : i < m
            · obtain ⟨rfl, q0, q1, q2, q3⟩ := R9.out wr hbi i hlt
              obtain ⟨rfl, s0, s1, s2, s3⟩ := R7.out wr hbi (p + i) (by omega)
              rw [hgd.out i] at s0 s1 s2 s3
              obtain ⟨u, hu⟩ : ∃ t, X.getD i win0 = t := ⟨_, rfl⟩
              rw [hu] at q0 q1 q2 q3 s0 s1 s2 s3
              obtain ⟨uk, ua, ud, uf⟩ := u
              simp only at q0 q1 q2 q3 s0 s1 s2 s3
              clear hu
              go_wp2_with fail
              go_quiet (fail)
              go_wp2_with fail
              go_roundw
              case rel => exact ⟨i + 1, by omega, by go_num, hbi.drn _⟩
              case measure => simp [intOf]; omega
            · obtain rfl : i = m := by omega
              go_wp2_with fail
              refine (lives24 _).mono ?_
              rintro e w19 ⟨rfl, hb19⟩
              go_wp2_with fail
              go_ret
              exact ⟨rfl, (hbw9.tr hbi).tr hb19⟩
      · obtain rfl : k = N := by omega
        have hcap : k ≤ cap ∧ cap ≤ 9223372036854775807 := by
          rcases hac.out with ⟨_, h, _⟩ | ⟨_, h⟩
          · omega
          · exact h
        obtain rfl : a = some ⟨g, 0, none⟩ := by
          rcases hac.out with ⟨_, h, _⟩ | ⟨h, _⟩
          · omega
          · exact h
        have z1 : decide ((k : Int) > 0) = true := decide_eq_true (by omega)
        have z5 : decide (0 < k) = true := decide_eq_true (by omega)
        have z2 : decide ((k : Int) < (k : Int)) = false := decide_eq_false (by omega)
        go_wp2_with fail
        go_quiet (fail)
        have hend : ∀ xx yy B', A.drop k = yy :: B' → (A.take k).getLast? = some xx → xx.2.1 / W ≠ yy.2.1 / W := by
          intro xx yy B' h1 h2
          have hj := hN.out
          have h3 : (A.drop k).length = 0 := by rw [List.length_drop]; omega
          rw [h1] at h3
          simp at h3
        obtain ⟨wz, hwz⟩ : ∃ zz, wr.drewN nq = zz := ⟨_, rfl⟩
        have hbz : Bl w4 wz := by rw [← hwz]; exact hbr.drn _
        rw [hwz]
        clear hwz
        have hx6 := var_bl hx4 hbz
        have hbw6 := hbw4.tr hbz
        obtain ⟨e0, e1, e2⟩ := var_cells hx6
        have Wa := windows_off L W S wz g 0 (some ⟨g, 0, none⟩) cap A (hAr.out.bl hbz).read hok hk.out
        rw [hN.out] at Wa
        replace Wa := Lib.hid Wa
        clear d0 d1 d2
        go_wp2_with fail
        refine Wa.out.mono ?_
        rintro e w7 ⟨v7, b7, rfl, hb7', hown7, hb7⟩
        have hx7 := var_bl hx6 hb7
        have hbw7 := hbw6.tr hb7
        have hA7 := (hAr.out.bl hbz).bl hb7
        clear e0 e1 e2 Wa hb7'
        obtain ⟨wd, hwd⟩ : ∃ zz, w7.drew = zz := ⟨_, rfl⟩
        have hbd := (Bl.rfl' w7).dr
        rw [hwd] at hbd
        have hx8 := var_bl hx7 hbd
        obtain ⟨e0, e1, e2⟩ := var_cells hx8
        replace hwd := Lib.hid hwd
        have hsl : 0 ≤ (k : Int) ∧ (k : Int) ≤ (k : Int) := by omega
        obtain ⟨ak, hak⟩ : ∃ zz, (if cap = k then some (⟨g, 0, none⟩ : Addr) else some ⟨g, k * 3, none⟩) = zz := ⟨_, rfl⟩
        have hAp : ARead wd g (k * 3) ak (A.drop k) := by
          by_cases hc : cap = k
          · intro w' _ i hi
            rw [List.length_drop] at hi
            have := hN.out
            omega
          · rw [if_neg hc] at hak
            subst hak
            exact (hA7.bl hbd).part k
        have Wb := windows_off L W S wd g (k * 3) ak (cap - (k)) (A.drop k) hAp (okAs_drop hok _) hk.out
        rw [List.length_drop, hN.out, Nat.sub_self] at Wb
        replace Wb := Lib.hid Wb
        clear hAp
        go_upto_region 7 with fail
        refine wp_region_still_tail 4 (by kernel_rfl) (by kernel_rfl) ?_
        simp only [List.take_succ_cons, List.take_zero, List.drop_succ_cons, List.drop_zero]
        change wpStill _ _ w7.drew (fun a' => wpList _ _ _ _ a' w7.drew) _ _
        rw [hwd.out]
        repeat still_step
        try refine wpStill_nil ?_
        go_wp2_with fail
        refine (Wb.out).mono ?_
        rintro e w9 ⟨v9, b9, rfl, hb9', hown9, hb9⟩
        have hx9 := var_bl hx8 hb9
        have hbw9 := (hbw7.tr hbd).tr hb9
        have hown79 := own_below hown7 (hbd.tr hb9)
        clear e0 e1 e2 hb9' hsl Wb
        obtain ⟨a7, c7, g7, rfl, R7⟩ := wins_read hown79
        obtain ⟨a9, c9, g9, rfl, R9⟩ := wins_read hown9
        have hap := winds_apart hk.out (A.take k) (A.drop k) (by rw [List.take_append_drop]; exact hok) hend
        rw [List.take_append_drop] at hap
        rw [hap] at R7 ⊢
        obtain ⟨Pre, hPre⟩ : ∃ zz, winds L W S (A.take k) = zz := ⟨_, rfl⟩
        obtain ⟨X, hX⟩ : ∃ zz, winds L W S (A.drop k) = zz := ⟨_, rfl⟩
        have hl1 := winds_len L W S (A.take k)
        have hl2 := winds_len L W S (A.drop k)
        rw [hPre] at hl1 R7
        rw [hX] at hl2 R7 R9
        rw [hPre, hX]
        have hl3 : (A.take k).length ≤ 60 := by rw [List.length_take]; omega
        have hl4 : (A.drop k).length ≤ 60 := by rw [List.length_drop]; have := hN.out; omega
        rw [List.length_append] at R7 ⊢
        have hgd : ∀ i, (Pre ++ X).getD (Pre.length + i) win0 = X.getD i win0 := fun i => by
          rw [List.getD_eq_getElem?_getD, List.getD_eq_getElem?_getD, List.getElem?_append_right (by omega), show Pre.length + i - Pre.length = i by omega]
        obtain ⟨p, hp⟩ : ∃ zz, Pre.length = zz := ⟨_, rfl⟩
        obtain ⟨m, hm⟩ : ∃ zz, X.length = zz := ⟨_, rfl⟩
        rw [hp] at hl1 R7 hgd ⊢
        rw [hm] at hl2 R7 R9 ⊢
        replace R7 := Lib.hid R7; replace R9 := Lib.hid R9; replace hgd := Lib.hid hgd
        clear hown79 hown9 hown7 hap hPre hX hp hm hx4 hbw4 hx6 hbw6 hx7 hbw7 hb7 hA7 hbd hx8 hwd hb9 hx9
        go_wp2_with fail
        go_loopw [12] (fun i wr => ∃ k : Nat, k ≤ m ∧ i = I k ∧ Bl w9 wr) (fun i _ => m - (intOf i).toNat)
        case atStart => exact ⟨0, by omega, rfl, Bl.rfl' _⟩
        case round =>
          obtain ⟨i, him, rfl, hbi⟩ := hrel
          by_cases hlt : i < m
          · obtain ⟨rfl, q0, q1, q2, q3⟩ := R9.out wr hbi i hlt
            obtain ⟨rfl, s0, s1, s2, s3⟩ := R7.out wr hbi (p + i) (by omega)
            rw [hgd.out i] at s0 s1 s2 s3
            obtain ⟨u, hu⟩ : ∃ t, X.getD i win0 = t := ⟨_, rfl⟩
            rw [hu] at q0 q1 q2 q3 s0 s1 s2 s3
            obtain ⟨uk, ua, ud, uf⟩ := u
            simp only at q0 q1 q2 q3 s0 s1 s2 s3
            clear hu
            go_wp2_with fail
            go_quiet (fail)
            go_wp2_with fail
            go_roundw
            case rel => exact ⟨i + 1, by omega, by go_num, hbi.drn _⟩
            case measure => simp [intOf]; omega
          · obtain rfl : i = m := by omega
            go_wp2_with fail
            refine (lives24 _).mono ?_
            rintro e w19 ⟨rfl, hb19⟩
            go_wp2_with fail
            go_ret
            exact ⟨rfl, (hbw9.tr hbi).tr hb19⟩
end Go.Proofs.Ytifmoekgnbgnmaa.leaseApart
