/-
  HeadsDrops is true for every input: what was dropped is not there, what was not is; dropped one behind the other they are as dropped at once; what is set and dropped was never there. No condition.
-/
import Derived.Test.YtcbpagbalagllaaDoorHdS
import Derived.Test.YtcbpagbalagllaaDoorHdO
import Derived.Test.YtcbpagbalagllaaDoorHdI
namespace Go.Proofs.YtcbpagbalagllaaDoor.headsDrops
open Go.ChangeShapes Go.WideShapes Go.ChangeAt Go.RowKit
open Go.Proofs.YtcbpagbalagllaaDoor.heads
set_option linter.unusedVariables false
set_option linter.unusedSimpArgs false

set_option maxRecDepth 20000 in
set_option maxHeartbeats 16000000 in
theorem walk {w : World} (v0 : Value) (z0 : List Int) (hv0 : IntsAt w v0 z0) (hz0 : i64ok z0) (hm0 : z0.length ≤ maxLen) (v1 : Value) (z1 : List Int) (hv1 : IntsAt w v1 z1) (hz1 : i64ok z1) (hm1 : z1.length ≤ maxLen) (a3 : Int) (l3 : -9223372036854775808 ≤ a3) (u3 : a3 ≤ 9223372036854775807) :
    Calls Tryd.prog 8 #[v0, v1, I a3] w fun e w' => e = .returned (.bool true) ∧ Bl w w' := by
  have HM := Lib.hid (heads_mk z0 v0 w hv0 hz0 hm0)
  have NM := Lib.hid (fun w' (hb : Bl w w') => names_mk z1 v1 w' (Rd.below hv1 hb) hz1 hm1)
  have LV := Lib.hid lives_any
  have O3 := Lib.hid (fun w => one_any a3 w l3 u3)
  have okA := ok_heads z0 (min z0.length 12)
  have lC : (namesF z1 (min z1.length 6)).length ≤ 6 := by rw [namesF_len]; omega
  have m3 := may_one a3
  obtain ⟨o, ho⟩ : ∃ z_, (oneF a3) = z_ := ⟨_, rfl⟩
  rw [ho] at O3 m3
  obtain ⟨on, ou⟩ := o
  obtain ⟨A, hA⟩ : ∃ z_, (headsF z0 (min z0.length 12)) = z_ := ⟨_, rfl⟩
  rw [hA] at HM okA
  obtain ⟨C, hC⟩ : ∃ z_, (namesF z1 (min z1.length 6)) = z_ := ⟨_, rfl⟩
  rw [hC] at lC
  simp only [hC] at NM
  clear hv0 hv1 hz0 hz1 hm0 hm1 l3 u3 ho hA hC
  have lA := okA.len
  have okB := okA.drop C
  have lB := okB.len
  go_enter Tryd.func8, Tryd.ntmps8
  go_wp2_with fail
  with_reducible refine (HM.out).mono ?_
  rintro e w1 ⟨va, rfl, hOA, hb1⟩
  have hHA := heads_own hOA
  obtain ⟨aa, ag, ao, ac, rfl, har⟩ := hHA
  replace hHA : HeadsAt w1 (.slice aa A.length ac) A := ⟨aa, ag, ao, ac, rfl, har⟩
  replace hb1 := Lib.hid hb1
  replace hHA := Lib.hid hHA
  clear HM hOA har
  go_wp2_with fail
  with_reducible refine (NM.out _ hb1.out).mono ?_
  rintro e w2 ⟨vc, rfl, hOC, hb2⟩
  have hHC := texts_own hOC
  obtain ⟨ca, cg, co, cc, rfl, hcr⟩ := hHC
  replace hHC : TextsAt w2 (.slice ca C.length cc) C := ⟨ca, cg, co, cc, rfl, hcr⟩
  have hHA2 := hHA.out.bl hb2
  have DP := Lib.hid (drop_any _ A _ C w2 hHA2 hHC (by omega) (by omega))
  have hbz := hb1.out.tr hb2
  clear hOC hb1 hb2 hHA NM hcr
  replace hbz := Lib.hid hbz
  replace hHA2 := Lib.hid hHA2
  replace hHC := Lib.hid hHC
  go_wp2_with fail
  with_reducible refine (DP.out).mono ?_
  rintro e w3 ⟨vb, rfl, hOB, hb3⟩
  have hHB := heads_own hOB
  obtain ⟨ba, bg, bo, bc, rfl, hbr0⟩ := hHB
  replace hHB : HeadsAt w3 (.slice ba (dropF A C).length bc) (dropF A C) := ⟨ba, bg, bo, bc, rfl, hbr0⟩
  have HA3 := hHA2.out.bl hb3
  have HC3 := hHC.out.bl hb3
  have hb4 := hbz.out.tr hb3
  clear hOB hb3 hbz hHA2 hHC DP hbr0
  have hat : A = dropF A (C.drop (C.length - 0)) := by rw [Nat.sub_zero, List.drop_length, dropF_nil]
  obtain ⟨ca', cg', co', cc', ecc, CR⟩ := HC3
  simp only [Value.slice.injEq] at ecc
  obtain ⟨rfl, -, rfl⟩ := ecc
  have HC3 : TextsAt w3 (.slice ca C.length cc) C := ⟨ca, cg', co', cc, rfl, CR⟩
  have RC := Lib.hid (fun w' (hb : Bl w3 w') i hi => (CR.bl hb).c tB_len ByteArray.empty i hi)
  clear CR
  have wC : IntKind.i64.wrap ((C.length : Int) - 1) = (C.length : Int) - 1 := by rw [IntKind.wrap_i64]; omega
  replace hHB := Lib.hid hHB
  replace HA3 := Lib.hid HA3
  replace HC3 := Lib.hid HC3
  replace hb4 := Lib.hid hb4
  replace hat := Lib.hid hat
  go_wp2_with fail
  go_loopw [10, 11] (fun o i wr => ∃ k : Nat, k ≤ C.length ∧ i = I ((C.length : Int) - 1 - k) ∧ HeadsAt wr o (dropF A (C.drop (C.length - k))) ∧ Bl w3 wr) (fun _ i _ => (intOf i + 1).toNat)
  case atStart => exact ⟨0, by omega, by simp, by rw [← hat.out]; exact HA3.out, Bl.rfl' _⟩
  case round =>
    obtain ⟨k, hk, rfl, hH1, hbr⟩ := hrel
    by_cases hlt : k < C.length
    · obtain ⟨j, hj⟩ : ∃ j : Nat, C.length - 1 - k = j := ⟨_, rfl⟩
      have hji : (C.length : Int) - 1 - k = (j : Int) := by omega
      obtain ⟨ha, hcc⟩ := RC.out _ hbr j (by omega)
      subst ha
      have c0 := hcc 0 (by decide)
      simp only [List.getElem?_cons_zero, Nat.add_zero, Nat.mul_one] at c0
      have hst : dropF (dropF A (C.drop (C.length - k))) [C.getD j ByteArray.empty] = dropF A (C.drop (C.length - (k + 1))) := by
        rw [dropF_cons, show C.length - (k + 1) = j by omega, show C.length - k = j + 1 by omega, List.getD_eq_getElem?_getD, List.getElem?_eq_getElem (by omega : j < C.length)]
        show dropF A (C[j] :: C.drop (j + 1)) = _
        rw [List.getElem_cons_drop]
      have hdl := drop_len A (C.drop (C.length - k))
      have hd0 : decide ((j : Int) ≥ 0) = true := decide_eq_true (by omega)
      have wj : IntKind.i64.wrap ((j : Int) - 1) = (C.length : Int) - 1 - ((k + 1 : Nat) : Int) := by rw [IntKind.wrap_i64]; omega
      have hjC : j < C.length := by omega
      obtain ⟨x, hx⟩ : ∃ z_, (C.getD j ByteArray.empty) = z_ := ⟨_, rfl⟩
      rw [hx] at c0 hst
      have fl := texts_lit wr x
      have hal := (Bl.rfl' wr).al (.cells #[S x] 9)
      have DR := Lib.hid (drop_any _ _ _ [x] _ (hH1.bl hal) fl (by omega) (by simp))
      rw [hji]
      clear hcc hx hj fl hH1
      replace hst := Lib.hid hst
      replace hbr := Lib.hid hbr
      replace hal := Lib.hid hal
      replace hji := Lib.hid hji
      go_wp2_with fail
      with_reducible refine (DR.out).mono ?_
      rintro e w5 ⟨v5, rfl, h5, hn⟩
      have hH5 := heads_own h5
      rw [hst.out] at hH5
      have hb5 := (hbr.out.tr hal.out).tr hn
      clear h5 hn DR
      replace hH5 := Lib.hid hH5
      replace hb5 := Lib.hid hb5
      go_wp2_with fail
      go_roundw
      case rel => exact ⟨k + 1, by omega, by first | rfl | go_num, hH5.out, hb5.out⟩
      case measure => have := hji.out; simp [intOf] <;> omega
    · obtain rfl : k = C.length := by omega
      have hwm : (C.length : Int) - 1 - (C.length : Nat) = -1 := by omega
      rw [hwm]
      rw [Nat.sub_self, List.drop_zero] at hH1
      have hH1 := Lib.hid hH1
      have hb5 := hb4.out.tr hbr
      have HA5 := HA3.out.bl hbr
      have HB5 := hHB.out.bl hbr
      have HC5 := HC3.out.bl hbr
      obtain ⟨wS, hwS⟩ : ∃ x, x = wr := ⟨_, rfl⟩
      subst hwS
      obtain ⟨a', g', o', c', eaa, ar0, ar1, AR⟩ := HA5
      simp only [Value.slice.injEq] at eaa
      obtain ⟨rfl, -, rfl⟩ := eaa
      have HA5 : HeadsAt wS (.slice aa A.length ac) A := ⟨aa, g', o', ac, rfl, ar0, ar1, AR⟩
      have RA := Lib.hid (fun w' (hb : Bl wS w') i hi => (AR.bl hb).c hB_len h0 i hi)
      clear AR ar0 ar1 hbr HA3 HC3 hHB hb4 hat RC
      have HA := Lib.hid (fun w' (hb : Bl wS w') => HA5.bl hb)
      have HB := Lib.hid (fun w' (hb : Bl wS w') => HB5.bl hb)
      have H1 := Lib.hid (fun w' (hb : Bl wS w') => hH1.out.bl hb)
      have HC := Lib.hid (fun w' (hb : Bl wS w') => HC5.bl hb)
      have GB := Lib.hid (fun s w' (hb : Bl wS w') => get_any _ (dropF A C) s w' (HB5.bl hb) (by omega))
      have HT := Lib.hid (fun s w' (hb : Bl wS w') => hast_any _ C s w' (HC5.bl hb) (by omega))
      clear HA5 HB5 HC5 hH1
      replace hb5 := Lib.hid hb5
      replace okA := Lib.hid okA
      go_wp2_with fail
      go_loopw [12] (fun i wr => ∃ k : Nat, k ≤ A.length ∧ i = I k ∧ Bl wS wr) (fun i _ => A.length - (intOf i).toNat)
      case atStart => exact ⟨0, by omega, rfl, Bl.rfl' _⟩
      case round =>
        obtain ⟨k, hk, rfl, hbr⟩ := hrel
        by_cases hlt : k < A.length
        · obtain ⟨ha, hcc⟩ := RA.out _ hbr k hlt
          subst ha
          have KA := Lib.hid (fun w' (hb : Bl wS w') => (RA.out w' hb k hlt).2)
          have c0 := hcc 0 (by decide)
          have c1 := hcc 1 (by decide)
          simp only [List.getElem?_cons_succ, List.getElem?_cons_zero, Nat.add_zero, ← Nat.add_assoc] at c0 c1
          have d1 : decide ((k : Int) < (A.length : Int)) = true := decide_eq_true (by omega)
          have d2 : decide (k < A.length) = true := decide_eq_true hlt
          have wk : IntKind.i64.wrap ((k : Int) + 1) = ((k + 1 : Nat) : Int) := by rw [IntKind.wrap_i64]; omega
          have gin := fun h => getV_in (A := A) (N := C) (s := (A.getD k h0).n) h
          have gout := fun h => getV_out okA.out (N := C) hlt h
          obtain ⟨x, hx⟩ : ∃ z_, (A.getD k h0) = z_ := ⟨_, rfl⟩
          simp only [hx] at KA
          rw [hx] at c0 c1 gin gout
          obtain ⟨xn, xv⟩ := x
          simp only at c0 c1 gin gout
          have GX := fun w' hb => GB.out xn w' hb
          have TX := fun w' hb => HT.out xn w' hb
          clear hcc hx
          cases hin : inT C xn with
          | true =>
            rw [gin hin] at GX
            simp only [hin] at TX
            clear gin gout hin
            replace GX := Lib.hid GX
            replace TX := Lib.hid TX
            replace hbr := Lib.hid hbr
            go_wp2_with fail
            with_reducible refine (GX.out _ hbr.out).mono ?_
            rintro e w6 ⟨rfl, hn⟩
            have hb6 := hbr.out.tr hn
            have hcc := KA.out _ hb6
            have c0 := hcc 0 (by decide)
            have c1 := hcc 1 (by decide)
            simp only [List.getElem?_cons_succ, List.getElem?_cons_zero, Nat.add_zero, ← Nat.add_assoc] at c0 c1
            clear hn hcc
            replace hb6 := Lib.hid hb6
            go_wp2_with fail
            with_reducible refine (TX.out _ hb6.out).mono ?_
            rintro e w7 ⟨rfl, rfl⟩
            go_wp2_with fail
            go_roundw
            case rel => exact ⟨k + 1, by omega, by first | rfl | go_num, hb6.out⟩
            case measure => simp [intOf] <;> omega
          | false =>
            rw [gout hin] at GX
            simp only [hin] at TX
            clear gin gout hin
            replace GX := Lib.hid GX
            replace TX := Lib.hid TX
            replace hbr := Lib.hid hbr
            go_wp2_with fail
            with_reducible refine (GX.out _ hbr.out).mono ?_
            rintro e w6 ⟨rfl, hn⟩
            have hb6 := hbr.out.tr hn
            have hcc := KA.out _ hb6
            have c0 := hcc 0 (by decide)
            have c1 := hcc 1 (by decide)
            simp only [List.getElem?_cons_succ, List.getElem?_cons_zero, Nat.add_zero, ← Nat.add_assoc] at c0 c1
            clear hn hcc
            replace hb6 := Lib.hid hb6
            go_wp2_with fail
            with_reducible refine (TX.out _ hb6.out).mono ?_
            rintro e w7 ⟨rfl, rfl⟩
            go_wp2_with fail
            go_roundw
            case rel => exact ⟨k + 1, by omega, by first | rfl | go_num, hb6.out⟩
            case measure => simp [intOf] <;> omega
        · obtain rfl : k = A.length := by omega
          have hbw := hb5.out.tr hbr
          clear GB HT RA
          replace hbr := Lib.hid hbr
          replace hbw := Lib.hid hbw
          go_wp2_with fail
          with_reducible refine (O3.out _).mono ?_
          rintro e wo ⟨rfl, hn⟩
          have hY := heap_alloc_new wo (oH ⟨on, ou⟩)
          have hal := (Bl.rfl' wo).al (oH ⟨on, ou⟩)
          obtain ⟨y, hy⟩ : ∃ y, wo.heap.size = y := ⟨_, rfl⟩
          rw [hy] at hY
          obtain ⟨z0, hz0⟩ : ∃ X, wo.alloc (oH ⟨on, ou⟩) = X := ⟨_, rfl⟩
          have hz0' : wo.alloc (.cells #[.string on, .string ou] 25) = z0 := hz0
          rw [hz0] at hY hal
          have hbo := (hbr.out.tr hn).tr hal
          have hbz := (hbw.out.tr hn).tr hal
          clear hn hbr hbw hz0 hal O3 hb5
          obtain ⟨z1, hz1⟩ : ∃ X, z0.drew = X := ⟨_, rfl⟩
          have hb01 : Bl z0 z1 := by rw [← hz1]; exact (Bl.rfl' z0).dr
          have hbS := hbo.tr hb01
          replace hbz := hbz.tr hb01
          replace HA := Lib.hid (fun w' (hb : Bl z1 w') => HA.out w' (hbS.tr hb))
          replace HB := Lib.hid (fun w' (hb : Bl z1 w') => HB.out w' (hbS.tr hb))
          have KX := Lib.hid (fun w' (hb : Bl z1 w') => (⟨cell_at (blk_bl hY (hb01.tr hb)) 0, cell_at (blk_bl hY (hb01.tr hb)) 1⟩ : w'.cell? ⟨y, 0, none⟩ = some (S on) ∧ w'.cell? ⟨y, 1, none⟩ = some (S ou)))
          have RW := Lib.hid (row_any _ _ _ _ z1 (H1.out _ hbS) (HB.out _ (Bl.rfl' z1)) (by omega) (by omega))
          rw [decide_eq_true rfl] at RW
          have CK := Lib.hid (fun w' (hb : Bl z1 w') => check_any _ (dropF A C) w' (HB.out w' hb) (by omega) okB.fit)
          rw [okB.check] at CK
          have lS : (setP A [⟨on, ou⟩]).length ≤ 100 := setP_len A 100 (by omega) (by omega) _
          have lD := drop_len A [on]
          have hDS := Lib.hid (drop_setP okA.out m3 : dropF (setP A [⟨on, ou⟩]) [on] = dropF A [on])
          have hq := Bl.rfl' z1
          clear hbo hY H1 hb01 hbS okB
          replace hbz := Lib.hid hbz
          replace hq := Lib.hid hq
          go_wp2_with fail
          refine wp_region_held_drew (S := fun w' => w'.cell? ⟨y, 0, none⟩ = some (S on) ∧ w'.cell? ⟨y, 1, none⟩ = some (S ou)) (by kernel_rfl) ?_ (fun hHeld => ?_)
          · exact KX.out _ (by rw [hz1]; exact Bl.rfl' _)
          rw [hz1] at hHeld ⊢
          clear hz1 hz0'
          refine wpAnyH_take (i := 0) (v := ?v0_1) rfl (by kernel_rfl) (by kernel_rfl) (by kernel_rfl) (fun _ _ _ h => h) (Or.inl ⟨by rfl, ?y0_1⟩) hHeld ?r0_1
          case y0_1 => (intro w hSw; (try dsimp only at hSw); go_split_ands; go_simp; try with_reducible rfl)
          try simp only [List.getElem_toArray, List.getElem_cons_succ, List.getElem_cons_zero, Act.put, List.setIfInBounds_toArray, List.set_cons_zero, List.set_cons_succ]
          refine wpAnyH_take (i := 1) (v := ?v1_2) rfl (by kernel_rfl) (by kernel_rfl) (by kernel_rfl) (fun _ _ _ h => h) (Or.inl ⟨by rfl, ?y1_2⟩) hHeld ?r1_2
          case y1_2 => (intro w hSw; (try dsimp only at hSw); go_split_ands; go_simp; try with_reducible rfl)
          try simp only [List.getElem_toArray, List.getElem_cons_succ, List.getElem_cons_zero, Act.put, List.setIfInBounds_toArray, List.set_cons_zero, List.set_cons_succ]
          refine wpAnyH_ready (rs := [2]) (by kernel_rfl) (by simp) ?_
          refine AllReadyH.cons rfl (fun K hK => ?_) AllReadyH.nil
          have hHeld' := hHeld
          try dsimp only at hHeld'
          go_split_ands
          go_simp
          refine RW.out.mono ?_
          rintro e z2 ⟨rfl, hn⟩
          replace hq := Lib.hid (hq.out.tr hn)
          clear hn RW
          refine hK.out _ _ ?_ (fun hHeld => ?_)
          · exact (KX.out _ hq.out)
          clear hK K
          try simp only [List.getElem_toArray, List.getElem_cons_succ, List.getElem_cons_zero, Act.put, List.setIfInBounds_toArray, List.set_cons_zero, List.set_cons_succ]
          refine wpAnyH_take (i := 3) (v := ?v3_3) rfl (by kernel_rfl) (by kernel_rfl) (by kernel_rfl) (fun _ _ _ h => h) (Or.inl ⟨by rfl, ?y3_3⟩) hHeld ?r3_3
          case y3_3 => (intro w hSw; (try dsimp only at hSw); go_split_ands; go_simp; try with_reducible rfl)
          try simp only [List.getElem_toArray, List.getElem_cons_succ, List.getElem_cons_zero, Act.put, List.setIfInBounds_toArray, List.set_cons_zero, List.set_cons_succ]
          refine wpAnyH_take (i := 4) (v := ?v4_4) rfl (by kernel_rfl) (by kernel_rfl) (by kernel_rfl) (fun _ _ _ h => h) (Or.inl ⟨by rfl, ?y4_4⟩) hHeld ?r4_4
          case y4_4 => (intro w hSw; (try dsimp only at hSw); go_split_ands; go_simp; try with_reducible rfl)
          try simp only [List.getElem_toArray, List.getElem_cons_succ, List.getElem_cons_zero, Act.put, List.setIfInBounds_toArray, List.set_cons_zero, List.set_cons_succ]
          refine wpAnyH_ready (rs := [5]) (by kernel_rfl) (by simp) ?_
          refine AllReadyH.cons rfl (fun K hK => ?_) AllReadyH.nil
          have hHeld' := hHeld
          try dsimp only at hHeld'
          go_split_ands
          go_simp
          refine (CK.out _ hq.out).mono ?_
          rintro e z3 ⟨rfl, hn⟩
          replace hq := Lib.hid (hq.out.tr hn)
          clear hn CK HB
          refine hK.out _ _ ?_ (fun hHeld => ?_)
          · exact (KX.out _ hq.out)
          clear hK K
          try simp only [List.getElem_toArray, List.getElem_cons_succ, List.getElem_cons_zero, Act.put, List.setIfInBounds_toArray, List.set_cons_zero, List.set_cons_succ]
          refine wpAnyH_take (i := 6) (v := ?v6_5) rfl (by kernel_rfl) (by kernel_rfl) (by kernel_rfl) (fun _ _ _ h => h) (Or.inl ⟨by rfl, ?y6_5⟩) hHeld ?r6_5
          case y6_5 => (intro w hSw; (try dsimp only at hSw); go_split_ands; go_simp; try with_reducible rfl)
          try simp only [List.getElem_toArray, List.getElem_cons_succ, List.getElem_cons_zero, Act.put, List.setIfInBounds_toArray, List.set_cons_zero, List.set_cons_succ]
          refine wpAnyH_take (i := 7) (v := ?v7_6) rfl (by kernel_rfl) (by kernel_rfl) (by kernel_rfl) (fun _ _ _ h => h) (Or.inl ⟨by rfl, ?y7_6⟩) hHeld ?r7_6
          case y7_6 => (intro w hSw; (try dsimp only at hSw); go_split_ands; go_simp; try with_reducible rfl)
          try simp only [List.getElem_toArray, List.getElem_cons_succ, List.getElem_cons_zero, Act.put, List.setIfInBounds_toArray, List.set_cons_zero, List.set_cons_succ]
          refine wpAnyH_take (i := 8) (v := ?v8_7) rfl (by kernel_rfl) (by kernel_rfl) (by kernel_rfl) (fun _ _ _ h => h) (Or.inl ⟨by rfl, ?y8_7⟩) hHeld ?r8_7
          case y8_7 => (intro w hSw; (try dsimp only at hSw); go_split_ands; go_simp; try with_reducible rfl)
          try simp only [List.getElem_toArray, List.getElem_cons_succ, List.getElem_cons_zero, Act.put, List.setIfInBounds_toArray, List.set_cons_zero, List.set_cons_succ]
          refine wpAnyH_take (i := 9) (v := ?v9_8) rfl (by kernel_rfl) (by kernel_rfl) (by kernel_rfl) (fun _ _ _ h => h) (Or.inl ⟨by rfl, ?y9_8⟩) hHeld ?r9_8
          case y9_8 => (intro w hSw; (try dsimp only at hSw); go_split_ands; go_simp; try with_reducible rfl)
          try simp only [List.getElem_toArray, List.getElem_cons_succ, List.getElem_cons_zero, Act.put, List.setIfInBounds_toArray, List.set_cons_zero, List.set_cons_succ]
          refine wpAnyH_take (i := 10) (v := ?v10_9) rfl (by kernel_rfl) (by kernel_rfl) (by kernel_rfl) (fun _ _ _ h => h) (Or.inl ⟨by rfl, ?y10_9⟩) hHeld ?r10_9
          case y10_9 => (intro w hSw; (try dsimp only at hSw); go_split_ands; go_simp; try with_reducible rfl)
          try simp only [List.getElem_toArray, List.getElem_cons_succ, List.getElem_cons_zero, Act.put, List.setIfInBounds_toArray, List.set_cons_zero, List.set_cons_succ]
          refine wpAnyH_take (i := 13) (v := ?v13_10) rfl (by kernel_rfl) (by kernel_rfl) (by kernel_rfl) (fun _ _ _ h => h) (Or.inl ⟨by rfl, ?y13_10⟩) hHeld ?r13_10
          case y13_10 => (intro w hSw; (try dsimp only at hSw); go_split_ands; go_simp; try with_reducible rfl)
          try simp only [List.getElem_toArray, List.getElem_cons_succ, List.getElem_cons_zero, Act.put, List.setIfInBounds_toArray, List.set_cons_zero, List.set_cons_succ]
          refine wpAnyH_take (i := 14) (v := ?v14_11) rfl (by kernel_rfl) (by kernel_rfl) (by kernel_rfl) (fun _ _ _ h => h) (Or.inl ⟨by rfl, ?y14_11⟩) hHeld ?r14_11
          case y14_11 => (intro w hSw; (try dsimp only at hSw); go_split_ands; go_simp; try with_reducible rfl)
          try simp only [List.getElem_toArray, List.getElem_cons_succ, List.getElem_cons_zero, Act.put, List.setIfInBounds_toArray, List.set_cons_zero, List.set_cons_succ]
          refine wpAnyH_take (i := 17) (v := ?v17_12) rfl (by kernel_rfl) (by kernel_rfl) (by kernel_rfl) (fun _ _ _ h => h) (Or.inl ⟨by rfl, ?y17_12⟩) hHeld ?r17_12
          case y17_12 => (intro w hSw; (try dsimp only at hSw); go_split_ands; go_simp; try with_reducible rfl)
          try simp only [List.getElem_toArray, List.getElem_cons_succ, List.getElem_cons_zero, Act.put, List.setIfInBounds_toArray, List.set_cons_zero, List.set_cons_succ]
          refine wpAnyH_take (i := 18) (v := ?v18_13) rfl (by kernel_rfl) (by kernel_rfl) (by kernel_rfl) (fun _ _ _ h => h) (Or.inl ⟨by rfl, ?y18_13⟩) hHeld ?r18_13
          case y18_13 => (intro w hSw; (try dsimp only at hSw); go_split_ands; go_simp; try with_reducible rfl)
          try simp only [List.getElem_toArray, List.getElem_cons_succ, List.getElem_cons_zero, Act.put, List.setIfInBounds_toArray, List.set_cons_zero, List.set_cons_succ]
          refine wpAnyH_take (i := 19) (v := ?v19_14) rfl (by kernel_rfl) (by kernel_rfl) (by kernel_rfl) (fun _ _ _ h => h) (Or.inl ⟨by rfl, ?y19_14⟩) hHeld ?r19_14
          case y19_14 => (intro w hSw; (try dsimp only at hSw); go_split_ands; go_simp; try with_reducible rfl)
          try simp only [List.getElem_toArray, List.getElem_cons_succ, List.getElem_cons_zero, Act.put, List.setIfInBounds_toArray, List.set_cons_zero, List.set_cons_succ]
          refine wpAnyH_ready (rs := [11, 15, 20]) (by kernel_rfl) (by simp) ?_
          refine AllReadyH.cons rfl (fun K hK => ?_) (AllReadyH.cons rfl (fun K hK => ?_) (AllReadyH.cons rfl (fun K hK => ?_) (AllReadyH.nil)))
          · have hHeld' := hHeld
            try dsimp only at hHeld'
            go_split_ands
            go_simp
            refine hK.out _ _ ?_ (fun hHeld => ?_)
            · exact (KX.out _ (hq.out.al (.cells #[S on, S ou] 25)))
            clear hK K
            try simp only [List.getElem_toArray, List.getElem_cons_succ, List.getElem_cons_zero, Act.put, List.setIfInBounds_toArray, List.set_cons_zero, List.set_cons_succ]
            have fa := heads_lit z3 [⟨on, ou⟩] (by simp)
            have hn := (Bl.rfl' z3).al (.cells #[S on, S ou] 25)
            replace fa : HeadsAt (z3.alloc (.cells #[S on, S ou] 25)) (.slice (some ⟨z3.heap.size, 0, none⟩) 1 1) [⟨on, ou⟩] := fa
            obtain ⟨z4, hy⟩ : ∃ x, z3.alloc (.cells #[S on, S ou] 25) = x := ⟨_, rfl⟩
            rw [hy] at hHeld fa hn ⊢
            clear hy
            replace fa := Lib.hid fa
            replace hq := Lib.hid (hq.out.tr hn)
            clear hn
            refine wpAnyH_ready (rs := [12, 15, 20]) (by kernel_rfl) (by simp) ?_
            refine AllReadyH.cons rfl (fun K hK => ?_) (AllReadyH.cons rfl (fun K hK => ?_) (AllReadyH.cons rfl (fun K hK => ?_) (AllReadyH.nil)))
            · have hHeld' := hHeld
              try dsimp only at hHeld'
              go_split_ands
              go_simp
              refine (set_any _ A _ [⟨on, ou⟩] _ (HA.out _ hq.out) fa.out (by omega) (by simp)).mono ?_
              rintro e z5 ⟨xs, rfl, hx, hn⟩
              have fs := Lib.hid (heads_own hx)
              clear hx
              replace fa := Lib.hid (fa.out.bl hn)
              replace hq := Lib.hid (hq.out.tr hn)
              clear hn
              refine hK.out _ _ ?_ (fun hHeld => ?_)
              · exact (KX.out _ hq.out)
              clear hK K
              try simp only [List.getElem_toArray, List.getElem_cons_succ, List.getElem_cons_zero, Act.put, List.setIfInBounds_toArray, List.set_cons_zero, List.set_cons_succ]
              refine wpAnyH_ready (rs := [15, 20]) (by kernel_rfl) (by simp) ?_
              refine AllReadyH.cons rfl (fun K hK => ?_) (AllReadyH.cons rfl (fun K hK => ?_) (AllReadyH.nil))
              · have hHeld' := hHeld
                try dsimp only at hHeld'
                go_split_ands
                go_simp
                refine hK.out _ _ ?_ (fun hHeld => ?_)
                · exact (KX.out _ (hq.out.al (.cells #[S on] 9)))
                clear hK K
                try simp only [List.getElem_toArray, List.getElem_cons_succ, List.getElem_cons_zero, Act.put, List.setIfInBounds_toArray, List.set_cons_zero, List.set_cons_succ]
                have fc := texts_lit z5 on
                have hn := (Bl.rfl' z5).al (.cells #[S on] 9)
                obtain ⟨z6, hy⟩ : ∃ x, z5.alloc (.cells #[S on] 9) = x := ⟨_, rfl⟩
                rw [hy] at hHeld fc hn ⊢
                clear hy
                replace fc := Lib.hid fc
                replace fa := Lib.hid (fa.out.bl hn)
                replace fs := Lib.hid (fs.out.bl hn)
                replace hq := Lib.hid (hq.out.tr hn)
                clear hn
                refine wpAnyH_ready (rs := [16, 20]) (by kernel_rfl) (by simp) ?_
                refine AllReadyH.cons rfl (fun K hK => ?_) (AllReadyH.cons rfl (fun K hK => ?_) (AllReadyH.nil))
                · have hHeld' := hHeld
                  try dsimp only at hHeld'
                  go_split_ands
                  go_simp
                  refine (drop_any _ (setP A [⟨on, ou⟩]) _ [on] _ fs.out fc.out (by omega) (by simp)).mono ?_
                  rintro e z7 ⟨xf, rfl, hx, hn⟩
                  have ff := heads_own hx
                  rw [hDS.out] at ff
                  replace ff := Lib.hid ff
                  clear hx
                  replace fa := Lib.hid (fa.out.bl hn)
                  replace fs := Lib.hid (fs.out.bl hn)
                  replace fc := Lib.hid (fc.out.bl hn)
                  replace hq := Lib.hid (hq.out.tr hn)
                  clear hn
                  refine hK.out _ _ ?_ (fun hHeld => ?_)
                  · exact (KX.out _ hq.out)
                  clear hK K
                  try simp only [List.getElem_toArray, List.getElem_cons_succ, List.getElem_cons_zero, Act.put, List.setIfInBounds_toArray, List.set_cons_zero, List.set_cons_succ]
                  refine wpAnyH_ready (rs := [20]) (by kernel_rfl) (by simp) ?_
                  refine AllReadyH.cons rfl (fun K hK => ?_) AllReadyH.nil
                  have hHeld' := hHeld
                  try dsimp only at hHeld'
                  go_split_ands
                  go_simp
                  refine hK.out _ _ ?_ (fun hHeld => ?_)
                  · exact (KX.out _ (hq.out.al (.cells #[S on] 9)))
                  clear hK K
                  try simp only [List.getElem_toArray, List.getElem_cons_succ, List.getElem_cons_zero, Act.put, List.setIfInBounds_toArray, List.set_cons_zero, List.set_cons_succ]
                  have fd := texts_lit z7 on
                  have hn := (Bl.rfl' z7).al (.cells #[S on] 9)
                  obtain ⟨z8, hy⟩ : ∃ x, z7.alloc (.cells #[S on] 9) = x := ⟨_, rfl⟩
                  rw [hy] at hHeld fd hn ⊢
                  clear hy
                  replace fd := Lib.hid fd
                  replace fa := Lib.hid (fa.out.bl hn)
                  replace fs := Lib.hid (fs.out.bl hn)
                  replace fc := Lib.hid (fc.out.bl hn)
                  replace ff := Lib.hid (ff.out.bl hn)
                  replace hq := Lib.hid (hq.out.tr hn)
                  clear hn
                  refine wpAnyH_ready (rs := [21]) (by kernel_rfl) (by simp) ?_
                  refine AllReadyH.cons rfl (fun K hK => ?_) AllReadyH.nil
                  have hHeld' := hHeld
                  try dsimp only at hHeld'
                  go_split_ands
                  go_simp
                  refine (drop_any _ A _ [on] _ (HA.out _ hq.out) fd.out (by omega) (by simp)).mono ?_
                  rintro e z9 ⟨xe, rfl, hx, hn⟩
                  have fe := Lib.hid (heads_own hx)
                  clear hx
                  replace fa := Lib.hid (fa.out.bl hn)
                  replace fs := Lib.hid (fs.out.bl hn)
                  replace fc := Lib.hid (fc.out.bl hn)
                  replace ff := Lib.hid (ff.out.bl hn)
                  replace fd := Lib.hid (fd.out.bl hn)
                  replace hq := Lib.hid (hq.out.tr hn)
                  clear hn
                  refine hK.out _ _ ?_ (fun hHeld => ?_)
                  · exact (KX.out _ hq.out)
                  clear hK K
                  try simp only [List.getElem_toArray, List.getElem_cons_succ, List.getElem_cons_zero, Act.put, List.setIfInBounds_toArray, List.set_cons_zero, List.set_cons_succ]
                  refine wpAnyH_ready (rs := [22]) (by kernel_rfl) (by simp) ?_
                  refine AllReadyH.cons rfl (fun K hK => ?_) AllReadyH.nil
                  have hHeld' := hHeld
                  try dsimp only at hHeld'
                  go_split_ands
                  go_simp
                  have RW2 := row_any _ _ _ _ _ ff.out fe.out (by omega) (by omega)
                  rw [decide_eq_true rfl] at RW2
                  refine RW2.mono ?_
                  rintro e z10 ⟨rfl, hn⟩
                  replace hq := Lib.hid (hq.out.tr hn)
                  clear hn RW2
                  refine hK.out _ _ ?_ (fun hHeld => ?_)
                  · exact (KX.out _ hq.out)
                  clear hK K
                  try simp only [List.getElem_toArray, List.getElem_cons_succ, List.getElem_cons_zero, Act.put, List.setIfInBounds_toArray, List.set_cons_zero, List.set_cons_succ]
                  refine wpAnyH_take (i := 23) (v := ?v23_15) rfl (by kernel_rfl) (by kernel_rfl) (by kernel_rfl) (fun _ _ _ h => h) (Or.inl ⟨by rfl, ?y23_15⟩) hHeld ?r23_15
                  case y23_15 => (intro w hSw; (try dsimp only at hSw); go_split_ands; go_simp; try with_reducible rfl)
                  try simp only [List.getElem_toArray, List.getElem_cons_succ, List.getElem_cons_zero, Act.put, List.setIfInBounds_toArray, List.set_cons_zero, List.set_cons_succ]
                  refine wpAnyH_take (i := 24) (v := ?v24_16) rfl (by kernel_rfl) (by kernel_rfl) (by kernel_rfl) (fun _ _ _ h => h) (Or.inl ⟨by rfl, ?y24_16⟩) hHeld ?r24_16
                  case y24_16 => (intro w hSw; (try dsimp only at hSw); go_split_ands; go_simp; try with_reducible rfl)
                  try simp only [List.getElem_toArray, List.getElem_cons_succ, List.getElem_cons_zero, Act.put, List.setIfInBounds_toArray, List.set_cons_zero, List.set_cons_succ]
                  refine wpAnyH_take (i := 25) (v := ?v25_17) rfl (by kernel_rfl) (by kernel_rfl) (by kernel_rfl) (fun _ _ _ h => h) (Or.inl ⟨by rfl, ?y25_17⟩) hHeld ?r25_17
                  case y25_17 => (intro w hSw; (try dsimp only at hSw); go_split_ands; go_simp; try with_reducible rfl)
                  try simp only [List.getElem_toArray, List.getElem_cons_succ, List.getElem_cons_zero, Act.put, List.setIfInBounds_toArray, List.set_cons_zero, List.set_cons_succ]
                  refine wpAnyH_take (i := 28) (v := ?v28_18) rfl (by kernel_rfl) (by kernel_rfl) (by kernel_rfl) (fun _ _ _ h => h) (Or.inl ⟨by rfl, ?y28_18⟩) hHeld ?r28_18
                  case y28_18 => (intro w hSw; (try dsimp only at hSw); go_split_ands; go_simp; try with_reducible rfl)
                  try simp only [List.getElem_toArray, List.getElem_cons_succ, List.getElem_cons_zero, Act.put, List.setIfInBounds_toArray, List.set_cons_zero, List.set_cons_succ]
                  refine wpAnyH_take (i := 29) (v := ?v29_19) rfl (by kernel_rfl) (by kernel_rfl) (by kernel_rfl) (fun _ _ _ h => h) (Or.inl ⟨by rfl, ?y29_19⟩) hHeld ?r29_19
                  case y29_19 => (intro w hSw; (try dsimp only at hSw); go_split_ands; go_simp; try with_reducible rfl)
                  try simp only [List.getElem_toArray, List.getElem_cons_succ, List.getElem_cons_zero, Act.put, List.setIfInBounds_toArray, List.set_cons_zero, List.set_cons_succ]
                  refine wpAnyH_ready (rs := [26]) (by kernel_rfl) (by simp) ?_
                  refine AllReadyH.cons rfl (fun K hK => ?_) AllReadyH.nil
                  have hHeld' := hHeld
                  try dsimp only at hHeld'
                  go_split_ands
                  go_simp
                  refine (drop_any _ A _ [] _ (HA.out _ hq.out) (texts_nil _) (by omega) (by simp)).mono ?_
                  rintro e z11 ⟨x6, rfl, hx, hn⟩
                  have f6 := heads_own hx
                  rw [dropF_nil] at f6
                  obtain ⟨pa, pg, po, pc, rfl, -⟩ := f6
                  replace hq := Lib.hid (hq.out.tr hn)
                  clear hn hx
                  refine hK.out _ _ ?_ (fun hHeld => ?_)
                  · exact (KX.out _ hq.out)
                  clear hK K
                  try simp only [List.getElem_toArray, List.getElem_cons_succ, List.getElem_cons_zero, Act.put, List.setIfInBounds_toArray, List.set_cons_zero, List.set_cons_succ]
                  refine wpAnyH_take (i := 27) (v := ?v27_20) rfl (by kernel_rfl) (by kernel_rfl) (by kernel_rfl) (fun _ _ _ h => h) (Or.inl ⟨by rfl, ?y27_20⟩) hHeld ?r27_20
                  case y27_20 => (intro w hSw; (try dsimp only at hSw); go_split_ands; go_simp; try with_reducible rfl)
                  try simp only [List.getElem_toArray, List.getElem_cons_succ, List.getElem_cons_zero, Act.put, List.setIfInBounds_toArray, List.set_cons_zero, List.set_cons_succ]
                  refine wpAnyH_take (i := 30) (v := ?v30_21) rfl (by kernel_rfl) (by kernel_rfl) (by kernel_rfl) (fun _ _ _ h => h) (Or.inl ⟨by rfl, ?y30_21⟩) hHeld ?r30_21
                  case y30_21 => (intro w hSw; (try dsimp only at hSw); go_split_ands; go_simp; try with_reducible rfl)
                  try simp only [List.getElem_toArray, List.getElem_cons_succ, List.getElem_cons_zero, Act.put, List.setIfInBounds_toArray, List.set_cons_zero, List.set_cons_succ]
                  refine wpAnyH_take (i := 31) (v := ?v31_22) rfl (by kernel_rfl) (by kernel_rfl) (by kernel_rfl) (fun _ _ _ h => h) (Or.inl ⟨by rfl, ?y31_22⟩) hHeld ?r31_22
                  case y31_22 => (intro w hSw; (try dsimp only at hSw); go_split_ands; go_simp; try with_reducible rfl)
                  try simp only [List.getElem_toArray, List.getElem_cons_succ, List.getElem_cons_zero, Act.put, List.setIfInBounds_toArray, List.set_cons_zero, List.set_cons_succ]
                  refine wpAnyH_take (i := 32) (v := ?v32_23) rfl (by kernel_rfl) (by kernel_rfl) (by kernel_rfl) (fun _ _ _ h => h) (Or.inl ⟨by rfl, ?y32_23⟩) hHeld ?r32_23
                  case y32_23 => (intro w hSw; (try dsimp only at hSw); go_split_ands; go_simp; try with_reducible rfl)
                  try simp only [List.getElem_toArray, List.getElem_cons_succ, List.getElem_cons_zero, Act.put, List.setIfInBounds_toArray, List.set_cons_zero, List.set_cons_succ]
                  refine wpAnyH_ready (rs := [33]) (by kernel_rfl) (by simp) ?_
                  refine AllReadyH.cons rfl (fun K hK => ?_) AllReadyH.nil
                  have hHeld' := hHeld
                  try dsimp only at hHeld'
                  go_split_ands
                  go_simp
                  refine (LV.out _).mono ?_
                  rintro e z12 ⟨rfl, hn⟩
                  replace hq := Lib.hid (hq.out.tr hn)
                  clear hn
                  refine hK.out _ _ ?_ (fun hHeld => ?_)
                  · exact (KX.out _ hq.out)
                  clear hK K
                  try simp only [List.getElem_toArray, List.getElem_cons_succ, List.getElem_cons_zero, Act.put, List.setIfInBounds_toArray, List.set_cons_zero, List.set_cons_succ]
                  refine wpAnyH_take (i := 34) (v := ?v34_24) rfl (by kernel_rfl) (by kernel_rfl) (by kernel_rfl) (fun _ _ _ h => h) (Or.inl ⟨by rfl, ?y34_24⟩) hHeld ?r34_24
                  case y34_24 => (intro w hSw; (try dsimp only at hSw); go_split_ands; go_simp; try with_reducible rfl)
                  try simp only [List.getElem_toArray, List.getElem_cons_succ, List.getElem_cons_zero, Act.put, List.setIfInBounds_toArray, List.set_cons_zero, List.set_cons_succ]
                  refine wpAnyH_take (i := 35) (v := ?v35_25) rfl (by kernel_rfl) (by kernel_rfl) (by kernel_rfl) (fun _ _ _ h => h) (Or.inl ⟨by rfl, ?y35_25⟩) hHeld ?r35_25
                  case y35_25 => (intro w hSw; (try dsimp only at hSw); go_split_ands; go_simp; try with_reducible rfl)
                  try simp only [List.getElem_toArray, List.getElem_cons_succ, List.getElem_cons_zero, Act.put, List.setIfInBounds_toArray, List.set_cons_zero, List.set_cons_succ]
                  refine wpAnyH_done (by kernel_rfl) ?_ _
                  go_wp2_with fail
                  go_ret
                  exact ⟨rfl, hbz.out.tr hq.out⟩
                · have hHeld' := hHeld
                  try dsimp only at hHeld'
                  go_split_ands
                  go_simp
                  refine hK.out _ _ ?_ (fun hHeld => ?_)
                  · exact (KX.out _ (hq.out.al (.cells #[S on] 9)))
                  clear hK K
                  try simp only [List.getElem_toArray, List.getElem_cons_succ, List.getElem_cons_zero, Act.put, List.setIfInBounds_toArray, List.set_cons_zero, List.set_cons_succ]
                  have fd := texts_lit z6 on
                  have hn := (Bl.rfl' z6).al (.cells #[S on] 9)
                  obtain ⟨z7, hy⟩ : ∃ x, z6.alloc (.cells #[S on] 9) = x := ⟨_, rfl⟩
                  rw [hy] at hHeld fd hn ⊢
                  clear hy
                  replace fd := Lib.hid fd
                  replace fa := Lib.hid (fa.out.bl hn)
                  replace fs := Lib.hid (fs.out.bl hn)
                  replace fc := Lib.hid (fc.out.bl hn)
                  replace hq := Lib.hid (hq.out.tr hn)
                  clear hn
                  refine wpAnyH_ready (rs := [16]) (by kernel_rfl) (by simp) ?_
                  refine AllReadyH.cons rfl (fun K hK => ?_) AllReadyH.nil
                  have hHeld' := hHeld
                  try dsimp only at hHeld'
                  go_split_ands
                  go_simp
                  refine (drop_any _ (setP A [⟨on, ou⟩]) _ [on] _ fs.out fc.out (by omega) (by simp)).mono ?_
                  rintro e z8 ⟨xf, rfl, hx, hn⟩
                  have ff := heads_own hx
                  rw [hDS.out] at ff
                  replace ff := Lib.hid ff
                  clear hx
                  replace fa := Lib.hid (fa.out.bl hn)
                  replace fs := Lib.hid (fs.out.bl hn)
                  replace fc := Lib.hid (fc.out.bl hn)
                  replace fd := Lib.hid (fd.out.bl hn)
                  replace hq := Lib.hid (hq.out.tr hn)
                  clear hn
                  refine hK.out _ _ ?_ (fun hHeld => ?_)
                  · exact (KX.out _ hq.out)
                  clear hK K
                  try simp only [List.getElem_toArray, List.getElem_cons_succ, List.getElem_cons_zero, Act.put, List.setIfInBounds_toArray, List.set_cons_zero, List.set_cons_succ]
                  refine wpAnyH_ready (rs := [21]) (by kernel_rfl) (by simp) ?_
                  refine AllReadyH.cons rfl (fun K hK => ?_) AllReadyH.nil
                  have hHeld' := hHeld
                  try dsimp only at hHeld'
                  go_split_ands
                  go_simp
                  refine (drop_any _ A _ [on] _ (HA.out _ hq.out) fd.out (by omega) (by simp)).mono ?_
                  rintro e z9 ⟨xe, rfl, hx, hn⟩
                  have fe := Lib.hid (heads_own hx)
                  clear hx
                  replace fa := Lib.hid (fa.out.bl hn)
                  replace fs := Lib.hid (fs.out.bl hn)
                  replace fc := Lib.hid (fc.out.bl hn)
                  replace fd := Lib.hid (fd.out.bl hn)
                  replace ff := Lib.hid (ff.out.bl hn)
                  replace hq := Lib.hid (hq.out.tr hn)
                  clear hn
                  refine hK.out _ _ ?_ (fun hHeld => ?_)
                  · exact (KX.out _ hq.out)
                  clear hK K
                  try simp only [List.getElem_toArray, List.getElem_cons_succ, List.getElem_cons_zero, Act.put, List.setIfInBounds_toArray, List.set_cons_zero, List.set_cons_succ]
                  refine wpAnyH_ready (rs := [22]) (by kernel_rfl) (by simp) ?_
                  refine AllReadyH.cons rfl (fun K hK => ?_) AllReadyH.nil
                  have hHeld' := hHeld
                  try dsimp only at hHeld'
                  go_split_ands
                  go_simp
                  have RW2 := row_any _ _ _ _ _ ff.out fe.out (by omega) (by omega)
                  rw [decide_eq_true rfl] at RW2
                  refine RW2.mono ?_
                  rintro e z10 ⟨rfl, hn⟩
                  replace hq := Lib.hid (hq.out.tr hn)
                  clear hn RW2
                  refine hK.out _ _ ?_ (fun hHeld => ?_)
                  · exact (KX.out _ hq.out)
                  clear hK K
                  try simp only [List.getElem_toArray, List.getElem_cons_succ, List.getElem_cons_zero, Act.put, List.setIfInBounds_toArray, List.set_cons_zero, List.set_cons_succ]
                  refine wpAnyH_take (i := 23) (v := ?v23_26) rfl (by kernel_rfl) (by kernel_rfl) (by kernel_rfl) (fun _ _ _ h => h) (Or.inl ⟨by rfl, ?y23_26⟩) hHeld ?r23_26
                  case y23_26 => (intro w hSw; (try dsimp only at hSw); go_split_ands; go_simp; try with_reducible rfl)
                  try simp only [List.getElem_toArray, List.getElem_cons_succ, List.getElem_cons_zero, Act.put, List.setIfInBounds_toArray, List.set_cons_zero, List.set_cons_succ]
                  refine wpAnyH_take (i := 24) (v := ?v24_27) rfl (by kernel_rfl) (by kernel_rfl) (by kernel_rfl) (fun _ _ _ h => h) (Or.inl ⟨by rfl, ?y24_27⟩) hHeld ?r24_27
                  case y24_27 => (intro w hSw; (try dsimp only at hSw); go_split_ands; go_simp; try with_reducible rfl)
                  try simp only [List.getElem_toArray, List.getElem_cons_succ, List.getElem_cons_zero, Act.put, List.setIfInBounds_toArray, List.set_cons_zero, List.set_cons_succ]
                  refine wpAnyH_take (i := 25) (v := ?v25_28) rfl (by kernel_rfl) (by kernel_rfl) (by kernel_rfl) (fun _ _ _ h => h) (Or.inl ⟨by rfl, ?y25_28⟩) hHeld ?r25_28
                  case y25_28 => (intro w hSw; (try dsimp only at hSw); go_split_ands; go_simp; try with_reducible rfl)
                  try simp only [List.getElem_toArray, List.getElem_cons_succ, List.getElem_cons_zero, Act.put, List.setIfInBounds_toArray, List.set_cons_zero, List.set_cons_succ]
                  refine wpAnyH_take (i := 28) (v := ?v28_29) rfl (by kernel_rfl) (by kernel_rfl) (by kernel_rfl) (fun _ _ _ h => h) (Or.inl ⟨by rfl, ?y28_29⟩) hHeld ?r28_29
                  case y28_29 => (intro w hSw; (try dsimp only at hSw); go_split_ands; go_simp; try with_reducible rfl)
                  try simp only [List.getElem_toArray, List.getElem_cons_succ, List.getElem_cons_zero, Act.put, List.setIfInBounds_toArray, List.set_cons_zero, List.set_cons_succ]
                  refine wpAnyH_take (i := 29) (v := ?v29_30) rfl (by kernel_rfl) (by kernel_rfl) (by kernel_rfl) (fun _ _ _ h => h) (Or.inl ⟨by rfl, ?y29_30⟩) hHeld ?r29_30
                  case y29_30 => (intro w hSw; (try dsimp only at hSw); go_split_ands; go_simp; try with_reducible rfl)
                  try simp only [List.getElem_toArray, List.getElem_cons_succ, List.getElem_cons_zero, Act.put, List.setIfInBounds_toArray, List.set_cons_zero, List.set_cons_succ]
                  refine wpAnyH_ready (rs := [26]) (by kernel_rfl) (by simp) ?_
                  refine AllReadyH.cons rfl (fun K hK => ?_) AllReadyH.nil
                  have hHeld' := hHeld
                  try dsimp only at hHeld'
                  go_split_ands
                  go_simp
                  refine (drop_any _ A _ [] _ (HA.out _ hq.out) (texts_nil _) (by omega) (by simp)).mono ?_
                  rintro e z11 ⟨x6, rfl, hx, hn⟩
                  have f6 := heads_own hx
                  rw [dropF_nil] at f6
                  obtain ⟨pa, pg, po, pc, rfl, -⟩ := f6
                  replace hq := Lib.hid (hq.out.tr hn)
                  clear hn hx
                  refine hK.out _ _ ?_ (fun hHeld => ?_)
                  · exact (KX.out _ hq.out)
                  clear hK K
                  try simp only [List.getElem_toArray, List.getElem_cons_succ, List.getElem_cons_zero, Act.put, List.setIfInBounds_toArray, List.set_cons_zero, List.set_cons_succ]
                  refine wpAnyH_take (i := 27) (v := ?v27_31) rfl (by kernel_rfl) (by kernel_rfl) (by kernel_rfl) (fun _ _ _ h => h) (Or.inl ⟨by rfl, ?y27_31⟩) hHeld ?r27_31
                  case y27_31 => (intro w hSw; (try dsimp only at hSw); go_split_ands; go_simp; try with_reducible rfl)
                  try simp only [List.getElem_toArray, List.getElem_cons_succ, List.getElem_cons_zero, Act.put, List.setIfInBounds_toArray, List.set_cons_zero, List.set_cons_succ]
                  refine wpAnyH_take (i := 30) (v := ?v30_32) rfl (by kernel_rfl) (by kernel_rfl) (by kernel_rfl) (fun _ _ _ h => h) (Or.inl ⟨by rfl, ?y30_32⟩) hHeld ?r30_32
                  case y30_32 => (intro w hSw; (try dsimp only at hSw); go_split_ands; go_simp; try with_reducible rfl)
                  try simp only [List.getElem_toArray, List.getElem_cons_succ, List.getElem_cons_zero, Act.put, List.setIfInBounds_toArray, List.set_cons_zero, List.set_cons_succ]
                  refine wpAnyH_take (i := 31) (v := ?v31_33) rfl (by kernel_rfl) (by kernel_rfl) (by kernel_rfl) (fun _ _ _ h => h) (Or.inl ⟨by rfl, ?y31_33⟩) hHeld ?r31_33
                  case y31_33 => (intro w hSw; (try dsimp only at hSw); go_split_ands; go_simp; try with_reducible rfl)
                  try simp only [List.getElem_toArray, List.getElem_cons_succ, List.getElem_cons_zero, Act.put, List.setIfInBounds_toArray, List.set_cons_zero, List.set_cons_succ]
                  refine wpAnyH_take (i := 32) (v := ?v32_34) rfl (by kernel_rfl) (by kernel_rfl) (by kernel_rfl) (fun _ _ _ h => h) (Or.inl ⟨by rfl, ?y32_34⟩) hHeld ?r32_34
                  case y32_34 => (intro w hSw; (try dsimp only at hSw); go_split_ands; go_simp; try with_reducible rfl)
                  try simp only [List.getElem_toArray, List.getElem_cons_succ, List.getElem_cons_zero, Act.put, List.setIfInBounds_toArray, List.set_cons_zero, List.set_cons_succ]
                  refine wpAnyH_ready (rs := [33]) (by kernel_rfl) (by simp) ?_
                  refine AllReadyH.cons rfl (fun K hK => ?_) AllReadyH.nil
                  have hHeld' := hHeld
                  try dsimp only at hHeld'
                  go_split_ands
                  go_simp
                  refine (LV.out _).mono ?_
                  rintro e z12 ⟨rfl, hn⟩
                  replace hq := Lib.hid (hq.out.tr hn)
                  clear hn
                  refine hK.out _ _ ?_ (fun hHeld => ?_)
                  · exact (KX.out _ hq.out)
                  clear hK K
                  try simp only [List.getElem_toArray, List.getElem_cons_succ, List.getElem_cons_zero, Act.put, List.setIfInBounds_toArray, List.set_cons_zero, List.set_cons_succ]
                  refine wpAnyH_take (i := 34) (v := ?v34_35) rfl (by kernel_rfl) (by kernel_rfl) (by kernel_rfl) (fun _ _ _ h => h) (Or.inl ⟨by rfl, ?y34_35⟩) hHeld ?r34_35
                  case y34_35 => (intro w hSw; (try dsimp only at hSw); go_split_ands; go_simp; try with_reducible rfl)
                  try simp only [List.getElem_toArray, List.getElem_cons_succ, List.getElem_cons_zero, Act.put, List.setIfInBounds_toArray, List.set_cons_zero, List.set_cons_succ]
                  refine wpAnyH_take (i := 35) (v := ?v35_36) rfl (by kernel_rfl) (by kernel_rfl) (by kernel_rfl) (fun _ _ _ h => h) (Or.inl ⟨by rfl, ?y35_36⟩) hHeld ?r35_36
                  case y35_36 => (intro w hSw; (try dsimp only at hSw); go_split_ands; go_simp; try with_reducible rfl)
                  try simp only [List.getElem_toArray, List.getElem_cons_succ, List.getElem_cons_zero, Act.put, List.setIfInBounds_toArray, List.set_cons_zero, List.set_cons_succ]
                  refine wpAnyH_done (by kernel_rfl) ?_ _
                  go_wp2_with fail
                  go_ret
                  exact ⟨rfl, hbz.out.tr hq.out⟩
              · have hHeld' := hHeld
                try dsimp only at hHeld'
                go_split_ands
                go_simp
                refine hK.out _ _ ?_ (fun hHeld => ?_)
                · exact (KX.out _ (hq.out.al (.cells #[S on] 9)))
                clear hK K
                try simp only [List.getElem_toArray, List.getElem_cons_succ, List.getElem_cons_zero, Act.put, List.setIfInBounds_toArray, List.set_cons_zero, List.set_cons_succ]
                have fd := texts_lit z5 on
                have hn := (Bl.rfl' z5).al (.cells #[S on] 9)
                obtain ⟨z6, hy⟩ : ∃ x, z5.alloc (.cells #[S on] 9) = x := ⟨_, rfl⟩
                rw [hy] at hHeld fd hn ⊢
                clear hy
                replace fd := Lib.hid fd
                replace fa := Lib.hid (fa.out.bl hn)
                replace fs := Lib.hid (fs.out.bl hn)
                replace hq := Lib.hid (hq.out.tr hn)
                clear hn
                refine wpAnyH_ready (rs := [15]) (by kernel_rfl) (by simp) ?_
                refine AllReadyH.cons rfl (fun K hK => ?_) AllReadyH.nil
                have hHeld' := hHeld
                try dsimp only at hHeld'
                go_split_ands
                go_simp
                refine hK.out _ _ ?_ (fun hHeld => ?_)
                · exact (KX.out _ (hq.out.al (.cells #[S on] 9)))
                clear hK K
                try simp only [List.getElem_toArray, List.getElem_cons_succ, List.getElem_cons_zero, Act.put, List.setIfInBounds_toArray, List.set_cons_zero, List.set_cons_succ]
                have fc := texts_lit z6 on
                have hn := (Bl.rfl' z6).al (.cells #[S on] 9)
                obtain ⟨z7, hy⟩ : ∃ x, z6.alloc (.cells #[S on] 9) = x := ⟨_, rfl⟩
                rw [hy] at hHeld fc hn ⊢
                clear hy
                replace fc := Lib.hid fc
                replace fa := Lib.hid (fa.out.bl hn)
                replace fs := Lib.hid (fs.out.bl hn)
                replace fd := Lib.hid (fd.out.bl hn)
                replace hq := Lib.hid (hq.out.tr hn)
                clear hn
                refine wpAnyH_ready (rs := [16]) (by kernel_rfl) (by simp) ?_
                refine AllReadyH.cons rfl (fun K hK => ?_) AllReadyH.nil
                have hHeld' := hHeld
                try dsimp only at hHeld'
                go_split_ands
                go_simp
                refine (drop_any _ (setP A [⟨on, ou⟩]) _ [on] _ fs.out fc.out (by omega) (by simp)).mono ?_
                rintro e z8 ⟨xf, rfl, hx, hn⟩
                have ff := heads_own hx
                rw [hDS.out] at ff
                replace ff := Lib.hid ff
                clear hx
                replace fa := Lib.hid (fa.out.bl hn)
                replace fs := Lib.hid (fs.out.bl hn)
                replace fd := Lib.hid (fd.out.bl hn)
                replace fc := Lib.hid (fc.out.bl hn)
                replace hq := Lib.hid (hq.out.tr hn)
                clear hn
                refine hK.out _ _ ?_ (fun hHeld => ?_)
                · exact (KX.out _ hq.out)
                clear hK K
                try simp only [List.getElem_toArray, List.getElem_cons_succ, List.getElem_cons_zero, Act.put, List.setIfInBounds_toArray, List.set_cons_zero, List.set_cons_succ]
                refine wpAnyH_ready (rs := [21]) (by kernel_rfl) (by simp) ?_
                refine AllReadyH.cons rfl (fun K hK => ?_) AllReadyH.nil
                have hHeld' := hHeld
                try dsimp only at hHeld'
                go_split_ands
                go_simp
                refine (drop_any _ A _ [on] _ (HA.out _ hq.out) fd.out (by omega) (by simp)).mono ?_
                rintro e z9 ⟨xe, rfl, hx, hn⟩
                have fe := Lib.hid (heads_own hx)
                clear hx
                replace fa := Lib.hid (fa.out.bl hn)
                replace fs := Lib.hid (fs.out.bl hn)
                replace fd := Lib.hid (fd.out.bl hn)
                replace fc := Lib.hid (fc.out.bl hn)
                replace ff := Lib.hid (ff.out.bl hn)
                replace hq := Lib.hid (hq.out.tr hn)
                clear hn
                refine hK.out _ _ ?_ (fun hHeld => ?_)
                · exact (KX.out _ hq.out)
                clear hK K
                try simp only [List.getElem_toArray, List.getElem_cons_succ, List.getElem_cons_zero, Act.put, List.setIfInBounds_toArray, List.set_cons_zero, List.set_cons_succ]
                refine wpAnyH_ready (rs := [22]) (by kernel_rfl) (by simp) ?_
                refine AllReadyH.cons rfl (fun K hK => ?_) AllReadyH.nil
                have hHeld' := hHeld
                try dsimp only at hHeld'
                go_split_ands
                go_simp
                have RW2 := row_any _ _ _ _ _ ff.out fe.out (by omega) (by omega)
                rw [decide_eq_true rfl] at RW2
                refine RW2.mono ?_
                rintro e z10 ⟨rfl, hn⟩
                replace hq := Lib.hid (hq.out.tr hn)
                clear hn RW2
                refine hK.out _ _ ?_ (fun hHeld => ?_)
                · exact (KX.out _ hq.out)
                clear hK K
                try simp only [List.getElem_toArray, List.getElem_cons_succ, List.getElem_cons_zero, Act.put, List.setIfInBounds_toArray, List.set_cons_zero, List.set_cons_succ]
                refine wpAnyH_take (i := 23) (v := ?v23_37) rfl (by kernel_rfl) (by kernel_rfl) (by kernel_rfl) (fun _ _ _ h => h) (Or.inl ⟨by rfl, ?y23_37⟩) hHeld ?r23_37
                case y23_37 => (intro w hSw; (try dsimp only at hSw); go_split_ands; go_simp; try with_reducible rfl)
                try simp only [List.getElem_toArray, List.getElem_cons_succ, List.getElem_cons_zero, Act.put, List.setIfInBounds_toArray, List.set_cons_zero, List.set_cons_succ]
                refine wpAnyH_take (i := 24) (v := ?v24_38) rfl (by kernel_rfl) (by kernel_rfl) (by kernel_rfl) (fun _ _ _ h => h) (Or.inl ⟨by rfl, ?y24_38⟩) hHeld ?r24_38
                case y24_38 => (intro w hSw; (try dsimp only at hSw); go_split_ands; go_simp; try with_reducible rfl)
                try simp only [List.getElem_toArray, List.getElem_cons_succ, List.getElem_cons_zero, Act.put, List.setIfInBounds_toArray, List.set_cons_zero, List.set_cons_succ]
                refine wpAnyH_take (i := 25) (v := ?v25_39) rfl (by kernel_rfl) (by kernel_rfl) (by kernel_rfl) (fun _ _ _ h => h) (Or.inl ⟨by rfl, ?y25_39⟩) hHeld ?r25_39
                case y25_39 => (intro w hSw; (try dsimp only at hSw); go_split_ands; go_simp; try with_reducible rfl)
                try simp only [List.getElem_toArray, List.getElem_cons_succ, List.getElem_cons_zero, Act.put, List.setIfInBounds_toArray, List.set_cons_zero, List.set_cons_succ]
                refine wpAnyH_take (i := 28) (v := ?v28_40) rfl (by kernel_rfl) (by kernel_rfl) (by kernel_rfl) (fun _ _ _ h => h) (Or.inl ⟨by rfl, ?y28_40⟩) hHeld ?r28_40
                case y28_40 => (intro w hSw; (try dsimp only at hSw); go_split_ands; go_simp; try with_reducible rfl)
                try simp only [List.getElem_toArray, List.getElem_cons_succ, List.getElem_cons_zero, Act.put, List.setIfInBounds_toArray, List.set_cons_zero, List.set_cons_succ]
                refine wpAnyH_take (i := 29) (v := ?v29_41) rfl (by kernel_rfl) (by kernel_rfl) (by kernel_rfl) (fun _ _ _ h => h) (Or.inl ⟨by rfl, ?y29_41⟩) hHeld ?r29_41
                case y29_41 => (intro w hSw; (try dsimp only at hSw); go_split_ands; go_simp; try with_reducible rfl)
                try simp only [List.getElem_toArray, List.getElem_cons_succ, List.getElem_cons_zero, Act.put, List.setIfInBounds_toArray, List.set_cons_zero, List.set_cons_succ]
                refine wpAnyH_ready (rs := [26]) (by kernel_rfl) (by simp) ?_
                refine AllReadyH.cons rfl (fun K hK => ?_) AllReadyH.nil
                have hHeld' := hHeld
                try dsimp only at hHeld'
                go_split_ands
                go_simp
                refine (drop_any _ A _ [] _ (HA.out _ hq.out) (texts_nil _) (by omega) (by simp)).mono ?_
                rintro e z11 ⟨x6, rfl, hx, hn⟩
                have f6 := heads_own hx
                rw [dropF_nil] at f6
                obtain ⟨pa, pg, po, pc, rfl, -⟩ := f6
                replace hq := Lib.hid (hq.out.tr hn)
                clear hn hx
                refine hK.out _ _ ?_ (fun hHeld => ?_)
                · exact (KX.out _ hq.out)
                clear hK K
                try simp only [List.getElem_toArray, List.getElem_cons_succ, List.getElem_cons_zero, Act.put, List.setIfInBounds_toArray, List.set_cons_zero, List.set_cons_succ]
                refine wpAnyH_take (i := 27) (v := ?v27_42) rfl (by kernel_rfl) (by kernel_rfl) (by kernel_rfl) (fun _ _ _ h => h) (Or.inl ⟨by rfl, ?y27_42⟩) hHeld ?r27_42
                case y27_42 => (intro w hSw; (try dsimp only at hSw); go_split_ands; go_simp; try with_reducible rfl)
                try simp only [List.getElem_toArray, List.getElem_cons_succ, List.getElem_cons_zero, Act.put, List.setIfInBounds_toArray, List.set_cons_zero, List.set_cons_succ]
                refine wpAnyH_take (i := 30) (v := ?v30_43) rfl (by kernel_rfl) (by kernel_rfl) (by kernel_rfl) (fun _ _ _ h => h) (Or.inl ⟨by rfl, ?y30_43⟩) hHeld ?r30_43
                case y30_43 => (intro w hSw; (try dsimp only at hSw); go_split_ands; go_simp; try with_reducible rfl)
                try simp only [List.getElem_toArray, List.getElem_cons_succ, List.getElem_cons_zero, Act.put, List.setIfInBounds_toArray, List.set_cons_zero, List.set_cons_succ]
                refine wpAnyH_take (i := 31) (v := ?v31_44) rfl (by kernel_rfl) (by kernel_rfl) (by kernel_rfl) (fun _ _ _ h => h) (Or.inl ⟨by rfl, ?y31_44⟩) hHeld ?r31_44
                case y31_44 => (intro w hSw; (try dsimp only at hSw); go_split_ands; go_simp; try with_reducible rfl)
                try simp only [List.getElem_toArray, List.getElem_cons_succ, List.getElem_cons_zero, Act.put, List.setIfInBounds_toArray, List.set_cons_zero, List.set_cons_succ]
                refine wpAnyH_take (i := 32) (v := ?v32_45) rfl (by kernel_rfl) (by kernel_rfl) (by kernel_rfl) (fun _ _ _ h => h) (Or.inl ⟨by rfl, ?y32_45⟩) hHeld ?r32_45
                case y32_45 => (intro w hSw; (try dsimp only at hSw); go_split_ands; go_simp; try with_reducible rfl)
                try simp only [List.getElem_toArray, List.getElem_cons_succ, List.getElem_cons_zero, Act.put, List.setIfInBounds_toArray, List.set_cons_zero, List.set_cons_succ]
                refine wpAnyH_ready (rs := [33]) (by kernel_rfl) (by simp) ?_
                refine AllReadyH.cons rfl (fun K hK => ?_) AllReadyH.nil
                have hHeld' := hHeld
                try dsimp only at hHeld'
                go_split_ands
                go_simp
                refine (LV.out _).mono ?_
                rintro e z12 ⟨rfl, hn⟩
                replace hq := Lib.hid (hq.out.tr hn)
                clear hn
                refine hK.out _ _ ?_ (fun hHeld => ?_)
                · exact (KX.out _ hq.out)
                clear hK K
                try simp only [List.getElem_toArray, List.getElem_cons_succ, List.getElem_cons_zero, Act.put, List.setIfInBounds_toArray, List.set_cons_zero, List.set_cons_succ]
                refine wpAnyH_take (i := 34) (v := ?v34_46) rfl (by kernel_rfl) (by kernel_rfl) (by kernel_rfl) (fun _ _ _ h => h) (Or.inl ⟨by rfl, ?y34_46⟩) hHeld ?r34_46
                case y34_46 => (intro w hSw; (try dsimp only at hSw); go_split_ands; go_simp; try with_reducible rfl)
                try simp only [List.getElem_toArray, List.getElem_cons_succ, List.getElem_cons_zero, Act.put, List.setIfInBounds_toArray, List.set_cons_zero, List.set_cons_succ]
                refine wpAnyH_take (i := 35) (v := ?v35_47) rfl (by kernel_rfl) (by kernel_rfl) (by kernel_rfl) (fun _ _ _ h => h) (Or.inl ⟨by rfl, ?y35_47⟩) hHeld ?r35_47
                case y35_47 => (intro w hSw; (try dsimp only at hSw); go_split_ands; go_simp; try with_reducible rfl)
                try simp only [List.getElem_toArray, List.getElem_cons_succ, List.getElem_cons_zero, Act.put, List.setIfInBounds_toArray, List.set_cons_zero, List.set_cons_succ]
                refine wpAnyH_done (by kernel_rfl) ?_ _
                go_wp2_with fail
                go_ret
                exact ⟨rfl, hbz.out.tr hq.out⟩
            · have hHeld' := hHeld
              try dsimp only at hHeld'
              go_split_ands
              go_simp
              refine hK.out _ _ ?_ (fun hHeld => ?_)
              · exact (KX.out _ (hq.out.al (.cells #[S on] 9)))
              clear hK K
              try simp only [List.getElem_toArray, List.getElem_cons_succ, List.getElem_cons_zero, Act.put, List.setIfInBounds_toArray, List.set_cons_zero, List.set_cons_succ]
              have fc := texts_lit z4 on
              have hn := (Bl.rfl' z4).al (.cells #[S on] 9)
              obtain ⟨z5, hy⟩ : ∃ x, z4.alloc (.cells #[S on] 9) = x := ⟨_, rfl⟩
              rw [hy] at hHeld fc hn ⊢
              clear hy
              replace fc := Lib.hid fc
              replace fa := Lib.hid (fa.out.bl hn)
              replace hq := Lib.hid (hq.out.tr hn)
              clear hn
              refine wpAnyH_ready (rs := [12, 20]) (by kernel_rfl) (by simp) ?_
              refine AllReadyH.cons rfl (fun K hK => ?_) (AllReadyH.cons rfl (fun K hK => ?_) (AllReadyH.nil))
              · have hHeld' := hHeld
                try dsimp only at hHeld'
                go_split_ands
                go_simp
                refine (set_any _ A _ [⟨on, ou⟩] _ (HA.out _ hq.out) fa.out (by omega) (by simp)).mono ?_
                rintro e z6 ⟨xs, rfl, hx, hn⟩
                have fs := Lib.hid (heads_own hx)
                clear hx
                replace fa := Lib.hid (fa.out.bl hn)
                replace fc := Lib.hid (fc.out.bl hn)
                replace hq := Lib.hid (hq.out.tr hn)
                clear hn
                refine hK.out _ _ ?_ (fun hHeld => ?_)
                · exact (KX.out _ hq.out)
                clear hK K
                try simp only [List.getElem_toArray, List.getElem_cons_succ, List.getElem_cons_zero, Act.put, List.setIfInBounds_toArray, List.set_cons_zero, List.set_cons_succ]
                refine wpAnyH_ready (rs := [16, 20]) (by kernel_rfl) (by simp) ?_
                refine AllReadyH.cons rfl (fun K hK => ?_) (AllReadyH.cons rfl (fun K hK => ?_) (AllReadyH.nil))
                · have hHeld' := hHeld
                  try dsimp only at hHeld'
                  go_split_ands
                  go_simp
                  refine (drop_any _ (setP A [⟨on, ou⟩]) _ [on] _ fs.out fc.out (by omega) (by simp)).mono ?_
                  rintro e z7 ⟨xf, rfl, hx, hn⟩
                  have ff := heads_own hx
                  rw [hDS.out] at ff
                  replace ff := Lib.hid ff
                  clear hx
                  replace fa := Lib.hid (fa.out.bl hn)
                  replace fc := Lib.hid (fc.out.bl hn)
                  replace fs := Lib.hid (fs.out.bl hn)
                  replace hq := Lib.hid (hq.out.tr hn)
                  clear hn
                  refine hK.out _ _ ?_ (fun hHeld => ?_)
                  · exact (KX.out _ hq.out)
                  clear hK K
                  try simp only [List.getElem_toArray, List.getElem_cons_succ, List.getElem_cons_zero, Act.put, List.setIfInBounds_toArray, List.set_cons_zero, List.set_cons_succ]
                  refine wpAnyH_ready (rs := [20]) (by kernel_rfl) (by simp) ?_
                  refine AllReadyH.cons rfl (fun K hK => ?_) AllReadyH.nil
                  have hHeld' := hHeld
                  try dsimp only at hHeld'
                  go_split_ands
                  go_simp
                  refine hK.out _ _ ?_ (fun hHeld => ?_)
                  · exact (KX.out _ (hq.out.al (.cells #[S on] 9)))
                  clear hK K
                  try simp only [List.getElem_toArray, List.getElem_cons_succ, List.getElem_cons_zero, Act.put, List.setIfInBounds_toArray, List.set_cons_zero, List.set_cons_succ]
                  have fd := texts_lit z7 on
                  have hn := (Bl.rfl' z7).al (.cells #[S on] 9)
                  obtain ⟨z8, hy⟩ : ∃ x, z7.alloc (.cells #[S on] 9) = x := ⟨_, rfl⟩
                  rw [hy] at hHeld fd hn ⊢
                  clear hy
                  replace fd := Lib.hid fd
                  replace fa := Lib.hid (fa.out.bl hn)
                  replace fc := Lib.hid (fc.out.bl hn)
                  replace fs := Lib.hid (fs.out.bl hn)
                  replace ff := Lib.hid (ff.out.bl hn)
                  replace hq := Lib.hid (hq.out.tr hn)
                  clear hn
                  refine wpAnyH_ready (rs := [21]) (by kernel_rfl) (by simp) ?_
                  refine AllReadyH.cons rfl (fun K hK => ?_) AllReadyH.nil
                  have hHeld' := hHeld
                  try dsimp only at hHeld'
                  go_split_ands
                  go_simp
                  refine (drop_any _ A _ [on] _ (HA.out _ hq.out) fd.out (by omega) (by simp)).mono ?_
                  rintro e z9 ⟨xe, rfl, hx, hn⟩
                  have fe := Lib.hid (heads_own hx)
                  clear hx
                  replace fa := Lib.hid (fa.out.bl hn)
                  replace fc := Lib.hid (fc.out.bl hn)
                  replace fs := Lib.hid (fs.out.bl hn)
                  replace ff := Lib.hid (ff.out.bl hn)
                  replace fd := Lib.hid (fd.out.bl hn)
                  replace hq := Lib.hid (hq.out.tr hn)
                  clear hn
                  refine hK.out _ _ ?_ (fun hHeld => ?_)
                  · exact (KX.out _ hq.out)
                  clear hK K
                  try simp only [List.getElem_toArray, List.getElem_cons_succ, List.getElem_cons_zero, Act.put, List.setIfInBounds_toArray, List.set_cons_zero, List.set_cons_succ]
                  refine wpAnyH_ready (rs := [22]) (by kernel_rfl) (by simp) ?_
                  refine AllReadyH.cons rfl (fun K hK => ?_) AllReadyH.nil
                  have hHeld' := hHeld
                  try dsimp only at hHeld'
                  go_split_ands
                  go_simp
                  have RW2 := row_any _ _ _ _ _ ff.out fe.out (by omega) (by omega)
                  rw [decide_eq_true rfl] at RW2
                  refine RW2.mono ?_
                  rintro e z10 ⟨rfl, hn⟩
                  replace hq := Lib.hid (hq.out.tr hn)
                  clear hn RW2
                  refine hK.out _ _ ?_ (fun hHeld => ?_)
                  · exact (KX.out _ hq.out)
                  clear hK K
                  try simp only [List.getElem_toArray, List.getElem_cons_succ, List.getElem_cons_zero, Act.put, List.setIfInBounds_toArray, List.set_cons_zero, List.set_cons_succ]
                  refine wpAnyH_take (i := 23) (v := ?v23_48) rfl (by kernel_rfl) (by kernel_rfl) (by kernel_rfl) (fun _ _ _ h => h) (Or.inl ⟨by rfl, ?y23_48⟩) hHeld ?r23_48
                  case y23_48 => (intro w hSw; (try dsimp only at hSw); go_split_ands; go_simp; try with_reducible rfl)
                  try simp only [List.getElem_toArray, List.getElem_cons_succ, List.getElem_cons_zero, Act.put, List.setIfInBounds_toArray, List.set_cons_zero, List.set_cons_succ]
                  refine wpAnyH_take (i := 24) (v := ?v24_49) rfl (by kernel_rfl) (by kernel_rfl) (by kernel_rfl) (fun _ _ _ h => h) (Or.inl ⟨by rfl, ?y24_49⟩) hHeld ?r24_49
                  case y24_49 => (intro w hSw; (try dsimp only at hSw); go_split_ands; go_simp; try with_reducible rfl)
                  try simp only [List.getElem_toArray, List.getElem_cons_succ, List.getElem_cons_zero, Act.put, List.setIfInBounds_toArray, List.set_cons_zero, List.set_cons_succ]
                  refine wpAnyH_take (i := 25) (v := ?v25_50) rfl (by kernel_rfl) (by kernel_rfl) (by kernel_rfl) (fun _ _ _ h => h) (Or.inl ⟨by rfl, ?y25_50⟩) hHeld ?r25_50
                  case y25_50 => (intro w hSw; (try dsimp only at hSw); go_split_ands; go_simp; try with_reducible rfl)
                  try simp only [List.getElem_toArray, List.getElem_cons_succ, List.getElem_cons_zero, Act.put, List.setIfInBounds_toArray, List.set_cons_zero, List.set_cons_succ]
                  refine wpAnyH_take (i := 28) (v := ?v28_51) rfl (by kernel_rfl) (by kernel_rfl) (by kernel_rfl) (fun _ _ _ h => h) (Or.inl ⟨by rfl, ?y28_51⟩) hHeld ?r28_51
                  case y28_51 => (intro w hSw; (try dsimp only at hSw); go_split_ands; go_simp; try with_reducible rfl)
                  try simp only [List.getElem_toArray, List.getElem_cons_succ, List.getElem_cons_zero, Act.put, List.setIfInBounds_toArray, List.set_cons_zero, List.set_cons_succ]
                  refine wpAnyH_take (i := 29) (v := ?v29_52) rfl (by kernel_rfl) (by kernel_rfl) (by kernel_rfl) (fun _ _ _ h => h) (Or.inl ⟨by rfl, ?y29_52⟩) hHeld ?r29_52
                  case y29_52 => (intro w hSw; (try dsimp only at hSw); go_split_ands; go_simp; try with_reducible rfl)
                  try simp only [List.getElem_toArray, List.getElem_cons_succ, List.getElem_cons_zero, Act.put, List.setIfInBounds_toArray, List.set_cons_zero, List.set_cons_succ]
                  refine wpAnyH_ready (rs := [26]) (by kernel_rfl) (by simp) ?_
                  refine AllReadyH.cons rfl (fun K hK => ?_) AllReadyH.nil
                  have hHeld' := hHeld
                  try dsimp only at hHeld'
                  go_split_ands
                  go_simp
                  refine (drop_any _ A _ [] _ (HA.out _ hq.out) (texts_nil _) (by omega) (by simp)).mono ?_
                  rintro e z11 ⟨x6, rfl, hx, hn⟩
                  have f6 := heads_own hx
                  rw [dropF_nil] at f6
                  obtain ⟨pa, pg, po, pc, rfl, -⟩ := f6
                  replace hq := Lib.hid (hq.out.tr hn)
                  clear hn hx
                  refine hK.out _ _ ?_ (fun hHeld => ?_)
                  · exact (KX.out _ hq.out)
                  clear hK K
                  try simp only [List.getElem_toArray, List.getElem_cons_succ, List.getElem_cons_zero, Act.put, List.setIfInBounds_toArray, List.set_cons_zero, List.set_cons_succ]
                  refine wpAnyH_take (i := 27) (v := ?v27_53) rfl (by kernel_rfl) (by kernel_rfl) (by kernel_rfl) (fun _ _ _ h => h) (Or.inl ⟨by rfl, ?y27_53⟩) hHeld ?r27_53
                  case y27_53 => (intro w hSw; (try dsimp only at hSw); go_split_ands; go_simp; try with_reducible rfl)
                  try simp only [List.getElem_toArray, List.getElem_cons_succ, List.getElem_cons_zero, Act.put, List.setIfInBounds_toArray, List.set_cons_zero, List.set_cons_succ]
                  refine wpAnyH_take (i := 30) (v := ?v30_54) rfl (by kernel_rfl) (by kernel_rfl) (by kernel_rfl) (fun _ _ _ h => h) (Or.inl ⟨by rfl, ?y30_54⟩) hHeld ?r30_54
                  case y30_54 => (intro w hSw; (try dsimp only at hSw); go_split_ands; go_simp; try with_reducible rfl)
                  try simp only [List.getElem_toArray, List.getElem_cons_succ, List.getElem_cons_zero, Act.put, List.setIfInBounds_toArray, List.set_cons_zero, List.set_cons_succ]
                  refine wpAnyH_take (i := 31) (v := ?v31_55) rfl (by kernel_rfl) (by kernel_rfl) (by kernel_rfl) (fun _ _ _ h => h) (Or.inl ⟨by rfl, ?y31_55⟩) hHeld ?r31_55
                  case y31_55 => (intro w hSw; (try dsimp only at hSw); go_split_ands; go_simp; try with_reducible rfl)
                  try simp only [List.getElem_toArray, List.getElem_cons_succ, List.getElem_cons_zero, Act.put, List.setIfInBounds_toArray, List.set_cons_zero, List.set_cons_succ]
                  refine wpAnyH_take (i := 32) (v := ?v32_56) rfl (by kernel_rfl) (by kernel_rfl) (by kernel_rfl) (fun _ _ _ h => h) (Or.inl ⟨by rfl, ?y32_56⟩) hHeld ?r32_56
                  case y32_56 => (intro w hSw; (try dsimp only at hSw); go_split_ands; go_simp; try with_reducible rfl)
                  try simp only [List.getElem_toArray, List.getElem_cons_succ, List.getElem_cons_zero, Act.put, List.setIfInBounds_toArray, List.set_cons_zero, List.set_cons_succ]
                  refine wpAnyH_ready (rs := [33]) (by kernel_rfl) (by simp) ?_
                  refine AllReadyH.cons rfl (fun K hK => ?_) AllReadyH.nil
                  have hHeld' := hHeld
                  try dsimp only at hHeld'
                  go_split_ands
                  go_simp
                  refine (LV.out _).mono ?_
                  rintro e z12 ⟨rfl, hn⟩
                  replace hq := Lib.hid (hq.out.tr hn)
                  clear hn
                  refine hK.out _ _ ?_ (fun hHeld => ?_)
                  · exact (KX.out _ hq.out)
                  clear hK K
                  try simp only [List.getElem_toArray, List.getElem_cons_succ, List.getElem_cons_zero, Act.put, List.setIfInBounds_toArray, List.set_cons_zero, List.set_cons_succ]
                  refine wpAnyH_take (i := 34) (v := ?v34_57) rfl (by kernel_rfl) (by kernel_rfl) (by kernel_rfl) (fun _ _ _ h => h) (Or.inl ⟨by rfl, ?y34_57⟩) hHeld ?r34_57
                  case y34_57 => (intro w hSw; (try dsimp only at hSw); go_split_ands; go_simp; try with_reducible rfl)
                  try simp only [List.getElem_toArray, List.getElem_cons_succ, List.getElem_cons_zero, Act.put, List.setIfInBounds_toArray, List.set_cons_zero, List.set_cons_succ]
                  refine wpAnyH_take (i := 35) (v := ?v35_58) rfl (by kernel_rfl) (by kernel_rfl) (by kernel_rfl) (fun _ _ _ h => h) (Or.inl ⟨by rfl, ?y35_58⟩) hHeld ?r35_58
                  case y35_58 => (intro w hSw; (try dsimp only at hSw); go_split_ands; go_simp; try with_reducible rfl)
                  try simp only [List.getElem_toArray, List.getElem_cons_succ, List.getElem_cons_zero, Act.put, List.setIfInBounds_toArray, List.set_cons_zero, List.set_cons_succ]
                  refine wpAnyH_done (by kernel_rfl) ?_ _
                  go_wp2_with fail
                  go_ret
                  exact ⟨rfl, hbz.out.tr hq.out⟩
                · have hHeld' := hHeld
                  try dsimp only at hHeld'
                  go_split_ands
                  go_simp
                  refine hK.out _ _ ?_ (fun hHeld => ?_)
                  · exact (KX.out _ (hq.out.al (.cells #[S on] 9)))
                  clear hK K
                  try simp only [List.getElem_toArray, List.getElem_cons_succ, List.getElem_cons_zero, Act.put, List.setIfInBounds_toArray, List.set_cons_zero, List.set_cons_succ]
                  have fd := texts_lit z6 on
                  have hn := (Bl.rfl' z6).al (.cells #[S on] 9)
                  obtain ⟨z7, hy⟩ : ∃ x, z6.alloc (.cells #[S on] 9) = x := ⟨_, rfl⟩
                  rw [hy] at hHeld fd hn ⊢
                  clear hy
                  replace fd := Lib.hid fd
                  replace fa := Lib.hid (fa.out.bl hn)
                  replace fc := Lib.hid (fc.out.bl hn)
                  replace fs := Lib.hid (fs.out.bl hn)
                  replace hq := Lib.hid (hq.out.tr hn)
                  clear hn
                  refine wpAnyH_ready (rs := [16]) (by kernel_rfl) (by simp) ?_
                  refine AllReadyH.cons rfl (fun K hK => ?_) AllReadyH.nil
                  have hHeld' := hHeld
                  try dsimp only at hHeld'
                  go_split_ands
                  go_simp
                  refine (drop_any _ (setP A [⟨on, ou⟩]) _ [on] _ fs.out fc.out (by omega) (by simp)).mono ?_
                  rintro e z8 ⟨xf, rfl, hx, hn⟩
                  have ff := heads_own hx
                  rw [hDS.out] at ff
                  replace ff := Lib.hid ff
                  clear hx
                  replace fa := Lib.hid (fa.out.bl hn)
                  replace fc := Lib.hid (fc.out.bl hn)
                  replace fs := Lib.hid (fs.out.bl hn)
                  replace fd := Lib.hid (fd.out.bl hn)
                  replace hq := Lib.hid (hq.out.tr hn)
                  clear hn
                  refine hK.out _ _ ?_ (fun hHeld => ?_)
                  · exact (KX.out _ hq.out)
                  clear hK K
                  try simp only [List.getElem_toArray, List.getElem_cons_succ, List.getElem_cons_zero, Act.put, List.setIfInBounds_toArray, List.set_cons_zero, List.set_cons_succ]
                  refine wpAnyH_ready (rs := [21]) (by kernel_rfl) (by simp) ?_
                  refine AllReadyH.cons rfl (fun K hK => ?_) AllReadyH.nil
                  have hHeld' := hHeld
                  try dsimp only at hHeld'
                  go_split_ands
                  go_simp
                  refine (drop_any _ A _ [on] _ (HA.out _ hq.out) fd.out (by omega) (by simp)).mono ?_
                  rintro e z9 ⟨xe, rfl, hx, hn⟩
                  have fe := Lib.hid (heads_own hx)
                  clear hx
                  replace fa := Lib.hid (fa.out.bl hn)
                  replace fc := Lib.hid (fc.out.bl hn)
                  replace fs := Lib.hid (fs.out.bl hn)
                  replace fd := Lib.hid (fd.out.bl hn)
                  replace ff := Lib.hid (ff.out.bl hn)
                  replace hq := Lib.hid (hq.out.tr hn)
                  clear hn
                  refine hK.out _ _ ?_ (fun hHeld => ?_)
                  · exact (KX.out _ hq.out)
                  clear hK K
                  try simp only [List.getElem_toArray, List.getElem_cons_succ, List.getElem_cons_zero, Act.put, List.setIfInBounds_toArray, List.set_cons_zero, List.set_cons_succ]
                  refine wpAnyH_ready (rs := [22]) (by kernel_rfl) (by simp) ?_
                  refine AllReadyH.cons rfl (fun K hK => ?_) AllReadyH.nil
                  have hHeld' := hHeld
                  try dsimp only at hHeld'
                  go_split_ands
                  go_simp
                  have RW2 := row_any _ _ _ _ _ ff.out fe.out (by omega) (by omega)
                  rw [decide_eq_true rfl] at RW2
                  refine RW2.mono ?_
                  rintro e z10 ⟨rfl, hn⟩
                  replace hq := Lib.hid (hq.out.tr hn)
                  clear hn RW2
                  refine hK.out _ _ ?_ (fun hHeld => ?_)
                  · exact (KX.out _ hq.out)
                  clear hK K
                  try simp only [List.getElem_toArray, List.getElem_cons_succ, List.getElem_cons_zero, Act.put, List.setIfInBounds_toArray, List.set_cons_zero, List.set_cons_succ]
                  refine wpAnyH_take (i := 23) (v := ?v23_59) rfl (by kernel_rfl) (by kernel_rfl) (by kernel_rfl) (fun _ _ _ h => h) (Or.inl ⟨by rfl, ?y23_59⟩) hHeld ?r23_59
                  case y23_59 => (intro w hSw; (try dsimp only at hSw); go_split_ands; go_simp; try with_reducible rfl)
                  try simp only [List.getElem_toArray, List.getElem_cons_succ, List.getElem_cons_zero, Act.put, List.setIfInBounds_toArray, List.set_cons_zero, List.set_cons_succ]
                  refine wpAnyH_take (i := 24) (v := ?v24_60) rfl (by kernel_rfl) (by kernel_rfl) (by kernel_rfl) (fun _ _ _ h => h) (Or.inl ⟨by rfl, ?y24_60⟩) hHeld ?r24_60
                  case y24_60 => (intro w hSw; (try dsimp only at hSw); go_split_ands; go_simp; try with_reducible rfl)
                  try simp only [List.getElem_toArray, List.getElem_cons_succ, List.getElem_cons_zero, Act.put, List.setIfInBounds_toArray, List.set_cons_zero, List.set_cons_succ]
                  refine wpAnyH_take (i := 25) (v := ?v25_61) rfl (by kernel_rfl) (by kernel_rfl) (by kernel_rfl) (fun _ _ _ h => h) (Or.inl ⟨by rfl, ?y25_61⟩) hHeld ?r25_61
                  case y25_61 => (intro w hSw; (try dsimp only at hSw); go_split_ands; go_simp; try with_reducible rfl)
                  try simp only [List.getElem_toArray, List.getElem_cons_succ, List.getElem_cons_zero, Act.put, List.setIfInBounds_toArray, List.set_cons_zero, List.set_cons_succ]
                  refine wpAnyH_take (i := 28) (v := ?v28_62) rfl (by kernel_rfl) (by kernel_rfl) (by kernel_rfl) (fun _ _ _ h => h) (Or.inl ⟨by rfl, ?y28_62⟩) hHeld ?r28_62
                  case y28_62 => (intro w hSw; (try dsimp only at hSw); go_split_ands; go_simp; try with_reducible rfl)
                  try simp only [List.getElem_toArray, List.getElem_cons_succ, List.getElem_cons_zero, Act.put, List.setIfInBounds_toArray, List.set_cons_zero, List.set_cons_succ]
                  refine wpAnyH_take (i := 29) (v := ?v29_63) rfl (by kernel_rfl) (by kernel_rfl) (by kernel_rfl) (fun _ _ _ h => h) (Or.inl ⟨by rfl, ?y29_63⟩) hHeld ?r29_63
                  case y29_63 => (intro w hSw; (try dsimp only at hSw); go_split_ands; go_simp; try with_reducible rfl)
                  try simp only [List.getElem_toArray, List.getElem_cons_succ, List.getElem_cons_zero, Act.put, List.setIfInBounds_toArray, List.set_cons_zero, List.set_cons_succ]
                  refine wpAnyH_ready (rs := [26]) (by kernel_rfl) (by simp) ?_
                  refine AllReadyH.cons rfl (fun K hK => ?_) AllReadyH.nil
                  have hHeld' := hHeld
                  try dsimp only at hHeld'
                  go_split_ands
                  go_simp
                  refine (drop_any _ A _ [] _ (HA.out _ hq.out) (texts_nil _) (by omega) (by simp)).mono ?_
                  rintro e z11 ⟨x6, rfl, hx, hn⟩
                  have f6 := heads_own hx
                  rw [dropF_nil] at f6
                  obtain ⟨pa, pg, po, pc, rfl, -⟩ := f6
                  replace hq := Lib.hid (hq.out.tr hn)
                  clear hn hx
                  refine hK.out _ _ ?_ (fun hHeld => ?_)
                  · exact (KX.out _ hq.out)
                  clear hK K
                  try simp only [List.getElem_toArray, List.getElem_cons_succ, List.getElem_cons_zero, Act.put, List.setIfInBounds_toArray, List.set_cons_zero, List.set_cons_succ]
                  refine wpAnyH_take (i := 27) (v := ?v27_64) rfl (by kernel_rfl) (by kernel_rfl) (by kernel_rfl) (fun _ _ _ h => h) (Or.inl ⟨by rfl, ?y27_64⟩) hHeld ?r27_64
                  case y27_64 => (intro w hSw; (try dsimp only at hSw); go_split_ands; go_simp; try with_reducible rfl)
                  try simp only [List.getElem_toArray, List.getElem_cons_succ, List.getElem_cons_zero, Act.put, List.setIfInBounds_toArray, List.set_cons_zero, List.set_cons_succ]
                  refine wpAnyH_take (i := 30) (v := ?v30_65) rfl (by kernel_rfl) (by kernel_rfl) (by kernel_rfl) (fun _ _ _ h => h) (Or.inl ⟨by rfl, ?y30_65⟩) hHeld ?r30_65
                  case y30_65 => (intro w hSw; (try dsimp only at hSw); go_split_ands; go_simp; try with_reducible rfl)
                  try simp only [List.getElem_toArray, List.getElem_cons_succ, List.getElem_cons_zero, Act.put, List.setIfInBounds_toArray, List.set_cons_zero, List.set_cons_succ]
                  refine wpAnyH_take (i := 31) (v := ?v31_66) rfl (by kernel_rfl) (by kernel_rfl) (by kernel_rfl) (fun _ _ _ h => h) (Or.inl ⟨by rfl, ?y31_66⟩) hHeld ?r31_66
                  case y31_66 => (intro w hSw; (try dsimp only at hSw); go_split_ands; go_simp; try with_reducible rfl)
                  try simp only [List.getElem_toArray, List.getElem_cons_succ, List.getElem_cons_zero, Act.put, List.setIfInBounds_toArray, List.set_cons_zero, List.set_cons_succ]
                  refine wpAnyH_take (i := 32) (v := ?v32_67) rfl (by kernel_rfl) (by kernel_rfl) (by kernel_rfl) (fun _ _ _ h => h) (Or.inl ⟨by rfl, ?y32_67⟩) hHeld ?r32_67
                  case y32_67 => (intro w hSw; (try dsimp only at hSw); go_split_ands; go_simp; try with_reducible rfl)
                  try simp only [List.getElem_toArray, List.getElem_cons_succ, List.getElem_cons_zero, Act.put, List.setIfInBounds_toArray, List.set_cons_zero, List.set_cons_succ]
                  refine wpAnyH_ready (rs := [33]) (by kernel_rfl) (by simp) ?_
                  refine AllReadyH.cons rfl (fun K hK => ?_) AllReadyH.nil
                  have hHeld' := hHeld
                  try dsimp only at hHeld'
                  go_split_ands
                  go_simp
                  refine (LV.out _).mono ?_
                  rintro e z12 ⟨rfl, hn⟩
                  replace hq := Lib.hid (hq.out.tr hn)
                  clear hn
                  refine hK.out _ _ ?_ (fun hHeld => ?_)
                  · exact (KX.out _ hq.out)
                  clear hK K
                  try simp only [List.getElem_toArray, List.getElem_cons_succ, List.getElem_cons_zero, Act.put, List.setIfInBounds_toArray, List.set_cons_zero, List.set_cons_succ]
                  refine wpAnyH_take (i := 34) (v := ?v34_68) rfl (by kernel_rfl) (by kernel_rfl) (by kernel_rfl) (fun _ _ _ h => h) (Or.inl ⟨by rfl, ?y34_68⟩) hHeld ?r34_68
                  case y34_68 => (intro w hSw; (try dsimp only at hSw); go_split_ands; go_simp; try with_reducible rfl)
                  try simp only [List.getElem_toArray, List.getElem_cons_succ, List.getElem_cons_zero, Act.put, List.setIfInBounds_toArray, List.set_cons_zero, List.set_cons_succ]
                  refine wpAnyH_take (i := 35) (v := ?v35_69) rfl (by kernel_rfl) (by kernel_rfl) (by kernel_rfl) (fun _ _ _ h => h) (Or.inl ⟨by rfl, ?y35_69⟩) hHeld ?r35_69
                  case y35_69 => (intro w hSw; (try dsimp only at hSw); go_split_ands; go_simp; try with_reducible rfl)
                  try simp only [List.getElem_toArray, List.getElem_cons_succ, List.getElem_cons_zero, Act.put, List.setIfInBounds_toArray, List.set_cons_zero, List.set_cons_succ]
                  refine wpAnyH_done (by kernel_rfl) ?_ _
                  go_wp2_with fail
                  go_ret
                  exact ⟨rfl, hbz.out.tr hq.out⟩
              · have hHeld' := hHeld
                try dsimp only at hHeld'
                go_split_ands
                go_simp
                refine hK.out _ _ ?_ (fun hHeld => ?_)
                · exact (KX.out _ (hq.out.al (.cells #[S on] 9)))
                clear hK K
                try simp only [List.getElem_toArray, List.getElem_cons_succ, List.getElem_cons_zero, Act.put, List.setIfInBounds_toArray, List.set_cons_zero, List.set_cons_succ]
                have fd := texts_lit z5 on
                have hn := (Bl.rfl' z5).al (.cells #[S on] 9)
                obtain ⟨z6, hy⟩ : ∃ x, z5.alloc (.cells #[S on] 9) = x := ⟨_, rfl⟩
                rw [hy] at hHeld fd hn ⊢
                clear hy
                replace fd := Lib.hid fd
                replace fa := Lib.hid (fa.out.bl hn)
                replace fc := Lib.hid (fc.out.bl hn)
                replace hq := Lib.hid (hq.out.tr hn)
                clear hn
                refine wpAnyH_ready (rs := [12]) (by kernel_rfl) (by simp) ?_
                refine AllReadyH.cons rfl (fun K hK => ?_) AllReadyH.nil
                have hHeld' := hHeld
                try dsimp only at hHeld'
                go_split_ands
                go_simp
                refine (set_any _ A _ [⟨on, ou⟩] _ (HA.out _ hq.out) fa.out (by omega) (by simp)).mono ?_
                rintro e z7 ⟨xs, rfl, hx, hn⟩
                have fs := Lib.hid (heads_own hx)
                clear hx
                replace fa := Lib.hid (fa.out.bl hn)
                replace fc := Lib.hid (fc.out.bl hn)
                replace fd := Lib.hid (fd.out.bl hn)
                replace hq := Lib.hid (hq.out.tr hn)
                clear hn
                refine hK.out _ _ ?_ (fun hHeld => ?_)
                · exact (KX.out _ hq.out)
                clear hK K
                try simp only [List.getElem_toArray, List.getElem_cons_succ, List.getElem_cons_zero, Act.put, List.setIfInBounds_toArray, List.set_cons_zero, List.set_cons_succ]
                refine wpAnyH_ready (rs := [16]) (by kernel_rfl) (by simp) ?_
                refine AllReadyH.cons rfl (fun K hK => ?_) AllReadyH.nil
                have hHeld' := hHeld
                try dsimp only at hHeld'
                go_split_ands
                go_simp
                refine (drop_any _ (setP A [⟨on, ou⟩]) _ [on] _ fs.out fc.out (by omega) (by simp)).mono ?_
                rintro e z8 ⟨xf, rfl, hx, hn⟩
                have ff := heads_own hx
                rw [hDS.out] at ff
                replace ff := Lib.hid ff
                clear hx
                replace fa := Lib.hid (fa.out.bl hn)
                replace fc := Lib.hid (fc.out.bl hn)
                replace fd := Lib.hid (fd.out.bl hn)
                replace fs := Lib.hid (fs.out.bl hn)
                replace hq := Lib.hid (hq.out.tr hn)
                clear hn
                refine hK.out _ _ ?_ (fun hHeld => ?_)
                · exact (KX.out _ hq.out)
                clear hK K
                try simp only [List.getElem_toArray, List.getElem_cons_succ, List.getElem_cons_zero, Act.put, List.setIfInBounds_toArray, List.set_cons_zero, List.set_cons_succ]
                refine wpAnyH_ready (rs := [21]) (by kernel_rfl) (by simp) ?_
                refine AllReadyH.cons rfl (fun K hK => ?_) AllReadyH.nil
                have hHeld' := hHeld
                try dsimp only at hHeld'
                go_split_ands
                go_simp
                refine (drop_any _ A _ [on] _ (HA.out _ hq.out) fd.out (by omega) (by simp)).mono ?_
                rintro e z9 ⟨xe, rfl, hx, hn⟩
                have fe := Lib.hid (heads_own hx)
                clear hx
                replace fa := Lib.hid (fa.out.bl hn)
                replace fc := Lib.hid (fc.out.bl hn)
                replace fd := Lib.hid (fd.out.bl hn)
                replace fs := Lib.hid (fs.out.bl hn)
                replace ff := Lib.hid (ff.out.bl hn)
                replace hq := Lib.hid (hq.out.tr hn)
                clear hn
                refine hK.out _ _ ?_ (fun hHeld => ?_)
                · exact (KX.out _ hq.out)
                clear hK K
                try simp only [List.getElem_toArray, List.getElem_cons_succ, List.getElem_cons_zero, Act.put, List.setIfInBounds_toArray, List.set_cons_zero, List.set_cons_succ]
                refine wpAnyH_ready (rs := [22]) (by kernel_rfl) (by simp) ?_
                refine AllReadyH.cons rfl (fun K hK => ?_) AllReadyH.nil
                have hHeld' := hHeld
                try dsimp only at hHeld'
                go_split_ands
                go_simp
                have RW2 := row_any _ _ _ _ _ ff.out fe.out (by omega) (by omega)
                rw [decide_eq_true rfl] at RW2
                refine RW2.mono ?_
                rintro e z10 ⟨rfl, hn⟩
                replace hq := Lib.hid (hq.out.tr hn)
                clear hn RW2
                refine hK.out _ _ ?_ (fun hHeld => ?_)
                · exact (KX.out _ hq.out)
                clear hK K
                try simp only [List.getElem_toArray, List.getElem_cons_succ, List.getElem_cons_zero, Act.put, List.setIfInBounds_toArray, List.set_cons_zero, List.set_cons_succ]
                refine wpAnyH_take (i := 23) (v := ?v23_70) rfl (by kernel_rfl) (by kernel_rfl) (by kernel_rfl) (fun _ _ _ h => h) (Or.inl ⟨by rfl, ?y23_70⟩) hHeld ?r23_70
                case y23_70 => (intro w hSw; (try dsimp only at hSw); go_split_ands; go_simp; try with_reducible rfl)
                try simp only [List.getElem_toArray, List.getElem_cons_succ, List.getElem_cons_zero, Act.put, List.setIfInBounds_toArray, List.set_cons_zero, List.set_cons_succ]
                refine wpAnyH_take (i := 24) (v := ?v24_71) rfl (by kernel_rfl) (by kernel_rfl) (by kernel_rfl) (fun _ _ _ h => h) (Or.inl ⟨by rfl, ?y24_71⟩) hHeld ?r24_71
                case y24_71 => (intro w hSw; (try dsimp only at hSw); go_split_ands; go_simp; try with_reducible rfl)
                try simp only [List.getElem_toArray, List.getElem_cons_succ, List.getElem_cons_zero, Act.put, List.setIfInBounds_toArray, List.set_cons_zero, List.set_cons_succ]
                refine wpAnyH_take (i := 25) (v := ?v25_72) rfl (by kernel_rfl) (by kernel_rfl) (by kernel_rfl) (fun _ _ _ h => h) (Or.inl ⟨by rfl, ?y25_72⟩) hHeld ?r25_72
                case y25_72 => (intro w hSw; (try dsimp only at hSw); go_split_ands; go_simp; try with_reducible rfl)
                try simp only [List.getElem_toArray, List.getElem_cons_succ, List.getElem_cons_zero, Act.put, List.setIfInBounds_toArray, List.set_cons_zero, List.set_cons_succ]
                refine wpAnyH_take (i := 28) (v := ?v28_73) rfl (by kernel_rfl) (by kernel_rfl) (by kernel_rfl) (fun _ _ _ h => h) (Or.inl ⟨by rfl, ?y28_73⟩) hHeld ?r28_73
                case y28_73 => (intro w hSw; (try dsimp only at hSw); go_split_ands; go_simp; try with_reducible rfl)
                try simp only [List.getElem_toArray, List.getElem_cons_succ, List.getElem_cons_zero, Act.put, List.setIfInBounds_toArray, List.set_cons_zero, List.set_cons_succ]
                refine wpAnyH_take (i := 29) (v := ?v29_74) rfl (by kernel_rfl) (by kernel_rfl) (by kernel_rfl) (fun _ _ _ h => h) (Or.inl ⟨by rfl, ?y29_74⟩) hHeld ?r29_74
                case y29_74 => (intro w hSw; (try dsimp only at hSw); go_split_ands; go_simp; try with_reducible rfl)
                try simp only [List.getElem_toArray, List.getElem_cons_succ, List.getElem_cons_zero, Act.put, List.setIfInBounds_toArray, List.set_cons_zero, List.set_cons_succ]
                refine wpAnyH_ready (rs := [26]) (by kernel_rfl) (by simp) ?_
                refine AllReadyH.cons rfl (fun K hK => ?_) AllReadyH.nil
                have hHeld' := hHeld
                try dsimp only at hHeld'
                go_split_ands
                go_simp
                refine (drop_any _ A _ [] _ (HA.out _ hq.out) (texts_nil _) (by omega) (by simp)).mono ?_
                rintro e z11 ⟨x6, rfl, hx, hn⟩
                have f6 := heads_own hx
                rw [dropF_nil] at f6
                obtain ⟨pa, pg, po, pc, rfl, -⟩ := f6
                replace hq := Lib.hid (hq.out.tr hn)
                clear hn hx
                refine hK.out _ _ ?_ (fun hHeld => ?_)
                · exact (KX.out _ hq.out)
                clear hK K
                try simp only [List.getElem_toArray, List.getElem_cons_succ, List.getElem_cons_zero, Act.put, List.setIfInBounds_toArray, List.set_cons_zero, List.set_cons_succ]
                refine wpAnyH_take (i := 27) (v := ?v27_75) rfl (by kernel_rfl) (by kernel_rfl) (by kernel_rfl) (fun _ _ _ h => h) (Or.inl ⟨by rfl, ?y27_75⟩) hHeld ?r27_75
                case y27_75 => (intro w hSw; (try dsimp only at hSw); go_split_ands; go_simp; try with_reducible rfl)
                try simp only [List.getElem_toArray, List.getElem_cons_succ, List.getElem_cons_zero, Act.put, List.setIfInBounds_toArray, List.set_cons_zero, List.set_cons_succ]
                refine wpAnyH_take (i := 30) (v := ?v30_76) rfl (by kernel_rfl) (by kernel_rfl) (by kernel_rfl) (fun _ _ _ h => h) (Or.inl ⟨by rfl, ?y30_76⟩) hHeld ?r30_76
                case y30_76 => (intro w hSw; (try dsimp only at hSw); go_split_ands; go_simp; try with_reducible rfl)
                try simp only [List.getElem_toArray, List.getElem_cons_succ, List.getElem_cons_zero, Act.put, List.setIfInBounds_toArray, List.set_cons_zero, List.set_cons_succ]
                refine wpAnyH_take (i := 31) (v := ?v31_77) rfl (by kernel_rfl) (by kernel_rfl) (by kernel_rfl) (fun _ _ _ h => h) (Or.inl ⟨by rfl, ?y31_77⟩) hHeld ?r31_77
                case y31_77 => (intro w hSw; (try dsimp only at hSw); go_split_ands; go_simp; try with_reducible rfl)
                try simp only [List.getElem_toArray, List.getElem_cons_succ, List.getElem_cons_zero, Act.put, List.setIfInBounds_toArray, List.set_cons_zero, List.set_cons_succ]
                refine wpAnyH_take (i := 32) (v := ?v32_78) rfl (by kernel_rfl) (by kernel_rfl) (by kernel_rfl) (fun _ _ _ h => h) (Or.inl ⟨by rfl, ?y32_78⟩) hHeld ?r32_78
                case y32_78 => (intro w hSw; (try dsimp only at hSw); go_split_ands; go_simp; try with_reducible rfl)
                try simp only [List.getElem_toArray, List.getElem_cons_succ, List.getElem_cons_zero, Act.put, List.setIfInBounds_toArray, List.set_cons_zero, List.set_cons_succ]
                refine wpAnyH_ready (rs := [33]) (by kernel_rfl) (by simp) ?_
                refine AllReadyH.cons rfl (fun K hK => ?_) AllReadyH.nil
                have hHeld' := hHeld
                try dsimp only at hHeld'
                go_split_ands
                go_simp
                refine (LV.out _).mono ?_
                rintro e z12 ⟨rfl, hn⟩
                replace hq := Lib.hid (hq.out.tr hn)
                clear hn
                refine hK.out _ _ ?_ (fun hHeld => ?_)
                · exact (KX.out _ hq.out)
                clear hK K
                try simp only [List.getElem_toArray, List.getElem_cons_succ, List.getElem_cons_zero, Act.put, List.setIfInBounds_toArray, List.set_cons_zero, List.set_cons_succ]
                refine wpAnyH_take (i := 34) (v := ?v34_79) rfl (by kernel_rfl) (by kernel_rfl) (by kernel_rfl) (fun _ _ _ h => h) (Or.inl ⟨by rfl, ?y34_79⟩) hHeld ?r34_79
                case y34_79 => (intro w hSw; (try dsimp only at hSw); go_split_ands; go_simp; try with_reducible rfl)
                try simp only [List.getElem_toArray, List.getElem_cons_succ, List.getElem_cons_zero, Act.put, List.setIfInBounds_toArray, List.set_cons_zero, List.set_cons_succ]
                refine wpAnyH_take (i := 35) (v := ?v35_80) rfl (by kernel_rfl) (by kernel_rfl) (by kernel_rfl) (fun _ _ _ h => h) (Or.inl ⟨by rfl, ?y35_80⟩) hHeld ?r35_80
                case y35_80 => (intro w hSw; (try dsimp only at hSw); go_split_ands; go_simp; try with_reducible rfl)
                try simp only [List.getElem_toArray, List.getElem_cons_succ, List.getElem_cons_zero, Act.put, List.setIfInBounds_toArray, List.set_cons_zero, List.set_cons_succ]
                refine wpAnyH_done (by kernel_rfl) ?_ _
                go_wp2_with fail
                go_ret
                exact ⟨rfl, hbz.out.tr hq.out⟩
            · have hHeld' := hHeld
              try dsimp only at hHeld'
              go_split_ands
              go_simp
              refine hK.out _ _ ?_ (fun hHeld => ?_)
              · exact (KX.out _ (hq.out.al (.cells #[S on] 9)))
              clear hK K
              try simp only [List.getElem_toArray, List.getElem_cons_succ, List.getElem_cons_zero, Act.put, List.setIfInBounds_toArray, List.set_cons_zero, List.set_cons_succ]
              have fd := texts_lit z4 on
              have hn := (Bl.rfl' z4).al (.cells #[S on] 9)
              obtain ⟨z5, hy⟩ : ∃ x, z4.alloc (.cells #[S on] 9) = x := ⟨_, rfl⟩
              rw [hy] at hHeld fd hn ⊢
              clear hy
              replace fd := Lib.hid fd
              replace fa := Lib.hid (fa.out.bl hn)
              replace hq := Lib.hid (hq.out.tr hn)
              clear hn
              refine wpAnyH_ready (rs := [12, 15]) (by kernel_rfl) (by simp) ?_
              refine AllReadyH.cons rfl (fun K hK => ?_) (AllReadyH.cons rfl (fun K hK => ?_) (AllReadyH.nil))
              · have hHeld' := hHeld
                try dsimp only at hHeld'
                go_split_ands
                go_simp
                refine (set_any _ A _ [⟨on, ou⟩] _ (HA.out _ hq.out) fa.out (by omega) (by simp)).mono ?_
                rintro e z6 ⟨xs, rfl, hx, hn⟩
                have fs := Lib.hid (heads_own hx)
                clear hx
                replace fa := Lib.hid (fa.out.bl hn)
                replace fd := Lib.hid (fd.out.bl hn)
                replace hq := Lib.hid (hq.out.tr hn)
                clear hn
                refine hK.out _ _ ?_ (fun hHeld => ?_)
                · exact (KX.out _ hq.out)
                clear hK K
                try simp only [List.getElem_toArray, List.getElem_cons_succ, List.getElem_cons_zero, Act.put, List.setIfInBounds_toArray, List.set_cons_zero, List.set_cons_succ]
                refine wpAnyH_ready (rs := [15]) (by kernel_rfl) (by simp) ?_
                refine AllReadyH.cons rfl (fun K hK => ?_) AllReadyH.nil
                have hHeld' := hHeld
                try dsimp only at hHeld'
                go_split_ands
                go_simp
                refine hK.out _ _ ?_ (fun hHeld => ?_)
                · exact (KX.out _ (hq.out.al (.cells #[S on] 9)))
                clear hK K
                try simp only [List.getElem_toArray, List.getElem_cons_succ, List.getElem_cons_zero, Act.put, List.setIfInBounds_toArray, List.set_cons_zero, List.set_cons_succ]
                have fc := texts_lit z6 on
                have hn := (Bl.rfl' z6).al (.cells #[S on] 9)
                obtain ⟨z7, hy⟩ : ∃ x, z6.alloc (.cells #[S on] 9) = x := ⟨_, rfl⟩
                rw [hy] at hHeld fc hn ⊢
                clear hy
                replace fc := Lib.hid fc
                replace fa := Lib.hid (fa.out.bl hn)
                replace fd := Lib.hid (fd.out.bl hn)
                replace fs := Lib.hid (fs.out.bl hn)
                replace hq := Lib.hid (hq.out.tr hn)
                clear hn
                refine wpAnyH_ready (rs := [16]) (by kernel_rfl) (by simp) ?_
                refine AllReadyH.cons rfl (fun K hK => ?_) AllReadyH.nil
                have hHeld' := hHeld
                try dsimp only at hHeld'
                go_split_ands
                go_simp
                refine (drop_any _ (setP A [⟨on, ou⟩]) _ [on] _ fs.out fc.out (by omega) (by simp)).mono ?_
                rintro e z8 ⟨xf, rfl, hx, hn⟩
                have ff := heads_own hx
                rw [hDS.out] at ff
                replace ff := Lib.hid ff
                clear hx
                replace fa := Lib.hid (fa.out.bl hn)
                replace fd := Lib.hid (fd.out.bl hn)
                replace fs := Lib.hid (fs.out.bl hn)
                replace fc := Lib.hid (fc.out.bl hn)
                replace hq := Lib.hid (hq.out.tr hn)
                clear hn
                refine hK.out _ _ ?_ (fun hHeld => ?_)
                · exact (KX.out _ hq.out)
                clear hK K
                try simp only [List.getElem_toArray, List.getElem_cons_succ, List.getElem_cons_zero, Act.put, List.setIfInBounds_toArray, List.set_cons_zero, List.set_cons_succ]
                refine wpAnyH_ready (rs := [21]) (by kernel_rfl) (by simp) ?_
                refine AllReadyH.cons rfl (fun K hK => ?_) AllReadyH.nil
                have hHeld' := hHeld
                try dsimp only at hHeld'
                go_split_ands
                go_simp
                refine (drop_any _ A _ [on] _ (HA.out _ hq.out) fd.out (by omega) (by simp)).mono ?_
                rintro e z9 ⟨xe, rfl, hx, hn⟩
                have fe := Lib.hid (heads_own hx)
                clear hx
                replace fa := Lib.hid (fa.out.bl hn)
                replace fd := Lib.hid (fd.out.bl hn)
                replace fs := Lib.hid (fs.out.bl hn)
                replace fc := Lib.hid (fc.out.bl hn)
                replace ff := Lib.hid (ff.out.bl hn)
                replace hq := Lib.hid (hq.out.tr hn)
                clear hn
                refine hK.out _ _ ?_ (fun hHeld => ?_)
                · exact (KX.out _ hq.out)
                clear hK K
                try simp only [List.getElem_toArray, List.getElem_cons_succ, List.getElem_cons_zero, Act.put, List.setIfInBounds_toArray, List.set_cons_zero, List.set_cons_succ]
                refine wpAnyH_ready (rs := [22]) (by kernel_rfl) (by simp) ?_
                refine AllReadyH.cons rfl (fun K hK => ?_) AllReadyH.nil
                have hHeld' := hHeld
                try dsimp only at hHeld'
                go_split_ands
                go_simp
                have RW2 := row_any _ _ _ _ _ ff.out fe.out (by omega) (by omega)
                rw [decide_eq_true rfl] at RW2
                refine RW2.mono ?_
                rintro e z10 ⟨rfl, hn⟩
                replace hq := Lib.hid (hq.out.tr hn)
                clear hn RW2
                refine hK.out _ _ ?_ (fun hHeld => ?_)
                · exact (KX.out _ hq.out)
                clear hK K
                try simp only [List.getElem_toArray, List.getElem_cons_succ, List.getElem_cons_zero, Act.put, List.setIfInBounds_toArray, List.set_cons_zero, List.set_cons_succ]
                refine wpAnyH_take (i := 23) (v := ?v23_81) rfl (by kernel_rfl) (by kernel_rfl) (by kernel_rfl) (fun _ _ _ h => h) (Or.inl ⟨by rfl, ?y23_81⟩) hHeld ?r23_81
                case y23_81 => (intro w hSw; (try dsimp only at hSw); go_split_ands; go_simp; try with_reducible rfl)
                try simp only [List.getElem_toArray, List.getElem_cons_succ, List.getElem_cons_zero, Act.put, List.setIfInBounds_toArray, List.set_cons_zero, List.set_cons_succ]
                refine wpAnyH_take (i := 24) (v := ?v24_82) rfl (by kernel_rfl) (by kernel_rfl) (by kernel_rfl) (fun _ _ _ h => h) (Or.inl ⟨by rfl, ?y24_82⟩) hHeld ?r24_82
                case y24_82 => (intro w hSw; (try dsimp only at hSw); go_split_ands; go_simp; try with_reducible rfl)
                try simp only [List.getElem_toArray, List.getElem_cons_succ, List.getElem_cons_zero, Act.put, List.setIfInBounds_toArray, List.set_cons_zero, List.set_cons_succ]
                refine wpAnyH_take (i := 25) (v := ?v25_83) rfl (by kernel_rfl) (by kernel_rfl) (by kernel_rfl) (fun _ _ _ h => h) (Or.inl ⟨by rfl, ?y25_83⟩) hHeld ?r25_83
                case y25_83 => (intro w hSw; (try dsimp only at hSw); go_split_ands; go_simp; try with_reducible rfl)
                try simp only [List.getElem_toArray, List.getElem_cons_succ, List.getElem_cons_zero, Act.put, List.setIfInBounds_toArray, List.set_cons_zero, List.set_cons_succ]
                refine wpAnyH_take (i := 28) (v := ?v28_84) rfl (by kernel_rfl) (by kernel_rfl) (by kernel_rfl) (fun _ _ _ h => h) (Or.inl ⟨by rfl, ?y28_84⟩) hHeld ?r28_84
                case y28_84 => (intro w hSw; (try dsimp only at hSw); go_split_ands; go_simp; try with_reducible rfl)
                try simp only [List.getElem_toArray, List.getElem_cons_succ, List.getElem_cons_zero, Act.put, List.setIfInBounds_toArray, List.set_cons_zero, List.set_cons_succ]
                refine wpAnyH_take (i := 29) (v := ?v29_85) rfl (by kernel_rfl) (by kernel_rfl) (by kernel_rfl) (fun _ _ _ h => h) (Or.inl ⟨by rfl, ?y29_85⟩) hHeld ?r29_85
                case y29_85 => (intro w hSw; (try dsimp only at hSw); go_split_ands; go_simp; try with_reducible rfl)
                try simp only [List.getElem_toArray, List.getElem_cons_succ, List.getElem_cons_zero, Act.put, List.setIfInBounds_toArray, List.set_cons_zero, List.set_cons_succ]
                refine wpAnyH_ready (rs := [26]) (by kernel_rfl) (by simp) ?_
                refine AllReadyH.cons rfl (fun K hK => ?_) AllReadyH.nil
                have hHeld' := hHeld
                try dsimp only at hHeld'
                go_split_ands
                go_simp
                refine (drop_any _ A _ [] _ (HA.out _ hq.out) (texts_nil _) (by omega) (by simp)).mono ?_
                rintro e z11 ⟨x6, rfl, hx, hn⟩
                have f6 := heads_own hx
                rw [dropF_nil] at f6
                obtain ⟨pa, pg, po, pc, rfl, -⟩ := f6
                replace hq := Lib.hid (hq.out.tr hn)
                clear hn hx
                refine hK.out _ _ ?_ (fun hHeld => ?_)
                · exact (KX.out _ hq.out)
                clear hK K
                try simp only [List.getElem_toArray, List.getElem_cons_succ, List.getElem_cons_zero, Act.put, List.setIfInBounds_toArray, List.set_cons_zero, List.set_cons_succ]
                refine wpAnyH_take (i := 27) (v := ?v27_86) rfl (by kernel_rfl) (by kernel_rfl) (by kernel_rfl) (fun _ _ _ h => h) (Or.inl ⟨by rfl, ?y27_86⟩) hHeld ?r27_86
                case y27_86 => (intro w hSw; (try dsimp only at hSw); go_split_ands; go_simp; try with_reducible rfl)
                try simp only [List.getElem_toArray, List.getElem_cons_succ, List.getElem_cons_zero, Act.put, List.setIfInBounds_toArray, List.set_cons_zero, List.set_cons_succ]
                refine wpAnyH_take (i := 30) (v := ?v30_87) rfl (by kernel_rfl) (by kernel_rfl) (by kernel_rfl) (fun _ _ _ h => h) (Or.inl ⟨by rfl, ?y30_87⟩) hHeld ?r30_87
                case y30_87 => (intro w hSw; (try dsimp only at hSw); go_split_ands; go_simp; try with_reducible rfl)
                try simp only [List.getElem_toArray, List.getElem_cons_succ, List.getElem_cons_zero, Act.put, List.setIfInBounds_toArray, List.set_cons_zero, List.set_cons_succ]
                refine wpAnyH_take (i := 31) (v := ?v31_88) rfl (by kernel_rfl) (by kernel_rfl) (by kernel_rfl) (fun _ _ _ h => h) (Or.inl ⟨by rfl, ?y31_88⟩) hHeld ?r31_88
                case y31_88 => (intro w hSw; (try dsimp only at hSw); go_split_ands; go_simp; try with_reducible rfl)
                try simp only [List.getElem_toArray, List.getElem_cons_succ, List.getElem_cons_zero, Act.put, List.setIfInBounds_toArray, List.set_cons_zero, List.set_cons_succ]
                refine wpAnyH_take (i := 32) (v := ?v32_89) rfl (by kernel_rfl) (by kernel_rfl) (by kernel_rfl) (fun _ _ _ h => h) (Or.inl ⟨by rfl, ?y32_89⟩) hHeld ?r32_89
                case y32_89 => (intro w hSw; (try dsimp only at hSw); go_split_ands; go_simp; try with_reducible rfl)
                try simp only [List.getElem_toArray, List.getElem_cons_succ, List.getElem_cons_zero, Act.put, List.setIfInBounds_toArray, List.set_cons_zero, List.set_cons_succ]
                refine wpAnyH_ready (rs := [33]) (by kernel_rfl) (by simp) ?_
                refine AllReadyH.cons rfl (fun K hK => ?_) AllReadyH.nil
                have hHeld' := hHeld
                try dsimp only at hHeld'
                go_split_ands
                go_simp
                refine (LV.out _).mono ?_
                rintro e z12 ⟨rfl, hn⟩
                replace hq := Lib.hid (hq.out.tr hn)
                clear hn
                refine hK.out _ _ ?_ (fun hHeld => ?_)
                · exact (KX.out _ hq.out)
                clear hK K
                try simp only [List.getElem_toArray, List.getElem_cons_succ, List.getElem_cons_zero, Act.put, List.setIfInBounds_toArray, List.set_cons_zero, List.set_cons_succ]
                refine wpAnyH_take (i := 34) (v := ?v34_90) rfl (by kernel_rfl) (by kernel_rfl) (by kernel_rfl) (fun _ _ _ h => h) (Or.inl ⟨by rfl, ?y34_90⟩) hHeld ?r34_90
                case y34_90 => (intro w hSw; (try dsimp only at hSw); go_split_ands; go_simp; try with_reducible rfl)
                try simp only [List.getElem_toArray, List.getElem_cons_succ, List.getElem_cons_zero, Act.put, List.setIfInBounds_toArray, List.set_cons_zero, List.set_cons_succ]
                refine wpAnyH_take (i := 35) (v := ?v35_91) rfl (by kernel_rfl) (by kernel_rfl) (by kernel_rfl) (fun _ _ _ h => h) (Or.inl ⟨by rfl, ?y35_91⟩) hHeld ?r35_91
                case y35_91 => (intro w hSw; (try dsimp only at hSw); go_split_ands; go_simp; try with_reducible rfl)
                try simp only [List.getElem_toArray, List.getElem_cons_succ, List.getElem_cons_zero, Act.put, List.setIfInBounds_toArray, List.set_cons_zero, List.set_cons_succ]
                refine wpAnyH_done (by kernel_rfl) ?_ _
                go_wp2_with fail
                go_ret
                exact ⟨rfl, hbz.out.tr hq.out⟩
              · have hHeld' := hHeld
                try dsimp only at hHeld'
                go_split_ands
                go_simp
                refine hK.out _ _ ?_ (fun hHeld => ?_)
                · exact (KX.out _ (hq.out.al (.cells #[S on] 9)))
                clear hK K
                try simp only [List.getElem_toArray, List.getElem_cons_succ, List.getElem_cons_zero, Act.put, List.setIfInBounds_toArray, List.set_cons_zero, List.set_cons_succ]
                have fc := texts_lit z5 on
                have hn := (Bl.rfl' z5).al (.cells #[S on] 9)
                obtain ⟨z6, hy⟩ : ∃ x, z5.alloc (.cells #[S on] 9) = x := ⟨_, rfl⟩
                rw [hy] at hHeld fc hn ⊢
                clear hy
                replace fc := Lib.hid fc
                replace fa := Lib.hid (fa.out.bl hn)
                replace fd := Lib.hid (fd.out.bl hn)
                replace hq := Lib.hid (hq.out.tr hn)
                clear hn
                refine wpAnyH_ready (rs := [12]) (by kernel_rfl) (by simp) ?_
                refine AllReadyH.cons rfl (fun K hK => ?_) AllReadyH.nil
                have hHeld' := hHeld
                try dsimp only at hHeld'
                go_split_ands
                go_simp
                refine (set_any _ A _ [⟨on, ou⟩] _ (HA.out _ hq.out) fa.out (by omega) (by simp)).mono ?_
                rintro e z7 ⟨xs, rfl, hx, hn⟩
                have fs := Lib.hid (heads_own hx)
                clear hx
                replace fa := Lib.hid (fa.out.bl hn)
                replace fd := Lib.hid (fd.out.bl hn)
                replace fc := Lib.hid (fc.out.bl hn)
                replace hq := Lib.hid (hq.out.tr hn)
                clear hn
                refine hK.out _ _ ?_ (fun hHeld => ?_)
                · exact (KX.out _ hq.out)
                clear hK K
                try simp only [List.getElem_toArray, List.getElem_cons_succ, List.getElem_cons_zero, Act.put, List.setIfInBounds_toArray, List.set_cons_zero, List.set_cons_succ]
                refine wpAnyH_ready (rs := [16]) (by kernel_rfl) (by simp) ?_
                refine AllReadyH.cons rfl (fun K hK => ?_) AllReadyH.nil
                have hHeld' := hHeld
                try dsimp only at hHeld'
                go_split_ands
                go_simp
                refine (drop_any _ (setP A [⟨on, ou⟩]) _ [on] _ fs.out fc.out (by omega) (by simp)).mono ?_
                rintro e z8 ⟨xf, rfl, hx, hn⟩
                have ff := heads_own hx
                rw [hDS.out] at ff
                replace ff := Lib.hid ff
                clear hx
                replace fa := Lib.hid (fa.out.bl hn)
                replace fd := Lib.hid (fd.out.bl hn)
                replace fc := Lib.hid (fc.out.bl hn)
                replace fs := Lib.hid (fs.out.bl hn)
                replace hq := Lib.hid (hq.out.tr hn)
                clear hn
                refine hK.out _ _ ?_ (fun hHeld => ?_)
                · exact (KX.out _ hq.out)
                clear hK K
                try simp only [List.getElem_toArray, List.getElem_cons_succ, List.getElem_cons_zero, Act.put, List.setIfInBounds_toArray, List.set_cons_zero, List.set_cons_succ]
                refine wpAnyH_ready (rs := [21]) (by kernel_rfl) (by simp) ?_
                refine AllReadyH.cons rfl (fun K hK => ?_) AllReadyH.nil
                have hHeld' := hHeld
                try dsimp only at hHeld'
                go_split_ands
                go_simp
                refine (drop_any _ A _ [on] _ (HA.out _ hq.out) fd.out (by omega) (by simp)).mono ?_
                rintro e z9 ⟨xe, rfl, hx, hn⟩
                have fe := Lib.hid (heads_own hx)
                clear hx
                replace fa := Lib.hid (fa.out.bl hn)
                replace fd := Lib.hid (fd.out.bl hn)
                replace fc := Lib.hid (fc.out.bl hn)
                replace fs := Lib.hid (fs.out.bl hn)
                replace ff := Lib.hid (ff.out.bl hn)
                replace hq := Lib.hid (hq.out.tr hn)
                clear hn
                refine hK.out _ _ ?_ (fun hHeld => ?_)
                · exact (KX.out _ hq.out)
                clear hK K
                try simp only [List.getElem_toArray, List.getElem_cons_succ, List.getElem_cons_zero, Act.put, List.setIfInBounds_toArray, List.set_cons_zero, List.set_cons_succ]
                refine wpAnyH_ready (rs := [22]) (by kernel_rfl) (by simp) ?_
                refine AllReadyH.cons rfl (fun K hK => ?_) AllReadyH.nil
                have hHeld' := hHeld
                try dsimp only at hHeld'
                go_split_ands
                go_simp
                have RW2 := row_any _ _ _ _ _ ff.out fe.out (by omega) (by omega)
                rw [decide_eq_true rfl] at RW2
                refine RW2.mono ?_
                rintro e z10 ⟨rfl, hn⟩
                replace hq := Lib.hid (hq.out.tr hn)
                clear hn RW2
                refine hK.out _ _ ?_ (fun hHeld => ?_)
                · exact (KX.out _ hq.out)
                clear hK K
                try simp only [List.getElem_toArray, List.getElem_cons_succ, List.getElem_cons_zero, Act.put, List.setIfInBounds_toArray, List.set_cons_zero, List.set_cons_succ]
                refine wpAnyH_take (i := 23) (v := ?v23_92) rfl (by kernel_rfl) (by kernel_rfl) (by kernel_rfl) (fun _ _ _ h => h) (Or.inl ⟨by rfl, ?y23_92⟩) hHeld ?r23_92
                case y23_92 => (intro w hSw; (try dsimp only at hSw); go_split_ands; go_simp; try with_reducible rfl)
                try simp only [List.getElem_toArray, List.getElem_cons_succ, List.getElem_cons_zero, Act.put, List.setIfInBounds_toArray, List.set_cons_zero, List.set_cons_succ]
                refine wpAnyH_take (i := 24) (v := ?v24_93) rfl (by kernel_rfl) (by kernel_rfl) (by kernel_rfl) (fun _ _ _ h => h) (Or.inl ⟨by rfl, ?y24_93⟩) hHeld ?r24_93
                case y24_93 => (intro w hSw; (try dsimp only at hSw); go_split_ands; go_simp; try with_reducible rfl)
                try simp only [List.getElem_toArray, List.getElem_cons_succ, List.getElem_cons_zero, Act.put, List.setIfInBounds_toArray, List.set_cons_zero, List.set_cons_succ]
                refine wpAnyH_take (i := 25) (v := ?v25_94) rfl (by kernel_rfl) (by kernel_rfl) (by kernel_rfl) (fun _ _ _ h => h) (Or.inl ⟨by rfl, ?y25_94⟩) hHeld ?r25_94
                case y25_94 => (intro w hSw; (try dsimp only at hSw); go_split_ands; go_simp; try with_reducible rfl)
                try simp only [List.getElem_toArray, List.getElem_cons_succ, List.getElem_cons_zero, Act.put, List.setIfInBounds_toArray, List.set_cons_zero, List.set_cons_succ]
                refine wpAnyH_take (i := 28) (v := ?v28_95) rfl (by kernel_rfl) (by kernel_rfl) (by kernel_rfl) (fun _ _ _ h => h) (Or.inl ⟨by rfl, ?y28_95⟩) hHeld ?r28_95
                case y28_95 => (intro w hSw; (try dsimp only at hSw); go_split_ands; go_simp; try with_reducible rfl)
                try simp only [List.getElem_toArray, List.getElem_cons_succ, List.getElem_cons_zero, Act.put, List.setIfInBounds_toArray, List.set_cons_zero, List.set_cons_succ]
                refine wpAnyH_take (i := 29) (v := ?v29_96) rfl (by kernel_rfl) (by kernel_rfl) (by kernel_rfl) (fun _ _ _ h => h) (Or.inl ⟨by rfl, ?y29_96⟩) hHeld ?r29_96
                case y29_96 => (intro w hSw; (try dsimp only at hSw); go_split_ands; go_simp; try with_reducible rfl)
                try simp only [List.getElem_toArray, List.getElem_cons_succ, List.getElem_cons_zero, Act.put, List.setIfInBounds_toArray, List.set_cons_zero, List.set_cons_succ]
                refine wpAnyH_ready (rs := [26]) (by kernel_rfl) (by simp) ?_
                refine AllReadyH.cons rfl (fun K hK => ?_) AllReadyH.nil
                have hHeld' := hHeld
                try dsimp only at hHeld'
                go_split_ands
                go_simp
                refine (drop_any _ A _ [] _ (HA.out _ hq.out) (texts_nil _) (by omega) (by simp)).mono ?_
                rintro e z11 ⟨x6, rfl, hx, hn⟩
                have f6 := heads_own hx
                rw [dropF_nil] at f6
                obtain ⟨pa, pg, po, pc, rfl, -⟩ := f6
                replace hq := Lib.hid (hq.out.tr hn)
                clear hn hx
                refine hK.out _ _ ?_ (fun hHeld => ?_)
                · exact (KX.out _ hq.out)
                clear hK K
                try simp only [List.getElem_toArray, List.getElem_cons_succ, List.getElem_cons_zero, Act.put, List.setIfInBounds_toArray, List.set_cons_zero, List.set_cons_succ]
                refine wpAnyH_take (i := 27) (v := ?v27_97) rfl (by kernel_rfl) (by kernel_rfl) (by kernel_rfl) (fun _ _ _ h => h) (Or.inl ⟨by rfl, ?y27_97⟩) hHeld ?r27_97
                case y27_97 => (intro w hSw; (try dsimp only at hSw); go_split_ands; go_simp; try with_reducible rfl)
                try simp only [List.getElem_toArray, List.getElem_cons_succ, List.getElem_cons_zero, Act.put, List.setIfInBounds_toArray, List.set_cons_zero, List.set_cons_succ]
                refine wpAnyH_take (i := 30) (v := ?v30_98) rfl (by kernel_rfl) (by kernel_rfl) (by kernel_rfl) (fun _ _ _ h => h) (Or.inl ⟨by rfl, ?y30_98⟩) hHeld ?r30_98
                case y30_98 => (intro w hSw; (try dsimp only at hSw); go_split_ands; go_simp; try with_reducible rfl)
                try simp only [List.getElem_toArray, List.getElem_cons_succ, List.getElem_cons_zero, Act.put, List.setIfInBounds_toArray, List.set_cons_zero, List.set_cons_succ]
                refine wpAnyH_take (i := 31) (v := ?v31_99) rfl (by kernel_rfl) (by kernel_rfl) (by kernel_rfl) (fun _ _ _ h => h) (Or.inl ⟨by rfl, ?y31_99⟩) hHeld ?r31_99
                case y31_99 => (intro w hSw; (try dsimp only at hSw); go_split_ands; go_simp; try with_reducible rfl)
                try simp only [List.getElem_toArray, List.getElem_cons_succ, List.getElem_cons_zero, Act.put, List.setIfInBounds_toArray, List.set_cons_zero, List.set_cons_succ]
                refine wpAnyH_take (i := 32) (v := ?v32_100) rfl (by kernel_rfl) (by kernel_rfl) (by kernel_rfl) (fun _ _ _ h => h) (Or.inl ⟨by rfl, ?y32_100⟩) hHeld ?r32_100
                case y32_100 => (intro w hSw; (try dsimp only at hSw); go_split_ands; go_simp; try with_reducible rfl)
                try simp only [List.getElem_toArray, List.getElem_cons_succ, List.getElem_cons_zero, Act.put, List.setIfInBounds_toArray, List.set_cons_zero, List.set_cons_succ]
                refine wpAnyH_ready (rs := [33]) (by kernel_rfl) (by simp) ?_
                refine AllReadyH.cons rfl (fun K hK => ?_) AllReadyH.nil
                have hHeld' := hHeld
                try dsimp only at hHeld'
                go_split_ands
                go_simp
                refine (LV.out _).mono ?_
                rintro e z12 ⟨rfl, hn⟩
                replace hq := Lib.hid (hq.out.tr hn)
                clear hn
                refine hK.out _ _ ?_ (fun hHeld => ?_)
                · exact (KX.out _ hq.out)
                clear hK K
                try simp only [List.getElem_toArray, List.getElem_cons_succ, List.getElem_cons_zero, Act.put, List.setIfInBounds_toArray, List.set_cons_zero, List.set_cons_succ]
                refine wpAnyH_take (i := 34) (v := ?v34_101) rfl (by kernel_rfl) (by kernel_rfl) (by kernel_rfl) (fun _ _ _ h => h) (Or.inl ⟨by rfl, ?y34_101⟩) hHeld ?r34_101
                case y34_101 => (intro w hSw; (try dsimp only at hSw); go_split_ands; go_simp; try with_reducible rfl)
                try simp only [List.getElem_toArray, List.getElem_cons_succ, List.getElem_cons_zero, Act.put, List.setIfInBounds_toArray, List.set_cons_zero, List.set_cons_succ]
                refine wpAnyH_take (i := 35) (v := ?v35_102) rfl (by kernel_rfl) (by kernel_rfl) (by kernel_rfl) (fun _ _ _ h => h) (Or.inl ⟨by rfl, ?y35_102⟩) hHeld ?r35_102
                case y35_102 => (intro w hSw; (try dsimp only at hSw); go_split_ands; go_simp; try with_reducible rfl)
                try simp only [List.getElem_toArray, List.getElem_cons_succ, List.getElem_cons_zero, Act.put, List.setIfInBounds_toArray, List.set_cons_zero, List.set_cons_succ]
                refine wpAnyH_done (by kernel_rfl) ?_ _
                go_wp2_with fail
                go_ret
                exact ⟨rfl, hbz.out.tr hq.out⟩
          · have hHeld' := hHeld
            try dsimp only at hHeld'
            go_split_ands
            go_simp
            refine hK.out _ _ ?_ (fun hHeld => ?_)
            · exact (KX.out _ (hq.out.al (.cells #[S on] 9)))
            clear hK K
            try simp only [List.getElem_toArray, List.getElem_cons_succ, List.getElem_cons_zero, Act.put, List.setIfInBounds_toArray, List.set_cons_zero, List.set_cons_succ]
            have fc := texts_lit z3 on
            have hn := (Bl.rfl' z3).al (.cells #[S on] 9)
            obtain ⟨z4, hy⟩ : ∃ x, z3.alloc (.cells #[S on] 9) = x := ⟨_, rfl⟩
            rw [hy] at hHeld fc hn ⊢
            clear hy
            replace fc := Lib.hid fc
            replace hq := Lib.hid (hq.out.tr hn)
            clear hn
            refine wpAnyH_ready (rs := [11, 20]) (by kernel_rfl) (by simp) ?_
            refine AllReadyH.cons rfl (fun K hK => ?_) (AllReadyH.cons rfl (fun K hK => ?_) (AllReadyH.nil))
            · have hHeld' := hHeld
              try dsimp only at hHeld'
              go_split_ands
              go_simp
              refine hK.out _ _ ?_ (fun hHeld => ?_)
              · exact (KX.out _ (hq.out.al (.cells #[S on, S ou] 25)))
              clear hK K
              try simp only [List.getElem_toArray, List.getElem_cons_succ, List.getElem_cons_zero, Act.put, List.setIfInBounds_toArray, List.set_cons_zero, List.set_cons_succ]
              have fa := heads_lit z4 [⟨on, ou⟩] (by simp)
              have hn := (Bl.rfl' z4).al (.cells #[S on, S ou] 25)
              replace fa : HeadsAt (z4.alloc (.cells #[S on, S ou] 25)) (.slice (some ⟨z4.heap.size, 0, none⟩) 1 1) [⟨on, ou⟩] := fa
              obtain ⟨z5, hy⟩ : ∃ x, z4.alloc (.cells #[S on, S ou] 25) = x := ⟨_, rfl⟩
              rw [hy] at hHeld fa hn ⊢
              clear hy
              replace fa := Lib.hid fa
              replace fc := Lib.hid (fc.out.bl hn)
              replace hq := Lib.hid (hq.out.tr hn)
              clear hn
              refine wpAnyH_ready (rs := [12, 20]) (by kernel_rfl) (by simp) ?_
              refine AllReadyH.cons rfl (fun K hK => ?_) (AllReadyH.cons rfl (fun K hK => ?_) (AllReadyH.nil))
              · have hHeld' := hHeld
                try dsimp only at hHeld'
                go_split_ands
                go_simp
                refine (set_any _ A _ [⟨on, ou⟩] _ (HA.out _ hq.out) fa.out (by omega) (by simp)).mono ?_
                rintro e z6 ⟨xs, rfl, hx, hn⟩
                have fs := Lib.hid (heads_own hx)
                clear hx
                replace fc := Lib.hid (fc.out.bl hn)
                replace fa := Lib.hid (fa.out.bl hn)
                replace hq := Lib.hid (hq.out.tr hn)
                clear hn
                refine hK.out _ _ ?_ (fun hHeld => ?_)
                · exact (KX.out _ hq.out)
                clear hK K
                try simp only [List.getElem_toArray, List.getElem_cons_succ, List.getElem_cons_zero, Act.put, List.setIfInBounds_toArray, List.set_cons_zero, List.set_cons_succ]
                refine wpAnyH_ready (rs := [16, 20]) (by kernel_rfl) (by simp) ?_
                refine AllReadyH.cons rfl (fun K hK => ?_) (AllReadyH.cons rfl (fun K hK => ?_) (AllReadyH.nil))
                · have hHeld' := hHeld
                  try dsimp only at hHeld'
                  go_split_ands
                  go_simp
                  refine (drop_any _ (setP A [⟨on, ou⟩]) _ [on] _ fs.out fc.out (by omega) (by simp)).mono ?_
                  rintro e z7 ⟨xf, rfl, hx, hn⟩
                  have ff := heads_own hx
                  rw [hDS.out] at ff
                  replace ff := Lib.hid ff
                  clear hx
                  replace fc := Lib.hid (fc.out.bl hn)
                  replace fa := Lib.hid (fa.out.bl hn)
                  replace fs := Lib.hid (fs.out.bl hn)
                  replace hq := Lib.hid (hq.out.tr hn)
                  clear hn
                  refine hK.out _ _ ?_ (fun hHeld => ?_)
                  · exact (KX.out _ hq.out)
                  clear hK K
                  try simp only [List.getElem_toArray, List.getElem_cons_succ, List.getElem_cons_zero, Act.put, List.setIfInBounds_toArray, List.set_cons_zero, List.set_cons_succ]
                  refine wpAnyH_ready (rs := [20]) (by kernel_rfl) (by simp) ?_
                  refine AllReadyH.cons rfl (fun K hK => ?_) AllReadyH.nil
                  have hHeld' := hHeld
                  try dsimp only at hHeld'
                  go_split_ands
                  go_simp
                  refine hK.out _ _ ?_ (fun hHeld => ?_)
                  · exact (KX.out _ (hq.out.al (.cells #[S on] 9)))
                  clear hK K
                  try simp only [List.getElem_toArray, List.getElem_cons_succ, List.getElem_cons_zero, Act.put, List.setIfInBounds_toArray, List.set_cons_zero, List.set_cons_succ]
                  have fd := texts_lit z7 on
                  have hn := (Bl.rfl' z7).al (.cells #[S on] 9)
                  obtain ⟨z8, hy⟩ : ∃ x, z7.alloc (.cells #[S on] 9) = x := ⟨_, rfl⟩
                  rw [hy] at hHeld fd hn ⊢
                  clear hy
                  replace fd := Lib.hid fd
                  replace fc := Lib.hid (fc.out.bl hn)
                  replace fa := Lib.hid (fa.out.bl hn)
                  replace fs := Lib.hid (fs.out.bl hn)
                  replace ff := Lib.hid (ff.out.bl hn)
                  replace hq := Lib.hid (hq.out.tr hn)
                  clear hn
                  refine wpAnyH_ready (rs := [21]) (by kernel_rfl) (by simp) ?_
                  refine AllReadyH.cons rfl (fun K hK => ?_) AllReadyH.nil
                  have hHeld' := hHeld
                  try dsimp only at hHeld'
                  go_split_ands
                  go_simp
                  refine (drop_any _ A _ [on] _ (HA.out _ hq.out) fd.out (by omega) (by simp)).mono ?_
                  rintro e z9 ⟨xe, rfl, hx, hn⟩
                  have fe := Lib.hid (heads_own hx)
                  clear hx
                  replace fc := Lib.hid (fc.out.bl hn)
                  replace fa := Lib.hid (fa.out.bl hn)
                  replace fs := Lib.hid (fs.out.bl hn)
                  replace ff := Lib.hid (ff.out.bl hn)
                  replace fd := Lib.hid (fd.out.bl hn)
                  replace hq := Lib.hid (hq.out.tr hn)
                  clear hn
                  refine hK.out _ _ ?_ (fun hHeld => ?_)
                  · exact (KX.out _ hq.out)
                  clear hK K
                  try simp only [List.getElem_toArray, List.getElem_cons_succ, List.getElem_cons_zero, Act.put, List.setIfInBounds_toArray, List.set_cons_zero, List.set_cons_succ]
                  refine wpAnyH_ready (rs := [22]) (by kernel_rfl) (by simp) ?_
                  refine AllReadyH.cons rfl (fun K hK => ?_) AllReadyH.nil
                  have hHeld' := hHeld
                  try dsimp only at hHeld'
                  go_split_ands
                  go_simp
                  have RW2 := row_any _ _ _ _ _ ff.out fe.out (by omega) (by omega)
                  rw [decide_eq_true rfl] at RW2
                  refine RW2.mono ?_
                  rintro e z10 ⟨rfl, hn⟩
                  replace hq := Lib.hid (hq.out.tr hn)
                  clear hn RW2
                  refine hK.out _ _ ?_ (fun hHeld => ?_)
                  · exact (KX.out _ hq.out)
                  clear hK K
                  try simp only [List.getElem_toArray, List.getElem_cons_succ, List.getElem_cons_zero, Act.put, List.setIfInBounds_toArray, List.set_cons_zero, List.set_cons_succ]
                  refine wpAnyH_take (i := 23) (v := ?v23_103) rfl (by kernel_rfl) (by kernel_rfl) (by kernel_rfl) (fun _ _ _ h => h) (Or.inl ⟨by rfl, ?y23_103⟩) hHeld ?r23_103
                  case y23_103 => (intro w hSw; (try dsimp only at hSw); go_split_ands; go_simp; try with_reducible rfl)
                  try simp only [List.getElem_toArray, List.getElem_cons_succ, List.getElem_cons_zero, Act.put, List.setIfInBounds_toArray, List.set_cons_zero, List.set_cons_succ]
                  refine wpAnyH_take (i := 24) (v := ?v24_104) rfl (by kernel_rfl) (by kernel_rfl) (by kernel_rfl) (fun _ _ _ h => h) (Or.inl ⟨by rfl, ?y24_104⟩) hHeld ?r24_104
                  case y24_104 => (intro w hSw; (try dsimp only at hSw); go_split_ands; go_simp; try with_reducible rfl)
                  try simp only [List.getElem_toArray, List.getElem_cons_succ, List.getElem_cons_zero, Act.put, List.setIfInBounds_toArray, List.set_cons_zero, List.set_cons_succ]
                  refine wpAnyH_take (i := 25) (v := ?v25_105) rfl (by kernel_rfl) (by kernel_rfl) (by kernel_rfl) (fun _ _ _ h => h) (Or.inl ⟨by rfl, ?y25_105⟩) hHeld ?r25_105
                  case y25_105 => (intro w hSw; (try dsimp only at hSw); go_split_ands; go_simp; try with_reducible rfl)
                  try simp only [List.getElem_toArray, List.getElem_cons_succ, List.getElem_cons_zero, Act.put, List.setIfInBounds_toArray, List.set_cons_zero, List.set_cons_succ]
                  refine wpAnyH_take (i := 28) (v := ?v28_106) rfl (by kernel_rfl) (by kernel_rfl) (by kernel_rfl) (fun _ _ _ h => h) (Or.inl ⟨by rfl, ?y28_106⟩) hHeld ?r28_106
                  case y28_106 => (intro w hSw; (try dsimp only at hSw); go_split_ands; go_simp; try with_reducible rfl)
                  try simp only [List.getElem_toArray, List.getElem_cons_succ, List.getElem_cons_zero, Act.put, List.setIfInBounds_toArray, List.set_cons_zero, List.set_cons_succ]
                  refine wpAnyH_take (i := 29) (v := ?v29_107) rfl (by kernel_rfl) (by kernel_rfl) (by kernel_rfl) (fun _ _ _ h => h) (Or.inl ⟨by rfl, ?y29_107⟩) hHeld ?r29_107
                  case y29_107 => (intro w hSw; (try dsimp only at hSw); go_split_ands; go_simp; try with_reducible rfl)
                  try simp only [List.getElem_toArray, List.getElem_cons_succ, List.getElem_cons_zero, Act.put, List.setIfInBounds_toArray, List.set_cons_zero, List.set_cons_succ]
                  refine wpAnyH_ready (rs := [26]) (by kernel_rfl) (by simp) ?_
                  refine AllReadyH.cons rfl (fun K hK => ?_) AllReadyH.nil
                  have hHeld' := hHeld
                  try dsimp only at hHeld'
                  go_split_ands
                  go_simp
                  refine (drop_any _ A _ [] _ (HA.out _ hq.out) (texts_nil _) (by omega) (by simp)).mono ?_
                  rintro e z11 ⟨x6, rfl, hx, hn⟩
                  have f6 := heads_own hx
                  rw [dropF_nil] at f6
                  obtain ⟨pa, pg, po, pc, rfl, -⟩ := f6
                  replace hq := Lib.hid (hq.out.tr hn)
                  clear hn hx
                  refine hK.out _ _ ?_ (fun hHeld => ?_)
                  · exact (KX.out _ hq.out)
                  clear hK K
                  try simp only [List.getElem_toArray, List.getElem_cons_succ, List.getElem_cons_zero, Act.put, List.setIfInBounds_toArray, List.set_cons_zero, List.set_cons_succ]
                  refine wpAnyH_take (i := 27) (v := ?v27_108) rfl (by kernel_rfl) (by kernel_rfl) (by kernel_rfl) (fun _ _ _ h => h) (Or.inl ⟨by rfl, ?y27_108⟩) hHeld ?r27_108
                  case y27_108 => (intro w hSw; (try dsimp only at hSw); go_split_ands; go_simp; try with_reducible rfl)
                  try simp only [List.getElem_toArray, List.getElem_cons_succ, List.getElem_cons_zero, Act.put, List.setIfInBounds_toArray, List.set_cons_zero, List.set_cons_succ]
                  refine wpAnyH_take (i := 30) (v := ?v30_109) rfl (by kernel_rfl) (by kernel_rfl) (by kernel_rfl) (fun _ _ _ h => h) (Or.inl ⟨by rfl, ?y30_109⟩) hHeld ?r30_109
                  case y30_109 => (intro w hSw; (try dsimp only at hSw); go_split_ands; go_simp; try with_reducible rfl)
                  try simp only [List.getElem_toArray, List.getElem_cons_succ, List.getElem_cons_zero, Act.put, List.setIfInBounds_toArray, List.set_cons_zero, List.set_cons_succ]
                  refine wpAnyH_take (i := 31) (v := ?v31_110) rfl (by kernel_rfl) (by kernel_rfl) (by kernel_rfl) (fun _ _ _ h => h) (Or.inl ⟨by rfl, ?y31_110⟩) hHeld ?r31_110
                  case y31_110 => (intro w hSw; (try dsimp only at hSw); go_split_ands; go_simp; try with_reducible rfl)
                  try simp only [List.getElem_toArray, List.getElem_cons_succ, List.getElem_cons_zero, Act.put, List.setIfInBounds_toArray, List.set_cons_zero, List.set_cons_succ]
                  refine wpAnyH_take (i := 32) (v := ?v32_111) rfl (by kernel_rfl) (by kernel_rfl) (by kernel_rfl) (fun _ _ _ h => h) (Or.inl ⟨by rfl, ?y32_111⟩) hHeld ?r32_111
                  case y32_111 => (intro w hSw; (try dsimp only at hSw); go_split_ands; go_simp; try with_reducible rfl)
                  try simp only [List.getElem_toArray, List.getElem_cons_succ, List.getElem_cons_zero, Act.put, List.setIfInBounds_toArray, List.set_cons_zero, List.set_cons_succ]
                  refine wpAnyH_ready (rs := [33]) (by kernel_rfl) (by simp) ?_
                  refine AllReadyH.cons rfl (fun K hK => ?_) AllReadyH.nil
                  have hHeld' := hHeld
                  try dsimp only at hHeld'
                  go_split_ands
                  go_simp
                  refine (LV.out _).mono ?_
                  rintro e z12 ⟨rfl, hn⟩
                  replace hq := Lib.hid (hq.out.tr hn)
                  clear hn
                  refine hK.out _ _ ?_ (fun hHeld => ?_)
                  · exact (KX.out _ hq.out)
                  clear hK K
                  try simp only [List.getElem_toArray, List.getElem_cons_succ, List.getElem_cons_zero, Act.put, List.setIfInBounds_toArray, List.set_cons_zero, List.set_cons_succ]
                  refine wpAnyH_take (i := 34) (v := ?v34_112) rfl (by kernel_rfl) (by kernel_rfl) (by kernel_rfl) (fun _ _ _ h => h) (Or.inl ⟨by rfl, ?y34_112⟩) hHeld ?r34_112
                  case y34_112 => (intro w hSw; (try dsimp only at hSw); go_split_ands; go_simp; try with_reducible rfl)
                  try simp only [List.getElem_toArray, List.getElem_cons_succ, List.getElem_cons_zero, Act.put, List.setIfInBounds_toArray, List.set_cons_zero, List.set_cons_succ]
                  refine wpAnyH_take (i := 35) (v := ?v35_113) rfl (by kernel_rfl) (by kernel_rfl) (by kernel_rfl) (fun _ _ _ h => h) (Or.inl ⟨by rfl, ?y35_113⟩) hHeld ?r35_113
                  case y35_113 => (intro w hSw; (try dsimp only at hSw); go_split_ands; go_simp; try with_reducible rfl)
                  try simp only [List.getElem_toArray, List.getElem_cons_succ, List.getElem_cons_zero, Act.put, List.setIfInBounds_toArray, List.set_cons_zero, List.set_cons_succ]
                  refine wpAnyH_done (by kernel_rfl) ?_ _
                  go_wp2_with fail
                  go_ret
                  exact ⟨rfl, hbz.out.tr hq.out⟩
                · have hHeld' := hHeld
                  try dsimp only at hHeld'
                  go_split_ands
                  go_simp
                  refine hK.out _ _ ?_ (fun hHeld => ?_)
                  · exact (KX.out _ (hq.out.al (.cells #[S on] 9)))
                  clear hK K
                  try simp only [List.getElem_toArray, List.getElem_cons_succ, List.getElem_cons_zero, Act.put, List.setIfInBounds_toArray, List.set_cons_zero, List.set_cons_succ]
                  have fd := texts_lit z6 on
                  have hn := (Bl.rfl' z6).al (.cells #[S on] 9)
                  obtain ⟨z7, hy⟩ : ∃ x, z6.alloc (.cells #[S on] 9) = x := ⟨_, rfl⟩
                  rw [hy] at hHeld fd hn ⊢
                  clear hy
                  replace fd := Lib.hid fd
                  replace fc := Lib.hid (fc.out.bl hn)
                  replace fa := Lib.hid (fa.out.bl hn)
                  replace fs := Lib.hid (fs.out.bl hn)
                  replace hq := Lib.hid (hq.out.tr hn)
                  clear hn
                  refine wpAnyH_ready (rs := [16]) (by kernel_rfl) (by simp) ?_
                  refine AllReadyH.cons rfl (fun K hK => ?_) AllReadyH.nil
                  have hHeld' := hHeld
                  try dsimp only at hHeld'
                  go_split_ands
                  go_simp
                  refine (drop_any _ (setP A [⟨on, ou⟩]) _ [on] _ fs.out fc.out (by omega) (by simp)).mono ?_
                  rintro e z8 ⟨xf, rfl, hx, hn⟩
                  have ff := heads_own hx
                  rw [hDS.out] at ff
                  replace ff := Lib.hid ff
                  clear hx
                  replace fc := Lib.hid (fc.out.bl hn)
                  replace fa := Lib.hid (fa.out.bl hn)
                  replace fs := Lib.hid (fs.out.bl hn)
                  replace fd := Lib.hid (fd.out.bl hn)
                  replace hq := Lib.hid (hq.out.tr hn)
                  clear hn
                  refine hK.out _ _ ?_ (fun hHeld => ?_)
                  · exact (KX.out _ hq.out)
                  clear hK K
                  try simp only [List.getElem_toArray, List.getElem_cons_succ, List.getElem_cons_zero, Act.put, List.setIfInBounds_toArray, List.set_cons_zero, List.set_cons_succ]
                  refine wpAnyH_ready (rs := [21]) (by kernel_rfl) (by simp) ?_
                  refine AllReadyH.cons rfl (fun K hK => ?_) AllReadyH.nil
                  have hHeld' := hHeld
                  try dsimp only at hHeld'
                  go_split_ands
                  go_simp
                  refine (drop_any _ A _ [on] _ (HA.out _ hq.out) fd.out (by omega) (by simp)).mono ?_
                  rintro e z9 ⟨xe, rfl, hx, hn⟩
                  have fe := Lib.hid (heads_own hx)
                  clear hx
                  replace fc := Lib.hid (fc.out.bl hn)
                  replace fa := Lib.hid (fa.out.bl hn)
                  replace fs := Lib.hid (fs.out.bl hn)
                  replace fd := Lib.hid (fd.out.bl hn)
                  replace ff := Lib.hid (ff.out.bl hn)
                  replace hq := Lib.hid (hq.out.tr hn)
                  clear hn
                  refine hK.out _ _ ?_ (fun hHeld => ?_)
                  · exact (KX.out _ hq.out)
                  clear hK K
                  try simp only [List.getElem_toArray, List.getElem_cons_succ, List.getElem_cons_zero, Act.put, List.setIfInBounds_toArray, List.set_cons_zero, List.set_cons_succ]
                  refine wpAnyH_ready (rs := [22]) (by kernel_rfl) (by simp) ?_
                  refine AllReadyH.cons rfl (fun K hK => ?_) AllReadyH.nil
                  have hHeld' := hHeld
                  try dsimp only at hHeld'
                  go_split_ands
                  go_simp
                  have RW2 := row_any _ _ _ _ _ ff.out fe.out (by omega) (by omega)
                  rw [decide_eq_true rfl] at RW2
                  refine RW2.mono ?_
                  rintro e z10 ⟨rfl, hn⟩
                  replace hq := Lib.hid (hq.out.tr hn)
                  clear hn RW2
                  refine hK.out _ _ ?_ (fun hHeld => ?_)
                  · exact (KX.out _ hq.out)
                  clear hK K
                  try simp only [List.getElem_toArray, List.getElem_cons_succ, List.getElem_cons_zero, Act.put, List.setIfInBounds_toArray, List.set_cons_zero, List.set_cons_succ]
                  refine wpAnyH_take (i := 23) (v := ?v23_114) rfl (by kernel_rfl) (by kernel_rfl) (by kernel_rfl) (fun _ _ _ h => h) (Or.inl ⟨by rfl, ?y23_114⟩) hHeld ?r23_114
                  case y23_114 => (intro w hSw; (try dsimp only at hSw); go_split_ands; go_simp; try with_reducible rfl)
                  try simp only [List.getElem_toArray, List.getElem_cons_succ, List.getElem_cons_zero, Act.put, List.setIfInBounds_toArray, List.set_cons_zero, List.set_cons_succ]
                  refine wpAnyH_take (i := 24) (v := ?v24_115) rfl (by kernel_rfl) (by kernel_rfl) (by kernel_rfl) (fun _ _ _ h => h) (Or.inl ⟨by rfl, ?y24_115⟩) hHeld ?r24_115
                  case y24_115 => (intro w hSw; (try dsimp only at hSw); go_split_ands; go_simp; try with_reducible rfl)
                  try simp only [List.getElem_toArray, List.getElem_cons_succ, List.getElem_cons_zero, Act.put, List.setIfInBounds_toArray, List.set_cons_zero, List.set_cons_succ]
                  refine wpAnyH_take (i := 25) (v := ?v25_116) rfl (by kernel_rfl) (by kernel_rfl) (by kernel_rfl) (fun _ _ _ h => h) (Or.inl ⟨by rfl, ?y25_116⟩) hHeld ?r25_116
                  case y25_116 => (intro w hSw; (try dsimp only at hSw); go_split_ands; go_simp; try with_reducible rfl)
                  try simp only [List.getElem_toArray, List.getElem_cons_succ, List.getElem_cons_zero, Act.put, List.setIfInBounds_toArray, List.set_cons_zero, List.set_cons_succ]
                  refine wpAnyH_take (i := 28) (v := ?v28_117) rfl (by kernel_rfl) (by kernel_rfl) (by kernel_rfl) (fun _ _ _ h => h) (Or.inl ⟨by rfl, ?y28_117⟩) hHeld ?r28_117
                  case y28_117 => (intro w hSw; (try dsimp only at hSw); go_split_ands; go_simp; try with_reducible rfl)
                  try simp only [List.getElem_toArray, List.getElem_cons_succ, List.getElem_cons_zero, Act.put, List.setIfInBounds_toArray, List.set_cons_zero, List.set_cons_succ]
                  refine wpAnyH_take (i := 29) (v := ?v29_118) rfl (by kernel_rfl) (by kernel_rfl) (by kernel_rfl) (fun _ _ _ h => h) (Or.inl ⟨by rfl, ?y29_118⟩) hHeld ?r29_118
                  case y29_118 => (intro w hSw; (try dsimp only at hSw); go_split_ands; go_simp; try with_reducible rfl)
                  try simp only [List.getElem_toArray, List.getElem_cons_succ, List.getElem_cons_zero, Act.put, List.setIfInBounds_toArray, List.set_cons_zero, List.set_cons_succ]
                  refine wpAnyH_ready (rs := [26]) (by kernel_rfl) (by simp) ?_
                  refine AllReadyH.cons rfl (fun K hK => ?_) AllReadyH.nil
                  have hHeld' := hHeld
                  try dsimp only at hHeld'
                  go_split_ands
                  go_simp
                  refine (drop_any _ A _ [] _ (HA.out _ hq.out) (texts_nil _) (by omega) (by simp)).mono ?_
                  rintro e z11 ⟨x6, rfl, hx, hn⟩
                  have f6 := heads_own hx
                  rw [dropF_nil] at f6
                  obtain ⟨pa, pg, po, pc, rfl, -⟩ := f6
                  replace hq := Lib.hid (hq.out.tr hn)
                  clear hn hx
                  refine hK.out _ _ ?_ (fun hHeld => ?_)
                  · exact (KX.out _ hq.out)
                  clear hK K
                  try simp only [List.getElem_toArray, List.getElem_cons_succ, List.getElem_cons_zero, Act.put, List.setIfInBounds_toArray, List.set_cons_zero, List.set_cons_succ]
                  refine wpAnyH_take (i := 27) (v := ?v27_119) rfl (by kernel_rfl) (by kernel_rfl) (by kernel_rfl) (fun _ _ _ h => h) (Or.inl ⟨by rfl, ?y27_119⟩) hHeld ?r27_119
                  case y27_119 => (intro w hSw; (try dsimp only at hSw); go_split_ands; go_simp; try with_reducible rfl)
                  try simp only [List.getElem_toArray, List.getElem_cons_succ, List.getElem_cons_zero, Act.put, List.setIfInBounds_toArray, List.set_cons_zero, List.set_cons_succ]
                  refine wpAnyH_take (i := 30) (v := ?v30_120) rfl (by kernel_rfl) (by kernel_rfl) (by kernel_rfl) (fun _ _ _ h => h) (Or.inl ⟨by rfl, ?y30_120⟩) hHeld ?r30_120
                  case y30_120 => (intro w hSw; (try dsimp only at hSw); go_split_ands; go_simp; try with_reducible rfl)
                  try simp only [List.getElem_toArray, List.getElem_cons_succ, List.getElem_cons_zero, Act.put, List.setIfInBounds_toArray, List.set_cons_zero, List.set_cons_succ]
                  refine wpAnyH_take (i := 31) (v := ?v31_121) rfl (by kernel_rfl) (by kernel_rfl) (by kernel_rfl) (fun _ _ _ h => h) (Or.inl ⟨by rfl, ?y31_121⟩) hHeld ?r31_121
                  case y31_121 => (intro w hSw; (try dsimp only at hSw); go_split_ands; go_simp; try with_reducible rfl)
                  try simp only [List.getElem_toArray, List.getElem_cons_succ, List.getElem_cons_zero, Act.put, List.setIfInBounds_toArray, List.set_cons_zero, List.set_cons_succ]
                  refine wpAnyH_take (i := 32) (v := ?v32_122) rfl (by kernel_rfl) (by kernel_rfl) (by kernel_rfl) (fun _ _ _ h => h) (Or.inl ⟨by rfl, ?y32_122⟩) hHeld ?r32_122
                  case y32_122 => (intro w hSw; (try dsimp only at hSw); go_split_ands; go_simp; try with_reducible rfl)
                  try simp only [List.getElem_toArray, List.getElem_cons_succ, List.getElem_cons_zero, Act.put, List.setIfInBounds_toArray, List.set_cons_zero, List.set_cons_succ]
                  refine wpAnyH_ready (rs := [33]) (by kernel_rfl) (by simp) ?_
                  refine AllReadyH.cons rfl (fun K hK => ?_) AllReadyH.nil
                  have hHeld' := hHeld
                  try dsimp only at hHeld'
                  go_split_ands
                  go_simp
                  refine (LV.out _).mono ?_
                  rintro e z12 ⟨rfl, hn⟩
                  replace hq := Lib.hid (hq.out.tr hn)
                  clear hn
                  refine hK.out _ _ ?_ (fun hHeld => ?_)
                  · exact (KX.out _ hq.out)
                  clear hK K
                  try simp only [List.getElem_toArray, List.getElem_cons_succ, List.getElem_cons_zero, Act.put, List.setIfInBounds_toArray, List.set_cons_zero, List.set_cons_succ]
                  refine wpAnyH_take (i := 34) (v := ?v34_123) rfl (by kernel_rfl) (by kernel_rfl) (by kernel_rfl) (fun _ _ _ h => h) (Or.inl ⟨by rfl, ?y34_123⟩) hHeld ?r34_123
                  case y34_123 => (intro w hSw; (try dsimp only at hSw); go_split_ands; go_simp; try with_reducible rfl)
                  try simp only [List.getElem_toArray, List.getElem_cons_succ, List.getElem_cons_zero, Act.put, List.setIfInBounds_toArray, List.set_cons_zero, List.set_cons_succ]
                  refine wpAnyH_take (i := 35) (v := ?v35_124) rfl (by kernel_rfl) (by kernel_rfl) (by kernel_rfl) (fun _ _ _ h => h) (Or.inl ⟨by rfl, ?y35_124⟩) hHeld ?r35_124
                  case y35_124 => (intro w hSw; (try dsimp only at hSw); go_split_ands; go_simp; try with_reducible rfl)
                  try simp only [List.getElem_toArray, List.getElem_cons_succ, List.getElem_cons_zero, Act.put, List.setIfInBounds_toArray, List.set_cons_zero, List.set_cons_succ]
                  refine wpAnyH_done (by kernel_rfl) ?_ _
                  go_wp2_with fail
                  go_ret
                  exact ⟨rfl, hbz.out.tr hq.out⟩
              · have hHeld' := hHeld
                try dsimp only at hHeld'
                go_split_ands
                go_simp
                refine hK.out _ _ ?_ (fun hHeld => ?_)
                · exact (KX.out _ (hq.out.al (.cells #[S on] 9)))
                clear hK K
                try simp only [List.getElem_toArray, List.getElem_cons_succ, List.getElem_cons_zero, Act.put, List.setIfInBounds_toArray, List.set_cons_zero, List.set_cons_succ]
                have fd := texts_lit z5 on
                have hn := (Bl.rfl' z5).al (.cells #[S on] 9)
                obtain ⟨z6, hy⟩ : ∃ x, z5.alloc (.cells #[S on] 9) = x := ⟨_, rfl⟩
                rw [hy] at hHeld fd hn ⊢
                clear hy
                replace fd := Lib.hid fd
                replace fc := Lib.hid (fc.out.bl hn)
                replace fa := Lib.hid (fa.out.bl hn)
                replace hq := Lib.hid (hq.out.tr hn)
                clear hn
                refine wpAnyH_ready (rs := [12]) (by kernel_rfl) (by simp) ?_
                refine AllReadyH.cons rfl (fun K hK => ?_) AllReadyH.nil
                have hHeld' := hHeld
                try dsimp only at hHeld'
                go_split_ands
                go_simp
                refine (set_any _ A _ [⟨on, ou⟩] _ (HA.out _ hq.out) fa.out (by omega) (by simp)).mono ?_
                rintro e z7 ⟨xs, rfl, hx, hn⟩
                have fs := Lib.hid (heads_own hx)
                clear hx
                replace fc := Lib.hid (fc.out.bl hn)
                replace fa := Lib.hid (fa.out.bl hn)
                replace fd := Lib.hid (fd.out.bl hn)
                replace hq := Lib.hid (hq.out.tr hn)
                clear hn
                refine hK.out _ _ ?_ (fun hHeld => ?_)
                · exact (KX.out _ hq.out)
                clear hK K
                try simp only [List.getElem_toArray, List.getElem_cons_succ, List.getElem_cons_zero, Act.put, List.setIfInBounds_toArray, List.set_cons_zero, List.set_cons_succ]
                refine wpAnyH_ready (rs := [16]) (by kernel_rfl) (by simp) ?_
                refine AllReadyH.cons rfl (fun K hK => ?_) AllReadyH.nil
                have hHeld' := hHeld
                try dsimp only at hHeld'
                go_split_ands
                go_simp
                refine (drop_any _ (setP A [⟨on, ou⟩]) _ [on] _ fs.out fc.out (by omega) (by simp)).mono ?_
                rintro e z8 ⟨xf, rfl, hx, hn⟩
                have ff := heads_own hx
                rw [hDS.out] at ff
                replace ff := Lib.hid ff
                clear hx
                replace fc := Lib.hid (fc.out.bl hn)
                replace fa := Lib.hid (fa.out.bl hn)
                replace fd := Lib.hid (fd.out.bl hn)
                replace fs := Lib.hid (fs.out.bl hn)
                replace hq := Lib.hid (hq.out.tr hn)
                clear hn
                refine hK.out _ _ ?_ (fun hHeld => ?_)
                · exact (KX.out _ hq.out)
                clear hK K
                try simp only [List.getElem_toArray, List.getElem_cons_succ, List.getElem_cons_zero, Act.put, List.setIfInBounds_toArray, List.set_cons_zero, List.set_cons_succ]
                refine wpAnyH_ready (rs := [21]) (by kernel_rfl) (by simp) ?_
                refine AllReadyH.cons rfl (fun K hK => ?_) AllReadyH.nil
                have hHeld' := hHeld
                try dsimp only at hHeld'
                go_split_ands
                go_simp
                refine (drop_any _ A _ [on] _ (HA.out _ hq.out) fd.out (by omega) (by simp)).mono ?_
                rintro e z9 ⟨xe, rfl, hx, hn⟩
                have fe := Lib.hid (heads_own hx)
                clear hx
                replace fc := Lib.hid (fc.out.bl hn)
                replace fa := Lib.hid (fa.out.bl hn)
                replace fd := Lib.hid (fd.out.bl hn)
                replace fs := Lib.hid (fs.out.bl hn)
                replace ff := Lib.hid (ff.out.bl hn)
                replace hq := Lib.hid (hq.out.tr hn)
                clear hn
                refine hK.out _ _ ?_ (fun hHeld => ?_)
                · exact (KX.out _ hq.out)
                clear hK K
                try simp only [List.getElem_toArray, List.getElem_cons_succ, List.getElem_cons_zero, Act.put, List.setIfInBounds_toArray, List.set_cons_zero, List.set_cons_succ]
                refine wpAnyH_ready (rs := [22]) (by kernel_rfl) (by simp) ?_
                refine AllReadyH.cons rfl (fun K hK => ?_) AllReadyH.nil
                have hHeld' := hHeld
                try dsimp only at hHeld'
                go_split_ands
                go_simp
                have RW2 := row_any _ _ _ _ _ ff.out fe.out (by omega) (by omega)
                rw [decide_eq_true rfl] at RW2
                refine RW2.mono ?_
                rintro e z10 ⟨rfl, hn⟩
                replace hq := Lib.hid (hq.out.tr hn)
                clear hn RW2
                refine hK.out _ _ ?_ (fun hHeld => ?_)
                · exact (KX.out _ hq.out)
                clear hK K
                try simp only [List.getElem_toArray, List.getElem_cons_succ, List.getElem_cons_zero, Act.put, List.setIfInBounds_toArray, List.set_cons_zero, List.set_cons_succ]
                refine wpAnyH_take (i := 23) (v := ?v23_125) rfl (by kernel_rfl) (by kernel_rfl) (by kernel_rfl) (fun _ _ _ h => h) (Or.inl ⟨by rfl, ?y23_125⟩) hHeld ?r23_125
                case y23_125 => (intro w hSw; (try dsimp only at hSw); go_split_ands; go_simp; try with_reducible rfl)
                try simp only [List.getElem_toArray, List.getElem_cons_succ, List.getElem_cons_zero, Act.put, List.setIfInBounds_toArray, List.set_cons_zero, List.set_cons_succ]
                refine wpAnyH_take (i := 24) (v := ?v24_126) rfl (by kernel_rfl) (by kernel_rfl) (by kernel_rfl) (fun _ _ _ h => h) (Or.inl ⟨by rfl, ?y24_126⟩) hHeld ?r24_126
                case y24_126 => (intro w hSw; (try dsimp only at hSw); go_split_ands; go_simp; try with_reducible rfl)
                try simp only [List.getElem_toArray, List.getElem_cons_succ, List.getElem_cons_zero, Act.put, List.setIfInBounds_toArray, List.set_cons_zero, List.set_cons_succ]
                refine wpAnyH_take (i := 25) (v := ?v25_127) rfl (by kernel_rfl) (by kernel_rfl) (by kernel_rfl) (fun _ _ _ h => h) (Or.inl ⟨by rfl, ?y25_127⟩) hHeld ?r25_127
                case y25_127 => (intro w hSw; (try dsimp only at hSw); go_split_ands; go_simp; try with_reducible rfl)
                try simp only [List.getElem_toArray, List.getElem_cons_succ, List.getElem_cons_zero, Act.put, List.setIfInBounds_toArray, List.set_cons_zero, List.set_cons_succ]
                refine wpAnyH_take (i := 28) (v := ?v28_128) rfl (by kernel_rfl) (by kernel_rfl) (by kernel_rfl) (fun _ _ _ h => h) (Or.inl ⟨by rfl, ?y28_128⟩) hHeld ?r28_128
                case y28_128 => (intro w hSw; (try dsimp only at hSw); go_split_ands; go_simp; try with_reducible rfl)
                try simp only [List.getElem_toArray, List.getElem_cons_succ, List.getElem_cons_zero, Act.put, List.setIfInBounds_toArray, List.set_cons_zero, List.set_cons_succ]
                refine wpAnyH_take (i := 29) (v := ?v29_129) rfl (by kernel_rfl) (by kernel_rfl) (by kernel_rfl) (fun _ _ _ h => h) (Or.inl ⟨by rfl, ?y29_129⟩) hHeld ?r29_129
                case y29_129 => (intro w hSw; (try dsimp only at hSw); go_split_ands; go_simp; try with_reducible rfl)
                try simp only [List.getElem_toArray, List.getElem_cons_succ, List.getElem_cons_zero, Act.put, List.setIfInBounds_toArray, List.set_cons_zero, List.set_cons_succ]
                refine wpAnyH_ready (rs := [26]) (by kernel_rfl) (by simp) ?_
                refine AllReadyH.cons rfl (fun K hK => ?_) AllReadyH.nil
                have hHeld' := hHeld
                try dsimp only at hHeld'
                go_split_ands
                go_simp
                refine (drop_any _ A _ [] _ (HA.out _ hq.out) (texts_nil _) (by omega) (by simp)).mono ?_
                rintro e z11 ⟨x6, rfl, hx, hn⟩
                have f6 := heads_own hx
                rw [dropF_nil] at f6
                obtain ⟨pa, pg, po, pc, rfl, -⟩ := f6
                replace hq := Lib.hid (hq.out.tr hn)
                clear hn hx
                refine hK.out _ _ ?_ (fun hHeld => ?_)
                · exact (KX.out _ hq.out)
                clear hK K
                try simp only [List.getElem_toArray, List.getElem_cons_succ, List.getElem_cons_zero, Act.put, List.setIfInBounds_toArray, List.set_cons_zero, List.set_cons_succ]
                refine wpAnyH_take (i := 27) (v := ?v27_130) rfl (by kernel_rfl) (by kernel_rfl) (by kernel_rfl) (fun _ _ _ h => h) (Or.inl ⟨by rfl, ?y27_130⟩) hHeld ?r27_130
                case y27_130 => (intro w hSw; (try dsimp only at hSw); go_split_ands; go_simp; try with_reducible rfl)
                try simp only [List.getElem_toArray, List.getElem_cons_succ, List.getElem_cons_zero, Act.put, List.setIfInBounds_toArray, List.set_cons_zero, List.set_cons_succ]
                refine wpAnyH_take (i := 30) (v := ?v30_131) rfl (by kernel_rfl) (by kernel_rfl) (by kernel_rfl) (fun _ _ _ h => h) (Or.inl ⟨by rfl, ?y30_131⟩) hHeld ?r30_131
                case y30_131 => (intro w hSw; (try dsimp only at hSw); go_split_ands; go_simp; try with_reducible rfl)
                try simp only [List.getElem_toArray, List.getElem_cons_succ, List.getElem_cons_zero, Act.put, List.setIfInBounds_toArray, List.set_cons_zero, List.set_cons_succ]
                refine wpAnyH_take (i := 31) (v := ?v31_132) rfl (by kernel_rfl) (by kernel_rfl) (by kernel_rfl) (fun _ _ _ h => h) (Or.inl ⟨by rfl, ?y31_132⟩) hHeld ?r31_132
                case y31_132 => (intro w hSw; (try dsimp only at hSw); go_split_ands; go_simp; try with_reducible rfl)
                try simp only [List.getElem_toArray, List.getElem_cons_succ, List.getElem_cons_zero, Act.put, List.setIfInBounds_toArray, List.set_cons_zero, List.set_cons_succ]
                refine wpAnyH_take (i := 32) (v := ?v32_133) rfl (by kernel_rfl) (by kernel_rfl) (by kernel_rfl) (fun _ _ _ h => h) (Or.inl ⟨by rfl, ?y32_133⟩) hHeld ?r32_133
                case y32_133 => (intro w hSw; (try dsimp only at hSw); go_split_ands; go_simp; try with_reducible rfl)
                try simp only [List.getElem_toArray, List.getElem_cons_succ, List.getElem_cons_zero, Act.put, List.setIfInBounds_toArray, List.set_cons_zero, List.set_cons_succ]
                refine wpAnyH_ready (rs := [33]) (by kernel_rfl) (by simp) ?_
                refine AllReadyH.cons rfl (fun K hK => ?_) AllReadyH.nil
                have hHeld' := hHeld
                try dsimp only at hHeld'
                go_split_ands
                go_simp
                refine (LV.out _).mono ?_
                rintro e z12 ⟨rfl, hn⟩
                replace hq := Lib.hid (hq.out.tr hn)
                clear hn
                refine hK.out _ _ ?_ (fun hHeld => ?_)
                · exact (KX.out _ hq.out)
                clear hK K
                try simp only [List.getElem_toArray, List.getElem_cons_succ, List.getElem_cons_zero, Act.put, List.setIfInBounds_toArray, List.set_cons_zero, List.set_cons_succ]
                refine wpAnyH_take (i := 34) (v := ?v34_134) rfl (by kernel_rfl) (by kernel_rfl) (by kernel_rfl) (fun _ _ _ h => h) (Or.inl ⟨by rfl, ?y34_134⟩) hHeld ?r34_134
                case y34_134 => (intro w hSw; (try dsimp only at hSw); go_split_ands; go_simp; try with_reducible rfl)
                try simp only [List.getElem_toArray, List.getElem_cons_succ, List.getElem_cons_zero, Act.put, List.setIfInBounds_toArray, List.set_cons_zero, List.set_cons_succ]
                refine wpAnyH_take (i := 35) (v := ?v35_135) rfl (by kernel_rfl) (by kernel_rfl) (by kernel_rfl) (fun _ _ _ h => h) (Or.inl ⟨by rfl, ?y35_135⟩) hHeld ?r35_135
                case y35_135 => (intro w hSw; (try dsimp only at hSw); go_split_ands; go_simp; try with_reducible rfl)
                try simp only [List.getElem_toArray, List.getElem_cons_succ, List.getElem_cons_zero, Act.put, List.setIfInBounds_toArray, List.set_cons_zero, List.set_cons_succ]
                refine wpAnyH_done (by kernel_rfl) ?_ _
                go_wp2_with fail
                go_ret
                exact ⟨rfl, hbz.out.tr hq.out⟩
            · have hHeld' := hHeld
              try dsimp only at hHeld'
              go_split_ands
              go_simp
              refine hK.out _ _ ?_ (fun hHeld => ?_)
              · exact (KX.out _ (hq.out.al (.cells #[S on] 9)))
              clear hK K
              try simp only [List.getElem_toArray, List.getElem_cons_succ, List.getElem_cons_zero, Act.put, List.setIfInBounds_toArray, List.set_cons_zero, List.set_cons_succ]
              have fd := texts_lit z4 on
              have hn := (Bl.rfl' z4).al (.cells #[S on] 9)
              obtain ⟨z5, hy⟩ : ∃ x, z4.alloc (.cells #[S on] 9) = x := ⟨_, rfl⟩
              rw [hy] at hHeld fd hn ⊢
              clear hy
              replace fd := Lib.hid fd
              replace fc := Lib.hid (fc.out.bl hn)
              replace hq := Lib.hid (hq.out.tr hn)
              clear hn
              refine wpAnyH_ready (rs := [11]) (by kernel_rfl) (by simp) ?_
              refine AllReadyH.cons rfl (fun K hK => ?_) AllReadyH.nil
              have hHeld' := hHeld
              try dsimp only at hHeld'
              go_split_ands
              go_simp
              refine hK.out _ _ ?_ (fun hHeld => ?_)
              · exact (KX.out _ (hq.out.al (.cells #[S on, S ou] 25)))
              clear hK K
              try simp only [List.getElem_toArray, List.getElem_cons_succ, List.getElem_cons_zero, Act.put, List.setIfInBounds_toArray, List.set_cons_zero, List.set_cons_succ]
              have fa := heads_lit z5 [⟨on, ou⟩] (by simp)
              have hn := (Bl.rfl' z5).al (.cells #[S on, S ou] 25)
              replace fa : HeadsAt (z5.alloc (.cells #[S on, S ou] 25)) (.slice (some ⟨z5.heap.size, 0, none⟩) 1 1) [⟨on, ou⟩] := fa
              obtain ⟨z6, hy⟩ : ∃ x, z5.alloc (.cells #[S on, S ou] 25) = x := ⟨_, rfl⟩
              rw [hy] at hHeld fa hn ⊢
              clear hy
              replace fa := Lib.hid fa
              replace fc := Lib.hid (fc.out.bl hn)
              replace fd := Lib.hid (fd.out.bl hn)
              replace hq := Lib.hid (hq.out.tr hn)
              clear hn
              refine wpAnyH_ready (rs := [12]) (by kernel_rfl) (by simp) ?_
              refine AllReadyH.cons rfl (fun K hK => ?_) AllReadyH.nil
              have hHeld' := hHeld
              try dsimp only at hHeld'
              go_split_ands
              go_simp
              refine (set_any _ A _ [⟨on, ou⟩] _ (HA.out _ hq.out) fa.out (by omega) (by simp)).mono ?_
              rintro e z7 ⟨xs, rfl, hx, hn⟩
              have fs := Lib.hid (heads_own hx)
              clear hx
              replace fc := Lib.hid (fc.out.bl hn)
              replace fd := Lib.hid (fd.out.bl hn)
              replace fa := Lib.hid (fa.out.bl hn)
              replace hq := Lib.hid (hq.out.tr hn)
              clear hn
              refine hK.out _ _ ?_ (fun hHeld => ?_)
              · exact (KX.out _ hq.out)
              clear hK K
              try simp only [List.getElem_toArray, List.getElem_cons_succ, List.getElem_cons_zero, Act.put, List.setIfInBounds_toArray, List.set_cons_zero, List.set_cons_succ]
              refine wpAnyH_ready (rs := [16]) (by kernel_rfl) (by simp) ?_
              refine AllReadyH.cons rfl (fun K hK => ?_) AllReadyH.nil
              have hHeld' := hHeld
              try dsimp only at hHeld'
              go_split_ands
              go_simp
              refine (drop_any _ (setP A [⟨on, ou⟩]) _ [on] _ fs.out fc.out (by omega) (by simp)).mono ?_
              rintro e z8 ⟨xf, rfl, hx, hn⟩
              have ff := heads_own hx
              rw [hDS.out] at ff
              replace ff := Lib.hid ff
              clear hx
              replace fc := Lib.hid (fc.out.bl hn)
              replace fd := Lib.hid (fd.out.bl hn)
              replace fa := Lib.hid (fa.out.bl hn)
              replace fs := Lib.hid (fs.out.bl hn)
              replace hq := Lib.hid (hq.out.tr hn)
              clear hn
              refine hK.out _ _ ?_ (fun hHeld => ?_)
              · exact (KX.out _ hq.out)
              clear hK K
              try simp only [List.getElem_toArray, List.getElem_cons_succ, List.getElem_cons_zero, Act.put, List.setIfInBounds_toArray, List.set_cons_zero, List.set_cons_succ]
              refine wpAnyH_ready (rs := [21]) (by kernel_rfl) (by simp) ?_
              refine AllReadyH.cons rfl (fun K hK => ?_) AllReadyH.nil
              have hHeld' := hHeld
              try dsimp only at hHeld'
              go_split_ands
              go_simp
              refine (drop_any _ A _ [on] _ (HA.out _ hq.out) fd.out (by omega) (by simp)).mono ?_
              rintro e z9 ⟨xe, rfl, hx, hn⟩
              have fe := Lib.hid (heads_own hx)
              clear hx
              replace fc := Lib.hid (fc.out.bl hn)
              replace fd := Lib.hid (fd.out.bl hn)
              replace fa := Lib.hid (fa.out.bl hn)
              replace fs := Lib.hid (fs.out.bl hn)
              replace ff := Lib.hid (ff.out.bl hn)
              replace hq := Lib.hid (hq.out.tr hn)
              clear hn
              refine hK.out _ _ ?_ (fun hHeld => ?_)
              · exact (KX.out _ hq.out)
              clear hK K
              try simp only [List.getElem_toArray, List.getElem_cons_succ, List.getElem_cons_zero, Act.put, List.setIfInBounds_toArray, List.set_cons_zero, List.set_cons_succ]
              refine wpAnyH_ready (rs := [22]) (by kernel_rfl) (by simp) ?_
              refine AllReadyH.cons rfl (fun K hK => ?_) AllReadyH.nil
              have hHeld' := hHeld
              try dsimp only at hHeld'
              go_split_ands
              go_simp
              have RW2 := row_any _ _ _ _ _ ff.out fe.out (by omega) (by omega)
              rw [decide_eq_true rfl] at RW2
              refine RW2.mono ?_
              rintro e z10 ⟨rfl, hn⟩
              replace hq := Lib.hid (hq.out.tr hn)
              clear hn RW2
              refine hK.out _ _ ?_ (fun hHeld => ?_)
              · exact (KX.out _ hq.out)
              clear hK K
              try simp only [List.getElem_toArray, List.getElem_cons_succ, List.getElem_cons_zero, Act.put, List.setIfInBounds_toArray, List.set_cons_zero, List.set_cons_succ]
              refine wpAnyH_take (i := 23) (v := ?v23_136) rfl (by kernel_rfl) (by kernel_rfl) (by kernel_rfl) (fun _ _ _ h => h) (Or.inl ⟨by rfl, ?y23_136⟩) hHeld ?r23_136
              case y23_136 => (intro w hSw; (try dsimp only at hSw); go_split_ands; go_simp; try with_reducible rfl)
              try simp only [List.getElem_toArray, List.getElem_cons_succ, List.getElem_cons_zero, Act.put, List.setIfInBounds_toArray, List.set_cons_zero, List.set_cons_succ]
              refine wpAnyH_take (i := 24) (v := ?v24_137) rfl (by kernel_rfl) (by kernel_rfl) (by kernel_rfl) (fun _ _ _ h => h) (Or.inl ⟨by rfl, ?y24_137⟩) hHeld ?r24_137
              case y24_137 => (intro w hSw; (try dsimp only at hSw); go_split_ands; go_simp; try with_reducible rfl)
              try simp only [List.getElem_toArray, List.getElem_cons_succ, List.getElem_cons_zero, Act.put, List.setIfInBounds_toArray, List.set_cons_zero, List.set_cons_succ]
              refine wpAnyH_take (i := 25) (v := ?v25_138) rfl (by kernel_rfl) (by kernel_rfl) (by kernel_rfl) (fun _ _ _ h => h) (Or.inl ⟨by rfl, ?y25_138⟩) hHeld ?r25_138
              case y25_138 => (intro w hSw; (try dsimp only at hSw); go_split_ands; go_simp; try with_reducible rfl)
              try simp only [List.getElem_toArray, List.getElem_cons_succ, List.getElem_cons_zero, Act.put, List.setIfInBounds_toArray, List.set_cons_zero, List.set_cons_succ]
              refine wpAnyH_take (i := 28) (v := ?v28_139) rfl (by kernel_rfl) (by kernel_rfl) (by kernel_rfl) (fun _ _ _ h => h) (Or.inl ⟨by rfl, ?y28_139⟩) hHeld ?r28_139
              case y28_139 => (intro w hSw; (try dsimp only at hSw); go_split_ands; go_simp; try with_reducible rfl)
              try simp only [List.getElem_toArray, List.getElem_cons_succ, List.getElem_cons_zero, Act.put, List.setIfInBounds_toArray, List.set_cons_zero, List.set_cons_succ]
              refine wpAnyH_take (i := 29) (v := ?v29_140) rfl (by kernel_rfl) (by kernel_rfl) (by kernel_rfl) (fun _ _ _ h => h) (Or.inl ⟨by rfl, ?y29_140⟩) hHeld ?r29_140
              case y29_140 => (intro w hSw; (try dsimp only at hSw); go_split_ands; go_simp; try with_reducible rfl)
              try simp only [List.getElem_toArray, List.getElem_cons_succ, List.getElem_cons_zero, Act.put, List.setIfInBounds_toArray, List.set_cons_zero, List.set_cons_succ]
              refine wpAnyH_ready (rs := [26]) (by kernel_rfl) (by simp) ?_
              refine AllReadyH.cons rfl (fun K hK => ?_) AllReadyH.nil
              have hHeld' := hHeld
              try dsimp only at hHeld'
              go_split_ands
              go_simp
              refine (drop_any _ A _ [] _ (HA.out _ hq.out) (texts_nil _) (by omega) (by simp)).mono ?_
              rintro e z11 ⟨x6, rfl, hx, hn⟩
              have f6 := heads_own hx
              rw [dropF_nil] at f6
              obtain ⟨pa, pg, po, pc, rfl, -⟩ := f6
              replace hq := Lib.hid (hq.out.tr hn)
              clear hn hx
              refine hK.out _ _ ?_ (fun hHeld => ?_)
              · exact (KX.out _ hq.out)
              clear hK K
              try simp only [List.getElem_toArray, List.getElem_cons_succ, List.getElem_cons_zero, Act.put, List.setIfInBounds_toArray, List.set_cons_zero, List.set_cons_succ]
              refine wpAnyH_take (i := 27) (v := ?v27_141) rfl (by kernel_rfl) (by kernel_rfl) (by kernel_rfl) (fun _ _ _ h => h) (Or.inl ⟨by rfl, ?y27_141⟩) hHeld ?r27_141
              case y27_141 => (intro w hSw; (try dsimp only at hSw); go_split_ands; go_simp; try with_reducible rfl)
              try simp only [List.getElem_toArray, List.getElem_cons_succ, List.getElem_cons_zero, Act.put, List.setIfInBounds_toArray, List.set_cons_zero, List.set_cons_succ]
              refine wpAnyH_take (i := 30) (v := ?v30_142) rfl (by kernel_rfl) (by kernel_rfl) (by kernel_rfl) (fun _ _ _ h => h) (Or.inl ⟨by rfl, ?y30_142⟩) hHeld ?r30_142
              case y30_142 => (intro w hSw; (try dsimp only at hSw); go_split_ands; go_simp; try with_reducible rfl)
              try simp only [List.getElem_toArray, List.getElem_cons_succ, List.getElem_cons_zero, Act.put, List.setIfInBounds_toArray, List.set_cons_zero, List.set_cons_succ]
              refine wpAnyH_take (i := 31) (v := ?v31_143) rfl (by kernel_rfl) (by kernel_rfl) (by kernel_rfl) (fun _ _ _ h => h) (Or.inl ⟨by rfl, ?y31_143⟩) hHeld ?r31_143
              case y31_143 => (intro w hSw; (try dsimp only at hSw); go_split_ands; go_simp; try with_reducible rfl)
              try simp only [List.getElem_toArray, List.getElem_cons_succ, List.getElem_cons_zero, Act.put, List.setIfInBounds_toArray, List.set_cons_zero, List.set_cons_succ]
              refine wpAnyH_take (i := 32) (v := ?v32_144) rfl (by kernel_rfl) (by kernel_rfl) (by kernel_rfl) (fun _ _ _ h => h) (Or.inl ⟨by rfl, ?y32_144⟩) hHeld ?r32_144
              case y32_144 => (intro w hSw; (try dsimp only at hSw); go_split_ands; go_simp; try with_reducible rfl)
              try simp only [List.getElem_toArray, List.getElem_cons_succ, List.getElem_cons_zero, Act.put, List.setIfInBounds_toArray, List.set_cons_zero, List.set_cons_succ]
              refine wpAnyH_ready (rs := [33]) (by kernel_rfl) (by simp) ?_
              refine AllReadyH.cons rfl (fun K hK => ?_) AllReadyH.nil
              have hHeld' := hHeld
              try dsimp only at hHeld'
              go_split_ands
              go_simp
              refine (LV.out _).mono ?_
              rintro e z12 ⟨rfl, hn⟩
              replace hq := Lib.hid (hq.out.tr hn)
              clear hn
              refine hK.out _ _ ?_ (fun hHeld => ?_)
              · exact (KX.out _ hq.out)
              clear hK K
              try simp only [List.getElem_toArray, List.getElem_cons_succ, List.getElem_cons_zero, Act.put, List.setIfInBounds_toArray, List.set_cons_zero, List.set_cons_succ]
              refine wpAnyH_take (i := 34) (v := ?v34_145) rfl (by kernel_rfl) (by kernel_rfl) (by kernel_rfl) (fun _ _ _ h => h) (Or.inl ⟨by rfl, ?y34_145⟩) hHeld ?r34_145
              case y34_145 => (intro w hSw; (try dsimp only at hSw); go_split_ands; go_simp; try with_reducible rfl)
              try simp only [List.getElem_toArray, List.getElem_cons_succ, List.getElem_cons_zero, Act.put, List.setIfInBounds_toArray, List.set_cons_zero, List.set_cons_succ]
              refine wpAnyH_take (i := 35) (v := ?v35_146) rfl (by kernel_rfl) (by kernel_rfl) (by kernel_rfl) (fun _ _ _ h => h) (Or.inl ⟨by rfl, ?y35_146⟩) hHeld ?r35_146
              case y35_146 => (intro w hSw; (try dsimp only at hSw); go_split_ands; go_simp; try with_reducible rfl)
              try simp only [List.getElem_toArray, List.getElem_cons_succ, List.getElem_cons_zero, Act.put, List.setIfInBounds_toArray, List.set_cons_zero, List.set_cons_succ]
              refine wpAnyH_done (by kernel_rfl) ?_ _
              go_wp2_with fail
              go_ret
              exact ⟨rfl, hbz.out.tr hq.out⟩
          · have hHeld' := hHeld
            try dsimp only at hHeld'
            go_split_ands
            go_simp
            refine hK.out _ _ ?_ (fun hHeld => ?_)
            · exact (KX.out _ (hq.out.al (.cells #[S on] 9)))
            clear hK K
            try simp only [List.getElem_toArray, List.getElem_cons_succ, List.getElem_cons_zero, Act.put, List.setIfInBounds_toArray, List.set_cons_zero, List.set_cons_succ]
            have fd := texts_lit z3 on
            have hn := (Bl.rfl' z3).al (.cells #[S on] 9)
            obtain ⟨z4, hy⟩ : ∃ x, z3.alloc (.cells #[S on] 9) = x := ⟨_, rfl⟩
            rw [hy] at hHeld fd hn ⊢
            clear hy
            replace fd := Lib.hid fd
            replace hq := Lib.hid (hq.out.tr hn)
            clear hn
            refine wpAnyH_ready (rs := [11, 15]) (by kernel_rfl) (by simp) ?_
            refine AllReadyH.cons rfl (fun K hK => ?_) (AllReadyH.cons rfl (fun K hK => ?_) (AllReadyH.nil))
            · have hHeld' := hHeld
              try dsimp only at hHeld'
              go_split_ands
              go_simp
              refine hK.out _ _ ?_ (fun hHeld => ?_)
              · exact (KX.out _ (hq.out.al (.cells #[S on, S ou] 25)))
              clear hK K
              try simp only [List.getElem_toArray, List.getElem_cons_succ, List.getElem_cons_zero, Act.put, List.setIfInBounds_toArray, List.set_cons_zero, List.set_cons_succ]
              have fa := heads_lit z4 [⟨on, ou⟩] (by simp)
              have hn := (Bl.rfl' z4).al (.cells #[S on, S ou] 25)
              replace fa : HeadsAt (z4.alloc (.cells #[S on, S ou] 25)) (.slice (some ⟨z4.heap.size, 0, none⟩) 1 1) [⟨on, ou⟩] := fa
              obtain ⟨z5, hy⟩ : ∃ x, z4.alloc (.cells #[S on, S ou] 25) = x := ⟨_, rfl⟩
              rw [hy] at hHeld fa hn ⊢
              clear hy
              replace fa := Lib.hid fa
              replace fd := Lib.hid (fd.out.bl hn)
              replace hq := Lib.hid (hq.out.tr hn)
              clear hn
              refine wpAnyH_ready (rs := [12, 15]) (by kernel_rfl) (by simp) ?_
              refine AllReadyH.cons rfl (fun K hK => ?_) (AllReadyH.cons rfl (fun K hK => ?_) (AllReadyH.nil))
              · have hHeld' := hHeld
                try dsimp only at hHeld'
                go_split_ands
                go_simp
                refine (set_any _ A _ [⟨on, ou⟩] _ (HA.out _ hq.out) fa.out (by omega) (by simp)).mono ?_
                rintro e z6 ⟨xs, rfl, hx, hn⟩
                have fs := Lib.hid (heads_own hx)
                clear hx
                replace fd := Lib.hid (fd.out.bl hn)
                replace fa := Lib.hid (fa.out.bl hn)
                replace hq := Lib.hid (hq.out.tr hn)
                clear hn
                refine hK.out _ _ ?_ (fun hHeld => ?_)
                · exact (KX.out _ hq.out)
                clear hK K
                try simp only [List.getElem_toArray, List.getElem_cons_succ, List.getElem_cons_zero, Act.put, List.setIfInBounds_toArray, List.set_cons_zero, List.set_cons_succ]
                refine wpAnyH_ready (rs := [15]) (by kernel_rfl) (by simp) ?_
                refine AllReadyH.cons rfl (fun K hK => ?_) AllReadyH.nil
                have hHeld' := hHeld
                try dsimp only at hHeld'
                go_split_ands
                go_simp
                refine hK.out _ _ ?_ (fun hHeld => ?_)
                · exact (KX.out _ (hq.out.al (.cells #[S on] 9)))
                clear hK K
                try simp only [List.getElem_toArray, List.getElem_cons_succ, List.getElem_cons_zero, Act.put, List.setIfInBounds_toArray, List.set_cons_zero, List.set_cons_succ]
                have fc := texts_lit z6 on
                have hn := (Bl.rfl' z6).al (.cells #[S on] 9)
                obtain ⟨z7, hy⟩ : ∃ x, z6.alloc (.cells #[S on] 9) = x := ⟨_, rfl⟩
                rw [hy] at hHeld fc hn ⊢
                clear hy
                replace fc := Lib.hid fc
                replace fd := Lib.hid (fd.out.bl hn)
                replace fa := Lib.hid (fa.out.bl hn)
                replace fs := Lib.hid (fs.out.bl hn)
                replace hq := Lib.hid (hq.out.tr hn)
                clear hn
                refine wpAnyH_ready (rs := [16]) (by kernel_rfl) (by simp) ?_
                refine AllReadyH.cons rfl (fun K hK => ?_) AllReadyH.nil
                have hHeld' := hHeld
                try dsimp only at hHeld'
                go_split_ands
                go_simp
                refine (drop_any _ (setP A [⟨on, ou⟩]) _ [on] _ fs.out fc.out (by omega) (by simp)).mono ?_
                rintro e z8 ⟨xf, rfl, hx, hn⟩
                have ff := heads_own hx
                rw [hDS.out] at ff
                replace ff := Lib.hid ff
                clear hx
                replace fd := Lib.hid (fd.out.bl hn)
                replace fa := Lib.hid (fa.out.bl hn)
                replace fs := Lib.hid (fs.out.bl hn)
                replace fc := Lib.hid (fc.out.bl hn)
                replace hq := Lib.hid (hq.out.tr hn)
                clear hn
                refine hK.out _ _ ?_ (fun hHeld => ?_)
                · exact (KX.out _ hq.out)
                clear hK K
                try simp only [List.getElem_toArray, List.getElem_cons_succ, List.getElem_cons_zero, Act.put, List.setIfInBounds_toArray, List.set_cons_zero, List.set_cons_succ]
                refine wpAnyH_ready (rs := [21]) (by kernel_rfl) (by simp) ?_
                refine AllReadyH.cons rfl (fun K hK => ?_) AllReadyH.nil
                have hHeld' := hHeld
                try dsimp only at hHeld'
                go_split_ands
                go_simp
                refine (drop_any _ A _ [on] _ (HA.out _ hq.out) fd.out (by omega) (by simp)).mono ?_
                rintro e z9 ⟨xe, rfl, hx, hn⟩
                have fe := Lib.hid (heads_own hx)
                clear hx
                replace fd := Lib.hid (fd.out.bl hn)
                replace fa := Lib.hid (fa.out.bl hn)
                replace fs := Lib.hid (fs.out.bl hn)
                replace fc := Lib.hid (fc.out.bl hn)
                replace ff := Lib.hid (ff.out.bl hn)
                replace hq := Lib.hid (hq.out.tr hn)
                clear hn
                refine hK.out _ _ ?_ (fun hHeld => ?_)
                · exact (KX.out _ hq.out)
                clear hK K
                try simp only [List.getElem_toArray, List.getElem_cons_succ, List.getElem_cons_zero, Act.put, List.setIfInBounds_toArray, List.set_cons_zero, List.set_cons_succ]
                refine wpAnyH_ready (rs := [22]) (by kernel_rfl) (by simp) ?_
                refine AllReadyH.cons rfl (fun K hK => ?_) AllReadyH.nil
                have hHeld' := hHeld
                try dsimp only at hHeld'
                go_split_ands
                go_simp
                have RW2 := row_any _ _ _ _ _ ff.out fe.out (by omega) (by omega)
                rw [decide_eq_true rfl] at RW2
                refine RW2.mono ?_
                rintro e z10 ⟨rfl, hn⟩
                replace hq := Lib.hid (hq.out.tr hn)
                clear hn RW2
                refine hK.out _ _ ?_ (fun hHeld => ?_)
                · exact (KX.out _ hq.out)
                clear hK K
                try simp only [List.getElem_toArray, List.getElem_cons_succ, List.getElem_cons_zero, Act.put, List.setIfInBounds_toArray, List.set_cons_zero, List.set_cons_succ]
                refine wpAnyH_take (i := 23) (v := ?v23_147) rfl (by kernel_rfl) (by kernel_rfl) (by kernel_rfl) (fun _ _ _ h => h) (Or.inl ⟨by rfl, ?y23_147⟩) hHeld ?r23_147
                case y23_147 => (intro w hSw; (try dsimp only at hSw); go_split_ands; go_simp; try with_reducible rfl)
                try simp only [List.getElem_toArray, List.getElem_cons_succ, List.getElem_cons_zero, Act.put, List.setIfInBounds_toArray, List.set_cons_zero, List.set_cons_succ]
                refine wpAnyH_take (i := 24) (v := ?v24_148) rfl (by kernel_rfl) (by kernel_rfl) (by kernel_rfl) (fun _ _ _ h => h) (Or.inl ⟨by rfl, ?y24_148⟩) hHeld ?r24_148
                case y24_148 => (intro w hSw; (try dsimp only at hSw); go_split_ands; go_simp; try with_reducible rfl)
                try simp only [List.getElem_toArray, List.getElem_cons_succ, List.getElem_cons_zero, Act.put, List.setIfInBounds_toArray, List.set_cons_zero, List.set_cons_succ]
                refine wpAnyH_take (i := 25) (v := ?v25_149) rfl (by kernel_rfl) (by kernel_rfl) (by kernel_rfl) (fun _ _ _ h => h) (Or.inl ⟨by rfl, ?y25_149⟩) hHeld ?r25_149
                case y25_149 => (intro w hSw; (try dsimp only at hSw); go_split_ands; go_simp; try with_reducible rfl)
                try simp only [List.getElem_toArray, List.getElem_cons_succ, List.getElem_cons_zero, Act.put, List.setIfInBounds_toArray, List.set_cons_zero, List.set_cons_succ]
                refine wpAnyH_take (i := 28) (v := ?v28_150) rfl (by kernel_rfl) (by kernel_rfl) (by kernel_rfl) (fun _ _ _ h => h) (Or.inl ⟨by rfl, ?y28_150⟩) hHeld ?r28_150
                case y28_150 => (intro w hSw; (try dsimp only at hSw); go_split_ands; go_simp; try with_reducible rfl)
                try simp only [List.getElem_toArray, List.getElem_cons_succ, List.getElem_cons_zero, Act.put, List.setIfInBounds_toArray, List.set_cons_zero, List.set_cons_succ]
                refine wpAnyH_take (i := 29) (v := ?v29_151) rfl (by kernel_rfl) (by kernel_rfl) (by kernel_rfl) (fun _ _ _ h => h) (Or.inl ⟨by rfl, ?y29_151⟩) hHeld ?r29_151
                case y29_151 => (intro w hSw; (try dsimp only at hSw); go_split_ands; go_simp; try with_reducible rfl)
                try simp only [List.getElem_toArray, List.getElem_cons_succ, List.getElem_cons_zero, Act.put, List.setIfInBounds_toArray, List.set_cons_zero, List.set_cons_succ]
                refine wpAnyH_ready (rs := [26]) (by kernel_rfl) (by simp) ?_
                refine AllReadyH.cons rfl (fun K hK => ?_) AllReadyH.nil
                have hHeld' := hHeld
                try dsimp only at hHeld'
                go_split_ands
                go_simp
                refine (drop_any _ A _ [] _ (HA.out _ hq.out) (texts_nil _) (by omega) (by simp)).mono ?_
                rintro e z11 ⟨x6, rfl, hx, hn⟩
                have f6 := heads_own hx
                rw [dropF_nil] at f6
                obtain ⟨pa, pg, po, pc, rfl, -⟩ := f6
                replace hq := Lib.hid (hq.out.tr hn)
                clear hn hx
                refine hK.out _ _ ?_ (fun hHeld => ?_)
                · exact (KX.out _ hq.out)
                clear hK K
                try simp only [List.getElem_toArray, List.getElem_cons_succ, List.getElem_cons_zero, Act.put, List.setIfInBounds_toArray, List.set_cons_zero, List.set_cons_succ]
                refine wpAnyH_take (i := 27) (v := ?v27_152) rfl (by kernel_rfl) (by kernel_rfl) (by kernel_rfl) (fun _ _ _ h => h) (Or.inl ⟨by rfl, ?y27_152⟩) hHeld ?r27_152
                case y27_152 => (intro w hSw; (try dsimp only at hSw); go_split_ands; go_simp; try with_reducible rfl)
                try simp only [List.getElem_toArray, List.getElem_cons_succ, List.getElem_cons_zero, Act.put, List.setIfInBounds_toArray, List.set_cons_zero, List.set_cons_succ]
                refine wpAnyH_take (i := 30) (v := ?v30_153) rfl (by kernel_rfl) (by kernel_rfl) (by kernel_rfl) (fun _ _ _ h => h) (Or.inl ⟨by rfl, ?y30_153⟩) hHeld ?r30_153
                case y30_153 => (intro w hSw; (try dsimp only at hSw); go_split_ands; go_simp; try with_reducible rfl)
                try simp only [List.getElem_toArray, List.getElem_cons_succ, List.getElem_cons_zero, Act.put, List.setIfInBounds_toArray, List.set_cons_zero, List.set_cons_succ]
                refine wpAnyH_take (i := 31) (v := ?v31_154) rfl (by kernel_rfl) (by kernel_rfl) (by kernel_rfl) (fun _ _ _ h => h) (Or.inl ⟨by rfl, ?y31_154⟩) hHeld ?r31_154
                case y31_154 => (intro w hSw; (try dsimp only at hSw); go_split_ands; go_simp; try with_reducible rfl)
                try simp only [List.getElem_toArray, List.getElem_cons_succ, List.getElem_cons_zero, Act.put, List.setIfInBounds_toArray, List.set_cons_zero, List.set_cons_succ]
                refine wpAnyH_take (i := 32) (v := ?v32_155) rfl (by kernel_rfl) (by kernel_rfl) (by kernel_rfl) (fun _ _ _ h => h) (Or.inl ⟨by rfl, ?y32_155⟩) hHeld ?r32_155
                case y32_155 => (intro w hSw; (try dsimp only at hSw); go_split_ands; go_simp; try with_reducible rfl)
                try simp only [List.getElem_toArray, List.getElem_cons_succ, List.getElem_cons_zero, Act.put, List.setIfInBounds_toArray, List.set_cons_zero, List.set_cons_succ]
                refine wpAnyH_ready (rs := [33]) (by kernel_rfl) (by simp) ?_
                refine AllReadyH.cons rfl (fun K hK => ?_) AllReadyH.nil
                have hHeld' := hHeld
                try dsimp only at hHeld'
                go_split_ands
                go_simp
                refine (LV.out _).mono ?_
                rintro e z12 ⟨rfl, hn⟩
                replace hq := Lib.hid (hq.out.tr hn)
                clear hn
                refine hK.out _ _ ?_ (fun hHeld => ?_)
                · exact (KX.out _ hq.out)
                clear hK K
                try simp only [List.getElem_toArray, List.getElem_cons_succ, List.getElem_cons_zero, Act.put, List.setIfInBounds_toArray, List.set_cons_zero, List.set_cons_succ]
                refine wpAnyH_take (i := 34) (v := ?v34_156) rfl (by kernel_rfl) (by kernel_rfl) (by kernel_rfl) (fun _ _ _ h => h) (Or.inl ⟨by rfl, ?y34_156⟩) hHeld ?r34_156
                case y34_156 => (intro w hSw; (try dsimp only at hSw); go_split_ands; go_simp; try with_reducible rfl)
                try simp only [List.getElem_toArray, List.getElem_cons_succ, List.getElem_cons_zero, Act.put, List.setIfInBounds_toArray, List.set_cons_zero, List.set_cons_succ]
                refine wpAnyH_take (i := 35) (v := ?v35_157) rfl (by kernel_rfl) (by kernel_rfl) (by kernel_rfl) (fun _ _ _ h => h) (Or.inl ⟨by rfl, ?y35_157⟩) hHeld ?r35_157
                case y35_157 => (intro w hSw; (try dsimp only at hSw); go_split_ands; go_simp; try with_reducible rfl)
                try simp only [List.getElem_toArray, List.getElem_cons_succ, List.getElem_cons_zero, Act.put, List.setIfInBounds_toArray, List.set_cons_zero, List.set_cons_succ]
                refine wpAnyH_done (by kernel_rfl) ?_ _
                go_wp2_with fail
                go_ret
                exact ⟨rfl, hbz.out.tr hq.out⟩
              · have hHeld' := hHeld
                try dsimp only at hHeld'
                go_split_ands
                go_simp
                refine hK.out _ _ ?_ (fun hHeld => ?_)
                · exact (KX.out _ (hq.out.al (.cells #[S on] 9)))
                clear hK K
                try simp only [List.getElem_toArray, List.getElem_cons_succ, List.getElem_cons_zero, Act.put, List.setIfInBounds_toArray, List.set_cons_zero, List.set_cons_succ]
                have fc := texts_lit z5 on
                have hn := (Bl.rfl' z5).al (.cells #[S on] 9)
                obtain ⟨z6, hy⟩ : ∃ x, z5.alloc (.cells #[S on] 9) = x := ⟨_, rfl⟩
                rw [hy] at hHeld fc hn ⊢
                clear hy
                replace fc := Lib.hid fc
                replace fd := Lib.hid (fd.out.bl hn)
                replace fa := Lib.hid (fa.out.bl hn)
                replace hq := Lib.hid (hq.out.tr hn)
                clear hn
                refine wpAnyH_ready (rs := [12]) (by kernel_rfl) (by simp) ?_
                refine AllReadyH.cons rfl (fun K hK => ?_) AllReadyH.nil
                have hHeld' := hHeld
                try dsimp only at hHeld'
                go_split_ands
                go_simp
                refine (set_any _ A _ [⟨on, ou⟩] _ (HA.out _ hq.out) fa.out (by omega) (by simp)).mono ?_
                rintro e z7 ⟨xs, rfl, hx, hn⟩
                have fs := Lib.hid (heads_own hx)
                clear hx
                replace fd := Lib.hid (fd.out.bl hn)
                replace fa := Lib.hid (fa.out.bl hn)
                replace fc := Lib.hid (fc.out.bl hn)
                replace hq := Lib.hid (hq.out.tr hn)
                clear hn
                refine hK.out _ _ ?_ (fun hHeld => ?_)
                · exact (KX.out _ hq.out)
                clear hK K
                try simp only [List.getElem_toArray, List.getElem_cons_succ, List.getElem_cons_zero, Act.put, List.setIfInBounds_toArray, List.set_cons_zero, List.set_cons_succ]
                refine wpAnyH_ready (rs := [16]) (by kernel_rfl) (by simp) ?_
                refine AllReadyH.cons rfl (fun K hK => ?_) AllReadyH.nil
                have hHeld' := hHeld
                try dsimp only at hHeld'
                go_split_ands
                go_simp
                refine (drop_any _ (setP A [⟨on, ou⟩]) _ [on] _ fs.out fc.out (by omega) (by simp)).mono ?_
                rintro e z8 ⟨xf, rfl, hx, hn⟩
                have ff := heads_own hx
                rw [hDS.out] at ff
                replace ff := Lib.hid ff
                clear hx
                replace fd := Lib.hid (fd.out.bl hn)
                replace fa := Lib.hid (fa.out.bl hn)
                replace fc := Lib.hid (fc.out.bl hn)
                replace fs := Lib.hid (fs.out.bl hn)
                replace hq := Lib.hid (hq.out.tr hn)
                clear hn
                refine hK.out _ _ ?_ (fun hHeld => ?_)
                · exact (KX.out _ hq.out)
                clear hK K
                try simp only [List.getElem_toArray, List.getElem_cons_succ, List.getElem_cons_zero, Act.put, List.setIfInBounds_toArray, List.set_cons_zero, List.set_cons_succ]
                refine wpAnyH_ready (rs := [21]) (by kernel_rfl) (by simp) ?_
                refine AllReadyH.cons rfl (fun K hK => ?_) AllReadyH.nil
                have hHeld' := hHeld
                try dsimp only at hHeld'
                go_split_ands
                go_simp
                refine (drop_any _ A _ [on] _ (HA.out _ hq.out) fd.out (by omega) (by simp)).mono ?_
                rintro e z9 ⟨xe, rfl, hx, hn⟩
                have fe := Lib.hid (heads_own hx)
                clear hx
                replace fd := Lib.hid (fd.out.bl hn)
                replace fa := Lib.hid (fa.out.bl hn)
                replace fc := Lib.hid (fc.out.bl hn)
                replace fs := Lib.hid (fs.out.bl hn)
                replace ff := Lib.hid (ff.out.bl hn)
                replace hq := Lib.hid (hq.out.tr hn)
                clear hn
                refine hK.out _ _ ?_ (fun hHeld => ?_)
                · exact (KX.out _ hq.out)
                clear hK K
                try simp only [List.getElem_toArray, List.getElem_cons_succ, List.getElem_cons_zero, Act.put, List.setIfInBounds_toArray, List.set_cons_zero, List.set_cons_succ]
                refine wpAnyH_ready (rs := [22]) (by kernel_rfl) (by simp) ?_
                refine AllReadyH.cons rfl (fun K hK => ?_) AllReadyH.nil
                have hHeld' := hHeld
                try dsimp only at hHeld'
                go_split_ands
                go_simp
                have RW2 := row_any _ _ _ _ _ ff.out fe.out (by omega) (by omega)
                rw [decide_eq_true rfl] at RW2
                refine RW2.mono ?_
                rintro e z10 ⟨rfl, hn⟩
                replace hq := Lib.hid (hq.out.tr hn)
                clear hn RW2
                refine hK.out _ _ ?_ (fun hHeld => ?_)
                · exact (KX.out _ hq.out)
                clear hK K
                try simp only [List.getElem_toArray, List.getElem_cons_succ, List.getElem_cons_zero, Act.put, List.setIfInBounds_toArray, List.set_cons_zero, List.set_cons_succ]
                refine wpAnyH_take (i := 23) (v := ?v23_158) rfl (by kernel_rfl) (by kernel_rfl) (by kernel_rfl) (fun _ _ _ h => h) (Or.inl ⟨by rfl, ?y23_158⟩) hHeld ?r23_158
                case y23_158 => (intro w hSw; (try dsimp only at hSw); go_split_ands; go_simp; try with_reducible rfl)
                try simp only [List.getElem_toArray, List.getElem_cons_succ, List.getElem_cons_zero, Act.put, List.setIfInBounds_toArray, List.set_cons_zero, List.set_cons_succ]
                refine wpAnyH_take (i := 24) (v := ?v24_159) rfl (by kernel_rfl) (by kernel_rfl) (by kernel_rfl) (fun _ _ _ h => h) (Or.inl ⟨by rfl, ?y24_159⟩) hHeld ?r24_159
                case y24_159 => (intro w hSw; (try dsimp only at hSw); go_split_ands; go_simp; try with_reducible rfl)
                try simp only [List.getElem_toArray, List.getElem_cons_succ, List.getElem_cons_zero, Act.put, List.setIfInBounds_toArray, List.set_cons_zero, List.set_cons_succ]
                refine wpAnyH_take (i := 25) (v := ?v25_160) rfl (by kernel_rfl) (by kernel_rfl) (by kernel_rfl) (fun _ _ _ h => h) (Or.inl ⟨by rfl, ?y25_160⟩) hHeld ?r25_160
                case y25_160 => (intro w hSw; (try dsimp only at hSw); go_split_ands; go_simp; try with_reducible rfl)
                try simp only [List.getElem_toArray, List.getElem_cons_succ, List.getElem_cons_zero, Act.put, List.setIfInBounds_toArray, List.set_cons_zero, List.set_cons_succ]
                refine wpAnyH_take (i := 28) (v := ?v28_161) rfl (by kernel_rfl) (by kernel_rfl) (by kernel_rfl) (fun _ _ _ h => h) (Or.inl ⟨by rfl, ?y28_161⟩) hHeld ?r28_161
                case y28_161 => (intro w hSw; (try dsimp only at hSw); go_split_ands; go_simp; try with_reducible rfl)
                try simp only [List.getElem_toArray, List.getElem_cons_succ, List.getElem_cons_zero, Act.put, List.setIfInBounds_toArray, List.set_cons_zero, List.set_cons_succ]
                refine wpAnyH_take (i := 29) (v := ?v29_162) rfl (by kernel_rfl) (by kernel_rfl) (by kernel_rfl) (fun _ _ _ h => h) (Or.inl ⟨by rfl, ?y29_162⟩) hHeld ?r29_162
                case y29_162 => (intro w hSw; (try dsimp only at hSw); go_split_ands; go_simp; try with_reducible rfl)
                try simp only [List.getElem_toArray, List.getElem_cons_succ, List.getElem_cons_zero, Act.put, List.setIfInBounds_toArray, List.set_cons_zero, List.set_cons_succ]
                refine wpAnyH_ready (rs := [26]) (by kernel_rfl) (by simp) ?_
                refine AllReadyH.cons rfl (fun K hK => ?_) AllReadyH.nil
                have hHeld' := hHeld
                try dsimp only at hHeld'
                go_split_ands
                go_simp
                refine (drop_any _ A _ [] _ (HA.out _ hq.out) (texts_nil _) (by omega) (by simp)).mono ?_
                rintro e z11 ⟨x6, rfl, hx, hn⟩
                have f6 := heads_own hx
                rw [dropF_nil] at f6
                obtain ⟨pa, pg, po, pc, rfl, -⟩ := f6
                replace hq := Lib.hid (hq.out.tr hn)
                clear hn hx
                refine hK.out _ _ ?_ (fun hHeld => ?_)
                · exact (KX.out _ hq.out)
                clear hK K
                try simp only [List.getElem_toArray, List.getElem_cons_succ, List.getElem_cons_zero, Act.put, List.setIfInBounds_toArray, List.set_cons_zero, List.set_cons_succ]
                refine wpAnyH_take (i := 27) (v := ?v27_163) rfl (by kernel_rfl) (by kernel_rfl) (by kernel_rfl) (fun _ _ _ h => h) (Or.inl ⟨by rfl, ?y27_163⟩) hHeld ?r27_163
                case y27_163 => (intro w hSw; (try dsimp only at hSw); go_split_ands; go_simp; try with_reducible rfl)
                try simp only [List.getElem_toArray, List.getElem_cons_succ, List.getElem_cons_zero, Act.put, List.setIfInBounds_toArray, List.set_cons_zero, List.set_cons_succ]
                refine wpAnyH_take (i := 30) (v := ?v30_164) rfl (by kernel_rfl) (by kernel_rfl) (by kernel_rfl) (fun _ _ _ h => h) (Or.inl ⟨by rfl, ?y30_164⟩) hHeld ?r30_164
                case y30_164 => (intro w hSw; (try dsimp only at hSw); go_split_ands; go_simp; try with_reducible rfl)
                try simp only [List.getElem_toArray, List.getElem_cons_succ, List.getElem_cons_zero, Act.put, List.setIfInBounds_toArray, List.set_cons_zero, List.set_cons_succ]
                refine wpAnyH_take (i := 31) (v := ?v31_165) rfl (by kernel_rfl) (by kernel_rfl) (by kernel_rfl) (fun _ _ _ h => h) (Or.inl ⟨by rfl, ?y31_165⟩) hHeld ?r31_165
                case y31_165 => (intro w hSw; (try dsimp only at hSw); go_split_ands; go_simp; try with_reducible rfl)
                try simp only [List.getElem_toArray, List.getElem_cons_succ, List.getElem_cons_zero, Act.put, List.setIfInBounds_toArray, List.set_cons_zero, List.set_cons_succ]
                refine wpAnyH_take (i := 32) (v := ?v32_166) rfl (by kernel_rfl) (by kernel_rfl) (by kernel_rfl) (fun _ _ _ h => h) (Or.inl ⟨by rfl, ?y32_166⟩) hHeld ?r32_166
                case y32_166 => (intro w hSw; (try dsimp only at hSw); go_split_ands; go_simp; try with_reducible rfl)
                try simp only [List.getElem_toArray, List.getElem_cons_succ, List.getElem_cons_zero, Act.put, List.setIfInBounds_toArray, List.set_cons_zero, List.set_cons_succ]
                refine wpAnyH_ready (rs := [33]) (by kernel_rfl) (by simp) ?_
                refine AllReadyH.cons rfl (fun K hK => ?_) AllReadyH.nil
                have hHeld' := hHeld
                try dsimp only at hHeld'
                go_split_ands
                go_simp
                refine (LV.out _).mono ?_
                rintro e z12 ⟨rfl, hn⟩
                replace hq := Lib.hid (hq.out.tr hn)
                clear hn
                refine hK.out _ _ ?_ (fun hHeld => ?_)
                · exact (KX.out _ hq.out)
                clear hK K
                try simp only [List.getElem_toArray, List.getElem_cons_succ, List.getElem_cons_zero, Act.put, List.setIfInBounds_toArray, List.set_cons_zero, List.set_cons_succ]
                refine wpAnyH_take (i := 34) (v := ?v34_167) rfl (by kernel_rfl) (by kernel_rfl) (by kernel_rfl) (fun _ _ _ h => h) (Or.inl ⟨by rfl, ?y34_167⟩) hHeld ?r34_167
                case y34_167 => (intro w hSw; (try dsimp only at hSw); go_split_ands; go_simp; try with_reducible rfl)
                try simp only [List.getElem_toArray, List.getElem_cons_succ, List.getElem_cons_zero, Act.put, List.setIfInBounds_toArray, List.set_cons_zero, List.set_cons_succ]
                refine wpAnyH_take (i := 35) (v := ?v35_168) rfl (by kernel_rfl) (by kernel_rfl) (by kernel_rfl) (fun _ _ _ h => h) (Or.inl ⟨by rfl, ?y35_168⟩) hHeld ?r35_168
                case y35_168 => (intro w hSw; (try dsimp only at hSw); go_split_ands; go_simp; try with_reducible rfl)
                try simp only [List.getElem_toArray, List.getElem_cons_succ, List.getElem_cons_zero, Act.put, List.setIfInBounds_toArray, List.set_cons_zero, List.set_cons_succ]
                refine wpAnyH_done (by kernel_rfl) ?_ _
                go_wp2_with fail
                go_ret
                exact ⟨rfl, hbz.out.tr hq.out⟩
            · have hHeld' := hHeld
              try dsimp only at hHeld'
              go_split_ands
              go_simp
              refine hK.out _ _ ?_ (fun hHeld => ?_)
              · exact (KX.out _ (hq.out.al (.cells #[S on] 9)))
              clear hK K
              try simp only [List.getElem_toArray, List.getElem_cons_succ, List.getElem_cons_zero, Act.put, List.setIfInBounds_toArray, List.set_cons_zero, List.set_cons_succ]
              have fc := texts_lit z4 on
              have hn := (Bl.rfl' z4).al (.cells #[S on] 9)
              obtain ⟨z5, hy⟩ : ∃ x, z4.alloc (.cells #[S on] 9) = x := ⟨_, rfl⟩
              rw [hy] at hHeld fc hn ⊢
              clear hy
              replace fc := Lib.hid fc
              replace fd := Lib.hid (fd.out.bl hn)
              replace hq := Lib.hid (hq.out.tr hn)
              clear hn
              refine wpAnyH_ready (rs := [11]) (by kernel_rfl) (by simp) ?_
              refine AllReadyH.cons rfl (fun K hK => ?_) AllReadyH.nil
              have hHeld' := hHeld
              try dsimp only at hHeld'
              go_split_ands
              go_simp
              refine hK.out _ _ ?_ (fun hHeld => ?_)
              · exact (KX.out _ (hq.out.al (.cells #[S on, S ou] 25)))
              clear hK K
              try simp only [List.getElem_toArray, List.getElem_cons_succ, List.getElem_cons_zero, Act.put, List.setIfInBounds_toArray, List.set_cons_zero, List.set_cons_succ]
              have fa := heads_lit z5 [⟨on, ou⟩] (by simp)
              have hn := (Bl.rfl' z5).al (.cells #[S on, S ou] 25)
              replace fa : HeadsAt (z5.alloc (.cells #[S on, S ou] 25)) (.slice (some ⟨z5.heap.size, 0, none⟩) 1 1) [⟨on, ou⟩] := fa
              obtain ⟨z6, hy⟩ : ∃ x, z5.alloc (.cells #[S on, S ou] 25) = x := ⟨_, rfl⟩
              rw [hy] at hHeld fa hn ⊢
              clear hy
              replace fa := Lib.hid fa
              replace fd := Lib.hid (fd.out.bl hn)
              replace fc := Lib.hid (fc.out.bl hn)
              replace hq := Lib.hid (hq.out.tr hn)
              clear hn
              refine wpAnyH_ready (rs := [12]) (by kernel_rfl) (by simp) ?_
              refine AllReadyH.cons rfl (fun K hK => ?_) AllReadyH.nil
              have hHeld' := hHeld
              try dsimp only at hHeld'
              go_split_ands
              go_simp
              refine (set_any _ A _ [⟨on, ou⟩] _ (HA.out _ hq.out) fa.out (by omega) (by simp)).mono ?_
              rintro e z7 ⟨xs, rfl, hx, hn⟩
              have fs := Lib.hid (heads_own hx)
              clear hx
              replace fd := Lib.hid (fd.out.bl hn)
              replace fc := Lib.hid (fc.out.bl hn)
              replace fa := Lib.hid (fa.out.bl hn)
              replace hq := Lib.hid (hq.out.tr hn)
              clear hn
              refine hK.out _ _ ?_ (fun hHeld => ?_)
              · exact (KX.out _ hq.out)
              clear hK K
              try simp only [List.getElem_toArray, List.getElem_cons_succ, List.getElem_cons_zero, Act.put, List.setIfInBounds_toArray, List.set_cons_zero, List.set_cons_succ]
              refine wpAnyH_ready (rs := [16]) (by kernel_rfl) (by simp) ?_
              refine AllReadyH.cons rfl (fun K hK => ?_) AllReadyH.nil
              have hHeld' := hHeld
              try dsimp only at hHeld'
              go_split_ands
              go_simp
              refine (drop_any _ (setP A [⟨on, ou⟩]) _ [on] _ fs.out fc.out (by omega) (by simp)).mono ?_
              rintro e z8 ⟨xf, rfl, hx, hn⟩
              have ff := heads_own hx
              rw [hDS.out] at ff
              replace ff := Lib.hid ff
              clear hx
              replace fd := Lib.hid (fd.out.bl hn)
              replace fc := Lib.hid (fc.out.bl hn)
              replace fa := Lib.hid (fa.out.bl hn)
              replace fs := Lib.hid (fs.out.bl hn)
              replace hq := Lib.hid (hq.out.tr hn)
              clear hn
              refine hK.out _ _ ?_ (fun hHeld => ?_)
              · exact (KX.out _ hq.out)
              clear hK K
              try simp only [List.getElem_toArray, List.getElem_cons_succ, List.getElem_cons_zero, Act.put, List.setIfInBounds_toArray, List.set_cons_zero, List.set_cons_succ]
              refine wpAnyH_ready (rs := [21]) (by kernel_rfl) (by simp) ?_
              refine AllReadyH.cons rfl (fun K hK => ?_) AllReadyH.nil
              have hHeld' := hHeld
              try dsimp only at hHeld'
              go_split_ands
              go_simp
              refine (drop_any _ A _ [on] _ (HA.out _ hq.out) fd.out (by omega) (by simp)).mono ?_
              rintro e z9 ⟨xe, rfl, hx, hn⟩
              have fe := Lib.hid (heads_own hx)
              clear hx
              replace fd := Lib.hid (fd.out.bl hn)
              replace fc := Lib.hid (fc.out.bl hn)
              replace fa := Lib.hid (fa.out.bl hn)
              replace fs := Lib.hid (fs.out.bl hn)
              replace ff := Lib.hid (ff.out.bl hn)
              replace hq := Lib.hid (hq.out.tr hn)
              clear hn
              refine hK.out _ _ ?_ (fun hHeld => ?_)
              · exact (KX.out _ hq.out)
              clear hK K
              try simp only [List.getElem_toArray, List.getElem_cons_succ, List.getElem_cons_zero, Act.put, List.setIfInBounds_toArray, List.set_cons_zero, List.set_cons_succ]
              refine wpAnyH_ready (rs := [22]) (by kernel_rfl) (by simp) ?_
              refine AllReadyH.cons rfl (fun K hK => ?_) AllReadyH.nil
              have hHeld' := hHeld
              try dsimp only at hHeld'
              go_split_ands
              go_simp
              have RW2 := row_any _ _ _ _ _ ff.out fe.out (by omega) (by omega)
              rw [decide_eq_true rfl] at RW2
              refine RW2.mono ?_
              rintro e z10 ⟨rfl, hn⟩
              replace hq := Lib.hid (hq.out.tr hn)
              clear hn RW2
              refine hK.out _ _ ?_ (fun hHeld => ?_)
              · exact (KX.out _ hq.out)
              clear hK K
              try simp only [List.getElem_toArray, List.getElem_cons_succ, List.getElem_cons_zero, Act.put, List.setIfInBounds_toArray, List.set_cons_zero, List.set_cons_succ]
              refine wpAnyH_take (i := 23) (v := ?v23_169) rfl (by kernel_rfl) (by kernel_rfl) (by kernel_rfl) (fun _ _ _ h => h) (Or.inl ⟨by rfl, ?y23_169⟩) hHeld ?r23_169
              case y23_169 => (intro w hSw; (try dsimp only at hSw); go_split_ands; go_simp; try with_reducible rfl)
              try simp only [List.getElem_toArray, List.getElem_cons_succ, List.getElem_cons_zero, Act.put, List.setIfInBounds_toArray, List.set_cons_zero, List.set_cons_succ]
              refine wpAnyH_take (i := 24) (v := ?v24_170) rfl (by kernel_rfl) (by kernel_rfl) (by kernel_rfl) (fun _ _ _ h => h) (Or.inl ⟨by rfl, ?y24_170⟩) hHeld ?r24_170
              case y24_170 => (intro w hSw; (try dsimp only at hSw); go_split_ands; go_simp; try with_reducible rfl)
              try simp only [List.getElem_toArray, List.getElem_cons_succ, List.getElem_cons_zero, Act.put, List.setIfInBounds_toArray, List.set_cons_zero, List.set_cons_succ]
              refine wpAnyH_take (i := 25) (v := ?v25_171) rfl (by kernel_rfl) (by kernel_rfl) (by kernel_rfl) (fun _ _ _ h => h) (Or.inl ⟨by rfl, ?y25_171⟩) hHeld ?r25_171
              case y25_171 => (intro w hSw; (try dsimp only at hSw); go_split_ands; go_simp; try with_reducible rfl)
              try simp only [List.getElem_toArray, List.getElem_cons_succ, List.getElem_cons_zero, Act.put, List.setIfInBounds_toArray, List.set_cons_zero, List.set_cons_succ]
              refine wpAnyH_take (i := 28) (v := ?v28_172) rfl (by kernel_rfl) (by kernel_rfl) (by kernel_rfl) (fun _ _ _ h => h) (Or.inl ⟨by rfl, ?y28_172⟩) hHeld ?r28_172
              case y28_172 => (intro w hSw; (try dsimp only at hSw); go_split_ands; go_simp; try with_reducible rfl)
              try simp only [List.getElem_toArray, List.getElem_cons_succ, List.getElem_cons_zero, Act.put, List.setIfInBounds_toArray, List.set_cons_zero, List.set_cons_succ]
              refine wpAnyH_take (i := 29) (v := ?v29_173) rfl (by kernel_rfl) (by kernel_rfl) (by kernel_rfl) (fun _ _ _ h => h) (Or.inl ⟨by rfl, ?y29_173⟩) hHeld ?r29_173
              case y29_173 => (intro w hSw; (try dsimp only at hSw); go_split_ands; go_simp; try with_reducible rfl)
              try simp only [List.getElem_toArray, List.getElem_cons_succ, List.getElem_cons_zero, Act.put, List.setIfInBounds_toArray, List.set_cons_zero, List.set_cons_succ]
              refine wpAnyH_ready (rs := [26]) (by kernel_rfl) (by simp) ?_
              refine AllReadyH.cons rfl (fun K hK => ?_) AllReadyH.nil
              have hHeld' := hHeld
              try dsimp only at hHeld'
              go_split_ands
              go_simp
              refine (drop_any _ A _ [] _ (HA.out _ hq.out) (texts_nil _) (by omega) (by simp)).mono ?_
              rintro e z11 ⟨x6, rfl, hx, hn⟩
              have f6 := heads_own hx
              rw [dropF_nil] at f6
              obtain ⟨pa, pg, po, pc, rfl, -⟩ := f6
              replace hq := Lib.hid (hq.out.tr hn)
              clear hn hx
              refine hK.out _ _ ?_ (fun hHeld => ?_)
              · exact (KX.out _ hq.out)
              clear hK K
              try simp only [List.getElem_toArray, List.getElem_cons_succ, List.getElem_cons_zero, Act.put, List.setIfInBounds_toArray, List.set_cons_zero, List.set_cons_succ]
              refine wpAnyH_take (i := 27) (v := ?v27_174) rfl (by kernel_rfl) (by kernel_rfl) (by kernel_rfl) (fun _ _ _ h => h) (Or.inl ⟨by rfl, ?y27_174⟩) hHeld ?r27_174
              case y27_174 => (intro w hSw; (try dsimp only at hSw); go_split_ands; go_simp; try with_reducible rfl)
              try simp only [List.getElem_toArray, List.getElem_cons_succ, List.getElem_cons_zero, Act.put, List.setIfInBounds_toArray, List.set_cons_zero, List.set_cons_succ]
              refine wpAnyH_take (i := 30) (v := ?v30_175) rfl (by kernel_rfl) (by kernel_rfl) (by kernel_rfl) (fun _ _ _ h => h) (Or.inl ⟨by rfl, ?y30_175⟩) hHeld ?r30_175
              case y30_175 => (intro w hSw; (try dsimp only at hSw); go_split_ands; go_simp; try with_reducible rfl)
              try simp only [List.getElem_toArray, List.getElem_cons_succ, List.getElem_cons_zero, Act.put, List.setIfInBounds_toArray, List.set_cons_zero, List.set_cons_succ]
              refine wpAnyH_take (i := 31) (v := ?v31_176) rfl (by kernel_rfl) (by kernel_rfl) (by kernel_rfl) (fun _ _ _ h => h) (Or.inl ⟨by rfl, ?y31_176⟩) hHeld ?r31_176
              case y31_176 => (intro w hSw; (try dsimp only at hSw); go_split_ands; go_simp; try with_reducible rfl)
              try simp only [List.getElem_toArray, List.getElem_cons_succ, List.getElem_cons_zero, Act.put, List.setIfInBounds_toArray, List.set_cons_zero, List.set_cons_succ]
              refine wpAnyH_take (i := 32) (v := ?v32_177) rfl (by kernel_rfl) (by kernel_rfl) (by kernel_rfl) (fun _ _ _ h => h) (Or.inl ⟨by rfl, ?y32_177⟩) hHeld ?r32_177
              case y32_177 => (intro w hSw; (try dsimp only at hSw); go_split_ands; go_simp; try with_reducible rfl)
              try simp only [List.getElem_toArray, List.getElem_cons_succ, List.getElem_cons_zero, Act.put, List.setIfInBounds_toArray, List.set_cons_zero, List.set_cons_succ]
              refine wpAnyH_ready (rs := [33]) (by kernel_rfl) (by simp) ?_
              refine AllReadyH.cons rfl (fun K hK => ?_) AllReadyH.nil
              have hHeld' := hHeld
              try dsimp only at hHeld'
              go_split_ands
              go_simp
              refine (LV.out _).mono ?_
              rintro e z12 ⟨rfl, hn⟩
              replace hq := Lib.hid (hq.out.tr hn)
              clear hn
              refine hK.out _ _ ?_ (fun hHeld => ?_)
              · exact (KX.out _ hq.out)
              clear hK K
              try simp only [List.getElem_toArray, List.getElem_cons_succ, List.getElem_cons_zero, Act.put, List.setIfInBounds_toArray, List.set_cons_zero, List.set_cons_succ]
              refine wpAnyH_take (i := 34) (v := ?v34_178) rfl (by kernel_rfl) (by kernel_rfl) (by kernel_rfl) (fun _ _ _ h => h) (Or.inl ⟨by rfl, ?y34_178⟩) hHeld ?r34_178
              case y34_178 => (intro w hSw; (try dsimp only at hSw); go_split_ands; go_simp; try with_reducible rfl)
              try simp only [List.getElem_toArray, List.getElem_cons_succ, List.getElem_cons_zero, Act.put, List.setIfInBounds_toArray, List.set_cons_zero, List.set_cons_succ]
              refine wpAnyH_take (i := 35) (v := ?v35_179) rfl (by kernel_rfl) (by kernel_rfl) (by kernel_rfl) (fun _ _ _ h => h) (Or.inl ⟨by rfl, ?y35_179⟩) hHeld ?r35_179
              case y35_179 => (intro w hSw; (try dsimp only at hSw); go_split_ands; go_simp; try with_reducible rfl)
              try simp only [List.getElem_toArray, List.getElem_cons_succ, List.getElem_cons_zero, Act.put, List.setIfInBounds_toArray, List.set_cons_zero, List.set_cons_succ]
              refine wpAnyH_done (by kernel_rfl) ?_ _
              go_wp2_with fail
              go_ret
              exact ⟨rfl, hbz.out.tr hq.out⟩
end Go.Proofs.YtcbpagbalagllaaDoor.headsDrops
