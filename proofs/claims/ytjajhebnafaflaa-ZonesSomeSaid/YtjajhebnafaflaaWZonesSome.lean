/-
  ZonesSome is true for every input: where somebody is well somebody is told, and, but in a panic, nobody who is not. No condition.
-/
import Derived.Test.YtjajhebnafaflaaZnJ
import Derived.BigQuiet
namespace Go.Proofs.Ytjajhebnafaflaa.zonesSome
open Go.ChangeShapes Go.WideShapes Go.ChangeAt Go.RowKit
open Go.Proofs.Ytjajhebnafaflaa.zones
set_option linter.unusedVariables false
set_option linter.unusedSimpArgs false

set_option maxHeartbeats 8000000 in
theorem walk {w : World} (v0 : Value) (z0 : List Int) (hv0 : IntsAt w v0 z0) (hz0 : i64ok z0) (hm0 : z0.length ≤ maxLen) (v1 : Value) (z1 : List Int) (hv1 : IntsAt w v1 z1) (hz1 : i64ok z1) (hm1 : z1.length ≤ maxLen) (a2 : Int) (l2 : -9223372036854775808 ≤ a2) (u2 : a2 ≤ 9223372036854775807) (a3 : Int) (l3 : -9223372036854775808 ≤ a3) (u3 : a3 ≤ 9223372036854775807) (a4 : Int) (l4 : -9223372036854775808 ≤ a4) (u4 : a4 ≤ 9223372036854775807) :
    Calls Try.prog 4 #[v0, v1, I a2, I a3, I a4] w fun e w' => e = .returned (.bool true) ∧ Bl w w' := by
  have EN := Lib.hid (ends_any z0 v0 w hv0 hz0 hm0)
  have WE := Lib.hid (fun w' (hb : Bl w w') => wellm_any z1 v1 w' (Rd.below hv1 hb) hz1 hm1)
  have LV := Lib.hid lives_any
  have A2 := Lib.hid (fun w => around_any a2 4 w l2 u2 (by omega) (by omega))
  have A3 := Lib.hid (fun w => around_any a3 101 w l3 u3 (by omega) (by omega))
  have A4 := Lib.hid (fun w => around_any a4 100 w l4 u4 (by omega) (by omega))
  have p0 := around_lo a3 101 (by omega); have p1 := around_hi a3 101 (by omega)
  have d0 := around_lo a4 100 (by omega); have d1 := around_hi a4 100 (by omega)
  obtain ⟨z, hz⟩ : ∃ z_, (around a2 4) = z_ := ⟨_, rfl⟩
  rw [hz] at A2
  obtain ⟨p, hp⟩ : ∃ z_, (around a3 101) = z_ := ⟨_, rfl⟩
  rw [hp] at A3 p0 p1
  obtain ⟨d, hd⟩ : ∃ z_, (around a4 100) = z_ := ⟨_, rfl⟩
  rw [hd] at A4 d0 d1
  clear hz hp hd hv0 hv1 hz0 hz1 hm0 hm1 l2 u2 l3 u3 l4 u4
  go_enter Try.func4, Try.ntmps4
  go_wp2_with fail
  with_reducible refine (EN.out).mono ?_
  rintro e w1 ⟨v, R, rfl, hR, hO, hb1⟩
  replace hb1 := Lib.hid hb1
  replace hO := Lib.hid hO
  go_wp2_with fail
  with_reducible refine (WE.out _ hb1.out).mono ?_
  rintro e w2 ⟨u, Z, rfl, hZ, hU, hb2⟩
  have hI := ints_own hU
  have hE := (ends_own hO.out (by have := hR.len; omega)).bl hb2
  have hZm : Z.length ≤ maxLen := by have := hZ.1; unfold maxLen; omega
  have hb := hb1.out.tr hb2
  obtain ⟨ua, uc, rfl⟩ := ints_slice hI
  obtain ⟨ea, eg, eo, ec, rfl, hr, hg, hl⟩ := id hE
  have RC := Lib.hid (fun w' (hb : Bl w2 w') i hi => (hr.bl hb).c i hi)
  have HS := Lib.hid (fun n w' (hb : Bl w2 w') => has_any Z n _ w' (Rd.below hI hb) hZm)
  have AM := Lib.hid (fun w' (hb : Bl w2 w') => among_ints _ R _ Z z p d w' (hE.bl hb) (Rd.below hI hb) hZm p0 (by omega))
  have PN := Lib.hid (fun w' (hb : Bl w2 w') => panic_any _ R _ Z p w' (hE.bl hb) (Rd.below hI hb) hZm p0 (by omega))
  have fS := some_succ R Z
  have fA := among_some R Z z p d d0 (by omega)
  have fL := among_lt hR.two Z z p d
  have fW := fun h x hx => among_well (R := R) (Z := Z) (z := z) (pc := p) (d := d) (x := x) h hx
  have fN := amongL_len R Z z p d
  have hlen := hR.len
  obtain ⟨A, hA⟩ : ∃ z_, (amongL R Z z p d) = z_ := ⟨_, rfl⟩
  rw [hA] at fA fL fW fN
  simp only [hA] at AM
  obtain ⟨pn, hpn⟩ : ∃ z_, (panicF R Z p) = z_ := ⟨_, rfl⟩
  rw [hpn] at fA fW
  simp only [hpn] at PN
  clear hA hpn hr hg hl hE hI hU hb1 hb2 EN WE hO
  replace fS := Lib.hid fS
  replace fA := Lib.hid fA
  replace fL := Lib.hid fL
  replace fW := Lib.hid fW
  replace hb := Lib.hid hb
  go_wp2_with fail
  with_reducible refine (A3.out _).mono ?_
  rintro e w' ⟨rfl, rfl⟩
  go_wp2_with fail
  with_reducible refine (A2.out _).mono ?_
  rintro e w' ⟨rfl, rfl⟩
  go_wp2_with fail
  with_reducible refine (A4.out _).mono ?_
  rintro e w' ⟨rfl, rfl⟩
  go_wp2_with fail
  with_reducible refine (AM.out _ (Bl.rfl' _)).mono ?_
  rintro e w3 ⟨x, rfl, hx, hb3⟩
  clear A2 A3 A4 AM
  obtain ⟨xa, xc, rfl, RX⟩ := rd_any hx
  clear hx
  replace RX := Lib.hid RX
  replace hb3 := Lib.hid hb3
  go_wp2_with fail
  go_loopw [16, 17] (fun s i wr => ∃ k : Nat, k ≤ R.length ∧ i = I k ∧ s = .bool (someB R Z k) ∧ wr = w3) (fun _ i _ => R.length - (intOf i).toNat)
  case atStart => exact ⟨0, by omega, rfl, by simp [someB], rfl⟩
  case round =>
    obtain ⟨k, hk, rfl, rfl, rfl⟩ := hrel
    by_cases hlt : k < R.length
    · obtain ⟨ha, hcc⟩ := RC.out _ hb3.out k hlt
      subst ha
      have c0 := hcc 0 (by decide)
      simp only [List.getElem?_cons_zero, Nat.add_zero] at c0
      have hs := fS.out k hlt
      have hw : wellF Z (R.getD k e0) = decide ((R.getD k e0).i ∈ Z) := by rw [wellF, Bool.eq_iff_iff, List.contains_iff_mem, decide_eq_true_iff]
      rw [hw] at hs
      obtain ⟨y, hy⟩ : ∃ z_, (R.getD k e0) = z_ := ⟨_, rfl⟩
      rw [hy] at c0 hs
      obtain ⟨yi, ys, yz⟩ := y
      simp only at c0 hs
      obtain ⟨b, hbb⟩ : ∃ z_, (decide (yi ∈ Z)) = z_ := ⟨_, rfl⟩
      rw [hbb] at hs
      have H := HS.out yi _ hb3.out
      rw [hbb] at H
      obtain ⟨s, hss⟩ : ∃ z_, (someB R Z k) = z_ := ⟨_, rfl⟩
      rw [hss] at hs ⊢
      clear hcc hy hw hbb hss
      replace hs := Lib.hid hs
      replace H := Lib.hid H
      cases s with
      | false =>
        go_wp2_with fail
        with_reducible refine (H.out).mono ?_
        rintro e w' ⟨rfl, rfl⟩
        go_wp2_with fail
        go_roundw
        case rel => exact ⟨k + 1, by omega, by go_num, by rw [hs.out]; rfl, trivial⟩
        case measure => simp [intOf] <;> omega
      | true =>
        go_wp2_with fail
        go_roundw
        case rel => exact ⟨k + 1, by omega, by go_num, by rw [hs.out]; rfl, trivial⟩
        case measure => simp [intOf] <;> omega
    · obtain rfl : k = R.length := by omega
      go_wp2_with fail
      with_reducible refine (PN.out _ hb3.out).mono ?_
      rintro e w4 ⟨rfl, hb4⟩
      have hbx := hb3.out.tr hb4
      have RX4 := Lib.hid (fun w' (hb : Bl w4 w') => RX.out w' (hb4.tr hb))
      clear hb3 hb4 RX RC PN fS
      replace hbx := Lib.hid hbx
      go_wp2_with fail
      go_loopw [19] (fun i wr => ∃ k : Nat, k ≤ A.length ∧ i = I k ∧ Bl w4 wr) (fun i _ => A.length - (intOf i).toNat)
      case atStart => exact ⟨0, by omega, rfl, Bl.rfl' _⟩
      case round =>
        obtain ⟨k, hk, rfl, hbr⟩ := hrel
        by_cases hlt : k < A.length
        · obtain ⟨xb, xo, rfl, r1⟩ := RX4.out wr hbr k hlt
          change _ = some (I (A.getD k 0)) at r1
          have hw := fun h => fW.out h _ (getD_mem A k 0 hlt)
          have hbz := hbx.out.tr hbr
          have HK := fun w' (hb : Bl wr w') => HS.out (A.getD k 0) w' (hbz.tr hb)
          have hlk : ∀ j, j + 1 = k → A.getD j 0 < A.getD k 0 := fun j hj => by
            have := (List.pairwise_iff_getElem.1 fL.out) j k (by omega) hlt (by omega)
            rw [List.getD_eq_getElem?_getD, List.getElem?_eq_getElem (by omega), List.getD_eq_getElem?_getD, List.getElem?_eq_getElem hlt]
            exact this
          have h63 : A.length ≤ 9 := by omega
          have wk : IntKind.i64.wrap ((k : Int) + 1) = ((k + 1 : Nat) : Int) := by rw [IntKind.wrap_i64]; omega
          have RJ := fun j (h : j < A.length) => RX4.out wr hbr j h
          obtain ⟨x1, hx1⟩ : ∃ z_, (A.getD k 0) = z_ := ⟨_, rfl⟩
          rw [hx1] at r1 hw
          simp only [hx1] at hlk HK
          clear hbz
          cases pn with
          | true =>
            clear HK hw
            replace hbr := Lib.hid hbr
            rcases Nat.eq_zero_or_pos k with rfl | hpos
            · have hd : decide (((0 : Nat) : Int) > 0) = false := decide_eq_false (by omega)
              rw [Nat.add_zero] at r1
              clear hlk hx1 RJ
              go_wp2_with fail
              go_quiet (fail)
              go_wp2_with fail
              go_roundw
              case rel => exact ⟨0 + 1, by omega, by go_num, hbr.out.drn _⟩
              case measure => simp [intOf] <;> omega
            · obtain ⟨j, rfl⟩ : ∃ j, k = j + 1 := ⟨k - 1, by omega⟩
              obtain ⟨xb2, xo2, hxx, r0⟩ := RJ j (by omega)
              cases hxx
              change _ = some (I (A.getD j 0)) at r0
              have hlj := hlk j rfl
              obtain ⟨x0, hx0⟩ : ∃ z_, (A.getD j 0) = z_ := ⟨_, rfl⟩
              rw [hx0] at r0 hlj
              have hd : decide (((j + 1 : Nat) : Int) > 0) = true := decide_eq_true (by omega)
              have hd2 : decide ((j : Int) + 1 > 0) = true := decide_eq_true (by omega)
              have wj : IntKind.i64.wrap (((j + 1 : Nat) : Int) - 1) = (j : Int) := by rw [IntKind.wrap_i64]; omega
              have wj2 : IntKind.i64.wrap ((j : Int) + 1 - 1) = (j : Int) := by rw [IntKind.wrap_i64]; omega
              have hdl : decide (x1 ≤ x0) = false := decide_eq_false (by omega)
              clear hlk hx1 hx0 RJ hlj
              go_wp2_with fail
              go_quiet (fail)
              go_wp2_with fail
              go_roundw
              case rel => exact ⟨(j + 1) + 1, by omega, by go_num, hbr.out.drn _⟩
              case measure => simp [intOf] <;> omega
          | false =>
            have h := hw rfl
            rw [show decide (x1 ∈ Z) = true from decide_eq_true h] at HK
            clear h hw
            replace hbr := Lib.hid hbr
            replace HK := Lib.hid HK
            rcases Nat.eq_zero_or_pos k with rfl | hpos
            · have hd : decide (((0 : Nat) : Int) > 0) = false := decide_eq_false (by omega)
              rw [Nat.add_zero] at r1
              clear hlk hx1 RJ
              go_wp2_with fail
              go_quiet ((go_at_call 20; exact Calls.quiet_of_same (q_of (HK.out _ (by first | exact Bl.rfl' _ | exact Bl.drewN _ _)))))
              go_wp2_with fail
              go_roundw
              case rel => exact ⟨0 + 1, by omega, by go_num, hbr.out.drn _⟩
              case measure => simp [intOf] <;> omega
            · obtain ⟨j, rfl⟩ : ∃ j, k = j + 1 := ⟨k - 1, by omega⟩
              obtain ⟨xb2, xo2, hxx, r0⟩ := RJ j (by omega)
              cases hxx
              change _ = some (I (A.getD j 0)) at r0
              have hlj := hlk j rfl
              obtain ⟨x0, hx0⟩ : ∃ z_, (A.getD j 0) = z_ := ⟨_, rfl⟩
              rw [hx0] at r0 hlj
              have hd : decide (((j + 1 : Nat) : Int) > 0) = true := decide_eq_true (by omega)
              have hd2 : decide ((j : Int) + 1 > 0) = true := decide_eq_true (by omega)
              have wj : IntKind.i64.wrap (((j + 1 : Nat) : Int) - 1) = (j : Int) := by rw [IntKind.wrap_i64]; omega
              have wj2 : IntKind.i64.wrap ((j : Int) + 1 - 1) = (j : Int) := by rw [IntKind.wrap_i64]; omega
              have hdl : decide (x1 ≤ x0) = false := decide_eq_false (by omega)
              clear hlk hx1 hx0 RJ hlj
              go_wp2_with fail
              go_quiet ((go_at_call 20; exact Calls.quiet_of_same (q_of (HK.out _ (by first | exact Bl.rfl' _ | exact Bl.drewN _ _)))))
              go_wp2_with fail
              go_roundw
              case rel => exact ⟨(j + 1) + 1, by omega, by go_num, hbr.out.drn _⟩
              case measure => simp [intOf] <;> omega
        · obtain rfl : k = A.length := by omega
          have hbz := hb.out.tr (hbx.out.tr hbr)
          have hf := fA.out
          clear hbr RX4 HS
          obtain ⟨s, hs⟩ : ∃ z_, (someB R Z R.length) = z_ := ⟨_, rfl⟩
          rw [hs] at hf ⊢
          have hgs : R.length = 0 ∨ 0 < R.length := by omega
          have hf2 : decide (0 < A.length) = (s || (pn && decide (0 < R.length))) := by
            rw [← show decide (0 < (A.length : Int)) = decide (0 < A.length) from decide_eq_decide.2 (by omega), hf, show decide (0 < (R.length : Int)) = decide (0 < R.length) from decide_eq_decide.2 (by omega)]
          clear hs hf
          replace hf2 := Lib.hid hf2
          replace hbz := Lib.hid hbz
          cases s with
          | true =>
            have hc : 0 < A.length := of_decide_eq_true (hf2.out.trans rfl)
            go_wp2_with fail
            with_reducible refine (LV.out _).mono ?_
            rintro e w6 ⟨rfl, hb6⟩
            go_wp2_with fail
            go_ret
            exact ⟨rfl, hbz.out.tr hb6⟩
          | false =>
            cases pn with
            | true =>
              rcases hgs with hg | hg
              · have hc : A.length = 0 := by have := of_decide_eq_false (hf2.out.trans (by rw [decide_eq_false (show ¬ 0 < R.length by omega)]; rfl)); omega
                go_wp2_with fail
                with_reducible refine (LV.out _).mono ?_
                rintro e w6 ⟨rfl, hb6⟩
                go_wp2_with fail
                go_ret
                exact ⟨rfl, hbz.out.tr hb6⟩
              · have hc : 0 < A.length := of_decide_eq_true (hf2.out.trans (by rw [decide_eq_true hg]; rfl))
                go_wp2_with fail
                with_reducible refine (LV.out _).mono ?_
                rintro e w6 ⟨rfl, hb6⟩
                go_wp2_with fail
                go_ret
                exact ⟨rfl, hbz.out.tr hb6⟩
            | false =>
              have hc : A.length = 0 := by have := of_decide_eq_false (hf2.out.trans rfl); omega
              go_wp2_with fail
              with_reducible refine (LV.out _).mono ?_
              rintro e w6 ⟨rfl, hb6⟩
              go_wp2_with fail
              go_ret
              exact ⟨rfl, hbz.out.tr hb6⟩
end Go.Proofs.Ytjajhebnafaflaa.zonesSome
