/-
  ZonesShare is true for every input: of the hundred draws just Home stay here, and the others go elsewhere, where there is no panic. No condition.
-/
import Derived.Test.YtjajhebnafaflaaZnJ
import Derived.BigQuiet
namespace Go.Proofs.Ytjajhebnafaflaa.zonesShare
open Go.ChangeShapes Go.WideShapes Go.ChangeAt Go.RowKit
open Go.Proofs.Ytjajhebnafaflaa.zones
set_option linter.unusedVariables false
set_option linter.unusedSimpArgs false

set_option maxHeartbeats 8000000 in
theorem walk {w : World} (v0 : Value) (z0 : List Int) (hv0 : IntsAt w v0 z0) (hz0 : i64ok z0) (hm0 : z0.length ≤ maxLen) (v1 : Value) (z1 : List Int) (hv1 : IntsAt w v1 z1) (hz1 : i64ok z1) (hm1 : z1.length ≤ maxLen) (a2 : Int) (l2 : -9223372036854775808 ≤ a2) (u2 : a2 ≤ 9223372036854775807) :
    Calls Try.prog 5 #[v0, v1, I a2] w fun e w' => e = .returned (.bool true) ∧ Bl w w' := by
  have EN := Lib.hid (ends_any z0 v0 w hv0 hz0 hm0)
  have WE := Lib.hid (fun w' (hb : Bl w w') => wellm_any z1 v1 w' (Rd.below hv1 hb) hz1 hm1)
  have LV := Lib.hid lives_any
  have A2 := Lib.hid (fun w => around_any a2 4 w l2 u2 (by omega) (by omega))
  obtain ⟨z, hz⟩ : ∃ z_, (around a2 4) = z_ := ⟨_, rfl⟩
  rw [hz] at A2
  clear hz hv0 hv1 hz0 hz1 hm0 hm1 l2 u2
  go_enter Try.func5, Try.ntmps5
  go_wp2_with fail
  with_reducible refine (EN.out).mono ?_
  rintro e w1 ⟨v, R, rfl, hR, hO, hb1⟩
  replace hb1 := Lib.hid hb1
  replace hO := Lib.hid hO
  go_wp2_with fail
  with_reducible refine (WE.out _ hb1.out).mono ?_
  rintro e w2 ⟨u, Z, rfl, hZ, hU, hb2⟩
  have hI := ints_own hU
  have hE := (ends_own hO.out (by have := hR.len; omega)).bl hb2
  have hZm : Z.length ≤ maxLen := by have := hZ.1; unfold maxLen; omega
  have hb := hb1.out.tr hb2
  obtain ⟨ua, uc, rfl⟩ := ints_slice hI
  obtain ⟨ea, eg, eo, ec, rfl, hr, hg, hl⟩ := id hE
  have RC := Lib.hid (fun w' (hb : Bl w2 w') i hi => (hr.bl hb).c i hi)
  have HM := Lib.hid (fun w' (hb : Bl w2 w') => home_any _ R _ Z z w' (hE.bl hb) (Rd.below hI hb) hZm)
  have AM := Lib.hid (fun d w' (hb : Bl w2 w') => among_ints _ R _ Z z 0 d w' (hE.bl hb) (Rd.below hI hb) hZm (by omega) (by omega))
  have fH := home_bd R Z z
  have fI := fun d (h : 0 ≤ d) => inc_all hR.two Z z d h (panic_zero R Z)
  have hlen := hR.len
  obtain ⟨H, hH⟩ : ∃ z_, (homeF R Z z) = z_ := ⟨_, rfl⟩
  rw [hH] at fH
  simp only [hH] at HM fI
  clear hH hr hg hl hE hI hU hb1 hb2 EN WE hO
  obtain ⟨hn, rfl⟩ : ∃ n : Nat, H = n := ⟨H.toNat, by omega⟩
  have fI' := fun d : Nat => fI d (by omega)
  obtain ⟨AL, hAL⟩ : ∃ z_, (fun d : Int => amongL R Z z 0 d) = z_ := ⟨_, rfl⟩
  have hAL' : ∀ d : Int, amongL R Z z 0 d = AL d := fun d => congrFun hAL d
  simp only [hAL'] at AM fI'
  clear hAL hAL' fI
  replace fI' := Lib.hid fI'
  replace hb := Lib.hid hb
  go_wp2_with fail
  with_reducible refine (A2.out _).mono ?_
  rintro e w' ⟨rfl, rfl⟩
  go_wp2_with fail
  with_reducible refine (HM.out _ (Bl.rfl' _)).mono ?_
  rintro e w3 ⟨rfl, hb3⟩
  clear HM A2
  replace hb3 := Lib.hid hb3
  go_wp2_with fail
  go_loopw [11, 12] (fun h i wr => ∃ d : Nat, d ≤ 100 ∧ i = I d ∧ h = I (min (d : Int) hn) ∧ Bl w2 wr) (fun _ i _ => 100 - (intOf i).toNat)
  case atStart => exact ⟨0, by omega, rfl, by rw [show min ((0 : Nat) : Int) hn = 0 by omega], hb3.out⟩
  case round =>
    obtain ⟨d, hd, rfl, rfl, hbr⟩ := hrel
    clear hb3
    have hf := fI'.out d
    by_cases hlt : d < 100
    · obtain ⟨m, hm⟩ : ∃ m, min (d : Int) hn = m := ⟨_, rfl⟩
      have hm2 : min ((d + 1 : Nat) : Int) hn = m + if (d : Int) < (hn : Int) then 1 else 0 := by split <;> omega
      rw [← hf] at hm2
      rw [hm]
      have m0 : 0 ≤ m ∧ m ≤ 100 := by omega
      have AD := AM.out d wr hbr
      obtain ⟨A, hA⟩ : ∃ z_, (AL d) = z_ := ⟨_, rfl⟩
      rw [hA] at AD hm2
      clear hm hf hA
      replace AD := Lib.hid AD
      replace hbr := Lib.hid hbr
      replace hm2 := Lib.hid hm2
      go_wp2_with fail
      with_reducible refine (AD.out).mono ?_
      rintro e w4 ⟨x, rfl, hx, hb4⟩
      obtain ⟨xa, xc, rfl, RX⟩ := rd_any hx
      have hbx := hbr.out.tr hb4
      clear AD hx hb4 hbr
      replace RX := Lib.hid RX
      replace hbx := Lib.hid hbx
      go_wp2_with fail
      go_loopw [11, 14] (fun h i wr => ∃ k : Nat, k ≤ R.length ∧ i = I k ∧ h = I (m + incZ R A z k) ∧ Bl w4 wr) (fun _ i _ => R.length - (intOf i).toNat)
      case atStart => exact ⟨0, by omega, rfl, by simp [incZ], Bl.rfl' _⟩
      case round =>
        obtain ⟨k, hk, rfl, rfl, hbq⟩ := hrel
        by_cases hlk : k < R.length
        · obtain ⟨ha, hcc⟩ := RC.out _ (hbx.out.tr hbq) k hlk
          subst ha
          have c0 := hcc 0 (by decide)
          have c2 := hcc 2 (by decide)
          simp only [List.getElem?_cons_succ, List.getElem?_cons_zero, Nat.add_zero, ← Nat.add_assoc] at c0 c2
          have hin : incZ R A z (k + 1) = if 0 < A.length ∧ (R.getD k e0).i = A.getD 0 0 ∧ (R.getD k e0).z = z then incZ R A z k + 1 else incZ R A z k := rfl
          have hi0 := inc_bd R A z k
          obtain ⟨y, hy⟩ : ∃ z_, (R.getD k e0) = z_ := ⟨_, rfl⟩
          rw [hy] at c0 c2 hin
          obtain ⟨yi, ys, yz⟩ := y
          simp only at c0 c2 hin
          obtain ⟨q, hq⟩ : ∃ z_, (incZ R A z k) = z_ := ⟨_, rfl⟩
          rw [hq] at hin hi0 ⊢
          clear hcc hy hq
          by_cases hA : 0 < A.length
          · obtain ⟨xb, xo, rfl, r0⟩ := RX.out wr hbq 0 hA
            rw [Nat.add_zero] at r0
            change _ = some (I (A.getD 0 0)) at r0
            obtain ⟨y0, hy0⟩ : ∃ z_, (A.getD 0 0) = z_ := ⟨_, rfl⟩
            rw [hy0] at r0 hin
            clear hy0
            have dA : decide (0 < (A.length : Int)) = true := decide_eq_true (by omega)
            have dA2 : decide ((A.length : Int) > 0) = true := decide_eq_true (by omega)
            have wk : IntKind.i64.wrap ((k : Int) + 1) = ((k + 1 : Nat) : Int) := by rw [IntKind.wrap_i64]; omega
            by_cases h1 : yi = y0
            · have e1 : (yi == y0) = true := beq_iff_eq.2 h1
              by_cases h2 : yz = z
              · have e2 : (yz == z) = true := beq_iff_eq.2 h2
                rw [if_pos ⟨hA, h1, h2⟩] at hin
                have wq : IntKind.i64.wrap (m + q + 1) = m + (q + 1) := by rw [IntKind.wrap_i64]; omega
                clear h1 h2
                replace hin := Lib.hid hin
                replace hbq := Lib.hid hbq
                go_wp2_with fail
                go_quiet (fail)
                go_wp2_with fail
                go_roundw
                case rel => exact ⟨k + 1, by omega, by go_num, by rw [hin.out], hbq.out.drn _⟩
                case measure => simp [intOf] <;> omega
              · have e2 : (yz == z) = false := beq_eq_false_iff_ne.2 h2
                rw [if_neg (fun h => h2 h.2.2)] at hin
                clear h1 h2
                replace hin := Lib.hid hin
                replace hbq := Lib.hid hbq
                go_wp2_with fail
                go_quiet (fail)
                go_wp2_with fail
                go_roundw
                case rel => exact ⟨k + 1, by omega, by go_num, by rw [hin.out], hbq.out.drn _⟩
                case measure => simp [intOf] <;> omega
            · have e1 : (yi == y0) = false := beq_eq_false_iff_ne.2 h1
              rw [if_neg (fun h => h1 h.2.1)] at hin
              clear h1
              replace hin := Lib.hid hin
              replace hbq := Lib.hid hbq
              go_wp2_with fail
              go_quiet (fail)
              go_wp2_with fail
              go_roundw
              case rel => exact ⟨k + 1, by omega, by go_num, by rw [hin.out], hbq.out.drn _⟩
              case measure => simp [intOf] <;> omega
          · have dA : decide (0 < (A.length : Int)) = false := decide_eq_false (by omega)
            have dA2 : decide ((A.length : Int) > 0) = false := decide_eq_false (by omega)
            have wk : IntKind.i64.wrap ((k : Int) + 1) = ((k + 1 : Nat) : Int) := by rw [IntKind.wrap_i64]; omega
            rw [if_neg (fun h => hA h.1)] at hin
            have dA3 : decide (0 < A.length) = false := decide_eq_false hA
            replace hin := Lib.hid hin
            replace hbq := Lib.hid hbq
            go_wp2_with fail
            go_quiet (fail)
            go_wp2_with fail
            go_roundw
            case rel => exact ⟨k + 1, by omega, by go_num, by rw [hin.out], hbq.out.drn _⟩
            case measure => simp [intOf] <;> omega
        · obtain rfl : k = R.length := by omega
          have hbz := hbx.out.tr hbq
          clear hbx hbq RX
          replace hbz := Lib.hid hbz
          go_wp2_with fail
          go_roundw
          case rel => exact ⟨d + 1, by omega, by go_num, by rw [hm2.out], hbz.out⟩
          case measure => simp [intOf] <;> omega
    · obtain rfl : d = 100 := by omega
      have hmm : min ((100 : Nat) : Int) hn = hn := by omega
      rw [hmm]
      have d1 : decide ((hn : Int) ≥ 0) = true := decide_eq_true (by omega)
      have d2 : decide ((hn : Int) ≤ 100) = true := decide_eq_true (by omega)
      have d3 : decide (0 ≤ (hn : Int)) = true := decide_eq_true (by omega)
      have hbz := hb.out.tr hbr
      clear hbr hf hmm
      replace hbz := Lib.hid hbz
      go_wp2_with fail
      with_reducible refine (LV.out _).mono ?_
      rintro e w6 ⟨rfl, hb6⟩
      go_wp2_with fail
      go_ret
      exact ⟨rfl, hbz.out.tr hb6⟩
end Go.Proofs.Ytjajhebnafaflaa.zonesShare
