/-
  ZonesRow is true for every input: the row of endpoints, and of those that are well, and one told twice, changes nothing. No condition.
-/
import Derived.Test.YtjajhebnafaflaaZnJ
import Derived.Test.YtjajhebnafaflaaFeed
namespace Go.Proofs.Ytjajhebnafaflaa.zonesRow
open Go.ChangeShapes Go.WideShapes Go.ChangeAt Go.RowKit
open Go.Proofs.Ytjajhebnafaflaa.zones
set_option linter.unusedVariables false
set_option linter.unusedSimpArgs false

theorem rev_step {α : Type} (A : List α) (d : α) (k : Nat) (h : k < A.length) : A.reverse.take (k + 1) = A.reverse.take k ++ [A.getD (A.length - 1 - k) d] := by
  rw [List.take_succ_eq_append_getElem (by simpa using h), List.getElem_reverse, List.getD_eq_getElem?_getD, List.getElem?_eq_getElem (by omega)]
  rfl

set_option maxHeartbeats 8000000 in
theorem walk {w : World} (v0 : Value) (z0 : List Int) (hv0 : IntsAt w v0 z0) (hz0 : i64ok z0) (hm0 : z0.length ≤ maxLen) (v1 : Value) (z1 : List Int) (hv1 : IntsAt w v1 z1) (hz1 : i64ok z1) (hm1 : z1.length ≤ maxLen) (a2 : Int) (l2 : -9223372036854775808 ≤ a2) (u2 : a2 ≤ 9223372036854775807) (a3 : Int) (l3 : -9223372036854775808 ≤ a3) (u3 : a3 ≤ 9223372036854775807) (a4 : Int) (l4 : -9223372036854775808 ≤ a4) (u4 : a4 ≤ 9223372036854775807) :
    Calls Try.prog 7 #[v0, v1, I a2, I a3, I a4] w fun e w' => e = .returned (.bool true) ∧ Bl w w' := by
  obtain ⟨ie, hie, ze0, ze1, ze2⟩ := info_parts infoE
  obtain ⟨iu, hiu, zu0, zu1, zu2⟩ := info_parts infoI
  have EN := Lib.hid (ends_any z0 v0 w hv0 hz0 hm0)
  have WE := Lib.hid (fun w' (hb : Bl w w') => wellm_any z1 v1 w' (Rd.below hv1 hb) hz1 hm1)
  have LV := Lib.hid lives_any
  have A2 := Lib.hid (fun w => around_any a2 4 w l2 u2 (by omega) (by omega))
  have A3 := Lib.hid (fun w => around_any a3 101 w l3 u3 (by omega) (by omega))
  have A4 := Lib.hid (fun w => around_any a4 100 w l4 u4 (by omega) (by omega))
  have p0 := around_lo a3 101 (by omega); have p1 := around_hi a3 101 (by omega)
  obtain ⟨z, hz⟩ : ∃ z_, (around a2 4) = z_ := ⟨_, rfl⟩
  rw [hz] at A2
  obtain ⟨p, hp⟩ : ∃ z_, (around a3 101) = z_ := ⟨_, rfl⟩
  rw [hp] at A3 p0 p1
  obtain ⟨d, hd⟩ : ∃ z_, (around a4 100) = z_ := ⟨_, rfl⟩
  rw [hd] at A4
  clear hz hp hd hv0 hv1 hz0 hz1 hm0 hm1 l2 u2 l3 u3 l4 u4
  go_enter Try.func7, Try.ntmps7
  go_wp2_with fail
  with_reducible refine (EN.out).mono ?_
  rintro e w1 ⟨v, R, rfl, hR, hO, hb1⟩
  replace hb1 := Lib.hid hb1
  replace hO := Lib.hid hO
  go_wp2_with fail
  with_reducible refine (WE.out _ hb1.out).mono ?_
  rintro e w2 ⟨u, Z, rfl, hZ, hU, hb2⟩
  have hI := ints_own hU
  have hE := (ends_own hO.out (by have := hR.len; omega)).bl hb2
  have hZm : Z.length ≤ maxLen := by have := hZ.1; unfold maxLen; omega
  have hb := hb1.out.tr hb2
  obtain ⟨ua, uc, rfl, RU⟩ := rd_any hI
  obtain ⟨ea, eg, eo, ec, rfl, hr, hg, hl⟩ := id hE
  have RC := Lib.hid (fun w' (hb : Bl w2 w') i hi => (hr.bl hb).c i hi)
  have HM := Lib.hid (fun w' (hb : Bl w2 w') => home_any _ R _ Z z w' (hE.bl hb) (Rd.below hI hb) hZm)
  have AM := Lib.hid (fun w' (hb : Bl w2 w') => among_ints _ R _ Z z p d w' (hE.bl hb) (Rd.below hI hb) hZm p0 (by omega))
  have PN := Lib.hid (fun w' (hb : Bl w2 w') => panic_any _ R _ Z p w' (hE.bl hb) (Rd.below hI hb) hZm p0 (by omega))
  have FD := Lib.hid (fun w' (hb : Bl w2 w') => own_feed (own_below hU hb))
  have hR9 := hR.len
  have hZ12 := hZ.1
  have rR := fun k h => rev_step R e0 k h
  have rZ := fun k h => rev_step Z 0 k h
  clear hr hg hl hE hI hU hb1 hb2 EN WE hO
  replace RU := Lib.hid RU
  replace rR := Lib.hid rR
  replace rZ := Lib.hid rZ
  replace hb := Lib.hid hb
  go_wp2_with fail
  with_reducible refine (A2.out _).mono ?_
  rintro e w' ⟨rfl, rfl⟩
  go_wp2_with fail
  with_reducible refine (A3.out _).mono ?_
  rintro e w' ⟨rfl, rfl⟩
  go_wp2_with fail
  with_reducible refine (A4.out _).mono ?_
  rintro e w' ⟨rfl, rfl⟩
  clear A2 A3 A4
  go_wp2_with fail
  go_loopw [16, 17] (fun o i wr => ∃ (k : Nat) (B : List En), k ≤ R.length ∧ i = I ((R.length : Int) - 1 - k) ∧ B = R.reverse.take k ∧ OwnB eB 3 35 wr w2.heap.size o B ∧ Bl w2 wr) (fun _ i _ => (intOf i + 1).toNat)
  case atStart => exact ⟨0, [], by omega, by simp, by simp, OwnB.nil _ _ _, Bl.rfl' _⟩
  case round =>
    obtain ⟨k, B, hk, rfl, hB, hown, hbr⟩ := hrel
    have hBl : B.length = k := by rw [hB, List.length_take, List.length_reverse]; omega
    by_cases hlt : k < R.length
    · obtain ⟨j, hj⟩ : ∃ j : Nat, R.length - 1 - k = j := ⟨_, rfl⟩
      have hji : (R.length : Int) - 1 - k = (j : Int) := by omega
      have hst := rR.out k hlt
      rw [hj, ← hB] at hst
      obtain ⟨ha, hcc⟩ := RC.out _ hbr j (by omega)
      subst ha
      have c0 := hcc 0 (by decide)
      have c1 := hcc 1 (by decide)
      have c2 := hcc 2 (by decide)
      simp only [List.getElem?_cons_succ, List.getElem?_cons_zero, Nat.add_zero, ← Nat.add_assoc] at c0 c1 c2
      obtain ⟨y, hy⟩ : ∃ z_, (R.getD j e0) = z_ := ⟨_, rfl⟩
      rw [hy] at c0 c1 c2 hst
      obtain ⟨yi, ys, yz⟩ := y
      simp only at c0 c1 c2
      have hjR : j < R.length := by omega
      have hd0 : decide ((j : Int) ≥ 0) = true := decide_eq_true (by omega)
      have wj : IntKind.i64.wrap ((j : Int) - 1) = (R.length : Int) - 1 - ((k + 1 : Nat) : Int) := by rw [IntKind.wrap_i64]; omega
      have hbs := hbr.size
      obtain ⟨ra, rg, rcap, rfl, hrg, hrc, hrc2, hRR⟩ := OwnB.row hown (by decide)
      replace hown : wr.ownsRow w2.heap.size 35 3 (.slice ra B.length rcap) B.length (flatB eB B) := hown
      rw [hji]
      clear hcc hy hB hRR hrg hj
      have hB9 : B.length ≤ 9 := by omega
      replace hst := Lib.hid hst
      replace hown := Lib.hid hown
      replace hbr := Lib.hid hbr
      replace hBl := Lib.hid hBl
      replace hji := Lib.hid hji
      go_wp2_with (at_builtin; refine wpList_append_row rfl _ _ 23 rfl w2.heap.size 35 ie (.agg #[I 0, I 0, I 0]) 3 24 Try.underlying23 hie ze0 ze1 ze2 rfl (by decide) _ B.length (flatB eB B) rfl hown.out #[I yi, I ys, I yz] _ rfl (by intro u hu; simp at hu; rcases hu with rfl | rfl | rfl <;> rfl) 1 (by first | rfl | simp [Act.eval, Act.put]) (by omega) (by omega) (by omega) ?_)
      intro b' cap' w7 hown' hgrow
      have hb7 := hbr.out.grown hgrow (fun k hk => (hown.out.lt k hk).1)
      replace hown' := Lib.hid hown'
      replace hb7 := Lib.hid hb7
      go_wp2_with fail
      go_roundw
      case rel => exact ⟨k + 1, B ++ [⟨yi, ys, yz⟩], by omega, by first | rfl | go_num, hst.out.symm, by unfold OwnB; rw [flatB_snoc, List.length_append]; exact hown'.out, hb7.out⟩
      case measure => have := hji.out; simp [intOf] <;> omega
    · obtain rfl : k = R.length := by omega
      have hBR : B = R.reverse := by rw [hB, List.take_of_length_le (by simp)]
      subst hBR
      have hwm : (R.length : Int) - 1 - (R.length : Nat) = -1 := by omega
      rw [hwm]
      have hE2 := ends_own hown (by simp; omega)
      have hEB := Lib.hid (fun w' (hb : Bl wr w') => hE2.bl hb)
      clear hBl hB rR RC hE2 hown
      obtain ⟨wB, hwB⟩ : ∃ x, x = wr := ⟨_, rfl⟩
      subst hwB
      replace hbr := Lib.hid hbr
      go_wp2_with fail
      go_loopw [18, 19] (fun o i wr => ∃ (k : Nat) (B : List Int), k ≤ Z.length ∧ i = I ((Z.length : Int) - 1 - k) ∧ B = Z.reverse.take k ∧ wr.ownsRow wB.heap.size 3 1 o B.length (B.map I) ∧ Bl wB wr) (fun _ i _ => (intOf i + 1).toNat)
      case atStart => exact ⟨0, [], by omega, by simp, by simp, World.ownsRow_nil _ _ _ _, Bl.rfl' _⟩
      case round =>
        obtain ⟨k, B, hk, rfl, hB, hown, hbq⟩ := hrel
        have hBl : B.length = k := by rw [hB, List.length_take, List.length_reverse]; omega
        by_cases hlt : k < Z.length
        · obtain ⟨j, hj⟩ : ∃ j : Nat, Z.length - 1 - k = j := ⟨_, rfl⟩
          have hji : (Z.length : Int) - 1 - k = (j : Int) := by omega
          have hst := rZ.out k hlt
          rw [hj, ← hB] at hst
          obtain ⟨ub, uo, rfl, c0⟩ := RU.out _ (hbr.out.tr hbq) j (by omega)
          change _ = some (I (Z.getD j 0)) at c0
          obtain ⟨y, hy⟩ : ∃ z_, (Z.getD j 0) = z_ := ⟨_, rfl⟩
          rw [hy] at c0 hst
          have hjR : j < Z.length := by omega
          have hd0 : decide ((j : Int) ≥ 0) = true := decide_eq_true (by omega)
          have wj : IntKind.i64.wrap ((j : Int) - 1) = (Z.length : Int) - 1 - ((k + 1 : Nat) : Int) := by rw [IntKind.wrap_i64]; omega
          have hbs := hbq.size
          have hB12 : B.length ≤ 12 := by omega
          obtain ⟨oa, oc, rfl⟩ := ints_slice (ints_own hown)
          rw [hji]
          clear hy hB hj
          replace hst := Lib.hid hst
          replace hown := Lib.hid hown
          replace hbq := Lib.hid hbq
          replace hBl := Lib.hid hBl
          replace hji := Lib.hid hji
          go_wp2_with (at_builtin; refine wpList_append_one rfl _ _ 22 rfl wB.heap.size 3 iu (I 0) 8 Try.underlying22 hiu zu0 zu1 zu2 rfl _ B.length (B.map I) rfl hown.out (I y) _ rfl 1 (by first | rfl | simp [Act.eval, Act.put]) (by omega) (by omega) (by omega) ?_)
          intro b' cap' w7 hown' hgrow
          have hb7 := hbq.out.grown hgrow (fun k hk => (hown.out.lt k hk).1)
          replace hown' := Lib.hid hown'
          replace hb7 := Lib.hid hb7
          go_wp2_with fail
          go_roundw
          case rel => exact ⟨k + 1, B ++ [y], by omega, by first | rfl | go_num, hst.out.symm, by rw [List.length_append, List.map_append]; exact hown'.out, hb7.out⟩
          case measure => have := hji.out; simp [intOf] <;> omega
        · obtain rfl : k = Z.length := by omega
          have hBZ : B = Z.reverse := by rw [hB, List.take_of_length_le (by simp)]
          subst hBZ
          have hwm : (Z.length : Int) - 1 - (Z.length : Nat) = -1 := by omega
          rw [hwm]
          have hb2 := hbr.out.tr hbq
          have FD2 := FD.out wr hb2
          clear hBl hB rZ RU
          have hbs := hbq.size
          have hB12 : Z.reverse.length ≤ 12 := by simp; omega
          obtain ⟨oa, oc, rfl⟩ := ints_slice (ints_own hown)
          rw [List.length_reverse] at hown hB12 ⊢
          replace hown := Lib.hid hown
          replace hbq := Lib.hid hbq
          replace hb2 := Lib.hid hb2
          replace FD2 := Lib.hid FD2
          go_wp2_with (at_builtin; refine wpList_append_feed rfl _ _ 22 rfl wB.heap.size 3 iu (I 0) 1 8 Try.underlying22 hiu zu0 zu1 zu2 rfl (by decide) _ Z.length (Z.reverse.map I) rfl hown.out _ Z.length (Z.map I) FD2.out (by intro u hu; obtain ⟨x, -, rfl⟩ := List.mem_map.1 hu; rfl) (by first | rfl | simp [Act.eval, Act.put]) (by omega) (by omega) (by omega) ?_)
          intro v7 w7 hown' hgrow
          have hb7 := hbq.out.grown hgrow (fun k hk => (hown.out.lt k hk).1)
          have hT : w7.ownsRow wB.heap.size 3 1 v7 (Z.reverse ++ Z).length ((Z.reverse ++ Z).map I) := by rw [List.length_append, List.map_append, List.length_reverse, List.map_reverse]; exact hown'
          have hIT := ints_own hT
          have hb27 := hbr.out.tr hb7
          have hTm : (Z.reverse ++ Z).length ≤ maxLen := by rw [List.length_append, List.length_reverse]; unfold maxLen; omega
          have HM2 := Lib.hid (fun w' (hb : Bl w7 w') => home_any _ _ _ (Z.reverse ++ Z) z w' (hEB.out w' (hb7.tr hb)) (Rd.below hIT hb) hTm)
          have AM2 := Lib.hid (fun w' (hb : Bl w7 w') => among_ints _ _ _ (Z.reverse ++ Z) z p d w' (hEB.out w' (hb7.tr hb)) (Rd.below hIT hb) hTm p0 (by omega))
          have PN2 := Lib.hid (fun w' (hb : Bl w7 w') => panic_any _ _ _ (Z.reverse ++ Z) p w' (hEB.out w' (hb7.tr hb)) (Rd.below hIT hb) hTm p0 (by omega))
          have SM := Lib.hid (fun x y w' hx hy => same_any (amongL R Z z p d) (amongL R Z z p d) x y w' hx hy (by have := amongL_len R Z z p d; unfold maxLen; omega) (by have := amongL_len R Z z p d; unfold maxLen; omega))
          simp only [home_rev] at HM2
          simp only [panic_rev] at PN2
          simp only [among_rev] at AM2
          simp only [decide_true] at SM
          obtain ⟨H, hH⟩ : ∃ z_, (homeF R Z z) = z_ := ⟨_, rfl⟩
          simp only [hH] at HM HM2
          obtain ⟨pn, hpn⟩ : ∃ z_, (panicF R Z p) = z_ := ⟨_, rfl⟩
          simp only [hpn] at PN PN2
          obtain ⟨A, hA⟩ : ∃ z_, (amongL R Z z p d) = z_ := ⟨_, rfl⟩
          simp only [hA] at AM AM2 SM
          have hbz := hb.out.tr hb27
          clear hown' hT hIT hgrow hown hbq FD2 FD hEB hH hpn hA hb2 hb7 hbr hTm
          have e1 : (H == H) = true := by simp
          have e2 : (pn == pn) = true := by simp
          have hq2 := hb27
          have hq7 := Bl.rfl' w7
          replace hbz := Lib.hid hbz
          replace hq2 := Lib.hid hq2
          replace hq7 := Lib.hid hq7
          clear hb27
          go_wp2_with fail
          with_reducible refine (HM.out _ hq2.out).mono ?_
          rintro e wa ⟨rfl, hn⟩
          have hz1 := hbz.out.tr hn
          have hq21 := hq2.out.tr hn
          have hq71 := hq7.out.tr hn
          clear hbz hq2 hq7 hn
          have hbz := Lib.hid hz1; have hq2 := Lib.hid hq21; have hq7 := Lib.hid hq71
          clear hz1 hq21 hq71
          go_wp2_with fail
          with_reducible refine (HM2.out _ hq7.out).mono ?_
          rintro e wb ⟨rfl, hn⟩
          have hz1 := hbz.out.tr hn
          have hq21 := hq2.out.tr hn
          have hq71 := hq7.out.tr hn
          clear hbz hq2 hq7 hn
          have hbz := Lib.hid hz1; have hq2 := Lib.hid hq21; have hq7 := Lib.hid hq71
          clear hz1 hq21 hq71
          go_wp2_with fail
          with_reducible refine (PN.out _ hq2.out).mono ?_
          rintro e wc ⟨rfl, hn⟩
          have hz1 := hbz.out.tr hn
          have hq21 := hq2.out.tr hn
          have hq71 := hq7.out.tr hn
          clear hbz hq2 hq7 hn
          have hbz := Lib.hid hz1; have hq2 := Lib.hid hq21; have hq7 := Lib.hid hq71
          clear hz1 hq21 hq71
          go_wp2_with fail
          with_reducible refine (PN2.out _ hq7.out).mono ?_
          rintro e wd ⟨rfl, hn⟩
          have hz1 := hbz.out.tr hn
          have hq21 := hq2.out.tr hn
          have hq71 := hq7.out.tr hn
          clear hbz hq2 hq7 hn
          have hbz := Lib.hid hz1; have hq2 := Lib.hid hq21; have hq7 := Lib.hid hq71
          clear hz1 hq21 hq71
          go_wp2_with fail
          with_reducible refine (AM.out _ hq2.out).mono ?_
          rintro e we ⟨x, rfl, hx, hn⟩
          have hz1 := hbz.out.tr hn
          have hq21 := hq2.out.tr hn
          have hq71 := hq7.out.tr hn
          clear hbz hq2 hq7 hn
          have hbz := Lib.hid hz1; have hq2 := Lib.hid hq21; have hq7 := Lib.hid hq71
          clear hz1 hq21 hq71
          replace hx := Lib.hid hx
          go_wp2_with fail
          with_reducible refine (AM2.out _ hq7.out).mono ?_
          rintro e wf ⟨y, rfl, hy, hn⟩
          have hx2 := Rd.below hx.out hn
          have hz1 := hbz.out.tr hn
          have hq21 := hq2.out.tr hn
          have hq71 := hq7.out.tr hn
          clear hbz hq2 hq7 hn
          have hbz := Lib.hid hz1; have hq2 := Lib.hid hq21; have hq7 := Lib.hid hq71
          clear hz1 hq21 hq71
          replace hx2 := Lib.hid hx2
          replace hy := Lib.hid hy
          go_wp2_with fail
          with_reducible refine (SM.out _ _ _ hx2.out hy.out).mono ?_
          rintro e wg ⟨rfl, hn⟩
          have hz1 := hbz.out.tr hn
          have hq21 := hq2.out.tr hn
          have hq71 := hq7.out.tr hn
          clear hbz hq2 hq7 hn
          have hbz := Lib.hid hz1; have hq2 := Lib.hid hq21; have hq7 := Lib.hid hq71
          clear hz1 hq21 hq71
          go_wp2_with fail
          with_reducible refine (LV.out _).mono ?_
          rintro e wh ⟨rfl, hn⟩
          go_wp2_with fail
          go_ret
          exact ⟨rfl, hbz.out.tr hn⟩
end Go.Proofs.Ytjajhebnafaflaa.zonesRow
