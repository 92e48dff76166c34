/-
  SplitScale is true for every input: with all weights so many times as great each gets so many times as many of so many times as many. No condition.
-/
import Derived.Test.YtndlglkokbchbaaSpK
import Derived.Test.YtndlglkokbchbaaOwn
import Derived.BigQuiet
import Derived.Deep.RegionHeldLaw
import Derived.Deep.CutRange
namespace Go.Proofs.Ytndlglkokbchbaa.splitScale
open Go.ChangeShapes Go.WideShapes Go.ChangeAt Go.RowKit
open Go.Proofs.Ytndlglkokbchbaa.split
set_option linter.unusedVariables false
set_option linter.unusedSimpArgs false

def scale (k : Int) (R : List Pt) : List Pt := R.map fun x => ⟨x.s, k * x.w⟩
theorem scale_getD (k : Int) (R : List Pt) (i : Nat) : (scale k R).getD i p0 = ⟨(R.getD i p0).s, k * (R.getD i p0).w⟩ := by
  unfold scale
  simp only [List.getD, List.getElem?_map]
  cases R[i]? with
  | none => simp
  | some x => rfl
theorem scale_len (k : Int) (R : List Pt) : (scale k R).length = R.length := by unfold scale; simp
theorem scale_take (k : Int) (R : List Pt) {j : Nat} (h : j < R.length) : scale k (R.take (j + 1)) = scale k (R.take j) ++ [⟨(R.getD j p0).s, k * (R.getD j p0).w⟩] := by
  unfold scale
  rw [List.take_succ_eq_append_getElem h, List.map_append, List.getD, List.getElem?_eq_getElem h]
  rfl
theorem scale_ahd (k : Int) (R : List Pt) : ∀ n, ahd (scale k R) n = k * ahd R n
  | 0 => by simp [ahd]
  | n + 1 => by rw [ahd_succ, ahd_succ, scale_ahd k R n, scale_getD, Int.mul_add]
theorem scale_wsum (k : Int) (R : List Pt) (s : Int) : wsum (scale k R) s = k * wsum R s := by
  induction R with
  | nil => simp [wsum, scale]
  | cons x R ih =>
    have h1 : scale k (x :: R) = [⟨x.s, k * x.w⟩] ++ scale k R := rfl
    have h2 : x :: R = [x] ++ R := rfl
    rw [h1, h2, wsum_app, wsum_app, ih, Int.mul_add, wsum_one, wsum_one]
    congr 1
    split <;> simp
theorem chk_ok {R : List Pt} (h1 : ∀ i, i < R.length → 1 ≤ (R.getD i p0).s ∧ (R.getD i p0).s ≤ 10) (h2 : ∀ i j, i < j → j < R.length → (R.getD i p0).s ≠ (R.getD j p0).s) (h3 : ∀ i, i < R.length → 0 ≤ (R.getD i p0).w ∧ (R.getD i p0).w ≤ 100) (h4 : ahd R R.length ≠ 0) : chkF R = 0 := by
  have hn : ∀ n, n ≤ R.length → chkTo R n = none := by
    intro n
    induction n with
    | zero => intro _; rfl
    | succ n ih =>
      intro hn
      refine chk_next (ih (by omega)) ?_
      unfold chkAt
      have a1 := h1 n (by omega)
      have a3 := h3 n (by omega)
      have a2 : twiceB R n (R.getD n p0).s = false := by
        unfold twiceB
        rw [List.any_eq_false]
        intro x hx
        obtain ⟨i, hi, rfl⟩ := List.mem_iff_getElem.1 hx
        rw [List.length_take] at hi
        have := h2 i n (by omega) (by omega)
        rw [List.getD, List.getElem?_eq_getElem (show i < R.length by omega)] at this
        simpa using this
      rw [if_neg (by omega), if_neg (by rw [a2]; decide), if_neg (by omega)]
  rw [chk_end (hn _ (Nat.le_refl _)), if_neg h4]
theorem pick_in {R : List Pt} (h : okP R) (hp : 1 ≤ ahd R R.length) (hs : ∀ i, i < R.length → 1 ≤ (R.getD i p0).s ∧ (R.getD i p0).s ≤ 10) (d : Int) : 1 ≤ pickF R d ∧ pickF R d ≤ 10 := by
  obtain ⟨k, h1, h2, h3⟩ := at_ex h (Int.emod_nonneg d (show ahd R R.length ≠ 0 by omega)) (Int.emod_lt_of_pos d (show 0 < ahd R R.length by omega))
  rw [pick_at h h1 h2 h3]
  exact hs k h1

set_option maxHeartbeats 16000000 in
theorem walk {w : World} (v0 : Value) (z0 : List Int) (hv0 : IntsAt w v0 z0) (hz0 : i64ok z0) (hm0 : z0.length ≤ maxLen) (f : Int) (l1 : -9223372036854775808 ≤ f) (u1 : f ≤ 9223372036854775807) :
    Calls Try.prog 8 #[v0, I f] w fun e w' => e = .returned (.bool true) ∧ Bl w w' := by
  have MD := Lib.hid (made_any z0 v0 w hv0 hz0 hm0)
  have LV := Lib.hid lives_any
  have A1 := Lib.hid (fun w => around_any f 4 w l1 u1 (by omega) (by omega))
  have f0 := around_lo f 4 (by omega); have f1 := around_hi f 4 (by omega)
  obtain ⟨x, hx⟩ : ∃ z_, (around f 4) = z_ := ⟨_, rfl⟩
  rw [hx] at A1 f0 f1
  obtain ⟨k, hk⟩ : ∃ k : Nat, 1 + x = (k : Int) := ⟨(1 + x).toNat, by omega⟩
  have wk : IntKind.i64.wrap (1 + x) = (k : Int) := by rw [hk, IntKind.wrap_i64]; omega
  have k0 : 1 ≤ k := by omega
  have k1 : k ≤ 4 := by omega
  obtain ⟨iu, hiu, zu0, zu1, zu2⟩ := info_parts infoP
  clear hx l1 u1 hk
  replace hv0 := Lib.hid hv0
  go_enter Try.func8, Try.ntmps8
  go_wp2_with fail
  with_reducible refine (MD.out).mono ?_
  rintro e w1 ⟨v, R, rfl, hm, ho, hb1⟩
  have hp := (own_parts ho (by have := hm.len; omega) hm.i64).ok hm.ok
  have hlen := hm.len
  obtain ⟨a, g, o, cap, rfl, hr, -, -⟩ := id hp
  have RC := Lib.hid (fun w' (hb : Bl w1 w') i hi => (hr.bl hb).c pB_len p0 i hi)
  clear MD ho hr
  replace hb1 := Lib.hid hb1
  replace hm := Lib.hid hm
  replace hp := Lib.hid hp
  go_wp2_with fail
  with_reducible refine (A1.out _).mono ?_
  rintro e w' ⟨rfl, rfl⟩
  clear A1
  go_wp2_with fail
  go_loopw [7, 8] (fun o i wr => ∃ j : Nat, j ≤ R.length ∧ i = I j ∧ OwnB pB 2 25 wr w1.heap.size o (scale k (R.take j)) ∧ Bl w1 wr) (fun _ i _ => R.length - (intOf i).toNat)
  case atStart => exact ⟨0, by omega, rfl, OwnB.nil _ _ _, Bl.rfl' _⟩
  case round =>
    obtain ⟨j, hj, rfl, hown, hbr⟩ := hrel
    by_cases hlt : j < R.length
    · have hw := hm.out.wgt j hlt
      have hst := scale_take k R hlt
      unfold OwnB at hown
      rw [show (scale k (R.take j)).length = j by rw [scale_len, List.length_take]; omega] at hown
      have hbd := hbr.dr
      have hownd := own_below hown (Bl.rfl' wr).dr
      have KK := Lib.hid (fun w' (hb : Bl w1 w') => (RC.out w' hb j hlt).2)
      have ha := (RC.out wr hbr j hlt).1
      subst ha
      obtain ⟨e, hx⟩ : ∃ z_, (R.getD j p0) = z_ := ⟨_, rfl⟩
      simp only [hx] at KK
      rw [hx] at hw hst
      obtain ⟨xs, xw⟩ := e
      simp only at hw hst
      have KC : ∀ w', Bl w1 w' → Bl w1 w' ∧ w'.cell? ⟨g, o + j * 2, none⟩ = some (I xs) ∧ w'.cell? ⟨g, o + j * 2 + 1, none⟩ = some (I xw) := fun w' hb => by
        have c0 := KK.out w' hb 0 (by decide)
        have c1 := KK.out w' hb 1 (by decide)
        simp only [List.getElem?_cons_succ, List.getElem?_cons_zero, Nat.add_zero, ← Nat.add_assoc] at c0 c1
        exact ⟨hb, c0, c1⟩
      have hkw := Int.mul_le_mul (show (k : Int) ≤ 4 by omega) hw.2 hw.1 (by omega)
      have hkw0 := Int.mul_nonneg (show 0 ≤ (k : Int) by omega) hw.1
      obtain ⟨q, hq⟩ : ∃ q, (k : Int) * xw = q := ⟨_, rfl⟩
      rw [hq] at hst hkw hkw0
      have wq : IntKind.i64.wrap ((k : Int) * xw) = q := by rw [hq, IntKind.wrap_i64]; omega
      have wj : IntKind.i64.wrap ((j : Int) + 1) = ((j + 1 : Nat) : Int) := by rw [IntKind.wrap_i64]; omega
      have hsd := hbd.size
      obtain ⟨-, q0, q1⟩ := KC wr hbr
      clear hx hq hkw hw KK hown
      replace hst := Lib.hid hst
      replace hownd := Lib.hid hownd
      replace hbr := Lib.hid hbr
      replace KC := Lib.hid KC
      go_upto_region 7 with fail
      go_region_held_law (fun w' => Bl w1 w' ∧ w'.cell? ⟨g, o + j * 2, none⟩ = some (I xs) ∧ w'.cell? ⟨g, o + j * 2 + 1, none⟩ = some (I xw))
        ((go_split_ands; first | exact KC.out _ hb7 | exact KC.out _ hbd | exact KC.out _ (hbd.al _)))
        (first
          | (refine step_append_rec rfl (.tmp 24) (.tmp 38) 22 rfl w1.heap.size 25 iu (.agg #[I 0, I 0]) 2 16 Try.underlying22 hiu zu0 zu1 zu2 rfl (by decide) _ j (flatB pB (scale k (R.take j))) (by first | rfl | simp [Act.eval, Act.put]) hownd.out #[I xs, I q] _ rfl (by intro u hu; simp at hu; rcases hu with rfl | rfl <;> rfl) 1 (by first | rfl | simp [Act.eval, Act.put]) (by omega) (by omega) (by omega) ?_; intro b' cap' w7 hown' hgrow hbn; have hb7 : Bl w1 w7 := hbd.grown hgrow (fun k hk => (hownd.out.lt k hk).1); replace hown' := Lib.hid hown'; clear hgrow hbn))
      all_goals
        go_wp2_with fail
        go_roundw
        case measure => simp [intOf] <;> omega
        case rel => exact ⟨j + 1, by omega, by first | rfl | go_num, by rw [hst.out]; unfold OwnB; rw [List.length_append, scale_len, List.length_take, Nat.min_eq_left (by omega), flatB_snoc]; exact hown'.out, hb7⟩
    · obtain rfl : j = R.length := by omega
      have hmo := hm.out
      have hpos := hmo.ahd_pos
      have hle := hmo.ahd_le R.length (Nat.le_refl _)
      obtain ⟨m, hmm⟩ : ∃ m : Nat, ahd R R.length = (m : Int) := ⟨(ahd R R.length).toNat, by omega⟩
      rw [hmm] at hpos hle
      have hkm : k * m ≤ 4 * 36 := Nat.mul_le_mul k1 (by omega)
      have hkm1 : 1 ≤ k * m := Nat.mul_pos (by omega) (by omega)
      have htk : scale k (R.take R.length) = scale k R := by rw [List.take_length]
      rw [htk] at hown
      have hlS := scale_len k R
      have hgS := fun i => scale_getD k R i
      have hsS : ∀ i, i < (scale k R).length → 1 ≤ ((scale k R).getD i p0).s ∧ ((scale k R).getD i p0).s ≤ 10 := fun i hi => by
        rw [hgS]; have := hmo.srv i (by omega); show 1 ≤ (R.getD i p0).s ∧ (R.getD i p0).s ≤ 10; omega
      have hwS : ∀ i, i < (scale k R).length → 0 ≤ ((scale k R).getD i p0).w ∧ ((scale k R).getD i p0).w ≤ 36 := fun i hi => by
        rw [hgS]
        have h2 := hmo.wgt i (by omega)
        have h3 := Int.mul_le_mul (show (k : Int) ≤ 4 by omega) h2.2 h2.1 (by omega)
        have h4 := Int.mul_nonneg (show 0 ≤ (k : Int) by omega) h2.1
        show 0 ≤ (k : Int) * (R.getD i p0).w ∧ (k : Int) * (R.getD i p0).w ≤ 36
        omega
      have hokS : okP (scale k R) := ⟨fun x hx => by
        obtain ⟨i, hi, rfl⟩ := getD_of hx
        have := hwS i hi; omega, by omega⟩
      have haS : ahd (scale k R) (scale k R).length = ((k * m : Nat) : Int) := by rw [scale_ahd, scale_len, hmm, Int.natCast_mul]
      have hchk : chkF (scale k R) = 0 := chk_ok hsS (fun i j hij hj => by rw [hgS, hgS]; exact hmo.two i j hij (by omega)) (fun i hi => by have := hwS i hi; omega) (by omega)
      have hpS := own_parts hown (by omega) (fun x hx => by
        obtain ⟨i, hi, rfl⟩ := getD_of hx
        have h1 := hsS i hi; have h2 := hwS i hi; omega)
      have hiS := pick_in hokS (by omega) hsS
      have hiR := pick_in hmo.ok (by omega) (fun i hi => by have := hmo.srv i hi; omega)
      have SM := Lib.hid (fun w' (hb : Bl w1 w') => sum_any _ R w' (hp.out.bl hb))
      have SS := Lib.hid (fun w' (hb : Bl wr w') => sum_any _ (scale k R) w' ((hpS.bl hb).ok hokS))
      have CS := Lib.hid (fun w' (hb : Bl wr w') => check_any _ (scale k R) w' (hpS.bl hb))
      have CT := Lib.hid (fun w' (hb : Bl w1 w') => counts0 _ R m w' (hp.out.bl hb) hiR (by omega))
      have CU := Lib.hid (fun w' (hb : Bl wr w') => counts0 _ (scale k R) (k * m) w' ((hpS.bl hb).ok hokS) hiS (by omega))
      simp only [hmm] at SM
      simp only [haS] at SS
      simp only [hchk] at CS
      have hcR : ∀ s : Nat, (cc R 0 m s : Int) = wsum R s := fun s => by
        have h := cnt_all hmo.ok s hmm 0 1
        rw [Nat.one_mul] at h
        unfold cc
        rw [h]
        simp
      have hcS : ∀ s : Nat, (cc (scale k R) 0 (k * m) s : Int) = k * wsum R s := fun s => by
        have h := cnt_all hokS s haS 0 1
        rw [Nat.one_mul, scale_wsum] at h
        unfold cc
        rw [h]
        simp
      obtain ⟨a2, g2, c2, hv2, -, -, -, -⟩ := hown.row (by decide)
      subst hv2
      have wkm : IntKind.i64.wrap ((k : Int) * (m : Int)) = ((k * m : Nat) : Int) := by rw [← Int.natCast_mul, IntKind.wrap_i64]; omega
      have hkk : ((((k * m : Nat) : Int)) != (((k * m : Nat) : Int))) = false := by simp
      have dm1 : decide ((m : Int) < 1) = false := decide_eq_false (by omega)
      have dm2 : decide ((m : Int) > 40) = false := decide_eq_false (by omega)
      have hkm64 : IntKind.i64.wrap ((k * m : Nat) : Int) = ((k * m : Nat) : Int) := by rw [IntKind.wrap_i64]; omega
      obtain ⟨n, hn⟩ : ∃ n, k * m = n := ⟨_, rfl⟩
      rw [hn] at wkm hkk hkm hkm1 hkm64
      simp only [hn] at SS CU hcS
      clear hlS hown hokS haS hchk hpS hsS hwS hgS hiS hiR hmo htk RC hp hn
      replace hcR := Lib.hid hcR
      replace hcS := Lib.hid hcS
      replace hmm := Lib.hid hmm
      replace hbr := Lib.hid hbr
      go_wp2_with fail
      with_reducible refine (SM.out _ hbr.out).mono ?_
      rintro e w2 ⟨rfl, hb2⟩
      replace hb2 := Lib.hid hb2
      go_wp2_with fail
      with_reducible refine (SS.out _ hb2.out).mono ?_
      rintro e w3 ⟨rfl, hb3⟩
      replace hb3 := Lib.hid (hb2.out.tr hb3)
      clear hb2
      go_wp2_with fail
      with_reducible refine (CT.out _ (hbr.out.tr hb3.out)).mono ?_
      rintro e w4 ⟨ya, rfl, hya, hyal, hb4⟩
      replace hb4 := Lib.hid (hb3.out.tr hb4)
      clear hb3
      replace hya := Lib.hid hya
      go_wp2_with fail
      with_reducible refine (CU.out _ hb4.out).mono ?_
      rintro e w5 ⟨yb, rfl, hyb, hybl, hb5⟩
      have hya5 := blk_bl hya.out hb5
      replace hb5 := Lib.hid (hb4.out.tr hb5)
      clear hb4 hya
      replace hyb := Lib.hid hyb
      replace hya5 := Lib.hid hya5
      go_wp2_with fail
      clear SM SS CT CU wkm
      go_loopw [12] (fun i wx => ∃ j : Nat, j ≤ 11 ∧ i = I j ∧ wx.heap[ya]? = some (oC R 0 m) ∧ wx.heap[yb]? = some (oC (scale k R) 0 n) ∧ Bl wr wx) (fun i _ => 11 - (intOf i).toNat)
      case atStart => exact ⟨0, by omega, rfl, hya5.out, hyb.out, hb5.out⟩
      case round =>
        obtain ⟨j, hj, rfl, hA, hB, hbx⟩ := hrel
        clear hya5 hyb hb5
        by_cases hlt : j < 11
        · have ga : wr.cell? ⟨ya, j, none⟩ = some (I (cc R 0 m j)) := by rw [cell_at hA j]; exact cells_get R 0 m j hlt
          have gb : wr.cell? ⟨yb, j, none⟩ = some (I (cc (scale k R) 0 n j)) := by rw [cell_at hB j]; exact cells_get (scale k R) 0 n j hlt
          rw [hcR.out j] at ga
          rw [hcS.out j] at gb
          have hw0 : 0 ≤ wsum R j ∧ wsum R j ≤ m := by
            have h1 := hcR.out j
            have h2 := cntN_le (fun i => hitS R j (0 + i)) m
            have h3 : cc R 0 m j ≤ m := h2
            omega
          have hkw := Int.mul_le_mul (show (k : Int) ≤ 4 by omega) hw0.2 hw0.1 (by omega)
          have hkw0 := Int.mul_nonneg (show 0 ≤ (k : Int) by omega) hw0.1
          obtain ⟨c, hc⟩ : ∃ c, wsum R j = c := ⟨_, rfl⟩
          rw [hc] at ga gb hkw hkw0
          obtain ⟨q, hq⟩ : ∃ q, (k : Int) * c = q := ⟨_, rfl⟩
          rw [hq] at gb hkw hkw0
          have wq : IntKind.i64.wrap ((k : Int) * c) = q := by rw [hq, IntKind.wrap_i64]; omega
          have wj : IntKind.i64.wrap ((j : Int) + 1) = ((j + 1 : Nat) : Int) := by rw [IntKind.wrap_i64]; omega
          have hqq : (q != q) = false := by simp
          have hj11 : (j : Int) < 11 := by omega
          clear hw0 hkw hc hq
          replace hA := Lib.hid hA
          replace hB := Lib.hid hB
          replace hbx := Lib.hid hbx
          go_wp2_with fail
          go_quiet (fail)
          go_wp2_with fail
          go_roundw
          case rel => exact ⟨j + 1, by omega, by first | rfl | go_num, blk_bl hA.out (Bl.drewN _ _), blk_bl hB.out (Bl.drewN _ _), hbx.out.drn _⟩
          case measure => simp [intOf] <;> omega
        · obtain rfl : j = 11 := by omega
          have hbz := Lib.hid hbx
          have hb9 := Lib.hid ((hb1.out.tr hbr.out).tr hbx)
          have C9 := Lib.hid (CS.out _ hbx)
          clear hA hB hbx CS
          go_wp2_with fail
          with_reducible refine (C9.out).mono ?_
          rintro e w9 ⟨rfl, hb10⟩
          replace hb10 := Lib.hid hb10
          go_wp2_with fail
          with_reducible refine (LV.out _).mono ?_
          rintro e w11 ⟨rfl, hb11⟩
          go_wp2_with fail
          go_ret
          exact ⟨rfl, (hb9.out.tr hb10.out).tr hb11⟩
end Go.Proofs.Ytndlglkokbchbaa.splitScale
