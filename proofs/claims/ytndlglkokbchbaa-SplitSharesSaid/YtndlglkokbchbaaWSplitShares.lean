/-
  SplitShares is true for every input: of as many numbers, one behind the other, as the sum is, just as many stand for each part as its weight is. No condition.
-/
import Derived.Test.YtndlglkokbchbaaSpK
import Derived.BigQuiet
namespace Go.Proofs.Ytndlglkokbchbaa.splitShares
open Go.ChangeShapes Go.WideShapes Go.ChangeAt Go.RowKit
open Go.Proofs.Ytndlglkokbchbaa.split
set_option linter.unusedVariables false
set_option linter.unusedSimpArgs false

theorem wsum_at {R : List Pt} (h : MadeOk R) {i : Nat} (hi : i < R.length) : ∀ n, n ≤ R.length → wsum (R.take n) (R.getD i p0).s = if i < n then (R.getD i p0).w else 0
  | 0, _ => by simp [wsum]
  | n + 1, hn => by
    rw [wsum_take R _ (by omega), wsum_at h hi n (by omega)]
    by_cases h1 : i < n
    · rw [if_pos h1, if_neg (fun e => h.two i n h1 (by omega) e.symm), if_pos (by omega)]
      omega
    · rw [if_neg h1]
      by_cases h2 : i = n
      · subst h2; rw [if_pos rfl, if_pos (by omega)]; omega
      · rw [if_neg (h.two n i (by omega) hi), if_neg (by omega)]; rfl
theorem wsum_of {R : List Pt} (h : MadeOk R) {i : Nat} (hi : i < R.length) : wsum R (R.getD i p0).s = (R.getD i p0).w := by
  have := wsum_at h hi R.length (Nat.le_refl _)
  rw [List.take_length, if_pos hi] at this
  exact this
theorem pick_pos {R : List Pt} (h : MadeOk R) (d : Int) : 1 ≤ pickF R d ∧ pickF R d ≤ 10 := by
  have hp := h.ahd_pos
  obtain ⟨k, h1, h2, h3⟩ := at_ex h.ok (Int.emod_nonneg d (show ahd R R.length ≠ 0 by omega)) (Int.emod_lt_of_pos d (show 0 < ahd R R.length by omega))
  rw [pick_at h.ok h1 h2 h3]
  have := h.srv k h1
  omega

set_option maxHeartbeats 8000000 in
theorem walk {w : World} (v0 : Value) (z0 : List Int) (hv0 : IntsAt w v0 z0) (hz0 : i64ok z0) (hm0 : z0.length ≤ maxLen) (d : Int) (d0 : 0 ≤ d) (d1 : d ≤ 18446744073709551615) (f : Int) (l1 : -9223372036854775808 ≤ f) (u1 : f ≤ 9223372036854775807) :
    Calls Try.prog 5 #[v0, .int .u64 d, I f] w fun e w' => e = .returned (.bool true) ∧ Bl w w' := by
  have MD := Lib.hid (made_any z0 v0 w hv0 hz0 hm0)
  have LV := Lib.hid lives_any
  have A1 := Lib.hid (fun w => around_any f 3 w l1 u1 (by omega) (by omega))
  have f0 := around_lo f 3 (by omega); have f1 := around_hi f 3 (by omega)
  obtain ⟨x, hx⟩ : ∃ z_, (around f 3) = z_ := ⟨_, rfl⟩
  rw [hx] at A1 f0 f1
  have hdm : d.tmod 9223372036854775808 = d % 9223372036854775808 := Int.tmod_eq_emod_of_nonneg d0
  have e0 : 0 ≤ d % 9223372036854775808 := by omega
  have e1 : d % 9223372036854775808 < 9223372036854775808 := by omega
  obtain ⟨b, hb⟩ : ∃ b : Nat, d % 9223372036854775808 = (b : Int) := ⟨(d % 9223372036854775808).toNat, by omega⟩
  rw [hb] at hdm e0 e1
  have wd : IntKind.u64.wrap (d.tmod 9223372036854775808) = (b : Int) := by rw [hdm, IntKind.wrap_u64]; omega
  obtain ⟨k, hk⟩ : ∃ k : Nat, 1 + x = (k : Int) := ⟨(1 + x).toNat, by omega⟩
  have wk : IntKind.i64.wrap (1 + x) = (k : Int) := by rw [hk, IntKind.wrap_i64]; omega
  have k0 : 1 ≤ k := by omega
  have k1 : k ≤ 3 := by omega
  clear hdm hx l1 u1 hk
  replace hv0 := Lib.hid hv0
  go_enter Try.func5, Try.ntmps5
  go_wp2_with fail
  first | with_reducible refine (MD.out).mono ?_ | refine (MD.out).mono ?_
  rintro e w1 ⟨v, R, rfl, hm, ho, hb1⟩
  have hp := (own_parts ho (by have := hm.len; omega) hm.i64).ok hm.ok
  have hpos := hm.ahd_pos
  have hle := hm.ahd_le R.length (Nat.le_refl _)
  have hlen := hm.len
  have SM := Lib.hid (fun w' (hb : Bl w1 w') => sum_any v R w' (hp.bl hb))
  obtain ⟨m, hmm⟩ : ∃ m : Nat, ahd R R.length = (m : Int) := ⟨(ahd R R.length).toNat, by omega⟩
  rw [hmm] at hpos hle
  simp only [hmm] at SM
  have hm36 : m ≤ 36 := by omega
  have hkm : k * m ≤ 3 * 36 := Nat.mul_le_mul k1 hm36
  have CT := Lib.hid (fun w' (hb : Bl w1 w') => counts_any v R b (k * m) w' (hp.bl hb) (pick_pos hm) (by omega) (by omega))
  have hcnt : ∀ s : Nat, (cc R b (k * m) s : Int) = k * wsum R s := fun s => cnt_all hm.ok s hmm b k
  have hws := fun i hi => wsum_of hm (i := i) hi
  have hsr := fun i hi => hm.srv i hi
  have hwg := fun i hi => hm.wgt i hi
  have hAl := fun n hn => hm.ahd_le n hn
  have hA0 := fun n => hm.ok.ahd n
  have hAs := fun n => ahd_succ R n
  obtain ⟨a, g, o, cap, rfl, hr, -, -⟩ := id hp
  have RC := Lib.hid (fun w' (hb : Bl w1 w') i hi => (hr.bl hb).c pB_len p0 i hi)
  have wkm : IntKind.i64.wrap ((k : Int) * (m : Int)) = ((k * m : Nat) : Int) := by rw [← Int.natCast_mul, IntKind.wrap_i64]; omega
  have dm1 : decide ((m : Int) < 1) = false := decide_eq_false (by omega)
  have dm2 : decide ((m : Int) > 40) = false := decide_eq_false (by omega)
  clear MD ho hp hr
  replace hb1 := Lib.hid hb1
  replace hm := Lib.hid hm
  replace hcnt := Lib.hid hcnt
  replace hws := Lib.hid hws
  replace hsr := Lib.hid hsr
  replace hwg := Lib.hid hwg
  replace hAl := Lib.hid hAl
  replace hA0 := Lib.hid hA0
  replace hAs := Lib.hid hAs
  replace hmm := Lib.hid hmm
  go_wp2_with fail
  first | with_reducible refine (A1.out _).mono ?_ | refine (A1.out _).mono ?_
  rintro e w' ⟨rfl, rfl⟩
  clear A1
  go_wp2_with fail
  rw [hb]
  clear hb
  first | with_reducible refine (SM.out _ (Bl.rfl' _)).mono ?_ | refine (SM.out _ (Bl.rfl' _)).mono ?_
  rintro e w2 ⟨rfl, hb2⟩
  replace hb2 := Lib.hid hb2
  go_wp2_with fail
  first | with_reducible refine (CT.out _ hb2.out).mono ?_ | refine (CT.out _ hb2.out).mono ?_
  rintro e w3 ⟨y, rfl, hy, hyl, hb3⟩
  clear wk wd wkm CT SM
  have hb4 := hb2.out.tr hb3
  clear hb2 hb3
  replace hy := Lib.hid hy
  replace hb4 := Lib.hid hb4
  go_wp2_with fail
  go_loopw [11, 12] (fun al i wr => ∃ j : Nat, j ≤ R.length ∧ i = I j ∧ al = I (k * ahd R j) ∧ wr.heap[y]? = some (oC R b (k * m)) ∧ Bl w1 wr) (fun _ i _ => R.length - (intOf i).toNat)
  case atStart => exact ⟨0, by omega, rfl, by simp [ahd], hy.out, hb4.out⟩
  case round =>
    obtain ⟨j, hj, rfl, rfl, hyr, hbr⟩ := hrel
    clear hy hb4
    by_cases hlt : j < R.length
    · obtain ⟨ha, hcc⟩ := RC.out _ hbr j hlt
      subst ha
      have c0 := hcc 0 (by decide)
      have c1 := hcc 1 (by decide)
      simp only [List.getElem?_cons_succ, List.getElem?_cons_zero, Nat.add_zero, ← Nat.add_assoc] at c0 c1
      have hs := hsr.out j hlt
      have hw := hwg.out j hlt
      have hz := hws.out j hlt
      have hA := hAs.out j
      have hA1 := hAl.out j (by omega)
      have hA2 := (hA0.out j).1
      obtain ⟨e, hx⟩ : ∃ z_, (R.getD j p0) = z_ := ⟨_, rfl⟩
      rw [hx] at c0 c1 hs hw hz hA
      obtain ⟨xs, xw⟩ := e
      simp only at hs hw hz hA
      obtain ⟨p, rfl⟩ : ∃ p : Nat, xs = (p : Int) := ⟨xs.toNat, by omega⟩
      have hc := hcnt.out p
      rw [hz] at hc
      have hg : wr.cell? ⟨y, p, none⟩ = some (I (cc R b (k * m) p)) := by rw [cell_at hyr p]; exact cells_get R b (k * m) p (by omega)
      rw [hc] at hg
      have hkw := Int.mul_le_mul (show (k : Int) ≤ 3 by omega) hw.2 hw.1 (by omega)
      have hkw0 := Int.mul_nonneg (show 0 ≤ (k : Int) by omega) hw.1
      have hka := Int.mul_le_mul (show (k : Int) ≤ 3 by omega) (show ahd R j ≤ 36 by omega) hA2 (by omega)
      have hka0 := Int.mul_nonneg (show 0 ≤ (k : Int) by omega) hA2
      have hstep : (k : Int) * ahd R (j + 1) = k * ahd R j + k * xw := by rw [hA, Int.mul_add]
      obtain ⟨q, hq⟩ : ∃ q, (k : Int) * xw = q := ⟨_, rfl⟩
      rw [hq] at hg hkw hkw0 hstep
      have wq : IntKind.i64.wrap ((k : Int) * xw) = q := by rw [hq, IntKind.wrap_i64]; omega
      obtain ⟨t, ht⟩ : ∃ t, (k : Int) * ahd R j = t := ⟨_, rfl⟩
      rw [ht] at hka hka0 hstep
      have wt : IntKind.i64.wrap (t + q) = t + q := by rw [IntKind.wrap_i64]; omega
      have wj : IntKind.i64.wrap ((j : Int) + 1) = ((j + 1 : Nat) : Int) := by rw [IntKind.wrap_i64]; omega
      have hqq : (q != q) = false := by simp
      have hp11 : (p : Int) < 11 := by omega
      rw [ht]
      clear hcc hx hz hc hA hA1 hA2 hkw hq ht hka hs hw
      replace hstep := Lib.hid hstep
      replace hyr := Lib.hid hyr
      replace hbr := Lib.hid hbr
      go_wp2_with fail
      go_quiet (fail)
      go_wp2_with fail
      go_roundw
      case rel => exact ⟨j + 1, by omega, by first | rfl | go_num, by rw [hstep.out], blk_bl hyr.out (Bl.drewN _ _), hbr.out.drn _⟩
      case measure => simp [intOf] <;> omega
    · obtain rfl : j = R.length := by omega
      rw [hmm.out]
      have wkm : IntKind.i64.wrap ((k : Int) * (m : Int)) = (k : Int) * (m : Int) := by
        have : (k : Int) * (m : Int) = ((k * m : Nat) : Int) := by rw [Int.natCast_mul]
        rw [this, IntKind.wrap_i64]; omega
      have hkk : ((k : Int) * (m : Int) == (k : Int) * (m : Int)) = true := by simp
      have hbx := hb1.out.tr hbr
      clear hyr hbr
      replace hbx := Lib.hid hbx
      go_wp2_with fail
      first | with_reducible refine (LV.out _).mono ?_ | refine (LV.out _).mono ?_
      rintro e w6 ⟨rfl, hb6⟩
      go_wp2_with fail
      go_ret
      exact ⟨rfl, hbx.out.tr hb6⟩
end Go.Proofs.Ytndlglkokbchbaa.splitShares
