/-
  SplitRound is true for every input: a number, and that and the sum, stand for one part. No condition.
-/
import Derived.Test.YtndlglkokbchbaaSpI
namespace Go.Proofs.Ytndlglkokbchbaa.splitRound
open Go.ChangeShapes Go.WideShapes Go.ChangeAt Go.RowKit
open Go.Proofs.Ytndlglkokbchbaa.split
set_option linter.unusedVariables false
set_option linter.unusedSimpArgs false

theorem pick_mod {R : List Pt} {d e : Int} (h : d % ahd R R.length = e % ahd R R.length) : pickF R d = pickF R e := by
  unfold pickF
  rw [h]
theorem pick_pos {R : List Pt} (h : MadeOk R) (d : Int) : 1 ≤ pickF R d ∧ pickF R d ≤ 5 := by
  have hp := h.ahd_pos
  obtain ⟨k, h1, h2, h3⟩ := at_ex h.ok (Int.emod_nonneg d (show ahd R R.length ≠ 0 by omega)) (Int.emod_lt_of_pos d (show 0 < ahd R R.length by omega))
  rw [pick_at h.ok h1 h2 h3]
  exact h.srv k h1

set_option maxHeartbeats 4000000 in
theorem walk {w : World} (v0 : Value) (z0 : List Int) (hv0 : IntsAt w v0 z0) (hz0 : i64ok z0) (hm0 : z0.length ≤ maxLen) (d : Int) (d0 : 0 ≤ d) (d1 : d ≤ 18446744073709551615) (f : Int) (l1 : -9223372036854775808 ≤ f) (u1 : f ≤ 9223372036854775807) :
    Calls Try.prog 6 #[v0, .int .u64 d, I f] w fun e w' => e = .returned (.bool true) ∧ Bl w w' := by
  have MD := Lib.hid (made_any z0 v0 w hv0 hz0 hm0)
  have LV := Lib.hid lives_any
  have A1 := Lib.hid (fun w => around_any f 1000 w l1 u1 (by omega) (by omega))
  have f0 := around_lo f 1000 (by omega); have f1 := around_hi f 1000 (by omega)
  obtain ⟨x, hx⟩ : ∃ z_, (around f 1000) = z_ := ⟨_, rfl⟩
  rw [hx] at A1 f0 f1
  have hdm : d.tmod 9223372036854775808 = d % 9223372036854775808 := Int.tmod_eq_emod_of_nonneg d0
  have e0 : 0 ≤ d % 9223372036854775808 := by omega
  have e1 : d % 9223372036854775808 < 9223372036854775808 := by omega
  obtain ⟨b, hb⟩ : ∃ z, d % 9223372036854775808 = z := ⟨_, rfl⟩
  rw [hb] at hdm e0 e1
  have wd : IntKind.u64.wrap (d.tmod 9223372036854775808) = b := by rw [hdm, IntKind.wrap_u64]; omega
  have wx : IntKind.u64.wrap x = x := by rw [IntKind.wrap_u64]; omega
  clear hdm hx l1 u1
  replace hv0 := Lib.hid hv0
  go_enter Try.func6, Try.ntmps6
  go_wp2_with fail
  first | with_reducible refine (MD.out).mono ?_ | refine (MD.out).mono ?_
  rintro e w1 ⟨v, R, rfl, hm, ho, hb1⟩
  have hp := (own_parts ho (by have := hm.len; omega) hm.i64).ok hm.ok
  have hpos := hm.ahd_pos
  have hle := hm.ahd_le R.length (Nat.le_refl _)
  have hlen := hm.len
  have hpp := pick_pos hm b
  have hpm : ∀ m, ahd R R.length = m → pickF R (b + x * m) = pickF R b := fun m h => pick_mod (by rw [h]; exact Int.add_mul_emod_self_right b x m)
  have PK := Lib.hid (fun d d0 d1 w' (hb : Bl w1 w') => pick_any v R d d0 d1 w' (hp.bl hb))
  have SM := Lib.hid (fun w' (hb : Bl w1 w') => sum_any v R w' (hp.bl hb))
  clear hp ho MD
  obtain ⟨m, hmm⟩ : ∃ m, ahd R R.length = m := ⟨_, rfl⟩
  have hpm := hpm m hmm
  rw [hmm] at hpos hle
  simp only [hmm] at SM
  have hxm := Int.mul_le_mul (show x ≤ 999 by omega) (show m ≤ 36 by omega) (show 0 ≤ m by omega) (show (0 : Int) ≤ 999 by omega)
  have hxm0 := Int.mul_nonneg f0 (show 0 ≤ m by omega)
  obtain ⟨p, hp⟩ : ∃ p, x * m = p := ⟨_, rfl⟩
  rw [hp] at hpm hxm hxm0
  have wm : IntKind.u64.wrap m = m := by rw [IntKind.wrap_u64]; omega
  have wp : IntKind.u64.wrap (x * m) = p := by rw [hp, IntKind.wrap_u64]; omega
  have wb : IntKind.u64.wrap (b + p) = b + p := by rw [IntKind.wrap_u64]; omega
  have P1 := Lib.hid (fun w' hb => PK.out b (by omega) (by omega) w' hb)
  have P2 := Lib.hid (fun w' hb => PK.out (b + p) (by omega) (by omega) w' hb)
  simp only [hpm] at P2
  obtain ⟨P, hP⟩ : ∃ z_, (pickF R b) = z_ := ⟨_, rfl⟩
  simp only [hP] at P1 P2
  rw [hP] at hpp
  have hPP : (P == P) = true := by simp
  have hP0 : decide (P > 0) = true := decide_eq_true (by omega)
  have hq := Lib.hid (Bl.rfl' w1)
  clear hP PK hpm hmm hp hxm hxm0
  replace hb1 := Lib.hid hb1
  replace hm := Lib.hid hm
  go_wp2_with fail
  rw [hb]
  first | with_reducible refine (A1.out _).mono ?_ | refine (A1.out _).mono ?_
  rintro e w' ⟨rfl, rfl⟩
  clear A1 hb
  go_wp2_with fail
  first | with_reducible refine (P1.out _ hq.out).mono ?_ | refine (P1.out _ hq.out).mono ?_
  rintro e w2 ⟨rfl, hb2⟩
  replace hq := Lib.hid (hq.out.tr hb2)
  clear hb2
  go_wp2_with fail
  first | with_reducible refine (SM.out _ hq.out).mono ?_ | refine (SM.out _ hq.out).mono ?_
  rintro e w3 ⟨rfl, hb2⟩
  replace hq := Lib.hid (hq.out.tr hb2)
  clear hb2
  go_wp2_with fail
  first | with_reducible refine (P2.out _ hq.out).mono ?_ | refine (P2.out _ hq.out).mono ?_
  rintro e w4 ⟨rfl, hb2⟩
  replace hq := Lib.hid (hq.out.tr hb2)
  clear hb2
  go_wp2_with fail
  first | with_reducible refine (P1.out _ hq.out).mono ?_ | refine (P1.out _ hq.out).mono ?_
  rintro e w5 ⟨rfl, hb2⟩
  replace hq := Lib.hid (hq.out.tr hb2)
  clear hb2
  go_wp2_with fail
  first | with_reducible refine (LV.out _).mono ?_ | refine (LV.out _).mono ?_
  rintro e w6 ⟨rfl, hb2⟩
  go_wp2_with fail
  go_ret
  exact ⟨rfl, (hb1.out.tr hq.out).tr hb2⟩
end Go.Proofs.Ytndlglkokbchbaa.splitRound
