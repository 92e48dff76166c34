/-
  LeaseSums is true for every input: what is leased in one window, whoever asks, is the limit, in slices, and then nothing; where it is forgotten nothing more. No condition.
-/
import Derived.Test.YtifmoekgnbgnmaaLeaC
namespace Go.Proofs.Ytifmoekgnbgnmaa.leaseSums
open Go.ChangeShapes Go.WideShapes Go.ChangeAt Go.RowKit
open Go.Proofs.Ytifmoekgnbgnmaa.lease
set_option linter.unusedVariables false
set_option linter.unusedSimpArgs false

theorem next_window {t W : Int} (w0 : 1 ≤ W) : (t + W) / W = t / W + 1 := by
  have := Int.add_mul_ediv_right t 1 (show W ≠ 0 by omega)
  rwa [Int.one_mul] at this

set_option maxHeartbeats 4000000 in
theorem walk {w : World} (n : Int) (n0 : -9223372036854775808 ≤ n) (n1 : n ≤ 9223372036854775807) (f : Int) (f0 : -9223372036854775808 ≤ f) (f1 : f ≤ 9223372036854775807) (g : Int) (g0 : -9223372036854775808 ≤ g) (g1 : g ≤ 9223372036854775807) :
    Calls Try.prog 9 #[.int .i64 n, .int .i64 f, .int .i64 g] w fun e w' => e = .returned (.bool true) ∧ Bl w w' := by
  have A0 := fun w => around_any f 1001 w f0 f1 (by omega) (by omega)
  have t0 := around_lo f 1001 (by omega); have t1 := around_hi f 1001 (by omega)
  obtain ⟨t, ht⟩ : ∃ t, around f 1001 = t := ⟨_, rfl⟩
  rw [ht] at A0 t0 t1
  clear ht f0 f1
  have A1 := fun w => around_any g 16 w g0 g1 (by omega) (by omega)
  have c0 := around_lo g 16 (by omega); have c1 := around_hi g 16 (by omega)
  obtain ⟨c, hc⟩ : ∃ t, around g 16 = t := ⟨_, rfl⟩
  rw [hc] at A1 c0 c1
  clear hc g0 g1
  obtain ⟨c, rfl⟩ : ∃ x : Nat, c = x := ⟨c.toNat, by omega⟩
  replace A0 := Lib.hid A0
  replace A1 := Lib.hid A1
  have Ra := Lib.hid (fun w => rate_any n w n0 n1)
  go_enter Try.func9, Try.ntmps9
  go_wp2_with fail
  refine (Ra.out _).mono ?_
  rintro e w1 ⟨L, W, S, rfl, hk, L12, W9, hb1⟩
  have hk' := hk
  obtain ⟨L0, L1, W0, W1, S0, S1⟩ := hk'
  go_wp2_with fail
  refine (A0.out _).mono ?_
  rintro e w2 ⟨rfl, rfl⟩
  go_wp2_with fail
  refine (limiter_any L W S _).mono ?_
  rintro e w3 ⟨p, rfl, hp, hl, hb3⟩
  have hv3 := var_bl (heap_alloc_new w1 (.cells #[I L, I W, I S] 23)) hb3
  obtain ⟨x, hx⟩ : ∃ x, w1.heap.size = x := ⟨_, rfl⟩
  have hxp : x ≠ p := by simp at hp; omega
  have hb0 : Bl w w3 := hb1.tr (((Bl.rfl' w1).al _).tr hb3)
  have hwp : w.heap.size ≤ p := by have := hb1.size; simp at hp; omega
  rw [hx] at hv3
  clear hb3 hp hb1
  replace hk := Lib.hid hk
  have Wn := Lib.hid (next_window (t := t) W0)
  go_wp2_with fail
  refine (A1.out _).mono ?_
  rintro e w4 ⟨rfl, rfl⟩
  go_wp2_with fail
  go_loopw [10, 12] (fun s i wr => ∃ (j : Nat) (kk m s0 : Int), j ≤ c ∧ i = I j ∧ s = I s0 ∧ s0 = min L (j * S) ∧ 0 ≤ s0 ∧ s0 ≤ L ∧ 0 ≤ m ∧ m ≤ L ∧ cur W kk m t = s0 ∧ wr.heap[x]? = some (.cells #[I L, I W, I S] 23 (0, 0)) ∧ LB 65 wr p L W S kk m ∧ Bl w wr) (fun _ i _ => c - (intOf i).toNat)
  case atStart => exact ⟨0, 0, 0, 0, by omega, rfl, rfl, by simp; omega, by omega, by omega, by omega, by omega, by unfold cur; split <;> rfl, hv3, hl, hb0⟩
  case round =>
    obtain ⟨j, kk, m, s, hj, rfl, rfl, hs, hs0, hs1, m0, m1, hcur, hvr, hlr, hbr⟩ := hrel
    clear hv3 hl hb0
    by_cases hlt : j < c
    · have A := ask_any wr p L W S kk m t hlr hk.out t0 (by omega) m0 m1
      rw [hcur] at A
      have ha : lease.ask L S s = min S (L - s) := rfl
      obtain ⟨a, haa⟩ : ∃ a, lease.ask L S s = a := ⟨_, rfl⟩
      rw [haa] at A ha
      replace A := Lib.hid A
      have hns : s + a = min L (((j + 1 : Nat) : Int) * S) := by
        rw [show ((j + 1 : Nat) : Int) = (j : Int) + 1 by omega, Int.add_mul]
        generalize (j : Int) * S = z at hs
        omega
      have hmS : a < S → s + a = L := by omega
      have ha0 : 0 ≤ a ∧ a ≤ S ∧ s + a ≤ L := by omega
      replace hs := Lib.hid hs; replace hns := Lib.hid hns; replace ha := Lib.hid ha
      clear hcur hlr
      have hmS' := Lib.hid hmS
      clear hmS
      by_cases haS : a < S
      · have hsa := hmS'.out haS
        have hne : (L != L) = false := by simp
        obtain ⟨d0, d1, d2⟩ := var_cells hvr
        go_wp2_with fail
        refine A.out.mono ?_
        rintro e w5 ⟨rfl, hl5, hg⟩
        have hv5 := var_gby hvr hg hxp
        have hb5 := hbr.gp hg hwp
        clear hvr hg hbr A d0 d1 d2
        obtain ⟨d0, d1, d2⟩ := var_cells hv5
        go_wp2_with fail
        go_roundw
        case rel => exact ⟨j + 1, t / W, s + a, s + a, by omega, by go_num, by rw [hsa], hns.out, by omega, by omega, by omega, by omega, if_pos rfl, hv5, hl5, hb5⟩
        case measure => simp [intOf]; omega
      · obtain ⟨d0, d1, d2⟩ := var_cells hvr
        go_wp2_with fail
        refine A.out.mono ?_
        rintro e w5 ⟨rfl, hl5, hg⟩
        have hv5 := var_gby hvr hg hxp
        have hb5 := hbr.gp hg hwp
        clear hvr hg hbr A d0 d1 d2
        obtain ⟨d0, d1, d2⟩ := var_cells hv5
        go_wp2_with fail
        go_roundw
        case rel => exact ⟨j + 1, t / W, s + a, s + a, by omega, by go_num, rfl, hns.out, by omega, by omega, by omega, by omega, if_pos rfl, hv5, hl5, hb5⟩
        case measure => simp [intOf]; omega
    · obtain rfl : j = c := by omega
      have hcS : 0 ≤ (j : Int) * S ∧ (j : Int) * S ≤ 1000 := by
        have h1 : (j : Int) * S ≤ 16 * S := Int.mul_le_mul_of_nonneg_right (by omega) (by omega)
        exact ⟨Int.mul_nonneg (by omega) (by omega), by omega⟩
      have hwcS : IntKind.i64.wrap ((j : Int) * S) = (j : Int) * S := by rw [IntKind.wrap_i64]; generalize (j : Int) * S = z at hcS; omega
      obtain ⟨z, hz⟩ : ∃ z, (j : Int) * S = z := ⟨_, rfl⟩
      rw [hz] at hs hcS hwcS
      have hif : (if z < L then z else L) = s := by rw [hs]; split <;> omega
      have hne : (s != s) = false := by simp
      have F := Lib.hid (forget_any wr p L W S kk m t hlr hk.out t0 (by omega))
      obtain ⟨d0, d1, d2⟩ := var_cells hvr
      have hqb := div_bd t0 (show t ≤ 1000000 by omega) W0
      clear hcur hlr
      replace hs := Lib.hid hs
      go_wp2_with fail
      refine F.out.mono ?_
      rintro e w5 ⟨rfl, hl5, hg⟩
      have hv5 := var_gby hvr hg hxp
      have hb5 := hbr.gp hg hwp
      clear hvr hg hbr F d0 d1 d2 hif hne hs
      have A := ask_any w5 p L W S (t / W) L t hl5 hk.out t0 (by omega) (by omega) (by omega)
      rw [show cur W (t / W) L t = L from if_pos rfl, show lease.ask L S L = 0 by unfold lease.ask; omega, Int.add_zero] at A
      replace A := Lib.hid A
      clear hl5
      go_wp2_with fail
      refine A.out.mono ?_
      rintro e w6 ⟨rfl, hl6, hg⟩
      have hv6 := var_gby hv5 hg hxp
      have hb6 := hb5.gp hg hwp
      clear hv5 hg hb5 A
      have A := ask_any w6 p L W S (t / W) L (t + W) hl6 hk.out (by omega) (by omega) (by omega) (by omega)
      rw [show cur W (t / W) L (t + W) = 0 from if_neg (by rw [Wn.out]; omega), show lease.ask L S 0 = S by unfold lease.ask; omega] at A
      replace A := Lib.hid A
      obtain ⟨d0, d1, d2⟩ := var_cells hv6
      clear hl6
      go_wp2_with fail
      refine A.out.mono ?_
      rintro e w7 ⟨rfl, hl7, hg⟩
      have hv7 := var_gby hv6 hg hxp
      have hb7 := hb6.gp hg hwp
      clear hv6 hg hb6 A hl7 d0 d1 d2
      obtain ⟨d0, d1, d2⟩ := var_cells hv7
      go_wp2_with fail
      refine (lives24 _).mono ?_
      rintro e w8 ⟨rfl, hb8⟩
      go_wp2_with fail
      go_ret
      exact ⟨rfl, hb7.tr hb8⟩
end Go.Proofs.Ytifmoekgnbgnmaa.leaseSums
