/-
  SplitEach is true for every input: of the first n just n divided by k are of each k-th. No condition.
-/
import Derived.Test.YtndlglkokbchbaaSpI
import Derived.Deep.CutRange
namespace Go.Proofs.Ytndlglkokbchbaa.splitEach
open Go.ChangeShapes Go.WideShapes Go.ChangeAt Go.RowKit
open Go.Proofs.Ytndlglkokbchbaa.split
set_option linter.unusedVariables false
set_option linter.unusedSimpArgs false

theorem each_low {k n : Int} (h : k < 1 ∨ n < 1) : eachF k n = false := by
  unfold eachF
  rcases h with h | h
  · rw [decide_eq_false (show ¬ 0 < k by omega)]; rfl
  · rw [decide_eq_false (show ¬ 0 < n by omega), Bool.false_and, Bool.and_false]
theorem div_step (a i : Int) (ha : 0 < a) : (i + 1) / a = i / a + if (i + 1) % a = 0 then 1 else 0 := by
  have h1 := Int.mul_ediv_add_emod i a
  have h2 := Int.mul_ediv_add_emod (i + 1) a
  have h3 := Int.emod_nonneg i (show a ≠ 0 by omega)
  have h4 := Int.emod_lt_of_pos i ha
  have h5 := Int.emod_nonneg (i + 1) (show a ≠ 0 by omega)
  have h6 := Int.emod_lt_of_pos (i + 1) ha
  obtain ⟨q, hq⟩ : ∃ q, i / a = q := ⟨_, rfl⟩
  obtain ⟨r, hr⟩ : ∃ r, i % a = r := ⟨_, rfl⟩
  obtain ⟨q2, hq2⟩ : ∃ q, (i + 1) / a = q := ⟨_, rfl⟩
  obtain ⟨r2, hr2⟩ : ∃ r, (i + 1) % a = r := ⟨_, rfl⟩
  rw [hq, hr] at h1
  rw [hq2, hr2] at h2
  rw [hr] at h3 h4
  rw [hr2] at h5 h6
  rw [hq, hq2, hr2]
  have h7 : a * (q2 - q) = r + 1 - r2 := by rw [Int.mul_sub]; omega
  by_cases hz : r2 = 0
  · rw [if_pos hz]
    have : q2 - q = 1 := by
      rcases Int.lt_trichotomy (q2 - q) 1 with h | h | h
      · have := Int.mul_le_mul_of_nonneg_left (show q2 - q ≤ 0 by omega) (show 0 ≤ a by omega)
        omega
      · exact h
      · have := Int.mul_le_mul_of_nonneg_left (show 2 ≤ q2 - q by omega) (show 0 ≤ a by omega)
        omega
    omega
  · rw [if_neg hz]
    have : q2 - q = 0 := by
      rcases Int.lt_trichotomy (q2 - q) 0 with h | h | h
      · have := Int.mul_le_mul_of_nonneg_left (show q2 - q ≤ -1 by omega) (show 0 ≤ a by omega)
        omega
      · exact h
      · have := Int.mul_le_mul_of_nonneg_left (show 1 ≤ q2 - q by omega) (show 0 ≤ a by omega)
        omega
    omega
/-- Each (a c)-th is each a-th of each c-th. -/
theorem each_both {a c i : Int} (ha : 0 < a) (hc : 0 < c) (hi : 0 < i) : eachF (a * c) i = (eachF c i && eachF a (i / c)) := by
  have hac : 0 < a * c := Int.mul_pos ha hc
  unfold eachF
  rw [decide_eq_true hac, decide_eq_true hi, decide_eq_true hc, decide_eq_true ha]
  simp only [Bool.true_and]
  by_cases h1 : i % c = 0
  · rw [decide_eq_true h1, Bool.true_and]
    have hd : i = c * (i / c) := by have := Int.mul_ediv_add_emod i c; omega
    have hq : 0 < i / c := by
      rcases Int.lt_or_le 0 (i / c) with h | h
      · exact h
      · have := Int.mul_le_mul_of_nonneg_left h (show 0 ≤ c by omega)
        omega
    rw [decide_eq_true hq, Bool.true_and]
    obtain ⟨q, hqe⟩ : ∃ q, i / c = q := ⟨_, rfl⟩
    rw [hqe] at hd ⊢
    subst hd
    rw [Int.mul_comm a c, Int.mul_emod_mul_of_pos _ _ hc]
    congr 1
    apply propext
    constructor
    · intro h
      rcases Int.mul_eq_zero.1 h with h | h
      · omega
      · exact h
    · intro h; rw [h]; exact Int.mul_zero c
  · rw [decide_eq_false h1, Bool.false_and]
    refine decide_eq_false (fun h => h1 ?_)
    exact Int.emod_eq_zero_of_dvd (Int.dvd_trans ⟨a, Int.mul_comm a c⟩ (Int.dvd_of_emod_eq_zero h))

set_option maxHeartbeats 8000000 in
theorem walk {w : World} (k : Int) (l1 : -9223372036854775808 ≤ k) (u1 : k ≤ 9223372036854775807) (n : Int) (l2 : -9223372036854775808 ≤ n) (u2 : n ≤ 9223372036854775807) (m : Int) (l3 : -9223372036854775808 ≤ m) (u3 : m ≤ 9223372036854775807) :
    Calls Try.prog 9 #[I k, I n, I m] w fun e w' => e = .returned (.bool true) ∧ Bl w w' := by
  have EE := Lib.hid (fun k n w' h1 h2 h3 h4 => each_any k n w' h1 h2 h3 h4)
  have A1 := Lib.hid (fun w => around_any k 12 w l1 u1 (by omega) (by omega))
  have A2 := Lib.hid (fun w => around_any n 61 w l2 u2 (by omega) (by omega))
  have A3 := Lib.hid (fun w => around_any m 5 w l3 u3 (by omega) (by omega))
  have f0 := around_lo k 12 (by omega); have f1 := around_hi k 12 (by omega)
  have g0 := around_lo n 61 (by omega); have g1 := around_hi n 61 (by omega)
  have h0 := around_lo m 5 (by omega); have h1 := around_hi m 5 (by omega)
  obtain ⟨xa, hxa⟩ : ∃ z_, (around k 12) = z_ := ⟨_, rfl⟩
  rw [hxa] at A1 f0 f1
  obtain ⟨xb, hxb⟩ : ∃ z_, (around n 61) = z_ := ⟨_, rfl⟩
  rw [hxb] at A2 g0 g1
  obtain ⟨xc, hxc⟩ : ∃ z_, (around m 5) = z_ := ⟨_, rfl⟩
  rw [hxc] at A3 h0 h1
  obtain ⟨a, ha⟩ : ∃ z, 1 + xa = z := ⟨_, rfl⟩
  obtain ⟨c, hc⟩ : ∃ z, 1 + xc = z := ⟨_, rfl⟩
  obtain ⟨B, hB⟩ : ∃ B : Nat, xb = (B : Int) := ⟨xb.toNat, by omega⟩
  subst hB
  have fwa : IntKind.i64.wrap (1 + xa) = a := by rw [IntKind.wrap_i64]; omega
  have fwc : IntKind.i64.wrap (1 + xc) = c := by rw [IntKind.wrap_i64]; omega
  have a0 : 1 ≤ a := by omega
  have a1 : a ≤ 12 := by omega
  have c0 : 1 ≤ c := by omega
  have c1 : c ≤ 5 := by omega
  have LV := Lib.hid lives_any
  have EL := each_low (k := k) (n := n)
  clear hxa hxb hxc ha hc f0 f1 h0 h1
  replace EL := Lib.hid EL
  go_enter Try.func9, Try.ntmps9
  go_upto_region 1 with fail
  go_cut [27] from 12 to 27 (fun v wx => v = .bool false ∧ wx = w)
  case first =>
    by_cases hk : k < 1
    · have d1 : decide (k < 1) = true := decide_eq_true hk
      have hf := EL.out (Or.inl hk)
      have E := Lib.hid (EE.out k n w (by omega) (by omega) (by omega) (by omega))
      rw [hf] at E
      by_cases hn : n < 1
      · have d2 : decide (n < 1) = true := decide_eq_true hn
        clear hf
        go_wp2_with fail
        first | with_reducible refine (E.out).mono ?_ | refine (E.out).mono ?_
        rintro e w' ⟨rfl, rfl⟩
        go_wp2_with fail
        first | with_reducible refine (E.out).mono ?_ | refine (E.out).mono ?_
        rintro e w' ⟨rfl, rfl⟩
        go_wp2_with fail
        go_meet
        case rel => exact ⟨rfl, rfl⟩
      · have d2 : decide (n < 1) = false := decide_eq_false hn
        clear hf
        go_wp2_with fail
        first | with_reducible refine (E.out).mono ?_ | refine (E.out).mono ?_
        rintro e w' ⟨rfl, rfl⟩
        go_wp2_with fail
        go_meet
        case rel => exact ⟨rfl, rfl⟩
    · have d1 : decide (k < 1) = false := decide_eq_false hk
      by_cases hn : n < 1
      · have d2 : decide (n < 1) = true := decide_eq_true hn
        have hf := EL.out (Or.inr hn)
        have E := Lib.hid (EE.out k n w (by omega) (by omega) (by omega) (by omega))
        rw [hf] at E
        clear hf
        go_wp2_with fail
        first | with_reducible refine (E.out).mono ?_ | refine (E.out).mono ?_
        rintro e w' ⟨rfl, rfl⟩
        go_wp2_with fail
        go_meet
        case rel => exact ⟨rfl, rfl⟩
      · have d2 : decide (n < 1) = false := decide_eq_false hn
        go_wp2_with fail
        go_meet
        case rel => exact ⟨rfl, rfl⟩
  case rest =>
    obtain ⟨rfl, rfl⟩ := hcut
    clear l1 u1 l2 u2 l3 u3 EL
    go_wp2_with fail
    first | with_reducible refine (A1.out _).mono ?_ | refine (A1.out _).mono ?_
    rintro e w' ⟨rfl, rfl⟩
    go_wp2_with fail
    first | with_reducible refine (A2.out _).mono ?_ | refine (A2.out _).mono ?_
    rintro e w' ⟨rfl, rfl⟩
    go_wp2_with fail
    first | with_reducible refine (A3.out _).mono ?_ | refine (A3.out _).mono ?_
    rintro e w' ⟨rfl, rfl⟩
    clear A1 A2 A3
    go_wp2_with fail
    clear fwa fwc
    go_loopw [10, 11] (fun s i wr => ∃ j : Nat, j ≤ B ∧ i = I ((j : Int) + 1) ∧ s = I ((j : Int) / a) ∧ wc = wr) (fun _ i _ => B + 1 - (intOf i).toNat)
    case atStart => exact ⟨0, by omega, rfl, by simp, rfl⟩
    case round =>
      obtain ⟨j, hj, rfl, rfl, rfl⟩ := hrel
      by_cases hlt : j < B
      · have e1 : decide ((j : Int) + 1 ≤ (B : Int)) = true := decide_eq_true (by omega)
        have hac := Int.mul_le_mul_of_nonneg_left c1 (show 0 ≤ a by omega)
        have hac0 := Int.mul_pos (show 0 < a by omega) (show 0 < c by omega)
        have hboth := each_both (a := a) (c := c) (i := (j : Int) + 1) (by omega) (by omega) (by omega)
        have hds := div_step a j (by omega)
        have hE1 : eachF a ((j : Int) + 1) = decide (((j : Int) + 1) % a = 0) := by
          unfold eachF
          rw [decide_eq_true (show 0 < a by omega), decide_eq_true (show 0 < (j : Int) + 1 by omega)]
          rfl
        have hq0 := Int.ediv_nonneg (show 0 ≤ (j : Int) + 1 by omega) (show 0 ≤ c by omega)
        have hq1 := Int.ediv_le_self c (show 0 ≤ (j : Int) + 1 by omega)
        have hs0 := Int.ediv_nonneg (show 0 ≤ (j : Int) by omega) (show 0 ≤ a by omega)
        have hs1 := Int.ediv_le_self a (show 0 ≤ (j : Int) by omega)
        have htd : ((j : Int) + 1).tdiv c = ((j : Int) + 1) / c := Int.tdiv_eq_ediv_of_nonneg (by omega)
        have hcn : ¬ c = 0 := by omega
        obtain ⟨q, hq⟩ : ∃ q, ((j : Int) + 1) / c = q := ⟨_, rfl⟩
        rw [hq] at hboth hq0 hq1 htd
        obtain ⟨p, hp⟩ : ∃ p, a * c = p := ⟨_, rfl⟩
        rw [hp] at hboth hac hac0
        obtain ⟨s, hs⟩ : ∃ s, (j : Int) / a = s := ⟨_, rfl⟩
        rw [hs] at hds hs0 hs1
        have wq : IntKind.i64.wrap (((j : Int) + 1).tdiv c) = q := by rw [htd, IntKind.wrap_i64]; omega
        have wp : IntKind.i64.wrap (a * c) = p := by rw [hp, IntKind.wrap_i64]; omega
        have ws : IntKind.i64.wrap (s + 1) = s + 1 := by rw [IntKind.wrap_i64]; omega
        have wt : IntKind.i64.wrap ((j : Int) + 1 + 1) = (j : Int) + 1 + 1 := by rw [IntKind.wrap_i64]; omega
        have C1 := Lib.hid (EE.out a ((j : Int) + 1) wc (by omega) (by omega) (by omega) (by omega))
        have C2 := Lib.hid (EE.out p ((j : Int) + 1) wc (by omega) (by omega) (by omega) (by omega))
        have C3 := Lib.hid (EE.out c ((j : Int) + 1) wc (by omega) (by omega) (by omega) (by omega))
        have C4 := Lib.hid (EE.out a q wc (by omega) (by omega) (by omega) (by omega))
        rw [hE1] at C1
        rw [hboth] at C2
        rw [hs]
        clear hboth hE1 hq hp hs htd hac hac0 hq0 hq1
        obtain ⟨X, hX⟩ : ∃ z_, (eachF c ((j : Int) + 1)) = z_ := ⟨_, rfl⟩
        rw [hX] at C2 C3
        obtain ⟨Y, hY⟩ : ∃ z_, (eachF a q) = z_ := ⟨_, rfl⟩
        rw [hY] at C2 C4
        clear hX hY
        replace hds := Lib.hid hds
        by_cases hz : ((j : Int) + 1) % a = 0
        · rw [decide_eq_true hz] at C1
          replace hds := hds.out
          rw [if_pos hz] at hds
          clear hz
          replace hds := Lib.hid hds
          go_wp2_with fail
          first | with_reducible refine (C1.out).mono ?_ | refine (C1.out).mono ?_
          rintro e w' ⟨rfl, rfl⟩
          go_wp2_with fail
          first | with_reducible refine (C2.out).mono ?_ | refine (C2.out).mono ?_
          rintro e w' ⟨rfl, rfl⟩
          go_wp2_with fail
          first | with_reducible refine (C3.out).mono ?_ | refine (C3.out).mono ?_
          rintro e w' ⟨rfl, rfl⟩
          cases X with
          | false =>
            have hbb : ((false && Y) != false) = false := by simp
            go_wp2_with fail
            go_roundw
            case rel => exact ⟨j + 1, by omega, by first | rfl | go_num, by first | (rw [Int.natCast_add]; exact congrArg I hds.out.symm) | (show I (s + 1) = _; rw [← hds.out]; rfl), trivial⟩
            case measure => simp [intOf] <;> omega
          | true =>
            have hbb : ((true && Y) != Y) = false := by simp
            have hbb2 : (Y != Y) = false := by simp
            go_wp2_with fail
            first | with_reducible refine (C4.out).mono ?_ | refine (C4.out).mono ?_
            rintro e w' ⟨rfl, rfl⟩
            go_wp2_with fail
            go_roundw
            case rel => exact ⟨j + 1, by omega, by first | rfl | go_num, by first | (rw [Int.natCast_add]; exact congrArg I hds.out.symm) | (show I (s + 1) = _; rw [← hds.out]; rfl), trivial⟩
            case measure => simp [intOf] <;> omega
        · rw [decide_eq_false hz] at C1
          replace hds := hds.out
          rw [if_neg hz, Int.add_zero] at hds
          clear hz
          replace hds := Lib.hid hds
          go_wp2_with fail
          first | with_reducible refine (C1.out).mono ?_ | refine (C1.out).mono ?_
          rintro e w' ⟨rfl, rfl⟩
          go_wp2_with fail
          first | with_reducible refine (C2.out).mono ?_ | refine (C2.out).mono ?_
          rintro e w' ⟨rfl, rfl⟩
          go_wp2_with fail
          first | with_reducible refine (C3.out).mono ?_ | refine (C3.out).mono ?_
          rintro e w' ⟨rfl, rfl⟩
          cases X with
          | false =>
            have hbb : ((false && Y) != false) = false := by simp
            go_wp2_with fail
            go_roundw
            case rel => exact ⟨j + 1, by omega, by first | rfl | go_num, by first | (rw [Int.natCast_add]; exact congrArg I hds.out.symm) | (show I (s) = _; rw [← hds.out]; rfl), trivial⟩
            case measure => simp [intOf] <;> omega
          | true =>
            have hbb : ((true && Y) != Y) = false := by simp
            have hbb2 : (Y != Y) = false := by simp
            go_wp2_with fail
            first | with_reducible refine (C4.out).mono ?_ | refine (C4.out).mono ?_
            rintro e w' ⟨rfl, rfl⟩
            go_wp2_with fail
            go_roundw
            case rel => exact ⟨j + 1, by omega, by first | rfl | go_num, by first | (rw [Int.natCast_add]; exact congrArg I hds.out.symm) | (show I (s) = _; rw [← hds.out]; rfl), trivial⟩
            case measure => simp [intOf] <;> omega
      · have hjB : j = B := by omega
        have e1 : decide ((j : Int) + 1 ≤ (B : Int)) = false := decide_eq_false (by omega)
        have htd : (B : Int).tdiv a = (j : Int) / a := by rw [hjB]; exact Int.tdiv_eq_ediv_of_nonneg (by omega)
        have hs0 := Int.ediv_nonneg (show 0 ≤ (j : Int) by omega) (show 0 ≤ a by omega)
        have hs1 := Int.ediv_le_self a (show 0 ≤ (j : Int) by omega)
        have han : ¬ a = 0 := by omega
        obtain ⟨s, hs⟩ : ∃ s, (j : Int) / a = s := ⟨_, rfl⟩
        rw [hs] at htd hs0 hs1
        rw [hs]
        have wq : IntKind.i64.wrap ((B : Int).tdiv a) = s := by rw [htd, IntKind.wrap_i64]; omega
        have hBs : (B : Int) / a = s := by rw [← hs, hjB]
        have wq3 : IntKind.i64.wrap s = s := by rw [IntKind.wrap_i64]; omega
        have wq4 : wrap64 s = s := by unfold wrap64; omega
        have hss : (s == s) = true := by simp
        clear hs hjB htd
        go_wp2_with fail
        first | with_reducible refine (LV.out _).mono ?_ | refine (LV.out _).mono ?_
        rintro e w2 ⟨rfl, hb2⟩
        go_wp2_with fail
        go_ret
        exact ⟨rfl, hb2⟩
end Go.Proofs.Ytndlglkokbchbaa.splitEach
