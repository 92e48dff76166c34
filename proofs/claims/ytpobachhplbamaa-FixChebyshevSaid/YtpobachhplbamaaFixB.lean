/-
  Contracts of layer 1's Part, Root, Sum and Cmp, and of their references.
-/
import Derived.Test.YtpobachhplbamaaDivA
namespace Go.Proofs.Ytpobachhplbamaa
open Go.ChangeShapes Go.WideShapes Go.ChangeAt Go.RowKit
set_option linter.unusedVariables false
set_option linter.unusedSimpArgs false




theorem div64_zero (lo y : Int) (w : World) (h1 : 0 < y) (h2 : y ≤ 18446744073709551615) (l0 : 0 ≤ lo) (l1 : lo ≤ 18446744073709551615) : Calls Try.prog 35 #[.int .u64 0, .int .u64 lo, .int .u64 y] w fun e w' => ∃ r, e = .returned (.tuple #[.int .u64 (lo / y), .int .u64 r]) ∧ Bl w w' := by
  have e1 : ((y : Int) == 0) = false := by simp; omega
  have e3 : decide ((y : Int) ≤ 0) = false := by simp; omega
  go_enter Try.func35, Try.ntmps35
  go_wp2_with fail
  go_quiet (fail)
  go_wp2_with fail
  all_goals go_ret2
  all_goals exact ⟨_, rfl, Bl.drewN _ _⟩

def SomeQ (q : Int) (w : World) (e : Ending) (w' : World) : Prop := ∃ r, e = .returned (.tuple #[.int .u64 q, .int .u64 r]) ∧ Bl w w'

theorem div64_any (hi lo y : Int) (w : World) (h0 : 0 ≤ hi) (h1 : hi < y) (h2 : y ≤ 18446744073709551615) (l0 : 0 ≤ lo) (l1 : lo ≤ 18446744073709551615) : Calls Try.prog 35 #[.int .u64 hi, .int .u64 lo, .int .u64 y] w (SomeQ ((hi * 18446744073709551616 + lo) / y) w) := by
  by_cases h : hi = 0
  · subst h
    exact (div64_zero lo y w (by omega) h2 l0 l1).mono fun e w' ⟨r, he, hb⟩ => ⟨r, by rw [he]; exact M.ret2 (by rw [Int.zero_mul, Int.zero_add]), hb⟩
  · exact (div64_pos hi lo y w (by omega) h1 h2 l0 l1).mono fun e w' ⟨r, he, hb⟩ => ⟨r, he, hb ▸ Bl.rfl' _⟩

/-! ### Part -/
def part (n num den : Int) : Int := min (n * num / den) 4611686018427387903

theorem part_hi {n num den : Int} (hd : 0 < den) (h : den * 18446744073709551616 ≤ n * num) : part n num den = 4611686018427387903 := by
  have : 18446744073709551616 ≤ n * num / den := by rw [Int.le_ediv_iff_mul_le hd]; omega
  unfold part; omega

theorem part_range {n num den : Int} (hn : 0 ≤ n) (hm : 0 ≤ num) (hd : 0 < den) : 0 ≤ part n num den ∧ part n num den ≤ 4611686018427387903 := by
  have : 0 ≤ n * num / den := Int.ediv_nonneg (Int.mul_nonneg hn hm) (by omega)
  unfold part; omega

theorem part_any (n num den : Int) (w : World) (hn : 0 ≤ n) (hn1 : n ≤ 4611686018427387904) (hm : 0 ≤ num) (hm1 : num ≤ 4611686018427387904) (hd : 0 < den) (hd1 : den ≤ 4611686018427387904) :
    Calls Try.prog 22 #[.int .i64 n, .int .i64 num, .int .i64 den] w fun e w' => e = .returned (.int .i64 (part n num den)) ∧ Bl w w' := by
  obtain ⟨n, rfl⟩ := Int.eq_ofNat_of_zero_le hn
  obtain ⟨num, rfl⟩ := Int.eq_ofNat_of_zero_le hm
  have hp := Nat.div_add_mod (n * num) 18446744073709551616
  have hl := Nat.mod_lt (n * num) (show 0 < 18446744073709551616 by omega)
  have hc : (n : Int) * (num : Int) = ((n * num : Nat) : Int) := (Int.natCast_mul n num).symm
  have hb : ((n * num / 18446744073709551616 : Nat) : Int) ≤ 1152921504606846976 := by
    have : n * num ≤ 4611686018427387904 * 4611686018427387904 := Nat.mul_le_mul (by omega) (by omega)
    omega
  obtain ⟨hi, hhi⟩ : ∃ hi : Nat, n * num / 18446744073709551616 = hi := ⟨_, rfl⟩
  obtain ⟨lo, hlo⟩ : ∃ lo : Nat, n * num % 18446744073709551616 = lo := ⟨_, rfl⟩
  rw [hhi, hlo] at hp
  rw [hlo] at hl
  rw [hhi] at hb
  have Hp := Lib.hid hp; clear hp
  have Hc := Lib.hid hc; clear hc
  by_cases h : den ≤ (hi : Int)
  · have hq : part n num den = 4611686018427387903 := part_hi hd (by rw [Hc.out]; have := Hp.out; omega)
    have Hq := Lib.hid hq; clear hq
    go_enter Try.func22, Try.ntmps22
    go_wp2_with fail
    refine (Try.bits_Mul64 n num (by omega) (by omega) _).mono ?_
    rintro e w' ⟨rfl, rfl⟩
    rw [hhi, hlo]
    clear hhi hlo
    go_wp2_with fail
    go_ret
    exact ⟨ret_int (by rw [Hq.out]), Bl.rfl' _⟩
  · have hq : part n num den = min (((hi : Int) * 18446744073709551616 + lo) / den) 4611686018427387903 := by
      unfold part; rw [Hc.out, ← Hp.out]; congr 2; omega
    have hq0 : 0 ≤ ((hi : Int) * 18446744073709551616 + lo) / den := Int.ediv_nonneg (by omega) (by omega)
    have hq1 : ((hi : Int) * 18446744073709551616 + lo) / den < 18446744073709551616 := Int.ediv_lt_of_lt_mul hd (by omega)
    have Hq := Lib.hid hq; clear hq
    have hD := div64_any hi lo den
    obtain ⟨q, hqq⟩ : ∃ q, ((hi : Int) * 18446744073709551616 + lo) / den = q := ⟨_, rfl⟩
    rw [hqq] at hD hq0 hq1 Hq
    clear hqq
    have HD := Lib.hid hD; clear hD
    go_enter Try.func22, Try.ntmps22
    go_wp2_with fail
    refine (Try.bits_Mul64 n num (by omega) (by omega) _).mono ?_
    rintro e w' ⟨rfl, rfl⟩
    rw [hhi, hlo]
    clear hhi hlo
    go_wp2_with fail
    refine (HD.out _ (by omega) (by omega) (by omega) (by omega) (by omega)).mono ?_
    rintro e w' ⟨r, rfl, hb1⟩
    go_wp2_with fail
    go_ret
    exact ⟨ret_int (by rw [Hq.out]), hb1⟩
end Go.Proofs.Ytpobachhplbamaa
