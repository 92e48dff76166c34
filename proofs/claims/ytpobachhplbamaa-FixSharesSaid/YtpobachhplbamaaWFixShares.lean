/-
  FixShares is true for every input: parts bound what they are parts of, rise with it, and those of two numbers together are the part of both, or one less. No condition.
-/
import Derived.Test.YtpobachhplbamaaLives01
namespace Go.Proofs.Ytpobachhplbamaa.fixShares
open Go.ChangeShapes Go.WideShapes Go.ChangeAt Go.RowKit
set_option linter.unusedVariables false
set_option linter.unusedSimpArgs false

theorem mul_in2 {a b : Int} (a0 : 0 ≤ a) (a1 : a ≤ 2147483648) (b0 : 0 ≤ b) (b1 : b ≤ 2147483648) : 0 ≤ a * b ∧ a * b ≤ 4611686018427387904 := by
  have := mul_in a0 a1 b0 b1; omega

theorem part_small {a k d : Int} (a0 : 0 ≤ a) (a1 : a ≤ 2147483647) (k0 : 0 ≤ k) (k1 : k ≤ 2147483647) (d0 : 0 < d) : part a k d = a * k / d ∧ 0 ≤ a * k / d ∧ a * k / d ≤ 4611686014132420609 := by
  have h1 := mul_in a0 a1 k0 k1
  have h2 := Int.ediv_nonneg h1.1 (Int.le_of_lt d0)
  have h3 := Int.ediv_le_self d h1.1
  refine ⟨?_, h2, by omega⟩
  unfold part; omega

theorem part_self {a d : Int} (a0 : 0 ≤ a) (a1 : a ≤ 4611686018427387903) (d0 : 0 < d) : part a d d = a := by
  unfold part; rw [Int.mul_ediv_cancel _ (by omega)]; omega

theorem part_comm (a k d : Int) : part a k d = part k a d := by unfold part; rw [Int.mul_comm]

theorem facts {a b k d : Int} (d0 : 0 < d) : ∃ x y z, a * k / d = x ∧ b * k / d = y ∧ (a + b) * k / d = z ∧ x * d ≤ a * k ∧ a * k < (x + 1) * d ∧ x + y ≤ z ∧ z ≤ x + y + 1 := by
  have e1 := Int.mul_ediv_add_emod (a * k) d
  have e2 := Int.mul_ediv_add_emod (b * k) d
  have m1 := Int.emod_nonneg (a * k) (show d ≠ 0 by omega)
  have n1 := Int.emod_lt_of_pos (a * k) d0
  have m2 := Int.emod_nonneg (b * k) (show d ≠ 0 by omega)
  have n2 := Int.emod_lt_of_pos (b * k) d0
  refine ⟨_, _, _, rfl, rfl, rfl, by rw [Int.mul_comm]; omega, by rw [Int.add_mul, Int.mul_comm (a * k / d)]; omega, ?_, ?_⟩
  · rw [Int.le_ediv_iff_mul_le d0, Int.add_mul, Int.add_mul, Int.mul_comm (a * k / d), Int.mul_comm (b * k / d)]; omega
  · have : (a + b) * k / d < a * k / d + b * k / d + 2 := by
      rw [Int.ediv_lt_iff_lt_mul d0, Int.add_mul, Int.add_mul, Int.add_mul, Int.mul_comm (a * k / d), Int.mul_comm (b * k / d)]; omega
    omega

set_option maxHeartbeats 1000000 in
theorem walk (n : Int) (l0 : -9223372036854775808 ≤ n) (u0 : n ≤ 9223372036854775807) (m : Int) (l1 : -9223372036854775808 ≤ m) (u1 : m ≤ 9223372036854775807)
    (num : Int) (l2 : -9223372036854775808 ≤ num) (u2 : num ≤ 9223372036854775807) (den : Int) (l3 : -9223372036854775808 ≤ den) (u3 : den ≤ 9223372036854775807) (w : World) :
    Calls Try.prog 6 #[.int .i64 n, .int .i64 m, .int .i64 num, .int .i64 den] w fun e w' => e = .returned (.bool true) ∧ Bl w w' := by
  have A0 := fun w => around_any n 1073741824 w l0 u0 (by omega) (by omega)
  have A1 := fun w => around_any m 1073741824 w l1 u1 (by omega) (by omega)
  have A2 := fun w => around_any num 1073741824 w l2 u2 (by omega) (by omega)
  have A3 := fun w => around_any den 1073741824 w l3 u3 (by omega) (by omega)
  have SM := fun w => some_any n w l0 u0
  have a0 := around_lo n 1073741824 (by omega); have a1 := around_hi n 1073741824 (by omega)
  have b0 := around_lo m 1073741824 (by omega); have b1 := around_hi m 1073741824 (by omega)
  have k0 := around_lo num 1073741824 (by omega); have k1 := around_hi num 1073741824 (by omega)
  have d0 := around_lo den 1073741824 (by omega); have d1 := around_hi den 1073741824 (by omega)
  have s0 := around_lo n 4611686018427387904 (by omega); have s1 := around_hi n 4611686018427387904 (by omega)
  obtain ⟨a, ha⟩ : ∃ a, around n 1073741824 = a := ⟨_, rfl⟩
  obtain ⟨b, hb⟩ : ∃ a, around m 1073741824 = a := ⟨_, rfl⟩
  obtain ⟨k, hk⟩ : ∃ a, around num 1073741824 = a := ⟨_, rfl⟩
  obtain ⟨c, hc⟩ : ∃ a, around den 1073741824 = a := ⟨_, rfl⟩
  obtain ⟨s, hs⟩ : ∃ a, around n 4611686018427387904 = a := ⟨_, rfl⟩
  rw [ha] at A0 a0 a1; rw [hb] at A1 b0 b1; rw [hk] at A2 k0 k1; rw [hc] at A3 d0 d1; rw [hs] at SM s0 s1
  have A0 := Lib.hid A0; have A1 := Lib.hid A1; have A2 := Lib.hid A2; have A3 := Lib.hid A3; have SM := Lib.hid SM
  clear ha hb hk hc hs
  obtain ⟨d, hd⟩ : ∃ d, 1 + c = d := ⟨_, rfl⟩
  have d2 : 0 < d := by omega
  have d3 : d ≤ 1073741824 := by omega
  obtain ⟨x, y, z, hx, hy, hz, f1, f2, f3, f4⟩ := facts (a := a) (b := b) (k := k) d2
  obtain ⟨p1, p2, p3⟩ := part_small (a := a) (k := k) (d := d) a0 (by omega) k0 (by omega) d2
  obtain ⟨p4, p5, p6⟩ := part_small (a := b) (k := k) (d := d) b0 (by omega) k0 (by omega) d2
  obtain ⟨p7, p8, p9⟩ := part_small (a := a + b) (k := k) (d := d) (by omega) (by omega) k0 (by omega) d2
  rw [hx] at p1 p2 p3; rw [hy] at p4 p5 p6; rw [hz] at p7 p8 p9
  have p10 := part_self (a := a) (d := d) a0 (by omega) d2
  have p11 := part_comm k a d
  rw [p1] at p11
  have p12 := part_self (a := s) (d := d) s0 (by omega) d2
  have P1 := Lib.hid p1; have P4 := Lib.hid p4; have P7 := Lib.hid p7; have P10 := Lib.hid p10; have P11 := Lib.hid p11; have P12 := Lib.hid p12
  obtain ⟨m1, m2⟩ := mul_in2 (a := a) (b := k) a0 (by omega) k0 (by omega)
  clear p1 p4 p7 p10 p11 p12 hx hy hz
  obtain ⟨ak, hak⟩ : ∃ t, a * k = t := ⟨_, rfl⟩
  obtain ⟨xd, hxd⟩ : ∃ t, x * d = t := ⟨_, rfl⟩
  have hx1 : (x + 1) * d = xd + d := by rw [Int.add_mul, hxd]; omega
  rw [hak] at m1 m2 f1 f2; rw [hxd] at f1; rw [hx1] at f2
  have xd0 : 0 ≤ xd := by rw [← hxd]; exact Int.mul_nonneg p2 (by omega)
  have k3 : decide (ak < xd) = false := by simp; omega
  have k4 : decide (xd + d ≤ ak) = false := by simp; omega
  have k5 : decide (z < x) = false := by simp; omega
  have k6 : decide (z < x + y) = false := by simp; omega
  have k7 : decide (x + y + 1 < z) = false := by simp; omega
  have q1 : (a == a) = true := by simp
  have q2 : (x == x) = true := by simp
  have q3 : (s == s) = true := by simp
  go_enter Try.func6, Try.ntmps6
  go_wp2_with fail
  refine (A0.out _).mono ?_
  rintro e w' ⟨rfl, rfl⟩
  go_wp2_with fail
  refine (A1.out _).mono ?_
  rintro e w' ⟨rfl, rfl⟩
  go_wp2_with fail
  refine (A2.out _).mono ?_
  rintro e w' ⟨rfl, rfl⟩
  go_wp2_with fail
  refine (A3.out _).mono ?_
  rintro e w' ⟨rfl, rfl⟩
  go_wp2_with fail
  refine (part_any a k d _ (by omega) (by omega) (by omega) (by omega) (by omega) (by omega)).mono ?_
  rintro e w1 ⟨rfl, hb1⟩
  rw [P1.out]
  go_wp2_with fail
  refine (part_any b k d _ (by omega) (by omega) (by omega) (by omega) (by omega) (by omega)).mono ?_
  rintro e w2 ⟨rfl, hb2⟩
  rw [P4.out]
  go_wp2_with fail
  refine (part_any (a + b) k d _ (by omega) (by omega) (by omega) (by omega) (by omega) (by omega)).mono ?_
  rintro e w3 ⟨rfl, hb3⟩
  rw [P7.out]
  go_wp2_with fail
  refine (part_any a d d _ (by omega) (by omega) (by omega) (by omega) (by omega) (by omega)).mono ?_
  rintro e w4 ⟨rfl, hb4⟩
  rw [P10.out]
  go_wp2_with fail
  refine (part_any a k d _ (by omega) (by omega) (by omega) (by omega) (by omega) (by omega)).mono ?_
  rintro e w5 ⟨rfl, hb5⟩
  rw [P1.out]
  go_wp2_with fail
  refine (part_any k a d _ (by omega) (by omega) (by omega) (by omega) (by omega) (by omega)).mono ?_
  rintro e w6 ⟨rfl, hb6⟩
  rw [P11.out]
  go_wp2_with fail
  refine (SM.out _).mono ?_
  rintro e w' ⟨rfl, rfl⟩
  go_wp2_with fail
  refine (part_any s d d _ (by omega) (by omega) (by omega) (by omega) (by omega) (by omega)).mono ?_
  rintro e w7 ⟨rfl, hb7⟩
  rw [P12.out]
  go_wp2_with fail
  refine (SM.out _).mono ?_
  rintro e w' ⟨rfl, rfl⟩
  go_wp2_with fail
  refine (lives01 _).mono ?_
  rintro e w8 ⟨rfl, hb8⟩
  go_wp2_with fail
  go_ret
  exact ⟨rfl, ((((((hb1.tr hb2).tr hb3).tr hb4).tr hb5).tr hb6).tr hb7).tr hb8⟩
end Go.Proofs.Ytpobachhplbamaa.fixShares
