/-
  FixRoots is true for every input: a root's square is no greater, the next one's is, a square's root is what was squared, and roots keep the order. No condition.
-/
import Derived.Test.YtpobachhplbamaaLives01
import Derived.Test.YtpobachhplbamaaFixC
namespace Go.Proofs.Ytpobachhplbamaa.fixRoots
open Go.ChangeShapes Go.WideShapes Go.ChangeAt Go.RowKit
set_option linter.unusedVariables false
set_option linter.unusedSimpArgs false

theorem sq_lt {x y : Int} (h0 : 0 ≤ x) (h : x ≤ y) : x * x ≤ y * y := Int.mul_le_mul h h h0 (by omega)
theorem root_uniq {n r s : Int} (r0 : 0 ≤ r) (s0 : 0 ≤ s) (h1 : r * r ≤ n) (h2 : n < (r + 1) * (r + 1)) (h3 : s * s ≤ n) (h4 : n < (s + 1) * (s + 1)) : r = s := by
  rcases Int.lt_trichotomy r s with h | h | h
  · have := sq_lt (x := r + 1) (y := s) (by omega) (by omega); omega
  · exact h
  · have := sq_lt (x := s + 1) (y := r) (by omega) (by omega); omega
theorem root_mono {n m r s : Int} (s0 : 0 ≤ s) (h : n ≤ m) (h1 : r * r ≤ n) (h4 : m < (s + 1) * (s + 1)) : r ≤ s := by
  rcases Int.lt_or_le s r with h | h
  · have := sq_lt (x := s + 1) (y := r) (by omega) (by omega); omega
  · exact h
def RootI (n : Int) (w : World) (e : Ending) (w' : World) : Prop := ∃ r : Int, e = .returned (.int .i64 r) ∧ w = w' ∧ 0 ≤ r ∧ r ≤ 2147483647 ∧ r * r ≤ n ∧ n < (r + 1) * (r + 1)
theorem root_int (n : Int) (w : World) (h0 : 0 ≤ n) (h1 : n ≤ 4611686018427387903) : Calls Try.prog 24 #[.int .i64 n] w (RootI n w) := by
  obtain ⟨n, rfl⟩ := Int.eq_ofNat_of_zero_le h0
  refine (root_any n w (by omega)).mono ?_
  rintro e w' ⟨r, rfl, rfl, h2, h3, h4⟩
  have e1 : (r : Int) * (r : Int) = ((r * r : Nat) : Int) := (Int.natCast_mul r r).symm
  have e2 : ((r : Int) + 1) * ((r : Int) + 1) = (((r + 1) * (r + 1) : Nat) : Int) := by push_cast; rfl
  exact ⟨r, rfl, rfl, by omega, by omega, by rw [e1]; omega, by rw [e2]; omega⟩

set_option maxHeartbeats 1000000 in
theorem walk (n : Int) (l0 : -9223372036854775808 ≤ n) (u0 : n ≤ 9223372036854775807) (m : Int) (l1 : -9223372036854775808 ≤ m) (u1 : m ≤ 9223372036854775807) (w : World) :
    Calls Try.prog 7 #[.int .i64 n, .int .i64 m] w fun e w' => e = .returned (.bool true) ∧ Bl w w' := by
  have A0 := fun w => some_any n w l0 u0
  have A1 := fun w => some_any m w l1 u1
  have A2 := fun w => around_any m 2147483648 w l1 u1 (by omega) (by omega)
  have a0 := around_lo n 4611686018427387904 (by omega); have a1 := around_hi n 4611686018427387904 (by omega)
  have b0 := around_lo m 4611686018427387904 (by omega); have b1 := around_hi m 4611686018427387904 (by omega)
  have s0 := around_lo m 2147483648 (by omega); have s1 := around_hi m 2147483648 (by omega)
  obtain ⟨a, ha⟩ : ∃ a, around n 4611686018427387904 = a := ⟨_, rfl⟩
  obtain ⟨b, hb⟩ : ∃ a, around m 4611686018427387904 = a := ⟨_, rfl⟩
  obtain ⟨s, hs⟩ : ∃ a, around m 2147483648 = a := ⟨_, rfl⟩
  rw [ha] at A0 a1 a0; rw [hb] at A1 b1 b0; rw [hs] at A2 s1 s0
  have B0 := Lib.hid A0; have B1 := Lib.hid A1; have B2 := Lib.hid A2
  clear ha hb hs A0 A1 A2
  obtain ⟨ss, hss⟩ : ∃ x, s * s = x := ⟨_, rfl⟩
  have ss0 : 0 ≤ ss := by rw [← hss]; exact Int.mul_nonneg s0 s0
  have ss1 : ss ≤ 4611686014132420609 := by
    rw [← hss]
    have := sq_lt (x := s) (y := 2147483647) s0 (by omega); omega
  have hs5 : ss < (s + 1) * (s + 1) := by rw [Int.add_mul, Int.mul_add, hss]; omega
  have HS5 := Lib.hid hs5
  clear hs5
  go_enter Try.func7, Try.ntmps7
  go_wp2_with fail
  refine (B0.out _).mono ?_
  rintro e w' ⟨rfl, rfl⟩
  go_wp2_with fail
  refine (B1.out _).mono ?_
  rintro e w' ⟨rfl, rfl⟩
  go_wp2_with fail
  refine (root_int a _ a0 (by omega)).mono ?_
  rintro e w' ⟨r, rfl, rfl, r0, r3, r1, r2⟩
  obtain ⟨p, hp⟩ : ∃ x, r * r = x := ⟨_, rfl⟩
  obtain ⟨q, hq⟩ : ∃ x, (r + 1) * (r + 1) = x := ⟨_, rfl⟩
  have R1 := Lib.hid r1; have R2 := Lib.hid r2
  rw [hp] at r1; rw [hq] at r2
  have p0 : 0 ≤ p := by rw [← hp]; exact Int.mul_nonneg r0 r0
  have q1 : q ≤ 4611686018427387904 := by
    rw [← hq]
    have := sq_lt (x := r + 1) (y := 2147483648) (by omega) (by omega); omega
  have t1 : decide (r < 0) = false := by simp; omega
  have t2 : decide (a < p) = false := by simp; omega
  have t3 : decide (q ≤ a) = false := by simp; omega
  go_wp2_with fail
  refine (B2.out _).mono ?_
  rintro e w' ⟨rfl, rfl⟩
  go_wp2_with fail
  refine (root_int ss _ ss0 (by omega)).mono ?_
  rintro e w' ⟨t, rfl, rfl, t0, t4, x1, x2⟩
  have hts : t = s := root_uniq t0 s0 x1 x2 (by rw [hss]; exact Int.le_refl _) HS5.out
  subst hts
  clear x1 x2
  have u : (t == t) = true := by simp
  by_cases hab : b < a
  · have v : decide (b < a) = true := by simpa using hab
    go_wp2_with fail
    refine (lives01 _).mono ?_
    rintro e w8 ⟨rfl, hb8⟩
    go_wp2_with fail
    go_ret
    exact ⟨rfl, hb8⟩
  · have v : decide (b < a) = false := by simp; omega
    go_wp2_with fail
    refine (root_int b _ b0 (by omega)).mono ?_
    rintro e w' ⟨f, rfl, rfl, f0, f1, x1, x2⟩
    have hm : r ≤ f := root_mono f0 (show a ≤ b by omega) R1.out x2
    clear x1 x2
    have v2 : decide (r ≤ f) = true := by simpa using hm
    go_wp2_with fail
    refine (lives01 _).mono ?_
    rintro e w8 ⟨rfl, hb8⟩
    go_wp2_with fail
    go_ret
    exact ⟨rfl, hb8⟩
end Go.Proofs.Ytpobachhplbamaa.fixRoots
