/-
  Contracts of layer 1's Cmp, and of its reference.
-/
import Derived.Test.YtpobachhplbamaaLives01
import Derived.Test.YtpobachhplbamaaFixC
namespace Go.Proofs.Ytpobachhplbamaa
open Go.ChangeShapes Go.WideShapes Go.ChangeAt Go.RowKit
set_option linter.unusedVariables false
set_option linter.unusedSimpArgs false

def cmpq (a b c d : Int) : Int := cmpi (a * d) (c * b)
theorem size_any (n : Int) (w : World) (h0 : n < 0) (h1 : -9223372036854775808 ≤ n) :
    Calls Try.prog 37 #[.int .i64 n] w fun e w' => e = .returned (.int .u64 (-n)) ∧ w = w' := by
  have e1 : IntKind.u64.wrap n = n + 18446744073709551616 := by rw [IntKind.wrap_u64]; omega
  have e2 : IntKind.u64.wrap (-(n + 18446744073709551616)) = -n := by rw [IntKind.wrap_u64]; omega
  go_enter Try.func37, Try.ntmps37
  go_wp2_with fail
  go_ret
  exact ⟨rfl, rfl⟩

theorem cmp_any (a b c d : Int) (w : World) (a0 : -9223372036854775808 ≤ a) (a1 : a ≤ 9223372036854775807) (b0 : 0 < b) (b1 : b ≤ 9223372036854775807) (c0 : -9223372036854775808 ≤ c) (c1 : c ≤ 9223372036854775807) (d0 : 0 < d) (d1 : d ≤ 9223372036854775807) :
    Calls Try.prog 28 #[.int .i64 a, .int .i64 b, .int .i64 c, .int .i64 d] w fun e w' => e = .returned (.int .i64 (cmpq a b c d)) ∧ Bl w w' := by
  unfold cmpq
  rcases Int.lt_or_le a 0 with ha | ha
  · rcases Int.lt_or_le c 0 with hc | hc
    · have e : cmpi (a * d) (c * b) = cmpi (-c * b) (-a * d) := cmpi_congr (by rw [Int.neg_mul, Int.neg_mul]; omega)
      rw [e]
      clear e
      go_enter Try.func28, Try.ntmps28
      go_wp2_with fail
      refine (size_any c _ hc c0).mono ?_
      rintro e w' ⟨rfl, rfl⟩
      go_wp2_with fail
      refine (product_any (-c) b _ (by omega) (by omega) (by omega) (by omega)).mono ?_
      rintro e w1 ⟨rfl, k1⟩
      go_wp2_with fail
      refine (size_any a _ ha a0).mono ?_
      rintro e w' ⟨rfl, rfl⟩
      go_wp2_with fail
      refine (product_any (-a) d _ (by omega) (by omega) (by omega) (by omega)).mono ?_
      rintro e w2 ⟨rfl, k2⟩
      go_wp2_with fail
      refine (wcmp_any (-c * b) (-a * d) _).mono ?_
      rintro e w3 ⟨rfl, k3⟩
      go_wp2_with fail
      go_ret
      exact ⟨rfl, Bl.tr (Bl.tr k1 k2) k3⟩
    · have e : cmpi (a * d) (c * b) = -1 := cmpi_lt (by have := Int.mul_neg_of_neg_of_pos ha d0; have := Int.mul_nonneg hc (Int.le_of_lt b0); omega)
      rw [e]
      clear e
      go_enter Try.func28, Try.ntmps28
      go_wp2_with fail
      go_ret
      exact ⟨rfl, Bl.rfl' _⟩
  · rcases Int.lt_or_le c 0 with hc | hc
    · have e : cmpi (a * d) (c * b) = 1 := cmpi_gt (by have := Int.mul_neg_of_neg_of_pos hc b0; have := Int.mul_nonneg ha (Int.le_of_lt d0); omega)
      rw [e]
      clear e
      go_enter Try.func28, Try.ntmps28
      go_wp2_with fail
      go_ret
      exact ⟨rfl, Bl.rfl' _⟩
    · go_enter Try.func28, Try.ntmps28
      go_wp2_with fail
      refine (product_any a d _ (by omega) (by omega) (by omega) (by omega)).mono ?_
      rintro e w1 ⟨rfl, k1⟩
      go_wp2_with fail
      refine (product_any c b _ (by omega) (by omega) (by omega) (by omega)).mono ?_
      rintro e w2 ⟨rfl, k2⟩
      go_wp2_with fail
      refine (wcmp_any (a * d) (c * b) _).mono ?_
      rintro e w3 ⟨rfl, k3⟩
      go_wp2_with fail
      go_ret
      exact ⟨rfl, Bl.tr (Bl.tr k1 k2) k3⟩

/-- How two quotients compare by what is whole, and by what is left. -/
theorem cmpq_whole {a b c d : Int} (hb : 0 < b) (hd : 0 < d) : (a / b < c / d → cmpq a b c d = -1) ∧ (c / d < a / b → cmpq a b c d = 1) ∧
    (a / b = c / d → cmpq a b c d = cmpi (a % b * d) (c % d * b)) := by
  have ea := Int.mul_ediv_add_emod a b
  have ec := Int.mul_ediv_add_emod c d
  have p0 := Int.emod_nonneg a (show b ≠ 0 by omega)
  have p1 := Int.emod_lt_of_pos a hb
  have q0 := Int.emod_nonneg c (show d ≠ 0 by omega)
  have q1 := Int.emod_lt_of_pos c hd
  unfold cmpq
  generalize a / b = x at *
  generalize c / d = y at *
  generalize a % b = p at *
  generalize c % d = q at *
  have e1 : a * d = x * (b * d) + p * d := by rw [← ea, Int.add_mul, Int.mul_comm b x, Int.mul_assoc]
  have e2 : c * b = y * (b * d) + q * b := by rw [← ec, Int.add_mul, Int.mul_comm d y, Int.mul_assoc, Int.mul_comm d b]
  have hbd : 0 < b * d := Int.mul_pos hb hd
  have pd0 : 0 ≤ p * d := Int.mul_nonneg p0 (by omega)
  have pd1 : p * d < b * d := Int.mul_lt_mul_of_pos_right p1 hd
  have qb0 : 0 ≤ q * b := Int.mul_nonneg q0 (by omega)
  have qb1 : q * b < b * d := by rw [Int.mul_comm b d]; exact Int.mul_lt_mul_of_pos_right q1 hb
  generalize b * d = m at *
  refine ⟨fun h => cmpi_lt ?_, fun h => cmpi_gt ?_, fun h => cmpi_congr (by rw [e1, e2, h]; omega)⟩
  · have : (x + 1) * m ≤ y * m := Int.mul_le_mul_of_nonneg_right (by omega) (by omega)
    rw [Int.add_mul] at this; omega
  · have : (y + 1) * m ≤ x * m := Int.mul_le_mul_of_nonneg_right (by omega) (by omega)
    rw [Int.add_mul] at this; omega

theorem left_wrap {a b : Int} (hb : 0 < b) (hb1 : b ≤ 9223372036854775807) (h1 : -9223372036854775808 ≤ a) (h2 : a ≤ 9223372036854775807) : wrap64 (a - wrap64 (a / b * b)) = a % b := by
  have e := Int.mul_ediv_add_emod a b
  have p0 := Int.emod_nonneg a (show b ≠ 0 by omega)
  have p1 := Int.emod_lt_of_pos a hb
  rw [Int.mul_comm] at e
  generalize a / b * b = m at *
  unfold wrap64
  omega

set_option maxHeartbeats 1000000 in
theorem rcmp_any : ∀ (n : Nat) (a b c d : Int) (w : World) (hn : (b + d).toNat ≤ n) (a0 : -9223372036854775808 ≤ a) (a1 : a ≤ 9223372036854775807) (b0 : 0 < b) (b1 : b ≤ 9223372036854775807) (c0 : -9223372036854775808 ≤ c) (c1 : c ≤ 9223372036854775807) (d0 : 0 < d) (d1 : d ≤ 9223372036854775807),
    Calls Try.prog 29 #[.int .i64 a, .int .i64 b, .int .i64 c, .int .i64 d] w fun e w' => e = .returned (.int .i64 (cmpq a b c d)) ∧ w = w'
  | 0, a, b, c, d, w, hn, a0, a1, b0, b1, c0, c1, d0, d1 => by omega
  | n + 1, a, b, c, d, w, hn, a0, a1, b0, b1, c0, c1, d0, d1 => by
    have ih := rcmp_any n
    have ih := Lib.hid ih
    obtain ⟨k1, k2, k3⟩ := cmpq_whole (a := a) (c := c) b0 d0
    have lp := left_wrap b0 b1 a0 a1
    have lq := left_wrap d0 d1 c0 c1
    have p0 := Int.emod_nonneg a (show b ≠ 0 by omega)
    have p1 := Int.emod_lt_of_pos a b0
    have q0 := Int.emod_nonneg c (show d ≠ 0 by omega)
    have q1 := Int.emod_lt_of_pos c d0
    have D1 := fun w => rdown_any a b w a0 a1 b0 b1
    have D2 := fun w => rdown_any c d w c0 c1 d0 d1
    obtain ⟨x, hx⟩ : ∃ x, a / b = x := ⟨_, rfl⟩
    obtain ⟨y, hy⟩ : ∃ y, c / d = y := ⟨_, rfl⟩
    obtain ⟨p, hp⟩ : ∃ p, a % b = p := ⟨_, rfl⟩
    obtain ⟨q, hq⟩ : ∃ q, c % d = q := ⟨_, rfl⟩
    rw [hx] at k1 k2 k3 lp D1
    rw [hy] at k1 k2 k3 lq D2
    rw [hp] at k3 lp p0 p1
    rw [hq] at k3 lq q0 q1
    have D1 := Lib.hid D1; have D2 := Lib.hid D2
    clear hx hy hp hq
    rcases Int.lt_trichotomy x y with h | h | h
    · rw [k1 h]
      clear k1 k2 k3 lp lq
      go_enter Try.func29, Try.ntmps29
      go_wp2_with fail
      refine (D1.out _).mono ?_
      rintro e w' ⟨rfl, rfl⟩
      go_wp2_with fail
      refine (D2.out _).mono ?_
      rintro e w' ⟨rfl, rfl⟩
      go_wp2_with fail
      go_ret
      exact ⟨rfl, rfl⟩
    · rw [k3 h]
      subst h
      clear k1 k2 k3
      rcases (show p = 0 ∨ 0 < p by omega) with hp | hp
      · subst hp
        rcases (show q = 0 ∨ 0 < q by omega) with hq | hq
        · subst hq
          rw [cmpi_eq (by omega)]
          go_enter Try.func29, Try.ntmps29
          go_wp2_with fail
          refine (D1.out _).mono ?_
          rintro e w' ⟨rfl, rfl⟩
          go_wp2_with fail
          refine (D2.out _).mono ?_
          rintro e w' ⟨rfl, rfl⟩
          go_wp2_with fail
          go_ret
          exact ⟨rfl, rfl⟩
        · have hq' : ((q : Int) == 0) = false := beq_eq_false_iff_ne.2 (by omega)
          rw [cmpi_lt (by have := Int.mul_pos hq b0; omega)]
          go_enter Try.func29, Try.ntmps29
          go_wp2_with fail
          refine (D1.out _).mono ?_
          rintro e w' ⟨rfl, rfl⟩
          go_wp2_with fail
          refine (D2.out _).mono ?_
          rintro e w' ⟨rfl, rfl⟩
          go_wp2_with fail
          go_ret
          exact ⟨rfl, rfl⟩
      · have hp' : ((p : Int) == 0) = false := beq_eq_false_iff_ne.2 (by omega)
        rcases (show q = 0 ∨ 0 < q by omega) with hq | hq
        · subst hq
          rw [cmpi_gt (by have := Int.mul_pos hp d0; omega)]
          go_enter Try.func29, Try.ntmps29
          go_wp2_with fail
          refine (D1.out _).mono ?_
          rintro e w' ⟨rfl, rfl⟩
          go_wp2_with fail
          refine (D2.out _).mono ?_
          rintro e w' ⟨rfl, rfl⟩
          go_wp2_with fail
          go_ret
          exact ⟨rfl, rfl⟩
        · have hq' : ((q : Int) == 0) = false := beq_eq_false_iff_ne.2 (by omega)
          have e : cmpi (p * d) (q * b) = cmpq d q b p := by unfold cmpq; exact cmpi_congr (by rw [Int.mul_comm p d, Int.mul_comm q b])
          rw [e]
          clear e
          go_enter Try.func29, Try.ntmps29
          go_wp2_with fail
          refine (D1.out _).mono ?_
          rintro e w' ⟨rfl, rfl⟩
          go_wp2_with fail
          refine (D2.out _).mono ?_
          rintro e w' ⟨rfl, rfl⟩
          go_wp2_with fail
          refine (ih.out d q b p _ (by omega) (by omega) (by omega) (by omega) (by omega) (by omega) (by omega) (by omega) (by omega)).mono ?_
          rintro e w' ⟨rfl, rfl⟩
          go_wp2_with fail
          go_ret
          exact ⟨rfl, rfl⟩
    · rw [k2 h]
      clear k1 k2 k3 lp lq
      go_enter Try.func29, Try.ntmps29
      go_wp2_with fail
      refine (D1.out _).mono ?_
      rintro e w' ⟨rfl, rfl⟩
      go_wp2_with fail
      refine (D2.out _).mono ?_
      rintro e w' ⟨rfl, rfl⟩
      go_wp2_with fail
      go_ret
      exact ⟨rfl, rfl⟩
end Go.Proofs.Ytpobachhplbamaa
