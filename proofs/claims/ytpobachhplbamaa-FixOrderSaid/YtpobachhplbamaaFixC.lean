/-
  Contracts of layer 1's Root, Sum and Cmp, and of their references.
-/
import Derived.Test.YtpobachhplbamaaFixB
namespace Go.Proofs.Ytpobachhplbamaa
open Go.ChangeShapes Go.WideShapes Go.ChangeAt Go.RowKit
set_option linter.unusedVariables false
set_option linter.unusedSimpArgs false

namespace M
theorem bits_or_i64_nat (a b : Nat) (ha : a < 9223372036854775808) (hb : b < 9223372036854775808) :
    bits .or .i64 (a : Int) (b : Int) = ((a ||| b : Nat) : Int) := by
  have hx : a ||| b < 2 ^ 63 := Nat.or_lt_two_pow (by omega) (by omega)
  have h1 : (BitVec.ofInt 64 (a : Int)).toNat = a := by
    rw [BitVec.ofInt_natCast, BitVec.toNat_ofNat]; exact Nat.mod_eq_of_lt (by omega)
  have h2 : (BitVec.ofInt 64 (b : Int)).toNat = b := by
    rw [BitVec.ofInt_natCast, BitVec.toNat_ofNat]; exact Nat.mod_eq_of_lt (by omega)
  show IntKind.i64.wrap ((BitVec.ofInt 64 (a : Int) ||| BitVec.ofInt 64 (b : Int)).toNat : Int) = _
  rw [BitVec.toNat_or, h1, h2]
  exact IntWalk.i64_in _ (by omega)

theorem root_bit (r k : Nat) (h : r % 2 ^ (k + 1) = 0) (hk : k ≤ 30) (hb : r + 2 ^ (k + 1) ≤ 2147483648) : bits .or .i64 (r : Int) (wrap64 (2 ^ k)) = ((r + 2 ^ k : Nat) : Int) := by
  have hp : 2 ^ k ≤ 2 ^ 30 := Nat.pow_le_pow_right (by omega) hk
  have e : ((2 : Int) ^ k) = ((2 ^ k : Nat) : Int) := by push_cast; rfl
  have ew : wrap64 ((2 : Int) ^ k) = ((2 ^ k : Nat) : Int) := by rw [e]; unfold wrap64; omega
  rw [ew, bits_or_i64_nat _ _ (by omega) (by omega)]
  have hd : r = 2 ^ (k + 1) * (r / 2 ^ (k + 1)) := by have := Nat.div_add_mod r (2 ^ (k + 1)); omega
  have hlt : 2 ^ k < 2 ^ (k + 1) := Nat.pow_lt_pow_right (by omega) (by omega)
  have := Nat.two_pow_add_eq_or_of_lt hlt (r / 2 ^ (k + 1))
  rw [← hd] at this
  rw [this]

theorem root_yes (n r k : Nat) (h : r % 2 ^ (k + 1) = 0) (h4 : r + 2 ^ (k + 1) ≤ 2147483648) (h3 : n < (r + 2 ^ (k + 1)) * (r + 2 ^ (k + 1))) :
    (r + 2 ^ k) % 2 ^ k = 0 ∧ n < (r + 2 ^ k + 2 ^ k) * (r + 2 ^ k + 2 ^ k) ∧ r + 2 ^ k + 2 ^ k ≤ 2147483648 ∧ r % 2 ^ k = 0 := by
  have e : r + 2 ^ k + 2 ^ k = r + 2 ^ (k + 1) := by rw [Nat.pow_succ]; omega
  have hm : r % 2 ^ k = 0 := by
    have : 2 ^ k ∣ 2 ^ (k + 1) := Nat.pow_dvd_pow 2 (by omega)
    have hr : 2 ^ (k + 1) ∣ r := Nat.dvd_of_mod_eq_zero h
    exact Nat.mod_eq_zero_of_dvd (Nat.dvd_trans this hr)
  refine ⟨by rw [Nat.add_mod_right]; exact hm, by rw [e]; exact h3, by omega, hm⟩
end M

def RootOf (n : Nat) (w : World) (e : Ending) (w' : World) : Prop := ∃ r : Nat, e = .returned (.int .i64 r) ∧ w' = w ∧ r * r ≤ n ∧ n < (r + 1) * (r + 1) ∧ r < 2147483648

theorem root_any (n : Nat) (w : World) (hn : n < 4611686018427387904) :
    Calls Try.prog 24 #[.int .i64 n] w (RootOf n w) := by
  go_enter Try.func24, Try.ntmps24
  go_wp2_with fail
  go_loop [3, 6] (fun a b => ∃ (i r : Nat), i ≤ 31 ∧ r % 2 ^ (31 - i) = 0 ∧ r * r ≤ n ∧ n < (r + 2 ^ (31 - i)) * (r + 2 ^ (31 - i)) ∧ r + 2 ^ (31 - i) ≤ 2147483648 ∧ a = .int .i64 r ∧ b = .int .i64 i) (fun _ b => 31 - (intOf b).toNat)
  case atStart => exact ⟨0, 0, by omega, by omega, by omega, by omega, by omega, rfl, rfl⟩
  case round =>
    obtain ⟨i, r, hi, h1, h2, h3, h4, rfl, rfl⟩ := hrel
    by_cases hlt : i < 31
    · have e1 : 31 - i = (30 - i) + 1 := by omega
      have e2 : 31 - (i + 1) = 30 - i := by omega
      rw [e1] at h1 h3 h4
      have hB := M.root_bit r (30 - i) h1 (by omega) h4
      obtain ⟨y1, y2, y3, y4⟩ := M.root_yes n r (30 - i) h1 h4 h3
      have hR : r + 2 ^ (30 - i) < 2147483648 := by have := Nat.two_pow_pos (30 - i); omega
      have E2 := Lib.hid e2
      clear e1 e2 h1 h3 h4
      obtain ⟨R, hRR⟩ : ∃ R : Nat, r + 2 ^ (30 - i) = R := ⟨_, rfl⟩
      rw [hRR] at hB y1 y2 y3 hR
      have hRm : (R : Int) * (R : Int) = ((R * R : Nat) : Int) := (Int.natCast_mul R R).symm
      have hRb : (R : Int) * (R : Int) ≤ 4611686018427387904 := by
        have : R * R ≤ 2147483648 * 2147483648 := Nat.mul_le_mul (by omega) (by omega)
        omega
      have hR0 : 0 ≤ (R : Int) * (R : Int) := by rw [hRm]; omega
      have HRm := Lib.hid hRm; clear hRm
      have Y1 := Lib.hid y1; have Y4 := Lib.hid y4; clear y1 y4
      have HRR := Lib.hid hRR; clear hRR
      by_cases hc : (R : Int) * (R : Int) ≤ n
      · go_wp2_with fail
        go_round
        case rel => exact ⟨i + 1, R, by omega, by rw [E2.out]; exact Y1.out, by have := HRm.out; omega, by rw [E2.out]; exact y2, by rw [E2.out]; exact y3, rfl, by go_num⟩
        case measure => simp [intOf]; omega
      · have hn2 : n < (r + 2 ^ (30 - i)) * (r + 2 ^ (30 - i)) := by rw [HRR.out]; have := HRm.out; omega
        have hr2 : r + 2 ^ (30 - i) ≤ 2147483648 := by rw [HRR.out]; omega
        have Hn2 := Lib.hid hn2; clear hn2
        go_wp2_with fail
        go_round
        case rel => exact ⟨i + 1, r, by omega, by rw [E2.out]; exact Y4.out, h2, by rw [E2.out]; exact Hn2.out, by rw [E2.out]; exact hr2, rfl, by go_num⟩
        case measure => simp [intOf]; omega
    · obtain rfl : i = 31 := by omega
      have Hf := Lib.hid h3
      clear h1 h3
      have h4' : r < 2147483648 := by omega
      clear h4
      go_wp2_with fail
      go_ret
      exact ⟨r, rfl, rfl, h2, Hf.out, h4'⟩

theorem rroot_any (n : Nat) (w : World) (hn : n < 4611686018427387904) :
    Calls Try.prog 25 #[.int .i64 n] w (RootOf n w) := by
  go_enter Try.func25, Try.ntmps25
  go_wp2_with fail
  go_loop [3, 4] (fun a b => ∃ (l h : Nat), l < h ∧ h ≤ 2147483648 ∧ l * l ≤ n ∧ n < h * h ∧ a = .int .i64 l ∧ b = .int .i64 h) (fun a b => (intOf b).toNat - (intOf a).toNat)
  case atStart => exact ⟨0, 2147483648, by omega, by omega, by omega, by omega, rfl, rfl⟩
  case round =>
    obtain ⟨l, h, h0, h1, h2, h3, rfl, rfl⟩ := hrel
    by_cases hlt : l + 1 < h
    · obtain ⟨m, hm⟩ : ∃ m : Nat, (l + h) / 2 = m := ⟨_, rfl⟩
      have hmi : ((l : Int) + (h : Int)) / 2 = (m : Int) := by omega
      have hml : l < m := by omega
      have hmh : m < h := by omega
      have hRm : (m : Int) * (m : Int) = ((m * m : Nat) : Int) := (Int.natCast_mul m m).symm
      have hRb : (m : Int) * (m : Int) ≤ 4611686018427387904 := by
        have : m * m ≤ 2147483648 * 2147483648 := Nat.mul_le_mul (by omega) (by omega)
        omega
      have hR0 : 0 ≤ (m : Int) * (m : Int) := by rw [hRm]; omega
      have HRm := Lib.hid hRm; clear hRm
      clear hm
      have H3 := Lib.hid h3; clear h3
      by_cases hc : (m : Int) * (m : Int) ≤ n
      · go_wp2_with fail
        go_round
        case rel => exact ⟨m, h, by omega, by omega, by have := HRm.out; omega, H3.out, by rw [hmi], rfl⟩
        case measure => simp [intOf]; omega
      · go_wp2_with fail
        go_round
        case rel => exact ⟨l, m, by omega, by omega, h2, by have := HRm.out; omega, rfl, by rw [hmi]⟩
        case measure => simp [intOf]; omega
    · obtain rfl : h = l + 1 := by omega
      have H3 := Lib.hid h3; clear h3
      have h4 : l < 2147483648 := by omega
      clear h1
      go_wp2_with fail
      go_ret
      exact ⟨l, rfl, rfl, h2, H3.out, h4⟩

namespace M
theorem pstep {A r m num whole rest den c1 c2 r1 r2 : Int} (hw : whole * den + rest = num) (e : A * den + r = m * num) (h1 : 2 * r = r1 + c1 * den) (h2 : r1 + rest = r2 + c2 * den) :
    (2 * A + c1) * den + r1 = (2 * m) * num ∧ (2 * A + c1 + whole + c2) * den + r2 = (2 * m + 1) * num := by
  have a1 : (2 * A + c1) * den = 2 * (A * den) + c1 * den := by rw [Int.add_mul, Int.mul_assoc]
  have a2 : (2 * A + c1 + whole + c2) * den = 2 * (A * den) + c1 * den + whole * den + c2 * den := by rw [Int.add_mul, Int.add_mul, a1]
  have a3 : (2 * m + 1) * num = 2 * (m * num) + num := by rw [Int.add_mul, Int.mul_assoc]; omega
  have a4 : (2 * m) * num = 2 * (m * num) := Int.mul_assoc _ _ _
  omega

theorem pfin0 {A r num whole rest den c1 r1 : Int} {n j : Nat} (hw : whole * den + rest = num) (e : A * den + r = ((n / 2 ^ (j + 1) : Nat) : Int) * num) (hs : n / 2 ^ j = 2 * (n / 2 ^ (j + 1)) + 0)
    (h1 : r * 2 = r1 + c1 * den) : (2 * A + c1) * den + r1 = ((n / 2 ^ j : Nat) : Int) * num := by
  have := (pstep (r2 := r1 + rest) (c2 := 0) (r1 := r1) (c1 := c1) hw e (by omega) (by omega)).1
  rw [this, hs]; push_cast; rfl

theorem pfin1 {A r num whole rest den c1 c2 r1 r2 : Int} {n j : Nat} (hw : whole * den + rest = num) (e : A * den + r = ((n / 2 ^ (j + 1) : Nat) : Int) * num) (hs : n / 2 ^ j = 2 * (n / 2 ^ (j + 1)) + 1)
    (hr : r1 = r * 2 - c1 * den) (h2 : r1 + rest = r2 + c2 * den) : (2 * A + c1 + whole + c2) * den + r2 = ((n / 2 ^ j : Nat) : Int) * num := by
  have := (pstep (c1 := c1) hw e (by omega) h2).2
  rw [this, hs]; push_cast; rfl

theorem part_fin {n : Nat} {num den A r : Int} (hd : 0 < den) (r0 : 0 ≤ r) (r1 : r < den) (h : A * den + r = ((n / 2 ^ 0 : Nat) : Int) * num) : min A 4611686018427387903 = part n num den := by
  rw [Nat.pow_zero, Nat.div_one] at h
  have := (uniq (a := (n : Int) * num) hd (q := A) (r := r) (by rw [Int.mul_comm]; omega) r0 r1).1
  unfold part; rw [this]

theorem shift_bit (n k : Nat) : n / 2 ^ k = 2 * (n / 2 ^ (k + 1)) + n / 2 ^ k % 2 := by
  rw [Nat.pow_succ, ← Nat.div_div_eq_div_mul]; omega

theorem bit_and (n k : Nat) (hn : n < 9223372036854775808) : bits .and .i64 ((n : Int) / 2 ^ k) 1 = ((n / 2 ^ k % 2 : Nat) : Int) := by
  have e : (n : Int) / 2 ^ k = ((n / 2 ^ k : Nat) : Int) := by push_cast; rfl
  have hle : n / 2 ^ k ≤ n := Nat.div_le_self _ _
  have h1 : (BitVec.ofInt 64 ((n / 2 ^ k : Nat) : Int)).toNat = n / 2 ^ k := by
    rw [BitVec.ofInt_natCast, BitVec.toNat_ofNat]; exact Nat.mod_eq_of_lt (by omega)
  rw [e]
  show IntKind.i64.wrap ((BitVec.ofInt 64 ((n / 2 ^ k : Nat) : Int) &&& BitVec.ofInt 64 1).toNat : Int) = _
  rw [BitVec.toNat_and, h1, show (BitVec.ofInt 64 1).toNat = 1 from rfl, Nat.and_one_is_mod]
  exact IntWalk.i64_in _ (by omega)
end M

set_option maxHeartbeats 1000000 in
theorem rpart_any (n : Nat) (num den : Int) (w : World) (hn : n < 4611686018427387904) (hm : 0 ≤ num) (hm1 : num ≤ 4611686018427387903) (hd : 0 < den) (hd1 : den ≤ 4611686018427387904) :
    Calls Try.prog 23 #[.int .i64 n, .int .i64 num, .int .i64 den] w fun e w' => e = .returned (.int .i64 (part n num den)) ∧ w = w' := by
  have hw := Int.mul_ediv_add_emod num den
  rw [Int.mul_comm] at hw
  have hr0 := Int.emod_nonneg num (show den ≠ 0 by omega)
  have hr1 := Int.emod_lt_of_pos num hd
  have hw0 := Int.ediv_nonneg hm (Int.le_of_lt hd)
  have hw1 := Int.ediv_le_self den hm
  have HW := Lib.hid hw; clear hw
  go_enter Try.func23, Try.ntmps23
  go_wp2_with fail
  go_loop [9, 10, 11] (fun a b c => ∃ (k : Nat) (q r A : Int), k ≤ 63 ∧ 0 ≤ q ∧ q ≤ 9223372036854775807 ∧ 0 ≤ r ∧ r < den ∧ min q 4611686018427387903 = min A 4611686018427387903 ∧ 0 ≤ A ∧ A * den + r = ((n / 2 ^ k : Nat) : Int) * num ∧ a = .int .i64 q ∧ b = .int .i64 r ∧ c = .int .i64 ((k : Int) - 1)) (fun _ _ c => (intOf c + 1).toNat)
  case atStart => exact ⟨63, 0, 0, 0, by omega, by omega, by omega, by omega, by omega, rfl, by omega, by rw [Nat.div_eq_of_lt (by omega)]; omega, rfl, rfl, rfl⟩
  case round =>
    obtain ⟨k, q, r, A, hk, q0, q1, r0, r1, hmin, A0, hA, rfl, rfl, rfl⟩ := hrel
    have HA := Lib.hid hA; clear hA
    have HM := Lib.hid hmin; clear hmin
    by_cases hlt : k = 0
    · subst hlt
      go_wp2_with fail
      go_ret
      exact ⟨ret_int (by rw [HM.out]; exact M.part_fin hd r0 r1 HA.out), rfl⟩
    · obtain ⟨j, rfl⟩ : ∃ j, k = j + 1 := ⟨k - 1, by omega⟩
      have hb := M.bit_and n j (by omega)
      have hsb := M.shift_bit n j
      obtain ⟨b, hbb⟩ : ∃ b, n / 2 ^ j % 2 = b := ⟨_, rfl⟩
      have hb2 : b < 2 := by omega
      rw [hbb] at hb hsb
      clear hbb
      have Hsb := Lib.hid hsb; clear hsb
      have ej : ((j + 1 : Nat) : Int) - 1 = j := by omega
      rcases (show b = 0 ∨ b = 1 by omega) with rfl | rfl
      · go_wp2_with fail
        all_goals
          go_round
          case rel =>
            have hM := HM.out
            first
            | exact ⟨j, _, _, 2 * A + 0, by omega, by omega, by omega, by omega, by omega, by omega, by omega, M.pfin0 HW.out HA.out Hsb.out (c1 := 0) (by omega), rfl, rfl, by go_num⟩
            | exact ⟨j, _, _, 2 * A + 1, by omega, by omega, by omega, by omega, by omega, by omega, by omega, M.pfin0 HW.out HA.out Hsb.out (c1 := 1) (by omega), rfl, rfl, by go_num⟩
          case measure => first | (simp [intOf]; done) | (simp [intOf]; omega)
      · go_wp2_with fail
        all_goals
          go_round
          case rel =>
            have hM := HM.out
            first
            | exact ⟨j, _, _, 2 * A + 0 + num / den + 0, by omega, by omega, by omega, by omega, by omega, by omega, by omega, M.pfin1 HW.out HA.out Hsb.out (c1 := 0) (c2 := 0) rfl (by omega), rfl, rfl, by go_num⟩
            | exact ⟨j, _, _, 2 * A + 0 + num / den + 1, by omega, by omega, by omega, by omega, by omega, by omega, by omega, M.pfin1 HW.out HA.out Hsb.out (c1 := 0) (c2 := 1) rfl (by omega), rfl, rfl, by go_num⟩
            | exact ⟨j, _, _, 2 * A + 1 + num / den + 0, by omega, by omega, by omega, by omega, by omega, by omega, by omega, M.pfin1 HW.out HA.out Hsb.out (c1 := 1) (c2 := 0) rfl (by omega), rfl, rfl, by go_num⟩
            | exact ⟨j, _, _, 2 * A + 1 + num / den + 1, by omega, by omega, by omega, by omega, by omega, by omega, by omega, M.pfin1 HW.out HA.out Hsb.out (c1 := 1) (c2 := 1) rfl (by omega), rfl, rfl, by go_num⟩
          case measure => first | (simp [intOf]; done) | (simp [intOf]; omega)
end Go.Proofs.Ytpobachhplbamaa
