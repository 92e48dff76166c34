/-
  math/bits.Div64 divides 128 bits by 64, where the quotient has 64.
-/
import Derived.Test.YtpobachhplbamaaFixA
import Derived.Test.YtpobachhplbamaaMathDiv
import Derived.Test.YtpobachhplbamaaShelf
import Derived.Outline
import Derived.Laws.Bits64b
import Derived.Laws.Bits64
import Derived.Lib.BitFns
import Derived.Lib.ItoaNum
import Derived.Deep.QuietTactic
import Derived.BigQuiet
namespace Go.Proofs.Ytpobachhplbamaa
open Go.ChangeShapes Go.WideShapes Go.ChangeAt Go.RowKit
set_option linter.unusedVariables false
set_option linter.unusedSimpArgs false

namespace M
theorem bitLen_pos (y : Nat) (h0 : y ≠ 0) (h : y < 18446744073709551616) : 1 ≤ Lib.bitLen y ∧ Lib.bitLen y ≤ 64 ∧ 2 ^ (Lib.bitLen y - 1) ≤ y ∧ y < 2 ^ Lib.bitLen y := by
  have b := Lib.bitLenAux_bounds 64 y h h0
  exact ⟨b.1, Lib.bitLen_le y 64 (by omega) h, b.2.1, b.2.2⟩

theorem orN (k b s : Nat) (hb : b < 2 ^ s) (h : k * 2 ^ s + b < 18446744073709551616) : bits .or .u64 ((k * 2 ^ s : Nat) : Int) (b : Int) = ((k * 2 ^ s + b : Nat) : Int) := by
  rw [bits_or_u64_nat _ _ (by omega) (by omega), Nat.mul_comm k, Nat.two_pow_add_eq_or_of_lt hb]

theorem div_setup_nat (hi lo y : Nat) (h1 : hi < y) (h2 : y < 18446744073709551616) (l1 : lo < 18446744073709551616) (s : Nat) (hs : s = 64 - Lib.bitLen y) :
    s ≤ 63 ∧ 9223372036854775808 ≤ y * 2 ^ s ∧ y * 2 ^ s < 18446744073709551616 ∧ lo / 2 ^ (64 - s) < 2 ^ s ∧ hi * 2 ^ s + lo / 2 ^ (64 - s) < y * 2 ^ s ∧
      (hi * 2 ^ s + lo / 2 ^ (64 - s)) * 18446744073709551616 + lo * 2 ^ s % 18446744073709551616 = (hi * 18446744073709551616 + lo) * 2 ^ s := by
  obtain ⟨b1, b2, b3, b4⟩ := bitLen_pos y (by omega) h2
  generalize Lib.bitLen y = n at *
  have e64 : (2 : Nat) ^ s * 2 ^ (64 - s) = 18446744073709551616 := by rw [← Nat.pow_add, show s + (64 - s) = 64 by omega]
  have e1 : (2 : Nat) ^ (n - 1) * 2 ^ s = 9223372036854775808 := by rw [← Nat.pow_add, show n - 1 + s = 63 by omega]
  have e2 : (2 : Nat) ^ n * 2 ^ s = 18446744073709551616 := by rw [← Nat.pow_add, show n + s = 64 by omega]
  have p1 : 0 < (2 : Nat) ^ s := Nat.two_pow_pos s
  have p2 : 0 < (2 : Nat) ^ (64 - s) := Nat.two_pow_pos _
  have c3 : 2 ^ (n - 1) * 2 ^ s ≤ y * 2 ^ s := Nat.mul_le_mul_right _ b3
  have c4 : y * 2 ^ s < 2 ^ n * 2 ^ s := Nat.mul_lt_mul_of_pos_right b4 p1
  have lt : lo / 2 ^ (64 - s) < 2 ^ s := by rw [Nat.div_lt_iff_lt_mul p2, e64]; exact l1
  refine ⟨by omega, by omega, by omega, lt, ?_, ?_⟩
  · have : (hi + 1) * 2 ^ s ≤ y * 2 ^ s := Nat.mul_le_mul_right _ h1
    rw [Nat.add_mul] at this; omega
  · have hl := Nat.div_add_mod (lo * 2 ^ s) 18446744073709551616
    have hd : lo * 2 ^ s / 18446744073709551616 = lo / 2 ^ (64 - s) := by
      rw [← e64, Nat.mul_comm lo, Nat.mul_div_mul_left _ _ p1]
    rw [hd] at hl
    rw [Nat.add_mul, Nat.add_mul, Nat.mul_right_comm hi]
    omega

structure Setup (hi lo y s Y y1 y0 u D d1 d0 : Int) : Prop where
  s0 : 0 ≤ s
  s1 : s ≤ 63
  hY : IntKind.u64.wrap (y * 2 ^ s.toNat) = Y
  hy1 : Y / 4294967296 = y1
  hy0 : bits .and .u64 Y 4294967295 = y0
  hu : bits .or .u64 (IntKind.u64.wrap (hi * 2 ^ s.toNat)) (lo / 2 ^ (64 - s).toNat) = u
  hD : IntKind.u64.wrap (lo * 2 ^ s.toNat) = D
  hd1 : D / 4294967296 = d1
  hd0 : bits .and .u64 D 4294967295 = d0
  Yb : 9223372036854775808 ≤ Y ∧ Y ≤ 18446744073709551615
  yb : 2147483648 ≤ y1 ∧ y1 < 4294967296 ∧ 0 ≤ y0 ∧ y0 < 4294967296 ∧ y1 * 4294967296 + y0 = Y
  ub : 0 ≤ u ∧ u < Y
  Db : 0 ≤ D ∧ D ≤ 18446744073709551615
  db : 0 ≤ d1 ∧ d1 < 4294967296 ∧ 0 ≤ d0 ∧ d0 < 4294967296
  q : (u * 18446744073709551616 + (d1 * 4294967296 + d0)) / Y = (hi * 18446744073709551616 + lo) / y

theorem setup (hi lo y : Int) (h0 : 0 ≤ hi) (h1 : hi < y) (h2 : y ≤ 18446744073709551615) (l0 : 0 ≤ lo) (l1 : lo ≤ 18446744073709551615) :
    ∃ Y y1 y0 u D d1 d0, Setup hi lo y (64 - (Lib.bitLen y.toNat : Int)) Y y1 y0 u D d1 d0 := by
  obtain ⟨hi, rfl⟩ := Int.eq_ofNat_of_zero_le h0
  obtain ⟨lo, rfl⟩ := Int.eq_ofNat_of_zero_le l0
  obtain ⟨y, rfl⟩ := Int.eq_ofNat_of_zero_le (show 0 ≤ y by omega)
  obtain ⟨b1, b2, b3, b4⟩ := bitLen_pos y (by omega) (by omega)
  obtain ⟨f1, f2, f3, f4, f5, f6⟩ := div_setup_nat hi lo y (by omega) (by omega) (by omega) (64 - Lib.bitLen y) rfl
  rw [Int.toNat_natCast]
  rw [show (64 - (Lib.bitLen y : Int)) = ((64 - Lib.bitLen y : Nat) : Int) by omega]
  generalize 64 - Lib.bitLen y = s at *
  have eY : IntKind.u64.wrap ((y : Int) * 2 ^ s) = ((y * 2 ^ s : Nat) : Int) := by
    rw [show (y : Int) * 2 ^ s = ((y * 2 ^ s : Nat) : Int) by push_cast; rfl]; exact Mul64.wrapN _ f3
  have eH : IntKind.u64.wrap ((hi : Int) * 2 ^ s) = ((hi * 2 ^ s : Nat) : Int) := by
    rw [show (hi : Int) * 2 ^ s = ((hi * 2 ^ s : Nat) : Int) by push_cast; rfl]; exact Mul64.wrapN _ (Nat.lt_of_le_of_lt (Nat.le_add_right _ (lo / 2 ^ (64 - s))) (Nat.lt_trans f5 f3))
  have eL : (lo : Int) / 2 ^ (64 - s) = ((lo / 2 ^ (64 - s) : Nat) : Int) := by push_cast; rfl
  have eD : IntKind.u64.wrap ((lo : Int) * 2 ^ s) = ((lo * 2 ^ s % 18446744073709551616 : Nat) : Int) := by
    rw [show (lo : Int) * 2 ^ s = ((lo * 2 ^ s : Nat) : Int) by push_cast; rfl]; exact Mul64.wrapM _
  have m := Nat.mod_lt (lo * 2 ^ s) (show 0 < 18446744073709551616 by omega)
  have eO := orN hi (lo / 2 ^ (64 - s)) s f4 (Nat.lt_trans f5 f3)
  have eq := Nat.mul_div_mul_right (hi * 18446744073709551616 + lo) y (Nat.two_pow_pos s)
  rw [← f6] at eq
  have eA := Mul64.maskN _ f3
  have eE := Mul64.maskN _ m
  clear f4 f6 b3 b4
  have key : ∃ Y y1 y0 u D d1 d0, Setup hi lo y s Y y1 y0 u D d1 d0 := by
    refine ⟨((y * 2 ^ s : Nat) : Int), ((y * 2 ^ s : Nat) : Int) / 4294967296, ((y * 2 ^ s % 4294967296 : Nat) : Int), ((hi * 2 ^ s + lo / 2 ^ (64 - s) : Nat) : Int), ((lo * 2 ^ s % 18446744073709551616 : Nat) : Int), ((lo * 2 ^ s % 18446744073709551616 : Nat) : Int) / 4294967296, ((lo * 2 ^ s % 18446744073709551616 % 4294967296 : Nat) : Int), ?_⟩
    have hu : bits .or .u64 (IntKind.u64.wrap ((hi : Int) * 2 ^ ((s : Nat) : Int).toNat)) ((lo : Int) / 2 ^ (64 - ((s : Nat) : Int)).toNat) = ((hi * 2 ^ s + lo / 2 ^ (64 - s) : Nat) : Int) := by
      rw [show (64 - (s : Int)).toNat = 64 - s by omega, Int.toNat_natCast, eH, eL]; exact eO
    have hq : (((hi * 2 ^ s + lo / 2 ^ (64 - s)) * 18446744073709551616 + lo * 2 ^ s % 18446744073709551616 : Nat) : Int) / ((y * 2 ^ s : Nat) : Int) = ((hi : Int) * 18446744073709551616 + lo) / y := by
      rw [← Int.natCast_ediv, eq, Int.natCast_ediv, Int.natCast_add, Int.natCast_mul]; rfl
    have hY : IntKind.u64.wrap ((y : Int) * 2 ^ ((s : Nat) : Int).toNat) = ((y * 2 ^ s : Nat) : Int) := by rw [Int.toNat_natCast]; exact eY
    have hD : IntKind.u64.wrap ((lo : Int) * 2 ^ ((s : Nat) : Int).toNat) = ((lo * 2 ^ s % 18446744073709551616 : Nat) : Int) := by rw [Int.toNat_natCast]; exact eD
    clear eY eH eL eD eO eq
    generalize lo * 2 ^ s % 18446744073709551616 = E at *
    generalize hi * 2 ^ s + lo / 2 ^ (64 - s) = U at *
    generalize y * 2 ^ s = A at *
    exact { s0 := by omega, s1 := by omega, hY := hY, hy1 := rfl, hy0 := eA, hu := hu, hD := hD, hd1 := rfl, hd0 := eE, Yb := by omega, yb := by omega, ub := by omega, Db := by omega, db := by omega, q := by rw [← hq]; congr 1; omega }
  exact key
theorem wrap_left {u d1 g Y y v : Int} (hY : y = Y) (hg : g = (u * 4294967296 + d1) / y) (u0 : 0 ≤ u) (d0 : 0 ≤ d1) (Y0 : 9223372036854775808 ≤ Y) (Y1 : Y ≤ 18446744073709551615)
    (hv : IntKind.u64.wrap (IntKind.u64.wrap (IntKind.u64.wrap (u * 4294967296) + d1) - IntKind.u64.wrap (g * Y)) = v) : v = u * 4294967296 + d1 - g * Y := by
  subst hY
  have h := M.left_range (a := u * 4294967296 + d1) (y := y) (by omega)
  rw [← hg] at h
  generalize g * y = c at *
  rw [IntKind.wrap_u64, IntKind.wrap_u64, IntKind.wrap_u64, IntKind.wrap_u64] at hv
  omega

theorem ret2 {a b : Int} {x : Value} (h : a = b) : Ending.returned (.tuple #[.int .u64 a, x]) = .returned (.tuple #[.int .u64 b, x]) := by rw [h]

theorem fin {u d1 d0 g f v Y y t : Int} (hY : y = Y) (hQ : (u * 18446744073709551616 + (d1 * 4294967296 + d0)) / Y = t) (hg : g = (u * 4294967296 + d1) / y) (hv : v = u * 4294967296 + d1 - g * Y) (hf : f = (v * 4294967296 + d0) / y) (Y0 : 9223372036854775808 ≤ Y) : g * 4294967296 + f = t := by
  subst hY
  rw [M.two_digits (by omega), ← hg, ← hv, ← hf] at hQ
  exact hQ

theorem left_of {u d1 g Y y v : Int} (hY : y = Y) (hg : g = (u * 4294967296 + d1) / y) (Y0 : 9223372036854775808 ≤ Y) (hv : v = u * 4294967296 + d1 - g * Y) : 0 ≤ v ∧ v < Y := by
  subst hY
  have h := M.left_range (a := u * 4294967296 + d1) (y := y) (by omega)
  rw [← hg, ← hv] at h
  exact h
end M

set_option maxRecDepth 100000 in
set_option maxHeartbeats 1000000 in
theorem div64_pos (hi lo y : Int) (w : World) (h0 : 0 < hi) (h1 : hi < y) (h2 : y ≤ 18446744073709551615) (l0 : 0 ≤ lo) (l1 : lo ≤ 18446744073709551615) : Calls Try.prog 35 #[.int .u64 hi, .int .u64 lo, .int .u64 y] w fun e w' => ∃ r, e = .returned (.tuple #[.int .u64 ((hi * 18446744073709551616 + lo) / y), .int .u64 r]) ∧ w = w' := by
  have e1 : ((y : Int) == 0) = false := by simp; omega
  have e2 : ((hi : Int) == 0) = false := by simp; omega
  have e3 : decide ((y : Int) ≤ hi) = false := by simp; omega
  obtain ⟨Y, y1, y0, u, D, d1, d0, HS⟩ := M.setup hi lo y (by omega) h1 h2 l0 l1
  go_enter Try.func35, Try.ntmps35
  go_wp2_with fail
  refine (Try.bits_LeadingZeros64 y _ (by omega) h2).mono ?_
  rintro e w' ⟨rfl, rfl⟩
  generalize (64 - (Lib.bitLen y.toNat : Int)) = s at *
  obtain ⟨s0, s1, hY, hy1, hy0, hu, hD, hd1, hd0, ⟨Y0, Y1⟩, ⟨y10, y11, y00, y01, eY⟩, ⟨u0, u1⟩, ⟨D0, D1⟩, ⟨d10, d11, d00, d01⟩, hQ⟩ := HS
  have HY := Lib.hid eY; have HQ := Lib.hid hQ; clear eY hQ
  have E0 := M.est_start (d := d1) y10 y11 y00 y01 d10 d11 u0 (by rw [HY.out]; exact u1)
  obtain ⟨q, hq⟩ : ∃ q, u / y1 = q := ⟨_, rfl⟩
  rw [hq] at E0
  obtain ⟨p, hp⟩ : ∃ p, q * y1 = p := ⟨_, rfl⟩
  rw [hp] at E0
  have H0 := Lib.hid E0
  obtain ⟨-, q0, q1, r0, r1, -⟩ := E0
  have nz : (y1 == 0) = false := by simp; omega
  have p1 : p ≤ u := by omega
  have p0 : 0 ≤ p := by rw [← hp]; exact Int.mul_nonneg q0 (by omega)
  go_wp2_with fail
  go_loop [15, 16] (fun a b => ∃ q r, M.Est u y1 y0 d1 q r ∧ a = .int .u64 q ∧ b = .int .u64 r) (fun a _ => (intOf a).toNat)
  case atStart => exact ⟨q, u - p, H0.out, by rw [hq], rfl⟩
  case round =>
    clear hq hp H0 q0 q1 r0 r1 p0 p1
    obtain ⟨q, r, HE, rfl, rfl⟩ := hrel
    have HH := Lib.hid HE
    obtain ⟨HEe, q0, q1, r0, r1, HEg⟩ := HE
    have HEe := Lib.hid HEe
    clear HEg
    by_cases hb : 4294967296 ≤ q ∨ 4294967296 * r + d1 < q * y0
    · obtain ⟨st1, st2⟩ := M.est_step y10 y00 d10 d11 u0 (by rw [HY.out]; exact u1) HH.out hb
      have St := Lib.hid st1; clear st1
      by_cases hx : 4294967296 ≤ r + y1
      · obtain ⟨g, hg⟩ : ∃ g, q - 1 = g := ⟨_, rfl⟩
        have g0 : 0 ≤ g := by omega
        have g1 : g ≤ 4294967296 := by omega
        have hd : g = (u * 4294967296 + d1) / (y1 * 4294967296 + y0) := M.est_out (r := r + y1) y10 y00 y01 d10 g0 g1 (by rw [← hg, Int.sub_mul]; have := HH.out.e; omega) (by rw [← hg]; exact St.out) hx
        have Hd := Lib.hid hd; clear hd
        rcases Int.lt_or_le q 4294967296 with hq | hq
        · have hm : 4294967296 * r + d1 < q * y0 := by omega
          obtain ⟨m0, m2⟩ := M.mul_le_of q0 (by omega) y00 y01
          clear hb
          obtain ⟨v, hv⟩ : ∃ v, IntKind.u64.wrap (IntKind.u64.wrap (IntKind.u64.wrap (u * 4294967296) + d1) - IntKind.u64.wrap (g * Y)) = v := ⟨_, rfl⟩
          have ev : v = u * 4294967296 + d1 - g * Y := M.wrap_left HY.out Hd.out u0 d10 Y0 Y1 hv
          have Ev := Lib.hid ev; clear ev
          have gl : g < 4294967296 := by rw [Hd.out]; exact (M.est_lt y10 y00 d10 d11 u0 (by rw [HY.out]; exact u1)).2
          obtain ⟨v0, v1⟩ := M.left_of HY.out Hd.out Y0 Ev.out
          have E1 := M.est_start (d := d0) y10 y11 y00 y01 d00 d01 v0 (by rw [HY.out]; exact v1)
          obtain ⟨k, hk⟩ : ∃ k, v / y1 = k := ⟨_, rfl⟩
          rw [hk] at E1
          obtain ⟨l, hl⟩ : ∃ l, k * y1 = l := ⟨_, rfl⟩
          rw [hl] at E1
          have H1 := Lib.hid E1
          obtain ⟨-, k0, k1, t0, t1, -⟩ := E1
          have l1' : l ≤ v := by omega
          have l0' : 0 ≤ l := by rw [← hl]; exact Int.mul_nonneg k0 (by omega)
          go_wp2_with fail
          go_loop [16, 18] (fun b a => ∃ k t, M.Est v y1 y0 d0 k t ∧ a = .int .u64 k ∧ b = .int .u64 t) (fun _ a => (intOf a).toNat)
          case atStart => exact ⟨k, v - l, H1.out, by first | rfl | rw [hk], rfl⟩
          case round =>
            clear hk hl H1 k0 k1 t0 t1 l0' l1'
            obtain ⟨k, t, HE2, rfl, rfl⟩ := hrel
            have HK := Lib.hid HE2; clear HE2
            have k0 := HK.out.q0
            have k1 := HK.out.q1
            have t0 := HK.out.r0
            have t1 := HK.out.r1
            by_cases hb : 4294967296 ≤ k ∨ 4294967296 * t + d0 < k * y0
            · obtain ⟨st1, st2⟩ := M.est_step y10 y00 d00 d01 v0 (by rw [HY.out]; exact v1) HK.out hb
              have St := Lib.hid st1; clear st1
              by_cases hx : 4294967296 ≤ t + y1
              · obtain ⟨f, hf⟩ : ∃ f, k - 1 = f := ⟨_, rfl⟩
                have f0 : 0 ≤ f := by omega
                have f1 : f ≤ 4294967296 := by omega
                have hd : f = (v * 4294967296 + d0) / (y1 * 4294967296 + y0) := M.est_out (r := t + y1) y10 y00 y01 d00 f0 f1 (by rw [← hf, Int.sub_mul]; have := HK.out.e; omega) (by rw [← hf]; exact St.out) hx
                have Hf := Lib.hid hd; clear hd
                have fl : f < 4294967296 := by rw [Hf.out]; exact (M.est_lt y10 y00 d00 d01 v0 (by rw [HY.out]; exact v1)).2
                rcases Int.lt_or_le k 4294967296 with hq | hq
                · have hm : 4294967296 * t + d0 < k * y0 := by omega
                  obtain ⟨m0, m2⟩ := M.mul_le_of k0 (by omega) y00 y01
                  clear hb
                  go_wp2_with fail
                  go_ret2
                  exact ⟨⟨_, M.ret2 (M.fin HY.out HQ.out Hd.out Ev.out Hf.out Y0)⟩, rfl⟩
                · clear hb
                  go_wp2_with fail
                  go_ret2
                  exact ⟨⟨_, M.ret2 (M.fin HY.out HQ.out Hd.out Ev.out Hf.out Y0)⟩, rfl⟩
              · have HR : M.Est v y1 y0 d0 (k - 1) (t + y1) := ⟨by rw [Int.sub_mul]; have := HK.out.e; omega, by omega, by omega, by omega, by omega, St.out⟩
                have HR := Lib.hid HR
                rcases Int.lt_or_le k 4294967296 with hq | hq
                · have hm : 4294967296 * t + d0 < k * y0 := by omega
                  obtain ⟨m0, m2⟩ := M.mul_le_of k0 (by omega) y00 y01
                  clear hb
                  go_wp2_with fail
                  go_round
                  case rel => exact ⟨k - 1, t + y1, HR.out, rfl, rfl⟩
                  case measure => simp [intOf]; omega
                · clear hb
                  go_wp2_with fail
                  go_round
                  case rel => exact ⟨k - 1, t + y1, HR.out, rfl, rfl⟩
                  case measure => simp [intOf]; omega
            · have q2 : k < 4294967296 := by omega
              have m1 : k * y0 ≤ 4294967296 * t + d0 := by omega
              have m0 : 0 ≤ k * y0 := Int.mul_nonneg k0 y00
              have hd : k = (v * 4294967296 + d0) / (y1 * 4294967296 + y0) := M.est_stop y10 y00 HK.out.e HK.out.ge m1
              have Hf := Lib.hid hd; clear hd
              clear hb
              go_wp2_with fail
              go_ret2
              exact ⟨⟨_, M.ret2 (M.fin HY.out HQ.out Hd.out Ev.out Hf.out Y0)⟩, rfl⟩
        · clear hb
          obtain ⟨v, hv⟩ : ∃ v, IntKind.u64.wrap (IntKind.u64.wrap (IntKind.u64.wrap (u * 4294967296) + d1) - IntKind.u64.wrap (g * Y)) = v := ⟨_, rfl⟩
          have ev : v = u * 4294967296 + d1 - g * Y := M.wrap_left HY.out Hd.out u0 d10 Y0 Y1 hv
          have Ev := Lib.hid ev; clear ev
          have gl : g < 4294967296 := by rw [Hd.out]; exact (M.est_lt y10 y00 d10 d11 u0 (by rw [HY.out]; exact u1)).2
          obtain ⟨v0, v1⟩ := M.left_of HY.out Hd.out Y0 Ev.out
          have E1 := M.est_start (d := d0) y10 y11 y00 y01 d00 d01 v0 (by rw [HY.out]; exact v1)
          obtain ⟨k, hk⟩ : ∃ k, v / y1 = k := ⟨_, rfl⟩
          rw [hk] at E1
          obtain ⟨l, hl⟩ : ∃ l, k * y1 = l := ⟨_, rfl⟩
          rw [hl] at E1
          have H1 := Lib.hid E1
          obtain ⟨-, k0, k1, t0, t1, -⟩ := E1
          have l1' : l ≤ v := by omega
          have l0' : 0 ≤ l := by rw [← hl]; exact Int.mul_nonneg k0 (by omega)
          go_wp2_with fail
          go_loop [16, 18] (fun b a => ∃ k t, M.Est v y1 y0 d0 k t ∧ a = .int .u64 k ∧ b = .int .u64 t) (fun _ a => (intOf a).toNat)
          case atStart => exact ⟨k, v - l, H1.out, by first | rfl | rw [hk], rfl⟩
          case round =>
            clear hk hl H1 k0 k1 t0 t1 l0' l1'
            obtain ⟨k, t, HE2, rfl, rfl⟩ := hrel
            have HK := Lib.hid HE2; clear HE2
            have k0 := HK.out.q0
            have k1 := HK.out.q1
            have t0 := HK.out.r0
            have t1 := HK.out.r1
            by_cases hb : 4294967296 ≤ k ∨ 4294967296 * t + d0 < k * y0
            · obtain ⟨st1, st2⟩ := M.est_step y10 y00 d00 d01 v0 (by rw [HY.out]; exact v1) HK.out hb
              have St := Lib.hid st1; clear st1
              by_cases hx : 4294967296 ≤ t + y1
              · obtain ⟨f, hf⟩ : ∃ f, k - 1 = f := ⟨_, rfl⟩
                have f0 : 0 ≤ f := by omega
                have f1 : f ≤ 4294967296 := by omega
                have hd : f = (v * 4294967296 + d0) / (y1 * 4294967296 + y0) := M.est_out (r := t + y1) y10 y00 y01 d00 f0 f1 (by rw [← hf, Int.sub_mul]; have := HK.out.e; omega) (by rw [← hf]; exact St.out) hx
                have Hf := Lib.hid hd; clear hd
                have fl : f < 4294967296 := by rw [Hf.out]; exact (M.est_lt y10 y00 d00 d01 v0 (by rw [HY.out]; exact v1)).2
                rcases Int.lt_or_le k 4294967296 with hq | hq
                · have hm : 4294967296 * t + d0 < k * y0 := by omega
                  obtain ⟨m0, m2⟩ := M.mul_le_of k0 (by omega) y00 y01
                  clear hb
                  go_wp2_with fail
                  go_ret2
                  exact ⟨⟨_, M.ret2 (M.fin HY.out HQ.out Hd.out Ev.out Hf.out Y0)⟩, rfl⟩
                · clear hb
                  go_wp2_with fail
                  go_ret2
                  exact ⟨⟨_, M.ret2 (M.fin HY.out HQ.out Hd.out Ev.out Hf.out Y0)⟩, rfl⟩
              · have HR : M.Est v y1 y0 d0 (k - 1) (t + y1) := ⟨by rw [Int.sub_mul]; have := HK.out.e; omega, by omega, by omega, by omega, by omega, St.out⟩
                have HR := Lib.hid HR
                rcases Int.lt_or_le k 4294967296 with hq | hq
                · have hm : 4294967296 * t + d0 < k * y0 := by omega
                  obtain ⟨m0, m2⟩ := M.mul_le_of k0 (by omega) y00 y01
                  clear hb
                  go_wp2_with fail
                  go_round
                  case rel => exact ⟨k - 1, t + y1, HR.out, rfl, rfl⟩
                  case measure => simp [intOf]; omega
                · clear hb
                  go_wp2_with fail
                  go_round
                  case rel => exact ⟨k - 1, t + y1, HR.out, rfl, rfl⟩
                  case measure => simp [intOf]; omega
            · have q2 : k < 4294967296 := by omega
              have m1 : k * y0 ≤ 4294967296 * t + d0 := by omega
              have m0 : 0 ≤ k * y0 := Int.mul_nonneg k0 y00
              have hd : k = (v * 4294967296 + d0) / (y1 * 4294967296 + y0) := M.est_stop y10 y00 HK.out.e HK.out.ge m1
              have Hf := Lib.hid hd; clear hd
              clear hb
              go_wp2_with fail
              go_ret2
              exact ⟨⟨_, M.ret2 (M.fin HY.out HQ.out Hd.out Ev.out Hf.out Y0)⟩, rfl⟩
      · have HR : M.Est u y1 y0 d1 (q - 1) (r + y1) := ⟨by rw [Int.sub_mul]; have := HH.out.e; omega, by omega, by omega, by omega, by omega, St.out⟩
        have HR := Lib.hid HR
        rcases Int.lt_or_le q 4294967296 with hq | hq
        · have hm : 4294967296 * r + d1 < q * y0 := by omega
          obtain ⟨m0, m2⟩ := M.mul_le_of q0 (by omega) y00 y01
          clear hb
          go_wp2_with fail
          go_round
          case rel => exact ⟨q - 1, r + y1, HR.out, rfl, rfl⟩
          case measure => simp [intOf]; omega
        · clear hb
          go_wp2_with fail
          go_round
          case rel => exact ⟨q - 1, r + y1, HR.out, rfl, rfl⟩
          case measure => simp [intOf]; omega
    · have q2 : q < 4294967296 := by omega
      have m1 : q * y0 ≤ 4294967296 * r + d1 := by omega
      have m0 : 0 ≤ q * y0 := Int.mul_nonneg q0 y00
      have hd : q = (u * 4294967296 + d1) / (y1 * 4294967296 + y0) := M.est_stop y10 y00 HH.out.e HH.out.ge m1
      obtain ⟨g, hg⟩ : ∃ g, q = g := ⟨_, rfl⟩
      subst hg
      have Hd := Lib.hid hd; clear hd
      clear hb
      obtain ⟨v, hv⟩ : ∃ v, IntKind.u64.wrap (IntKind.u64.wrap (IntKind.u64.wrap (u * 4294967296) + d1) - IntKind.u64.wrap (q * Y)) = v := ⟨_, rfl⟩
      have ev : v = u * 4294967296 + d1 - q * Y := M.wrap_left HY.out Hd.out u0 d10 Y0 Y1 hv
      have Ev := Lib.hid ev; clear ev
      have gl : q < 4294967296 := by rw [Hd.out]; exact (M.est_lt y10 y00 d10 d11 u0 (by rw [HY.out]; exact u1)).2
      obtain ⟨v0, v1⟩ := M.left_of HY.out Hd.out Y0 Ev.out
      have E1 := M.est_start (d := d0) y10 y11 y00 y01 d00 d01 v0 (by rw [HY.out]; exact v1)
      obtain ⟨k, hk⟩ : ∃ k, v / y1 = k := ⟨_, rfl⟩
      rw [hk] at E1
      obtain ⟨l, hl⟩ : ∃ l, k * y1 = l := ⟨_, rfl⟩
      rw [hl] at E1
      have H1 := Lib.hid E1
      obtain ⟨-, k0, k1, t0, t1, -⟩ := E1
      have l1' : l ≤ v := by omega
      have l0' : 0 ≤ l := by rw [← hl]; exact Int.mul_nonneg k0 (by omega)
      go_wp2_with fail
      go_loop [16, 18] (fun b a => ∃ k t, M.Est v y1 y0 d0 k t ∧ a = .int .u64 k ∧ b = .int .u64 t) (fun _ a => (intOf a).toNat)
      case atStart => exact ⟨k, v - l, H1.out, by first | rfl | rw [hk], rfl⟩
      case round =>
        clear hk hl H1 k0 k1 t0 t1 l0' l1'
        obtain ⟨k, t, HE2, rfl, rfl⟩ := hrel
        have HK := Lib.hid HE2; clear HE2
        have k0 := HK.out.q0
        have k1 := HK.out.q1
        have t0 := HK.out.r0
        have t1 := HK.out.r1
        by_cases hb : 4294967296 ≤ k ∨ 4294967296 * t + d0 < k * y0
        · obtain ⟨st1, st2⟩ := M.est_step y10 y00 d00 d01 v0 (by rw [HY.out]; exact v1) HK.out hb
          have St := Lib.hid st1; clear st1
          by_cases hx : 4294967296 ≤ t + y1
          · obtain ⟨f, hf⟩ : ∃ f, k - 1 = f := ⟨_, rfl⟩
            have f0 : 0 ≤ f := by omega
            have f1 : f ≤ 4294967296 := by omega
            have hd : f = (v * 4294967296 + d0) / (y1 * 4294967296 + y0) := M.est_out (r := t + y1) y10 y00 y01 d00 f0 f1 (by rw [← hf, Int.sub_mul]; have := HK.out.e; omega) (by rw [← hf]; exact St.out) hx
            have Hf := Lib.hid hd; clear hd
            have fl : f < 4294967296 := by rw [Hf.out]; exact (M.est_lt y10 y00 d00 d01 v0 (by rw [HY.out]; exact v1)).2
            rcases Int.lt_or_le k 4294967296 with hq | hq
            · have hm : 4294967296 * t + d0 < k * y0 := by omega
              obtain ⟨m0, m2⟩ := M.mul_le_of k0 (by omega) y00 y01
              clear hb
              go_wp2_with fail
              go_ret2
              exact ⟨⟨_, M.ret2 (M.fin HY.out HQ.out Hd.out Ev.out Hf.out Y0)⟩, rfl⟩
            · clear hb
              go_wp2_with fail
              go_ret2
              exact ⟨⟨_, M.ret2 (M.fin HY.out HQ.out Hd.out Ev.out Hf.out Y0)⟩, rfl⟩
          · have HR : M.Est v y1 y0 d0 (k - 1) (t + y1) := ⟨by rw [Int.sub_mul]; have := HK.out.e; omega, by omega, by omega, by omega, by omega, St.out⟩
            have HR := Lib.hid HR
            rcases Int.lt_or_le k 4294967296 with hq | hq
            · have hm : 4294967296 * t + d0 < k * y0 := by omega
              obtain ⟨m0, m2⟩ := M.mul_le_of k0 (by omega) y00 y01
              clear hb
              go_wp2_with fail
              go_round
              case rel => exact ⟨k - 1, t + y1, HR.out, rfl, rfl⟩
              case measure => simp [intOf]; omega
            · clear hb
              go_wp2_with fail
              go_round
              case rel => exact ⟨k - 1, t + y1, HR.out, rfl, rfl⟩
              case measure => simp [intOf]; omega
        · have q2 : k < 4294967296 := by omega
          have m1 : k * y0 ≤ 4294967296 * t + d0 := by omega
          have m0 : 0 ≤ k * y0 := Int.mul_nonneg k0 y00
          have hd : k = (v * 4294967296 + d0) / (y1 * 4294967296 + y0) := M.est_stop y10 y00 HK.out.e HK.out.ge m1
          have Hf := Lib.hid hd; clear hd
          clear hb
          go_wp2_with fail
          go_ret2
          exact ⟨⟨_, M.ret2 (M.fin HY.out HQ.out Hd.out Ev.out Hf.out Y0)⟩, rfl⟩
end Go.Proofs.Ytpobachhplbamaa
