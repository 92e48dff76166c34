/-
  FixCompares is true for every input: Cmp answers as the document's own, by what is whole and what is left. No condition.
-/
import Derived.Test.YtpobachhplbamaaCmp
namespace Go.Proofs.Ytpobachhplbamaa.fixCompares
open Go.ChangeShapes Go.WideShapes Go.ChangeAt Go.RowKit
set_option linter.unusedVariables false
set_option linter.unusedSimpArgs false

set_option maxHeartbeats 1000000 in
theorem walk (a : Int) (l0 : -9223372036854775808 ≤ a) (u0 : a ≤ 9223372036854775807) (b : Int) (l1 : -9223372036854775808 ≤ b) (u1 : b ≤ 9223372036854775807)
    (c : Int) (l2 : -9223372036854775808 ≤ c) (u2 : c ≤ 9223372036854775807) (d : Int) (l3 : -9223372036854775808 ≤ d) (u3 : d ≤ 9223372036854775807) (w : World) :
    Calls Try.prog 8 #[.int .i64 a, .int .i64 b, .int .i64 c, .int .i64 d] w fun e w' => e = .returned (.bool true) ∧ Bl w w' := by
  have A0 := fun w => above_any b w l1 u1
  have A1 := fun w => above_any d w l3 u3
  have A2 := fun w => around_any a 9 w l0 u0 (by omega) (by omega)
  have A3 := fun w => around_any c 9 w l2 u2 (by omega) (by omega)
  have A4 := fun w => around_any b 4 w l1 u1 (by omega) (by omega)
  have A5 := fun w => around_any d 4 w l3 u3 (by omega) (by omega)
  have b0 := around_lo b 4611686018427387904 (by omega); have b1 := around_hi b 4611686018427387904 (by omega)
  have d0 := around_lo d 4611686018427387904 (by omega); have d1 := around_hi d 4611686018427387904 (by omega)
  have p0 := around_lo a 9 (by omega); have p1 := around_hi a 9 (by omega)
  have q0 := around_lo c 9 (by omega); have q1 := around_hi c 9 (by omega)
  have r0 := around_lo b 4 (by omega); have r1 := around_hi b 4 (by omega)
  have s0 := around_lo d 4 (by omega); have s1 := around_hi d 4 (by omega)
  obtain ⟨x, hx⟩ : ∃ a, 1 + around b 4611686018427387904 = a := ⟨_, rfl⟩
  obtain ⟨y, hy⟩ : ∃ a, 1 + around d 4611686018427387904 = a := ⟨_, rfl⟩
  obtain ⟨p', hp⟩ : ∃ t, around a 9 = t := ⟨_, rfl⟩
  obtain ⟨q', hq⟩ : ∃ t, around c 9 = t := ⟨_, rfl⟩
  obtain ⟨r', hr⟩ : ∃ t, around b 4 = t := ⟨_, rfl⟩
  obtain ⟨s', hs⟩ : ∃ t, around d 4 = t := ⟨_, rfl⟩
  have x0 : 0 < x := by omega
  have x1 : x ≤ 4611686018427387904 := by omega
  have y0 : 0 < y := by omega
  have y1 : y ≤ 4611686018427387904 := by omega
  clear b0 b1 d0 d1
  rw [hx] at A0; rw [hy] at A1; rw [hp] at A2 p0 p1; rw [hq] at A3 q0 q1; rw [hr] at A4 r0 r1; rw [hs] at A5 s0 s1
  have A0 := Lib.hid A0; have A1 := Lib.hid A1; have A2 := Lib.hid A2; have A3 := Lib.hid A3; have A4 := Lib.hid A4; have A5 := Lib.hid A5
  clear hx hy hp hq hr hs
  obtain ⟨p, hp⟩ : ∃ t, p' - 4 = t := ⟨_, rfl⟩
  obtain ⟨q, hq⟩ : ∃ t, q' - 4 = t := ⟨_, rfl⟩
  obtain ⟨r, hr⟩ : ∃ t, 1 + r' = t := ⟨_, rfl⟩
  obtain ⟨s, hs⟩ : ∃ t, 1 + s' = t := ⟨_, rfl⟩
  have p2 : -4 ≤ p := by omega
  have p3 : p ≤ 4 := by omega
  have q2 : -4 ≤ q := by omega
  have q3 : q ≤ 4 := by omega
  have r2 : 0 < r := by omega
  have r3 : r ≤ 4 := by omega
  have s2 : 0 < s := by omega
  have s3 : s ≤ 4 := by omega
  have C1 := Lib.hid (fun w => cmp_any a x c y w l0 u0 x0 (by omega) l2 u2 y0 (by omega))
  have C2 := Lib.hid (fun w => rcmp_any _ a x c y w (Nat.le_refl _) l0 u0 x0 (by omega) l2 u2 y0 (by omega))
  have C3 := Lib.hid (fun w => cmp_any p r q s w (by omega) (by omega) r2 (by omega) (by omega) (by omega) s2 (by omega))
  have C4 := Lib.hid (fun w => rcmp_any _ p r q s w (Nat.le_refl _) (by omega) (by omega) r2 (by omega) (by omega) (by omega) s2 (by omega))
  have C5 := Lib.hid (fun w => cmp_any a x a x w l0 u0 x0 (by omega) l0 u0 x0 (by omega))
  have h5 : cmpq a x a x = 0 := cmpi_eq rfl
  have e1 : (cmpq a x c y == cmpq a x c y) = true := by simp
  have e2 : (cmpq p r q s == cmpq p r q s) = true := by simp
  go_enter Try.func8, Try.ntmps8
  go_wp2_with fail
  refine (A0.out _).mono ?_
  rintro e w' ⟨rfl, rfl⟩
  go_wp2_with fail
  refine (A1.out _).mono ?_
  rintro e w' ⟨rfl, rfl⟩
  go_wp2_with fail
  refine (A2.out _).mono ?_
  rintro e w' ⟨rfl, rfl⟩
  go_wp2_with fail
  refine (A3.out _).mono ?_
  rintro e w' ⟨rfl, rfl⟩
  go_wp2_with fail
  refine (A4.out _).mono ?_
  rintro e w' ⟨rfl, rfl⟩
  go_wp2_with fail
  refine (A5.out _).mono ?_
  rintro e w' ⟨rfl, rfl⟩
  go_wp2_with fail
  refine (C1.out _).mono ?_
  rintro e w1 ⟨rfl, k1⟩
  go_wp2_with fail
  refine (C2.out _).mono ?_
  rintro e w' ⟨rfl, rfl⟩
  go_wp2_with fail
  refine (C3.out _).mono ?_
  rintro e w2 ⟨rfl, k2⟩
  go_wp2_with fail
  refine (C4.out _).mono ?_
  rintro e w' ⟨rfl, rfl⟩
  go_wp2_with fail
  refine (C5.out _).mono ?_
  rintro e w3 ⟨rfl, k3⟩
  rw [h5]
  go_wp2_with fail
  refine (lives01 _).mono ?_
  rintro e w8 ⟨rfl, hb8⟩
  go_wp2_with fail
  go_ret
  exact ⟨rfl, Bl.tr (Bl.tr (Bl.tr k1 k2) k3) hb8⟩
end Go.Proofs.Ytpobachhplbamaa.fixCompares
