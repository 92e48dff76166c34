/-
  FixQuotients is true for every input: Down, Up and Clamp answer as the document's own. No condition.
-/
import Derived.Test.YtpobachhplbamaaLives01
namespace Go.Proofs.Ytpobachhplbamaa.fixQuotients
open Go.ChangeShapes Go.WideShapes Go.ChangeAt Go.RowKit
set_option linter.unusedVariables false
set_option linter.unusedSimpArgs false

set_option maxHeartbeats 1000000 in
theorem rup_any (a b : Int) (w : World) (h1 : -9223372036854775808 ≤ a) (h2 : a ≤ 9223372036854775807) (hb : 0 < b) (hb2 : b ≤ 9223372036854775807) :
    Calls Try.prog 17 #[.int .i64 a, .int .i64 b] w fun e w' => e = .returned (.int .i64 (M.up a b)) ∧ w = w' := by
  have hu := M.up_of a b hb
  have u := M.up_range a b hb h1 h2
  by_cases h : a.tmod b = 0
  · have h' : (a.tmod b == 0) = true := by simp [h]
    have hq := M.up_np a b hb (by omega)
    have H := Lib.hid hq; clear hq
    have t := M.tdiv_range a b hb h1 h2
    clear h
    go_enter Try.func17, Try.ntmps17
    go_wp2_with fail
    go_ret
    exact ⟨ret_int (by rw [H.out]), rfl⟩
  · have h' : (a.tmod b == 0) = false := beq_eq_false_iff_ne.2 h
    have hm : ¬ a % b = 0 := by
      intro hz
      have := Int.dvd_of_emod_eq_zero hz
      exact h (Int.tmod_eq_zero_of_dvd this)
    rw [if_neg hm] at hu
    rw [hu] at u ⊢
    have d := M.down_range a b hb h1 h2
    obtain ⟨u1, u2⟩ := u
    obtain ⟨d1, d2⟩ := d
    clear h hm hu
    go_enter Try.func17, Try.ntmps17
    go_wp2_with fail
    refine (rdown_any a b _ h1 h2 hb hb2).mono ?_
    rintro e w' ⟨rfl, rfl⟩
    go_wp2_with fail
    go_ret
    exact ⟨rfl, rfl⟩

set_option maxHeartbeats 1000000 in
theorem walk (a : Int) (l0 : -9223372036854775808 ≤ a) (u0 : a ≤ 9223372036854775807) (b : Int) (l1 : -9223372036854775808 ≤ b) (u1 : b ≤ 9223372036854775807)
    (low : Int) (l2 : -9223372036854775808 ≤ low) (u2 : low ≤ 9223372036854775807) (high : Int) (l3 : -9223372036854775808 ≤ high) (u3 : high ≤ 9223372036854775807) (w : World) :
    Calls Try.prog 3 #[.int .i64 a, .int .i64 b, .int .i64 low, .int .i64 high] w fun e w' => e = .returned (.bool true) ∧ Bl w w' := by
  have p0 := around_lo b 4611686018427387904 (by omega); have p1 := around_hi b 4611686018427387904 (by omega)
  have q0 := around_lo b 20 (by omega); have q1 := around_hi b 20 (by omega)
  obtain ⟨d, hd⟩ : ∃ d, 1 + around b 4611686018427387904 = d := ⟨_, rfl⟩
  obtain ⟨f, hf⟩ : ∃ f, 1 + around b 20 = f := ⟨_, rfl⟩
  go_enter Try.func3, Try.ntmps3
  go_wp2_with fail
  refine (above_any b _ l1 u1).mono ?_
  rintro e w' ⟨rfl, rfl⟩
  go_wp2_with fail
  refine (around_any b 20 _ l1 u1 (by omega) (by omega)).mono ?_
  rintro e w' ⟨rfl, rfl⟩
  go_wp2_with fail
  have hl := ints_lit w 3 [d, f, 4611686018427387903] (by unfold maxLen; simp)
  simp only [List.map_cons, List.map_nil, List.length_cons, List.length_nil] at hl
  have Hl := Lib.hid hl; clear hl
  have d0 : 0 < d := by omega
  have d1 : d ≤ 9223372036854775807 := by omega
  have f0 : 0 < f := by omega
  have f1 : f ≤ 9223372036854775807 := by omega
  clear p0 p1 q0 q1
  go_loopw [10] (fun i wr => ∃ k : Nat, k ≤ 3 ∧ i = I k ∧ Bl (w.alloc (.cells #[I d, I f, I 4611686018427387903] 3)) wr) (fun i _ => 3 - (intOf i).toNat)
  case atStart => exact ⟨0, by omega, rfl, Bl.rfl' _⟩
  case round =>
    obtain ⟨k, hk, rfl, hbl⟩ := hrel
    by_cases hlt : k < 3
    · have hr := Rd.below Hl.out hbl
      have c0 := ints_cell hr k hlt
      have hs := hbl.size
      have g0 : 0 < [d, f, 4611686018427387903].getD k 0 ∧ [d, f, 4611686018427387903].getD k 0 ≤ 9223372036854775807 := by
        match k, hlt with
        | 0, _ => exact ⟨d0, d1⟩
        | 1, _ => exact ⟨f0, f1⟩
        | 2, _ => simp
      obtain ⟨x, hx⟩ : ∃ x, [d, f, 4611686018427387903].getD k 0 = x := ⟨_, rfl⟩
      rw [hx, Nat.zero_add] at c0
      rw [hx] at g0
      obtain ⟨g0, g1⟩ := g0
      clear hx hr
      go_wp2_with fail
      go_quiet ((first
        | (go_at_call 14; exact Calls.quiet_of_same (q_of (down_any _ _ _ l0 u0 g0 g1)))
        | (go_at_call 15; exact Calls.quiet_of_same (q_of (rdown_any _ _ _ l0 u0 g0 g1)))
        | (go_at_call 16; exact Calls.quiet_of_same (q_of (up_any _ _ _ l0 u0 g0 g1)))
        | (go_at_call 17; exact Calls.quiet_of_same (q_of (rup_any _ _ _ l0 u0 g0 g1)))))
      go_wp2_with fail
      go_roundw
      case rel => exact ⟨k + 1, by omega, by go_num, hbl.drn _⟩
      case measure => simp [intOf]; omega
    · obtain rfl : k = 3 := by omega
      clear hlt
      have eq1 : (clamp a (min low high) (max low high) == clamp a (min low high) (max low high)) = true := by simp
      go_wp2_with fail
      refine (clamp_any _ _ _ _).mono ?_
      rintro e w' ⟨rfl, rfl⟩
      go_wp2_with fail
      refine (rclamp_any _ _ _ _).mono ?_
      rintro e w' ⟨rfl, rfl⟩
      go_wp2_with fail
      refine (lives01 _).mono ?_
      rintro e w' ⟨rfl, hb⟩
      go_wp2_with fail
      go_ret
      exact ⟨rfl, (((Bl.rfl' w).al _).tr hbl).tr hb⟩
end Go.Proofs.Ytpobachhplbamaa.fixQuotients
