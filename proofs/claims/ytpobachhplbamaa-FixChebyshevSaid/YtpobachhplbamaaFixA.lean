/-
  Contracts of the small functions on whole numbers of layer 1, and of their references.
-/
import Derived.Test.YtpobachhplbamaaKit
import Derived.Test.YtpobachhplbamaaMathA
namespace Go.Proofs.Ytpobachhplbamaa
open Go.ChangeShapes Go.WideShapes Go.ChangeAt Go.RowKit
set_option linter.unusedVariables false
set_option linter.unusedSimpArgs false


def around (n m : Int) : Int := (if n < 0 then -(n + 1) else n) % m

theorem around_lo (n m : Int) (hm : 0 < m) : 0 ≤ around n m := Int.emod_nonneg _ (by omega)
theorem around_hi (n m : Int) (hm : 0 < m) : around n m < m := Int.emod_lt_of_pos _ hm

theorem tmod_nn {a m : Int} (h : 0 ≤ a) : a.tmod m = a % m := Int.tmod_eq_emod_of_nonneg h
theorem around_neg {n m : Int} (h : n < 0) : -((n + 1).tmod m) = around n m := by rw [around, if_pos h, ← Int.neg_tmod]; exact tmod_nn (by omega)
theorem around_pos {n m : Int} (h : ¬ n < 0) : n % m = around n m := by rw [around, if_neg h]

theorem around_any (n m : Int) (w : World) (h1 : -9223372036854775808 ≤ n) (h2 : n ≤ 9223372036854775807) (hm : 0 < m) (hm2 : m ≤ 9223372036854775807) :
    Calls Try.prog 13 #[.int .i64 n, .int .i64 m] w fun e w' => e = .returned (.int .i64 (around n m)) ∧ w = w' := by
  by_cases h : n < 0
  · go_enter Try.func13, Try.ntmps13
    go_wp2
    go_ret
    exact ⟨ret_int (around_neg (by omega)), rfl⟩
  · go_enter Try.func13, Try.ntmps13
    go_wp2
    go_ret
    exact ⟨ret_int (around_pos (by omega)), rfl⟩

theorem above_any (n : Int) (w : World) (h1 : -9223372036854775808 ≤ n) (h2 : n ≤ 9223372036854775807) :
    Calls Try.prog 12 #[.int .i64 n] w fun e w' => e = .returned (.int .i64 (1 + around n 4611686018427387904)) ∧ w = w' := by
  have a := around_lo n 4611686018427387904 (by omega)
  have b := around_hi n 4611686018427387904 (by omega)
  go_enter Try.func12, Try.ntmps12
  go_wp2_with (go_at_call 13; refine (around_any _ _ _ h1 h2 (by omega) (by omega)).mono ?_; rintro e w' ⟨rfl, rfl⟩)
  go_ret
  exact ⟨rfl, rfl⟩

theorem some_any (n : Int) (w : World) (h1 : -9223372036854775808 ≤ n) (h2 : n ≤ 9223372036854775807) :
    Calls Try.prog 21 #[.int .i64 n] w fun e w' => e = .returned (.int .i64 (around n 4611686018427387904)) ∧ w = w' := by
  go_enter Try.func21, Try.ntmps21
  go_wp2_with (go_at_call 13; refine (around_any _ _ _ h1 h2 (by omega) (by omega)).mono ?_; rintro e w' ⟨rfl, rfl⟩)
  go_ret
  exact ⟨rfl, rfl⟩

/-! ### Clamp -/
def clamp (n l h : Int) : Int := if n < l then l else if h < n then h else n
theorem clamp_any (n l h : Int) (w : World) :
    Calls Try.prog 18 #[.int .i64 n, .int .i64 l, .int .i64 h] w fun e w' => e = .returned (.int .i64 (clamp n l h)) ∧ w = w' := by
  by_cases h1 : n < l
  · go_enter Try.func18, Try.ntmps18
    go_wp2
    go_ret
    exact ⟨ret_int (by simp [clamp, h1]), rfl⟩
  · by_cases h2 : h < n
    all_goals
      go_enter Try.func18, Try.ntmps18
      go_wp2
      go_ret
      exact ⟨ret_int (by unfold clamp; rw [if_neg (by omega)]; first | rw [if_pos (by omega)] | rw [if_neg (by omega)]), rfl⟩

theorem rclamp_any (n l h : Int) (w : World) :
    Calls Try.prog 19 #[.int .i64 n, .int .i64 l, .int .i64 h] w fun e w' => e = .returned (.int .i64 (clamp n l h)) ∧ w = w' := by
  by_cases h1 : n < l
  · go_enter Try.func19, Try.ntmps19
    go_wp2
    go_ret
    exact ⟨ret_int (by simp [clamp, h1]), rfl⟩
  · by_cases h2 : h < n
    all_goals
      go_enter Try.func19, Try.ntmps19
      go_wp2
      go_ret
      exact ⟨ret_int (by unfold clamp; rw [if_neg (by omega)]; first | rw [if_pos (by omega)] | rw [if_neg (by omega)]), rfl⟩

/-! ### Down and Up -/
theorem down_any (a b : Int) (w : World) (h1 : -9223372036854775808 ≤ a) (h2 : a ≤ 9223372036854775807) (hb : 0 < b) (hb2 : b ≤ 9223372036854775807) :
    Calls Try.prog 14 #[.int .i64 a, .int .i64 b] w fun e w' => e = .returned (.int .i64 (a / b)) ∧ w = w' := by
  have t := M.tdiv_range a b hb h1 h2
  by_cases h : a.tmod b < 0
  · have t3 := t.2.2 h
    have hq := M.down_neg a b hb h
    have H := Lib.hid hq; clear hq
    obtain ⟨t1, t2, _⟩ := t
    go_enter Try.func14, Try.ntmps14
    go_wp2
    go_ret
    exact ⟨ret_int (by rw [H.out]), rfl⟩
  · have hq := M.down_nn a b hb (by omega)
    have H := Lib.hid hq; clear hq
    obtain ⟨t1, t2, _⟩ := t
    go_enter Try.func14, Try.ntmps14
    go_wp2
    go_ret
    exact ⟨ret_int (by rw [H.out]), rfl⟩

theorem up_any (a b : Int) (w : World) (h1 : -9223372036854775808 ≤ a) (h2 : a ≤ 9223372036854775807) (hb : 0 < b) (hb2 : b ≤ 9223372036854775807) :
    Calls Try.prog 16 #[.int .i64 a, .int .i64 b] w fun e w' => e = .returned (.int .i64 (M.up a b)) ∧ w = w' := by
  have t := M.tdiv_range a b hb h1 h2
  have u := M.up_range a b hb h1 h2
  by_cases h : 0 < a.tmod b
  · have hq := M.up_pos a b hb h
    rw [hq] at u
    have H := Lib.hid hq; clear hq
    obtain ⟨t1, t2, _⟩ := t
    go_enter Try.func16, Try.ntmps16
    go_wp2
    go_ret
    exact ⟨ret_int (by rw [H.out]), rfl⟩
  · have hq := M.up_np a b hb (by omega)
    have H := Lib.hid hq; clear hq
    obtain ⟨t1, t2, _⟩ := t
    go_enter Try.func16, Try.ntmps16
    go_wp2
    go_ret
    exact ⟨ret_int (by rw [H.out]), rfl⟩

theorem rdown_any (a b : Int) (w : World) (h1 : -9223372036854775808 ≤ a) (h2 : a ≤ 9223372036854775807) (hb : 0 < b) (hb2 : b ≤ 9223372036854775807) :
    Calls Try.prog 15 #[.int .i64 a, .int .i64 b] w fun e w' => e = .returned (.int .i64 (a / b)) ∧ w = w' := by
  have t := M.tdiv_range a b hb h1 h2
  obtain ⟨_, m1, m2⟩ := M.tdiv_facts a b hb
  have s1 := M.tsub_range a b hb h1 h2
  have s2 := M.tsub a b hb
  rw [← s2] at t
  have H := Lib.hid s2; clear s2
  by_cases h : a.tmod b < 0
  · have t3 := t.2.2 h
    have hq := M.down_neg a b hb h
    have H2 := Lib.hid hq; clear hq
    obtain ⟨t1, t2, _⟩ := t
    obtain ⟨s3, s4⟩ := s1
    go_enter Try.func15, Try.ntmps15
    go_wp2
    go_ret
    exact ⟨ret_int (by rw [H2.out, H.out]), rfl⟩
  · have hq := M.down_nn a b hb (by omega)
    have H2 := Lib.hid hq; clear hq
    obtain ⟨t1, t2, _⟩ := t
    obtain ⟨s3, s4⟩ := s1
    go_enter Try.func15, Try.ntmps15
    go_wp2
    go_ret
    exact ⟨ret_int (by rw [H2.out, H.out]), rfl⟩
end Go.Proofs.Ytpobachhplbamaa
