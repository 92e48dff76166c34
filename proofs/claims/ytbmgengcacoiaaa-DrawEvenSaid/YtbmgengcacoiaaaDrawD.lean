/-
  Package draw: Below and Two.
-/
import Derived.Test.YtbmgengcacoiaaaDrawC
namespace Go.Proofs.Ytbmgengcacoiaaa.draw
open Go.ChangeShapes Go.WideShapes Go.ChangeAt Go.RowKit
set_option linter.unusedVariables false
set_option linter.unusedSimpArgs false

/-- Below: n 1 or more. -/
theorem below_any {lo : Nat} (w : World) (p : Nat) (ns : List Int) (st u n : Int) (h : Dr lo w p ns st u) (h0 : 0 ≤ u) (h1 : u ≤ 1000000) (hn : 0 < n) (hn1 : n ≤ 9223372036854775807) :
    Calls Try.prog 13 #[ptr p, .int .i64 n] w fun e w' => e = .returned (.int .i64 (hd ns st % n)) ∧ Dr lo w' p ns.tail (st2 ns st) (u + 1) ∧ w.grownBy w' (some p) := by
  have N := Lib.hid (next_any w p ns st u h h0 h1)
  have r := hd_range ns st h.2.2.1
  obtain ⟨x, hx⟩ : ∃ x, hd ns st = x := ⟨_, rfl⟩
  rw [hx] at N r ⊢
  obtain ⟨r0, r1⟩ := r
  have m0 := Int.emod_nonneg x (show n ≠ 0 by omega)
  have m1 := Int.emod_lt_of_pos x hn
  clear h hx
  go_enter Try.func13, Try.ntmps13
  go_wp2_with fail
  refine N.out.mono ?_
  rintro e w' ⟨rfl, hd, hg⟩
  replace hd := Lib.hid hd
  go_wp2_with fail
  go_ret
  exact ⟨rfl, hd.out, hg⟩
theorem two_any {lo : Nat} (w : World) (p : Nat) (ns : List Int) (st n x y : Int) (u : Int) (h : Dr lo w p ns st u) (h0 : 0 ≤ u) (h1 : u ≤ 100000) (hn : 2 ≤ n) (hn1 : n ≤ 9223372036854775807)
    (hx : hd ns st % n = x) (hy : hd ns.tail (st2 ns st) % (n - 1) = y) :
    Calls Try.prog 10 #[ptr p, .int .i64 n] w fun e w' => e = .returned (.tuple #[.int .i64 x, .int .i64 (if x ≤ y then y + 1 else y)]) ∧ Dr lo w' p ns.tail.tail (st2 ns.tail (st2 ns st)) (u + 2) ∧ w.grownBy w' (some p) := by
  have r0 := Int.emod_nonneg (hd ns st) (show n ≠ 0 by omega)
  have r1 := Int.emod_lt_of_pos (hd ns st) (show 0 < n by omega)
  have s0 := Int.emod_nonneg (hd ns.tail (st2 ns st)) (show n - 1 ≠ 0 by omega)
  have s1 := Int.emod_lt_of_pos (hd ns.tail (st2 ns st)) (show 0 < n - 1 by omega)
  have B1 := below_any w p ns st u n h h0 (by omega) (by omega) hn1
  have B2 := Lib.hid (fun w (h : Dr lo w p ns.tail (st2 ns st) (u + 1)) => below_any w p ns.tail (st2 ns st) (u + 1) (n - 1) h (by omega) (by omega) (by omega) (by omega))
  rw [hx] at B1 r0 r1
  rw [hy] at B2 s0 s1
  replace B1 := Lib.hid B1
  clear hx hy h
  by_cases hxy : x ≤ y
  · rw [if_pos hxy]
    go_enter Try.func10, Try.ntmps10
    go_wp2_with fail
    refine B1.out.mono ?_
    rintro e w1 ⟨rfl, hd1, hg1⟩
    replace hd1 := Lib.hid hd1
    go_wp2_with fail
    refine (B2.out _ hd1.out).mono ?_
    rintro e w2 ⟨rfl, hd2, hg2⟩
    replace hd2 := Lib.hid hd2
    go_wp2_with fail
    go_ret2
    refine ⟨rfl, ?_, gby_tr hg1 hg2⟩
    have := hd2.out
    rwa [show u + 1 + 1 = u + 2 by omega] at this
  · rw [if_neg hxy]
    go_enter Try.func10, Try.ntmps10
    go_wp2_with fail
    refine B1.out.mono ?_
    rintro e w1 ⟨rfl, hd1, hg1⟩
    replace hd1 := Lib.hid hd1
    go_wp2_with fail
    refine (B2.out _ hd1.out).mono ?_
    rintro e w2 ⟨rfl, hd2, hg2⟩
    replace hd2 := Lib.hid hd2
    go_wp2_with fail
    go_ret2
    refine ⟨rfl, ?_, gby_tr hg1 hg2⟩
    have := hd2.out
    rwa [show u + 1 + 1 = u + 2 by omega] at this

end Go.Proofs.Ytbmgengcacoiaaa.draw
