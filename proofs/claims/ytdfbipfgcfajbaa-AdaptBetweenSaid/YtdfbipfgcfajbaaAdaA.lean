/-
  Package adapt: a limit's block; New, Now, Base, rise, fall.
-/
import Derived.Test.YtdfbipfgcfajbaaGen
import Derived.Test.YtdfbipfgcfajbaaKit2
import Derived.Test.YtdfbipfgcfajbaaAround
import Derived.BigRegion
import Derived.BigQuiet
import Derived.StillTailTactics
namespace Go.Proofs.Ytdfbipfgcfajbaa.adapt
open Go.ChangeShapes Go.WideShapes Go.ChangeAt Go.RowKit
set_option linter.unusedVariables false
set_option linter.unusedSimpArgs false

abbrev ptr (p : Nat) : Value := .pointer (some ⟨p, 0, none⟩)
/-- What a limit holds: it, its least and greatest, the base, whether it was cut, and when. -/
structure Lim where
  n : Int
  lo : Int
  hi : Int
  ba : Int
  ct : Bool
  ca : Int
def AB (w : World) (p : Nat) (s : Lim) : Prop := w.heap[p]? = some (.cells #[I s.n, I s.lo, I s.hi, I s.ba, .bool s.ct, I s.ca] 40 (0, 0))
theorem AB.lt {w p s} (h : AB w p s) : p < w.heap.size := lt_of_block h
theorem AB.kept {w w' : World} {p s} (h : AB w p s) (hb : w'.heap[p]? = w.heap[p]?) : AB w' p s := hb.trans h
theorem AB.bl {w w' : World} {p s} (h : AB w p s) (hb : Bl w w') : AB w' p s := h.kept (hb.block p h.lt)
theorem AB.gby {w w' : World} {p q s} (h : AB w p s) (hg : w.grownBy w' (some q)) (hne : p ≠ q) : AB w' p s := h.kept (hg.block p h.lt (fun e => hne (by cases e; rfl)))
theorem AB.c {w p s} (h : AB w p s) : w.cell? ⟨p, 0, none⟩ = some (I s.n) ∧ w.cell? ⟨p, 1, none⟩ = some (I s.lo) ∧ w.cell? ⟨p, 2, none⟩ = some (I s.hi) ∧ w.cell? ⟨p, 3, none⟩ = some (I s.ba) ∧ w.cell? ⟨p, 4, none⟩ = some (.bool s.ct) ∧ w.cell? ⟨p, 5, none⟩ = some (I s.ca) := by
  unfold AB at h
  refine ⟨?_, ?_, ?_, ?_, ?_, ?_⟩ <;> simp [World.cell?, h]
theorem AB.free {w p s} (h : AB w p s) (i : Nat) : w.frozen? ⟨p, i, none⟩ = false := free_at h i

theorem new_any (lo hi : Int) (w : World) : Calls Try.prog 8 #[.int .i64 lo, .int .i64 hi] w fun e w' => ∃ p, e = .returned (ptr p) ∧ w.heap.size ≤ p ∧ AB w' p ⟨lo, lo, hi, 0, false, 0⟩ ∧ Bl w w' := by
  go_enter Try.func8, Try.ntmps8
  go_wp2_with fail
  go_ret
  exact ⟨_, rfl, Nat.le_refl _, heap_alloc_new _ _, (Bl.rfl' _).al _⟩
theorem now_any (w : World) (p : Nat) (s : Lim) (h : AB w p s) : Calls Try.prog 10 #[ptr p] w fun e w' => e = .returned (.int .i64 s.n) ∧ w = w' := by
  obtain ⟨c0, c1, c2, c3, c4, c5⟩ := h.c
  clear h
  go_enter Try.func10, Try.ntmps10
  go_wp2_with fail
  go_ret
  exact ⟨rfl, rfl⟩
theorem base_any (w : World) (p : Nat) (s : Lim) (h : AB w p s) : Calls Try.prog 11 #[ptr p] w fun e w' => e = .returned (.int .i64 s.ba) ∧ w = w' := by
  obtain ⟨c0, c1, c2, c3, c4, c5⟩ := h.c
  clear h
  go_enter Try.func11, Try.ntmps11
  go_wp2_with fail
  go_ret
  exact ⟨rfl, rfl⟩

theorem AB.set_n {w p s} (h : AB w p s) (x : Int) : AB (w.setCell ⟨p, 0, none⟩ (I x)) p { s with n := x } := set_at 0 (I x) h
theorem AB.set_ba {w p s} (h : AB w p s) (x : Int) : AB (w.setCell ⟨p, 3, none⟩ (I x)) p { s with ba := x } := set_at 3 (I x) h
theorem AB.set_ct {w p s} (h : AB w p s) (x : Bool) : AB (w.setCell ⟨p, 4, none⟩ (.bool x)) p { s with ct := x } := set_at 4 (.bool x) h
theorem AB.set_ca {w p s} (h : AB w p s) (x : Int) : AB (w.setCell ⟨p, 5, none⟩ (I x)) p { s with ca := x } := set_at 5 (I x) h
/-- What may be reckoned with. -/
def okL (s : Lim) : Prop := 0 ≤ s.n ∧ s.n ≤ 1000 ∧ 0 ≤ s.lo ∧ s.lo ≤ 1000 ∧ 0 ≤ s.hi ∧ s.hi ≤ 1000 ∧ 0 ≤ s.ba ∧ s.ba ≤ 1000 ∧ 0 ≤ s.ca ∧ s.ca ≤ 1000000
def rise (s : Lim) (under : Int) : Lim := if s.n ≤ under ∧ s.n < s.hi then { s with n := s.n + 1 } else s
def fall (s : Lim) (now : Int) : Lim := if s.ct = true ∧ now < s.ca + s.ba then s else { s with ct := true, ca := now, n := max s.lo (3 * s.n / 4) }

theorem rise_any (w : World) (p : Nat) (s : Lim) (now under : Int) (h : AB w p s) (hs : okL s) :
    Calls Try.prog 16 #[ptr p, .int .i64 now, .int .i64 under] w fun e w' => e = .returned (.tuple #[]) ∧ AB w' p (rise s under) ∧ w.grownBy w' (some p) := by
  obtain ⟨n, lo, hi, ba, ct, ca⟩ := s
  unfold okL at hs
  simp only at hs
  obtain ⟨n0, n1, _⟩ := hs
  have hd := h.bl (Bl.rfl' w).dr
  have bd := (Bl.rfl' w).dr
  obtain ⟨c0, c1, c2, c3, c4, c5⟩ := h.c
  simp only at c0 c1 c2 c3 c4 c5
  have hA := Lib.hid (fun k => h.bl (Bl.drewN w k))
  have hB := Lib.hid (fun k => Bl.drewN w k)
  unfold rise
  simp only
  clear h hd bd
  by_cases h1 : n ≤ under
  · have e1 : decide (under ≥ n) = true := decide_eq_true h1
    by_cases h2 : n < hi
    · have e2 : decide (n < hi) = true := decide_eq_true h2
      rw [if_pos ⟨h1, h2⟩]
      go_enter Try.func16, Try.ntmps16
      go_wp2_with fail
      go_quiet (fail)
      have hs := Lib.hid ((hA.out nq).set_n (n + 1))
      have hg := Lib.hid (gby_tr (gby_of_bl (hB.out nq) (some p)) (gby_set (w.drewN nq) p 0 (I (n + 1))))
      have f0 := free_at (hA.out nq) 0
      go_wp2_with fail
      go_end0
      exact ⟨rfl, hs.out, hg.out⟩
    · have e2 : decide (n < hi) = false := decide_eq_false h2
      rw [if_neg (fun h => h2 h.2)]
      go_enter Try.func16, Try.ntmps16
      go_wp2_with fail
      go_quiet (fail)
      go_wp2_with fail
      go_end0
      exact ⟨rfl, hA.out nq, gby_of_bl (hB.out nq) _⟩
  · have e1 : decide (under ≥ n) = false := decide_eq_false h1
    rw [if_neg (fun h => h1 h.1)]
    go_enter Try.func16, Try.ntmps16
    go_wp2_with fail
    go_quiet (fail)
    go_wp2_with fail
    go_end0
    exact ⟨rfl, hA.out nq, gby_of_bl (hB.out nq) _⟩

theorem quarter_any (n : Int) (w : World) (n0 : 0 ≤ n) (n1 : n ≤ 1000) : Calls Try.prog 19 #[.int .i64 n] w fun e w' => e = .returned (.int .i64 (n - 3 * n / 4)) ∧ w = w' := by
  have ht : n.tmod 4 = n % 4 := Int.tmod_eq_emod_of_nonneg n0
  have hd : n.tdiv 4 = n / 4 := Int.tdiv_eq_ediv_of_nonneg n0
  have hd2 : (n % 4 + 3).tdiv 4 = (n % 4 + 3) / 4 := Int.tdiv_eq_ediv_of_nonneg (by omega)
  have w1 : IntKind.i64.wrap (n.tmod 4) = n % 4 := by rw [ht, IntKind.wrap_i64]; omega
  have w2 : IntKind.i64.wrap (n.tdiv 4) = n / 4 := by rw [hd, IntKind.wrap_i64]; omega
  have w3 : IntKind.i64.wrap (n % 4 + 3) = n % 4 + 3 := by rw [IntKind.wrap_i64]; omega
  have w4 : IntKind.i64.wrap ((n % 4 + 3).tdiv 4) = (n % 4 + 3) / 4 := by rw [hd2, IntKind.wrap_i64]; omega
  have h5 : n / 4 + (n % 4 + 3) / 4 = n - 3 * n / 4 := by omega
  have w5 : IntKind.i64.wrap (n / 4 + (n % 4 + 3) / 4) = n - 3 * n / 4 := by rw [h5, IntKind.wrap_i64]; omega
  clear ht hd hd2
  go_enter Try.func19, Try.ntmps19
  go_wp2_with fail
  go_ret
  first | exact ⟨rfl, rfl⟩ | (refine ⟨?_, rfl⟩; show Ending.returned (Value.int IntKind.i64 (n / 4 + (n % 4 + 3) / 4)) = _; rw [show n / 4 + (n % 4 + 3) / 4 = n - 3 * n / 4 by omega])

set_option maxHeartbeats 8000000 in
set_option maxRecDepth 20000 in
theorem fall_any (w : World) (p : Nat) (s : Lim) (now under : Int) (h : AB w p s) (hs : okL s) (t0 : 0 ≤ now) (t1 : now ≤ 1000000) :
    Calls Try.prog 17 #[ptr p, .int .i64 now, .int .i64 under] w fun e w' => e = .returned (.tuple #[]) ∧ AB w' p (fall s now) ∧ w.grownBy w' (some p) := by
  obtain ⟨n, lo, hi, ba, ct, ca⟩ := s
  unfold okL at hs
  simp only at hs
  obtain ⟨n0, n1, lo0, lo1, hi0, hi1, ba0, ba1, ca0, ca1⟩ := hs
  obtain ⟨c0, c1, c2, c3, c4, c5⟩ := h.c
  simp only at c0 c1 c2 c3 c4 c5
  have hA := Lib.hid (fun k => h.bl (Bl.drewN w k))
  have hB := Lib.hid (fun k => Bl.drewN w k)
  have hws : IntKind.i64.wrap (now - ca) = now - ca := by rw [IntKind.wrap_i64]; omega
  have QU := Lib.hid (fun w' => quarter_any n w' n0 n1)
  have hwq : IntKind.i64.wrap (n - (n - 3 * n / 4)) = 3 * n / 4 := by rw [IntKind.wrap_i64]; omega
  have hwq2 : n - (n - 3 * n / 4) = 3 * n / 4 := by omega
  have hwq3 : IntKind.i64.wrap (3 * n / 4) = 3 * n / 4 := by rw [IntKind.wrap_i64]; omega
  unfold fall
  simp only
  clear h
  have hq0 : 0 ≤ 3 * n / 4 := by omega
  have hqt : (3 * n).tdiv 4 = 3 * n / 4 := Int.tdiv_eq_ediv_of_nonneg (by omega)
  obtain ⟨x, hx⟩ : ∃ x, max lo (3 * n / 4) = x := ⟨_, rfl⟩
  have hmx : (if lo < 3 * n / 4 then 3 * n / 4 else lo) = x := by split <;> omega
  have hmy : (if 3 * n / 4 < lo then lo else 3 * n / 4) = x := by split <;> omega
  have hwn : IntKind.i64.wrap (3 * n) = 3 * n := by rw [IntKind.wrap_i64]; omega
  rw [hx]
  clear hx
  cases ct with
  | true =>
    by_cases h1 : now < ca + ba
    · have e1 : decide (now - ca < ba) = true := decide_eq_true (by omega)
      rw [if_pos (show true = true ∧ now < ca + ba from ⟨rfl, h1⟩)]
      go_enter Try.func17, Try.ntmps17
      go_wp2_with fail
      go_quiet (fail)
      go_wp2_with fail
      refine bodyPost_ret (results_none rfl _ _ _) rfl ?_
      exact ⟨rfl, hA.out nq, gby_of_bl (hB.out nq) _⟩
    · have e1 : decide (now - ca < ba) = false := decide_eq_false (by omega)
      rw [if_neg (show ¬ (true = true ∧ now < ca + ba) from fun h => h1 h.2)]
      go_enter Try.func17, Try.ntmps17
      go_wp2_with fail
      go_quiet (fail)
      have f4 := free_at (hA.out nq) 4
      have f5 := free_at (hA.out nq) 5
      have hs2 := Lib.hid (((hA.out nq).set_ct true).set_ca now)
      have hg2 := Lib.hid (gby_tr (gby_of_bl (hB.out nq) (some p)) (gby_tr (gby_set (w.drewN nq) p 4 (.bool true)) (gby_set _ p 5 (I now))))
      go_wp2_with fail
      obtain ⟨w2, hw2⟩ : ∃ zz, ((w.drewN nq).setCell ⟨p, 4, none⟩ (.bool true)).setCell ⟨p, 5, none⟩ (I now) = zz := ⟨_, rfl⟩
      have hs2 := hs2.out
      have hg2 := hg2.out
      rw [hw2] at hs2 hg2 ⊢
      clear hw2 c0 c1 c2 c3 c4 c5 f4 f5 hA hB
      have h3 := hs2.bl (Bl.rfl' w2).dr
      have g3 := gby_tr hg2 (gby_of_bl (Bl.rfl' w2).dr (some p))
      obtain ⟨c0, c1, c2, c3, c4, c5⟩ := hs2.c
      simp only at c0 c1 c2 c3 c4 c5
      have f0 := hs2.free 0
      have hm := Lib.hid (h3.set_n x)
      have hg := Lib.hid (gby_tr g3 (gby_set w2.drew p 0 (I x)))
      clear hs2 hg2 h3 g3
      refine wp_region_still_tail 18 (by kernel_rfl) (by kernel_rfl) ?_
      simp only [List.take_succ_cons, List.take_zero, List.drop_succ_cons, List.drop_zero]
      change wpStill _ _ w2.drew (fun a' => wpList _ _ _ _ a' w2.drew) _ _
      still_step
      still_step
      still_step
      still_step
      still_step
      still_step
      still_step
      still_step
      still_step
      still_step
      still_step
      still_step
      still_step
      still_call (q_of (QU.out w2.drew))
      still_step
      still_step
      still_step
      still_step
      try refine wpStill_nil ?_
      all_goals
        go_wp2_with fail
        go_end0
        exact ⟨rfl, hm.out, hg.out⟩
  | false =>
    rw [if_neg (show ¬ (false = true ∧ now < ca + ba) from fun h => by cases h.1)]
    go_enter Try.func17, Try.ntmps17
    go_wp2_with fail
    go_quiet (fail)
    have f4 := free_at (hA.out nq) 4
    have f5 := free_at (hA.out nq) 5
    have hs2 := Lib.hid (((hA.out nq).set_ct true).set_ca now)
    have hg2 := Lib.hid (gby_tr (gby_of_bl (hB.out nq) (some p)) (gby_tr (gby_set (w.drewN nq) p 4 (.bool true)) (gby_set _ p 5 (I now))))
    go_wp2_with fail
    obtain ⟨w2, hw2⟩ : ∃ zz, ((w.drewN nq).setCell ⟨p, 4, none⟩ (.bool true)).setCell ⟨p, 5, none⟩ (I now) = zz := ⟨_, rfl⟩
    have hs2 := hs2.out
    have hg2 := hg2.out
    rw [hw2] at hs2 hg2 ⊢
    clear hw2 c0 c1 c2 c3 c4 c5 f4 f5 hA hB
    have h3 := hs2.bl (Bl.rfl' w2).dr
    have g3 := gby_tr hg2 (gby_of_bl (Bl.rfl' w2).dr (some p))
    obtain ⟨c0, c1, c2, c3, c4, c5⟩ := hs2.c
    simp only at c0 c1 c2 c3 c4 c5
    have f0 := hs2.free 0
    have hm := Lib.hid (h3.set_n x)
    have hg := Lib.hid (gby_tr g3 (gby_set w2.drew p 0 (I x)))
    clear hs2 hg2 h3 g3
    refine wp_region_still_tail 18 (by kernel_rfl) (by kernel_rfl) ?_
    simp only [List.take_succ_cons, List.take_zero, List.drop_succ_cons, List.drop_zero]
    change wpStill _ _ w2.drew (fun a' => wpList _ _ _ _ a' w2.drew) _ _
    still_step
    still_step
    still_step
    still_step
    still_step
    still_step
    still_step
    still_step
    still_step
    still_step
    still_step
    still_step
    still_step
    still_call (q_of (QU.out w2.drew))
    still_step
    still_step
    still_step
    still_step
    try refine wpStill_nil ?_
    all_goals
      go_wp2_with fail
      go_end0
      exact ⟨rfl, hm.out, hg.out⟩
theorem tooLong_any (w : World) (p : Nat) (s : Lim) (took : Int) (h : AB w p s) (hs : okL s) : Calls Try.prog 18 #[ptr p, .int .i64 took] w fun e w' => e = .returned (.bool (decide (4 * s.ba < took))) ∧ w = w' := by
  obtain ⟨n, lo, hi, ba, ct, ca⟩ := s
  unfold okL at hs
  simp only at hs
  obtain ⟨n0, n1, lo0, lo1, hi0, hi1, ba0, ba1, ca0, ca1⟩ := hs
  obtain ⟨c0, c1, c2, c3, c4, c5⟩ := h.c
  simp only at c0 c1 c2 c3 c4 c5
  have e1 : decide (ba ≤ 2305843009213693951) = true := decide_eq_true (by omega)
  have hw : IntKind.i64.wrap (4 * ba) = 4 * ba := by rw [IntKind.wrap_i64]; omega
  clear h
  by_cases hk : 4 * ba < took
  · have e2 : decide (took > 4 * ba) = true := decide_eq_true hk
    rw [decide_eq_true hk]
    go_enter Try.func18, Try.ntmps18
    go_wp2_with fail
    go_ret
    exact ⟨rfl, rfl⟩
  · have e2 : decide (took > 4 * ba) = false := decide_eq_false hk
    rw [decide_eq_false hk]
    go_enter Try.func18, Try.ntmps18
    go_wp2_with fail
    go_ret
    exact ⟨rfl, rfl⟩
end Go.Proofs.Ytdfbipfgcfajbaa.adapt
