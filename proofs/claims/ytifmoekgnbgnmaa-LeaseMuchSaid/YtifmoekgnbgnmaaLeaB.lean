/-
  Package lease: Ask, Forget, Use, Give, each by its contract; new ones.
-/
import Derived.Test.YtifmoekgnbgnmaaLeaA
import Derived.StillTailTactics
import Derived.Deep.CutRange
namespace Go.Proofs.Ytifmoekgnbgnmaa.lease
open Go.ChangeShapes Go.WideShapes Go.ChangeAt Go.RowKit
set_option linter.unusedVariables false
set_option linter.unusedSimpArgs false

abbrev TL : TypeId := 65
abbrev TC : TypeId := 66
/-- How many are leased, with so many leased in the window. -/
def ask (L S c : Int) : Int := min S (L - c)

theorem ask_any (w : World) (p : Nat) (L W S k n t : Int) (h : LB 65 w p L W S k n) (hb : okR L W S) (t0 : 0 ≤ t) (t1 : t ≤ 1000000) (n0 : 0 ≤ n) (n1 : n ≤ L) :
    Calls Try.prog 25 #[ptr p, .int .i64 t] w fun e w' => e = .returned (.int .i64 (ask L S (cur W k n t))) ∧ LB 65 w' p L W S (t / W) (cur W k n t + ask L S (cur W k n t)) ∧ w.grownBy w' (some p) := by
  have T := turn_any _ w p L W S k n t h hb t0 t1
  have hc := cur_bd (W := W) (k := k) (t := t) n0 n1
  obtain ⟨l0, l1, w0, w1, s0, s1⟩ := hb
  obtain ⟨c0, c1, c2, c3, c4⟩ := h.c
  obtain ⟨c, hcc⟩ : ∃ c, cur W k n t = c := ⟨_, rfl⟩
  obtain ⟨y, hy⟩ : ∃ y, t / W = y := ⟨_, rfl⟩
  unfold ask
  rw [hcc] at T hc ⊢
  rw [hy] at T ⊢
  replace T := Lib.hid T
  clear hcc hy h
  have hwl : IntKind.i64.wrap (L - c) = L - c := by rw [IntKind.wrap_i64]; omega
  obtain ⟨m, hm⟩ : ∃ m, min S (L - c) = m := ⟨_, rfl⟩
  have hmn : (if L - c < S then L - c else S) = m := by split <;> omega
  have hm1 : c + m ≤ 1000 ∧ 0 ≤ c + m := by omega
  have hwm : IntKind.i64.wrap (c + m) = c + m := by rw [IntKind.wrap_i64]; omega
  rw [hm]
  replace hm := Lib.hid hm
  go_enter Try.func25, Try.ntmps25
  go_wp2_with fail
  refine T.out.mono ?_
  rintro e w1 ⟨rfl, h1, hg1⟩
  obtain ⟨c0, c1, c2, c3, c4⟩ := h1.c
  have h2 := h1.bl (Bl.rfl' w1).dr
  have g2 := gby_tr hg1 (gby_of_bl (Bl.rfl' w1).dr (some p))
  obtain ⟨w2, hw2⟩ : ∃ x, w1.drew = x := ⟨_, rfl⟩
  rw [hw2] at h2 g2
  replace hw2 := Lib.hid hw2
  clear h1 hg1
  go_wp2_with fail
  go_region
  rw [hw2.out]
  clear c0 c1 c2 c3 c4
  obtain ⟨c0, c1, c2, c3, c4⟩ := h2.c
  have f4 := h2.free 4
  have hs := Lib.hid (h2.set4 (c + m))
  have hg := Lib.hid (gby_tr g2 (gby_set w2 p 4 (I (c + m))))
  clear h2 g2
  go_wp2_with fail
  go_ret
  exact ⟨rfl, hs.out, hg.out⟩

theorem forget_any (w : World) (p : Nat) (L W S k n t : Int) (h : LB 65 w p L W S k n) (hb : okR L W S) (t0 : 0 ≤ t) (t1 : t ≤ 1000000) :
    Calls Try.prog 20 #[ptr p, .int .i64 t] w fun e w' => e = .returned (.tuple #[]) ∧ LB 65 w' p L W S (t / W) L ∧ w.grownBy w' (some p) := by
  have T := turn_any _ w p L W S k n t h hb t0 t1
  obtain ⟨c, hcc⟩ : ∃ c, cur W k n t = c := ⟨_, rfl⟩
  obtain ⟨y, hy⟩ : ∃ y, t / W = y := ⟨_, rfl⟩
  rw [hcc] at T
  rw [hy] at T ⊢
  replace T := Lib.hid T
  clear hcc hy h
  go_enter Try.func20, Try.ntmps20
  go_wp2_with fail
  refine T.out.mono ?_
  rintro e w1 ⟨rfl, h1, hg1⟩
  obtain ⟨c0, c1, c2, c3, c4⟩ := h1.c
  have f4 := h1.free 4
  have hs := Lib.hid (h1.set4 L)
  have hg := Lib.hid (gby_tr hg1 (gby_set w1 p 4 (I L)))
  clear h1 hg1
  go_wp2_with fail
  go_end0
  exact ⟨rfl, hs.out, hg.out⟩

theorem give_any (w : World) (p : Nat) (L W S k n t g : Int) (h : LB 66 w p L W S k n) (hb : okR L W S) (t0 : 0 ≤ t) (t1 : t ≤ 1000000) (n0 : 0 ≤ n) (n1 : n ≤ 1000000) (g0 : 0 ≤ g) (g1 : g ≤ 1000000) :
    Calls Try.prog 26 #[ptr p, .int .i64 t, .int .i64 g] w fun e w' => e = .returned (.tuple #[]) ∧ LB 66 w' p L W S (t / W) (cur W k n t + g) ∧ w.grownBy w' (some p) := by
  have T := turn_any _ w p L W S k n t h hb t0 t1
  have hc := cur_bd (W := W) (k := k) (t := t) n0 n1
  obtain ⟨c, hcc⟩ : ∃ c, cur W k n t = c := ⟨_, rfl⟩
  obtain ⟨y, hy⟩ : ∃ y, t / W = y := ⟨_, rfl⟩
  rw [hcc] at T hc ⊢
  rw [hy] at T ⊢
  replace T := Lib.hid T
  clear hcc hy h
  have hwm : IntKind.i64.wrap (c + g) = c + g := by rw [IntKind.wrap_i64]; omega
  go_enter Try.func26, Try.ntmps26
  go_wp2_with fail
  refine T.out.mono ?_
  rintro e w1 ⟨rfl, h1, hg1⟩
  have hB1 : Bl w1 w1.drew := Bl.dr (Bl.rfl' w1)
  have h1d := h1.bl hB1
  have hg1d := gby_tr hg1 (gby_of_bl hB1 (some p))
  go_upto_region 1 with fail
  obtain ⟨w2, hw2⟩ : ∃ z, w1.drew = z := ⟨_, rfl⟩
  rw [hw2] at h1d hg1d
  refine wp_region_still_tail 17 (by kernel_rfl) (by kernel_rfl) ?_
  simp only [List.take_succ_cons, List.take_zero, List.drop_succ_cons, List.drop_zero]
  change wpStill _ _ w1.drew (fun a' => wpList _ _ _ _ a' w1.drew) _ _
  rw [hw2]
  clear hw2
  obtain ⟨c0, c1, c2, c3, c4⟩ := h1d.c
  have f4 := h1d.free 4
  have hs := Lib.hid (h1d.set4 (c + g))
  have hg := Lib.hid (gby_tr hg1d (gby_set w2 p 4 (I (c + g))))
  have hmx : IntKind.i64.wrap (9223372036854775807 - c) = 9223372036854775807 - c := by rw [IntKind.wrap_i64]; omega
  have hm1 : (if 9223372036854775807 - c < g then 9223372036854775807 - c else g) = g := if_neg (by omega)
  have hm2 : (if g < 9223372036854775807 - c then g else 9223372036854775807 - c) = g := if_pos (by omega)
  clear h1 hg1 h1d hg1d hB1
  repeat still_step
  try refine wpStill_nil ?_
  go_wp2_with fail
  go_end0
  exact ⟨rfl, hs.out, hg.out⟩

/-- What a client has behind a call that it may admit. -/
def less (c : Int) : Int := if 0 < c then c - 1 else c
theorem use_any (w : World) (p : Nat) (L W S k n t : Int) (h : LB 66 w p L W S k n) (hb : okR L W S) (t0 : 0 ≤ t) (t1 : t ≤ 1000000) (n0 : 0 ≤ n) (n1 : n ≤ 1000000) :
    Calls Try.prog 23 #[ptr p, .int .i64 t] w fun e w' => e = .returned (.bool (decide (0 < cur W k n t))) ∧ LB 66 w' p L W S (t / W) (less (cur W k n t)) ∧ w.grownBy w' (some p) := by
  have T := turn_any _ w p L W S k n t h hb t0 t1
  have hc := cur_bd (W := W) (k := k) (t := t) n0 n1
  obtain ⟨c, hcc⟩ : ∃ c, cur W k n t = c := ⟨_, rfl⟩
  obtain ⟨y, hy⟩ : ∃ y, t / W = y := ⟨_, rfl⟩
  rw [hcc] at T hc ⊢
  rw [hy] at T ⊢
  replace T := Lib.hid T
  clear hcc hy h
  by_cases hc0 : 0 < c
  · rw [decide_eq_true hc0, show less c = c - 1 from if_pos hc0]
    have hbe : (c == 0) = false := beq_eq_false_iff_ne.2 (by omega)
    go_enter Try.func23, Try.ntmps23
    go_wp2_with fail
    refine T.out.mono ?_
    rintro e w1 ⟨rfl, h1, hg1⟩
    obtain ⟨c0, c1, c2, c3, c4⟩ := h1.c
    have f4 := h1.free 4
    have hs := Lib.hid (h1.set4 (c - 1))
    have hg := Lib.hid (gby_tr hg1 (gby_set w1 p 4 (I (c - 1))))
    clear h1 hg1
    go_wp2_with fail
    go_ret
    exact ⟨rfl, hs.out, hg.out⟩
  · rw [decide_eq_false hc0, show less c = c from if_neg hc0]
    obtain rfl : c = 0 := by omega
    go_enter Try.func23, Try.ntmps23
    go_wp2_with fail
    refine T.out.mono ?_
    rintro e w1 ⟨rfl, h1, hg1⟩
    obtain ⟨c0, c1, c2, c3, c4⟩ := h1.c
    have hs := Lib.hid h1
    have hg := Lib.hid hg1
    clear h1 hg1
    go_wp2_with fail
    go_ret
    exact ⟨rfl, hs.out, hg.out⟩

def NewL (T : TypeId) (L W S : Int) (w : World) : Ending → World → Prop := fun e w' => ∃ p, e = .returned (ptr p) ∧ w.heap.size ≤ p ∧ LB T w' p L W S 0 0 ∧ Bl w w'
theorem limiter_any (L W S : Int) (w : World) : Calls Try.prog 17 #[rate L W S] w (NewL 65 L W S w) := by
  unfold NewL
  go_enter Try.func17, Try.ntmps17
  go_wp2_with fail
  go_ret
  have hn := heap_alloc_new (w.alloc (.cells #[I L, I W, I S] 23)) (.cells #[I L, I W, I S, I 0, I 0] 65)
  rw [show (w.alloc (.cells #[I L, I W, I S] 23)).heap.size = w.heap.size + 1 by simp] at hn
  exact ⟨_, rfl, Nat.le_succ _, hn, ((Bl.rfl' _).al _).al _⟩
theorem client_any (L W S : Int) (w : World) : Calls Try.prog 18 #[rate L W S] w (NewL 66 L W S w) := by
  unfold NewL
  go_enter Try.func18, Try.ntmps18
  go_wp2_with fail
  go_ret
  have hn := heap_alloc_new (w.alloc (.cells #[I L, I W, I S] 23)) (.cells #[I L, I W, I S, I 0, I 0] 66)
  rw [show (w.alloc (.cells #[I L, I W, I S] 23)).heap.size = w.heap.size + 1 by simp] at hn
  exact ⟨_, rfl, Nat.le_succ _, hn, ((Bl.rfl' _).al _).al _⟩

theorem error_any (L W S c : Int) (f : Bool) (w : World) (hb : okR L W S) (c0 : 0 ≤ c) (c1 : c ≤ 1000) :
    Calls Try.prog 15 #[rate L W S, .int .i64 c, .bool f] w fun e w' => e = .returned (.int .i64 (if f then L else c * (S - 1))) ∧ Bl w w' := by
  obtain ⟨l0, l1, w0, w1, s0, s1⟩ := hb
  cases f with
  | true =>
    go_enter Try.func15, Try.ntmps15
    go_wp2_with fail
    go_ret
    exact ⟨rfl, (Bl.rfl' _).al _⟩
  | false =>
    have hm : 0 ≤ c * (S - 1) ∧ c * (S - 1) ≤ 1000000 := by
      have h1 : c * (S - 1) ≤ 1000 * (S - 1) := Int.mul_le_mul_of_nonneg_right c1 (by omega)
      exact ⟨Int.mul_nonneg c0 (by omega), by omega⟩
    have hwm : IntKind.i64.wrap (c * (S - 1)) = c * (S - 1) := by rw [IntKind.wrap_i64]; generalize c * (S - 1) = x at hm; omega
    simp only [Bool.false_eq_true, if_false]
    obtain ⟨x, hx⟩ : ∃ x, c * (S - 1) = x := ⟨_, rfl⟩
    rw [hx] at hm hwm ⊢
    go_enter Try.func15, Try.ntmps15
    go_wp2_with fail
    go_ret
    exact ⟨rfl, (Bl.rfl' _).al _⟩
theorem exact_any (L W S a : Int) (w : World) :
    Calls Try.prog 14 #[rate L W S, .int .i64 a] w fun e w' => e = .returned (.int .i64 (min a L)) ∧ Bl w w' := by
  go_enter Try.func14, Try.ntmps14
  go_wp2_with fail
  all_goals
    go_ret
    exact ⟨ret_int (by omega), (Bl.rfl' _).al _⟩
end Go.Proofs.Ytifmoekgnbgnmaa.lease
