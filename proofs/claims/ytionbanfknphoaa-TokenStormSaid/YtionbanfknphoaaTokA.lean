/-
  Package token: a bucket by its block; New, Left, Fresh, Take, Most, Check, each by its contract.
-/
import Derived.Test.YtionbanfknphoaaGen
import Derived.Test.YtionbanfknphoaaKit2
import Derived.Test.YtionbanfknphoaaAround
import Derived.Test.YtionbanfknphoaaDown
import Derived.Deep.RegionHeld3
import Derived.StillTailTactics
namespace Go.Proofs.Ytionbanfknphoaa.token
open Go.ChangeShapes Go.WideShapes Go.ChangeAt Go.RowKit
set_option linter.unusedVariables false
set_option linter.unusedSimpArgs false

abbrev ptr (p : Nat) : Value := .pointer (some ⟨p, 0, none⟩)
abbrev bud (P O B : Int) : Value := .agg #[I P, I O, I B]
/-- A budget that is made, or checked: all from 0 (Of from 1) to 100. -/
def okB (P O B : Int) : Prop := 0 ≤ P ∧ P ≤ 100 ∧ 1 ≤ O ∧ O ≤ 100 ∧ 0 ≤ B ∧ B ≤ 100

def TB (w : World) (p : Nat) (P O B parts : Int) : Prop := w.heap[p]? = some (.cells #[I P, I O, I B, I parts] 43 (0, 0))
theorem TB.lt {w p P O B n} (h : TB w p P O B n) : p < w.heap.size := lt_of_block h
theorem TB.kept {w w' : World} {p P O B n} (h : TB w p P O B n) (hb : w'.heap[p]? = w.heap[p]?) : TB w' p P O B n := hb.trans h
theorem TB.bl {w w' : World} {p P O B n} (h : TB w p P O B n) (hb : Bl w w') : TB w' p P O B n := h.kept (hb.block p h.lt)
theorem TB.c {w p P O B n} (h : TB w p P O B n) : w.cell? ⟨p, 0, none⟩ = some (I P) ∧ w.cell? ⟨p, 1, none⟩ = some (I O) ∧ w.cell? ⟨p, 2, none⟩ = some (I B) ∧ w.cell? ⟨p, 3, none⟩ = some (I n) := by
  unfold TB at h
  refine ⟨?_, ?_, ?_, ?_⟩ <;> simp [World.cell?, h]
theorem TB.free {w p P O B n} (h : TB w p P O B n) (i : Nat) : w.frozen? ⟨p, i, none⟩ = false := free_at h i
theorem TB.set {w p P O B n} (h : TB w p P O B n) (x : Int) : TB (w.setCell ⟨p, 3, none⟩ (I x)) p P O B x := set_at 3 (I x) h

theorem mul_bd {B O : Int} (b0 : 0 ≤ B) (b1 : B ≤ 100) (o0 : 0 ≤ O) (o1 : O ≤ 100) : 0 ≤ B * O ∧ B * O ≤ 10000 := by
  have h1 : B * O ≤ 100 * O := Int.mul_le_mul_of_nonneg_right b1 o0
  exact ⟨Int.mul_nonneg b0 o0, by omega⟩

def NewB (P O B : Int) (w : World) : Ending → World → Prop := fun e w' => ∃ p, e = .returned (ptr p) ∧ w.heap.size ≤ p ∧ TB w' p P O B (B * O) ∧ Bl w w'
theorem new_any (P O B : Int) (w : World) (h : okB P O B) : Calls Try.prog 17 #[bud P O B] w (NewB P O B w) := by
  obtain ⟨p0, p1, o0, o1, b0, b1⟩ := h
  have hm := mul_bd b0 b1 (by omega) o1
  have hw : IntKind.i64.wrap (B * O) = B * O := by rw [IntKind.wrap_i64]; generalize B * O = x at hm; omega
  obtain ⟨x, hx⟩ : ∃ x, B * O = x := ⟨_, rfl⟩
  unfold NewB
  rw [hx] at hm hw ⊢
  go_enter Try.func17, Try.ntmps17
  go_wp2_with fail
  go_ret
  have hn := heap_alloc_new (w.alloc (.cells #[I P, I O, I B] 23)) (.cells #[I P, I O, I B, I x] 43)
  rw [show (w.alloc (.cells #[I P, I O, I B] 23)).heap.size = w.heap.size + 1 by simp] at hn
  exact ⟨_, rfl, Nat.le_succ _, hn, ((Bl.rfl' _).al _).al _⟩

theorem left_any (w : World) (p : Nat) (P O B n : Int) (h : TB w p P O B n) (hb : okB P O B) (n0 : 0 ≤ n) (n1 : n ≤ 10000) :
    Calls Try.prog 18 #[ptr p] w fun e w' => e = .returned (.int .i64 (n / O)) ∧ Bl w w' := by
  obtain ⟨p0, p1, o0, o1, b0, b1⟩ := hb
  obtain ⟨c0, c1, c2, c3⟩ := h.c
  have D := Lib.hid (fun w => down_any n O w (by omega) (by omega) (by omega) (by omega))
  clear h
  go_enter Try.func18, Try.ntmps18
  go_wp2_with fail
  go_quiet ((go_at_call 24; exact Calls.quiet_of_same (q_of (D.out _))))
  go_wp2_with fail
  go_ret
  exact ⟨rfl, Bl.drewN _ _⟩

theorem fresh1_any (w : World) (p q : Nat) (P O B n x : Int) (h : TB w p P O B n) (hq : w.cell? ⟨q, 0, none⟩ = some (ptr p)) (hb : okB P O B) :
    Calls Try.prog 26 #[.int .i64 x, ptr q] w fun e w' => e = .returned (.int .i64 (min x (B * O))) ∧ Bl w w' := by
  obtain ⟨p0, p1, o0, o1, b0, b1⟩ := hb
  obtain ⟨c0, c1, c2, c3⟩ := h.c
  have hm := mul_bd b0 b1 (by omega) o1
  have hw : IntKind.i64.wrap (B * O) = B * O := by rw [IntKind.wrap_i64]; generalize B * O = x at hm; omega
  clear h
  go_enter Try.func26, Try.ntmps26
  go_wp2_with fail
  go_region
  all_goals go_wp2_with fail
  all_goals
    go_ret
    refine ⟨ret_int ?_, Bl.dr (Bl.rfl' _)⟩
    rw [Int.min_def]
    split <;> omega

theorem changeF_any (w : World) (p q : Nat) (P O B n : Int) (h : TB w p P O B n) (hq : w.cell? ⟨q, 0, none⟩ = some (ptr p)) (hqp : q ≠ p) (hb : okB P O B) (n0 : 0 ≤ n) (n1 : n ≤ 10000) :
    Calls Try.prog 25 #[ptr p, .int .i64 P, .func (.func 26) #[] #[ptr q]] w fun e w' => e = .returned (.tuple #[]) ∧ TB w' p P O B (min (n + P) (B * O)) ∧ w.grownBy w' (some p) := by
  have F := Lib.hid (fresh1_any w p q P O B n (n + P) h hq hb)
  obtain ⟨p0, p1, o0, o1, b0, b1⟩ := hb
  obtain ⟨c0, c1, c2, c3⟩ := h.c
  obtain ⟨y, hy⟩ : ∃ y, min (n + P) (B * O) = y := ⟨_, rfl⟩
  rw [hy] at F ⊢
  clear hy
  replace h := Lib.hid h
  go_enter Try.func25, Try.ntmps25
  go_wp2_with fail
  refine F.out.mono ?_
  rintro e w1 ⟨rfl, hb1⟩
  have h1 := h.out.bl hb1
  have c3' := h1.c.2.2.2
  have f3 := h1.free 3
  have hs := h1.set y
  have hg := gby_tr (gby_of_bl hb1 (some p)) (gby_set w1 p 3 (I y))
  replace hs := Lib.hid hs; replace hg := Lib.hid hg
  clear hb1 h1
  go_wp2_with fail
  go_end0
  exact ⟨rfl, hs.out, hg.out⟩

theorem take1_any (x : Int) (w : World) : Calls Try.prog 28 #[.int .i64 x] w fun e w' => e = .returned (.int .i64 (max x 0)) ∧ w = w' := by
  go_enter Try.func28, Try.ntmps28
  go_wp2_with fail
  all_goals
    go_ret
    exact ⟨ret_int (by omega), rfl⟩

theorem some_any (w : World) (p : Nat) (P O B n : Int) (h : TB w p P O B n) (hb : okB P O B) (n0 : 0 ≤ n) (n1 : n ≤ 10000) :
    Calls Try.prog 27 #[.func (.func 18) #[ptr p] #[]] w fun e w' => e = .returned (.bool (decide (0 < n / O))) ∧ Bl w w' := by
  have L := Lib.hid (left_any w p P O B n h hb n0 n1)
  obtain ⟨x, hx⟩ : ∃ x, n / O = x := ⟨_, rfl⟩
  rw [hx] at L ⊢
  clear h hx
  go_enter Try.func27, Try.ntmps27
  go_wp2_with fail
  refine L.out.mono ?_
  rintro e w1 ⟨rfl, hb1⟩
  go_wp2_with fail
  go_ret
  exact ⟨rfl, hb1⟩

theorem fresh_any (w : World) (p : Nat) (P O B n : Int) (h : TB w p P O B n) (hb : okB P O B) (n0 : 0 ≤ n) (n1 : n ≤ 10000) :
    Calls Try.prog 19 #[ptr p] w fun e w' => e = .returned (.tuple #[]) ∧ TB w' p P O B (min (n + P) (B * O)) ∧ w.grownBy w' (some p) := by
  have hlt := h.lt
  have h1 : TB (w.alloc (.cells #[ptr p] 33)) p P O B n := h.bl ((Bl.rfl' _).al _)
  obtain ⟨c0, c1, c2, c3⟩ := h1.c
  have F := Lib.hid (fun w' (hb2 : Bl (w.alloc (.cells #[ptr p] 33)) w') => changeF_any w' p w.heap.size P O B n (h1.bl hb2) ((hb2.cell (p := ⟨w.heap.size, 0, none⟩) (by simp)).trans (by simp)) (by omega) hb n0 n1)
  obtain ⟨y, hy⟩ : ∃ y, min (n + P) (B * O) = y := ⟨_, rfl⟩
  rw [hy] at F ⊢
  clear hy
  have K := Lib.hid (fun w' (hb2 : Bl (w.alloc (.cells #[ptr p] 33)) w') => (⟨hb2, ((hb2.cell (p := ⟨w.heap.size, 0, none⟩) (by simp)).trans (by simp)), (h1.bl hb2).c.1⟩ : Bl (w.alloc (.cells #[ptr p] 33)) w' ∧ w'.cell? ⟨w.heap.size, 0, none⟩ = some (ptr p) ∧ w'.cell? ⟨p, 0, none⟩ = some (I P)))
  have hg0 := World.grownBy_alloc w (.cells #[ptr p] 33) (some p)
  replace hg0 := Lib.hid hg0
  clear h h1 c1 c2 c3
  go_enter Try.func19, Try.ntmps19
  go_wp2_with fail
  obtain ⟨w2, hw2⟩ : ∃ w2, (w.alloc (.cells #[ptr p] 33)).drew = w2 := ⟨_, rfl⟩
  have hB : Bl (w.alloc (.cells #[ptr p] 33)) w2 := by rw [← hw2]; exact Bl.dr (Bl.rfl' _)
  obtain ⟨_, d1, d2⟩ := K.out w2 hB
  refine wp_region_still_tail 7 (by kernel_rfl) (by kernel_rfl) ?_
  simp only [List.take_succ_cons, List.take_zero, List.drop_succ_cons, List.drop_zero]
  change wpStill _ _ (w.alloc (.cells #[ptr p] 33)).drew (fun a' => wpList _ _ _ _ a' (w.alloc (.cells #[ptr p] 33)).drew) _ _
  rw [hw2]
  clear hw2 c0
  repeat still_step
  try refine wpStill_nil ?_
  go_wp2_with fail
  refine (F.out _ hB).mono ?_
  rintro e w5 ⟨rfl, ht5, hg5⟩
  replace hg5 := Lib.hid (gby_tr (gby_tr hg0.out (gby_of_bl hB _)) hg5)
  replace ht5 := Lib.hid ht5
  go_wp2_with fail
  go_end0
  exact ⟨rfl, ht5.out, hg5.out⟩

theorem changeT_any (w : World) (p : Nat) (P O B n : Int) (h : TB w p P O B n) (hb : okB P O B) (n0 : 0 ≤ n) (n1 : n ≤ 10000) (hO : O ≤ n) :
    Calls Try.prog 25 #[ptr p, .int .i64 (-O), .func (.func 28) #[] #[]] w fun e w' => e = .returned (.tuple #[]) ∧ TB w' p P O B (n - O) ∧ w.grownBy w' (some p) := by
  obtain ⟨p0, p1, o0, o1, b0, b1⟩ := hb
  have F := fun w => take1_any (n + -O) w
  rw [show max (n + -O) 0 = n - O by omega] at F
  replace F := Lib.hid F
  obtain ⟨c0, c1, c2, c3⟩ := h.c
  have f3 := h.free 3
  obtain ⟨y, hy⟩ : ∃ y, n - O = y := ⟨_, rfl⟩
  rw [hy] at F ⊢
  have hs := Lib.hid (h.set y)
  have hg := Lib.hid (gby_set w p 3 (I y))
  clear h hy
  go_enter Try.func25, Try.ntmps25
  go_wp2_with fail
  refine (F.out _).mono ?_
  rintro e w1 ⟨rfl, rfl⟩
  go_wp2_with fail
  go_end0
  exact ⟨rfl, hs.out, hg.out⟩

theorem div_pos_iff {n O : Int} (o0 : 1 ≤ O) : 0 < n / O ↔ O ≤ n := by
  have := Int.le_ediv_iff_mul_le (a := 1) (b := n) (show 0 < O by omega)
  rw [Int.one_mul] at this
  omega

def tk (O n : Int) : Int := if O ≤ n then n - O else n
theorem take_any (w : World) (p : Nat) (P O B n : Int) (h : TB w p P O B n) (hb : okB P O B) (n0 : 0 ≤ n) (n1 : n ≤ 10000) :
    Calls Try.prog 22 #[ptr p] w fun e w' => e = .returned (.bool (decide (O ≤ n))) ∧ TB w' p P O B (tk O n) ∧ w.grownBy w' (some p) := by
  have S := some_any w p P O B n h hb n0 n1
  rw [show decide (0 < n / O) = decide (O ≤ n) from decide_eq_decide.2 (div_pos_iff hb.2.2.1)] at S
  replace S := Lib.hid S
  replace h := Lib.hid h
  have ho1 : 1 ≤ O := hb.2.2.1
  have ho2 : O ≤ 100 := hb.2.2.2.1
  by_cases hO : O ≤ n
  · have e1 : decide (O ≤ n) = true := decide_eq_true hO
    rw [e1] at S ⊢
    rw [show tk O n = n - O from if_pos hO]
    clear e1
    go_enter Try.func22, Try.ntmps22
    go_wp2_with fail
    refine S.out.mono ?_
    rintro e w1 ⟨rfl, hb1⟩
    have h1 := h.out.bl hb1
    obtain ⟨c0, c1, c2, c3⟩ := h1.c
    have C := Lib.hid (changeT_any w1 p P O B n h1 hb n0 n1 hO)
    clear h1
    go_wp2_with fail
    refine C.out.mono ?_
    rintro e w2 ⟨rfl, ht2, hg2⟩
    replace hg2 := Lib.hid (gby_tr (gby_of_bl hb1 _) hg2)
    replace ht2 := Lib.hid ht2
    go_wp2_with fail
    go_ret
    exact ⟨rfl, ht2.out, hg2.out⟩
  · have e1 : decide (O ≤ n) = false := decide_eq_false hO
    rw [e1] at S ⊢
    rw [show tk O n = n from if_neg hO]
    clear e1
    go_enter Try.func22, Try.ntmps22
    go_wp2_with fail
    refine S.out.mono ?_
    rintro e w1 ⟨rfl, hb1⟩
    go_wp2_with fail
    go_ret
    exact ⟨rfl, h.out.bl hb1, gby_of_bl hb1 _⟩

theorem most_any (P O B k : Int) (w : World) (hb : okB P O B) (k0 : 0 ≤ k) (k1 : k ≤ 2147483648) :
    Calls Try.prog 14 #[bud P O B, .int .i64 k] w fun e w' => e = .returned (.int .i64 (B + k * P / O)) ∧ Bl w w' := by
  obtain ⟨p0, p1, o0, o1, b0, b1⟩ := hb
  have hm : 0 ≤ k * P ∧ k * P ≤ 214748364800 := by
    have h1 : k * P ≤ k * 100 := Int.mul_le_mul_of_nonneg_left p1 k0
    exact ⟨Int.mul_nonneg k0 p0, by omega⟩
  have hw : IntKind.i64.wrap (k * P) = k * P := by rw [IntKind.wrap_i64]; omega
  have hd0 : 0 ≤ k * P / O := Int.ediv_nonneg hm.1 (by omega)
  have hd1 : k * P / O ≤ k * P := Int.ediv_le_self _ hm.1
  have D := Lib.hid (fun w => down_any (k * P) O w (by omega) (by omega) (by omega) (by omega))
  obtain ⟨x, hx⟩ : ∃ x, k * P = x := ⟨_, rfl⟩
  rw [hx] at hm hw hd0 hd1 D ⊢
  obtain ⟨y, hy⟩ : ∃ y, x / O = y := ⟨_, rfl⟩
  rw [hy] at D hd0 hd1 ⊢
  clear hy
  go_enter Try.func14, Try.ntmps14
  go_wp2_with fail
  go_quiet ((go_at_call 24; exact Calls.quiet_of_same (q_of (D.out _))))
  go_wp2_with fail
  go_ret
  exact ⟨rfl, ((Bl.rfl' _).al _).drn _⟩
end Go.Proofs.Ytionbanfknphoaa.token
