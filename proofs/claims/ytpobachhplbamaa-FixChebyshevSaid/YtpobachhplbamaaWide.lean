/-
  Layer 1's numbers of 128 bits, and what of package cmp they use: contracts.
-/
import Derived.Test.YtpobachhplbamaaFixB
import Derived.Test.YtpobachhplbamaaGen
import Derived.StillTailTactics
import Derived.Shelf.Spec.BitsCarry
import Derived.Deep.CutRange
namespace Go.Proofs.Ytpobachhplbamaa
open Go.ChangeShapes Go.WideShapes Go.ChangeAt Go.RowKit
set_option linter.unusedVariables false
set_option linter.unusedSimpArgs false

def cmpi (x y : Int) : Int := if x < y then -1 else if x = y then 0 else 1
theorem cmpi_lt {x y : Int} (h : x < y) : cmpi x y = -1 := by simp [cmpi, h]
theorem cmpi_eq {x y : Int} (h : x = y) : cmpi x y = 0 := by simp [cmpi, h]
theorem cmpi_gt {x y : Int} (h : y < x) : cmpi x y = 1 := by unfold cmpi; rw [if_neg (by omega), if_neg (by omega)]
theorem cmpi_congr {x y x' y' : Int} (h : x - y = x' - y') : cmpi x y = cmpi x' y' := by
  rcases Int.lt_trichotomy x y with h1 | h1 | h1
  · rw [cmpi_lt h1, cmpi_lt (show x' < y' by omega)]
  · rw [cmpi_eq h1, cmpi_eq (show x' = y' by omega)]
  · rw [cmpi_gt h1, cmpi_gt (show y' < x' by omega)]
theorem cmpi_range (x y : Int) : -1 ≤ cmpi x y ∧ cmpi x y ≤ 1 := by
  rcases Int.lt_trichotomy x y with h1 | h1 | h1
  · rw [cmpi_lt h1]; omega
  · rw [cmpi_eq h1]; omega
  · rw [cmpi_gt h1]; omega

abbrev T64 : Int := 18446744073709551616
/-- A number below 2^128 in its two halves. -/
def hl (h l : Int) : Value := .agg #[.int .u64 h, .int .u64 l]
def wv (n : Int) : Value := hl (n / 18446744073709551616) (n % 18446744073709551616)

theorem blk_bl' {w w' : World} {x : Nat} {o : Obj} (h : w.heap[x]? = some o) (hg : Bl w w') : w'.heap[x]? = some o := (hg.block _ (lt_of_block h)).trans h

theorem rd_new (w : World) {xs : Array Value} {t : TypeId} {v : Value} (i : Nat) (h : xs[i]? = some v) : (w.alloc (.cells xs t)).cell? ⟨w.heap.size, i, none⟩ = some v := by
  rw [cell_at (heap_alloc_new w _)]; exact h

theorem nan_any (x : Int) (w : World) : Calls Try.prog 47 #[.int .u64 x] w fun e w' => e = .returned (.bool false) ∧ w = w' := by
  have hx : (x != x) = false := by simp
  go_enter Try.func47, Try.ntmps47
  go_wp2_with fail
  go_ret
  exact ⟨by first | rfl | simp, rfl⟩

theorem compare_any (x y : Int) (w : World) : Calls Try.prog 44 #[.int .u64 x, .int .u64 y] w fun e w' => e = .returned (.int .i64 (cmpi x y)) ∧ w = w' := by
  rcases Int.lt_trichotomy x y with h | h | h
  · rw [cmpi_lt h]
    go_enter Try.func44, Try.ntmps44
    go_wp2_with fail
    refine (nan_any x _).mono ?_
    rintro e w' ⟨rfl, rfl⟩
    go_wp2_with fail
    refine (nan_any y _).mono ?_
    rintro e w' ⟨rfl, rfl⟩
    go_wp2_with fail
    go_ret
    exact ⟨rfl, rfl⟩
  · rw [cmpi_eq h]
    subst h
    go_enter Try.func44, Try.ntmps44
    go_wp2_with fail
    refine (nan_any x _).mono ?_
    rintro e w' ⟨rfl, rfl⟩
    go_wp2_with fail
    refine (nan_any x _).mono ?_
    rintro e w' ⟨rfl, rfl⟩
    go_wp2_with fail
    go_ret
    exact ⟨rfl, rfl⟩
  · rw [cmpi_gt h]
    go_enter Try.func44, Try.ntmps44
    go_wp2_with fail
    refine (nan_any x _).mono ?_
    rintro e w' ⟨rfl, rfl⟩
    go_wp2_with fail
    refine (nan_any y _).mono ?_
    rintro e w' ⟨rfl, rfl⟩
    go_wp2_with fail
    go_ret
    exact ⟨rfl, rfl⟩

theorem or_any (x y : Int) (b : Nat) (w : World) (c0 : w.cell? ⟨b, 0, none⟩ = some (I x)) (c1 : w.cell? ⟨b, 1, none⟩ = some (I y)) :
    Calls Try.prog 43 #[.slice (some ⟨b, 0, none⟩) 2 2] w fun e w' => e = .returned (I (if x = 0 then y else x)) ∧ w = w' := by
  obtain ⟨r, hr⟩ : ∃ r, (if x = 0 then y else x) = r := ⟨_, rfl⟩
  rw [hr]
  replace hr := Lib.hid hr
  go_enter Try.func43, Try.ntmps43
  go_wp2_with fail
  go_loop [8] (fun i => i = I 0 ∨ (i = I 1 ∧ x = 0) ∨ (i = I 2 ∧ x = 0 ∧ y = 0)) (fun i => 2 - (intOf i).toNat)
  case atStart => exact Or.inl rfl
  case round =>
    rcases hrel with rfl | ⟨rfl, h0⟩ | ⟨rfl, h0, h1⟩
    · by_cases hx : x = 0
      · have e1 : (x != 0) = false := by simp [hx]
        go_wp2_with fail
        go_round
        case rel => exact Or.inr (Or.inl ⟨by go_num, hx⟩)
        case measure => simp [intOf]
      · have e1 : (x != 0) = true := by simp [hx]
        go_wp2_with fail
        go_ret
        exact ⟨ret_int (by rw [← hr.out, if_neg hx]), rfl⟩
    · by_cases hy : y = 0
      · have e1 : (y != 0) = false := by simp [hy]
        go_wp2_with fail
        go_round
        case rel => exact Or.inr (Or.inr ⟨by go_num, h0, hy⟩)
        case measure => simp [intOf]
      · have e1 : (y != 0) = true := by simp [hy]
        go_wp2_with fail
        go_ret
        exact ⟨ret_int (by rw [← hr.out, if_pos h0]), rfl⟩
    · go_wp2_with fail
      go_ret
      exact ⟨ret_int (by rw [← hr.out, if_pos h0]; exact h1.symm), rfl⟩

theorem product_ex (a b : Int) (w : World) (a0 : 0 ≤ a) (a1 : a ≤ 18446744073709551615) (b0 : 0 ≤ b) (b1 : b ≤ 18446744073709551615) :
    Calls Try.prog 36 #[.int .u64 a, .int .u64 b] w fun e w' => e = .returned (wv (a * b)) ∧ w' = w.alloc (.cells #[.int .u64 (a * b / 18446744073709551616), .int .u64 (a * b % 18446744073709551616)] 47) := by
  obtain ⟨a, rfl⟩ := Int.eq_ofNat_of_zero_le a0
  obtain ⟨b, rfl⟩ := Int.eq_ofNat_of_zero_le b0
  have M := Try.bits_Mul64 a b (by omega) (by omega)
  have e : wv ((a : Int) * b) = hl ((a * b / 18446744073709551616 : Nat) : Int) ((a * b % 18446744073709551616 : Nat) : Int) := by
    unfold wv; rw [← Int.natCast_mul]; congr 1
  rw [e]
  have e' : (a : Int) * b / 18446744073709551616 = ((a * b / 18446744073709551616 : Nat) : Int) := by rw [← Int.natCast_mul]; exact (Int.natCast_ediv _ _).symm
  have e'' : (a : Int) * b % 18446744073709551616 = ((a * b % 18446744073709551616 : Nat) : Int) := by rw [← Int.natCast_mul]; exact (Int.natCast_emod _ _).symm
  rw [e', e'']
  obtain ⟨h1, e1⟩ : ∃ x, a * b / 18446744073709551616 = x := ⟨_, rfl⟩
  obtain ⟨l1, f1⟩ : ∃ x, a * b % 18446744073709551616 = x := ⟨_, rfl⟩
  rw [e1, f1] at M
  rw [e1, f1]
  replace M := Lib.hid M
  clear e e' e'' e1 f1
  go_enter Try.func36, Try.ntmps36
  go_wp2_with fail
  refine (M.out _).mono ?_
  rintro e w' ⟨rfl, rfl⟩
  go_wp2_with fail
  refine bodyPost_ret (v := hl h1 l1) (by simp [results, Try.results36, go_sem, hl]) rfl ?_
  exact ⟨rfl, rfl⟩

theorem product_any (a b : Int) (w : World) (a0 : 0 ≤ a) (a1 : a ≤ 18446744073709551615) (b0 : 0 ≤ b) (b1 : b ≤ 18446744073709551615) :
    Calls Try.prog 36 #[.int .u64 a, .int .u64 b] w fun e w' => e = .returned (wv (a * b)) ∧ Bl w w' :=
  (product_ex a b w a0 a1 b0 b1).mono fun e w' h => ⟨h.1, h.2 ▸ (Bl.rfl' _).al _⟩

set_option maxHeartbeats 1000000 in
theorem hcmp_any (a b c d : Int) (w : World) :
    Calls Try.prog 38 #[hl a b, hl c d] w fun e w' => e = .returned (I (if cmpi a c = 0 then cmpi b d else cmpi a c)) ∧ Bl w w' := by
  have C1 := fun w => compare_any a c w
  have C2 := fun w => compare_any b d w
  obtain ⟨x, hx⟩ : ∃ x, cmpi a c = x := ⟨_, rfl⟩
  obtain ⟨y, hy⟩ : ∃ x, cmpi b d = x := ⟨_, rfl⟩
  rw [hx] at C1 ⊢; rw [hy] at C2 ⊢
  have O := fun b w => or_any x y b w
  obtain ⟨r, hr⟩ : ∃ r, (if x = 0 then y else x) = r := ⟨_, rfl⟩
  rw [hr]
  rw [hr] at O
  replace O := Lib.hid O
  replace C1 := Lib.hid C1
  replace C2 := Lib.hid C2
  clear hx hy
  unfold hl
  go_enter Try.func38, Try.ntmps38
  go_upto_region 1 with fail
  refine wp_region_still_tail 10 (by kernel_rfl) (by kernel_rfl) ?_
  simp only [List.take_succ_cons, List.take_zero, List.drop_succ_cons, List.drop_zero]
  obtain ⟨w2, hw2⟩ : ∃ w2, ((w.alloc (.cells #[.int .u64 a, .int .u64 b] 47)).alloc (.cells #[.int .u64 c, .int .u64 d] 47)).drew = w2 := ⟨_, rfl⟩
  have hB : Bl w w2 := by rw [← hw2]; exact (((Bl.rfl' w).al _).al _).dr
  have b0 : w2.heap[w.heap.size]? = some (.cells #[.int .u64 a, .int .u64 b] 47 (0, 0)) := by
    rw [← hw2]
    exact (Below.block (((Bl.rfl' (w.alloc _)).al _).dr) _ (by simp)).trans (heap_alloc_new w _)
  have b1 : w2.heap[w.heap.size + 1]? = some (.cells #[.int .u64 c, .int .u64 d] 47 (0, 0)) := by
    rw [← hw2]
    have h := heap_alloc_new (w.alloc (.cells #[.int .u64 a, .int .u64 b] 47)) (.cells #[.int .u64 c, .int .u64 d] 47)
    rw [show (w.alloc (.cells #[.int .u64 a, .int .u64 b] 47)).heap.size = w.heap.size + 1 by simp] at h
    exact h
  have c0 := cell_at b0 0
  have c1 := cell_at b0 1
  have c2 := cell_at b1 0
  have c3 := cell_at b1 1
  simp only [List.getElem?_toArray, List.getElem?_cons_zero, List.getElem?_cons_succ] at c0 c1 c2 c3
  change wpStill _ _ ((w.alloc (.cells #[.int .u64 a, .int .u64 b] 47)).alloc (.cells #[.int .u64 c, .int .u64 d] 47)).drew (fun a' => wpList _ _ _ _ a' ((w.alloc (.cells #[.int .u64 a, .int .u64 b] 47)).alloc (.cells #[.int .u64 c, .int .u64 d] 47)).drew) _ _
  rw [hw2]
  clear hw2 b0 b1
  still_step
  still_step
  still_step
  still_step
  still_call (q_of (C1.out _))
  still_step
  still_step
  still_step
  still_step
  still_call (q_of (C2.out _))
  refine wpStill_nil ?_
  go_wp2_with fail
  refine (O.out _ _ ?_ ?_).mono ?_
  · exact rd_new w2 0 rfl
  · exact rd_new w2 1 rfl
  rintro e w' ⟨rfl, rfl⟩
  go_wp2_with fail
  go_ret
  exact ⟨rfl, hB.al _⟩

theorem half_cmp (m n : Int) : (if cmpi (m / 18446744073709551616) (n / 18446744073709551616) = 0 then cmpi (m % 18446744073709551616) (n % 18446744073709551616) else cmpi (m / 18446744073709551616) (n / 18446744073709551616)) = cmpi m n := by
  rcases Int.lt_trichotomy (m / 18446744073709551616) (n / 18446744073709551616) with h | h | h
  · rw [cmpi_lt h, if_neg (by omega)]
    exact (cmpi_lt (by omega)).symm
  · rw [cmpi_eq h, if_pos rfl]
    exact cmpi_congr (by omega)
  · rw [cmpi_gt h, if_neg (by omega)]
    exact (cmpi_gt (by omega)).symm

theorem wcmp_any (m n : Int) (w : World) :
    Calls Try.prog 38 #[wv m, wv n] w fun e w' => e = .returned (I (cmpi m n)) ∧ Bl w w' := by
  have h := hcmp_any (m / 18446744073709551616) (m % 18446744073709551616) (n / 18446744073709551616) (n % 18446744073709551616) w
  rw [half_cmp] at h
  exact h

theorem minus_any (m n : Int) (w : World) (h0 : 0 ≤ n) (h1 : n ≤ m) (h2 : m < 340282366920938463463374607431768211456) :
    Calls Try.prog 40 #[wv m, wv n] w fun e w' => e = .returned (wv (m - n)) ∧ Bl w w' := by
  obtain ⟨x, hx⟩ : ∃ x, (m % 18446744073709551616).toNat = x := ⟨_, rfl⟩
  obtain ⟨y, hy⟩ : ∃ x, (n % 18446744073709551616).toNat = x := ⟨_, rfl⟩
  obtain ⟨p, hp⟩ : ∃ x, m / 18446744073709551616 = x := ⟨_, rfl⟩
  obtain ⟨q, hq⟩ : ∃ x, n / 18446744073709551616 = x := ⟨_, rfl⟩
  have hx' : m % 18446744073709551616 = x := by omega
  have hy' : n % 18446744073709551616 = y := by omega
  have S : ∀ w, (callFunc 45 #[.int .u64 (x : Int), .int .u64 (y : Int), .int .u64 0]).run Try.prog w = .ok (.value (.tuple #[.int .u64 (((x + 18446744073709551616 - y - 0) % 18446744073709551616 : Nat) : Int), .int .u64 ((if x < y + 0 then 1 else 0 : Nat) : Int)])) w := by
    intro w
    rw [run_callFunc_extern Try.func45 (by kernel_rfl) (by kernel_rfl) (by kernel_rfl) (e := sub64Entry) (by kernel_rfl)]
    have := run_sub64 (P := Try.prog) x y 0 (by omega) w
    rw [show (Value.int .u64 ((0 : Nat) : Int)) = .int .u64 0 from rfl] at this
    rw [this]
    rfl
  obtain ⟨d, hd⟩ : ∃ x' : Int, (((x + 18446744073709551616 - y - 0) % 18446744073709551616 : Nat) : Int) = x' := ⟨_, rfl⟩
  obtain ⟨b, hb⟩ : ∃ x' : Int, ((if x < y + 0 then 1 else 0 : Nat) : Int) = x' := ⟨_, rfl⟩
  simp only [hd, hb] at S
  have hb' : b = if x < y then 1 else 0 := by rw [← hb]; by_cases h : x < y <;> simp [h]
  have e1 : IntKind.u64.wrap (p - q) = p - q := by rw [IntKind.wrap_u64]; omega
  have e2 : IntKind.u64.wrap (p - q - b) = p - q - b := by
    rw [IntKind.wrap_u64, hb']
    split <;> omega
  have e3 : wv (m - n) = hl (p - q - b) d := by
    unfold wv
    congr 1
    · rw [hb']; split <;> omega
    · omega
  rw [e3]
  unfold wv
  rw [hx', hy', hp, hq]
  clear e3 hx hy hp hq hx' hy' hd hb hb'
  unfold hl
  go_enter Try.func40, Try.ntmps40
  go_wp2_with fail
  refine bodyPost_ret (v := hl (p - q - b) d) (by simp [results, Try.results40, go_sem, hl]) rfl ?_
  exact ⟨rfl, (((Bl.rfl' _).al _).al _).al _⟩

theorem wv_times {m n : Int} : wv (m * n) = hl (m % 18446744073709551616 * n / 18446744073709551616 + m / 18446744073709551616 * n) (m % 18446744073709551616 * n % 18446744073709551616) := by
  have e : m * n = m % 18446744073709551616 * n + m / 18446744073709551616 * n * 18446744073709551616 := by
    have := Int.mul_ediv_add_emod m 18446744073709551616
    conv => lhs; rw [← this]
    rw [Int.add_mul, Int.mul_comm 18446744073709551616 (m / 18446744073709551616), Int.mul_assoc, Int.mul_comm 18446744073709551616 n, ← Int.mul_assoc, Int.add_comm]
  unfold wv
  rw [e]
  generalize m % 18446744073709551616 * n = A
  generalize m / 18446744073709551616 * n = B
  congr 1 <;> omega

theorem times_any (m n : Int) (w : World) (m0 : 0 ≤ m) (n0 : 0 ≤ n) (n1 : n ≤ 18446744073709551615) (h2 : m * n < 340282366920938463463374607431768211456) :
    Calls Try.prog 41 #[wv m, .int .u64 n] w fun e w' => e = .returned (wv (m * n)) ∧ Bl w w' := by
  have k0 : 0 ≤ m % 18446744073709551616 * n := Int.mul_nonneg (by omega) n0
  have k1 : 0 ≤ m / 18446744073709551616 * n := Int.mul_nonneg (by omega) n0
  have hh := wv_times (m := m) (n := n)
  have e : m * n = m % 18446744073709551616 * n + m / 18446744073709551616 * n * 18446744073709551616 := by
    have := Int.mul_ediv_add_emod m 18446744073709551616
    conv => lhs; rw [← this]
    rw [Int.add_mul, Int.mul_comm 18446744073709551616 (m / 18446744073709551616), Int.mul_assoc, Int.mul_comm 18446744073709551616 n, ← Int.mul_assoc, Int.add_comm]
  have P := fun w => product_ex (m % 18446744073709551616) n w (by omega) (by omega) n0 n1
  rw [hh]
  unfold wv
  obtain ⟨l, hl'⟩ : ∃ x, m % 18446744073709551616 = x := ⟨_, rfl⟩
  obtain ⟨h, hh'⟩ : ∃ x, m / 18446744073709551616 = x := ⟨_, rfl⟩
  rw [hl', hh'] at e
  rw [hl'] at k0 P
  rw [hh'] at k1
  rw [hl', hh']
  have B : h * n ≤ 18446744073709551615 := by omega
  have w1 : IntKind.u64.wrap (h * n) = h * n := by rw [IntKind.wrap_u64]; omega
  have w2 : IntKind.u64.wrap (l * n / 18446744073709551616 + h * n) = l * n / 18446744073709551616 + h * n := by rw [IntKind.wrap_u64]; omega
  unfold wv at P
  clear hh hl' hh' e h2 m0
  obtain ⟨x, hx⟩ : ∃ x, l * n / 18446744073709551616 = x := ⟨_, rfl⟩
  obtain ⟨y, hy⟩ : ∃ x, l * n % 18446744073709551616 = x := ⟨_, rfl⟩
  obtain ⟨z, hz⟩ : ∃ x, h * n = x := ⟨_, rfl⟩
  rw [hx, hz] at w2
  rw [hx, hy] at P ⊢
  rw [hz]
  rw [hz] at w1 B k1
  replace w1 : IntKind.u64.wrap (h * n) = z := by rw [hz, w1]
  unfold hl at P ⊢
  replace P := Lib.hid P
  clear hx hy k0 hz
  go_enter Try.func41, Try.ntmps41
  go_wp2_with fail
  refine (P.out _).mono ?_
  rintro e w' ⟨rfl, rfl⟩
  go_wp2_with fail
  refine bodyPost_ret (v := hl (x + z) y) (by simp [results, Try.results41, go_sem, hl]) rfl ?_
  exact ⟨rfl, ((((Bl.rfl' _).al _).al _).al _).al _⟩
end Go.Proofs.Ytpobachhplbamaa
